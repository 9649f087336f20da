import PyProof.Rows.All
import Wide.All
import OpenK.AllK
import Wide.FinOn
import PyProof.EqAt
import PyProof.EqKinds
import PyProof.TupleCall
import KE.BitLaws
import Open.SpecLaws
import KE.OsHead
import KE.OsGo
import PySem.Challenge.RW_mineshift_s01_answers
set_option Elab.async false
set_option linter.all false
set_option maxRecDepth 100000
set_option maxHeartbeats 4000000
set_option Elab.async false
set_option linter.all false
set_option maxRecDepth 100000
noncomputable section
def PySem.W.Fast.tw90343872475197607:Type:=PySem.Params
theorem PySem.W.Fast.te90343872475197607:PySem.Params=PySem.W.Fast.tw90343872475197607:=rfl
def PySem.W.Fast.tw13955064107076116093:Type:=PySem.Stmt
theorem PySem.W.Fast.te13955064107076116093:PySem.Stmt=PySem.W.Fast.tw13955064107076116093:=rfl
namespace L2
open PySem PySem.Spec PyProof.Rows
abbrev Key:=Sum Int Str
noncomputable def z5:Key->Value->Bool
 | .inl k,v=>Value.isInt k v
 | .inr x,v=>Value.isStrOf x v
noncomputable def BD (w:World):Key->Int
 | .inl k=>hashInt k
 | .inr x=>hashStr w x
theorem ff:∀ {k:Key} {v:Value},z5 k v=true->(∃ i t,k=Sum.inl i/\v=Value.int i t)\/(∃ x t,k=Sum.inr x/\v=Value.str x t)
 | .inl i,v,h=>by
   obtain ⟨t,e⟩:=Value.isInt_shape (k:=i) (v:=v) h
   exact .inl ⟨i,t,rfl,e⟩
 | .inr x,v,h=>by
   obtain ⟨t,e⟩:=Value.isStrOf_shape (x:=x) (v:=v) h
   exact .inr ⟨x,t,rfl,e⟩
theorem zW (a b:Int):decide ((Sum.inl a:Key)=Sum.inl b)=(a==b):=by
 by_cases e:a=b
 ·subst e;simp
 ·have h:¬(Sum.inl a:Key)=Sum.inl b:=fun q=>e (Sum.inl.inj q)
  rw [decide_eq_false h]
  exact (beq_eq_false_iff_ne.mpr e).symm
theorem zT (a b:Str):decide ((Sum.inr a:Key)=Sum.inr b)=decide (a=b):=by
 by_cases e:a=b
 ·subst e;simp
 ·have h:¬(Sum.inr a:Key)=Sum.inr b:=fun q=>e (Sum.inr.inj q)
  rw [decide_eq_false h,decide_eq_false e]
theorem zV (a:Int) (b:Str):decide ((Sum.inl a:Key)=Sum.inr b)=false:=decide_eq_false (fun q=>nomatch q)
theorem zU (a:Str) (b:Int):decide ((Sum.inr a:Key)=Sum.inl b)=false:=decide_eq_false (fun q=>nomatch q)
noncomputable def uS (prog:Program) (w:World):PySem.KeyKind prog w Key where
 is:=z5
 hash:=BD w
 inj:=fun v a b ha hb=>by
  rcases ff ha with ⟨i,t,rfl,rfl⟩ | ⟨x,t,rfl,rfl⟩
  ·rcases ff hb with ⟨j,u,rfl,e⟩ | ⟨y,u,rfl,e⟩
   ·injection e with e1 _;rw [e1]
   ·exact nomatch e
  ·rcases ff hb with ⟨j,u,rfl,e⟩ | ⟨y,u,rfl,e⟩
   ·exact nomatch e
   ·injection e with e1 _;rw [e1]
 byValue:=fun k v h=>by
  rcases ff h with ⟨i,t,rfl,rfl⟩ | ⟨x,t,rfl,rfl⟩<;>rfl
 pyHash:=fun hv h=>by
  rcases ff hv with ⟨i,t,rfl,rfl⟩ | ⟨x,t,rfl,rfl⟩
  ·exact wpAny_pyHash_int h
  ·exact wpAny_pyHash_str h
 eqBool:=fun hu hv h=>by
  rcases ff hu with ⟨i,t,rfl,rfl⟩ | ⟨x,t,rfl,rfl⟩
  ·rcases ff hv with ⟨j,u,rfl,rfl⟩ | ⟨y,u,rfl,rfl⟩
   ·rw [zW] at h;exact wpAny_eqBool_int h
   ·rw [zV] at h;exact SeqAt.EqAt.int_str i t y u _ _ _ _ h
  ·rcases ff hv with ⟨j,u,rfl,rfl⟩ | ⟨y,u,rfl,rfl⟩
   ·rw [zU] at h;exact SeqAt.EqAt.str_int x t j u _ _ _ _ h
   ·rw [zT] at h;exact wpAny_eqBool_str h
 «strs»:=fun k x t v h=>by
  rcases ff h with ⟨i,u,rfl,e⟩ | ⟨y,u,rfl,e⟩
  ·exact nomatch e
  ·injection e with e1 _
   subst e1
   cases v<;>rfl
end L2
namespace L2
open PySem PySem.Spec PyProof.Rows
inductive V where
 | non | bl (b:Bool) | int (i:Int) | str (x:Str) | byt (b:Array UInt8) | flt (b:UInt64) | ref (a:Addr) | ty (n:String)
 deriving DecidableEq
noncomputable def RelV:V->Value->Prop
 | .non,u=>u=Value.none
 | .bl b,u=>u=Value.bool b
 | .int i,u=>∃ t,u=Value.int i t
 | .str x,u=>∃ t,u=Value.str x t
 | .byt b,u=>∃ t,u=Value.bytes b t
 | .flt b,u=>∃ t,u=Value.float b t
 | .ref a,u=>u=Value.ref a
 | .ty n,u=>u=Value.type n
abbrev Vals:List V->List Value->Prop:=Paired RelV
theorem Vals.length {xs:List V} {us:List Value} (r:Vals xs us):xs.length=us.length:=Paired.length r
theorem Vals.get:∀ {xs:List V} {us:List Value} {i:Nat} {x:V},Vals xs us->xs[i]? = some x->∃ u,us[i]? = some u/\RelV x u
 | _,_,_,_,.nil,e=>by simp at e
 | _,_,0,_,.cons r _,e=>by simp at e;subst e;exact ⟨_,rfl,r⟩
 | _,_,i+1,x,.cons _ t,e=>by
   obtain ⟨u,h1,h2⟩:=Vals.get (i:=i) (x:=x) t (by simpa using e)
   exact ⟨u,by simpa using h1,h2⟩
theorem Vals.set {x:V} {u:Value} (r:RelV x u):∀ {xs:List V} {us:List Value} (i:Nat),Vals xs us->Vals (xs.set i x) (us.set i u)
 | _,_,_,.nil=>.nil
 | _,_,0,.cons _ t=>.cons r t
 | _,_,i+1,.cons q t=>.cons q (Vals.set r i t)
theorem Vals.append:∀ {xs ys:List V} {us ws:List Value},Vals xs us->Vals ys ws->Vals (xs++ys) (us++ws)
 | _,_,_,_,.nil,s=>s
 | _,_,_,_,.cons r t,s=>.cons r (Vals.append t s)
theorem Vals.take:∀ {xs:List V} {us:List Value} (n:Nat),Vals xs us->Vals (xs.take n) (us.take n)
 | _,_,0,_=>.nil
 | _,_,_+1,.nil=>.nil
 | _,_,n+1,.cons r t=>.cons r (Vals.take n t)
theorem Vals.drop:∀ {xs:List V} {us:List Value} (n:Nat),Vals xs us->Vals (xs.drop n) (us.drop n)
 | _,_,0,r=>r
 | _,_,_+1,.nil=>.nil
 | _,_,n+1,.cons _ t=>Vals.drop n t
noncomputable def lW:Option V->Option Value->Prop
 | some v,some u=>RelV v u
 | none,none=>True
 | _,_=>False
noncomputable def KV {κ:Type}:List (κ×V)->List (κ×Value)->Prop:=Paired fun (p:κ×V) (q:κ×Value)=>p.1=q.1/\RelV p.2 q.2
noncomputable def kV:Key->V
 | .inl i=>.int i
 | .inr x=>.str x
inductive HO where
 | lst (xs:List V)
 | tup (xs:List V)
 | dK (kvs:List (Key×V)) | dT (kvs:List (List Key×V))
 | set (S:Int->Bool) (n:Nat)
 | ins (C dx:Addr) (fs:List (Str×V))
 | own (x:Addr)
 | xd (fs:List (Str×V))
 | met (f x:Addr)
 | rng (lo hi:Int)
 | frz (o:Obj) (u:HO)
 | tbl (ps:Array Value)
 | ext (φ:Heap->Prop)
abbrev Hp:=Addr->Option HO
noncomputable def upd (H:Hp) (a:Addr) (o:HO):Hp:=fun b=>if b=a then some o else H b
theorem aj {H:Hp} {a:Addr} {o:HO}:upd H a o a=some o:=by unfold upd;rw [if_pos rfl]
theorem ax {H:Hp} {a b:Addr} {o:HO} (h:b≠a):upd H a o b=H b:=by unfold upd;rw [if_neg h]
theorem mj {H:Hp} {a b:Addr} {o u:HO} (h:H a=some o) (h':H b=some u) (d:o≠u):a≠b:=by
 intro e;subst e;rw [h] at h';exact d (Option.some.inj h')
theorem cC {H:Hp} {a b:Addr} {o:HO} (h:H a=some o) (h':H b=none):a≠b:=by
 intro e;subst e;rw [h] at h';cases h'
section
variable (P:Program) (w:World)
noncomputable def gK (H:Hp) (h:Heap) (a:Addr):HO->Prop
 | .lst xs=>xs.length<=sizeLine/\∃ (its:List Value) (n:Nat),Vals xs its/\h.get? a=some {cls:=.type "list",data:=.seq its.toArray n}
 | .tup xs=>xs.length<=sizeLine/\∃ its:List Value,Vals xs its/\IsTup h a its.toArray
 | .dK kvs=>kvs.length<=sizeLine/\(a==sysModules)=false/\∃ vs,KV kvs vs/\h.DictOf (uS P w) a vs
 | .dT kvs=>kvs.length<=sizeLine/\(a==sysModules)=false/\∃ xs:List (List Key×Addr×Value),
   Paired (fun (p:List Key×V) (q:List Key×Addr×Value)=>p.1=q.1/\H q.2.1=some (.tup (p.1.map kV))/\RelV p.2 q.2.2) kvs xs/\
   ∃ o es ep,h.get? a=some o/\o.ExactDict/\o.data=.dict es ep/\es.toList=xs.map (entryOfKey (tupleKind (uS P w)))/\(xs.map (·.1)).Nodup
 | .set S n=>h.SetOf (intKind P w) a S n
 | .ins C dx fs=>H dx=some (.own a)/\fs.length<=1000/\dx≠a/\h.get? a=some (PySem.W.instObj C dx)/\
   ∃ mA,h.Ns1 dx mA/\(∀ f,lW (fs.lookup f) (mA f))/\PySem.Within mA (fs.map (·.1))
 | .own _=>∃ o,h.get? a=some o
 | .xd fs=>∃ mA,h.Ns1 a mA/\∀ f,lW (fs.lookup f) (mA f)
 | .rng lo hi=>∃ t u v,h.get? a=some {cls:=.type "range",data:=.fields #[.int lo t,.int hi u,.int 1 v]}
 | .frz o u=>h.get? a=some o/\gK H h a u
 | .tbl ps=>h.get? a=some {cls:=.none,data:=.fields ps}
 | .met f x=>h.get? a=some (PySem.W.methodObj (.ref f) (.ref x))
 | .ext φ=>φ h/\(∃ o,h.get? a=some o)/\∀ h1 h2:Heap,φ h1->(∀ o,h1.get? a=some o->h2.get? a=some o)->φ h2
noncomputable def HOk (H:Hp) (h:Heap):Prop:=∀ a o,H a=some o->gK P w H h a o
end
section
variable {P:Program} {w:World} {H H':Hp} {h h':Heap} {a:Addr} {o:HO}
theorem gK.lt (x:gK P w H h a o):a < h.objs.size:=by
 cases o with
 | lst xs=>obtain ⟨_,_,_,_,e⟩:=x;exact Heap.lt_size e
 | tup xs=>obtain ⟨_,_,_,p⟩:=x;exact p.lt
 | dK kvs=>obtain ⟨_,_,_,_,o,_,_,e,_⟩:=x;exact Heap.lt_size e
 | dT kvs=>obtain ⟨_,_,_,_,o,_,_,e,_⟩:=x;exact Heap.lt_size e
 | set S n=>obtain ⟨o,_,_,_,e,_⟩:=x;exact Heap.lt_size e
 | ins C dx fs=>obtain ⟨_,_,_,e,_⟩:=x;exact Heap.lt_size e
 | own y=>obtain ⟨_,e⟩:=x;exact Heap.lt_size e
 | xd fs=>obtain ⟨_,⟨_,_,_,e,_⟩,_⟩:=x;exact Heap.lt_size e
 | rng lo hi=>obtain ⟨_,_,_,e⟩:=x;exact Heap.lt_size e
 | frz ob u=>obtain ⟨e,_⟩:=x;exact Heap.lt_size e
 | tbl ps=>exact Heap.lt_size (show h.get? a=some _ from x)
 | met f y=>exact Heap.lt_size (show h.get? a=some _ from x)
 | ext φ=>obtain ⟨_,⟨_,e⟩,_⟩:=x;exact Heap.lt_size e
theorem Paired.AN {α β:Type} {F G:α->β->Prop}:∀ {l₁:List α} {l₂:List β},Paired F l₁ l₂->(∀ a b,F a b->G a b)->Paired G l₁ l₂
 | _,_,.nil,_=>.nil
 | _,_,.cons r t,f=>.cons (f _ _ r) (Paired.AN t f)
theorem gK.js (x:gK P w H h a o) (k:∀ b u,(b=a\/H b=some (.own a))->h.get? b=some u->h'.get? b=some u)
  (ho:∀ b,H b=some (.own a)->H' b=some (.own a)) (ht:∀ b xs,H b=some (.tup xs)->H' b=some (.tup xs)):gK P w H' h' a o:=by
 induction o with
 | lst xs=>obtain ⟨z,its,n,r,e⟩:=x;exact ⟨z,its,n,r,k _ _ (.inl rfl) e⟩
 | tup xs=>obtain ⟨z,its,r,ob,e,c⟩:=x;exact ⟨z,its,r,ob,k _ _ (.inl rfl) e,c⟩
 | dK kvs=>obtain ⟨z,y,vs,r,ob,es,ep,e,c⟩:=x;exact ⟨z,y,vs,r,ob,es,ep,k _ _ (.inl rfl) e,c⟩
 | dT kvs=>
   obtain ⟨z,y,xs,r,ob,es,ep,e,c⟩:=x
   exact ⟨z,y,xs,Paired.AN r fun p q z=>⟨z.1,ht _ _ z.2.1,z.2.2⟩,ob,es,ep,k _ _ (.inl rfl) e,c⟩
 | set S n=>obtain ⟨ob,es,ep,t,e,c⟩:=x;exact ⟨ob,es,ep,t,k _ _ (.inl rfl) e,c⟩
 | ins C dx fs=>
   obtain ⟨d,z,ne,e,mA,⟨od,es,ep,e2,c⟩,r⟩:=x
   exact ⟨ho _ d,z,ne,k _ _ (.inl rfl) e,mA,⟨od,es,ep,k _ _ (.inr d) e2,c⟩,r⟩
 | own y=>obtain ⟨ob,e⟩:=x;exact ⟨ob,k _ _ (.inl rfl) e⟩
 | xd fs=>obtain ⟨mA,⟨od,es,ep,e,c⟩,r⟩:=x;exact ⟨mA,⟨od,es,ep,k _ _ (.inl rfl) e,c⟩,r⟩
 | rng lo hi=>obtain ⟨t,u,v,e⟩:=x;exact ⟨t,u,v,k _ _ (.inl rfl) e⟩
 | frz ob u ih=>obtain ⟨e,q⟩:=x;exact ⟨k _ _ (.inl rfl) e,ih q⟩
 | tbl ps=>
   have e:h.get? a=some {cls:=.none,data:=.fields ps}:=x
   show h'.get? a=some {cls:=.none,data:=.fields ps}
   exact k a _ (.inl rfl) e
 | met f y=>
   have e:h.get? a=some (PySem.W.methodObj (.ref f) (.ref y)):=x
   show h'.get? a=some (PySem.W.methodObj (.ref f) (.ref y))
   exact k a _ (.inl rfl) e
 | ext φ=>obtain ⟨p,⟨o,e⟩,st⟩:=x;exact ⟨st _ _ p fun o q=>k _ _ (.inl rfl) q,⟨o,k _ _ (.inl rfl) e⟩,st⟩
theorem HOk.lt (x:HOk P w H h) (e:H a=some o):a < h.objs.size:=(x a o e).lt
theorem HOk.fresh (x:HOk P w H h) (e:h.objs.size<=a):H a=none:=by
 cases q:H a with
 | none=>rfl
 | some u=>exact absurd (Nat.lt_of_lt_of_le (x.lt q) e) (Nat.lt_irrefl _)
theorem HOk.kept (x:HOk P w H h) (k:∀ b u,h.get? b=some u->h'.get? b=some u):HOk P w H h':=fun a o e=>
 (x a o e).js (fun b u _ q=>k b u q) (fun _ q=>q) fun _ _ q=>q
theorem HOk.laid (x:HOk P w H h) (k:∀ b u,h.get? b=some u->h'.get? b=some u) (hp:h.objs.size<=a) (new:gK P w (upd H a o) h' a o):HOk P w (upd H a o) h':=fun b u e=>by
 have hn:=x.fresh hp
 by_cases hb:b=a
 ·subst hb;rw [aj] at e;cases e;exact new
 ·rw [ax hb] at e
  exact (x b u e).js (fun c v _ q=>k c v q) (fun c q=>by rw [ax (cC q hn)];exact q) fun c xs q=>by rw [ax (cC q hn)];exact q
end
noncomputable def Rd (H:Hp) (a:Addr) (u:HO):Prop:=H a=some u\/∃ o,H a=some (.frz o u)
theorem Rd.ok {P:Program} {w:World} {H:Hp} {h:Heap} {a:Addr} {u:HO} (r:Rd H a u) (x:HOk P w H h):gK P w H h a u:=by
 rcases r with r | ⟨o,r⟩
 ·exact x a u r
 ·obtain ⟨_,q⟩:=x a _ r
  exact q
noncomputable def Mut:Option HO->Prop
 | some (.lst _)=>True
 | some (.dK _)=>True
 | some (.dT _)=>True
 | some (.set _ _)=>True
 | some (.ins _ _ _)=>True
 | some (.ext _)=>True
 | _=>False
section
variable {P:Program} {w:World} {H:Hp} {h h':Heap} {x e:Addr} {o':HO}
theorem HOk.write (ok:HOk P w H h) (mu:Mut (H x)) (he:e=x\/H e=some (.own x)) (k:∀ b u,b≠e->h.get? b=some u->h'.get? b=some u) (heo:∃ u,h'.get? e=some u)
  (new:gK P w (upd H x o') h' x o'):HOk P w (upd H x o') h':=fun b u q=>by
 have nown:∀ c y,H c=some (.own y)->c≠x:=fun c y r z=>by subst z;rw [r] at mu;exact mu
 have ntup:∀ c xs,H c=some (.tup xs)->c≠x:=fun c xs r z=>by subst z;rw [r] at mu;exact mu
 by_cases hb:b=x
 ·subst hb;rw [aj] at q;cases q;exact new
 ·rw [ax hb] at q
  by_cases hbe:b=e
  ·have q':H b=some (.own x):=by
    rcases he with z | z
    ·exact absurd (hbe.trans z) hb
    ·rw [hbe];exact z
   rw [q] at q';cases q'
   obtain ⟨v,hv⟩:=heo
   exact ⟨v,by rw [hbe];exact hv⟩
  ·refine (ok b u q).js (fun c v hc r=>k c v ?_ r) (fun c r=>by rw [ax (nown c b r)];exact r) fun c xs r=>by rw [ax (ntup c xs r)];exact r
   rcases hc with rfl | hc
   ·exact hbe
   ·rintro rfl
    rcases he with z | z
    ·exact nown c b hc z
    ·rw [hc] at z;cases z;exact hb rfl
end
structure Un (fs ex:List Addr) (H H':Hp) (h h':Heap):Prop where
 keep:∀ b o,h.get? b=some o->H b=none->b ∉ fs->b ∉ ex->h'.get? b=some o
 slot:∀ b o,h.get? b=some o->H b=none->b ∈ fs->b ∉ ex->∃ sl,h'.get? b=some {o with slots:=sl}
 free:∀ b o,h.get? b=some o->H b=none->b ∉ ex->H' b=none
 there:∀ b o,h.get? b=some o->b ∉ ex->∃ o',h'.get? b=some o'
 qj:∀ b xs,H b=some (.tup xs)->H' b=some (.tup xs)
 pd:∀ b o u,H b=some (.frz o u)->H' b=some (.frz o u)
 qp:∀ b ps,H b=some (.tbl ps)->∃ more,H' b=some (.tbl (ps++more))
section
variable {fs fs' ex ex':List Addr} {H H1 H2:Hp} {h h1 h2 h':Heap} {a x e:Addr} {o:HO}
theorem Un.any (u:Un fs ex H H1 h h1) {b:Addr} {ob:Obj} (q:h.get? b=some ob) (n:H b=none) (hx:b ∉ ex):∃ sl,h1.get? b=some {ob with slots:=sl}:=by
 by_cases hb:b ∈ fs
 ·exact u.slot b ob q n hb hx
 ·exact ⟨ob.slots,u.keep b ob q n hb hx⟩
theorem Un.kept (k:∀ b u,h.get? b=some u->h'.get? b=some u):Un fs ex H H h h':=
 ⟨fun b ob q _ _ _=>k b ob q,fun b ob q _ _ _=>⟨ob.slots,k b ob q⟩,fun _ _ _ n _=>n,fun b ob q _=>⟨ob,k b ob q⟩,fun _ _ q=>q,fun _ _ _ q=>q,fun _ ps q=>⟨#[],by rw [q];simp⟩⟩
theorem Un.refl:Un fs ex H H h h:=Un.kept fun _ _ q=>q
theorem Un.laid (k:∀ b u,h.get? b=some u->h'.get? b=some u) (hp:h.objs.size<=a) (hn:H a=none):Un fs ex H (upd H a o) h h' where
 keep:=fun b u q _ _ _=>k b u q
 slot:=fun b u q _ _ _=>⟨u.slots,k b u q⟩
 free:=fun b u q n _=>by rw [ax (Nat.ne_of_lt (Nat.lt_of_lt_of_le (Heap.lt_size q) hp))];exact n
 there:=fun b u q _=>⟨u,k b u q⟩
 qj:=fun b xs q=>by rw [ax (cC q hn)];exact q
 pd:=fun b u xs q=>by rw [ax (cC q hn)];exact q
 qp:=fun b ps q=>⟨#[],by rw [ax (cC q hn),q];simp⟩
theorem Un.write (mu:Mut (H x)) (he:e=x\/H e=some (.own x)) (k:∀ b u,b≠e->h.get? b=some u->h'.get? b=some u) (heo:∃ u,h'.get? e=some u):Un fs ex H (upd H x o) h h':=by
 have hx:∀ b,H b=none->b≠x:=fun b n z=>by subst z;rw [n] at mu;exact mu
 have hb:∀ b,H b=none->b≠e:=fun b n z=>by
  subst z
  rcases he with r | r
  ·exact hx b n r
  ·rw [n] at r;cases r
 have hm:∀ b u,H b=some u->¬Mut (some u)->b≠x:=fun b u q nm z=>by subst z;rw [q] at mu;exact nm mu
 refine ⟨fun b u q n _ _=>k b u (hb b n) q,fun b u q n _ _=>⟨u.slots,k b u (hb b n) q⟩,fun b u q n _=>by rw [ax (hx b n)];exact n,fun b u q _=>?_,
  fun b xs q=>by rw [ax (hm b _ q fun z=>z)];exact q,fun b u xs q=>by rw [ax (hm b _ q fun z=>z)];exact q,fun b ps q=>⟨#[],by rw [ax (hm b _ q fun z=>z),q];simp⟩⟩
 by_cases hbe:b=e
 ·subst hbe;exact heo
 ·exact ⟨u,k b u hbe q⟩
end
noncomputable def trk (h:Heap) (H:Hp):List Addr:=(List.range h.objs.size).filter fun a=>(H a).isSome
noncomputable def qU (h:Heap) (H:Hp):Heap:=PySem.W.hideAll h (trk h H)
theorem vW (h:Heap) (H:Hp):(qU h H).objs.size=h.objs.size:=PySem.W.hideAll_size _ _
theorem xw {h:Heap} {H:Hp} {b:Addr} {o:Obj} (e:h.get? b=some o) (n:H b=none):(qU h H).get? b=some o:=
 PySem.W.hideAll_get _ e fun hm=>by
  have q:(H b).isSome=true:=(List.mem_filter.mp hm).2
  rw [n] at q;simp at q
theorem yz {h:Heap} {H:Hp} {b:Addr} {o:Obj} (e:(qU h H).get? b=some o):h.get? b=some o/\H b=none:=by
 have e':h.get? b=some o:=PySem.W.of_hideAll (trk h H) e
 refine ⟨e',?_⟩
 cases q:H b with
 | none=>rfl
 | some x=>
   have hm:b ∈ trk h H:=List.mem_filter.mpr ⟨List.mem_range.mpr (Heap.lt_size e'),by simp [q]⟩
   have z:(qU h H).get? b=none:=PySem.W.hideAll_none (trk h H) hm
   rw [z] at e;cases e
end L2
namespace L2
open PySem PySem.Spec PyProof.Rows
structure Mod (K:PySem.W.Frag) (mg:Str->Option Value) (base:Heap):Prop where
 kin:K.In base
 glob:base.Ns mainGlobals mg
 blt:∃ mb,base.Ns builtinsNs mb/\∀ x:Str,x≠"__name__"->mb x=bootBuiltins x
 nolimit:base.NoLimit
structure Cx where
 prog:Program
 w:World
 K:PySem.W.Frag
 mg:Str->Option Value
 base:Heap
 A:Around
 N:List Str
 s_0:Shared
 H_0:Hp
 env:Env
 outer:List Env
 stack:List Env
 ex:List Addr
 fn:Str->Bool
 calm:Bool
 pn:List (Addr×Obj)
 xe:Value->Shared->Prop
noncomputable def frs (l:List Env):List Addr:=l.filterMap (·.frame)
abbrev Cx.fs (X:Cx):List Addr:=frs X.outer
noncomputable def Vis (sc:Scope) (x:Str):Prop:=sc.names.lookup x=some .local\/sc.names.lookup x=some .cell\/sc.names.lookup x=some .free
noncomputable def Loc (sc:Scope) (x:Str):Prop:=sc.names.lookup x=some .local\/sc.names.lookup x=some .cell
noncomputable def Look (env:Env) (h:Heap) (m:Str->Option Value) (x:Str) (u:Value):Prop:=
 (env.kindOf x=some .local/\m x=some u)\/((env.kindOf x=some .cell\/env.kindOf x=some .free)/\∃ c,env.cells.lookup x=some c/\h.IsCell c (some u))
structure Cx.Ok (X:Cx):Prop where
 mod:Mod X.K X.mg X.base
 kind:X.env.scope.kind=.function
 glob:X.env.globals=mainGlobals
 blt:X.env.builtins=builtinsNs
 above:X.s_0.heap.objs.size<=X.env.locals
 inj:∀ x y c,X.env.cells.lookup x=some c->X.env.cells.lookup y=some c->x=y
 has:∀ x,(X.env.kindOf x=some .cell\/X.env.kindOf x=some .free)->∃ c,X.env.cells.lookup x=some c
 cab:∀ x c,X.fn x=true->X.env.cells.lookup x=some c->X.s_0.heap.objs.size<=c
 hd:X.calm=true->X.A.handled=none
 frames:X.A.frames=some X.stack
 stk:X.stack=X.outer\/(X.stack=X.env::X.outer/\X.env.frame=some X.env.locals)
 exf:∀ b ∈ X.ex,b≠X.env.locals/\∀ x c,X.env.cells.lookup x=some c->c≠b
 bs:∀ b o,X.base.get? b=some o->X.s_0.heap.get? b=some o/\X.H_0 b=none
 bsz:X.base.objs.size<=X.s_0.heap.objs.size
 wZ:∀ b o,X.base.get? b=some o->b ∉ X.ex
 xF:∀ b ∈ X.ex,b ∉ X.fs
 nD:X.s_0.heap.FunFrames X.base X.outer
 frf:∀ b ∈ X.fs,X.H_0 b=none
structure Inv (X:Cx) (pins:List (Addr×Obj)) (σ:List (Option V)) (H:Hp) (s:Shared):Prop where
 ok:X.Ok
 os:s.os=X.s_0.os
 bare:AllBare s.gens
 base:Un X.fs X.ex X.H_0 H X.s_0.heap s.heap
 loc:∃ m,s.heap.Ns X.env.locals m/\∀ (i:Nat) (x:Str) (v:V),X.N[i]? = some x->σ[i]? = some (some v)->Vis X.env.scope x->∃ u,RelV v u/\Look X.env s.heap m x u
 cell:∀ x c,X.env.cells.lookup x=some c->∃ v,s.heap.IsCell c v
 free:H X.env.locals=none
 jm:∀ x c,X.env.cells.lookup x=some c->H c=none
 pin:∀ p ∈ X.pn++pins,s.heap.get? p.1=some p.2/\H p.1=none/\p.1≠X.env.locals/\p.1 ∉ X.fs/\∀ v,p.2.data≠.cell v
 hok:HOk X.prog X.w H s.heap
 len:σ.length=X.N.length
section
variable {X:Cx} {pins:List (Addr×Obj)} {σ:List (Option V)} {H H':Hp} {s:Shared} {h':Heap}
theorem Cx.Ok.Bv (ok:X.Ok) {b:Addr} {o:Obj} (e:X.base.get? b=some o):b ∉ X.fs:=fun hb=>by
 have:=(ok.nD.mem hb).1
 rw [e] at this;cases this
theorem Inv.bs (I:Inv X pins σ H s):∀ b o,X.base.get? b=some o->s.heap.get? b=some o/\H b=none:=fun b o e=>
 ⟨I.base.keep b o (I.ok.bs b o e).1 (I.ok.bs b o e).2 (I.ok.Bv e) (I.ok.wZ b o e),I.base.free b o (I.ok.bs b o e).1 (I.ok.bs b o e).2 (I.ok.wZ b o e)⟩
theorem Inv.bk (I:Inv X pins σ H s):∀ b o,X.base.get? b=some o->s.heap.get? b=some o:=fun b o e=>(I.bs b o e).1
theorem Inv.mod (I:Inv X pins σ H s):Mod X.K X.mg X.base:=I.ok.mod
theorem Inv.kIn (I:Inv X pins σ H s):X.K.In s.heap:=I.ok.mod.kin.keeps I.bk
theorem Inv.lt (I:Inv X pins σ H s):X.env.locals < s.heap.objs.size:=let ⟨_,hn,_⟩:=I.loc;hn.lt
theorem Inv.sz (I:Inv X pins σ H s):X.s_0.heap.objs.size<=s.heap.objs.size:=Nat.le_trans I.ok.above (Nat.le_of_lt I.lt)
theorem Inv.Bu (I:Inv X pins σ H s) {a:Addr} (h:s.heap.objs.size<=a):a ∉ X.fs:=fun hb=>by
 obtain ⟨_,o,ho,_⟩:=I.ok.nD.mem hb
 exact absurd (Nat.lt_of_lt_of_le (Heap.lt_size ho) (Nat.le_trans I.sz h)) (Nat.lt_irrefl _)
theorem Inv.cne (I:Inv X pins σ H s):∀ x c,X.env.cells.lookup x=some c->c≠X.env.locals:=fun x c e z=>by
 obtain ⟨v,o,ho,hd⟩:=I.cell x c e
 obtain ⟨m,⟨o',es,ep,ho',hd',_⟩,_⟩:=I.loc
 rw [z,ho'] at ho;cases ho;rw [hd'] at hd;cases hd
theorem Inv.nD (I:Inv X pins σ H s):s.heap.FunFrames X.base X.outer:=by
 have all:∀ (l:List Env),(∀ b ∈ frs l,b ∈ X.fs)->X.s_0.heap.FunFrames X.base l->s.heap.FunFrames X.base l:=by
  intro l
  induction l with
  | nil=>intro _ _;trivial
  | cons env r ih=>
    intro hs hl
    obtain ⟨hk,⟨L,o,hf,hn,ho,hd⟩,hr⟩:=hl
    have hL:L ∈ X.fs:=hs L (by unfold frs;rw [List.filterMap_cons,hf];exact List.mem_cons_self)
    obtain ⟨sl,e⟩:=I.base.slot L o ho (I.ok.frf L hL) hL fun z=>I.ok.xF L z hL
    exact ⟨hk,⟨L,_,hf,hn,e,hd⟩,ih (fun b hb=>hs b (by unfold frs;rw [List.filterMap_cons,hf];exact List.mem_cons_of_mem _ hb)) hr⟩
 exact all X.outer (fun _ hb=>hb) I.ok.nD
theorem Inv.stack (I:Inv X pins σ H s):s.heap.FunFrames X.base X.stack:=by
 rcases I.ok.stk with e | ⟨e,hf⟩
 ·rw [e];exact I.nD
 ·rw [e]
  obtain ⟨m,hn,_⟩:=I.loc
  refine .cons (by rw [I.ok.kind];decide) hf hn ?_ I.nD
  exact Heap.get?_none_of_le (Nat.le_trans I.ok.bsz I.ok.above)
theorem Inv.tG (I:Inv X pins σ H s):∀ b ∈ frs X.stack,b ∈ X.env.locals::X.fs:=fun b hb=>by
 rcases I.ok.stk with e | ⟨e,hf⟩
 ·rw [e] at hb;exact List.mem_cons_of_mem _ hb
 ·rw [e] at hb
  unfold frs at hb
  rw [List.filterMap_cons,hf] at hb
  exact hb
theorem Inv.uz (I:Inv X pins σ H s):∀ b ∈ frs X.stack,H b=none:=fun b hb=>by
 rcases List.mem_cons.mp (I.tG b hb) with e | hb
 ·rw [e];exact I.free
 ·obtain ⟨_,o,ho,_⟩:=I.ok.nD.mem hb
  exact I.base.free b o ho (I.ok.frf b hb) fun z=>I.ok.xF b z hb
theorem Inv.step {g':Array GenState} {t':Nat} {d':Drawn} {ch:List Addr} (I:Inv X pins σ H s)
  (hch:∀ b ∈ ch,(b ∈ X.ex\/X.s_0.heap.objs.size<=b)/\b≠X.env.locals/\(∀ x c,X.env.cells.lookup x=some c->c≠b)/\∀ p ∈ X.pn++pins,p.1≠b)
  (keep:∀ b o,b≠X.env.locals->b ∉ X.fs->b ∉ ch->s.heap.get? b=some o->H b=none->h'.get? b=some o)
  (slot:∀ b o,b≠X.env.locals->b ∈ X.fs->b ∉ ch->s.heap.get? b=some o->H b=none->∃ sl,h'.get? b=some {o with slots:=sl}) (free:∀ b o,b ∉ ch->s.heap.get? b=some o->H b=none->H' b=none)
  (there:∀ b o,b ∉ ch->s.heap.get? b=some o->∃ o',h'.get? b=some o')
  (qj:∀ b xs,H b=some (.tup xs)->H' b=some (.tup xs)) (pd:∀ b o u,H b=some (.frz o u)->H' b=some (.frz o u)) (qp:∀ b ps,H b=some (.tbl ps)->∃ more,H' b=some (.tbl (ps++more)))
  (ns:∀ m,s.heap.Ns X.env.locals m->h'.Ns X.env.locals m) (hok:HOk X.prog X.w H' h') (hg:AllBare g') :
  Inv X pins σ H' {s with heap:=h',gens:=g',drawn:=d',toks:=t'}:=by
 have neL:∀ b o,X.s_0.heap.get? b=some o->b≠X.env.locals:=fun b o e=>Nat.ne_of_lt (Nat.lt_of_lt_of_le (Heap.lt_size e) I.ok.above)
 have neC:∀ b o,X.s_0.heap.get? b=some o->b ∉ X.ex->b ∉ ch:=fun b o e hx hb=>by
  rcases (hch b hb).1 with z | z
  ·exact hx z
  ·exact absurd (Nat.lt_of_lt_of_le (Heap.lt_size e) z) (Nat.lt_irrefl _)
 have cellK:∀ x c,X.env.cells.lookup x=some c->∀ v,s.heap.IsCell c v->h'.IsCell c v:=fun x c e v ⟨o,ho,hd⟩=>by
  have nch:c ∉ ch:=fun z=>(hch c z).2.2.1 x c e rfl
  by_cases hc:c ∈ X.fs
  ·obtain ⟨sl,q⟩:=slot c o (I.cne x c e) hc nch ho (I.jm x c e)
   exact ⟨_,q,hd⟩
  ·exact ⟨o,keep c o (I.cne x c e) hc nch ho (I.jm x c e),hd⟩
 refine ⟨I.ok,I.os,hg,⟨fun b o e n hb hx=>?_,fun b o e n hb hx=>?_,fun b o e n hx=>?_,fun b o e hx=>?_,fun b xs e=>qj b xs (I.base.qj b xs e),fun b o xs e=>pd b o xs (I.base.pd b o xs e),fun b ps e=>?_⟩,?_,fun x c e=>?_,?_,fun x c e=>?_,fun p hp=>?_,hok,I.len⟩
 ·exact keep b o (neL b o e) hb (neC b o e hx) (I.base.keep b o e n hb hx) (I.base.free b o e n hx)
 ·obtain ⟨sl,e1⟩:=I.base.slot b o e n hb hx
  obtain ⟨sl',e2⟩:=slot b _ (neL b o e) hb (neC b o e hx) e1 (I.base.free b o e n hx)
  exact ⟨sl',e2⟩
 ·obtain ⟨o',e1⟩:=I.base.there b o e hx
  exact free b o' (neC b o e hx) e1 (I.base.free b o e n hx)
 ·obtain ⟨o',e1⟩:=I.base.there b o e hx
  exact there b o' (neC b o e hx) e1
 ·obtain ⟨m1,e1⟩:=I.base.qp b ps e
  obtain ⟨m2,e2⟩:=qp b _ e1
  exact ⟨m1++m2,by rw [e2,Array.append_assoc]⟩
 ·obtain ⟨m,hn,hl⟩:=I.loc
  refine ⟨m,ns m hn,fun i x v e1 e2 e3=>?_⟩
  obtain ⟨u,r,l⟩:=hl i x v e1 e2 e3
  refine ⟨u,r,?_⟩
  rcases l with l | ⟨k,c,e,z⟩
  ·exact .inl l
  ·exact .inr ⟨k,c,e,cellK x c e _ z⟩
 ·obtain ⟨v,z⟩:=I.cell x c e
  exact ⟨v,cellK x c e v z⟩
 ·obtain ⟨m,⟨o,_,_,ho,_⟩,_⟩:=I.loc
  exact free _ o (fun z=>(hch _ z).2.1 rfl) ho I.free
 ·obtain ⟨v,o,ho,hd⟩:=I.cell x c e
  exact free c o (fun z=>(hch c z).2.2.1 x c e rfl) ho (I.jm x c e)
 ·obtain ⟨e,n,ne,nf,d⟩:=I.pin p hp
  have nch:p.1 ∉ ch:=fun z=>(hch p.1 z).2.2.2 p hp rfl
  exact ⟨keep p.1 p.2 ne nf nch e n,free p.1 p.2 nch e n,ne,nf,d⟩
theorem Inv.un {t':Nat} (I:Inv X pins σ H s) (u:Un X.fs [] H H' s.heap h') (hok:HOk X.prog X.w H' h'):Inv X pins σ H' {s with heap:=h',toks:=t'}:=by
 obtain ⟨m,⟨o,es,ep,ho,r⟩,_⟩:=id I.loc
 obtain ⟨sl,hL⟩:=u.any ho I.free (by simp)
 exact I.step (g':=s.gens) (d':=s.drawn) (ch:=[]) (fun _ z=>nomatch z) (fun b o _ hb _ e n=>u.keep b o e n hb (by simp)) (fun b o _ hb _ e n=>u.slot b o e n hb (by simp)) (fun b o _ e n=>u.free b o e n (by simp)) (fun b o _ e=>u.there b o e (by simp)) u.qj u.pd u.qp (fun m' hm=>by
  obtain ⟨o',es',ep',ho',r'⟩:=hm
  rw [ho] at ho';cases ho'
  exact ⟨_,es',ep',hL,r'⟩) hok I.bare
theorem Inv.call {g':Array GenState} {t':Nat} {d':Drawn} {ch:List Addr} (I:Inv X pins σ H s) (u:Un (frs X.stack) ch H H' s.heap h') (hok:HOk X.prog X.w H' h') (hg:AllBare g')
  (hch:∀ b ∈ ch,(b ∈ X.ex\/X.s_0.heap.objs.size<=b)/\b≠X.env.locals/\(∀ x c,X.env.cells.lookup x=some c->c≠b)/\∀ p ∈ X.pn++pins,p.1≠b) :
  Inv X pins σ H' {s with heap:=h',gens:=g',drawn:=d',toks:=t'}:=by
 obtain ⟨m,⟨o,es,ep,ho,r⟩,_⟩:=id I.loc
 obtain ⟨sl,hL⟩:=u.any ho I.free fun z=>(hch _ z).2.1 rfl
 exact I.step (ch:=ch) hch (fun b o hL hb hc e n=>u.keep b o e n (fun z=>(List.mem_cons.mp (I.tG b z)).elim hL hb) hc) (fun b o _ _ hc e n=>u.any e n hc) (fun b o hc e n=>u.free b o e n hc) (fun b o hc e=>u.there b o e hc) u.qj u.pd u.qp (fun m' hm=>by
  obtain ⟨o',es',ep',ho',r'⟩:=hm
  rw [ho] at ho';cases ho'
  exact ⟨_,es',ep',hL,r'⟩) hok hg
theorem Inv.turned {t':Nat} {it:Addr} (I:Inv X pins σ H s) (k:∀ b o,b≠it->s.heap.get? b=some o->h'.get? b=some o) (hn:H it=none) (hL:it≠X.env.locals)
  (h1:it ∈ X.ex\/X.s_0.heap.objs.size<=it) (h2:∀ x c,X.env.cells.lookup x=some c->c≠it) (h3:∀ p ∈ X.pn++pins,p.1≠it):Inv X pins σ H {s with heap:=h',toks:=t'}:=by
 have nit:∀ b u,H b=some u->b≠it:=fun b u e z=>by rw [z,hn] at e;cases e
 refine I.step (g':=s.gens) (d':=s.drawn) (ch:=[it]) (fun b hb=>?_) (fun b o _ _ hc e _=>k b o (fun z=>hc (by simp [z])) e) (fun b o _ _ hc e _=>⟨o.slots,k b o (fun z=>hc (by simp [z])) e⟩) (fun _ _ _ _ n=>n)
  (fun b o hc e=>⟨o,k b o (fun z=>hc (by simp [z])) e⟩) (fun _ _ e=>e) (fun _ _ _ e=>e) (fun b ps e=>⟨#[],by rw [e];simp⟩) (fun m hm=>?_) (fun b u e=>?_) I.bare
 ·have e:b=it:=by simpa using hb
  subst e
  exact ⟨h1,hL,h2,h3⟩
 ·obtain ⟨o,es,ep,ho,r⟩:=hm
  exact ⟨o,es,ep,k _ o (Ne.symm hL) ho,r⟩
 ·refine (I.hok b u e).js (fun c v hc q=>k c v ?_ q) (fun _ q=>q) fun _ _ q=>q
  rcases hc with z | z
  ·rw [z];exact nit b u e
  ·exact nit c _ z
theorem Inv.tok (I:Inv X pins σ H s) (t:Nat):Inv X pins σ H {s with toks:=t}:=I.un (h':=s.heap) (t':=t) Un.refl I.hok
theorem Inv.kept {t':Nat} (I:Inv X pins σ H s) (k:∀ b u,s.heap.get? b=some u->h'.get? b=some u):Inv X pins σ H {s with heap:=h',toks:=t'}:=I.un (Un.kept k) (I.hok.kept k)
theorem Inv.laid {a:Addr} {o:HO} {t':Nat} (I:Inv X pins σ H s) (k:∀ b u,s.heap.get? b=some u->h'.get? b=some u) (hp:s.heap.objs.size<=a) (new:gK X.prog X.w (upd H a o) h' a o) :
  Inv X pins σ (upd H a o) {s with heap:=h',toks:=t'}:=I.un (Un.laid k hp (I.hok.fresh hp)) (I.hok.laid k hp new)
theorem Inv.write {x e:Addr} {o:HO} {t':Nat} (I:Inv X pins σ H s) (mu:Mut (H x)) (he:e=x\/H e=some (.own x)) (k:∀ b u,b≠e->s.heap.get? b=some u->h'.get? b=some u) (heo:∃ u,h'.get? e=some u)
  (new:gK X.prog X.w (upd H x o) h' x o):Inv X pins σ (upd H x o) {s with heap:=h',toks:=t'}:=I.un (Un.write mu he k heo) (I.hok.write mu he k heo new)
theorem Inv.weak {σ':List (Option V)} (I:Inv X pins σ H s) (hl:σ'.length=σ.length) (w:∀ (i:Nat) v,σ'[i]? = some (some v)->σ[i]? = some (some v)):Inv X pins σ' H s:=
 ⟨I.ok,I.os,I.bare,I.base,let ⟨m,hn,hl'⟩:=I.loc;⟨m,hn,fun i x v e1 e2 e3=>hl' i x v e1 (w i v e2) e3⟩,I.cell,I.free,I.jm,I.pin,I.hok,hl.trans I.len⟩
theorem Inv.uG {pins':List (Addr×Obj)} (I:Inv X pins σ H s) (h:∀ p ∈ pins',s.heap.get? p.1=some p.2/\H p.1=none/\p.1≠X.env.locals/\p.1 ∉ X.fs/\∀ v,p.2.data≠.cell v):Inv X pins' σ H s:=
 ⟨I.ok,I.os,I.bare,I.base,I.loc,I.cell,I.free,I.jm,fun p hp=>(List.mem_append.mp hp).elim (fun z=>I.pin p (List.mem_append_left _ z)) (h p),I.hok,I.len⟩
theorem oI {N:List Str} (hN:N.Nodup) {i j:Nat} {x:Str} (a:N[i]? = some x) (b:N[j]? = some x):i=j:=by
 obtain ⟨h1,e1⟩:=List.getElem?_eq_some_iff.mp a
 obtain ⟨h2,e2⟩:=List.getElem?_eq_some_iff.mp b
 exact (List.getElem_inj hN).mp (e1.trans e2.symm)
theorem pU {M:Model} {A:Around} {E:Value->Shared->Prop} {i:Nat} {x:Str} {v:V} {u:Value} {Q:Unit->Shared->Prop} (I:Inv X pins σ H s) (hN:X.N.Nodup) (hi:X.N[i]? = some x) (hx:Loc X.env.scope x) (r:RelV v u)
  (h:∀ s',Inv X pins (σ.set i (some v)) H s'->(∃ a,Heap.SameBut a s.heap s'.heap/\(a=X.env.locals\/X.env.cells.lookup x=some a))->Q () s') (hf:X.fn x=true\/X.env.scope.names.lookup x=some .local:=by first | exact .inl rfl | exact .inr rfl | assumption):wpAny M A (storeName X.env x u) Q E s:=by
 obtain ⟨m,hn,hl⟩:=id I.loc
 have hcls:(X.env.scope.kind==.class||(X.env.scope.kind==.module&&X.env.locals != X.env.globals))=false:=by rw [I.ok.kind];rfl
 have hiσ:i < σ.length:=by rw [I.len];exact (List.getElem?_eq_some_iff.mp hi).1
 have cne:=I.cne
 have tracked:∀ {a:Addr} {h':Heap},(∃ o,s.heap.get? a=some o/\H a=none)->Heap.SameBut a s.heap h'->HOk X.prog X.w H h':=fun {a h'} ha hs b ob e=>by
  obtain ⟨_,_,hfree⟩:=ha
  refine (I.hok b ob e).js (fun c w' hc q=>(hs.2 c ?_).trans q) (fun _ q=>q) fun _ _ q=>q
  rintro rfl
  rcases hc with rfl | hc
  ·rw [hfree] at e;cases e
  ·rw [hfree] at hc;cases hc
 rcases hx with hk | hk
 ·refine wpAny_storeName_local hk hn (fun h' hn' hs=>?_) hcls
  obtain ⟨oL,_,_,hoL,_⟩:=id hn
  refine h _ ⟨I.ok,I.os,I.bare,⟨fun b o e n hb hx=>?_,fun b o e n hb hx=>?_,I.base.free,fun b o e hx=>?_,I.base.qj,I.base.pd,I.base.qp⟩,⟨_,hn',fun j y v' e1 e2 e3=>?_⟩,fun y c e=>?_,I.free,I.jm,fun p hp=>?_,tracked ⟨oL,hoL,I.free⟩ hs,by simpa using I.len⟩ ⟨_,hs,.inl rfl⟩
  ·exact (hs.2 b (Nat.ne_of_lt (Nat.lt_of_lt_of_le (Heap.lt_size e) I.ok.above))).trans (I.base.keep b o e n hb hx)
  ·obtain ⟨sl,e1⟩:=I.base.slot b o e n hb hx
   exact ⟨sl,(hs.2 b (Nat.ne_of_lt (Nat.lt_of_lt_of_le (Heap.lt_size e) I.ok.above))).trans e1⟩
  ·obtain ⟨o',e1⟩:=I.base.there b o e hx
   exact ⟨o',(hs.2 b (Nat.ne_of_lt (Nat.lt_of_lt_of_le (Heap.lt_size e) I.ok.above))).trans e1⟩
  ·by_cases hj:j=i
   ·subst hj
    rw [hi] at e1;cases e1
    rw [List.getElem?_set_self hiσ] at e2
    cases e2
    exact ⟨u,r,.inl ⟨hk,by simp⟩⟩
   ·rw [List.getElem?_set_ne (Ne.symm hj)] at e2
    obtain ⟨u',r',q⟩:=hl j y v' e1 e2 e3
    refine ⟨u',r',?_⟩
    rcases q with ⟨k,e⟩ | ⟨k,c,e,z⟩
    ·refine .inl ⟨k,?_⟩
     have:y≠x:=fun e=>hj (oI hN e1 (e ▸ hi))
     simp [this,e]
    ·exact .inr ⟨k,c,e,z.sameBut hs (cne y c e)⟩
  ·obtain ⟨w',z⟩:=I.cell y c e
   exact ⟨w',z.sameBut hs (cne y c e)⟩
  ·obtain ⟨e,n,ne,nf,d⟩:=I.pin p hp
   exact ⟨(hs.2 p.1 ne).trans e,n,ne,nf,d⟩
 ·have hfn:X.fn x=true:=by
   rcases hf with z | z
   ·exact z
   ·rw [z] at hk;cases hk
  obtain ⟨c,hc⟩:=I.ok.has x (.inl hk)
  obtain ⟨w',z⟩:=I.cell x c hc
  refine wpAny_storeName_cell I.ok.kind hk hc z (fun h' hc' hs=>?_)
  obtain ⟨oc,hoc,hocd⟩:=id z
  refine h {s with heap:=h'} ⟨I.ok,I.os,I.bare,⟨fun b o e n hb hx=>?_,fun b o e n hb hx=>?_,I.base.free,fun b o e hx=>?_,I.base.qj,I.base.pd,I.base.qp⟩,⟨m,hn.sameBut hs (Ne.symm (cne x c hc)),fun j y v' e1 e2 e3=>?_⟩,fun y c' e=>?_,I.free,I.jm,fun p hp=>?_,tracked ⟨oc,hoc,I.jm x c hc⟩ hs,by simpa using I.len⟩ ⟨c,hs,.inr hc⟩
  ·exact (hs.2 b (Nat.ne_of_lt (Nat.lt_of_lt_of_le (Heap.lt_size e) (I.ok.cab x c hfn hc)))).trans (I.base.keep b o e n hb hx)
  ·obtain ⟨sl,e1⟩:=I.base.slot b o e n hb hx
   exact ⟨sl,(hs.2 b (Nat.ne_of_lt (Nat.lt_of_lt_of_le (Heap.lt_size e) (I.ok.cab x c hfn hc)))).trans e1⟩
  ·obtain ⟨o',e1⟩:=I.base.there b o e hx
   exact ⟨o',(hs.2 b (Nat.ne_of_lt (Nat.lt_of_lt_of_le (Heap.lt_size e) (I.ok.cab x c hfn hc)))).trans e1⟩
  ·by_cases hj:j=i
   ·subst hj
    rw [hi] at e1;cases e1
    rw [List.getElem?_set_self hiσ] at e2
    cases e2
    exact ⟨u,r,.inr ⟨.inl hk,c,hc,hc'⟩⟩
   ·rw [List.getElem?_set_ne (Ne.symm hj)] at e2
    obtain ⟨u',r',q⟩:=hl j y v' e1 e2 e3
    refine ⟨u',r',?_⟩
    rcases q with q | ⟨k,c',e,z'⟩
    ·exact .inl q
    ·refine .inr ⟨k,c',e,z'.sameBut hs ?_⟩
     rintro rfl
     exact hj (oI hN e1 (I.ok.inj _ _ _ e hc ▸ hi))
  ·by_cases hcc:c'=c
   ·subst hcc;exact ⟨_,hc'⟩
   ·obtain ⟨w2,z2⟩:=I.cell y c' e
    exact ⟨w2,z2.sameBut hs hcc⟩
  ·obtain ⟨e,n,ne,nf,d⟩:=I.pin p hp
   refine ⟨(hs.2 p.1 ?_).trans e,n,ne,nf,d⟩
   intro q
   rw [q,hoc] at e
   have q':oc=p.2:=Option.some.inj e
   exact d w' (by rw [<-q'];exact hocd)
theorem rE {M:Model} {A:Around} {E:Value->Shared->Prop} {i:Nat} {x:Str} {v:V} {u:Value} {Q:Unit->Shared->Prop} (I:Inv X pins σ H s) (hN:X.N.Nodup) (hi:X.N[i]? = some x) (hx:Loc X.env.scope x) (r:RelV v u)
  (h:∀ s',Inv X pins (σ.set i (some v)) H s'->Q () s') (hf:X.fn x=true\/X.env.scope.names.lookup x=some .local:=by first | exact .inl rfl | exact .inr rfl | assumption):wpAny M A (storeName X.env x u) Q E s:=
 pU I hN hi hx r (fun s' I' _=>h s' I') hf
theorem Inv.B4 {s':Shared} {ch:List Addr} (I:Inv X pins σ H s) (ho:s'.os=s.os) (u:Un (frs X.stack) ch H H' s.heap s'.heap) (hok:HOk X.prog X.w H' s'.heap) (hg:AllBare s'.gens)
  (hch:∀ b ∈ ch,(b ∈ X.ex\/X.s_0.heap.objs.size<=b)/\b≠X.env.locals/\(∀ x c,X.env.cells.lookup x=some c->c≠b)/\∀ p ∈ X.pn++pins,p.1≠b):Inv X pins σ H' s':=by
 obtain ⟨h',g',d',t',o'⟩:=s'
 have e:o'=s.os:=ho
 subst e
 exact I.call (g':=g') (t':=t') (d':=d') u hok hg hch
end
abbrev XK:=Value->Option Addr->Hp->Prop
abbrev St:=List (Option V)
abbrev VK:=V->Hp->Prop
abbrev TE:=St->Hp->VK->Prop
abbrev TT:=St->Hp->(Bool->Hp->Prop)->Prop
abbrev TA:=St->Hp->(List V->Hp->Prop)->Prop
structure Ends where
 nx:St->Hp->Prop
 rt:VK
 bk:St->Hp->Prop:=fun _ _=>False
 ct:St->Hp->Prop:=fun _ _=>False
abbrev TS:=Ends->St->Hp->Prop
noncomputable def EP (X:Cx) (pins:List (Addr×Obj)) (σ:St) (Q:VK) (u:Value) (s':Shared):Prop:=∃ v H',Inv X pins σ H' s'/\RelV v u/\Q v H'
noncomputable def TP (X:Cx) (pins:List (Addr×Obj)) (σ:St) (Q:Bool->Hp->Prop) (b:Bool) (s':Shared):Prop:=∃ H',Inv X pins σ H' s'/\Q b H'
noncomputable def AP (X:Cx) (pins:List (Addr×Obj)) (σ:St) (Q:List V->Hp->Prop) (us:List Value) (s':Shared):Prop:=∃ vs H',Inv X pins σ H' s'/\Vals vs us/\Q vs H'
noncomputable def SP (X:Cx) (pins:List (Addr×Obj)) (D:Ends) (f:Flow) (s':Shared):Prop:=
 match f with
 | .next=>∃ σ' H',Inv X pins σ' H' s'/\D.nx σ' H'
 | .brk=>∃ σ' H',Inv X pins σ' H' s'/\D.bk σ' H'
 | .cont=>∃ σ' H',Inv X pins σ' H' s'/\D.ct σ' H'
 | .ret u=>∃ v σ' H',Inv X pins σ' H' s'/\RelV v u/\D.rt v H'
noncomputable def PE (X:Cx) (e:Expr) (t:TE):Prop:=
 ∀ (pins:List (Addr×Obj)) (s:Shared) (σ:St) (H:Hp) (Q:VK),Inv X pins σ H s->t σ H Q->wpAny (model X.prog X.w) X.A (eval e X.env) (EP X pins σ Q) X.xe s
noncomputable def PT (X:Cx) (e:Expr) (t:TT):Prop:=
 ∀ (pins:List (Addr×Obj)) (s:Shared) (σ:St) (H:Hp) (Q:Bool->Hp->Prop),Inv X pins σ H s->t σ H Q->wpAny (model X.prog X.w) X.A (isTrue e X.env (eval e X.env)) (TP X pins σ Q) X.xe s
noncomputable def PW (X:Cx) (e:Expr) (t:TT):Prop:=
 ∀ (whole:Sem Value) (pins:List (Addr×Obj)) (s:Shared) (σ:St) (H:Hp) (Q:Bool->Hp->Prop),Inv X pins σ H s->t σ H Q->wpAny (model X.prog X.w) X.A (isTrue e X.env whole) (TP X pins σ Q) X.xe s
theorem PW.pt {X:Cx} {e:Expr} {t:TT} (h:PW X e t):PT X e t:=h _
noncomputable def PA (X:Cx) (es:List Expr) (t:TA):Prop:=
 ∀ (pos:Pos) (pins:List (Addr×Obj)) (s:Shared) (σ:St) (H:Hp) (Q:List V->Hp->Prop),Inv X pins σ H s->t σ H Q->wpAny (model X.prog X.w) X.A (spliced (backTo pos (starEach es X.env))) (AP X pins σ Q) X.xe s
noncomputable def PS (X:Cx) (st:Stmt) (t:TS):Prop:=
 ∀ (pins:List (Addr×Obj)) (s:Shared) (σ:St) (H:Hp) (D:Ends),Inv X pins σ H s->t D σ H->wpAny (model X.prog X.w) X.A (exec st X.env) (SP X pins D) X.xe s
noncomputable def PSs (X:Cx) (st:List Stmt) (t:TS):Prop:=
 ∀ (pins:List (Addr×Obj)) (s:Shared) (σ:St) (H:Hp) (D:Ends),Inv X pins σ H s->t D σ H->wpAny (model X.prog X.w) X.A (execs st X.env) (SP X pins D) X.xe s
theorem thn {α:Type} {t:Sem α} {Q Q':α->Shared->Prop} {M:Model} {A:Around} {E:Value->Shared->Prop} {s:Shared} (h:wpAny M A t Q E s) (hQ:∀ a s,Q a s->Q' a s):wpAny M A t Q' E s:=wpAny_mono h hQ fun _ _ x=>x
end L2
namespace L2
open PySem PySem.Spec PyProof.Rows
section
variable {X:Cx}
noncomputable def gm (i:Nat):TE:=fun σ H Q=>∃ v,σ[i]? = some (some v)/\Q v H
noncomputable def tC (v:V):TE:=fun _ H Q=>Q v H
theorem zJ {i:Nat} {x:Str} {pos:Pos} (hN:X.N[i]? = some x) (hv:Vis X.env.scope x) (hd:(x==("__debug__":Str))=false:=by decide) (hcd:(x==("__classdict__":Str))=false:=by decide):PE X (.Name x pos) (gm i):=by
 intro pins s σ H Q I h
 obtain ⟨v,e,h⟩:=h
 obtain ⟨m,hn,hl⟩:=I.loc
 obtain ⟨u,r,l⟩:=hl i x v hN e hv
 have fin:EP X pins σ Q u s:=⟨v,H,I,r,h⟩
 rcases l with ⟨hk,hm⟩ | ⟨hk,c,hc,hcell⟩
 ·exact wpAny_Name (wpAny_loadName_local I.ok.kind hk hn hm fin) hd
 ·rcases hk with hk | hk
  ·exact wpAny_Name (wpAny_loadName_cell I.ok.kind hk hc hcell fin) hd
  ·exact wpAny_Name (wpAny_loadName_free I.ok.kind hk hc hcell fin hcd) hd
theorem aB {i j pos}:PE X (.Constant (.int i) j pos) (tC (.int i)):=fun _ _ _ H _ I h=>wpAny_Constant_int ⟨.int i,H,I.tok _,⟨_,rfl⟩,h⟩
theorem me {b j pos}:PE X (.Constant (.bool b) j pos) (tC (.bl b)):=fun _ _ _ H _ I h=>Constant_bool ⟨.bl b,H,I,rfl,h⟩
theorem qE {j pos}:PE X (.Constant .none j pos) (tC .non):=fun _ _ _ H _ I h=>Constant_none ⟨.non,H,I,rfl,h⟩
noncomputable def Gl (X:Cx) (x:Str):Prop:=X.env.kindOf x=some .globalImplicit
theorem nN {E:Value->Shared->Prop} {pins:List (Addr×Obj)} {s:Shared} {σ:St} {H:Hp} {x:Str} {u:Value} {pos:Pos} {Q:Value->Shared->Prop} (I:Inv X pins σ H s) (hg:Gl X x) (hm:X.mg x=some u) (h:Q u s)
  (hd:(x==("__debug__":Str))=false:=by decide):wpAny (model X.prog X.w) X.A (eval (.Name x pos) X.env) Q E s:=
 Calls.Name_function_global I.ok.kind hg (Calls.loadGlobal_global (by rw [I.ok.glob];exact I.mod.glob.keeps I.bk) hm h) hd
theorem oT {E:Value->Shared->Prop} {pins:List (Addr×Obj)} {s:Shared} {σ:St} {H:Hp} {x:Str} {u:Value} {pos:Pos} {Q:Value->Shared->Prop} (I:Inv X pins σ H s) (hg:Gl X x) (hm:X.mg x=none) (hv:bootBuiltins x=some u) (h:Q u s)
  (hn:x≠"__name__":=by decide) (hd:(x==("__debug__":Str))=false:=by decide):wpAny (model X.prog X.w) X.A (eval (.Name x pos) X.env) Q E s:=by
 obtain ⟨mb,h1,h2⟩:=I.mod.blt
 exact Calls.Name_function_global I.ok.kind hg (Calls.loadGlobal_builtin (by rw [I.ok.glob];exact I.mod.glob.keeps I.bk) hm (by rw [I.ok.blt];exact h1.keeps I.bk) ((h2 x hn).trans hv) h) hd
theorem uK {x:Str} {v:V} {u:Value} {pos:Pos} (hg:Gl X x) (hm:X.mg x=some u) (r:RelV v u) (hd:(x==("__debug__":Str))=false:=by decide):PE X (.Name x pos) (tC v):=
 fun _ _ _ H _ I h=>nN I hg hm ⟨v,H,I,r,h⟩ hd
variable {a b:Expr} {ta tb:TE} {pos:Pos}
noncomputable def PC (X:Cx) (op:CmpOp) (a b:Expr) (t:TE):Prop:=
 ∀ (pins:List (Addr×Obj)) (s:Shared) (σ:St) (H:Hp) (Q:VK),Inv X pins σ H s->t σ H Q->
  wpAny (model X.prog X.w) X.A (eval a X.env) (fun v s₁=>wpAny (model X.prog X.w) X.A (eval b X.env) (fun u s₂=>wpAny (model X.prog X.w) X.A (compareOp op v u) (EP X pins σ Q) X.xe s₂) X.xe s₁) X.xe s
theorem x6 (b:Expr) {op:CmpOp} (h:op≠.In) (h2:op≠.NotIn):behindInMarks op b=false:=by
 have e1:(op==CmpOp.In)=false:=by cases op<;>first | rfl | exact absurd rfl h
 have e2:(op==CmpOp.NotIn)=false:=by cases op<;>first | rfl | exact absurd rfl h2
 cases b<;>simp [behindInMarks,e1,e2]
noncomputable def Bf (ta:TE):TE:=fun σ H Q=>ta σ H fun x H1=>Q (.bl (decide (x=.non))) H1
noncomputable def yS (ta:TE):TE:=fun σ H Q=>ta σ H fun x H1=>Q (.bl (!decide (x=.non))) H1
theorem RelV.sq {x:V} {v:Value} (r:RelV x v):(v==Value.none)=decide (x=.non):=by
 cases x with
 | non=>cases r;rfl
 | bl _=>cases r;rfl
 | int _=>obtain ⟨t,rfl⟩:=r;rfl
 | str _=>obtain ⟨t,rfl⟩:=r;rfl
 | byt _=>obtain ⟨t,rfl⟩:=r;rfl
 | flt _=>obtain ⟨t,rfl⟩:=r;rfl
 | ref _=>cases r;rfl
 | ty _=>cases r;rfl
theorem tZ {j pos'} (ha:PE X a ta):PC X .Is a (.Constant .none j pos') (Bf ta):=by
 intro pins s σ H Q I h
 refine thn (ha pins s σ H _ I h) fun v s1 ⟨x,H1,I1,r1,q1⟩=>?_
 exact Constant_none (is_none_gen ⟨.bl _,H1,I1,by rw [r1.sq];rfl,q1⟩)
theorem qG {j pos'} (ha:PE X a ta):PC X .IsNot a (.Constant .none j pos') (yS ta):=by
 intro pins s σ H Q I h
 refine thn (ha pins s σ H _ I h) fun v s1 ⟨x,H1,I1,r1,q1⟩=>?_
 exact Constant_none (isnot_none_gen ⟨.bl _,H1,I1,by rw [r1.sq];rfl,q1⟩)
noncomputable def tB (t:TE):TT:=fun σ H Q=>t σ H fun x H1=>∃ c,x=.bl c/\Q c H1
theorem mK {op:CmpOp} {t:TE} (h:PC X op a b t) (h1:behindInMarks op b=false:=by first | exact x6 _ (by decide) (by decide) | rfl):PT X (.Compare a [op] [b] pos) (tB t):=by
 intro pins s σ H Q I hw
 refine wpAny_isTrue_Compare1 (thn (h pins s σ H _ I hw) fun v s1 h1=>thn h1 fun u s2 h2=>thn h2 fun c s3 ⟨x,H1,I1,r1,q1⟩=>?_) h1
 obtain ⟨d,rfl,q⟩:=q1
 cases r1
 exact wpAny_truthy_bool ⟨H1,I1,q⟩
theorem gT {e:Expr} {t:TE} (h:PE X e t) (he:∀ whole,isTrue e X.env whole=(do let v <-whole;standAt e.pos;holding [v] (truthy v)):=by intro _;rfl):PT X e (tB t):=by
 intro pins s σ H Q I hw
 refine isTrue_plain (thn (h pins s σ H _ I hw) fun v s1 ⟨x,H1,I1,r1,q1⟩=>?_) (he _)
 obtain ⟨d,rfl,q⟩:=q1
 cases r1
 exact wpAny_truthy_bool ⟨H1,I1,q⟩
variable {tA tB':TT} {rest:List Expr}
noncomputable def Ay (t u:TT):TT:=fun σ H Q=>t σ H fun c H1=>if c=true then u σ H1 Q else Q false H1
noncomputable def tOr (t u:TT):TT:=fun σ H Q=>t σ H fun c H1=>if c=true then Q true H1 else u σ H1 Q
noncomputable def Bd (t:TT):TT:=fun σ H Q=>t σ H fun c H1=>Q (!c) H1
theorem kN (ha:PT X a tA):PW X (.BoolOp .And [a] pos) tA:=by
 intro wh pins s σ H Q I h
 refine isTrue_and (thn (ha pins s σ H Q I h) fun c s1 e=>?_)
 cases c with
 | true=>exact isTrue_and_nil e
 | false=>exact e
theorem qB (ha:PT X a tA):PW X (.BoolOp .Or [a] pos) tA:=by
 intro wh pins s σ H Q I h
 refine isTrue_or (thn (ha pins s σ H Q I h) fun c s1 e=>?_)
 cases c with
 | false=>exact isTrue_or_nil e
 | true=>exact e
theorem kb (ha:PT X a tA) (hb:PW X (.BoolOp .And (b::rest) pos) tB'):PW X (.BoolOp .And (a::b::rest) pos) (Ay tA tB'):=by
 intro wh pins s σ H Q I h
 refine isTrue_and (thn (ha pins s σ H _ I h) fun c s1 ⟨H1,I1,q1⟩=>?_)
 cases c with
 | true=>exact hb wh pins s1 σ H1 Q I1 q1
 | false=>exact ⟨H1,I1,q1⟩
theorem rT (ha:PT X a tA) (hb:PW X (.BoolOp .Or (b::rest) pos) tB'):PW X (.BoolOp .Or (a::b::rest) pos) (tOr tA tB'):=by
 intro wh pins s σ H Q I h
 refine isTrue_or (thn (ha pins s σ H _ I h) fun c s1 ⟨H1,I1,q1⟩=>?_)
 cases c with
 | true=>exact ⟨H1,I1,q1⟩
 | false=>exact hb wh pins s1 σ H1 Q I1 q1
theorem jw (ha:PT X a tA):PT X (.UnaryOp .Not a pos) (Bd tA):=by
 intro pins s σ H Q I h
 exact isTrue_not (ha pins s σ H (fun c H1=>Q (!c) H1) I h)
noncomputable def Ax (ta tb:TE):TE:=fun σ H Q=>ta σ H fun x H1=>∃ c,x=.bl c/\if c=true then tb σ H1 Q else Q (.bl false) H1
noncomputable def Bc (ta tb:TE):TE:=fun σ H Q=>ta σ H fun x H1=>∃ c,x=.bl c/\if c=true then Q (.bl true) H1 else tb σ H1 Q
theorem wR {op} {t:TE} (h:PE X a t):PE X (.BoolOp op [a] pos) t:=fun pins s σ H Q I hw=>BoolOp_one (h pins s σ H Q I hw)
theorem zK (ha:PE X a ta) (hb:PE X (.BoolOp .And (b::rest) pos) tb):PE X (.BoolOp .And (a::b::rest) pos) (Ax ta tb):=by
 intro pins s σ H Q I h
 refine BoolOp_and (thn (ha pins s σ H _ I h) fun v s1 ⟨x,H1,I1,r1,q1⟩=>?_)
 obtain ⟨c,rfl,q1⟩:=q1
 cases r1
 refine wpAny_truthy_bool ?_
 cases c with
 | true=>exact hb pins s1 σ H1 Q I1 q1
 | false=>exact ⟨.bl false,H1,I1,rfl,q1⟩
theorem AH (ha:PE X a ta) (hb:PE X (.BoolOp .Or (b::rest) pos) tb):PE X (.BoolOp .Or (a::b::rest) pos) (Bc ta tb):=by
 intro pins s σ H Q I h
 refine BoolOp_or (thn (ha pins s σ H _ I h) fun v s1 ⟨x,H1,I1,r1,q1⟩=>?_)
 obtain ⟨c,rfl,q1⟩:=q1
 cases r1
 refine wpAny_truthy_bool ?_
 cases c with
 | false=>exact hb pins s1 σ H1 Q I1 q1
 | true=>exact ⟨.bl true,H1,I1,rfl,q1⟩
noncomputable def tIf (t:TT) (ta tb:TE):TE:=fun σ H Q=>t σ H fun c H1=>if c=true then ta σ H1 Q else tb σ H1 Q
theorem rX {c:Expr} (hc:PT X c tA) (ha:PE X a ta) (hb:PE X b tb):PE X (.IfExp c a b pos) (tIf tA ta tb):=by
 intro pins s σ H Q I h
 refine wpAny_IfExp (thn (hc pins s σ H _ I h) fun d s1 ⟨H1,I1,q1⟩=>?_)
 cases d with
 | true=>exact ha pins s1 σ H1 Q I1 q1
 | false=>exact hb pins s1 σ H1 Q I1 q1
end
end L2
namespace L2
open PySem PySem.Spec PyProof.Rows
noncomputable def SqL (K:PySem.W.Frag) (H:Hp) (a:Addr) (xs:List V):Prop:=
 Rd H a (.lst xs)\/
  ∃ (o:Obj) (its:Array Value) (n:Nat),K.lookup a=some o/\o.cls=.type "list"/\o.dict=none/\o.data=.seq its n/\its.size<=sizeLine/\Vals xs its.toList
noncomputable def SqT (K:PySem.W.Frag) (H:Hp) (a:Addr) (xs:List V):Prop:=
 Rd H a (.tup xs)\/
  ∃ (o:Obj) (its:Array Value) (n:Nat),K.lookup a=some o/\o.cls=.type "tuple"/\o.data=.seq its n/\its.size<=sizeLine/\Vals xs its.toList
noncomputable def BL:Value->Option V
 | .none=>some .non
 | .bool b=>some (.bl b)
 | .int i _=>some (.int i)
 | .str x _=>some (.str x)
 | .bytes b _=>some (.byt b)
 | .float b _=>some (.flt b)
 | .ref a=>some (.ref a)
 | .type n=>some (.ty n)
 | _=>none
theorem RelV.abs {x:V} {u:Value} (r:RelV x u):BL u=some x:=by
 cases x with
 | non=>cases r;rfl
 | bl _=>cases r;rfl
 | int _=>obtain ⟨t,rfl⟩:=r;rfl
 | str _=>obtain ⟨t,rfl⟩:=r;rfl
 | byt _=>obtain ⟨t,rfl⟩:=r;rfl
 | flt _=>obtain ⟨t,rfl⟩:=r;rfl
 | ref _=>cases r;rfl
 | ty _=>cases r;rfl
theorem RelV.inj {x y:V} {u:Value} (r:RelV x u) (q:RelV y u):x=y:=Option.some.inj (r.abs.symm.trans q.abs)
theorem Vals.inj:∀ {xs ys:List V} {us:List Value},Vals xs us->Vals ys us->xs=ys
 | _,_,_,.nil,.nil=>rfl
 | _,_,_,.cons r t,.cons r' t'=>by rw [r.inj r',Vals.inj t t']
section
variable {X:Cx} {pins:List (Addr×Obj)} {σ:St} {H:Hp} {s:Shared} {a:Addr} {xs ys:List V}
theorem SqL.of {K:PySem.W.Frag} (h:H a=some (.lst xs)):SqL K H a xs:=.inl (.inl h)
theorem SqT.of {K:PySem.W.Frag} (h:H a=some (.tup xs)):SqT K H a xs:=.inl (.inl h)
theorem Inv.list (I:Inv X pins σ H s) (h:SqL X.K H a xs):∃ its:List Value,Vals xs its/\PlainL s.heap a its.toArray/\xs.length<=sizeLine:=by
 rcases h with h | ⟨o,its,n,hk,hc,hd,hs,hz,r⟩
 ·obtain ⟨z,its,n,r,e⟩:=h.ok I.hok
  exact ⟨its,r,⟨_,n,e,rfl,rfl,rfl⟩,z⟩
 ·refine ⟨its.toList,r,⟨o,n,I.kIn a o hk,hc,hd,by simpa using hs⟩,?_⟩
  have e:=r.length
  simp only [Array.length_toList] at e
  omega
theorem Inv.tuple (I:Inv X pins σ H s) (h:SqT X.K H a xs):∃ its:List Value,Vals xs its/\IsTup s.heap a its.toArray/\xs.length<=sizeLine:=by
 rcases h with h | ⟨o,its,n,hk,hc,hs,hz,r⟩
 ·obtain ⟨z,its,r,p⟩:=h.ok I.hok
  exact ⟨its,r,p,z⟩
 ·refine ⟨its.toList,r,⟨o,I.kIn a o hk,hc,n,by simpa using hs⟩,?_⟩
  have e:=r.length
  simp only [Array.length_toList] at e
  omega
theorem Inv.oO (I:Inv X pins σ H s) (h:SqL X.K H a xs) (h':SqL X.K H a ys):xs=ys:=by
 obtain ⟨its,r,⟨o,n,e,_,_,d⟩,_⟩:=I.list h
 obtain ⟨its',r',⟨o',n',e',_,_,d'⟩,_⟩:=I.list h'
 rw [e] at e';cases e'
 rw [d] at d'
 injection d' with d1 _
 have:its=its':=by simpa using congrArg Array.toList d1
 subst this
 exact r.inj r'
theorem Inv.vj (I:Inv X pins σ H s) (h:SqT X.K H a xs) (h':SqT X.K H a ys):xs=ys:=by
 obtain ⟨its,r,⟨o,e,_,n,d⟩,_⟩:=I.tuple h
 obtain ⟨its',r',⟨o',e',_,n',d'⟩,_⟩:=I.tuple h'
 rw [e] at e';cases e'
 rw [d] at d'
 injection d' with d1 _
 have:its=its':=by simpa using congrArg Array.toList d1
 subst this
 exact r.inj r'
end
abbrev Cx.pw (X:Cx) (E:Value->Shared->Prop):Cx:={X with xe:=E}
abbrev Cx.nox (X:Cx):Cx:=X.pw fun _ _=>False
theorem Cx.Ok.pw {X:Cx} (ok:X.Ok) (E:Value->Shared->Prop):(X.pw E).Ok:=
 ⟨ok.mod,ok.kind,ok.glob,ok.blt,ok.above,ok.inj,ok.has,ok.cab,ok.hd,ok.frames,ok.stk,ok.exf,ok.bs,ok.bsz,ok.wZ,ok.xF,ok.nD,ok.frf⟩
theorem Cx.Ok.jU {X:Cx} {E:Value->Shared->Prop} (ok:(X.pw E).Ok):X.Ok:=
 ⟨ok.mod,ok.kind,ok.glob,ok.blt,ok.above,ok.inj,ok.has,ok.cab,ok.hd,ok.frames,ok.stk,ok.exf,ok.bs,ok.bsz,ok.wZ,ok.xF,ok.nD,ok.frf⟩
section
variable {X:Cx} {pins:List (Addr×Obj)} {σ:St} {H:Hp} {s:Shared} {E:Value->Shared->Prop}
theorem Inv.pw (I:Inv X pins σ H s) (E:Value->Shared->Prop):Inv (X.pw E) pins σ H s:=⟨I.ok.pw E,I.os,I.bare,I.base,I.loc,I.cell,I.free,I.jm,I.pin,I.hok,I.len⟩
theorem Inv.jU (I:Inv (X.pw E) pins σ H s):Inv X pins σ H s:=⟨I.ok.jU,I.os,I.bare,I.base,I.loc,I.cell,I.free,I.jm,I.pin,I.hok,I.len⟩
theorem SP.jU {D:Ends} {f:Flow} {s':Shared} (h:SP (X.pw E) pins D f s'):SP X pins D f s':=by
 cases f with
 | next=>obtain ⟨σ',H',I,q⟩:=h;exact ⟨σ',H',I.jU,q⟩
 | brk=>obtain ⟨σ',H',I,q⟩:=h;exact ⟨σ',H',I.jU,q⟩
 | cont=>obtain ⟨σ',H',I,q⟩:=h;exact ⟨σ',H',I.jU,q⟩
 | ret u=>obtain ⟨v,σ',H',I,r,q⟩:=h;exact ⟨v,σ',H',I.jU,r,q⟩
theorem PSs.nox {st:List Stmt} {t:TS} (h:PSs X.nox st t):PSs X st t:=fun pins s σ H D I hw=>
 wpAny_mono (h pins s σ H D (I.pw _) hw) (fun _ _ q=>q.jU) fun _ _ z=>False.elim z
end
section
variable {X:Cx} {st:Stmt} {rest:List Stmt} {t u:TS} {e:Expr} {te:TE} {pos:Pos}
noncomputable def yT:TS:=fun D σ H=>D.nx σ H
noncomputable def Am (t u:TS):TS:=fun D σ H=>t {D with nx:=u D} σ H
theorem bE:PSs X [] yT:=fun _ _ σ H _ I h=>wpAny_execs_nil ⟨σ,H,I,h⟩
theorem ab (h1:PS X st t) (h2:PSs X rest u):PSs X (st::rest) (Am t u):=by
 intro pins s σ H D I h
 refine wpAny_execs_cons (thn (h1 pins s σ H {D with nx:=u D} I h) fun f s1 q=>?_)
 cases f with
 | next=>
   obtain ⟨σ',H',I',q⟩:=q
   exact h2 pins s1 σ' H' D I' q
 | ret v=>exact q
 | brk=>exact q
 | cont=>exact q
theorem ag (h1:PS X st t):PSs X [st] t:=by
 intro pins s σ H D I h
 refine wpAny_execs_cons (thn (h1 pins s σ H D I h) fun f s1 q=>?_)
 cases f with
 | next=>exact wpAny_execs_nil q
 | ret v=>exact q
 | brk=>exact q
 | cont=>exact q
theorem Inv.quiet {pins:List (Addr×Obj)} {σ:St} {H:Hp} {s:Shared} (I:Inv X pins σ H s):interactive X.env=false:=by simp [interactive,I.ok.kind]
noncomputable def yW (te:TE):TS:=fun D σ H=>te σ H fun _ H1=>D.nx σ H1
theorem cH (he:PE X e te) (hs:swapsWith e none pos.line X.env=pure false:=by rfl):PS X (.Expr e pos) (yW te):=by
 intro pins s σ H D I h
 exact wpAny_Expr_any (thn (he pins s σ H _ I h) fun v s1 ⟨x,H1,I1,r1,q1⟩=>⟨σ,H1,I1,q1⟩) I.quiet hs
noncomputable def An (te:TE):TS:=fun D σ H=>te σ H D.rt
theorem aG (he:PE X e te):PS X (.Return (some e) pos) (An te):=by
 intro pins s σ H D I h
 exact wpAny_Return_some (thn (he pins s σ H _ I h) fun v s1 ⟨x,H1,I1,r1,q1⟩=>⟨x,σ,H1,I1,r1,q1⟩)
noncomputable def Aq (c:TT) (t u:TS):TS:=fun D σ H=>c σ H fun b H1=>if b=true then t D σ H1 else u D σ H1
theorem cR {c:Expr} {a b:List Stmt} {tc:TT} (hc:PT X c tc) (ha:PSs X a t) (hb:PSs X b u):PS X (.If c a b pos) (Aq tc t u):=by
 intro pins s σ H D I h
 refine wpAny_If (thn (hc pins s σ H _ I h) fun d s1 ⟨H1,I1,q1⟩=>?_)
 cases d with
 | true=>exact ha pins s1 σ H1 D I1 q1
 | false=>exact hb pins s1 σ H1 D I1 q1
end
abbrev TG:=V->St->Hp->(St->Hp->Prop)->Prop
abbrev TGs:=List V->St->Hp->(St->Hp->Prop)->Prop
noncomputable def PG (X:Cx) (target:Expr) (t:TG):Prop:=
 ∀ (pins:List (Addr×Obj)) (s:Shared) (σ:St) (H:Hp) (v:V) (u:Value) (Q:St->Hp->Prop),Inv X pins σ H s->RelV v u->t v σ H Q->
  wpAny (model X.prog X.w) X.A (assign target X.env u) (fun _ s'=>∃ σ' H',Inv X pins σ' H' s'/\Q σ' H') X.xe s
noncomputable def PGs (X:Cx) (ts:List Expr) (t:TGs):Prop:=
 ∀ (pins:List (Addr×Obj)) (s:Shared) (σ:St) (H:Hp) (vs:List V) (us:List Value) (Q:St->Hp->Prop),Inv X pins σ H s->Vals vs us->t vs σ H Q->
  wpAny (model X.prog X.w) X.A (assignInOrder ((assignEach ts X.env).map (·.2)) us) (fun _ s'=>∃ σ' H',Inv X pins σ' H' s'/\Q σ' H') X.xe s
abbrev A8:=V->V->V->Hp->(Hp->Prop)->Prop
noncomputable def B6 (X:Cx) (t:A8):Prop:=
 ∀ (pins:List (Addr×Obj)) (s:Shared) (σ:St) (H:Hp) (o i v:V) (ov iv u:Value) (Q:Hp->Prop),Inv X pins σ H s->RelV o ov->RelV i iv->RelV v u->t o i v H Q->
  wpAny (model X.prog X.w) X.A (setItem ov iv u) (fun _ s'=>∃ H',Inv X pins σ H' s'/\Q H') X.xe s
abbrev TIp:=V->V->Hp->VK->Prop
noncomputable def PIp (X:Cx) (op:Operator) (t:TIp):Prop:=
 ∀ (pins:List (Addr×Obj)) (s:Shared) (σ:St) (H:Hp) (x y:V) (v u:Value) (Q:VK),Inv X pins σ H s->RelV x v->RelV y u->t x y H Q->
  wpAny (model X.prog X.w) X.A (inplaceOp op v u) (EP X pins σ Q) X.xe s
section
variable {X:Cx} {pos:Pos}
noncomputable def gf (i:Nat):TG:=fun v σ H Q=>Q (σ.set i (some v)) H
theorem bW {i:Nat} {x:Str} (hN:X.N.Nodup) (hi:X.N[i]? = some x) (hx:Loc X.env.scope x) (hf:X.fn x=true\/X.env.scope.names.lookup x=some .local:=by first | exact .inl rfl | exact .inr rfl | assumption):PG X (.Name x pos) (gf i):=by
 intro pins s σ H v u Q I r h
 exact wpAny_assign_Name (rE I hN hi hx r (fun s' I'=>⟨_,H,I',h⟩) hf)
noncomputable def zY:TGs:=fun vs σ H Q=>vs=[]/\Q σ H
noncomputable def sG (t:TG) (u:TGs):TGs:=fun vs σ H Q=>∃ v r,vs=v::r/\t v σ H fun σ' H'=>u r σ' H' Q
theorem nL:PGs X [] zY:=by
 intro pins s σ H vs us Q I r h
 obtain ⟨e,h⟩:=h
 subst e
 cases r
 exact assignInOrder_nil ⟨σ,H,I,h⟩
theorem hU {e:Expr} {es:List Expr} {t:TG} {u:TGs} (h1:PG X e t) (h2:PGs X es u)
  (hs:(assignEach (e::es) X.env).map (·.2)=assign e X.env::(assignEach es X.env).map (·.2):=by rfl):PGs X (e::es) (sG t u):=by
 intro pins s σ H vs us Q I r h
 obtain ⟨v,vr,e1,h⟩:=h
 subst e1
 cases r with
 | cons r rr=>
   rw [hs]
   refine assignInOrder_cons (thn (h1 pins s σ H _ _ _ I r h) fun _ s1 ⟨σ1,H1,I1,q1⟩=>?_)
   exact h2 pins s1 σ1 H1 _ _ Q I1 rr q1
noncomputable def zX (K:PySem.W.Frag) (n:Nat) (t:TGs):TG:=fun v σ H Q=>∃ a xs,v=.ref a/\SqT K H a xs/\xs.length=n/\t xs σ H Q
theorem qD {es:List Expr} {k:Nat} {t:TGs} {n:Nat} (hc:X.calm=true) (h:PGs X es t)
  (hn:(assignEach es X.env).length=n:=by rfl) (hst:(assignEach es X.env).findIdx? (·.1)=none:=by rfl):PG X (.Tuple es k pos) (zX X.K n t):=by
 intro pins s σ H v u Q I r hw
 obtain ⟨a,xs,e1,hq,hl,hw⟩:=hw
 subst e1
 cases r
 obtain ⟨its,rv,ht,hz⟩:=I.tuple hq
 refine assign_Tuple_tuple (I.ok.hd hc) ht (by simp [hn,<-hl,rv.length]) hst fun h' hx=>?_
 have I1:Inv X pins σ H {s with heap:=h'}:=I.kept (t':=s.toks) fun b o e=>hx b o (Nat.ne_of_lt (Heap.lt_size e)) e
 exact h pins _ σ H xs _ Q I1 (by simpa using rv) hw
noncomputable def zh (te:TE) (g:TG):TS:=fun D σ H=>te σ H fun x H1=>g x σ H1 D.nx
theorem bC {i:Nat} {x:Str} {e:Expr} {te:TE} {pos':Pos} (hN:X.N.Nodup) (hi:X.N[i]? = some x) (hx:Loc X.env.scope x) (he:PE X e te) (hs:swapsWith e (some (.Name x pos')) pos.line X.env=pure false:=by rfl) (hf:X.fn x=true\/X.env.scope.names.lookup x=some .local:=by first | exact .inl rfl | exact .inr rfl | assumption) :
  PS X (.Assign [.Name x pos'] e pos) (zh te (gf i)):=by
 intro pins s σ H D I h
 refine wpAny_Assign_Name (thn (he pins s σ H _ I h) fun v s1 ⟨y,H1,I1,r1,q1⟩=>?_) hs
 exact rE I1 hN hi hx r1 (fun s2 I2=>⟨_,H1,I2,q1⟩) hf
noncomputable def Aw (to ti te:TE) (tget:V->V->Hp->VK->Prop) (tip:TIp) (tset:A8):TS:=fun D σ H=>to σ H fun o H1=>ti σ H1 fun i H2=>tget o i H2 fun x H3=>te σ H3 fun y H4=>tip x y H4 fun z H5=>tset o i z H5 fun H6=>D.nx σ H6
noncomputable def B7 (X:Cx) (t:V->V->Hp->VK->Prop):Prop:=
 ∀ (pins:List (Addr×Obj)) (s:Shared) (σ:St) (H:Hp) (o i:V) (ov iv:Value) (Q:VK),Inv X pins σ H s->RelV o ov->RelV i iv->t o i H Q->
  wpAny (model X.prog X.w) X.A (getItem ov iv) (EP X pins σ Q) X.xe s
theorem uF {o i e:Expr} {to ti te:TE} {tget:V->V->Hp->VK->Prop} {tip:TIp} {tset:A8} {op:Operator} {tpos:Pos} (ho:PE X o to) (hi:PE X i ti) (hg:B7 X tget) (he:PE X e te) (hp:PIp X op tip) (hs:B6 X tset)
  (ha:∀ ov iv new,augStore i ov iv new=(do holding [new,ov,iv] (setItem ov iv new);release [new,ov,iv] [];pure .next):=by intros;rfl):PS X (.AugAssign (.Subscript o i tpos) op e pos) (Aw to ti te tget tip tset):=by
 intro pins s σ H D I h
 refine wpAny_AugAssign_SubscriptAny (thn (ho pins s σ H _ I h) fun ov s1 ⟨x1,H1,I1,r1,q1⟩=>?_) ha
 refine thn (hi pins s1 σ H1 _ I1 q1) fun iv s2 ⟨x2,H2,I2,r2,q2⟩=>?_
 refine thn (hg pins s2 σ H2 x1 x2 ov iv _ I2 r1 r2 q2) fun old s3 ⟨x3,H3,I3,r3,q3⟩=>?_
 refine thn (he pins s3 σ H3 _ I3 q3) fun v s4 ⟨x4,H4,I4,r4,q4⟩=>?_
 refine thn (hp pins s4 σ H4 x3 x4 old v _ I4 r3 r4 q4) fun new s5 ⟨x5,H5,I5,r5,q5⟩=>?_
 exact thn (hs pins s5 σ H5 x1 x2 x5 ov iv new _ I5 r1 r2 r5 q5) fun _ s6 ⟨H6,I6,q6⟩=>⟨σ,H6,I6,q6⟩
noncomputable def ipI (f:Int->Int->Int):TIp:=fun x y H Q=>∃ i j,x=.int i/\y=.int j/\Q (.int (f i j)) H
theorem xp:PIp X .Add (ipI fun i j=>i+j):=by
 intro pins s σ H x y v u Q I r1 r2 h
 obtain ⟨i,j,e1,e2,q⟩:=h
 subst e1;subst e2
 obtain ⟨t,rfl⟩:=r1
 obtain ⟨t',rfl⟩:=r2
 exact iadd_int ⟨.int _,H,I.tok _,⟨_,rfl⟩,q⟩
end
section
variable {X:Cx} {pos:Pos}
noncomputable def wz (c:TT) (tb:TS):TS:=fun D σ H=>∃ W:Nat->St->Hp->Prop,(∃ m,W m σ H)/\∀ m σ H,W m σ H->
 c σ H fun b H1=>if b=true then ∃ N:St->Hp->Prop,(∀ σ' H',N σ' H'->∃ m',m' < m/\W m' σ' H')/\tb {D with nx:=N,ct:=N,bk:=D.nx} σ H1 else D.nx σ H1
theorem wO {c:Expr} {body:List Stmt} {tc:TT} {tb:TS} (hp:PassesOwn (model X.prog X.w) X.A X.env X.xe) (hc:PT X c tc) (hb:PSs X body tb):PS X (.While c body [] pos) (wz tc tb):=by
 intro pins s σ H D I h
 obtain ⟨W,⟨m0,w0⟩,turn⟩:=h
 refine wpAny_While (codeAny_whileLoop (fun n s'=>∃ σ' H',Inv X pins σ' H' s'/\W n σ' H') ?_ m0 ⟨σ,H,I,w0⟩)
 rintro n s1 ⟨σ1,H1,I1,w1⟩
 refine wpAny_passesOwn hp (thn (hc pins s1 σ1 H1 _ I1 (turn n σ1 H1 w1)) fun b s2 ⟨H2,I2,q2⟩=>?_)
 cases b with
 | true=>
   obtain ⟨N,hN,q2⟩:=q2
   rw [if_pos rfl]
   refine wpAny_passesOwn hp (thn (hb pins s2 σ1 H2 _ I2 q2) fun f s3 q3=>?_)
   cases f with
   | next=>
     obtain ⟨σ3,H3,I3,n3⟩:=q3
     obtain ⟨m',hm,w3⟩:=hN σ3 H3 n3
     exact ⟨m',hm,σ3,H3,I3,w3⟩
   | cont=>
     obtain ⟨σ3,H3,I3,n3⟩:=q3
     obtain ⟨m',hm,w3⟩:=hN σ3 H3 n3
     exact ⟨m',hm,σ3,H3,I3,w3⟩
   | brk=>exact q3
   | ret v=>exact q3
 | false=>
   rw [if_neg Bool.false_ne_true]
   exact wpAny_execs_nil ⟨σ1,H2,I2,q2⟩
end
structure It where
 go:Nat->Hp->Prop
 yld:Nat->Hp->V->Hp->Prop
 stop:Nat->Hp->Prop
noncomputable def nF (X:Cx) (pins:List (Addr×Obj)) (H:Hp) (b:Addr):Prop:=
 H b=none/\b≠X.env.locals/\b ∉ X.fs/\(b ∈ X.ex\/X.s_0.heap.objs.size<=b)/\(∀ x c,X.env.cells.lookup x=some c->c≠b)/\∀ p ∈ X.pn++pins,p.1≠b
theorem Inv.xA {X:Cx} {pins:List (Addr×Obj)} {σ:St} {H H':Hp} {s:Shared} {b:Addr} (I:Inv X pins σ H s) (hb:s.heap.objs.size<=b) (hn:H' b=none):nF X pins H' b:=by
 refine ⟨hn,Nat.ne_of_gt (Nat.lt_of_lt_of_le I.lt hb),I.Bu hb,.inr (Nat.le_trans I.sz hb),fun x c e z=>?_,fun p hp z=>?_⟩
 ·obtain ⟨v,q⟩:=I.cell x c e
  exact absurd (Nat.lt_of_lt_of_le q.lt (by rw [z];exact hb)) (Nat.lt_irrefl _)
 ·exact absurd (Nat.lt_of_lt_of_le (Heap.lt_size (I.pin p hp).1) (by rw [z];exact hb)) (Nat.lt_irrefl _)
structure Turn (P:Program) (w:World) (K:PySem.W.Frag) (tg:Expr) (J:It) (fp:List Addr) (it:Addr) (tn:Nat->Heap->Prop):Prop where
 mem:it ∈ fp
 obj:∀ i h,tn i h->∀ b ∈ fp,∃ o,h.get? b=some o/\∀ v,o.data≠.cell v
 keep:∀ i h h',tn i h->(∀ b ∈ fp,∀ o,h.get? b=some o->h'.get? b=some o)->tn i h'
 item:∀ (X:Cx),X.prog=P->X.w=w->X.K=K->X.calm=true->∀ (i:Nat) (pins:List (Addr×Obj)) (s:Shared) (σ:St) (H:Hp) (E:Value->Shared->Prop),Inv X pins σ H s->(∀ b ∈ fp,nF X pins H b)->tn i s.heap->J.go i H->
  wpAny (model P w) X.A (pyNext (.ref it)) (fun r s1=>∃ u,r=some u/\
   wpAny (model P w) X.A (letOwnedTupleGo tg (.ref it) u) (fun _ s2=>∃ x H',Inv X pins σ H' s2/\RelV x u/\J.yld i H x H'/\tn (i+1) s2.heap/\∀ b ∈ fp,H' b=none) E s1) E s
 done:∀ (X:Cx),X.prog=P->X.w=w->X.K=K->X.calm=true->∀ (i:Nat) (pins:List (Addr×Obj)) (s:Shared) (σ:St) (H:Hp) (E:Value->Shared->Prop),Inv X pins σ H s->(∀ b ∈ fp,nF X pins H b)->tn i s.heap->J.stop i H->
  wpAny (model P w) X.A (pyNext (.ref it)) (fun r s1=>r=none/\Inv X pins σ H s1) E s
 self:∀ (A:Around) (i:Nat) (s:Shared) (Q:Value->Shared->Prop) (E:Value->Shared->Prop),tn i s.heap->Q (.ref it) s->wpAny (model P w) A (pyIter (.ref it)) Q E s
abbrev TI:=St->Hp->(It->Hp->Prop)->Prop
noncomputable def PIE (X:Cx) (pins:List (Addr×Obj)) (σ:St) (tg:Expr) (R:It->Hp->Prop) (itv:Value) (s2:Shared):Prop:=
 ∃ (it:Addr) (fp:List Addr) (tn:Nat->Heap->Prop) (J:It) (H':Hp),itv=.ref it/\Inv X pins σ H' s2/\Turn X.prog X.w X.K tg J fp it tn/\tn 0 s2.heap/\(∀ b ∈ fp,nF X pins H' b)/\R J H'
noncomputable def PI (X:Cx) (tg iter:Expr) (wi:TI):Prop:=
 ∀ (pins:List (Addr×Obj)) (s:Shared) (σ:St) (H:Hp) (R:It->Hp->Prop),Inv X pins σ H s->wi σ H R->
  wpAny (model X.prog X.w) X.A (eval iter X.env) (fun v s1=>wpAny (model X.prog X.w) X.A (pyIter v) (PIE X pins σ tg R) X.xe s1) X.xe s
theorem z6 {M:Model} {A:Around} {E:Value->Shared->Prop} {s:Shared} {tg:Expr} {it:Addr} {u:Value} {o:Obj} {n:String} {vs:Array Value} {Q:Unit->Shared->Prop} (ho:s.heap.get? it=some o) (hc:o.cls=.type n) (hd:o.data=.fields vs)
  (hn:["enumerate","zip","dict_itemiterator","dict_reverseitemiterator","odict_iterator","itertools.zip_longest","itertools.pairwise"].contains n=false) (hQ:Q () s):wpAny M A (letOwnedTupleGo tg (.ref it) u) Q E s:=by
 unfold letOwnedTupleGo
 cases tg<;>first
  | exact wpAny_pure hQ
  | (cases u<;>first
    | exact wpAny_pure hQ
    | (refine wpAny_bind (wpAny_load ho ?_)
       rw [hc,hd]
       show wpAny M A (if (["enumerate","zip","dict_itemiterator","dict_reverseitemiterator","odict_iterator","itertools.zip_longest","itertools.pairwise"].contains n&&vs[0]?==some (rawInt _))=true then _ else _) Q E s
       rw [if_neg (by intro h;rw [hn,Bool.false_and] at h;cases h)]
       exact wpAny_pure hQ))
noncomputable def Itl (K:PySem.W.Frag) (a:Addr):It:=
 ⟨fun i H=>∃ xs x,SqL K H a xs/\xs[i]? = some x,fun i H x H'=>H'=H/\∀ xs,SqL K H a xs->xs[i]? = some x,fun i H=>∃ xs,SqL K H a xs/\xs.length<=i⟩
noncomputable def Itr (lo:Int) (n:Nat):It:=⟨fun i _=>i < n,fun i H x H'=>H'=H/\x=.int (lo+i),fun i _=>n<=i⟩
theorem vh {P:Program} {w:World} {K:PySem.W.Frag} {tg:Expr} (a it:Addr):Turn P w K tg (Itl K a) [it] it (fun i h=>h.IsListIter it a i) where
 mem:=by simp
 obj:=fun i h st b hb=>by
  have e:b=it:=by simpa using hb
  subst e
  obtain ⟨o,e,c,d⟩:=st
  exact ⟨o,e,fun v z=>by rw [d] at z;cases z⟩
 keep:=fun i h h' st k=>st.at fun o e=>k it (by simp) o e
 item:=by
  intro X hP hw hK hc i pins s σ H E I hf st hg
  subst hP hw hK
  obtain ⟨xs,x,hq,hx⟩:=hg
  obtain ⟨its,rv,p,hz⟩:=I.list hq
  obtain ⟨u,hu,ru⟩:=rv.get hx
  obtain ⟨f0,f1,f2,f3,f4,f5⟩:=hf it (by simp)
  refine wpAny_pyNext_list_item st p.isList (x:=u) (by simpa using hu) fun h' st' sb=>?_
  have I1:Inv X pins σ H {s with heap:=h'}:=I.turned (t':=s.toks) (fun b o hb e=>(sb.2 b hb).trans e) f0 f1 f3 f4 f5
  obtain ⟨o,e,c,d⟩:=id st'
  exact ⟨u,rfl,z6 (s:={s with heap:=h'}) e c d (by decide) ⟨x,H,I1,ru,⟨rfl,fun ys hy=>by rw [I.oO hy hq];exact hx⟩,st',fun b hb=>(hf b hb).1⟩⟩
 done:=by
  intro X hP hw hK hc i pins s σ H E I hf st hg
  subst hP hw hK
  obtain ⟨xs,hq,hx⟩:=hg
  obtain ⟨its,rv,p,hz⟩:=I.list hq
  obtain ⟨f0,f1,f2,f3,f4,f5⟩:=hf it (by simp)
  have hl:=rv.length
  exact wpAny_pyNext_list_end (I.ok.hd hc) st p.isList (by simp;omega) fun h' eb=>⟨rfl,I.turned (t':=s.toks) (fun b o hb e=>eb b o hb e) f0 f1 f3 f4 f5⟩
 self:=fun _ _ _ _ _ st h=>wpAny_pyIter_listiter st h
theorem tu {P:Program} {w:World} {K:PySem.W.Frag} {tg:Expr} (it:Addr) (lo:Int) (n:Nat):Turn P w K tg (Itr lo n) [it] it (fun i h=>IsRangeIter h it (lo+(i:Nat)*1) ((n:Int) - (i:Nat)) 1) where
 mem:=by simp
 obj:=fun i h st b hb=>by
  have e:b=it:=by simpa using hb
  subst e
  exact ⟨_,st,fun v z=>by
   have z':Data.fields _=Data.cell v:=z
   cases z'⟩
 keep:=fun i h h' st k=>k it (by simp) _ st
 item:=by
  intro X hP hw hK hc i pins s σ H E I hf st hg
  subst hP hw hK
  obtain ⟨f0,f1,f2,f3,f4,f5⟩:=hf it (by simp)
  have W:=Walks.range (prog:=X.prog) (w:=X.w) (I.ok.hd hc) it lo 1 n
  refine W.item i s _ _ hg st fun v h' tk hv st' kk=>?_
  obtain ⟨t,rfl⟩:=hv
  have I1:Inv X pins σ H {s with heap:=h',toks:=tk}:=I.turned (fun b o hb e=>kk b o (by simpa using hb) e) f0 f1 f3 f4 f5
  refine ⟨_,rfl,z6 (s:={s with heap:=h',toks:=tk}) (n:="range_iterator") st' rfl rfl (by decide) ⟨.int (lo+i),H,I1,⟨t,?_⟩,⟨rfl,rfl⟩,st',fun b hb=>(hf b hb).1⟩⟩
  rw [Int.mul_one]
 done:=by
  intro X hP hw hK hc i pins s σ H E I hf st hg
  subst hP hw hK
  obtain ⟨f0,f1,f2,f3,f4,f5⟩:=hf it (by simp)
  exact wpAny_pyNext_range_end (I.ok.hd hc) st (by have:n<=i:=hg;omega) fun h' eb=>⟨rfl,I.turned (t':=s.toks) (fun b o hb e=>eb b o hb e) f0 f1 f3 f4 f5⟩
 self:=fun _ _ _ _ _ st h=>wpAny_pyIter_rangeiter st h
end L2
namespace L2
open PySem PySem.Spec PyProof.Rows
section
variable {X:Cx} {tg:Expr}
noncomputable def AX (K:PySem.W.Frag) (tl:TE):TI:=fun σ H R=>tl σ H fun x H1=>∃ a,x=.ref a/\(∃ xs,SqL K H1 a xs)/\R (Itl K a) H1
theorem dn {l:Expr} {tl:TE} (hl:PE X l tl):PI X tg l (AX X.K tl):=by
 intro pins s σ H R I h
 refine thn (hl pins s σ H _ I h) fun v s1 ⟨x,H1,I1,r1,q1⟩=>?_
 obtain ⟨a,e,⟨xs,hq⟩,q⟩:=q1
 subst e
 cases r1
 obtain ⟨its,rv,p,hz⟩:=I1.list hq
 refine wpAny_pyIter_list p.isList ?_
 refine ⟨s1.heap.objs.size,[s1.heap.objs.size],_,_,H1,rfl,I1.kept (t':=s1.toks) fun b o e=>Heap.get?_push_of_some _ e,vh a _,⟨_,Heap.get?_push_size _ rfl,rfl,rfl⟩,fun b hb=>?_,q⟩
 have e:b=s1.heap.objs.size:=by simpa using hb
 subst e
 exact I1.xA (Nat.le_refl _) (I1.hok.fresh (Nat.le_refl _))
theorem rS {pins:List (Addr×Obj)} {σ:St} {H:Hp} {s:Shared} {R:It->Hp->Prop} {E:Value->Shared->Prop} {lo hi:Int} {t u v:Tok} {tk:Nat} (I:Inv X pins σ H s) (h1:-(2 ^ 62)<=lo) (h2:lo < 2 ^ 62) (h3:-(2 ^ 62)<=hi) (h4:hi < 2 ^ 62)
  (q:R (Itr lo (hi - lo).toNat) H):wpAny (model X.prog X.w) X.A (pyIter (.ref s.heap.objs.size)) (PIE X pins σ tg R) E {s with heap:=s.heap.push {cls:=.type "range",data:=.fields #[.int lo t,.int hi u,.int 1 v]},toks:=tk}:=by
 refine wpAny_pyIter_range (IsRange.new ..) (small_one h1 h2 h3 h4) ?_
 have I1:Inv X pins σ H {s with heap:=s.heap.push {cls:=.type "range",data:=.fields #[.int lo t,.int hi u,.int 1 v]},toks:=tk}:=I.kept fun b o e=>Heap.get?_push_of_some _ e
 refine ⟨(s.heap.push {cls:=.type "range",data:=.fields #[.int lo t,.int hi u,.int 1 v]}).objs.size,[(s.heap.push {cls:=.type "range",data:=.fields #[.int lo t,.int hi u,.int 1 v]}).objs.size],_,_,H,rfl,
  I1.kept (t':=tk) fun b o e=>Heap.get?_push_of_some _ e,tu _ lo (hi - lo).toNat,?_,fun b hb=>?_,q⟩
 ·have e1:lo+((0:Nat):Int)*1=lo:=by simp
  have e2:(((hi - lo).toNat:Nat):Int) - ((0:Nat):Int)=Builtin.Range.rangeSize lo hi 1:=by rw [rangeSize_one];split<;>omega
  show IsRangeIter _ _ (lo+((0:Nat):Int)*1) ((((hi - lo).toNat:Nat):Int) - ((0:Nat):Int)) 1
  rw [e1,e2]
  exact Heap.get?_push_size _ rfl
 ·have e:b=(s.heap.push {cls:=.type "range",data:=.fields #[.int lo t,.int hi u,.int 1 v]}).objs.size:=by simpa using hb
  subst e
  exact I1.xA (Nat.le_refl _) (I1.hok.fresh (Nat.le_refl _))
noncomputable def AW (ta:TA):TI:=fun σ H R=>ta σ H fun vs H1=>∃ j:Int,vs=[.int j]/\-(2 ^ 62)<=j/\j < 2 ^ 62/\R (Itr 0 j.toNat) H1
noncomputable def AV (ta:TA):TI:=fun σ H R=>ta σ H fun vs H1=>∃ i j:Int,vs=[.int i,.int j]/\(-(2 ^ 62)<=i/\i < 2 ^ 62/\-(2 ^ 62)<=j/\j < 2 ^ 62)/\R (Itr i (j - i).toNat) H1
theorem kP {a:Expr} {ta:TA} {p pos:Pos} (hg:Gl X "range") (hm:X.mg "range" = none) (ha:PA X [a] ta) (hs:starEach [a] X.env=[(false,eval a X.env)]:=by rfl):PI X tg (.Call (.Name "range" p) [a] [] pos) (AW ta):=by
 intro pins s σ H R I h
 refine Call_ (oT I hg hm boot_range (PyProof.Rows.callWith_type1 (thn (ha pos pins s σ H _ I h) fun us s1 ⟨vs,H1,I1,r1,q1⟩=>?_) hs rfl))
 obtain ⟨j,e,q1,q2,q⟩:=q1
 subst e
 cases r1 with
 | cons r rr=>
   cases rr
   obtain ⟨t,rfl⟩:=r
   exact call_range_1 (rS I1 (by omega) (by omega) q1 q2 (by simpa using q))
theorem vJ {a b:Expr} {ta:TA} {p pos:Pos} (hg:Gl X "range") (hm:X.mg "range" = none) (ha:PA X [a,b] ta) (hs:starEach [a,b] X.env=[(false,eval a X.env),(false,eval b X.env)]:=by rfl) (hs2:starEach [b] X.env=[(false,eval b X.env)]:=by rfl) :
  PI X tg (.Call (.Name "range" p) [a,b] [] pos) (AV ta):=by
 intro pins s σ H R I h
 refine Call_ (oT I hg hm boot_range (PyProof.Rows.callWith_type1 (thn (ha pos pins s σ H _ I h) fun us s1 ⟨vs,H1,I1,r1,q1⟩=>?_) (by rw [hs,hs2]) (by rw [hs2];rfl)))
 obtain ⟨i,j,e,⟨q1,q2,q3,q4⟩,q⟩:=q1
 subst e
 cases r1 with
 | cons r rr=>
   cases rr with
   | cons r' rr=>
     cases rr
     obtain ⟨t,rfl⟩:=r
     obtain ⟨t',rfl⟩:=r'
     exact call_range_2 (rS I1 q1 q2 q3 q4 q)
noncomputable def Bh (wi:TI) (g:TG) (tb:TS):TS:=fun D σ H=>wi σ H fun J H1=>∃ W:Nat->Nat->St->Hp->Prop,(∃ m,W 0 m σ H1)/\∀ i m σ H,W i m σ H->
 (J.stop i H/\D.nx σ H)\/(J.go i H/\∃ N:St->Hp->Prop,(∀ σ' H',N σ' H'->∃ m',m' < m/\W (i+1) m' σ' H')/\∀ x H',J.yld i H x H'->g x σ H' fun σ2 H2=>tb {D with nx:=N,ct:=N,bk:=D.nx} σ2 H2)
noncomputable def ou (fp:List Addr) (h:Heap):List (Addr×Obj):=fp.filterMap fun b=>(h.get? b).map fun o=>(b,o)
theorem lN {fp:List Addr} {h:Heap} {b:Addr} {o:Obj} (hb:b ∈ fp) (e:h.get? b=some o):(b,o) ∈ ou fp h:=List.mem_filterMap.mpr ⟨b,hb,by rw [e];rfl⟩
theorem vP {fp:List Addr} {h:Heap} {p:Addr×Obj} (hp:p ∈ ou fp h):p.1 ∈ fp/\h.get? p.1=some p.2:=by
 obtain ⟨b,hb,e⟩:=List.mem_filterMap.mp hp
 cases q:h.get? b with
 | none=>rw [q] at e;cases e
 | some o=>
   rw [q] at e
   have e':(b,o)=p:=Option.some.inj e
   subst e'
   exact ⟨hb,q⟩
theorem Inv.pinned {pins:List (Addr×Obj)} {σ:St} {H:Hp} {s:Shared} {fp:List Addr} (I:Inv X pins σ H s) (hf:∀ b ∈ fp,nF X pins H b) (ho:∀ b ∈ fp,∃ o,s.heap.get? b=some o/\∀ v,o.data≠.cell v):Inv X (pins++ou fp s.heap) σ H s:=
 I.uG fun p hp=>(List.mem_append.mp hp).elim (fun z=>I.pin p (List.mem_append_right _ z)) fun z=>by
  obtain ⟨hb,e⟩:=vP z
  obtain ⟨f0,f1,f2,_⟩:=hf p.1 hb
  obtain ⟨o,e',d⟩:=ho p.1 hb
  rw [e] at e';cases e'
  exact ⟨e,f0,f1,f2,d⟩
theorem Inv.lX {pins pl:List (Addr×Obj)} {σ:St} {H:Hp} {s:Shared} (I:Inv X (pins++pl) σ H s):Inv X pins σ H s:=I.uG fun p hp=>I.pin p (List.mem_append_right _ (List.mem_append_left _ hp))
theorem fh {iter:Expr} {body:List Stmt} {wi:TI} {g:TG} {tb:TS} {pos:Pos} (hp:PassesOwn (model X.prog X.w) X.A X.env X.xe) (hc:X.calm=true) (hi:PI X tg iter wi) (hg:PG X tg g) (hb:PSs X body tb)
  (hs:∀ x,foldedSetIterable iter X.env x=pure x:=by intro _;rfl):PS X (.For tg iter body [] pos) (Bh wi g tb):=by
 intro pins s σ H D I h
 refine wpAny_For (thn (hi pins s σ H _ I h) fun v s1 h1=>thn h1 fun itv s2 h2=>?_) hs
 obtain ⟨it,fp,tn,J,H2,e,I2,T,st2,f2,W,⟨m0,w0⟩,turn⟩:=h2
 subst e
 have stat:∀ {H':Hp},(∀ b ∈ fp,H' b=none)->∀ b ∈ fp,nF X pins H' b:=fun hn b hb=>⟨hn b hb,(f2 b hb).2⟩
 refine codeAny_forLoop_any (fun n s'=>∃ i σ' H',Inv X pins σ' H' s'/\tn i s'.heap/\(∀ b ∈ fp,H' b=none)/\W i n σ' H') ?_ m0 ⟨0,σ,H2,I2,st2,fun b hb=>(f2 b hb).1,w0⟩
 rintro n s3 ⟨i,σ3,H3,I3,st3,fr3,w3⟩
 rcases turn i n σ3 H3 w3 with ⟨stop,qn⟩ | ⟨go,N,hN,step⟩
 ·refine wpAny_passesOwn hp (thn (T.done X rfl rfl rfl hc i pins s3 σ3 H3 X.xe I3 (stat fr3) st3 stop) fun r s4 ⟨hr,I4⟩=>?_)
  subst hr
  exact wpAny_execs_nil ⟨σ3,H3,I4,qn⟩
 ·refine wpAny_passesOwn hp (thn (T.item X rfl rfl rfl hc i pins s3 σ3 H3 X.xe I3 (stat fr3) st3 go) fun r s4 ⟨u,hr,h4⟩=>?_)
  subst hr
  refine wpAny_passesOwn hp (thn h4 fun _ s5 ⟨x,H5,I5,r5,y5,st5,fr5⟩=>?_)
  have I5':=I5.pinned (stat fr5) (T.obj _ _ st5)
  refine wpAny_passesOwn hp (thn (hg _ s5 σ3 H5 x u _ I5' r5 (step x H5 y5)) fun _ s6 ⟨σ6,H6,I6,q6⟩=>?_)
  refine wpAny_passesOwn hp (thn (hb _ s6 σ6 H6 _ I6 q6) fun f s7 q7=>?_)
  have again:∀ {σ7:St} {H7:Hp},Inv X (pins++ou fp s5.heap) σ7 H7 s7->N σ7 H7->∃ m,m < n/\∃ i σ' H',Inv X pins σ' H' s7/\tn i s7.heap/\(∀ b ∈ fp,H' b=none)/\W i m σ' H':=fun {σ7 H7} I7 n7=>by
   obtain ⟨m',hm,w7⟩:=hN σ7 H7 n7
   refine ⟨m',hm,i+1,σ7,H7,I7.lX,T.keep _ _ _ st5 fun b hb o e=>(I7.pin (b,o) (List.mem_append_right _ (List.mem_append_right _ (lN hb e)))).1,fun b hb=>?_,w7⟩
   obtain ⟨o,e,d⟩:=T.obj _ _ st5 b hb
   exact (I7.pin (b,o) (List.mem_append_right _ (List.mem_append_right _ (lN hb e)))).2.1
  cases f with
  | next=>obtain ⟨σ7,H7,I7,n7⟩:=q7;exact again I7 n7
  | cont=>obtain ⟨σ7,H7,I7,n7⟩:=q7;exact again I7 n7
  | brk=>obtain ⟨σ7,H7,I7,q7⟩:=q7;exact ⟨σ7,H7,I7.lX,q7⟩
  | ret v=>obtain ⟨x7,σ7,H7,I7,r7,q7⟩:=q7;exact ⟨x7,σ7,H7,I7.lX,r7,q7⟩
end
theorem eW {K:PySem.W.Frag} {a:Addr} {xs:List V} {g:TG} {tb:TS} {D:Ends} {σ:St} {H:Hp} (Pv:Nat->St->Hp->Prop) (h0:Pv 0 σ H) (hl:∀ i σ H,i<=xs.length->Pv i σ H->SqL K H a xs)
  (hs:∀ i x σ H,xs[i]? = some x->Pv i σ H->g x σ H fun σ2 H2=>tb {D with nx:=Pv (i+1),ct:=Pv (i+1),bk:=D.nx} σ2 H2) (hd:∀ σ H,Pv xs.length σ H->D.nx σ H) :
  ∃ W:Nat->Nat->St->Hp->Prop,(∃ m,W 0 m σ H)/\∀ i m σ H,W i m σ H->
   ((Itl K a).stop i H/\D.nx σ H)\/((Itl K a).go i H/\∃ N:St->Hp->Prop,(∀ σ' H',N σ' H'->∃ m',m' < m/\W (i+1) m' σ' H')/\∀ x H',(Itl K a).yld i H x H'->g x σ H' fun σ2 H2=>tb {D with nx:=N,ct:=N,bk:=D.nx} σ2 H2):=by
 refine ⟨fun i m σ H=>m=xs.length - i/\i<=xs.length/\Pv i σ H,⟨xs.length,by simp,Nat.zero_le _,h0⟩,?_⟩
 rintro i m σ H ⟨rfl,hi,p⟩
 have q:=hl i σ H hi p
 by_cases hlt:i < xs.length
 ·refine .inr ⟨⟨xs,xs[i],q,by simp [hlt]⟩,Pv (i+1),fun σ' H' p'=>⟨xs.length - (i+1),by omega,rfl,hlt,p'⟩,fun x H' y=>?_⟩
  obtain ⟨e,y⟩:=y
  subst e
  exact hs i x σ _ (y xs q) p
 ·have e:i=xs.length:=by omega
  subst e
  exact .inl ⟨⟨xs,q,Nat.le_refl _⟩,hd σ H p⟩
theorem kT {lo:Int} {n:Nat} {g:TG} {tb:TS} {D:Ends} {σ:St} {H:Hp} (Pv:Nat->St->Hp->Prop) (h0:Pv 0 σ H)
  (hs:∀ i σ H,i < n->Pv i σ H->g (.int (lo+i)) σ H fun σ2 H2=>tb {D with nx:=Pv (i+1),ct:=Pv (i+1),bk:=D.nx} σ2 H2) (hd:∀ σ H,Pv n σ H->D.nx σ H) :
  ∃ W:Nat->Nat->St->Hp->Prop,(∃ m,W 0 m σ H)/\∀ i m σ H,W i m σ H->
   ((Itr lo n).stop i H/\D.nx σ H)\/((Itr lo n).go i H/\∃ N:St->Hp->Prop,(∀ σ' H',N σ' H'->∃ m',m' < m/\W (i+1) m' σ' H')/\∀ x H',(Itr lo n).yld i H x H'->g x σ H' fun σ2 H2=>tb {D with nx:=N,ct:=N,bk:=D.nx} σ2 H2):=by
 refine ⟨fun i m σ H=>m=n - i/\i<=n/\Pv i σ H,⟨n,by simp,Nat.zero_le _,h0⟩,?_⟩
 rintro i m σ H ⟨rfl,hi,p⟩
 by_cases hlt:i < n
 ·refine .inr ⟨hlt,Pv (i+1),fun σ' H' p'=>⟨n - (i+1),by omega,rfl,hlt,p'⟩,fun x H' y=>?_⟩
  obtain ⟨e,y⟩:=y
  subst e y
  exact hs i σ _ hlt p
 ·have e:i=n:=by omega
  subst e
  exact .inl ⟨Nat.le_refl _,hd σ H p⟩
theorem wo {c:TT} {tb:TS} {D:Ends} {σ:St} {H:Hp} (Pv:St->Hp->Prop) (μ:St->Hp->Nat) (h0:Pv σ H)
  (hs:∀ σ H,Pv σ H->c σ H fun b H1=>if b=true then tb {D with nx:=fun σ' H'=>Pv σ' H'/\μ σ' H' < μ σ H,ct:=fun σ' H'=>Pv σ' H'/\μ σ' H' < μ σ H,bk:=D.nx} σ H1 else D.nx σ H1)
  (mono:∀ σ H Q Q',(∀ b H1,Q b H1->Q' b H1)->c σ H Q->c σ H Q'):wz c tb D σ H:=by
 refine ⟨fun m σ H=>m=μ σ H/\Pv σ H,⟨_,rfl,h0⟩,?_⟩
 rintro m σ H ⟨rfl,p⟩
 refine mono σ H _ _ (fun b H1 q=>?_) (hs σ H p)
 cases b with
 | true=>exact ⟨_,fun σ' H' ⟨p',l⟩=>⟨_,l,rfl,p'⟩,q⟩
 | false=>exact q
end L2
namespace L2
open PySem PySem.Spec PyProof.Rows
abbrev R2:=V->V->Hp->VK->Prop
noncomputable def OpR (X:Cx) (f:Value->Value->Sem Value) (r:R2):Prop:=
 ∀ (pins:List (Addr×Obj)) (s:Shared) (σ:St) (H:Hp) (x y:V) (v u:Value) (Q:VK),Inv X pins σ H s->RelV x v->RelV y u->r x y H Q->
  wpAny (model X.prog X.w) X.A (f v u) (EP X pins σ Q) X.xe s
noncomputable def qi (X:Cx) (f:Value) (r:List V->Hp->VK->Prop):Prop:=
 ∀ (pins:List (Addr×Obj)) (s:Shared) (σ:St) (H:Hp) (xs:List V) (us:List Value) (Q:VK),Inv X pins σ H s->Vals xs us->r xs H Q->
  wpAny (model X.prog X.w) X.A (call f us) (EP X pins σ Q) X.xe s
noncomputable def tOp (r:R2) (ta tb:TE):TE:=fun σ H Q=>ta σ H fun x H1=>tb σ H1 fun y H2=>r x y H2 Q
noncomputable def rI (C:Int->Int->Prop) (g:Int->Int->V):R2:=fun x y H Q=>∃ i j,x=.int i/\y=.int j/\C i j/\Q (g i j) H
noncomputable def rI0 (g:Int->Int->V):R2:=fun x y H Q=>∃ i j,x=.int i/\y=.int j/\Q (g i j) H
section
variable {X:Cx} {a b c:Expr} {ta tb tc:TE} {pos:Pos}
theorem A5 (ha:PE X a ta) (hb:PE X b tb) {pins:List (Addr×Obj)} {s:Shared} {σ:St} {H:Hp} {R:V->V->Hp->Prop} (I:Inv X pins σ H s)
  (h:ta σ H fun x H1=>tb σ H1 fun y H2=>R x y H2) {Q:Value->Shared->Prop} {f:Value->Value->Sem Value}
  (hf:∀ v u s2 x y H2,Inv X pins σ H2 s2->RelV x v->RelV y u->R x y H2->wpAny (model X.prog X.w) X.A (f v u) Q X.xe s2) :
  wpAny (model X.prog X.w) X.A (eval a X.env) (fun v s₁=>wpAny (model X.prog X.w) X.A (eval b X.env) (fun u s₂=>wpAny (model X.prog X.w) X.A (f v u) Q X.xe s₂) X.xe s₁) X.xe s:=by
 refine thn (ha pins s σ H _ I h) fun v s1 ⟨x,H1,I1,r1,q1⟩=>?_
 refine thn (hb pins s1 σ H1 _ I1 q1) fun u s2 ⟨y,H2,I2,r2,q2⟩=>?_
 exact hf v u s2 x y H2 I2 r1 r2 q2
theorem cS {op:Operator} {r:R2} (ho:OpR X (binaryOp op) r) (ha:PE X a ta) (hb:PE X b tb):PE X (.BinOp a op b pos) (tOp r ta tb):=by
 intro pins s σ H Q I h
 exact wpAny_BinOp (A5 ha hb I h fun v u s2 x y H2 I2 rx ry q=>ho pins s2 σ H2 x y v u Q I2 rx ry q)
theorem opI {f:Value->Value->Sem Value} {C:Int->Int->Prop} {g:Int->Int->Int}
  (rule:∀ (i j:Int) (t u:Tok) (s:Shared) (Q:Value->Shared->Prop) (E:Value->Shared->Prop),C i j->Q (.int (g i j) s.toks) {s with toks:=s.toks+1}->wpAny (model X.prog X.w) X.A (f (.int i t) (.int j u)) Q E s) :
  OpR X f (rI C fun i j=>.int (g i j)):=by
 intro pins s σ H x y v u Q I rx ry h
 obtain ⟨i,j,rfl,rfl,hc,q⟩:=h
 obtain ⟨t,rfl⟩:=rx
 obtain ⟨t',rfl⟩:=ry
 exact rule i j t t' s _ _ hc ⟨.int (g i j),H,I.tok _,⟨_,rfl⟩,q⟩
theorem AK {f:Value->Value->Sem Value} {g:Int->Int->Int}
  (rule:∀ (i j:Int) (t u:Tok) (s:Shared) (Q:Value->Shared->Prop) (E:Value->Shared->Prop),Q (.int (g i j) s.toks) {s with toks:=s.toks+1}->wpAny (model X.prog X.w) X.A (f (.int i t) (.int j u)) Q E s) :
  OpR X f (rI0 fun i j=>.int (g i j)):=by
 intro pins s σ H x y v u Q I rx ry h
 obtain ⟨i,j,rfl,rfl,q⟩:=h
 obtain ⟨t,rfl⟩:=rx
 obtain ⟨t',rfl⟩:=ry
 exact rule i j t t' s _ _ ⟨.int (g i j),H,I.tok _,⟨_,rfl⟩,q⟩
theorem yw {f:Value->Value->Sem Value} {g:Int->Int->Bool}
  (rule:∀ (i j:Int) (t u:Tok) (s:Shared) (Q:Value->Shared->Prop) (E:Value->Shared->Prop),Q (.bool (g i j)) s->wpAny (model X.prog X.w) X.A (f (.int i t) (.int j u)) Q E s) :
  OpR X f (rI0 fun i j=>.bl (g i j)):=by
 intro pins s σ H x y v u Q I rx ry h
 obtain ⟨i,j,rfl,rfl,q⟩:=h
 obtain ⟨t,rfl⟩:=rx
 obtain ⟨t',rfl⟩:=ry
 exact rule i j t t' s _ _ ⟨.bl (g i j),H,I,rfl,q⟩
noncomputable def B9 (i j:Int):Prop:=0 < j/\j < 1073741824
noncomputable def Ac (i j:Int):Prop:=(-(2 ^ 64) < i/\i < 2 ^ 64)\/(-(2 ^ 64) < j/\j < 2 ^ 64)
theorem Ac.ok {i j:Int} (h:Ac i j):IntMulOk i j:=by
 rcases h with ⟨h1,h2⟩ | ⟨h1,h2⟩
 ·exact .of_left (intBits_le_64 h1 h2)
 ·exact .of_right (intBits_le_64 h1 h2)
theorem gU:OpR X (binaryOp .Add) (rI0 fun i j=>.int (i+j)):=AK fun _ _ _ _ _ _ _ q=>add_int q
theorem fR:OpR X (binaryOp .Sub) (rI0 fun i j=>.int (i - j)):=AK fun _ _ _ _ _ _ _ q=>sub_int q
theorem mL:OpR X (binaryOp .Mult) (rI Ac fun i j=>.int (i*j)):=opI fun _ _ _ _ _ _ _ hc q=>mul_int q hc.ok
theorem uN:OpR X (binaryOp .FloorDiv) (rI B9 fun i j=>.int (i / j)):=opI fun i j _ _ _ _ _ hc q=>by
 have h1:(0:Int) < j:=hc.1
 have h2:j < 1073741824:=hc.2
 exact floordiv_int (by omega) (by rw [Int.fdiv_eq_ediv_of_nonneg i (by omega)];exact q) (.inl (PyProof.noPylong_small (by omega)))
theorem zN:OpR X (binaryOp .Mod) (rI (fun _ j=>0 < j) fun i j=>.int (i % j)):=opI fun i j _ _ _ _ _ hc q=>by
 have h1:(0:Int) < j:=hc
 exact mod_int' (by omega) (by rw [Int.fmod_eq_emod_of_nonneg i (by omega)];exact q)
end
noncomputable def AE:V->V->Bool
 | .non,.non=>true | .non,.int _=>true | .int _,.non=>true | .non,.bl _=>true | .bl _,.non=>true | .non,.str _=>true | .str _,.non=>true
 | .int _,.int _=>true | .bl _,.bl _=>true | .str _,.str _=>true | .byt _,.byt _=>true
 | .int _,.str _=>true | .str _,.int _=>true | .bl _,.str _=>true | .str _,.bl _=>true
 | _,_=>false
noncomputable def rEq:R2:=fun x y H Q=>AE x y=true/\Q (.bl (decide (x=y))) H
noncomputable def rNe:R2:=fun x y H Q=>AE x y=true/\Q (.bl (!decide (x=y))) H
theorem vc {i j:Int}:decide (V.int i=V.int j)=(i==j):=by
 rw [Bool.eq_iff_iff]
 simp
theorem xJ {i j:Bool}:decide (V.bl i=V.bl j)=(i==j):=by
 rw [Bool.eq_iff_iff]
 simp
theorem vb {i j:Str}:decide (V.str i=V.str j)=(i==j):=by
 rw [Bool.eq_iff_iff]
 simp
theorem vd {i j:Array UInt8}:decide (V.byt i=V.byt j)=(i.toList==j.toList):=by
 rw [Bool.eq_iff_iff]
 cases i
 cases j
 simp
section
variable {X:Cx} {a b c:Expr} {ta tb tc:TE} {pos:Pos}
theorem dH {pins:List (Addr×Obj)} {σ:St} {H:Hp} {s:Shared} {Q:VK} {k k':Bool} (I:Inv X pins σ H s) (q:Q (.bl k) H) (e:k=k'):EP X pins σ Q (.bool k') s:=by
 subst e
 exact ⟨.bl k,H,I,rfl,q⟩
theorem gd:OpR X (compareOp .Eq) rEq:=by
 intro pins s σ H x y v u Q I rx ry h
 obtain ⟨hs,q⟩:=h
 cases x with
 | non=>
   cases rx
   cases y with
   | non=>cases ry;exact PySem.EqNone.eq_none_none (dH I q (by simp))
   | bl j=>cases ry;exact PySem.EqNone.eq_none_bool (dH I q (by simp))
   | int j=>obtain ⟨t',rfl⟩:=ry;exact PySem.EqNone.eq_none_int (dH I q (by simp))
   | str j=>obtain ⟨t',rfl⟩:=ry;exact PySem.EqNone.eq_none_str (dH I q (by simp))
   | _=>exact absurd (show false=true from hs) Bool.false_ne_true
 | bl i=>
   cases rx
   cases y with
   | non=>cases ry;exact PySem.EqNone.eq_bool_none (dH I q (by simp))
   | bl j=>cases ry;exact eq_bool (dH I q xJ)
   | str j=>obtain ⟨t',rfl⟩:=ry;exact PySem.EqMixed.eq_bool_str (dH I q (by simp))
   | _=>exact absurd (show false=true from hs) Bool.false_ne_true
 | int i=>
   obtain ⟨t,rfl⟩:=rx
   cases y with
   | non=>cases ry;exact PySem.EqNone.eq_int_none (dH I q (by simp))
   | int j=>obtain ⟨t',rfl⟩:=ry;exact eq_int (dH I q vc)
   | str j=>obtain ⟨t',rfl⟩:=ry;exact PySem.EqMixed.eq_int_str (dH I q (by simp))
   | _=>exact absurd (show false=true from hs) Bool.false_ne_true
 | str i=>
   obtain ⟨t,rfl⟩:=rx
   cases y with
   | non=>cases ry;exact PySem.EqNone.eq_str_none (dH I q (by simp))
   | bl j=>cases ry;exact PySem.EqMixed.eq_str_bool (dH I q (by simp))
   | int j=>obtain ⟨t',rfl⟩:=ry;exact PySem.EqMixed.eq_str_int (dH I q (by simp))
   | str j=>obtain ⟨t',rfl⟩:=ry;exact eq_str (dH I q vb)
   | _=>exact absurd (show false=true from hs) Bool.false_ne_true
 | byt i=>
   obtain ⟨t,rfl⟩:=rx
   cases y with
   | byt j=>obtain ⟨t',rfl⟩:=ry;exact PySem.W.eq_bytes (dH I q vd)
   | _=>exact absurd (show false=true from hs) Bool.false_ne_true
 | _=>cases y<;>exact absurd (show false=true from hs) Bool.false_ne_true
theorem uL:OpR X (compareOp .NotEq) rNe:=by
 intro pins s σ H x y v u Q I rx ry h
 obtain ⟨hs,q⟩:=h
 cases x with
 | non=>
   cases rx
   cases y with
   | non=>cases ry;exact PySem.EqNone.ne_none_none (dH I q (by simp))
   | bl j=>cases ry;exact PySem.EqNone.ne_none_bool (dH I q (by simp))
   | int j=>obtain ⟨t',rfl⟩:=ry;exact PySem.EqNone.ne_none_int (dH I q (by simp))
   | str j=>obtain ⟨t',rfl⟩:=ry;exact PySem.EqNone.ne_none_str (dH I q (by simp))
   | _=>exact absurd (show false=true from hs) Bool.false_ne_true
 | bl i=>
   cases rx
   cases y with
   | non=>cases ry;exact PySem.EqNone.ne_bool_none (dH I q (by simp))
   | bl j=>cases ry;exact ne_bool (dH I q (congrArg not xJ))
   | str j=>obtain ⟨t',rfl⟩:=ry;exact PySem.EqMixed.ne_bool_str (dH I q (by simp))
   | _=>exact absurd (show false=true from hs) Bool.false_ne_true
 | int i=>
   obtain ⟨t,rfl⟩:=rx
   cases y with
   | non=>cases ry;exact PySem.EqNone.ne_int_none (dH I q (by simp))
   | int j=>obtain ⟨t',rfl⟩:=ry;exact ne_int (dH I q (congrArg not vc))
   | str j=>obtain ⟨t',rfl⟩:=ry;exact PySem.EqMixed.ne_int_str (dH I q (by simp))
   | _=>exact absurd (show false=true from hs) Bool.false_ne_true
 | str i=>
   obtain ⟨t,rfl⟩:=rx
   cases y with
   | non=>cases ry;exact PySem.EqNone.ne_str_none (dH I q (by simp))
   | bl j=>cases ry;exact PySem.EqMixed.ne_str_bool (dH I q (by simp))
   | int j=>obtain ⟨t',rfl⟩:=ry;exact PySem.EqMixed.ne_str_int (dH I q (by simp))
   | str j=>obtain ⟨t',rfl⟩:=ry;exact ne_str (dH I q (congrArg not vb))
   | _=>exact absurd (show false=true from hs) Bool.false_ne_true
 | byt i=>
   obtain ⟨t,rfl⟩:=rx
   cases y with
   | byt j=>obtain ⟨t',rfl⟩:=ry;exact PySem.W.ne_bytes (dH I q (congrArg not vd))
   | _=>exact absurd (show false=true from hs) Bool.false_ne_true
 | _=>cases y<;>exact absurd (show false=true from hs) Bool.false_ne_true
theorem uM:OpR X (compareOp .Lt) (rI0 fun i j=>.bl (decide (i < j))):=yw fun _ _ _ _ _ _ _ q=>lt_int q
theorem nc:OpR X (compareOp .LtE) (rI0 fun i j=>.bl (decide (i<=j))):=yw fun _ _ _ _ _ _ _ q=>le_int q
theorem iZ:OpR X (compareOp .Gt) (rI0 fun i j=>.bl (decide (j < i))):=yw fun _ _ _ _ _ _ _ q=>gt_int q
theorem AJ:OpR X (compareOp .GtE) (rI0 fun i j=>.bl (decide (j<=i))):=yw fun _ _ _ _ _ _ _ q=>ge_int q
theorem cn (b:Expr) {op:CmpOp} (h:op≠.In:=by decide) (h2:op≠.NotIn:=by decide):behindInMarks op b=false:=by
 have e1:(op==CmpOp.In)=false:=by cases op<;>first | rfl | exact absurd rfl h
 have e2:(op==CmpOp.NotIn)=false:=by cases op<;>first | rfl | exact absurd rfl h2
 cases b<;>simp [behindInMarks,e1,e2]
theorem nM {op:CmpOp} {r:R2} (ho:OpR X (compareOp op) r) (ha:PE X a ta) (hb:PE X b tb) (hm:behindInMarks op b=false):PE X (.Compare a [op] [b] pos) (tOp r ta tb):=by
 intro pins s σ H Q I h
 exact wpAny_Compare1 (A5 ha hb I h fun v u s2 x y H2 I2 rx ry q=>ho pins s2 σ H2 x y v u Q I2 rx ry q) hm
noncomputable def rD (t:TE):TT:=fun σ H Q=>t σ H fun x H'=>∃ k,x=.bl k/\Q k H'
theorem bB {op:CmpOp} {r:R2} (ho:OpR X (compareOp op) r) (ha:PE X a ta) (hb:PE X b tb) (hm:behindInMarks op b=false):PT X (.Compare a [op] [b] pos) (rD (tOp r ta tb)):=by
 intro pins s σ H Q I h
 refine wpAny_isTrue_Compare1 (thn (ha pins s σ H _ I h) fun v s1 ⟨x,H1,I1,r1,q1⟩=>thn (hb pins s1 σ H1 _ I1 q1) fun u s2 ⟨y,H2,I2,r2,q2⟩=>
  thn (ho pins s2 σ H2 x y v u _ I2 r1 r2 q2) fun c s3 ⟨z,H3,I3,r3,k,e,q3⟩=>?_) hm
 subst e
 cases r3
 exact wpAny_truthy_bool ⟨H3,I3,q3⟩
noncomputable def tF (r r':R2) (ta tb tc:TE):TE:=fun σ H Q=>ta σ H fun x H1=>tb σ H1 fun y H2=>r x y H2 fun z H3=>∃ k,z=.bl k/\
 (if k=true then tc σ H3 fun w' H4=>r' y w' H4 Q else Q (.bl false) H3)
theorem wW {op op':CmpOp} {r r':R2} (ho:OpR X (compareOp op) r) (ho':OpR X (compareOp op') r') (ha:PE X a ta) (hb:PE X b tb) (hc:PE X c tc)
  (hm:lastMarks [op,op'] [b,c]=false:=by with_unfolding_all rfl):PE X (.Compare a [op,op'] [b,c] pos) (tF r r' ta tb tc):=by
 intro pins s σ H Q I h
 refine Compare_chain (thn (ha pins s σ H _ I h) fun v s1 ⟨x,H1,I1,r1,q1⟩=>chain_link (thn (hb pins s1 σ H1 _ I1 q1) fun u s2 ⟨y,H2,I2,r2,q2⟩=>
  thn (ho pins s2 σ H2 x y v u _ I2 r1 r2 q2) fun d s3 ⟨z,H3,I3,r3,k,e,q3⟩=>?_)) hm
 subst e
 cases r3
 refine wpAny_truthy_bool ?_
 cases k with
 | false=>exact ite_ff ⟨.bl false,H3,I3,rfl,q3⟩
 | true=>exact ite_tt (chain_last (thn (hc pins s3 σ H3 _ I3 q3) fun w' s4 ⟨z',H4,I4,r4,q4⟩=>ho' pins s4 σ H4 y z' u w' Q I4 r2 r4 q4))
theorem oq {op op':CmpOp} {r r':R2} (ho:OpR X (compareOp op) r) (ho':OpR X (compareOp op') r') (ha:PE X a ta) (hb:PE X b tb) (hc:PE X c tc)
  (hm:lastMarks [op,op'] [b,c]=false:=by with_unfolding_all rfl):PT X (.Compare a [op,op'] [b,c] pos) (rD (tF r r' ta tb tc)):=by
 intro pins s σ H Q I h
 refine isTrue_chain (thn (ha pins s σ H _ I h) fun v s1 ⟨x,H1,I1,r1,q1⟩=>test_link (thn (hb pins s1 σ H1 _ I1 q1) fun u s2 ⟨y,H2,I2,r2,q2⟩=>
  thn (ho pins s2 σ H2 x y v u _ I2 r1 r2 q2) fun d s3 ⟨z,H3,I3,r3,k,e,q3⟩=>?_)) hm
 subst e
 cases r3
 refine wpAny_truthy_bool ?_
 cases k with
 | false=>
   obtain ⟨k',e',q'⟩:=q3
   cases e'
   exact ite_ff ⟨H3,I3,q'⟩
 | true=>
   refine ite_tt (test_last (thn (hc pins s3 σ H3 _ I3 q3) fun w' s4 ⟨z',H4,I4,r4,q4⟩=>thn (ho' pins s4 σ H4 y z' u w' _ I4 r2 r4 q4) fun d' s5 ⟨z2,H5,I5,r5,k2,e2,q5⟩=>?_))
   subst e2
   cases r5
   exact wpAny_truthy_bool ⟨H5,I5,q5⟩
theorem oP:(sizeLine:Nat) < 2 ^ 63:=by rw [sizeLine_eq];decide
theorem vals1 {x:V} {us:List Value} (r:Vals [x] us):∃ u,us=[u]/\RelV x u:=by
 cases r with
 | cons r1 r2=>cases r2;exact ⟨_,rfl,r1⟩
theorem vals2 {x y:V} {us:List Value} (r:Vals [x,y] us):∃ u w',us=[u,w']/\RelV x u/\RelV y w':=by
 cases r with
 | cons r1 r2=>
   cases r2 with
   | cons r3 r4=>cases r4;exact ⟨_,_,rfl,r1,r3⟩
theorem wd (hc:X.calm=true):qi X (.builtin "min") (fun xs H Q=>∃ i j,xs=[.int i,.int j]/\Q (.int (if j < i then j else i)) H):=by
 intro pins s σ H xs us Q I r h
 obtain ⟨i,j,rfl,q⟩:=h
 obtain ⟨u,w',rfl,⟨t,rfl⟩,⟨t',rfl⟩⟩:=vals2 r
 refine min_two_ints (I.ok.hd hc) fun h' tk k=>⟨_,H,I.kept k,?_,q⟩
 by_cases hj:j < i
 ·rw [if_pos hj,if_pos hj];exact ⟨_,rfl⟩
 ·rw [if_neg hj,if_neg hj];exact ⟨_,rfl⟩
end
end L2
namespace L2
open PySem PySem.Spec PyProof.Rows
structure uv (h:Heap) (x dx C:Addr) (mA:Str->Option Value):Prop where
 obj:h.get? x=some (PySem.W.instObj C dx)
 ns:h.Ns1 dx mA
 ne:dx≠x
theorem vT {h:Heap} {dx:Addr} {mA:Str->Option Value} (n:h.Ns1 dx mA):∃ od,h.get? dx=some od/\∀ name,PySem.W.lookIn name od=some (mA name):=by
 obtain ⟨o,es,ep,ho,hd,hk,_,hm⟩:=n
 refine ⟨o,ho,fun name=>?_⟩
 have e:=hm name
 unfold nsFind findBy at e
 rw [<-Array.find?_toList] at e
 unfold PySem.W.lookIn
 rw [hd]
 dsimp only
 split
 ·rename_i y q
  rw [q] at e
  exact congrArg some e
 ·rename_i q
  rw [q] at e
  have a:es.toList.any (·.refKey)=false:=by
   rw [List.any_eq_false]
   intro y hy
   obtain ⟨z,t,hkey⟩:=hk y (Array.mem_toList_iff.mp hy)
   simp [DictEntry.refKey,hkey]
  have a':¬es.toList.any (·.refKey)=true:=by rw [a];exact Bool.false_ne_true
  rw [if_neg a']
  exact congrArg some e
theorem uv.look {h:Heap} {x dx C:Addr} {mA:Str->Option Value} (I:uv h x dx C mA):∃ od,PySem.W.InstAt h x (PySem.W.instObj C dx) C (some od)/\∀ name,PySem.W.lookIn name od=some (mA name):=
 let ⟨od,ho,hl⟩:=vT I.ns
 ⟨od,⟨I.obj,rfl,rfl,ho⟩,hl⟩
section
variable {prog:Program} {w:World} {A:Around} {E:Value->Shared->Prop} {s:Shared} {K:PySem.W.Frag} {x dx C f:Addr} {mA:Str->Option Value} {name:Str} {v:Value}
theorem get_map {expr:Bool} {Q:Value->Shared->Prop} (X:K.In s.heap) (I:uv s.heap x dx C mA) (hg:PySem.W.plainGet K C name=true) (hh:PySem.W.hasDictIn K C=true)
  (ha:PySem.W.findIn K (.ref C) name=some none) (hv:mA name=some v) (hv':PySem.W.handedIn v=true) (h:Q v {s with toks:=s.toks+1}) :
  wpAny (model prog w) A (getAttr (.ref x) name expr) Q E s:=by
 obtain ⟨od,J,hl⟩:=I.look
 exact PySem.W.get_value X J (PySem.W.plainGet_of hg).1 (PySem.W.findObj_own hh ha rfl (by rw [hl,hv])) hv' h
theorem xx {pl:Sem Bool} {Q:Value×List Value->Shared->Prop} (X:K.In s.heap) (I:uv s.heap x dx C mA) (hg:PySem.W.plainGet K C name=true)
  (hf:PySem.W.findIn K (.ref C) name=some (some (.ref f))) (ht:PySem.W.isFn K (.ref f)=true) (hv:mA name=none) (h:Q (.ref f,[.ref x]) s) :
  wpAny (model prog w) A (getMethod (.ref x) name pl) Q E s:=by
 obtain ⟨od,J,hl⟩:=I.look
 exact PySem.W.method_fn X J (PySem.W.plainGet_of hg).1 (PySem.W.plainGet_of hg).2 hf (beq_iff_eq.mp ht) (by show (PySem.W.lookIn name od).map (·.isSome)=some false;rw [hl,hv];rfl) h
theorem yi {ns:List Str} {Q:Unit->Shared->Prop} (X:K.In s.heap) (I:uv s.heap x dx C mA)
  (hs:PySem.W.findIn K (.ref C) "__setattr__" = some (some (.builtin "object.__setattr__"))) (hp:PySem.W.plainOver K C=true) (ht:PySem.W.takerIn K C name=some none) (hh:PySem.W.hasDictIn K C=true)
  (hw:PySem.Within mA ns) (hsz:ns.length<=sizeLine)
  (h:∀ h',uv h' x dx C (fun y=>if y=name then some v else mA y)->Heap.SameBut dx s.heap h'->Q () {s with heap:=h',toks:=s.toks+2}) :
  wpAny (model prog w) A (setAttr (.ref x) name v) Q E s:=by
 obtain ⟨od,J,hl⟩:=I.look
 refine PySem.W.set_plain X J hs (PySem.W.osa_open (s:={s with toks:=s.toks+1}) (r:=none) X J hp ht fun b=>?_)
 obtain ⟨cd,hc,hd'⟩:=PySem.W.any_some hh
 have hx:s.heap.get? x=some ⟨.ref C,some dx,.plain,#[]⟩:=I.obj
 refine wpAny_bind (wpAny_pure (wpAny_bind (wpAny_bind (wpAny_loadPart hx (wpAny_bind (PySem.W.Looks.here (s:={s with toks:=s.toks+1}) (PySem.W.looks_clsIn X hc) ?_))))))
 rw [hd']
 refine wpAny_pure (a:=some dx) (wpAny_bind (wpAny_pure (wpAny_bind ?_)))
 refine wpAny_nsSet1 (s:={s with toks:=s.toks+1}) I.ns fun h' hn2 hs2=>?_
 obtain ⟨oD,esD,epD,hoD,hdD,hcD⟩:=hn2.count (PySem.Within.cons name v hw)
 refine wpAny_bind (wpAny_lookBehind hoD (by rw [hdD];exact pastItsLine_dict (Nat.le_trans hcD (by rw [List.length_cons];omega))) ?_)
 exact wpAny_pure (h _ ⟨(hs2.2 _ (Ne.symm I.ne)).trans I.obj,hn2,I.ne⟩ hs2)
theorem xj {R:Result->Shared->Prop} {vs:List Value} {kw:List (Str×Value)} (X:K.In s.heap) (hm:PySem.W.makesIn K C=true)
  (hi:PySem.W.findIn K (.ref C) "__init__" = some (some (.ref f))) (hf:PySem.W.typeIn K (.ref f)=some (.type "function"))
  (h:codeAny (model prog w) (A.under (.builtin "type.__call__" ⟨.ref C::vs,kw⟩)) (.call (.ref f) ⟨.ref (s.heap.objs.size+1)::vs,kw⟩) (PySem.W.InitBack (s.heap.objs.size+1) R)
   {s with heap:=(s.heap.push PySem.W.emptyDict).push (PySem.W.instObj C s.heap.objs.size)}) :
  codeAny (model prog w) A (.call (.ref C) ⟨vs,kw⟩) R s:=by
 obtain ⟨hh,g,d,t,os⟩:=s
 exact PySem.W.make_core (PySem.W.makes_of X hm) (PySem.W.looks_findIn X hi) (fun self=>PySem.W.bind_fn X self hf) (.inl rfl) h
end
noncomputable def gr (f:Str) (v:V):List (Str×V)->List (Str×V)
 | []=>[(f,v)]
 | (g,x)::r=>if g=f then (g,v)::r else (g,x)::gr f v r
theorem ng (f g:Str) (v:V):∀ fs:List (Str×V),(gr f v fs).lookup g=if g=f then some v else fs.lookup g
 | []=>by
   show List.lookup g [(f,v)]=_
   by_cases h:g=f
   ·have hb:(g==f)=true:=beq_iff_eq.mpr h
    simp only [List.lookup,hb,if_pos h]
   ·have hb:(g==f)=false:=beq_eq_false_iff_ne.mpr h
    simp only [List.lookup,hb,if_neg h]
 | (k,x)::r=>by
   have ih:=ng f g v r
   rw [show gr f v ((k,x)::r)=(if k=f then (k,v)::r else (k,x)::gr f v r) from rfl]
   by_cases hk:k=f
   ·rw [if_pos hk]
    by_cases h:g=k
    ·have hb:(g==k)=true:=beq_iff_eq.mpr h
     simp only [List.lookup,hb,if_pos (h.trans hk)]
    ·have hb:(g==k)=false:=beq_eq_false_iff_ne.mpr h
     simp only [List.lookup,hb,if_neg (fun e:g=f=>h (e.trans hk.symm))]
   ·rw [if_neg hk]
    by_cases h:g=k
    ·have hb:(g==k)=true:=beq_iff_eq.mpr h
     simp only [List.lookup,hb,if_neg (fun e:g=f=>hk (h.symm.trans e))]
    ·have hb:(g==k)=false:=beq_eq_false_iff_ne.mpr h
     simp only [List.lookup,hb]
     exact ih
theorem mS (f:Str) (v:V):∀ fs:List (Str×V),f ∈ (gr f v fs).map (·.1)/\∀ g,g ∈ fs.map (·.1)->g ∈ (gr f v fs).map (·.1)
 | []=>⟨by simp [gr],fun g h=>by simp at h⟩
 | (k,x)::r=>by
   obtain ⟨i1,i2⟩:=mS f v r
   rw [show gr f v ((k,x)::r)=(if k=f then (k,v)::r else (k,x)::gr f v r) from rfl]
   by_cases hk:k=f
   ·rw [if_pos hk]
    subst hk
    exact ⟨by simp,fun g h=>by simpa using h⟩
   ·rw [if_neg hk]
    refine ⟨?_,fun g h=>?_⟩
    ·rw [List.map_cons]
     exact List.mem_cons_of_mem _ i1
    ·rw [List.map_cons] at h ⊢
     rcases List.mem_cons.mp h with e | e
     ·exact List.mem_cons.mpr (.inl e)
     ·exact List.mem_cons_of_mem _ (i2 g e)
theorem nh (f:Str) (v:V):∀ fs:List (Str×V),(gr f v fs).length<=fs.length+1
 | []=>by simp [gr]
 | (k,x)::r=>by
   have ih:=nh f v r
   rw [show gr f v ((k,x)::r)=(if k=f then (k,v)::r else (k,x)::gr f v r) from rfl]
   by_cases hk:k=f
   ·rw [if_pos hk,List.length_cons,List.length_cons];omega
   ·rw [if_neg hk,List.length_cons,List.length_cons];omega
theorem lW.some_of {v:V} {o:Option Value} (r:lW (some v) o):∃ u,o=some u/\RelV v u:=by
 cases o with
 | none=>exact (show False from r).elim
 | some u=>exact ⟨u,rfl,r⟩
theorem lW.none_of {o:Option Value} (r:lW none o):o=none:=by
 cases o with
 | none=>rfl
 | some u=>exact (show False from r).elim
theorem vX {v:V} {u:Value} (r:RelV v u):PySem.W.handedIn u=true:=by
 cases v with
 | non=>cases (show u=Value.none from r);rfl
 | bl b=>cases (show u=Value.bool b from r);rfl
 | int i=>obtain ⟨t,e⟩:=(show ∃ t,u=Value.int i t from r);cases e;rfl
 | str x=>obtain ⟨t,e⟩:=(show ∃ t,u=Value.str x t from r);cases e;rfl
 | byt b=>obtain ⟨t,e⟩:=(show ∃ t,u=Value.bytes b t from r);cases e;rfl
 | flt b=>obtain ⟨t,e⟩:=(show ∃ t,u=Value.float b t from r);cases e;rfl
 | ref a=>cases (show u=Value.ref a from r);rfl
 | ty n=>cases (show u=Value.type n from r);rfl
section
variable {P:Program} {w:World} {H H':Hp} {h h':Heap} {a C dx:Addr} {fs fs':List (Str×V)}
theorem qT (hok:HOk P w H h) (e:H a=some (.ins C dx fs)):∃ mA,uv h a dx C mA/\(∀ f,lW (fs.lookup f) (mA f))/\PySem.Within mA (fs.map (·.1))/\fs.length<=1000/\H dx=some (.own a):=by
 obtain ⟨d,z,ne,ob,mA,n,r,q⟩:=(show gK P w H h a (.ins C dx fs) from hok a _ e)
 exact ⟨mA,⟨ob,n,ne⟩,r,q,z,d⟩
end
structure Cls (K:PySem.W.Frag) (C:Addr):Prop where
 pg:PySem.W.plainGet K C Str.empty=true
 hd:PySem.W.hasDictIn K C=true
 po:PySem.W.plainOver K C=true
 sa:PySem.W.findIn K (.ref C) "__setattr__" = some (some (.builtin "object.__setattr__"))
theorem Cls.get {K:PySem.W.Frag} {C:Addr} (c:Cls K C) (f:Str):PySem.W.plainGet K C f=true:=c.pg
noncomputable def dW (K:PySem.W.Frag) (C:Addr) (f:Str):Prop:=PySem.W.findIn K (.ref C) f=some none
theorem dW.Al {K:PySem.W.Frag} {C:Addr} {f:Str} (n:dW K C f):PySem.W.takerIn K C f=some none:=by
 unfold PySem.W.takerIn
 rw [show PySem.W.findIn K (.ref C) f=some none from n]
 rfl
structure Meth (K:PySem.W.Frag) (C:Addr) (m:Str) (f:Addr):Prop where
 at_:PySem.W.findIn K (.ref C) m=some (some (.ref f))
 fn:PySem.W.isFn K (.ref f)=true
 kp:PySem.W.keepIn K (.ref f)=true
section
variable {X:Cx} {pins:List (Addr×Obj)} {σ:St} {H:Hp} {s:Shared} {a C dx:Addr} {fs:List (Str×V)} {f:Str} {v:V} {A:Around} {E:Value->Shared->Prop}
theorem oW {b:Bool} {Q:Value->Shared->Prop} (I:Inv X pins σ H s) (e:H a=some (.ins C dx fs)) (c:Cls X.K C) (n:dW X.K C f) (l:fs.lookup f=some v)
  (h:∀ u s',Inv X pins σ H s'->RelV v u->Q u s'):wpAny (model X.prog X.w) A (getAttr (.ref a) f b) Q E s:=by
 obtain ⟨mA,O,r,_,_,_⟩:=qT I.hok e
 obtain ⟨u,hu,ru⟩:=lW.some_of (v:=v) (o:=mA f) (by rw [<-l];exact r f)
 exact get_map I.kIn O (c.get f) c.hd n hu (vX ru) (h u _ (I.tok _) ru)
theorem oV {m:Str} {g:Addr} {pl:Sem Bool} {Q:Value×List Value->Shared->Prop} (I:Inv X pins σ H s) (e:H a=some (.ins C dx fs)) (c:Cls X.K C) (k:Meth X.K C m g) (l:fs.lookup m=none)
  (h:Q (.ref g,[.ref a]) s):wpAny (model X.prog X.w) A (getMethod (.ref a) m pl) Q E s:=by
 obtain ⟨mA,O,r,_,_,_⟩:=qT I.hok e
 have hn:mA m=none:=lW.none_of (by rw [<-l];exact r m)
 exact xx I.kIn O (c.get m) k.at_ k.fn hn h
theorem og {y:V} {u:Value} {Q:Unit->Shared->Prop} (I:Inv X pins σ H s) (e:H a=some (.ins C dx fs)) (c:Cls X.K C) (n:dW X.K C f) (hl:fs.length < 1000) (ry:RelV y u)
  (h:∀ s',Inv X pins σ (upd H a (.ins C dx (gr f y fs))) s'->Q () s'):wpAny (model X.prog X.w) A (setAttr (.ref a) f u) Q E s:=by
 obtain ⟨mA,O,r,wi,_,ho⟩:=qT I.hok e
 have hz:(fs.map (·.1)).length<=sizeLine:=by rw [List.length_map,sizeLine_eq];omega
 refine yi I.kIn O c.sa c.po n.Al c.hd wi hz fun h' O' sb=>h _ ?_
 have hd:∃ o,h'.get? dx=some o:=let ⟨o,_,_,e',_⟩:=O'.ns;⟨o,e'⟩
 refine I.write (x:=a) (e:=dx) (by rw [e];exact True.intro) (.inr ho) (fun b q hb z=>(sb.2 b hb).trans z) hd ?_
 refine ⟨by rw [ax O.ne];exact ho,?_,O.ne,O'.obj,_,O'.ns,fun g=>?_,fun g hg=>?_⟩
 ·have:=nh f y fs;omega
 ·show lW ((gr f y fs).lookup g) (if g=f then some u else mA g)
  rw [ng]
  by_cases q:g=f
  ·rw [if_pos q,if_pos q];exact ry
  ·rw [if_neg q,if_neg q];exact r g
 ·by_cases q:g=f
  ·rw [q];exact (mS f y fs).1
  ·refine (mS f y fs).2 g (wi g fun z=>hg ?_)
   show (if g=f then some u else mA g)=none
   rw [if_neg q];exact z
theorem Inv.made (I:Inv X pins σ H s):Inv X pins σ (upd (upd H s.heap.objs.size (.own (s.heap.objs.size+1))) (s.heap.objs.size+1) (.ins C s.heap.objs.size []))
  {s with heap:=(s.heap.push PySem.W.emptyDict).push (PySem.W.instObj C s.heap.objs.size)}:=by
 have e1:(s.heap.push PySem.W.emptyDict).get? s.heap.objs.size=some PySem.W.emptyDict:=Heap.get?_push_size s.heap rfl
 have e2:((s.heap.push PySem.W.emptyDict).push (PySem.W.instObj C s.heap.objs.size)).get? (s.heap.objs.size+1)=some (PySem.W.instObj C s.heap.objs.size):=by
  have:=Heap.get?_push_size (s.heap.push PySem.W.emptyDict) (o:=PySem.W.instObj C s.heap.objs.size) rfl
  rwa [Heap.size_push] at this
 have e3:(s.heap.push PySem.W.emptyDict).Ns s.heap.objs.size (fun _=>none):=⟨PySem.W.emptyDict,#[],_,e1,rfl,(fun e he=>absurd he (by simp)),fun _=>rfl⟩
 have I1:=I.laid (a:=s.heap.objs.size) (o:=.own (s.heap.objs.size+1)) (h':=s.heap.push PySem.W.emptyDict) (t':=s.toks) (fun b u q=>Heap.get?_push_of_some _ q) (Nat.le_refl _) ⟨_,e1⟩
 refine I1.laid (a:=s.heap.objs.size+1) (o:=.ins C s.heap.objs.size []) (t':=s.toks) (fun b u q=>Heap.get?_push_of_some _ q) (Nat.le_of_eq (Heap.size_push _ _)) ?_
 have ne:s.heap.objs.size≠s.heap.objs.size+1:=Nat.ne_of_lt (Nat.lt_succ_self _)
 refine ⟨by rw [ax ne,aj],Nat.zero_le _,ne,e2,fun _=>none,(Heap.Ns1.of_empty e3).at fun o q=>Heap.get?_push_of_some _ q,fun _=>True.intro,fun y hy=>absurd rfl hy⟩
theorem yM {prog:Program} {w:World} {env:Env} {e:Expr} {f:Str} {pos:Pos} {s:Shared} {Q:Value->Shared->Prop} (hb:attributeBase e f env (eval e env)=eval e env)
  (h:wpAny (model prog w) A (eval e env) (fun o s₁=>wpAny (model prog w) A (getAttr o f true) Q E s₁) E s):wpAny (model prog w) A (eval (.Attribute e f pos) env) Q E s:=
 Attribute_any_ h (by rw [arm_eval_Attribute,hb])
end
noncomputable def jW (K:PySem.W.Frag) (ta:TE) (f:Str):TE:=fun σ H Q=>ta σ H fun x H1=>∃ a C dx fs v,x=.ref a/\H1 a=some (.ins C dx fs)/\Cls K C/\dW K C f/\fs.lookup f=some v/\Q v H1
noncomputable def Bj (K:PySem.W.Frag) (ta tv:TE) (f:Str):TS:=fun D σ H=>tv σ H fun y H1=>ta σ H1 fun x H2=>∃ a C dx fs,x=.ref a/\H2 a=some (.ins C dx fs)/\Cls K C/\dW K C f/\fs.length < 1000/\
 D.nx σ (upd H2 a (.ins C dx (gr f y fs)))
noncomputable def Ab (X:Cx) (op:Operator) (rd:V->V->Hp->VK->Prop):Prop:=
 ∀ (pins:List (Addr×Obj)) (s:Shared) (σ:St) (H:Hp) (x y:V) (u v:Value) (Q:VK),Inv X pins σ H s->RelV x u->RelV y v->rd x y H Q->wpAny (model X.prog X.w) X.A (inplaceOp op u v) (EP X pins σ Q) X.xe s
noncomputable def yk (K:PySem.W.Frag) (ta tv:TE) (rd:V->V->Hp->VK->Prop) (f:Str):TS:=fun D σ H=>ta σ H fun x H1=>∃ a C dx fs v,x=.ref a/\H1 a=some (.ins C dx fs)/\Cls K C/\dW K C f/\fs.lookup f=some v/\
 tv σ H1 fun y H2=>rd v y H2 fun z H3=>∃ dx' fs',H3 a=some (.ins C dx' fs')/\fs'.length < 1000/\D.nx σ (upd H3 a (.ins C dx' (gr f z fs')))
section
variable {X:Cx} {o e value:Expr} {f:Str} {pos pos' tpos:Pos} {ta tv:TE}
theorem ae (he:PE X e ta) (hb:attributeBase e f X.env (eval e X.env)=eval e X.env):PE X (.Attribute e f pos) (jW X.K ta f):=by
 intro pins s σ H Q I h
 refine yM hb (thn (he pins s σ H _ I h) fun u s1 ⟨x,H1,I1,rx,a,C,dx,fs,v,ex,ea,c,n,l,q⟩=>?_)
 subst ex
 obtain rfl:u=Value.ref a:=rx
 exact oW I1 ea c n l fun u' s2 I2 ru=>⟨v,H1,I2,ru,q⟩
theorem bA (ha:PE X o ta) (hv:PE X value tv) (hs:swapsWith value (some (.Attribute o f pos')) pos.line X.env=pure false):PS X (.Assign [.Attribute o f pos'] value pos) (Bj X.K ta tv f):=by
 intro pins s σ H D I h
 refine plainObj_wpAny_Assign_Attribute (thn (hv pins s σ H _ I h) fun u s1 ⟨y,H1,I1,ry,q⟩=>thn (ha pins s1 σ H1 _ I1 q) fun ov s2 ⟨x,H2,I2,rx,a,C,dx,fs,ex,ea,c,n,l,q2⟩=>?_) hs
 subst ex
 obtain rfl:ov=Value.ref a:=rx
 exact og I2 ea c n l ry fun s3 I3=>⟨σ,_,I3,q2⟩
theorem gA {op:Operator} {rd:V->V->Hp->VK->Prop} (ha:PE X o ta) (hv:PE X value tv) (hop:Ab X op rd):PS X (.AugAssign (.Attribute o f tpos) op value pos) (yk X.K ta tv rd f):=by
 intro pins s σ H D I h
 refine wpAny_AugAssign_AttributeAny (thn (ha pins s σ H _ I h) fun ov s1 ⟨x,H1,I1,rx,a,C,dx,fs,v,ex,ea,c,n,l,q⟩=>?_)
 subst ex
 obtain rfl:ov=Value.ref a:=rx
 refine oW I1 ea c n l fun u s2 I2 ru=>thn (hv pins s2 σ H1 _ I2 q) fun w3 s3 ⟨y,H2,I3,ry,q3⟩=>thn (hop pins s3 σ H2 v y u w3 _ I3 ru ry q3) fun w4 s4 ⟨z,H3,I4,rz,dx',fs',ea',l',q4⟩=>?_
 exact og I4 ea' c n l' rz fun s5 I5=>⟨σ,_,I5,q4⟩
noncomputable def Bs:V->V->Hp->VK->Prop:=fun x y H Q=>∃ i j,x=.int i/\y=.int j/\Q (.int (i+j)) H
noncomputable def Bm:V->V->Hp->VK->Prop:=fun x y H Q=>∃ i j,x=.int i/\y=.int j/\Q (.int (i - j)) H
theorem mU:Ab X .Add Bs:=by
 rintro pins s σ H x y u v Q I rx ry ⟨i,j,rfl,rfl,q⟩
 obtain ⟨t,rfl⟩:=(show ∃ t,u=Value.int i t from rx)
 obtain ⟨t',rfl⟩:=(show ∃ t',v=Value.int j t' from ry)
 exact PyProof.Rows.iadd_int ⟨.int (i+j),H,I.tok _,⟨_,rfl⟩,q⟩
theorem xu:Ab X .Sub Bm:=by
 rintro pins s σ H x y u v Q I rx ry ⟨i,j,rfl,rfl,q⟩
 obtain ⟨t,rfl⟩:=(show ∃ t,u=Value.int i t from rx)
 obtain ⟨t',rfl⟩:=(show ∃ t',v=Value.int j t' from ry)
 exact PyProof.Rows.isub_int ⟨.int (i - j),H,I.tok _,⟨_,rfl⟩,q⟩
end
section
variable {X:Cx} {pins:List (Addr×Obj)} {σ:St} {H:Hp} {s:Shared} {A:Around} {E:Value->Shared->Prop} {Q:Value->Shared->Prop} {c:Value} {b:Bool}
end
end L2
namespace L2
open PySem PySem.Spec PyProof.Rows
structure gJ (k:Nat) (A:Around):Prop where
 hd:A.handled=none
 dp:A.depth+3*k+5 < recursionLimit
 un:A.units+16*k+200 < cLine
theorem gJ.mono {j k:Nat} {A:Around} (r:gJ k A) (h:j<=k):gJ j A:=⟨r.hd,by have:=r.dp;omega,by have:=r.un;omega⟩
theorem gJ.deeper {k:Nat} {A:Around} (r:gJ (k+1) A) (env:Env):gJ k (A.deeper env):=
 ⟨r.hd,by have:=r.dp;show A.depth+1+3*k+5 < _;omega,by have:=r.un;show A.units+3+16*k+200 < _;omega⟩
theorem ue {A:Around} {C:Addr} {us:List Value} {kw:List (Str×Value)}:(A.under (.builtin "type.__call__" ⟨.ref C::us,kw⟩)).depth=A.depth+1:=by
 first | rfl | simp [Around.under,Code.weight,Code.isCreation,Code.isGuard,Code.isCaller,Code.frames,Code.isFrame,guardIds]
theorem ud {A:Around} {C:Addr} {us:List Value} {kw:List (Str×Value)}:(A.under (.builtin "type.__call__" ⟨.ref C::us,kw⟩)).units=A.units+1:=by
 first | rfl | simp [Around.under,Code.cUnits,Code.frames,Code.isFrame]
theorem gJ.make {k:Nat} {A:Around} (r:gJ (k+1) A) (C:Addr) (us:List Value) (kw:List (Str×Value)):gJ k (A.under (.builtin "type.__call__" ⟨.ref C::us,kw⟩)):=
 ⟨r.hd,by have:=r.dp;rw [ue];omega,by have:=r.un;rw [ud];omega⟩
theorem gJ.depth {k:Nat} {A:Around} (r:gJ k A):A.depth < recursionLimit:=by have:=r.dp;omega
theorem gJ.units {k:Nat} {A:Around} (r:gJ k A):A.units+64 < cLine:=by have:=r.un;omega
noncomputable def pB:TA:=fun _ H Q=>Q [] H
noncomputable def jX (ta:TE) (tr:TA):TA:=fun σ H Q=>ta σ H fun x H1=>tr σ H1 fun xs H2=>Q (x::xs) H2
section
variable {X:Cx} {e:Expr} {es:List Expr} {te:TE} {t:TA} {pos:Pos}
theorem af:PA X [] pB:=fun _ _ _ _ H Q I h=>Calls.spliced_nil ⟨[],H,I,.nil,h⟩
theorem yu (ha:PE X e te) (hr:PA X es t) (hs:starEach (e::es) X.env=(false,eval e X.env)::starEach es X.env:=by rfl):PA X (e::es) (jX te t):=by
 intro pos pins s σ H Q I h
 rw [hs]
 show wpAny _ _ (spliced ((false,eval e X.env)::backTo pos (starEach es X.env))) _ _ s
 refine Calls.spliced_cons (thn (ha pins s σ H _ I h) fun u s1 ⟨x,H1,I1,r1,q1⟩=>?_)
 exact thn (hr pos pins s1 σ H1 _ I1 q1) fun us s2 ⟨xs,H2,I2,r2,q2⟩=>⟨x::xs,H2,I2,.cons r1 r2,q2⟩
noncomputable def Bb (t:TA):TE:=fun σ H Q=>t σ H fun xs H1=>xs.length<=sizeLine/\∀ p,H1 p=none->Q (.ref p) (upd H1 p (.tup xs))
noncomputable def zd (t:TA):TE:=fun σ H Q=>t σ H fun xs H1=>xs.length<=sizeLine/\∀ p,H1 p=none->Q (.ref p) (upd H1 p (.lst xs))
theorem ki {x1} (h:PA X es t):PE X (.Tuple es x1 pos) (Bb t):=by
 intro pins s σ H Q I hq
 refine wpAny_Tuple_spliced (thn (h pos pins s σ H _ I hq) fun us s1 ⟨xs,H1,I1,r,z,q⟩=>⟨by rw [<-r.length];exact z,?_⟩)
 have hf:H1 s1.heap.objs.size=none:=I1.hok.fresh (Nat.le_refl _)
 refine ⟨.ref s1.heap.objs.size,upd H1 s1.heap.objs.size (.tup xs),I1.laid (t':=s1.toks) (fun b u e=>Heap.get?_push_of_some _ e) (Nat.le_refl _) ?_,rfl,q _ hf⟩
 exact ⟨z,us,r,⟨_,Heap.get?_push_size _ rfl,rfl,_,rfl⟩⟩
theorem bM (h:PA X es t):PE X (.List es pos) (zd t):=by
 intro pins s σ H Q I hq
 refine wpAny_List_spliced (thn (h pos pins s σ H _ I hq) fun us s1 ⟨xs,H1,I1,r,z,q⟩=>⟨by rw [<-r.length];exact z,?_⟩)
 have hf:H1 s1.heap.objs.size=none:=I1.hok.fresh (Nat.le_refl _)
 refine ⟨.ref s1.heap.objs.size,upd H1 s1.heap.objs.size (.lst xs),I1.laid (t':=s1.toks) (fun b u e=>Heap.get?_push_of_some _ e) (Nat.le_refl _) ?_,rfl,q _ hf⟩
 exact ⟨z,us,0,r,Heap.get?_push_size _ rfl⟩
end
abbrev Sp:=List V->Hp->VK->XK->Prop
abbrev CXT:=List Env->Hp->Shared->XK->Value->Shared->Prop
structure uw (P:Program) (w:World) (K:PySem.W.Frag) (mg:Str->Option Value) (base:Heap) (A:Around) (outer:List Env) (s:Shared) (H:Hp):Prop where
 frames:A.frames=some outer
 mod:Mod K mg base
 bs:∀ b o,base.get? b=some o->s.heap.get? b=some o/\H b=none
 bsz:base.objs.size<=s.heap.objs.size
 nD:s.heap.FunFrames base outer
 frf:∀ b ∈ frs outer,H b=none
 hok:HOk P w H s.heap
 bare:AllBare s.gens
noncomputable def CE (outer:List Env) (P:Program) (w:World) (H:Hp) (s:Shared) (Q:VK) (u:Value) (s':Shared):Prop:=
 ∃ v H',s'.os=s.os/\AllBare s'.gens/\Un (frs outer) [] H H' s.heap s'.heap/\HOk P w H' s'.heap/\RelV v u/\Q v H'
noncomputable def CR (CX:CXT) (outer:List Env) (P:Program) (w:World) (H:Hp) (s:Shared) (Q:VK) (E:XK) (r:Result) (s':Shared):Prop:=
 match r with
 | .ok (.ret u)=>CE outer P w H s Q u s'
 | .ok _=>False
 | .error e=>CX outer H s E e s'
structure cD (P:Program) (w:World) (K:PySem.W.Frag) (mg:Str->Option Value) (base:Heap) (CX:CXT) (k:Nat) (f:Addr) (fd:FuncData) (ps:List Str) (sp:Sp):Prop where
 len:∀ vs H Q E,sp vs H Q E->vs.length=ps.length
 run:∀ (A:Around) (outer:List Env) (s:Shared) (H:Hp) (args:Args) (us:List Value) (vs:List V) (Q:VK) (E:XK),gJ k A->uw P w K mg base A outer s H->BindsTo s fd args (ps.zip us)->Vals vs us->sp vs H Q E->
  codeAny (model P w) A (.call (.ref f) args) (CR CX outer P w H s Q E) s
theorem uw.make {P:Program} {w:World} {K:PySem.W.Frag} {mg:Str->Option Value} {base:Heap} {A:Around} {outer:List Env} {s:Shared} {H:Hp} (e:uw P w K mg base A outer s H) (C:Addr) (us:List Value) (kw:List (Str×Value)) :
  uw P w K mg base (A.under (.builtin "type.__call__" ⟨.ref C::us,kw⟩)) outer s H:=⟨by first | exact e.frames | (simpa [Around.under,Code.envs,Code.isFrame,pushEnvs] using e.frames),e.mod,e.bs,e.bsz,e.nD,e.frf,e.hok,e.bare⟩
section
variable {X:Cx} {pins:List (Addr×Obj)} {σ:St} {H:Hp} {s s':Shared}
theorem Inv.B3 (I:Inv X pins σ H s):uw X.prog X.w X.K X.mg X.base X.A X.stack s H:=
 ⟨I.ok.frames,I.ok.mod,I.bs,Nat.le_trans I.ok.bsz I.sz,I.stack,I.uz,I.hok,I.bare⟩
theorem Inv.after {Q:VK} {u:Value} (I:Inv X pins σ H s) (h:CE X.stack X.prog X.w H s Q u s'):EP X pins σ Q u s':=by
 obtain ⟨v,H',os,bare,un,hok,r,q⟩:=h
 obtain ⟨hh,g,d,t,os'⟩:=s'
 obtain rfl:os'=s.os:=os
 exact ⟨v,H',I.call (h':=hh) (g':=g) (d':=d) (t':=t) (ch:=[]) un hok bare (fun b z=>absurd z (by simp)),r,q⟩
end
noncomputable def As (sp:Sp) (dvs:List V) (E:XK) (t:TA):TE:=fun σ H Q=>t σ H fun vs H1=>sp (vs++dvs) H1 Q E
noncomputable def yU (C:Addr) (m:Str) (sp:Sp) (dvs:List V) (E:XK) (ta:TE) (t:TA):TE:=fun σ H Q=>ta σ H fun x H1=>∃ a dx fs,x=.ref a/\H1 a=some (.ins C dx fs)/\fs.lookup m=none/\
 t σ H1 fun vs H2=>sp (x::(vs++dvs)) H2 Q E
noncomputable def yV (C:Addr) (sp:Sp) (dvs:List V) (E:XK) (t:TA):TE:=fun σ H Q=>t σ H fun vs H1=>∀ x dx,H1 x=none->H1 dx=none->dx≠x->
 sp (.ref x::(vs++dvs)) (upd (upd H1 dx (.own x)) x (.ins C dx [])) (fun v H2=>v=.non/\Q (.ref x) H2) E
noncomputable def Binds (K:PySem.W.Frag) (fd:FuncData) (ps:List Str) (ds:List Value):Prop:=
 ∀ (s:Shared) (us:List Value),K.In s.heap->(us++ds).length=ps.length->BindsTo s fd ⟨us,[]⟩ (ps.zip (us++ds))
theorem Binds.all {K:PySem.W.Frag} {fd:FuncData} {ps:List Str} (h:∀ us:List Value,us.length=ps.length->bindArgs fd ⟨us,[]⟩=pure (ps.zip us)):Binds K fd ps []:=fun s us _ hl=>by
 rw [List.append_nil] at hl ⊢
 exact .of_eq (h us hl)
noncomputable def Passes (CX:CXT) (X:Cx) (E:XK):Prop:=∀ (pins:List (Addr×Obj)) (σ:St) (H:Hp) (s:Shared) (e:Value) (s':Shared),Inv X pins σ H s->CX X.stack H s E e s'->X.xe e s'
section
variable {X:Cx} {CX:CXT} {k:Nat} {f C:Addr} {fd:FuncData} {ps:List Str} {sp:Sp} {dvs:List V} {ds:List Value} {E:XK} {x m:Str} {p pos apos:Pos} {e o:Expr} {es:List Expr} {ta:TE} {t:TA}
theorem qy {pins:List (Addr×Obj)} {σ:St} {H:Hp} {s:Shared} {Q:VK} {us:List Value} {vs:List V} (F:cD X.prog X.w X.K X.mg X.base CX k f fd ps sp) (hr:gJ k X.A) (hb:Binds X.K fd ps ds) (hd:Vals dvs ds) (hx:Passes CX X E)
  (I:Inv X pins σ H s) (r:Vals vs us) (h:sp (vs++dvs) H Q E):wpAny (model X.prog X.w) X.A (call (.ref f) us) (EP X pins σ Q) X.xe s:=by
 have r2:Vals (vs++dvs) (us++ds):=r.append hd
 have hl:(us++ds).length=ps.length:=by rw [<-r2.length];exact F.len _ _ _ _ h
 refine wpAny_call (codeAny_mono (F.run X.A X.stack s H ⟨us,[]⟩ (us++ds) (vs++dvs) Q E hr I.B3 (hb s us I.kIn hl) r2 h) fun r s' hq=>?_)
 cases r with
 | error e=>exact hx pins σ H s e s' I hq
 | ok fl=>
   cases fl with
   | ret u=>exact I.after hq
   | next=>exact False.elim hq
   | brk=>exact False.elim hq
   | cont=>exact False.elim hq
theorem yt (F:cD X.prog X.w X.K X.mg X.base CX k f fd ps sp) (hr:gJ k X.A) (hg:Gl X x) (hm:X.mg x=some (.ref f)) (hk:PySem.W.keepIn X.K (.ref f)=true) (hb:Binds X.K fd ps ds) (hd:Vals dvs ds) (hx:Passes CX X E)
  (ha:PA X (e::es) t) (hdb:(x==("__debug__":Str))=false:=by decide) (he:starEach (e::es) X.env=(false,eval e X.env)::starEach es X.env:=by rfl) (hpl:(backTo pos (starEach es X.env)).any (·.1)=false:=by rfl) :
  PE X (.Call (.Name x p) (e::es) [] pos) (As sp dvs E t):=by
 intro pins s σ H Q I h
 refine wpAny_Call_Name_kw (nN I hg hm ?_ hdb)
 refine PySem.W.callWith_K (h₀:=X.base) I.ok.mod.kin hk (thn (ha pos pins s σ H _ I h) fun us s1 ⟨vs,H1,I1,r,q⟩=>⟨I1.kIn,?_⟩) he hpl
 exact qy F hr hb hd hx I1 r q
theorem uJ {pl:Sem Bool} (he:PE X o ta) (c:Cls X.K C) (hm:Meth X.K C m f) (F:cD X.prog X.w X.K X.mg X.base CX k f fd ps sp) (hr:gJ k X.A) (hb:Binds X.K fd ps ds) (hd:Vals dvs ds) (hx:Passes CX X E) (ha:PA X (e::es) t)
  (hst:starEach (e::es) X.env=(false,eval e X.env)::starEach es X.env:=by rfl) (hpl:(backTo pos (starEach es X.env)).any (·.1)=false:=by rfl)
  (ht:eval (.Call (.Attribute o m apos) (e::es) [] pos) X.env=(do
   let ov <-eval o X.env
   standAt apos.atName
   let (f,first) <-holding [ov] (getMethod ov m pl)
   callWith pos f first (backTo pos (starEach (e::es) X.env)) (backToKw pos (keywordEach [] X.env))):=by rfl) :
  PE X (.Call (.Attribute o m apos) (e::es) [] pos) (yU C m sp dvs E ta t):=by
 intro pins s σ H Q I h
 refine PySem.W.methodCall_KW (pl:=pl) (thn (he pins s σ H _ I h) fun u s1 ⟨x,H1,I1,rx,a,dx,fs,ex,ea,l,q⟩=>?_) ht
 subst ex
 obtain rfl:u=Value.ref a:=rx
 refine oV I1 ea c hm l ?_
 refine PySem.W.callWith_K (first:=[.ref a]) (h₀:=X.base) I.ok.mod.kin hm.kp (thn (ha pos pins s1 σ H1 _ I1 q) fun us s2 ⟨vs,H2,I2,r,q2⟩=>⟨I2.kIn,?_⟩) hst hpl
 exact qy (us:=.ref a::us) (vs:=.ref a::vs) F hr hb hd hx I2 (.cons rfl r) q2
theorem ox {pl:Sem Bool} (he:PE X o ta) (c:Cls X.K C) (hm:Meth X.K C m f) (F:cD X.prog X.w X.K X.mg X.base CX k f fd ps sp) (hr:gJ k X.A) (hb:Binds X.K fd ps ds) (hd:Vals dvs ds) (hx:Passes CX X E)
  (ht:eval (.Call (.Attribute o m apos) [] [] pos) X.env=(do
   let ov <-eval o X.env
   standAt apos.atName
   let (f,first) <-holding [ov] (getMethod ov m pl)
   callWith pos f first (backTo pos (starEach [] X.env)) (backToKw pos (keywordEach [] X.env))):=by rfl) :
  PE X (.Call (.Attribute o m apos) [] [] pos) (yU C m sp dvs E ta pB):=by
 intro pins s σ H Q I h
 refine PySem.W.methodCall_KW (pl:=pl) (thn (he pins s σ H _ I h) fun u s1 ⟨x,H1,I1,rx,a,dx,fs,ex,ea,l,q⟩=>?_) ht
 subst ex
 obtain rfl:u=Value.ref a:=rx
 refine oV I1 ea c hm l ?_
 exact PySem.W.callWith_K0 (first:=[.ref a]) I1.kIn hm.kp (qy (us:=[.ref a]) (vs:=[.ref a]) F hr hb hd hx I1 (.cons rfl .nil) q)
structure Mk (K:PySem.W.Frag) (C f:Addr):Prop where
 makes:PySem.W.makesIn K C=true
 init:PySem.W.findIn K (.ref C) "__init__" = some (some (.ref f))
 fn:PySem.W.isFn K (.ref f)=true
 kp:PySem.W.keepIn K (.ref C)=true
theorem rQ {pins:List (Addr×Obj)} {σ:St} {H:Hp} {s:Shared} {Q:VK} {us:List Value} {vs:List V} (M:Mk X.K C f) (F:cD X.prog X.w X.K X.mg X.base CX k f fd ps sp) (hr:gJ (k+1) X.A) (hb:Binds X.K fd ps ds) (hd:Vals dvs ds)
  (hx:Passes CX X E) (I:Inv X pins σ H s) (r:Vals vs us)
  (h:∀ x dx,H x=none->H dx=none->dx≠x->sp (.ref x::(vs++dvs)) (upd (upd H dx (.own x)) x (.ins C dx [])) (fun v H2=>v=.non/\Q (.ref x) H2) E) :
  wpAny (model X.prog X.w) X.A (call (.ref C) us) (EP X pins σ Q) X.xe s:=by
 have hq:=h (s.heap.objs.size+1) s.heap.objs.size (I.hok.fresh (Nat.le_succ _)) (I.hok.fresh (Nat.le_refl _)) (Nat.ne_of_lt (Nat.lt_succ_self _))
 have I2:=Inv.made (C:=C) I
 have r2:Vals (V.ref (s.heap.objs.size+1)::(vs++dvs)) (Value.ref (s.heap.objs.size+1)::(us++ds)):=.cons rfl (r.append hd)
 have hl:(Value.ref (s.heap.objs.size+1)::us++ds).length=ps.length:=by
  have e:=r2.length
  rw [F.len _ _ _ _ hq] at e
  exact e.symm
 refine wpAny_call (xj (f:=f) I.kIn M.makes M.init (beq_iff_eq.mp M.fn) (codeAny_mono (F.run _ X.stack _ _ ⟨Value.ref (s.heap.objs.size+1)::us,[]⟩ (Value.ref (s.heap.objs.size+1)::(us++ds)) _ _ E (hr.make C us [])
  (I2.B3.make C us []) (hb _ (Value.ref (s.heap.objs.size+1)::us) I2.kIn hl) r2 hq) fun r s' hq'=>?_))
 cases r with
 | error e=>exact hx pins σ _ _ e s' I2 hq'
 | ok fl=>
   cases fl with
   | ret u=>
     obtain ⟨v,H',I3,rv,ev,q3⟩:=I2.after hq'
     subst ev
     exact ⟨rv,⟨V.ref (s.heap.objs.size+1),H',I3,rfl,q3⟩⟩
   | next=>exact False.elim hq'
   | brk=>exact False.elim hq'
   | cont=>exact False.elim hq'
theorem yq (M:Mk X.K C f) (F:cD X.prog X.w X.K X.mg X.base CX k f fd ps sp) (hr:gJ (k+1) X.A) (hg:Gl X x) (hm:X.mg x=some (.ref C)) (hb:Binds X.K fd ps ds) (hd:Vals dvs ds) (hx:Passes CX X E)
  (ha:PA X (e::es) t) (hdb:(x==("__debug__":Str))=false:=by decide) (he:starEach (e::es) X.env=(false,eval e X.env)::starEach es X.env:=by rfl) (hpl:(backTo pos (starEach es X.env)).any (·.1)=false:=by rfl) :
  PE X (.Call (.Name x p) (e::es) [] pos) (yV C sp dvs E t):=by
 intro pins s σ H Q I h
 refine wpAny_Call_Name_kw (nN I hg hm ?_ hdb)
 refine PySem.W.callWith_K (h₀:=X.base) I.ok.mod.kin M.kp (thn (ha pos pins s σ H _ I h) fun us s1 ⟨vs,H1,I1,r,q⟩=>⟨I1.kIn,?_⟩) he hpl
 exact rQ M F hr hb hd hx I1 r q
theorem wV (M:Mk X.K C f) (F:cD X.prog X.w X.K X.mg X.base CX k f fd ps sp) (hr:gJ (k+1) X.A) (hg:Gl X x) (hm:X.mg x=some (.ref C)) (hb:Binds X.K fd ps ds) (hd:Vals dvs ds) (hx:Passes CX X E)
  (hdb:(x==("__debug__":Str))=false:=by decide):PE X (.Call (.Name x p) [] [] pos) (yV C sp dvs E pB):=by
 intro pins s σ H Q I h
 refine wpAny_Call_Name_kw (nN I hg hm ?_ hdb)
 exact PySem.W.callWith_K0 I.kIn M.kp (rQ (us:=[]) M F hr hb hd hx I .nil h)
end
section
variable {X:Cx} {CX:CXT} {k:Nat} {f C:Addr} {fd:FuncData} {ps ks:List Str} {sp:Sp} {E:XK} {x m:Str} {p pos apos kpos:Pos} {e o:Expr} {es:List Expr} {kws:List Keyword} {te ta:TE} {t tk:TA} {nm:Option Str}
variable {g:List Value->List Value->List Value} {gV:List V->List V->List V}
end
structure aC (N P:List Str) (sc:Scope):Prop where
 kind:sc.kind=.function
 co:sc.isCoroutine=false
 gen:sc.isGenerator=false
 nd:N.Nodup
 pre:N.take P.length=P
 par:∀ x ∈ P,sc.names.lookup x=some .local\/sc.names.lookup x=some .cell
 zP:∀ y ∈ sc.names,y.2≠.free
theorem qd {kindOf:Str->Option NameKind} {x:Str}:∀ {binds:List (Str×Value)} {m:Str->Option Value},(∀ v,(x,v) ∉ binds)->bindL kindOf binds m x=m x
 | [],_,_=>rfl
 | (n,v)::r,m,h=>by
   unfold bindL
   rw [qd fun w hw=>h w (List.mem_cons_of_mem _ hw)]
   split
   ·have:x≠n:=by rintro rfl;exact h v List.mem_cons_self
    simp [this]
   ·rfl
theorem qf {kindOf:Str->Option NameKind} {x:Str}:∀ {binds:List (Str×Value)} {m:Str->Option Value},(∀ v,(x,v) ∉ binds)->bindC kindOf binds m x=m x
 | [],_,_=>rfl
 | (n,v)::r,m,h=>by
   unfold bindC
   rw [qf fun w hw=>h w (List.mem_cons_of_mem _ hw)]
   split
   ·rfl
   ·have:x≠n:=by rintro rfl;exact h v List.mem_cons_self
    simp [this]
theorem qe {kindOf:Str->Option NameKind} {x:Str} {v:Value}:∀ {P:List Str} {vs:List Value} {i:Nat} {m:Str->Option Value},P.Nodup->P[i]? = some x->vs[i]? = some v->kindOf x=some .local->
  bindL kindOf (P.zip vs) m x=some v
 | [],_,_,_,_,h,_,_=>by simp at h
 | _::_,[],_,_,_,_,h,_=>by simp at h
 | p::P,w::vs,0,m,nd,h1,h2,hk=>by
   simp at h1 h2;subst h1;subst h2
   show bindL kindOf ((p,w)::P.zip vs) m p=_
   unfold bindL
   rw [qd fun v hv=>(List.nodup_cons.mp nd).1 (List.of_mem_zip hv).1,if_pos hk]
   simp
 | p::P,w::vs,i+1,m,nd,h1,h2,hk=>by
   show bindL kindOf ((p,w)::P.zip vs) m x=_
   unfold bindL
   exact qe (i:=i) (List.nodup_cons.mp nd).2 (by simpa using h1) (by simpa using h2) hk
theorem qg {kindOf:Str->Option NameKind} {x:Str} {v:Value}:∀ {P:List Str} {vs:List Value} {i:Nat} {m:Str->Option Value},P.Nodup->P[i]? = some x->vs[i]? = some v->kindOf x≠some .local->
  bindC kindOf (P.zip vs) m x=some v
 | [],_,_,_,_,h,_,_=>by simp at h
 | _::_,[],_,_,_,_,h,_=>by simp at h
 | p::P,w::vs,0,m,nd,h1,h2,hk=>by
   simp at h1 h2;subst h1;subst h2
   show bindC kindOf ((p,w)::P.zip vs) m p=_
   unfold bindC
   rw [qf fun v hv=>(List.nodup_cons.mp nd).1 (List.of_mem_zip hv).1,if_neg hk]
   simp
 | p::P,w::vs,i+1,m,nd,h1,h2,hk=>by
   show bindC kindOf ((p,w)::P.zip vs) m x=_
   unfold bindC
   exact qg (i:=i) (List.nodup_cons.mp nd).2 (by simpa using h1) (by simpa using h2) hk
noncomputable def start (N:List Str) (vs:List V):St:=vs.map some++List.replicate (N.length - vs.length) none
noncomputable def vY (CX:CXT) (P:Program) (w:World) (K:PySem.W.Frag) (mg:Str->Option Value) (base:Heap) (N:List Str) (qual:Str) (scope:Scope) (f:Addr) (cd:Value) (A:Around) (outer:List Env) (s:Shared) (H:Hp) (E:XK):Cx where
 prog:=P
 w:=w
 K:=K
 mg:=mg
 base:=base
 A:=A.deeper (envOfC qual scope s.heap.objs.size f cd)
 N:=N
 s_0:=s
 H_0:=H
 env:=envOfC qual scope s.heap.objs.size f cd
 outer:=outer
 stack:=envOfC qual scope s.heap.objs.size f cd::outer
 ex:=[]
 calm:=true
 fn:=fun _=>true
 pn:=[]
 xe:=fun e s'=>wpAny (model P w) (A.deeper (envOfC qual scope s.heap.objs.size f cd)) (leaving (envOfC qual scope s.heap.objs.size f cd) e) (fun _ s''=>CX outer H s E e s'') (fun e' s''=>CX outer H s E e' s'') s'
theorem sQ {sc:Scope} {n:Nat} {x:Str} (h:sc.names.lookup x=some .cell):∃ c,(cellsFrom n sc.names []).lookup x=some c:=by
 have q:=PySem.W.cellsFrom_some sc.names n [] (.inl h)
 exact Option.isSome_iff_exists.mp q
theorem vU {CX:CXT} {P:Program} {w:World} {K:PySem.W.Frag} {mg:Str->Option Value} {base:Heap} {N ps:List Str} {qual:Str} {scope:Scope} {f:Addr} {cd:Value} {A:Around} {outer:List Env} {s s1:Shared} {H:Hp} {E:XK} {us:List Value} {vs:List V}
  (S:aC N ps scope) (hd:A.handled=none) (e0:uw P w K mg base A outer s H) (hl:vs.length=ps.length) (r:Vals vs us)
  (x:InCallC s s.heap.objs.size (bindL (envOfC qual scope s.heap.objs.size f cd).kindOf (ps.zip us) fun _=>none) (cellsFrom (s.heap.objs.size+1) scope.names []) (bindC (envOfC qual scope s.heap.objs.size f cd).kindOf (ps.zip us) fun _=>none) s1) :
  Inv (vY CX P w K mg base N qual scope f cd A outer s H E) [] (start N vs) H s1:=by
 have hpl:ps.length<=N.length:=by have:=congrArg List.length S.pre;rw [List.length_take] at this;omega
 obtain ⟨h1,tk,rfl,hk⟩:=x.done
 have noA:∀ b:Addr,b ∉ (vY CX P w K mg base N qual scope f cd A outer s H E).ex:=fun b z=>absurd (show b ∈ ([]:List Addr) from z) (by simp)
 refine ⟨⟨e0.mod,S.kind,rfl,rfl,Nat.le_refl _,fun y z c h1 h2=>?_,fun y hy=>?_,fun y c _ h=>?_,fun _=>hd,Around.frames_deeper e0.frames,.inr ⟨rfl,rfl⟩,fun b z=>absurd z (noA b),e0.bs,e0.bsz,fun b _ _=>noA b,fun b z=>absurd z (noA b),e0.nD,e0.frf⟩,
  rfl,e0.bare,Un.kept hk,⟨_,x.toInCall.ns,fun i y v h1 h2 h3=>?_⟩,fun y c h=>⟨_,x.cell y c h⟩,e0.hok.fresh (Nat.le_refl _),fun y c h=>?_,fun p hp=>absurd (show p ∈ ([]:List (Addr×Obj)) from hp) (by simp),e0.hok.kept hk,?_⟩
 ·exact name_of_addr x.apart (PySem.mem_of_lookup h1) (PySem.mem_of_lookup h2)
 ·have hy:scope.names.lookup y=some .cell\/scope.names.lookup y=some .free:=hy
  rcases hy with hy | hy
  ·exact sQ hy
  ·exact absurd rfl (S.zP _ (PySem.mem_of_lookup hy))
 ·exact Nat.le_of_lt (x.above y c (PySem.mem_of_lookup h))
 ·have hi:i < vs.length:=by
   unfold start at h2
   by_cases hi:i < vs.length
   ·exact hi
   ·rw [List.getElem?_append_right (by simpa using hi)] at h2
    rw [List.getElem?_replicate] at h2
    split at h2<;>cases h2
  have ha:vs[i]? = some v:=by
   unfold start at h2
   rw [List.getElem?_append_left (by simpa using hi),List.getElem?_map] at h2
   cases e:vs[i]? with
   | none=>rw [e] at h2;cases h2
   | some a=>rw [e] at h2;cases h2;rfl
  obtain ⟨u,hu,rv⟩:=r.get ha
  have hp:ps[i]? = some y:=by
   rw [<-S.pre,List.getElem?_take_of_lt (by omega)];exact h1
  have ndP:ps.Nodup:=by rw [<-S.pre];exact S.nd.sublist (List.take_sublist _ _)
  refine ⟨u,rv,?_⟩
  rcases S.par y (List.mem_of_getElem? hp) with k | k
  ·exact .inl ⟨k,qe ndP hp hu k⟩
  ·obtain ⟨c,e⟩:=sQ (n:=s.heap.objs.size+1) k
   refine .inr ⟨.inl k,c,e,?_⟩
   have q:=x.cell y c e
   rw [qg ndP hp hu (by show scope.names.lookup y≠_;rw [k];decide)] at q
   exact q
 ·exact e0.hok.fresh (Nat.le_of_lt (x.above y c (PySem.mem_of_lookup h)))
 ·unfold start
  show _=N.length
  rw [List.length_append,List.length_map,List.length_replicate]
  omega
theorem AZ {CX:CXT} {P:Program} {w:World} {K:PySem.W.Frag} {mg:Str->Option Value} {base:Heap} {k:Nat} {f:Addr} {name qual:Str} {params:Arguments} {body:List Stmt} {scope:Scope} {dV kV doc pm cdv ct oc:Value} {an od:Option Addr}
  {osl:Array (Option Value)} {N ps:List Str} {sp:Sp} (lk:K.lookup f=some ⟨oc,od,.func (PySem.W.fnOf name qual params body scope dV kV doc pm an cdv ct),osl⟩) (hcd:PySem.W.codeIn K cdv qual=true) (S:aC N ps scope)
  (len:∀ vs H Q E,sp vs H Q E->vs.length=ps.length)
  (hbody:∀ (A:Around) (outer:List Env) (s:Shared) (H:Hp) (vs:List V) (Q:VK) (E:XK),gJ k (A.deeper (envOfC qual scope s.heap.objs.size f cdv))->sp vs H Q E->
   ∃ t,PSs (vY CX P w K mg base N qual scope f cdv A outer s H E) body t/\t {nx:=fun _ H'=>Q .non H',rt:=Q} (start N vs) H) :
  cD P w K mg base CX (k+1) f (PySem.W.fnOf name qual params body scope dV kV doc pm an cdv ct) ps sp:=by
 refine ⟨len,fun A outer s H args us vs Q E hr e0 hb r hsp=>?_⟩
 have hl:=len _ _ _ _ hsp
 have KX:K.In s.heap:=e0.mod.kin.keeps fun b o e=>(e0.bs b o e).1
 have lim:s.heap.NoLimit:=e0.mod.nolimit.keeps fun b o e=>(e0.bs b o e).1
 have hkind:∀ y ∈ ps.zip us,scope.names.lookup y.1=some .local\/(scope.names.lookup y.1=some .cell/\((cellsFrom (s.heap.objs.size+1) scope.names []).lookup y.1).isSome=true):=fun ⟨n,v⟩ hy=>by
  rcases S.par n (List.of_mem_zip hy).1 with q | q
  ·exact .inl q
  ·exact .inr ⟨q,PySem.W.cellsFrom_some _ _ _ (.inl q)⟩
 refine codeAny_call_function hr.depth (KX _ _ lk) rfl S.co S.gen rfl (PySem.W.codeRec_of KX hcd) (hb _ _ _ _ ?_)
 refine wpAny_newFunctionEnv_cells S.kind hkind fun env he s1 x=>?_
 subst he
 refine ⟨lim.keeps x.toInCall.keep,codeAny_func ?_⟩
 obtain ⟨t,ht,hq⟩:=hbody A outer s H vs Q E (hr.deeper _) hsp
 have I:Inv (vY CX P w K mg base N qual scope f cdv A outer s H E) [] (start N vs) H s1:=vU S hr.hd e0 hl r x
 refine wpAny_mono (ht [] s1 (start N vs) H _ I hq) (fun fl s' hs=>?_) fun e s' hs=>hs
 have fin:∀ {σ':St} {H':Hp} {v:V} {u:Value},Inv (vY CX P w K mg base N qual scope f cdv A outer s H E) [] σ' H' s'->RelV v u->Q v H'->CE outer P w H s Q u s':=
  fun {σ' H' v u} J rv q=>⟨v,H',J.os,J.bare,J.base,J.hok,rv,q⟩
 cases fl with
 | ret u=>
   obtain ⟨v,σ',H',J,rv,q⟩:=hs
   exact fin J rv q
 | next=>
   obtain ⟨σ',H',J,q⟩:=hs
   exact fin (v:=V.non) (u:=Value.none) J rfl q
 | brk=>
   obtain ⟨_,_,_,q⟩:=hs
   exact False.elim q
 | cont=>
   obtain ⟨_,_,_,q⟩:=hs
   exact False.elim q
end L2
namespace L2
open PySem PySem.Spec PyProof.Rows
section
variable {X:Cx} {x:Str} {p pos:Pos} {e:Expr} {es:List Expr} {t:TA} {id T:String} {r:List V->Hp->VK->Prop}
noncomputable def tCB (r:List V->Hp->VK->Prop) (t:TA):TE:=fun σ H Q=>t σ H fun vs H1=>r vs H1 Q
theorem aP (hc:qi X (.builtin id) r) (hg:Gl X x) (hm:X.mg x=none) (hv:bootBuiltins x=some (.builtin id)) (ha:PA X (e::es) t) (hn:x≠"__name__":=by decide) (hdb:(x==("__debug__":Str))=false:=by decide)
  (he:starEach (e::es) X.env=(false,eval e X.env)::starEach es X.env:=by rfl) (hpl:(backTo pos (starEach es X.env)).any (·.1)=false:=by rfl):PE X (.Call (.Name x p) (e::es) [] pos) (tCB r t):=by
 intro pins s σ H Q I h
 refine wpAny_Call_Name_kw (oT I hg hm hv ?_ hn hdb)
 exact PyProof.Rows.callWith_builtin1 (thn (ha pos pins s σ H _ I h) fun us s1 ⟨vs,H1,I1,r1,q1⟩=>hc pins s1 σ H1 vs us Q I1 r1 q1) he hpl
end
end L2
namespace HT
open PySem PyProof.Rows
noncomputable def lexLt:List Int->List Int->Bool
 | [],[]=>false
 | [],_::_=>true
 | _::_,[]=>false
 | x::xs,y::ys=>if x=y then lexLt xs ys else decide (x < y)
theorem gW (x y:Int) (xs ys:List Int):lexLt (x::xs) (y::ys)=if x=y then lexLt xs ys else decide (x < y):=rfl
theorem lB:lexLt [] []=false:=rfl
theorem oQ (y:Int) (ys:List Int):lexLt [] (y::ys)=true:=rfl
theorem oR (x:Int) (xs:List Int):lexLt (x::xs) []=false:=rfl
theorem xI (A:Around) (s:Shared) (a:Int) (t:Tok) (c:Int) (u:Tok):∃ e,SeqAt.EqAt A s (.int a t) (.int c u) e/\(e=true ↔ a=c):=
 ⟨(a==c),SeqAt.EqAt.int_int a t c u,by simp⟩
theorem wL (A:Around) (s:Shared) (a:Int) (t:Tok) (c:Int) (u:Tok) (prog:Program) (w:World) (E:Value->Shared->Prop) (Q:Value->Shared->Prop) (h:Q (.bool (decide (a < c))) s) :
  wpAny (model prog w) A (richCompare .Lt (.int a t) (.int c u)) Q E s:=
 (PyProof.Rows.lt_int h:wpAny (model prog w) A (compareOp .Lt (.int a t) (.int c u)) Q E s)
section
open PySem.SeqAt
open PySem.AutoSeq1 (wpAny_loadPart')
open PySem.MeetsSeq PySem.MeetsSeq2 PySem.MeetsSeq3
theorem pz (l b:Addr) (items items2:Array Value) (n n2:Nat) (dd dd2:Option Addr) (sl sl2:Array (Option Value)) (ns ms:List Int) (hi:IntsAre items.toList ns) (hj:IntsAre items2.toList ms) :
  Meets (Builtin.«tuple.__lt__» ⟨[.ref l,.ref b],[]⟩)
   (fun _ R s=>s.heap.get? l=some {cls:=.type "tuple",dict:=dd,data:=.seq items n,slots:=sl}/\s.heap.get? b=some {cls:=.type "tuple",dict:=dd2,data:=.seq items2 n2,slots:=sl2}/\
    R (.ok (.ret (.bool (lexLt ns ms)))) s):=
 .of_wp fun prog w A R s h=>by
  obtain ⟨hp,g,d,tk,os⟩:=s;obtain ⟨hl,hb,h⟩:=h
  have f2:=AutoSeq1.sub_tuple_tuple
  have z1:items.size=ns.length:=by rw [<-hi.length];simp
  have z2:items2.size=ms.length:=by rw [<-hj.length];simp
  wp_walk using wpAny_loadPart' hl,wpAny_loadPart' hb,wpAny_forIn_list _ (fun rest b s'=>b.1=none/\s'=⟨hp,g,d,tk,os⟩/\∃ (vs ws:List Value) (ns' ms':List Int),rest=vs.zip ws/\
   IntsAre vs ns'/\IntsAre ws ms'/\ns'.length+items2.size=ms'.length+items.size/\R (.ok (.ret (.bool (lexLt ns' ms')))) ⟨hp,g,d,tk,os⟩) _
  case turn=>
   rintro ⟨y,x⟩ rest b s' ⟨hb',rfl,vs,ws,ns',ms',hz,hvi,hwi,hlen,hR⟩
   cases hvi with
   | nil=>rw [List.zip_nil_left] at hz;cases hz
   | cons a t hvi'=>
     cases hwi with
     | nil=>rw [List.zip_nil_right] at hz;cases hz
     | cons c u hwi'=>
       rw [List.zip_cons_cons] at hz
       injection hz with hyx hrest
       injection hyx with hy hx
       subst hy hx
       rw [gW] at hR
       simp only [List.length_cons] at hlen
       obtain ⟨e,he,hiff⟩:=xI A.in1 ⟨hp,g,d,tk,os⟩ a t c u
       refine wpAny_bind (he prog w _ _ ?_)
       cases e with
       | true=>
         rw [if_pos (hiff.mp rfl)] at hR
         wp_walk
         exact ⟨rfl,rfl,_,_,_,_,hrest,hvi',hwi',by omega,hR⟩
       | false=>
         rw [if_neg (fun q=>absurd (hiff.mpr q) Bool.false_ne_true)] at hR
         have hri:=wL A.in1 ⟨hp,g,d,tk,os⟩ a t c u prog w
         wp_walk using hri
         exact ⟨_,rfl,by simpa using hR⟩
  case fin=>
   rintro ⟨b1,b2⟩ s' ⟨hb',rfl,vs,ws,ns',ms',hz,hvi,hwi,hlen,hR⟩
   simp only at hb'
   subst hb'
   have hv:lexLt ns' ms'=decide (items.size < items2.size):=by
    cases hvi with
    | nil=>
      cases hwi with
      | nil=>
        simp only [List.length_nil] at hlen
        rw [lB]
        exact (decide_eq_false (by omega)).symm
      | cons c u hw=>
        simp only [List.length_nil,List.length_cons] at hlen
        rw [oQ]
        exact (decide_eq_true (by omega)).symm
    | cons a t hv=>
      cases hwi with
      | nil=>
        simp only [List.length_nil,List.length_cons] at hlen
        rw [oR]
        exact (decide_eq_false (by omega)).symm
      | cons c u hw=>
        rw [List.zip_cons_cons] at hz
        cases hz
   rw [hv] at hR
   wp_walk
   exact ⟨_,rfl,by simpa [Builtin.Tuple.tupleCompareSizes] using hR⟩
  case h=>
   exact ⟨rfl,rfl,items.toList,items2.toList,ns,ms,rfl,hi,hj,by omega,h⟩
end
section
variable {prog:Program} {w:World} {A:Around} {E:Value->Shared->Prop} {s:Shared}
theorem uf {l b:Addr} {items items2:Array Value} {ns ms:List Int} {Q:Value->Shared->Prop} (hl:IsTup s.heap l items) (hb:IsTup s.heap b items2) (hi:IntsAre items.toList ns) (hj:IntsAre items2.toList ms)
  (hu:A.units < cLine) (h:Q (.bool (lexLt ns ms)) s):wpAny (model prog w) A (compareOp .Lt (.ref l) (.ref b)) Q E s:=by
 obtain ⟨⟨cls,dd,data,sl⟩,ho,hc,n,hd⟩:=id hl
 obtain ⟨⟨cls2,dd2,data2,sl2⟩,ho2,hc2,n2,hd2⟩:=id hb
 simp only at hc hd hc2 hd2
 subst hc hd hc2 hd2
 exact richCompare_meets_room (op:=.Lt) ⟨_,ho,rfl⟩ ⟨_,ho2,rfl⟩ PySem.F.slot_tuple_lt PySem.F.entry_tuple_lt (PySem.F.args_tuple_lt_2 _ _) (pz l b items items2 n n2 dd dd2 sl sl2 ns ms hi hj)
  ⟨ho,ho2,show Value.bool (lexLt ns ms)≠Value.notImplemented/\Q (.bool (lexLt ns ms)) s from ⟨(fun x=>nomatch x),h⟩⟩ hu
noncomputable def sIx (n d:Nat):Option Int->Nat
 | none=>d
 | some v=>if v < 0 then (v+(n:Int)).toNat else min v.toNat n
theorem iX (n d k:Nat):sIx n d (some (k:Int))=min k n:=by
 show (if (k:Int) < 0 then ((k:Int)+(n:Int)).toNat else min (k:Int).toNat n)=min k n
 rw [if_neg (by omega),Int.toNat_natCast]
end
end HT
namespace L2
open PySem PySem.Spec PyProof.Rows
abbrev TO:=St->Hp->(Option Int->Hp->Prop)->Prop
noncomputable def PO (X:Cx) (e:Option Expr) (t:TO):Prop:=
 ∀ (pins:List (Addr×Obj)) (s:Shared) (σ:St) (H:Hp) (Q:Option Int->Hp->Prop),Inv X pins σ H s->t σ H Q->
  wpAny (model X.prog X.w) X.A (evalPart e X.env) (fun u s'=>∃ o H',Inv X pins σ H' s'/\IsPart u o/\Q o H') X.xe s
noncomputable def Ao (t:TE):TO:=fun σ H Q=>t σ H fun x H1=>∃ i,x=.int i/\Q (some i) H1
theorem intsAre_of {ns:List Int}:∀ {us:List Value},Vals (ns.map V.int) us->IntsAre us ns:=by
 induction ns with
 | nil=>intro us r;rw [List.map_nil] at r;cases r;exact .nil
 | cons n ns ih=>
   intro us r
   rw [List.map_cons] at r
   cases r with
   | cons r1 r2=>
     obtain ⟨t,e⟩:=r1
     subst e
     exact .cons n t (ih r2)
section
variable {X:Cx} {e:Expr} {te:TE} {lo hi:Option Expr} {tl th:TO} {pos p2:Pos}
theorem kO (h:PE X e te):PO X (some e) (Ao te):=by
 intro pins s σ H Q I hw
 rw [evalPart_some]
 refine thn (h pins s σ H _ I hw) fun u s1 ⟨x,H1,I1,r1,q1⟩=>?_
 obtain ⟨i,rfl,q⟩:=q1
 obtain ⟨t,rfl⟩:=r1
 exact ⟨some i,H1,I1,.int i t,q⟩
noncomputable def SlR (X:Cx) (r:V->Option Int->Option Int->Hp->VK->Prop):Prop:=
 ∀ (pins:List (Addr×Obj)) (s:Shared) (σ:St) (H:Hp) (x:V) (v vl vu:Value) (lo hi:Option Int) (sl:Addr) (Q:VK),Inv X pins σ H s->RelV x v->s.heap.IsSliceOf sl vl vu .none->IsPart vl lo->IsPart vu hi->r x lo hi H Q->
  ∃ T id,typeLookup (.type T) "__getitem__" = pure (some (.builtin id))/\s.TypeIs v T/\wpAny (model X.prog X.w) X.A (getItem v (.ref sl)) (EP X pins σ Q) X.xe s
noncomputable def tSl (r:V->Option Int->Option Int->Hp->VK->Prop) (te:TE) (tl th:TO):TE:=fun σ H Q=>te σ H fun x H1=>tl σ H1 fun l H2=>th σ H2 fun u H3=>r x l u H3 Q
theorem ow {r:V->Option Int->Option Int->Hp->VK->Prop} (hr:SlR X r) (he:PE X e te) (hl:PO X lo tl) (hu:PO X hi th):PE X (.Subscript e (.Slice lo hi none p2) pos) (tSl r te tl th):=by
 intro pins s σ H Q I h
 refine Subscript_ (thn (he pins s σ H _ I h) fun v s1 ⟨x,H1,I1,r1,q1⟩=>?_)
 refine wpAny_Slice (thn (hl pins s1 σ H1 _ I1 q1) fun vl s2 ⟨l,H2,I2,pl,q2⟩=>thn (hu pins s2 σ H2 _ I2 q2) fun vu s3 ⟨u,H3,I3,pu,q3⟩=>?_)
 rw [evalPart_none]
 refine wpAny_pure ?_
 have I4:Inv X pins σ H3 {s3 with heap:=s3.heap.push {cls:=.type "slice",data:=.fields #[vl,vu,.none]}}:=I3.kept (t':=s3.toks) fun b ob q=>Heap.get?_push_of_some _ q
 obtain ⟨T,id,hT,ht,hg⟩:=hr pins {s3 with heap:=s3.heap.push {cls:=.type "slice",data:=.fields #[vl,vu,.none]}} σ H3 x v vl vu l u s3.heap.objs.size Q I4 r1 (Heap.IsSliceOf.new ..) pl pu q3
 show wpAny (model X.prog X.w) X.A (subscriptTail e (.Slice lo hi none p2) v (.ref s3.heap.objs.size)) (EP X pins σ Q) X.xe {s3 with heap:=s3.heap.push {cls:=.type "slice",data:=.fields #[vl,vu,.none]}}
 exact tail_any (ops:=[.ref s3.heap.objs.size,v]) ht hT hg (by with_unfolding_all rfl)
noncomputable def kI (xs:List V) (lo hi:Option Int):List V:=(xs.drop (HT.sIx xs.length 0 lo)).take (HT.sIx xs.length xs.length hi - HT.sIx xs.length 0 lo)
theorem sO (xs:List V) (lo hi:Option Int):(kI xs lo hi).length<=xs.length:=by
 unfold kI
 rw [List.length_take,List.length_drop]
 omega
end
end L2
namespace L2
open PySem PySem.Spec PyProof.Rows
noncomputable def ixN (n:Nat) (i:Int):Option Nat:=if 0<=i then (if i < n then some i.toNat else none) else if -(n:Int)<=i then some (i+n).toNat else none
noncomputable def atI {α:Type} (xs:List α) (i:Int):Option α:=(ixN xs.length i).bind fun j=>xs[j]?
theorem uX {n:Nat} {i:Int} {j:Nat} (h:ixN n i=some j):seqIndex? i n=some j/\j < n/\-(n:Int)<=i/\i < n:=by
 unfold ixN at h
 by_cases h0:0<=i
 ·rw [if_pos h0] at h
  by_cases h1:i < n
  ·rw [if_pos h1] at h
   have e:i.toNat=j:=Option.some.inj h
   exact ⟨by rw [seqIndex_of h0 h1,e],by omega,by omega,h1⟩
  ·rw [if_neg h1] at h;cases h
 ·rw [if_neg h0] at h
  by_cases h1:-(n:Int)<=i
  ·rw [if_pos h1] at h
   have e:(i+n).toNat=j:=Option.some.inj h
   exact ⟨by rw [seqIndex_neg (by omega) h1,e],by omega,h1,by omega⟩
  ·rw [if_neg h1] at h;cases h
theorem rj {α:Type} {xs:List α} {i:Int} {v:α} (h:atI xs i=some v):∃ j,seqIndex? i xs.length=some j/\xs[j]? = some v/\j < xs.length/\-(xs.length:Int)<=i/\i < xs.length:=by
 unfold atI at h
 cases e:ixN xs.length i with
 | none=>rw [e] at h;cases h
 | some j=>
   rw [e] at h
   obtain ⟨h1,h2,h3,h4⟩:=uX e
   exact ⟨j,h1,h,h2,h3,h4⟩
theorem bF {α:Type} {xs:List α} {j:Nat} {v:α} (h:xs[j]? = some v):atI xs (j:Int)=some v:=by
 have hj:j < xs.length:=(List.getElem?_eq_some_iff.mp h).1
 have e:ixN xs.length (j:Int)=some j:=by
  unfold ixN
  rw [if_pos (by omega),if_pos (by omega)];simp
 unfold atI;rw [e];exact h
noncomputable def yQ (b:Expr):Prop:=∀ o i,subscripted b false o i=operate [o,i] (getItem o i)
noncomputable def IxR (X:Cx) (r:R2):Prop:=
 ∀ (value slice:Expr) (pins:List (Addr×Obj)) (s:Shared) (σ:St) (H:Hp) (x y:V) (v u:Value) (Q:VK),Inv X pins σ H s->RelV x v->RelV y u->r x y H Q->
  subscripted slice false v u=operate [v,u] (getItem v u)->wpAny (model X.prog X.w) X.A (subscriptTail value slice v u) (EP X pins σ Q) X.xe s
noncomputable def MtR (X:Cx) (id:String) (r:V->List V->Hp->VK->Prop):Prop:=
 ∀ (pins:List (Addr×Obj)) (s:Shared) (σ:St) (H:Hp) (x:V) (xs:List V) (v:Value) (us:List Value) (Q:VK),Inv X pins σ H s->RelV x v->Vals xs us->r x xs H Q->
  wpAny (model X.prog X.w) X.A (call (.builtin id) (v::us)) (EP X pins σ Q) X.xe s
section
variable {X:Cx} {a b:Expr} {ta tb:TE} {pos:Pos}
theorem cB {r:R2} (hr:IxR X r) (ha:PE X a ta) (hb:PE X b tb) (hs:yQ b):PE X (.Subscript a b pos) (tOp r ta tb):=by
 intro pins s σ H Q I h
 exact Subscript_ (A5 ha hb I h fun v u s2 x y H2 I2 rx ry q=>hr a b pins s2 σ H2 x y v u Q I2 rx ry q (hs _ _))
noncomputable def zG (K:PySem.W.Frag):R2:=fun x y H Q=>∃ p xs i v,x=.ref p/\y=.int i/\SqL K H p xs/\atI xs i=some v/\Q v H
noncomputable def zF (K:PySem.W.Frag):R2:=fun x y H Q=>∃ p xs i v,x=.ref p/\y=.int i/\SqT K H p xs/\atI xs i=some v/\Q v H
theorem bo:IxR X (zG X.K):=by
 intro value slice pins s σ H x y v u Q I rx ry h hs
 obtain ⟨p,xs,i,z,rfl,rfl,hq,he,q⟩:=h
 cases rx
 obtain ⟨t,rfl⟩:=ry
 obtain ⟨its,r,pl,hz⟩:=I.list hq
 obtain ⟨j,h1,h2,h3,h4,h5⟩:=rj he
 obtain ⟨w,ew,rw'⟩:=r.get h2
 have hl:=r.length
 have hn:=oP
 have fin:EP X pins σ Q w s:=⟨z,H,I,rw',q⟩
 by_cases h0:0<=i
 ·have hj:i.toNat=j:=by
   rw [seqIndex_of h0 h5] at h1
   exact Option.some.inj h1
  exact item_listR pl.isList h0 (by omega) (by rw [hj];simpa using ew) fin hs
 ·have hj:(i+(its.toArray.size:Int)).toNat=j:=by
   rw [seqIndex_neg (by omega) h4] at h1
   rw [List.size_toArray,<-hl]
   exact Option.some.inj h1
  exact subscriptTail_builtinR (x:=w) pl.isList.typeIs slot_list_getitem.lookup
   (wpAny_getItem_list_neg (Q:=fun r s'=>r=w/\EP X pins σ Q r s') pl.isList (by omega) (by rw [List.size_toArray]<;>omega) (by omega) (by rw [hj];simpa using ew) ⟨rfl,fin⟩) hs
theorem lP:IxR X (zF X.K):=by
 intro value slice pins s σ H x y v u Q I rx ry h hs
 obtain ⟨p,xs,i,z,rfl,rfl,hq,he,q⟩:=h
 cases rx
 obtain ⟨t,rfl⟩:=ry
 obtain ⟨its,r,pl,hz⟩:=I.tuple hq
 obtain ⟨j,h1,h2,h3,h4,h5⟩:=rj he
 obtain ⟨w,ew,rw'⟩:=r.get h2
 have hl:=r.length
 have hn:=oP
 have fin:EP X pins σ Q w s:=⟨z,H,I,rw',q⟩
 exact subscriptTail_builtinR (x:=w) pl.typeIs slot_tuple_getitem.lookup
  (getItem_tuple (j:=j) (Q:=fun r s'=>r=w/\EP X pins σ Q r s') pl (by omega) (by omega) (by rw [List.size_toArray,<-hl];exact h1) (by simpa using ew) ⟨rfl,fin⟩) hs
theorem uc (its:List Value) (n j:Nat) (u:Value):Obj.mapSeq (·.setIfInBounds j u) {cls:=.type "list",data:=.seq its.toArray n} = {cls:=.type "list",data:=.seq (its.set j u).toArray n}:=by
 simp [Obj.mapSeq]
theorem Inv.lst {pins:List (Addr×Obj)} {σ:St} {H:Hp} {s:Shared} {p:Addr} {xs:List V} (I:Inv X pins σ H s) (h:H p=some (.lst xs)) :
  ∃ (its:List Value) (n:Nat),Vals xs its/\s.heap.get? p=some {cls:=.type "list",data:=.seq its.toArray n}/\xs.length<=sizeLine:=by
 obtain ⟨z,its,n,r,e⟩:=I.hok p _ h
 exact ⟨its,n,r,e,z⟩
theorem Inv.zR {pins:List (Addr×Obj)} {σ:St} {H:Hp} {s:Shared} {p:Addr} {xs ys:List V} {its its':List Value} {n n':Nat} {f:Obj->Obj} (I:Inv X pins σ H s) (h:H p=some (.lst xs))
  (ho:s.heap.get? p=some {cls:=.type "list",data:=.seq its.toArray n}) (hf:f {cls:=.type "list",data:=.seq its.toArray n} = {cls:=.type "list",data:=.seq its'.toArray n'}) (r:Vals ys its') (hz:ys.length<=sizeLine) (t:Nat) :
  Inv X pins σ (upd H p (.lst ys)) {s with heap:=s.heap.update p f,toks:=t}:=by
 have e:(s.heap.update p f).get? p=some {cls:=.type "list",data:=.seq its'.toArray n'}:=by
  rw [Heap.get?_update_self f ho (by rw [hf]<;>rfl),hf]
 refine I.write (x:=p) (e:=p) (by rw [h];trivial) (.inl rfl) (fun b u hb q=>(Heap.get?_update_other _ _ (Ne.symm hb)).trans q) ⟨_,e⟩ ?_
 exact ⟨hz,its',n',r,e⟩
noncomputable def yY:V->V->V->Hp->(Hp->Prop)->Prop:=fun o i v H Q=>∃ p xs k j,o=.ref p/\i=.int k/\H p=some (.lst xs)/\ixN xs.length k=some j/\Q (upd H p (.lst (xs.set j v)))
theorem set_list:B6 X yY:=by
 intro pins s σ H o i v ov iv u Q I ro ri rv h
 obtain ⟨p,xs,k,j,rfl,rfl,hp,hj,q⟩:=h
 cases ro
 obtain ⟨t,rfl⟩:=ri
 obtain ⟨its,n,r,ho,hz⟩:=I.lst hp
 obtain ⟨h1,h2,h3,h4⟩:=uX hj
 have hl:=r.length
 have hn:=oP
 have I':Inv X pins σ (upd H p (.lst (xs.set j v))) {s with heap:=s.heap.update p (Obj.mapSeq (·.setIfInBounds j u))}:=
  I.zR hp ho (uc its n j u) (r.set rv j) (by rw [List.length_set];exact hz) s.toks
 by_cases h0:0<=k
 ·have hk:k.toNat=j:=by
   rw [seqIndex_of h0 h4] at h1
   exact Option.some.inj h1
  exact PySem.W.ki_setAt ho h0 (by omega) (by rw [List.size_toArray,<-hl];exact h4) (by rw [hk];exact ⟨_,I',q⟩)
 ·have hk:(k+(its.toArray.size:Int)).toNat=j:=by
   rw [seqIndex_neg (by omega) h3] at h1
   rw [List.size_toArray,<-hl]
   exact Option.some.inj h1
  exact PySem.W.ki_setBack ho (by omega) (by rw [List.size_toArray,<-hl];exact h3) (by omega) (by rw [hk];exact ⟨_,I',q⟩)
theorem qu (lo hi:Option Int) (n:Nat):(sliceBounds lo hi none n).1=((HT.sIx n 0 lo:Nat):Int)/\(sliceBounds lo hi none n).2.1=((HT.sIx n n hi:Nat):Int)/\(sliceBounds lo hi none n).2.2=1:=by
 refine ⟨?_,?_,rfl⟩
 ·cases lo with
  | none=>simp [sliceBounds,HT.sIx]
  | some i=>
    simp only [sliceBounds,HT.sIx,Option.getD_none,show (1:Int) > 0 by decide,if_true]
    by_cases h:i < 0
    ·simp only [h,if_true]<;>omega
    ·simp only [h,if_false]<;>omega
 ·cases hi with
  | none=>simp [sliceBounds,HT.sIx]
  | some i=>
    simp only [sliceBounds,HT.sIx,Option.getD_none,show (1:Int) > 0 by decide,if_true]
    by_cases h:i < 0
    ·simp only [h,if_true]<;>omega
    ·simp only [h,if_false]<;>omega
theorem pC (its:List Value) (lo hi:Option Int):slicePick its.toArray lo hi none=((its.drop (HT.sIx its.length 0 lo)).take (HT.sIx its.length its.length hi - HT.sIx its.length 0 lo)).toArray:=by
 obtain ⟨h1,h2,h3⟩:=qu lo hi its.toArray.size
 unfold slicePick
 rw [h1,h2,h3]
 simp only [sliceRange_one,pick_run,List.size_toArray]<;>rfl
noncomputable def Bn (K:PySem.W.Frag):V->Option Int->Option Int->Hp->VK->Prop:=fun x lo hi H Q=>∃ a xs,x=.ref a/\SqL K H a xs/\∀ p,H p=none->Q (.ref p) (upd H p (.lst (kI xs lo hi)))
theorem qv:SlR X (Bn X.K):=by
 intro pins s σ H x v vl vu lo hi sl Q I rx hs pl pu h
 obtain ⟨a,xs,rfl,hx,q⟩:=h
 cases rx
 obtain ⟨its,r,ht,hz⟩:=I.list hx
 have hlen:=r.length
 refine ⟨"list",_,slot_list_getitem.lookup,ht.isList.typeIs,?_⟩
 refine wpAny_getItem_list_slice ht.isList hs pl pu .none (by simp) ?_ (by rw [List.size_toArray]<;>omega)
 rw [pC,<-hlen]
 refine ⟨.ref s.heap.objs.size,_,I.laid (t':=s.toks) (o:=.lst (kI xs lo hi)) (fun b ob q=>Heap.get?_push_of_some _ q) (Nat.le_refl _) ?_,rfl,q _ (I.hok.fresh (Nat.le_refl _))⟩
 exact ⟨Nat.le_trans (sO xs lo hi) hz,_,0,(r.drop (HT.sIx xs.length 0 lo)).take (HT.sIx xs.length xs.length hi - HT.sIx xs.length 0 lo),Heap.get?_push_size _ rfl⟩
noncomputable def my:V->Bool
 | .non=>true
 | .bl _=>true
 | .int _=>true
 | .str _=>true
 | _=>false
noncomputable def eqV:V->V->Bool
 | .non,.non=>true
 | .bl a,.bl b=>a==b
 | .bl a,.int b=>(if a then 1 else 0)==b
 | .int a,.bl b=>a==(if b then 1 else 0)
 | .int a,.int b=>a==b
 | .str a,.str b=>a==b
 | _,_=>false
theorem A1 {A:Around} {s:Shared} {y x:V} {u v:Value} (ry:RelV y u) (rx:RelV x v) (fy:my y=true) (fx:my x=true):SeqAt.EqAt A s u v (eqV y x):=by
 cases y with
 | non=>
   cases ry
   cases x with
   | non=>cases rx;exact SeqAt.EqAt.same _
   | bl b=>cases rx;exact SeqAt.EqAt.none_bool b
   | int b=>obtain ⟨t,rfl⟩:=rx;exact SeqAt.EqAt.none_int b t
   | str b=>obtain ⟨t,rfl⟩:=rx;exact SeqAt.EqAt.none_str b t
   | _=>exact absurd (show false=true from fx) Bool.false_ne_true
 | bl a=>
   cases ry
   cases x with
   | non=>cases rx;exact SeqAt.EqAt.bool_none a
   | bl b=>cases rx;exact SeqAt.EqAt.bool_bool a b
   | int b=>obtain ⟨t,rfl⟩:=rx;exact SeqAt.EqAt.bool_int a b t
   | str b=>obtain ⟨t,rfl⟩:=rx;exact SeqAt.EqAt.bool_str a b t
   | _=>exact absurd (show false=true from fx) Bool.false_ne_true
 | int a=>
   obtain ⟨t',rfl⟩:=ry
   cases x with
   | non=>cases rx;exact SeqAt.EqAt.int_none a t'
   | bl b=>cases rx;exact SeqAt.EqAt.int_bool a t' b
   | int b=>obtain ⟨t,rfl⟩:=rx;exact SeqAt.EqAt.int_int a t' b t
   | str b=>obtain ⟨t,rfl⟩:=rx;exact SeqAt.EqAt.int_str a t' b t
   | _=>exact absurd (show false=true from fx) Bool.false_ne_true
 | str a=>
   obtain ⟨t',rfl⟩:=ry
   cases x with
   | non=>cases rx;exact SeqAt.EqAt.str_none a t'
   | bl b=>cases rx;exact SeqAt.EqAt.str_bool a t' b
   | int b=>obtain ⟨t,rfl⟩:=rx;exact SeqAt.EqAt.str_int a t' b t
   | str b=>obtain ⟨t,rfl⟩:=rx;exact SeqAt.EqAt.str_str a t' b t
   | _=>exact absurd (show false=true from fx) Bool.false_ne_true
 | _=>exact absurd (show false=true from fy) Bool.false_ne_true
noncomputable def eqU (x:V) (u:Value):Bool:=match u with
 | .none=>eqV .non x
 | .bool b=>eqV (.bl b) x
 | .int i _=>eqV (.int i) x
 | .str z _=>eqV (.str z) x
 | _=>false
theorem xH {x y:V} {u:Value} (r:RelV y u) (f:my y=true):eqU x u=eqV y x:=by
 cases y with
 | non=>cases r;rfl
 | bl b=>cases r;rfl
 | int i=>obtain ⟨t,rfl⟩:=r;rfl
 | str z=>obtain ⟨t,rfl⟩:=r;rfl
 | _=>exact absurd (show false=true from f) Bool.false_ne_true
theorem rm {x:V}:∀ {xs:List V} {us:List Value},Vals xs us->xs.all my=true->us.any (eqU x)=xs.any fun y=>eqV y x
 | _,_,.nil,_=>rfl
 | y::xs,u::us,.cons r t,f=>by
   rw [List.all_cons,Bool.and_eq_true] at f
   rw [List.any_cons,List.any_cons,xH r f.1,rm t f.2]
theorem oM {A:Around} {s:Shared} {x:V} {v:Value} (rx:RelV x v) (fx:my x=true):∀ {xs:List V} {us:List Value},Vals xs us->xs.all my=true->∀ u ∈ us,SeqAt.EqAt A s u v (eqU x u)
 | _,_,.nil,_=>fun u hu=>by cases hu
 | y::xs,u::us,.cons r t,f=>fun u' hu=>by
   rw [List.all_cons,Bool.and_eq_true] at f
   rcases List.mem_cons.mp hu with rfl | hu
   ·rw [xH r f.1];exact A1 r rx f.1 fx
   ·exact oM rx fx t f.2 u' hu
noncomputable def inV (x:V) (xs:List V):Bool:=xs.any fun y=>eqV y x
noncomputable def rIn (K:PySem.W.Frag) (neg:Bool):R2:=fun x y H Q=>∃ p xs,y=.ref p/\(SqL K H p xs\/SqT K H p xs)/\my x=true/\xs.all my=true/\Q (.bl (if neg then !inV x xs else inV x xs)) H
theorem jf:OpR X (compareOp .In) (rIn X.K false):=by
 intro pins s σ H x y v u Q I rx ry h
 obtain ⟨p,xs,rfl,hq,fx,fs,q⟩:=h
 cases ry
 rcases hq with hq | hq
 ·obtain ⟨its,r,pl,hz⟩:=I.list hq
  refine SeqAt.in_listAt (eqU x) pl.isList (fun w hw=>oM rx fx r fs w (by simpa using hw)) ⟨.bl _,H,I,rfl,?_⟩
  rw [show its.toArray.any (eqU x)=its.any (eqU x) by simp,rm r fs]
  exact q
 ·obtain ⟨its,r,pl,hz⟩:=I.tuple hq
  refine SeqAt.in_tupleAt (eqU x) pl (fun w hw=>oM rx fx r fs w (by simpa using hw)) ⟨.bl _,H,I,rfl,?_⟩
  rw [show its.toArray.any (eqU x)=its.any (eqU x) by simp,rm r fs]
  exact q
theorem aD:qi X (.builtin "len") (fun xs H Q=>∃ p ys,xs=[.ref p]/\(SqL X.K H p ys\/SqT X.K H p ys)/\Q (.int ys.length) H):=by
 intro pins s σ H xs us Q I r h
 obtain ⟨p,ys,rfl,hq,q⟩:=h
 obtain ⟨u,rfl,rx⟩:=vals1 r
 cases rx
 have hn:=oP
 rcases hq with hq | hq
 ·obtain ⟨its,r',pl,hz⟩:=I.list hq
  have hlen:=r'.length
  exact Calls.call_len_list pl.isList (by simp only [List.size_toArray]<;>omega) ⟨.int ys.length,H,I.tok _,⟨s.toks+1,by rw [List.size_toArray,hlen]⟩,q⟩
 ·obtain ⟨its,r',pl,hz⟩:=I.tuple hq
  have hlen:=r'.length
  exact len_tuple pl (by simp only [List.size_toArray]<;>omega) ⟨.int ys.length,H,I.tok _,⟨s.toks+1,by rw [List.size_toArray,hlen]⟩,q⟩
noncomputable def tyV (K:PySem.W.Frag) (T:String) (x:V) (H:Hp):Prop:=match x with
 | .str _=>T="str"
 | .int _=>T="int"
 | .ref p=>(T="list"/\∃ xs,SqL K H p xs)\/(T="tuple"/\∃ o,K.lookup p=some o/\o.cls=.type "tuple"/\o.dict=none)\/
   (T="dict"/\((∃ kvs,H p=some (.dK kvs))\/∃ kvs,H p=some (.dT kvs)))\/(T="set"/\∃ S n,H p=some (.set S n))
 | _=>False
theorem zc {pins:List (Addr×Obj)} {σ:St} {H:Hp} {s:Shared} {T:String} {x:V} {v:Value} (I:Inv X pins σ H s) (r:RelV x v) (ty:tyV X.K T x H) :
  s.TypeIs v T/\∀ a,v=.ref a->∃ ob,s.heap.get? a=some ob/\ob.dict=none:=by
 cases x with
 | str z=>
   obtain ⟨t,rfl⟩:=r
   cases (show T="str" from ty)
   exact ⟨typeIs_str s z t,fun _ e=>nomatch e⟩
 | int i=>
   obtain ⟨t,rfl⟩:=r
   cases (show T="int" from ty)
   exact ⟨typeIs_int s i t,fun _ e=>nomatch e⟩
 | ref p=>
   cases r
   rcases ty with ⟨rfl,xs,hq⟩ | ⟨rfl,o,hk,hc,hd⟩ | ⟨rfl,hk⟩ | ⟨rfl,S,n,hk⟩
   ·obtain ⟨its,_,pl,_⟩:=I.list hq
    refine ⟨pl.isList.typeIs,fun a e=>?_⟩
    cases e
    obtain ⟨o,n,e,c,hd,_⟩:=pl
    exact ⟨o,e,hd⟩
   ·refine ⟨⟨o,I.kIn p o hk,hc⟩,fun a e=>?_⟩
    cases e
    exact ⟨o,I.kIn _ o hk,hd⟩
   ·have z:∃ o,s.heap.get? p=some o/\o.ExactDict:=by
     rcases hk with ⟨kvs,hk⟩ | ⟨kvs,hk⟩
     ·obtain ⟨_,_,_,_,o,_,_,e,ex,_⟩:=I.hok p _ hk
      exact ⟨o,e,ex⟩
     ·obtain ⟨_,_,_,_,o,_,_,e,ex,_⟩:=I.hok p _ hk
      exact ⟨o,e,ex⟩
    obtain ⟨o,e,ex⟩:=z
    refine ⟨⟨o,e,ex.1⟩,fun a e2=>?_⟩
    cases e2
    exact ⟨o,e,ex.2.1⟩
   ·obtain ⟨o,_,_,_,e,ex,_⟩:=I.hok p _ hk
    refine ⟨⟨o,e,ex.1⟩,fun a e2=>?_⟩
    cases e2
    exact ⟨o,e,ex.2.1⟩
 | _=>exact False.elim ty
noncomputable def tBM (K:PySem.W.Frag) (T:String) (r:V->List V->Hp->VK->Prop) (to:TE) (t:TA):TE:=fun σ H Q=>to σ H fun x H1=>tyV K T x H1/\t σ H1 fun xs H2=>r x xs H2 Q
variable {o e:Expr} {es:List Expr} {to:TE} {t:TA} {name:Str} {apos cpos:Pos} {T id:String} {r:V->List V->Hp->VK->Prop}
theorem jI (pa:PlainAttrs T) (slot:Slot T name id) (hty:typeOf (.builtin id)=pure (.type "method_descriptor")) (hm:MtR X id r) (ho:PE X o to) (ha:PA X (e::es) t)
  (hbase:attributeBase o name X.env (eval o X.env)=eval o X.env:=by rfl)
  (hfew:((backTo cpos (starEach (e::es) X.env)).all (fun x=>!x.1)&&(backToKw cpos (keywordEach [] X.env)).all (fun x=>x.1.isSome)
   &&decide ((e::es).length+([]:List Keyword).length+(if ([]:List Keyword).isEmpty then 0 else 1) < 30))=true:=by rfl)
  (hline:(apos.endLine==cpos.line)=true:=by rfl) (hs:starEach (e::es) X.env=(false,eval e X.env)::starEach es X.env:=by rfl) (hplain:(backTo cpos (starEach es X.env)).any (·.1)=false:=by rfl) :
  PE X (.Call (.Attribute o name apos) (e::es) [] cpos) (tBM X.K T r to t):=by
 intro pins s σ H Q I h
 refine wpAny_Call_method_late hbase hfew hline rfl (thn (ho pins s σ H _ I h) fun v s1 ⟨x,H1,I1,r1,ty,q1⟩=>?_)
 obtain ⟨h1,h2⟩:=zc I1 r1 ty
 refine ⟨T,id,pa,slot,hty,h1,h2,?_⟩
 have hA:=ha cpos pins s1 σ H1 _ I1 q1
 rw [hs] at hA ⊢
 refine Calls.callWith_builtin (by show (false||(backTo cpos (starEach es X.env)).any (·.1))=false;rw [hplain]<;>rfl) (Calls.evalArgs_plain ?_)
 exact thn hA fun us s2 ⟨vs,H2,I2,r2,q2⟩=>hm pins s2 σ H2 x vs v us Q I2 r1 r2 q2
end
end L2
namespace L2
open PySem PySem.Spec PyProof.Rows
noncomputable def MtM (X:Cx) (id:String) (r:V->List V->Hp->VK->Prop):Prop:=
 ∀ (pins:List (Addr×Obj)) (s:Shared) (σ:St) (H:Hp) (x:V) (xs:List V) (v:Value) (us:List Value) (Q:VK),Inv X pins σ H s->RelV x v->Vals xs us->r x xs H Q->
  wpAny (model X.prog X.w) X.A (call (.builtin id) (v::us)) (EP X pins σ Q) X.xe s
theorem Vals.one:∀ {x:V} {us:List Value},Vals [x] us->∃ u,us=[u]/\RelV x u
 | _,_,.cons r .nil=>⟨_,rfl,r⟩
theorem Vals.eraseIdx:∀ {xs:List V} {us:List Value} (i:Nat),Vals xs us->Vals (xs.eraseIdx i) (us.eraseIdx i)
 | _,_,_,.nil=>.nil
 | _,_,0,.cons _ t=>t
 | _,_,i+1,.cons r t=>.cons r (Vals.eraseIdx i t)
theorem Vals.rep {xs:List V} {us:List Value} (h:Vals xs us):∀ k:Nat,Vals (List.replicate k xs).flatten (List.replicate k us).flatten
 | 0=>.nil
 | k+1=>by
   rw [List.replicate_succ,List.replicate_succ,List.flatten_cons,List.flatten_cons]
   exact Vals.append h (Vals.rep h k)
theorem pZ {α:Type}:∀ (l:List α) (i:Nat),(l.eraseIdx i).length<=l.length
 | [],_=>Nat.le_refl _
 | _::_,0=>Nat.le_succ _
 | _::r,i+1=>Nat.succ_le_succ (pZ r i)
theorem foldl_rep (its:List Value):∀ (k:Nat) (acc:List Value),
  List.foldl (fun x1 x2=>x1++x2) acc.toArray (List.replicate k its.toArray)=(acc++(List.replicate k its).flatten).toArray
 | 0,acc=>by simp
 | k+1,acc=>by
   have e:acc.toArray++its.toArray=(acc++its).toArray:=by simp
   have e2:(acc++its)++(List.replicate k its).flatten=acc++(List.replicate (k+1) its).flatten:=by
    rw [List.replicate_succ,List.flatten_cons,List.append_assoc]
   rw [<-e2,<-foldl_rep its k (acc++its),<-e,List.replicate_succ,List.foldl_cons]
section
variable {X:Cx} {pins:List (Addr×Obj)} {σ:St} {H:Hp} {s:Shared} {l b:Addr} {xs ys zs:List V}
theorem Inv.zS {its its':List Value} {n:Nat} {f:Array Value->Array Value} {t':Nat} (I:Inv X pins σ H s) (hH:H l=some (.lst xs))
  (e:s.heap.get? l=some {cls:=.type "list",data:=.seq its.toArray n}) (hf:f its.toArray=its'.toArray) (hv:Vals ys its') (hz:ys.length<=sizeLine) :
  Inv X pins σ (upd H l (.lst ys)) {s with heap:=s.heap.update l (Obj.mapSeq f),toks:=t'}:=by
 have q:=PySem.IsL.update e f
 rw [hf] at q
 refine I.write (x:=l) (e:=l) (by rw [hH];exact trivial) (.inl rfl) (fun b' u hb hu=>(Heap.get?_update_other s.heap (Obj.mapSeq f) (Ne.symm hb)).trans hu) ⟨_,q⟩ ?_
 exact ⟨hz,its',_,hv,q⟩
theorem Inv.AQ {its:List Value} {t':Nat} (I:Inv X pins σ H s) (hv:Vals ys its) (hz:ys.length<=sizeLine) :
  Inv X pins σ (upd H s.heap.objs.size (.lst ys)) {s with heap:=s.heap.push {cls:=.type "list",data:=.seq its.toArray},toks:=t'}:=
 I.laid (fun _ _ q=>Heap.get?_push_of_some _ q) (Nat.le_refl _) ⟨hz,its,0,hv,Heap.get?_push_size _ rfl⟩
theorem Inv.fresh (I:Inv X pins σ H s):H s.heap.objs.size=none:=I.hok.fresh (Nat.le_refl _)
theorem Inv.ug (I:Inv X pins σ H s) (hH:H l=some (.lst xs)):xs.length<=sizeLine/\∃ (its:List Value) (n:Nat),Vals xs its/\xs.length=its.length/\s.heap.get? l=some {cls:=.type "list",data:=.seq its.toArray n}:=by
 obtain ⟨z,its,n,r,e⟩:=I.hok l _ hH
 exact ⟨z,its,n,r,r.length,e⟩
theorem so {n:Nat} (h:n<=sizeLine):Builtin.List.listTooLong n=false:=by
 unfold Builtin.List.listTooLong
 exact decide_eq_false (by omega)
end
section
variable {X:Cx}
noncomputable def uD:V->List V->Hp->VK->Prop:=fun x vs H Q=>∃ l xs y,x=.ref l/\vs=[y]/\H l=some (.lst xs)/\xs.length < sizeLine/\Q .non (upd H l (.lst (xs++[y])))
theorem gB:MtM X "list.append" uD:=by
 intro pins s σ H x vs v us Q I rx rv h
 obtain ⟨l,xs,y,rfl,rfl,hH,hz,q⟩:=h
 cases rx
 obtain ⟨u,rfl,ru⟩:=rv.one
 obtain ⟨z,its,n,r,hl,e⟩:=I.ug hH
 refine call_meets F.slot_list_append ⟨_,e,rfl⟩ F.entry_list_append (F.args_list_append_2 _ _) (PySem.list_append l its.toArray n u (by rw [List.size_toArray];omega)) ⟨e,?_⟩
 refine ⟨.non,_,I.zS (its':=its++[u]) hH e (by simp) (r.append (.cons ru .nil)) ?_,rfl,q⟩
 rw [List.length_append,List.length_singleton]
 omega
noncomputable def ym:V->List V->Hp->VK->Prop:=fun x vs H Q=>∃ l b xs zs,x=.ref l/\vs=[.ref b]/\H l=some (.lst xs)/\H b=some (.lst zs)/\xs.length+zs.length<=sizeLine/\Q .non (upd H l (.lst (xs++zs)))
theorem mR:MtM X "list.extend" ym:=by
 intro pins s σ H x vs v us Q I rx rv h
 obtain ⟨l,b,xs,zs,rfl,rfl,hH,hB,hz,q⟩:=h
 cases rx
 obtain ⟨u,rfl,ru⟩:=rv.one
 cases ru
 obtain ⟨z,its,n,r,hl,e⟩:=I.ug hH
 obtain ⟨z2,its2,n2,r2,hl2,e2⟩:=I.ug hB
 have hsz:its.toArray.size+its2.toArray.size<=sizeLine:=by rw [List.size_toArray,List.size_toArray];omega
 have hlong:¬(!its.toArray.isEmpty&&Builtin.List.listTooLong (its.toArray.size+its2.toArray.size))=true:=by
  rw [so hsz,Bool.and_false]
  exact Bool.false_ne_true
 refine call_meets F.slot_list_extend ⟨_,e,rfl⟩ F.entry_list_extend (F.args_list_extend_2 _ _)
  (AutoSeq1.list_extend_list_list_0 l its.toArray n b its2.toArray n2 hlong (by rw [List.size_toArray];omega) (by omega)) ⟨e,e2,?_⟩
 refine ⟨.non,_,I.zS (its':=its++its2) hH e (by simp) (r.append r2) ?_,rfl,q⟩
 rw [List.length_append]
 omega
noncomputable def zz:V->List V->Hp->VK->Prop:=fun x vs H Q=>∃ l xs i k y,x=.ref l/\vs=[.int i]/\H l=some (.lst xs)/\-(2 ^ 63)<=i/\i < 2 ^ 63/\seqIndex? i xs.length=some k/\xs[k]? = some y/\Q y (upd H l (.lst (xs.eraseIdx k)))
theorem xa:MtM X "list.pop" zz:=by
 intro pins s σ H x vs v us Q I rx rv h
 obtain ⟨l,xs,i,k,y,rfl,rfl,hH,h1,h2,hk,hy,q⟩:=h
 cases rx
 obtain ⟨u,rfl,ru⟩:=rv.one
 obtain ⟨t,rfl⟩:=ru
 obtain ⟨z,its,n,r,hl,e⟩:=I.ug hH
 obtain ⟨w,hw,rw'⟩:=r.get hy
 refine call_meets F.slot_list_pop ⟨_,e,rfl⟩ F.entry_list_pop (F.args_list_pop_2 _ _)
  (MeetsSeq.list_pop_at l its.toArray n i t k w (fitsIndex_both h1 h2) (by rw [List.size_toArray,<-hl];exact hk) (by rw [<-Array.getElem?_toList];exact hw) (by rw [List.size_toArray];omega)) ⟨e,?_⟩
 refine ⟨y,_,I.zS (its':=its.eraseIdx k) hH e ?_ (r.eraseIdx k) ?_,rw',q⟩
 ·show its.toArray.eraseIdxIfInBounds k=(its.eraseIdx k).toArray
  rw [List.eraseIdxIfInBounds_toArray]
 ·have:=pZ xs k
  omega
noncomputable def Bq:R2:=fun x y H Q=>∃ l b xs zs,x=.ref l/\y=.ref b/\H l=some (.lst xs)/\H b=some (.lst zs)/\xs.length+zs.length<=sizeLine/\∀ p,H p=none->Q (.ref p) (upd H p (.lst (xs++zs)))
theorem km:OpR X (binaryOp .Add) Bq:=by
 intro pins s σ H x y v u Q I rx ry h
 obtain ⟨l,b,xs,zs,rfl,rfl,hH,hB,hz,q⟩:=h
 cases rx
 cases ry
 obtain ⟨z,its,n,r,hl,e⟩:=I.ug hH
 obtain ⟨z2,its2,n2,r2,hl2,e2⟩:=I.ug hB
 refine PySem.P.add_list e e2 ?_ (by rw [List.size_toArray,List.size_toArray];omega)
 have ea:its.toArray++its2.toArray=(its++its2).toArray:=by simp
 rw [ea]
 exact ⟨.ref _,_,I.AQ (t':=s.toks) (r.append r2) (by rw [List.length_append];omega),rfl,q _ I.fresh⟩
noncomputable def Bo:R2:=fun x y H Q=>∃ l k xs,x=.ref l/\y=.int k/\H l=some (.lst xs)/\-(2 ^ 63)<=k/\k < 2 ^ 63/\xs.length*k.toNat<=sizeLine/\
 ∀ p,H p=none->Q (.ref p) (upd H p (.lst (List.replicate k.toNat xs).flatten))
theorem len_rep {α:Type} (xs:List α) (k:Nat):(List.replicate k xs).flatten.length=k*xs.length:=by
 induction k with
 | zero=>simp
 | succ k ih=>rw [List.replicate_succ,List.flatten_cons,List.length_append,ih,Nat.succ_mul,Nat.add_comm]
theorem wX:OpR X (binaryOp .Mult) Bo:=by
 intro pins s σ H x y v u Q I rx ry h
 obtain ⟨l,k,xs,rfl,rfl,hH,h1,h2,hz,q⟩:=h
 cases rx
 obtain ⟨t,rfl⟩:=ry
 obtain ⟨z,its,n,r,hl,e⟩:=I.ug hH
 have hlen:its.toArray.size*k.toNat<=sizeLine:=by rw [List.size_toArray,<-hl];exact hz
 have hcap:¬its.toArray.size*k.toNat > (2 ^ 63 - 1) / 8:=by
  have:(sizeLine:Nat)<=(2 ^ 63 - 1) / 8:=by decide
  omega
 have hfit:¬(!Builtin.List.listFitsIndex k)=true:=by
  rw [fitsIndex_both h1 h2]
  exact Bool.false_ne_true
 have hlong:¬Builtin.List.listTooLong (its.toArray.size*k.toNat)=true:=by
  rw [so hlen]
  exact Bool.false_ne_true
 have hnew:List.foldl (fun x1 x2=>x1++x2) #[] (List.replicate (if its.toArray.isEmpty=true then 0 else k.toNat) its.toArray)=(List.replicate k.toNat its).flatten.toArray:=by
  have f0:∀ m:Nat,List.foldl (fun x1 x2=>x1++x2) #[] (List.replicate m its.toArray)=(List.replicate m its).flatten.toArray:=fun m=>by
   have:=foldl_rep its m []
   rw [List.nil_append] at this
   exact this
  rw [f0]
  cases its with
  | nil=>simp
  | cons a r'=>rw [if_neg (by simp)]
 refine wpAny_binaryOp_repeat_ref (T:="list") (U:="int") (by decide) ⟨_,e,rfl⟩ (fun s'=>typeIs_int s' k t) noFill_list_mul F.fills_int_mul F.slot_int_rmul repeat_list F.slot_int_index.lookup
  (call_meets F.slot_int_rmul (typeIs_int s k t) F.entry_int_rmul (F.args_int_rmul_2 _ _) (int___rmul___int_list k t l its.toArray n)
   ⟨e,rfl,⟨_,e,rfl⟩,call_meets F.slot_list_mul ⟨_,e,rfl⟩ F.entry_list_mul (F.args_list_mul_2 _ _) (AutoListH.list___mul___list_int_3 l its.toArray n k t hfit hcap hlong) ⟨e,?_⟩⟩)
 rw [hnew]
 exact ⟨.ref _,_,I.AQ (t':=s.toks) (r.rep k.toNat) (by rw [len_rep,Nat.mul_comm];exact hz),rfl,q _ I.fresh⟩
end
section
variable {prog:Program} {w:World} {A:Around} {E:Value->Shared->Prop} {s:Shared}
end
section
variable {X:Cx}
end
end L2
namespace L2
open PySem PySem.Spec PyProof.Rows
theorem Vals.ints:∀ {ns:List Int} {us:List Value},Vals (ns.map V.int) us->IntsAre us ns
 | [],us,h=>by
   rw [List.map_nil] at h
   cases h
   exact IntsAre.nil
 | n::ns,us,h=>by
   rw [List.map_cons] at h
   cases h with
   | cons r t=>
     obtain ⟨k,rfl⟩:=r
     exact IntsAre.cons n k (Vals.ints t)
theorem Vals.bls:∀ {bs:List Bool} {us:List Value},Vals (bs.map V.bl) us->us=bs.map Value.bool
 | [],us,h=>by
   rw [List.map_nil] at h
   cases h
   rfl
 | b::bs,us,h=>by
   rw [List.map_cons] at h
   cases h with
   | cons r t=>
     cases r
     rw [Vals.bls t,List.map_cons]
theorem Vals.zw {a:Addr} {us:List Value} (r:Vals [V.ref a] us):us=[Value.ref a]:=by
 cases r with
 | cons r t=>
   cases t
   cases r
   rfl
section
variable {prog:Program} {w:World} {A:Around} {E:Value->Shared->Prop} {s:Shared} {l:Addr} {its:List Value} {ns:List Int} {Q:Value->Shared->Prop}
theorem y3 (hh:A.handled=none) (hl:s.heap.IsList l its.toArray) (hi:IntsAre its ns)
  (h:∀ h' tk t',(∀ b o,s.heap.get? b=some o->h'.get? b=some o)->Q (.int ns.sum t') {s with heap:=h',toks:=tk}):wpAny (model prog w) A (call (.builtin "sum") [.ref l]) Q E s:=by
 obtain ⟨xs,e⟩:=hi.allInts.items
 have hn:numsOf (intItems xs).toList=ns:=by rw [<-e];exact hi.numsOf
 rw [nums_intItems] at hn
 rw [e] at hl
 refine PySem.sum_intListG hh hl fun h' tk t' hk=>?_
 have:=h h' tk t' hk
 rw [preSum_eq,List.take_of_length_le (by simp),hn];exact this
end
section
variable {X:Cx}
noncomputable def Bl (K:PySem.W.Frag):List V->Hp->VK->Prop:=fun vs H Q=>∃ (a:Addr) (ns:List Int),vs=[V.ref a]/\SqL K H a (ns.map V.int)/\Q (.int ns.sum) H
theorem kJ (hc:X.calm=true):qi X (.builtin "sum") (Bl X.K):=by
 intro pins s σ H vs us Q I r h
 obtain ⟨a,ns,rfl,hs,q⟩:=h
 obtain ⟨its,rv,hl,_⟩:=I.list hs
 rw [Vals.zw r]
 exact y3 (I.ok.hd hc) hl.isList rv.ints fun h' tk t' hk=>⟨.int _,H,I.kept hk,⟨_,rfl⟩,q⟩
end
section
variable {X:Cx}
end
section
variable {X:Cx}
end
theorem xo {prog:Program} {w:World} {A:Around} {E:Value->Shared->Prop} {s:Shared} {l:Addr} {items:Array Value} {Q:Value->Shared->Prop} (hl:s.heap.IsList l items)
  (h:∀ s₂:Shared,s₂ = {s with heap:=s.heap.push {cls:=.type "list_iterator",data:=.fields #[.ref l,.int 0 0]}}->
   (s₂.heap.IsListIter s.heap.objs.size l 0/\s₂.heap.IsList l items)->l≠s.heap.objs.size->Q (.ref s.heap.objs.size) s₂):wpAny (model prog w) A (pyIter (.ref l)) Q E s:=by
 have hlt:l < s.heap.objs.size:=by obtain ⟨_,e,_⟩:=hl;exact Heap.lt_size e
 exact wpAny_pyIter_list hl (h _ rfl ⟨⟨_,Heap.get?_push_size _ rfl,rfl,rfl⟩,hl.push _⟩ (Nat.ne_of_lt hlt))
theorem rq {prog:Program} {w:World} {A:Around} {bs:List Bool} {its:List Value} (e:its=bs.map Value.bool) :
  TruthOf prog w A (fun i v=>its.toArray[i]? = some v) (fun i=>bs.getD i false):=fun i v s Q E hv hq=>by
 have hv':its[i]? = some v:=by simpa using hv
 rw [e,List.getElem?_map] at hv'
 obtain ⟨b,hb,rfl⟩:=Option.map_eq_some_iff.mp hv'
 have hg:bs.getD i false=b:=by rw [List.getD_eq_getElem?_getD,hb]<;>rfl
 have hq':Q (bs.getD i false) s:=hq
 rw [hg] at hq'
 exact wpAny_truthy_bool hq'
theorem all_range:∀ bs:List Bool,(List.range bs.length).all (fun i=>bs.getD i false)=bs.all id
 | []=>rfl
 | b::bs=>by
   rw [List.length_cons,List.range_succ_eq_map,List.all_cons,List.all_map,List.all_cons,<-all_range bs]
   all_goals rfl
section
variable {X:Cx}
noncomputable def Br (K:PySem.W.Frag):List V->Hp->VK->Prop:=fun vs H Q=>∃ (a:Addr) (bs:List Bool),vs=[V.ref a]/\SqL K H a (bs.map V.bl)/\Q (.bl (bs.all id)) H
theorem A4 (hc:X.calm=true):qi X (.builtin "all") (Br X.K):=by
 intro pins s σ H vs us Q I r h
 obtain ⟨a,bs,rfl,hs,q⟩:=h
 obtain ⟨its,rv,hl,_⟩:=I.list hs
 rw [Vals.zw r]
 have hb:=rv.bls
 refine call_all_walk (xo hl.isList fun s₂ e2 st hne=>?_)
 subst e2
 refine ⟨_,_,_,_,_,_,_,rfl,Walks.list (A:=X.A.in1) (I.ok.hd hc) _ a hne its.toArray,st,rq hb,fun h' tk hk=>?_⟩
 refine ⟨.bl _,H,I.kept fun b o eo=>hk b o (fun hmem=>?_) (Heap.get?_push_of_some _ eo),?_,q⟩
 ·rcases List.mem_cons.mp hmem with e1 | hmem
  ·exact absurd (e1 ▸ Heap.lt_size eo) (Nat.lt_irrefl _)
  ·cases hmem
 ·show Value.bool _=Value.bool _
  rw [<-all_range,hb,List.size_toArray,List.length_map]
end
mutual
inductive Dp (K:PySem.W.Frag) (H:Hp):V->PyData->Prop
 | non:Dp K H .non .none
 | bl (b:Bool):Dp K H (.bl b) (.bool b)
 | int (i:Int):Dp K H (.int i) (.int i)
 | str (x:Str):Dp K H (.str x) (.str x)
 | lst {a:Addr} {xs:List V} {ds:List PyData}:SqL K H a xs->pq K H xs ds->Dp K H (.ref a) (.list ds)
 | tup {a:Addr} {xs:List V} {ds:List PyData}:SqT K H a xs->pq K H xs ds->Dp K H (.ref a) (.tuple ds)
inductive pq (K:PySem.W.Frag) (H:Hp):List V->List PyData->Prop
 | nil:pq K H [] []
 | cons {v:V} {vs:List V} {d:PyData} {ds:List PyData}:Dp K H v d->pq K H vs ds->pq K H (v::vs) (d::ds)
end
section
variable {X:Cx} {pins:List (Addr×Obj)} {σ:St} {H:Hp} {s:Shared}
mutual
theorem Dp.reads (I:Inv X pins σ H s):∀ (d:PyData) (v:V) (u:Value),Dp X.K H v d->RelV v u->∃ as,Reads s.heap u d as
 | .none,_,_,h,r=>by
   cases h
   cases r
   exact ⟨_,Reads.none⟩
 | .bool b,_,_,h,r=>by
   cases h
   cases r
   exact ⟨_,Reads.bool b⟩
 | .int i,_,_,h,r=>by
   cases h
   obtain ⟨t,rfl⟩:=r
   exact ⟨_,Reads.int i t⟩
 | .str x,_,_,h,r=>by
   cases h
   obtain ⟨t,rfl⟩:=r
   exact ⟨_,Reads.str x t⟩
 | .list ds,_,_,h,r=>by
   cases h with
   | lst hs ha=>
     cases r
     obtain ⟨its,rv,⟨o,n,ho,hc,_,hd⟩,_⟩:=I.list hs
     obtain ⟨as,hr⟩:=Dp.readsAll I ds _ its ha rv
     exact ⟨_,Reads.list ho hc hd hr⟩
 | .tuple ds,_,_,h,r=>by
   cases h with
   | tup hs ha=>
     cases r
     obtain ⟨its,rv,⟨o,ho,hc,n,hd⟩,_⟩:=I.tuple hs
     obtain ⟨as,hr⟩:=Dp.readsAll I ds _ its ha rv
     exact ⟨_,Reads.tuple ho hc hd hr⟩
 | .dict _,_,_,h,_=>by cases h
theorem Dp.readsAll (I:Inv X pins σ H s):∀ (ds:List PyData) (vs:List V) (us:List Value),pq X.K H vs ds->Vals vs us->∃ as,ReadsAll s.heap us ds as
 | [],_,_,h,r=>by
   cases h
   cases r
   exact ⟨_,ReadsAll.nil⟩
 | d::ds,_,_,h,r=>by
   cases h with
   | cons h1 h2=>
     cases r with
     | cons r1 r2=>
       obtain ⟨as,q1⟩:=Dp.reads I d _ _ h1 r1
       obtain ⟨bs,q2⟩:=Dp.readsAll I ds _ _ h2 r2
       exact ⟨_,ReadsAll.cons q1 q2⟩
end
end
section
variable {X:Cx}
noncomputable def Bp (K:PySem.W.Frag):R2:=fun x y H Q=>∃ d e,Dp K H x d/\Dp K H y e/\SeqAt.shaped d=true/\SeqAt.shaped e=true/\Q (.bl (!PyData.eqv d e)) H
theorem zM (hu:X.A.units+64 < cLine):OpR X (compareOp .NotEq) (Bp X.K):=by
 intro pins s σ H x y v u Q I rx ry h
 obtain ⟨d,e,hd,he,sd,se,q⟩:=h
 obtain ⟨as,r1⟩:=Dp.reads I d x v hd rx
 obtain ⟨bs,r2⟩:=Dp.reads I e y u he ry
 exact SeqAt.compareNe_shaped r1 r2 sd se hu ⟨.bl _,H,I,rfl,q⟩
end
end L2
namespace L2
open PySem PySem.Spec PyProof.Rows
abbrev xS (h:Heap) (c:Addr) (v:Option Value):Prop:=h.IsCell c v
noncomputable def Bk (scope sc:Scope):Scope:=
 {scope with names:=scope.names.map fun (n,k)=>if (k==.free&&sc.kind==.function&&sc.names.lookup n==some .cell) then (n,.cell) else (n,k)}
noncomputable def e7 (cells:List (Str×Addr)):List (Str×NameKind)->List (Str×Addr)->List (Str×Addr)
 | [],acc=>acc
 | (n,k)::r,acc=>if k==.free then e7 cells r ((n,(cells.lookup n).getD 0)::acc) else e7 cells r acc
theorem mC (env:Env) (f:Str×NameKind->List (Str×Addr)->Sem (ForInStep (List (Str×Addr))))
  (hf:∀ n k c,f (n,k) c=if k==.free then (do let a <-cellOf env n;pure (.yield ((n,a)::c))) else pure (.yield c)) :
  ∀ (names:List (Str×NameKind)) (acc:List (Str×Addr)),(∀ y ∈ names,y.2=.free->∃ c,env.cells.lookup y.1=some c)->forIn names acc f=pure (e7 env.cells names acc)
 | [],acc,_=>by rw [List.forIn_nil];rfl
 | (n,k)::r,acc,h=>by
   rw [List.forIn_cons,hf]
   have ih:=fun acc=>mC env f hf r acc fun y hy=>h y (List.mem_cons_of_mem _ hy)
   unfold e7
   by_cases hk:(k==NameKind.free)=true
   ·rw [if_pos hk,if_pos hk]
    obtain ⟨c,hc⟩:=h (n,k) List.mem_cons_self (by simpa using hk)
    have e:cellOf env n=pure c:=by unfold cellOf;rw [hc]
    rw [e]
    have e2:(env.cells.lookup n).getD 0=c:=by rw [hc];rfl
    rw [e2]
    exact ih _
   ·rw [if_neg hk,if_neg hk]
    exact ih _
theorem uo {scope:Scope} {env:Env} (h:∀ y ∈ scope.names,y.2=.free->∃ c,env.cells.lookup y.1=some c):closureFor scope env=pure (e7 env.cells scope.names []):=by
 simp only [closureFor]
 rw [mC env _ (fun n k c=>rfl) scope.names [] h]
 rfl
theorem mem_lookup {α:Type}:∀ {l:List (Str×α)} {n:Str} {c:α},(n,c) ∈ l->∃ c',l.lookup n=some c'
 | (k,v)::r,n,c,h=>by
   rw [List.lookup_cons]
   cases hb:n==k with
   | true=>exact ⟨_,rfl⟩
   | false=>
     rcases List.mem_cons.mp h with e | h
     ·cases e;simp at hb
     ·exact mem_lookup h
theorem j3 {cells:List (Str×Addr)}:∀ {names:List (Str×NameKind)} {acc:List (Str×Addr)} {n:Str} {c:Addr},(n,c) ∈ e7 cells names acc->(n,c) ∈ acc\/((n,.free) ∈ names/\c=(cells.lookup n).getD 0)
 | [],_,_,_,h=>.inl h
 | (m,k)::r,acc,n,c,h=>by
   unfold e7 at h
   split at h
   ·rename_i hk
    have hk:k=.free:=by simpa using hk
    rcases j3 h with h | ⟨h1,h2⟩
    ·rcases List.mem_cons.mp h with e | h
     ·cases e;exact .inr ⟨hk ▸ List.mem_cons_self,rfl⟩
     ·exact .inl h
    ·exact .inr ⟨List.mem_cons_of_mem _ h1,h2⟩
   ·rcases j3 h with h | ⟨h1,h2⟩
    ·exact .inl h
    ·exact .inr ⟨List.mem_cons_of_mem _ h1,h2⟩
theorem kL {cells:List (Str×Addr)}:∀ {names:List (Str×NameKind)} {acc:List (Str×Addr)} {p:Str×Addr},p ∈ acc->p ∈ e7 cells names acc
 | [],_,_,h=>h
 | (m,k)::r,acc,p,h=>by
   unfold e7
   split
   ·exact kL (List.mem_cons_of_mem _ h)
   ·exact kL h
theorem kK {cells:List (Str×Addr)}:∀ {names:List (Str×NameKind)} {acc:List (Str×Addr)} {n:Str},(n,.free) ∈ names->(n,(cells.lookup n).getD 0) ∈ e7 cells names acc
 | (m,k)::r,acc,n,h=>by
   unfold e7
   rcases List.mem_cons.mp h with e | h
   ·cases e
    exact kL List.mem_cons_self
   ·split
    ·exact kK h
    ·exact kK h
theorem jn:∀ {names:List (Str×NameKind)} {h:Heap} {acc:List (Str×Addr)} {x:Str} {c:Addr},(x,c) ∈ cellsFrom h.objs.size names acc->
  (x,c) ∈ acc\/((x,.cell) ∈ names/\h.objs.size<=c/\xS (pushCells h names) c none)
 | [],_,_,_,_,h=>.inl h
 | (n,k)::r,h,acc,x,c,hm=>by
   unfold cellsFrom at hm
   unfold pushCells
   split at hm
   ·rename_i hk
    rw [if_pos hk]
    have hk:k=.cell:=by simpa using hk
    rw [<-Heap.size_push h {cls:=.type "cell",data:=.cell none}] at hm
    rcases jn hm with hm | ⟨h1,h2,h3⟩
    ·rcases List.mem_cons.mp hm with e | hm
     ·cases e
      exact .inr ⟨hk ▸ List.mem_cons_self,Nat.le_refl _,_,pushCells_keeps r _ _ _ (Heap.get?_push_size _ rfl),rfl⟩
     ·exact .inl hm
    ·rw [Heap.size_push] at h2
     exact .inr ⟨List.mem_cons_of_mem _ h1,Nat.le_of_succ_le h2,h3⟩
   ·rename_i hk
    rw [if_neg hk]
    rcases jn hm with hm | ⟨h1,h2,h3⟩
    ·exact .inl hm
    ·exact .inr ⟨List.mem_cons_of_mem _ h1,h2,h3⟩
theorem kU:∀ {names:List (Str×NameKind)} {n:Nat} {acc:List (Str×Addr)} {p:Str×Addr},p ∈ acc->p ∈ cellsFrom n names acc
 | [],_,_,_,h=>h
 | (m,k)::r,n,acc,p,h=>by
   unfold cellsFrom
   split
   ·exact kU (List.mem_cons_of_mem _ h)
   ·exact kU h
theorem mX:∀ {names:List (Str×NameKind)} {n:Nat} {acc:List (Str×Addr)} {x:Str},(x,.cell) ∈ names->∃ c,(x,c) ∈ cellsFrom n names acc
 | (m,k)::r,n,acc,x,h=>by
   unfold cellsFrom
   rcases List.mem_cons.mp h with e | h
   ·cases e
    exact ⟨n,kU List.mem_cons_self⟩
   ·split
    ·exact mX h
    ·exact mX h
theorem mW:∀ {names:List (Str×NameKind)} {h:Heap} {acc:List (Str×Addr)} {x y:Str} {c:Addr},(∀ p ∈ acc,p.2 < h.objs.size)->(∀ x y c,(x,c) ∈ acc->(y,c) ∈ acc->x=y)->
  (x,c) ∈ cellsFrom h.objs.size names acc->(y,c) ∈ cellsFrom h.objs.size names acc->x=y
 | [],_,_,_,_,_,_,hi,h1,h2=>hi _ _ _ h1 h2
 | (n,k)::r,h,acc,x,y,c,hl,hi,h1,h2=>by
   unfold cellsFrom at h1 h2
   split at h1
   ·rename_i hk
    rw [if_pos hk] at h2
    rw [<-Heap.size_push h {cls:=.type "cell",data:=.cell none}] at h1 h2
    refine mW (h:=h.push _) (fun p hp=>?_) (fun x y c a b=>?_) h1 h2
    ·rw [Heap.size_push]
     rcases List.mem_cons.mp hp with rfl | hp
     ·exact Nat.lt_succ_self _
     ·exact Nat.lt_succ_of_lt (hl p hp)
    ·rcases List.mem_cons.mp a with e | a<;>rcases List.mem_cons.mp b with e' | b
     ·cases e;cases e';rfl
     ·cases e;exact absurd (hl _ b) (Nat.lt_irrefl _)
     ·cases e';exact absurd (hl _ a) (Nat.lt_irrefl _)
     ·exact hi _ _ _ a b
   ·rename_i hk
    rw [if_neg hk] at h2
    exact mW hl hi h1 h2
theorem sr {M:Model} {A:Around} {E:Value->Shared->Prop} {s:Shared} {scope:Scope} {globals:Addr} {closure:List (Str×Addr)} {qual:Str} {func:Option Addr} {code:Value} {around:Env} {builtins:Addr} {Q:Env->Shared->Prop}
  (h:Q (newEnv scope s.heap.objs.size globals (cellsFrom (s.heap.objs.size+1) scope.names closure) qual func code (some around) builtins)
   {s with heap:=pushCells (s.heap.push {cls:=.type "dict",data:=.dict #[]}) scope.names}) :
  wpAny M A (newFunctionEnv scope globals closure [] qual func code (some around) builtins) Q E s:=by
 simp only [newFunctionEnv,Option.isSome_some,if_true]
 refine wpAny_bind (wpAny_alloc ?_)
 refine wpAny_bind (wpAny_layCells _ (fun n k c=>rfl) scope.names closure _ _ ?_)
 rw [show ({s with heap:=s.heap.push {cls:=.type "dict",data:=.dict #[]}}:Shared).heap.objs.size=s.heap.objs.size+1 from Heap.size_push ..]
 rw [List.forIn_nil]
 exact wpAny_bind (wpAny_pure (wpAny_pure h))
theorem ku {sc:Scope}:∀ {names:List (Str×NameKind)} {x:Str} {k:NameKind},
  (names.map fun (n,k)=>if (k==NameKind.free&&sc.kind==.function&&sc.names.lookup n==some .cell) then (n,NameKind.cell) else (n,k)).lookup x=some k->
  ∃ k',names.lookup x=some k'/\(k=k'\/(k'=.free/\k=.cell))
 | [],_,_,h=>by simp at h
 | (n,k₀)::r,x,k,h=>by
   have ih:=@ku sc r x k
   have h':List.lookup x ((if (k₀==NameKind.free&&sc.kind==.function&&sc.names.lookup n==some .cell)=true then (n,NameKind.cell) else (n,k₀))::(r.map _))=some k:=h
   cases hx:x==n with
   | true=>
     simp only [List.lookup_cons,hx]
     by_cases hc:(k₀==NameKind.free&&sc.kind==.function&&sc.names.lookup n==some .cell)=true
     ·rw [if_pos hc] at h'
      simp only [List.lookup_cons,hx] at h'
      cases h'
      simp only [Bool.and_eq_true,beq_iff_eq] at hc
      exact ⟨k₀,rfl,.inr ⟨hc.1.1,rfl⟩⟩
     ·rw [if_neg hc] at h'
      simp only [List.lookup_cons,hx] at h'
      cases h'
      exact ⟨_,rfl,.inl rfl⟩
   | false=>
     simp only [List.lookup_cons,hx]
     by_cases hc:(k₀==NameKind.free&&sc.kind==.function&&sc.names.lookup n==some .cell)=true
     ·rw [if_pos hc] at h'
      simp only [List.lookup_cons,hx] at h'
      exact ih h'
     ·rw [if_neg hc] at h'
      simp only [List.lookup_cons,hx] at h'
      exact ih h'
structure tj (N:List Str) (sc scope:Scope) (own:List (Str×Nat)):Prop where
 kind:scope.kind=.function
 uniq:∀ y ∈ scope.names,scope.names.lookup y.1=some y.2
 ix:∀ p ∈ own,N[p.2]? = some p.1
 free:∀ y ∈ scope.names,y.2=.free->sc.names.lookup y.1=some .cell\/sc.names.lookup y.1=some .free
 own:∀ y ∈ scope.names,y.2=.local\/y.2=.cell->y.1 ∈ own.map (·.1)\/y.1 ∉ N
noncomputable def wipe (σ:St):List Nat->St
 | []=>σ
 | v::vs=>(wipe σ vs).set v none
theorem jT (σ:St):∀ vs:List Nat,(wipe σ vs).length=σ.length
 | []=>rfl
 | v::vs=>by unfold wipe;rw [List.length_set,jT σ vs]
theorem mF {σ:St} {i:Nat} {x:V}:∀ {vs:List Nat},(wipe σ vs)[i]? = some (some x)->σ[i]? = some (some x)/\i ∉ vs
 | [],h=>⟨h,by simp⟩
 | v::vs,h=>by
   unfold wipe at h
   by_cases hi:v=i
   ·subst hi
    by_cases hv:v < (wipe σ vs).length
    ·rw [List.getElem?_set_self hv] at h;cases h
    ·rw [List.getElem?_eq_none (by simpa using hv)] at h;cases h
   ·rw [List.getElem?_set_ne hi] at h
    obtain ⟨h1,h2⟩:=mF h
    exact ⟨h1,by simp only [List.mem_cons,not_or];exact ⟨fun e=>hi e.symm,h2⟩⟩
abbrev Cx.blk (X:Cx) (s:Shared) (H:Hp) (scope:Scope) (cenv:Env) (fp:List Addr):Cx:={X with s_0:=s,H_0:=H,env:=cenv,outer:=X.stack,ex:=fp,fn:=fun x=>scope.names.lookup x==some .cell,pn:=[],xe:=fun _ _=>False}
section
variable {X:Cx} {pins:List (Addr×Obj)} {σ:St} {H:Hp} {s:Shared}
theorem sU {scope:Scope} {own:List (Str×Nat)} {fp:List Addr} (I:Inv X pins σ H s) (ok:tj X.N X.env.scope scope own) (hN:X.N.Nodup) (hfp:∀ b ∈ fp,nF X pins H b/\b < s.heap.objs.size) :
  Inv (X.blk s H scope (compEnvC scope (cellsFrom (s.heap.objs.size+1) scope.names (e7 X.env.cells scope.names [])) s.heap.objs.size X.env) fp) [] (wipe σ (own.map (·.2))) H {s with heap:=pushCells (s.heap.push {cls:=.type "dict",data:=.dict #[]}) scope.names}:=by
 have hfree:∀ y ∈ scope.names,y.2=.free->∃ c,X.env.cells.lookup y.1=some c:=fun y hy e=>by
  rcases ok.free y hy e with k | k
  ·exact I.ok.has _ (.inl k)
  ·exact I.ok.has _ (.inr k)
 generalize hcenv:compEnvC scope (cellsFrom (s.heap.objs.size+1) scope.names (e7 X.env.cells scope.names [])) s.heap.objs.size X.env=cenv
 have kp:∀ b o,s.heap.get? b=some o->(pushCells (s.heap.push {cls:=.type "dict",data:=.dict #[]}) scope.names).get? b=some o:=fun b o e=>pushCells_keeps _ _ _ _ (Heap.get?_push_of_some _ e)
 have hL:cenv.locals=s.heap.objs.size:=by rw [<-hcenv];rfl
 have hcl:cenv.cells=cellsFrom (s.heap.objs.size+1) scope.names (e7 X.env.cells scope.names []):=by rw [<-hcenv];rfl
 have hsc:cenv.scope=Bk scope X.env.scope:=by rw [<-hcenv];rfl
 rw [<-Heap.size_push s.heap {cls:=.type "dict",data:=.dict #[]}] at hcl
 have cm:∀ {y c},(y,c) ∈ e7 X.env.cells scope.names []->X.env.cells.lookup y=some c/\c < s.heap.objs.size:=fun {y c} hm=>by
  rcases j3 hm with hm | ⟨h1,rfl⟩
  ·cases hm
  ·obtain ⟨c,hc⟩:=hfree _ h1 rfl
   rw [hc]
   obtain ⟨w,z⟩:=I.cell _ _ hc
   exact ⟨rfl,z.lt⟩
 have mem:∀ {y c},cenv.cells.lookup y=some c->(X.env.cells.lookup y=some c/\c < s.heap.objs.size)\/(s.heap.objs.size+1<=c/\xS (pushCells (s.heap.push {cls:=.type "dict",data:=.dict #[]}) scope.names) c none):=fun {y c} e=>by
  rw [hcl] at e
  rcases jn (PySem.mem_of_lookup e) with hm | ⟨_,h2,h3⟩
  ·exact .inl (cm hm)
  ·rw [Heap.size_push] at h2;exact .inr ⟨h2,h3⟩
 have look:∀ {y},scope.names.lookup y=some .free->∃ c,cenv.cells.lookup y=some c/\X.env.cells.lookup y=some c:=fun {y} hl=>by
  have hy:(y,NameKind.free) ∈ scope.names:=PySem.mem_of_lookup hl
  obtain ⟨c',e'⟩:=mem_lookup (kU (names:=scope.names) (n:=(s.heap.push {cls:=.type "dict",data:=.dict #[]}).objs.size) (kK (cells:=X.env.cells) (acc:=[]) hy))
  rw [<-hcl] at e'
  refine ⟨c',e',?_⟩
  rw [hcl] at e'
  rcases jn (PySem.mem_of_lookup e') with hm | ⟨h1,_,_⟩
  ·exact (cm hm).1
  ·have:=ok.uniq _ h1
   rw [hl] at this;cases this
 have okB:(X.blk s H scope cenv fp).Ok:=by
  refine ⟨I.ok.mod,by show cenv.scope.kind=_;rw [hsc];exact ok.kind,by show cenv.globals=_;rw [<-hcenv];exact I.ok.glob,by show cenv.builtins=_;rw [<-hcenv];exact I.ok.blt,by show s.heap.objs.size<=cenv.locals;rw [hL];exact Nat.le_refl _,
   fun y z c e1 e2=>?_,fun y hy=>?_,fun y c z e=>?_,I.ok.hd,I.ok.frames,.inl rfl,fun b hb=>⟨?_,fun y c e z=>?_⟩,I.bs,Nat.le_trans I.ok.bsz I.sz,fun b o e hb=>?_,fun b hb z=>?_,I.stack,I.uz⟩
  ·have e1:cenv.cells.lookup y=some c:=e1
   have e2:cenv.cells.lookup z=some c:=e2
   rw [hcl] at e1 e2
   refine mW (fun p hp=>?_) (fun y z c a b=>I.ok.inj y z c (cm a).1 (cm b).1) (PySem.mem_of_lookup e1) (PySem.mem_of_lookup e2)
   rw [Heap.size_push]
   exact Nat.lt_succ_of_lt (cm (y:=p.1) (c:=p.2) hp).2
  ·show ∃ c,cenv.cells.lookup y=some c
   have key:∀ k,cenv.kindOf y=some k->(k=.cell\/k=.free)->∃ c,cenv.cells.lookup y=some c:=fun k hk hk'=>by
    unfold Env.kindOf at hk
    rw [hsc] at hk
    obtain ⟨k',e,r⟩:=ku hk
    have:k'=.cell\/k'=.free:=by
     rcases r with rfl | ⟨rfl,_⟩
     ·exact hk'
     ·exact .inr rfl
    rcases this with rfl | rfl
    ·obtain ⟨c,hm⟩:=mX (n:=(s.heap.push {cls:=.type "dict",data:=.dict #[]}).objs.size) (acc:=e7 X.env.cells scope.names []) (PySem.mem_of_lookup e)
     obtain ⟨c',e'⟩:=mem_lookup hm
     exact ⟨c',by rw [hcl];exact e'⟩
    ·obtain ⟨c,h1,_⟩:=look e
     exact ⟨c,h1⟩
   rcases hy with hy | hy
   ·exact key _ hy (.inl rfl)
   ·exact key _ hy (.inr rfl)
  ·have z:(scope.names.lookup y==some NameKind.cell)=true:=z
   have z:scope.names.lookup y=some .cell:=by simpa using z
   have e:cenv.cells.lookup y=some c:=e
   rw [hcl] at e
   rcases jn (PySem.mem_of_lookup e) with hm | ⟨_,h2,_⟩
   ·rcases j3 hm with hm | ⟨h1,_⟩
    ·cases hm
    ·have q:=ok.uniq _ h1
     rw [z] at q;cases q
   ·rw [Heap.size_push] at h2
    exact Nat.le_of_succ_le h2
  ·show b≠cenv.locals
   rw [hL];exact Nat.ne_of_lt (hfp b hb).2
  ·have e:cenv.cells.lookup y=some c:=e
   rcases mem e with ⟨h1,_⟩ | ⟨h1,_⟩
   ·exact (hfp b hb).1.2.2.2.2.1 y c h1 z
   ·have h2:s.heap.objs.size+1<=b:=by rw [<-z];exact h1
    exact absurd (Nat.lt_of_lt_of_le (hfp b hb).2 (Nat.le_of_succ_le h2)) (Nat.lt_irrefl _)
  ·rcases (hfp b hb).1.2.2.2.1 with z | z
   ·exact I.ok.wZ b o e z
   ·exact absurd (Nat.lt_of_lt_of_le (Heap.lt_size e) (Nat.le_trans I.ok.bsz z)) (Nat.lt_irrefl _)
  ·rcases List.mem_cons.mp (I.tG b z) with z | z
   ·exact (hfp b hb).1.2.1 z
   ·exact (hfp b hb).1.2.2.1 z
 refine ⟨okB,rfl,I.bare,Un.kept kp,⟨fun _=>none,?_,fun i y av e1 e2 e3=>?_⟩,fun y c e=>?_,?_,fun y c e=>?_,fun p hp=>?_,I.hok.kept kp,by rw [jT];exact I.len⟩
 ·show Heap.Ns _ cenv.locals _
  rw [hL]
  exact Heap.Ns.keeps (Heap.Ns.new ..) fun b o e=>pushCells_keeps _ _ _ _ e
 ·obtain ⟨e2,hne⟩:=mF e2
  have hfr:scope.names.lookup y=some .free/\(cenv.kindOf y=some .cell\/cenv.kindOf y=some .free):=by
   have key:∀ k,cenv.scope.names.lookup y=some k->k=.local\/k=.cell\/k=.free->scope.names.lookup y=some .free/\(cenv.kindOf y=some .cell\/cenv.kindOf y=some .free):=fun k hk hk'=>by
    have hk0:=hk
    rw [hsc] at hk
    obtain ⟨k',e,r⟩:=ku hk
    have no:¬(k'=.local\/k'=.cell):=fun hh=>by
     rcases ok.own _ (PySem.mem_of_lookup e) hh with e' | e'
     ·obtain ⟨p,hp,hpy⟩:=List.mem_map.mp e'
      have e3:=ok.ix p hp
      have:p.1=y:=hpy
      rw [this] at e3
      exact hne (List.mem_map.mpr ⟨p,hp,oI hN e3 e1⟩)
     ·exact e' (List.mem_of_getElem? e1)
    rcases r with rfl | ⟨rfl,rfl⟩
    ·rcases hk' with rfl | rfl | rfl
     ·exact absurd (.inl rfl) no
     ·exact absurd (.inr rfl) no
     ·exact ⟨e,.inr hk0⟩
    ·exact ⟨e,.inl hk0⟩
   have e3:Vis cenv.scope y:=e3
   rcases e3 with e3 | e3 | e3
   ·exact key _ e3 (.inl rfl)
   ·exact key _ e3 (.inr (.inl rfl))
   ·exact key _ e3 (.inr (.inr rfl))
  obtain ⟨m,hn,hl⟩:=I.loc
  have hvis:Vis X.env.scope y:=(ok.free _ (PySem.mem_of_lookup hfr.1) rfl).elim (fun k=>.inr (.inl k)) (fun k=>.inr (.inr k))
  obtain ⟨w,r,q⟩:=hl i y av e1 e2 hvis
  refine ⟨w,r,.inr ⟨hfr.2,?_⟩⟩
  obtain ⟨c,h1,h2⟩:=look hfr.1
  rcases q with ⟨k,_⟩ | ⟨_,c',e',z⟩
  ·have k:X.env.scope.names.lookup y=some .local:=k
   rcases ok.free _ (PySem.mem_of_lookup hfr.1) rfl with k' | k'<;>rw [show X.env.scope.names.lookup y=_ from k'] at k<;>cases k
  ·rw [h2] at e';cases e'
   exact ⟨c,h1,z.keeps kp⟩
 ·have e:cenv.cells.lookup y=some c:=e
  rcases mem e with ⟨h1,_⟩ | ⟨_,z⟩
  ·obtain ⟨w,z⟩:=I.cell y c h1
   exact ⟨w,z.keeps kp⟩
  ·exact ⟨_,z⟩
 ·show H cenv.locals=none
  rw [hL];exact I.hok.fresh (Nat.le_refl _)
 ·have e:cenv.cells.lookup y=some c:=e
  rcases mem e with ⟨h1,_⟩ | ⟨h1,_⟩
  ·exact I.jm y c h1
  ·exact I.hok.fresh (Nat.le_of_succ_le h1)
 ·exact absurd (show p ∈ ([]:List (Addr×Obj))++[] from hp) (by simp)
theorem A7 {E:Value->Shared->Prop} {D:Addr} {xs:List V} {y:V} {v:Value} {Q:Value->Shared->Prop} (I:Inv X pins σ H s) (hD:H D=some (.lst xs)) (hz:xs.length < sizeLine) (r:RelV y v)
  (h:∀ s',Inv X pins σ (upd H D (.lst (xs++[y]))) s'->Q .none s'):wpAny (model X.prog X.w) X.A (call (.builtin "list.append") [.ref D,v]) Q E s:=by
 obtain ⟨hz',its,n,ri,e⟩:=I.hok D _ hD
 have hl:=ri.length
 refine append_at (hsz:=by rw [List.size_toArray];omega) e fun h' sb ho'=>?_
 refine h {s with heap:=h'} (I.write (t':=s.toks) (by rw [hD];trivial) (.inl rfl) (fun b u hb q=>(sb.2 b hb).trans q) ⟨_,ho'⟩ ⟨by rw [List.length_append];exact hz,its++[v],n+1,ri.append (.cons r .nil),?_⟩)
 rw [ho']
 simp
noncomputable def PTs (X:Cx) (ifs:List Expr) (t:TT):Prop:=
 ∀ (pins:List (Addr×Obj)) (s:Shared) (σ:St) (H:Hp) (Q:Bool->Hp->Prop),Inv X pins σ H s->t σ H Q->
  wpAny (model X.prog X.w) X.A (forIn ifs true fun c r=>if r=true then do let ok <-isTrue c X.env (eval c X.env);pure (ForInStep.yield ok) else pure (ForInStep.yield r)) (TP X pins σ Q) X.xe s
noncomputable def m6:TT:=fun _ H Q=>Q true H
theorem fY:PTs X [] m6:=fun _ _ _ H _ I h=>wpAny_tests_nil ⟨H,I,h⟩
theorem uE {c:Expr} {t:TT} (h:PT X c t):PTs X [c] t:=fun pins s σ H Q I hw=>wpAny_tests_one (h pins s σ H Q I hw)
end
theorem vm {α:Type} {t:Sem α} {Q Q':α->Shared->Prop} {M:Model} {A:Around} {E:Value->Shared->Prop} {s:Shared} (h:wpAny M A t Q (fun _ _=>False) s) (hQ:∀ a s,Q a s->Q' a s):wpAny M A t Q' E s:=wpAny_mono h hQ fun _ _ z=>False.elim z
theorem rf {prog:Program} {w:World} {A:Around} {R:Result->Shared->Prop} {s:Shared} {elt target iter:Expr} {ifs:List Expr} {scope:Scope} {pos:Pos} {it acc:Value} {env:Env} (I:Nat->Shared->Prop)
  (turn:∀ n s,I n s->wpAny (model prog w) A (pyNext it) (fun r s₁=>match r with
   | none=>R (.ok .next) s₁
   | some v=>wpAny (model prog w) A (letOwnedTupleGo target it v) (fun _ s₁'=>wpAny (model prog w) A (assign target env v) (fun _ s₂=>
     wpAny (model prog w) A (forIn ifs true fun c r=>if r=true then do let ok <-isTrue c env (eval c env);pure (ForInStep.yield ok) else pure (ForInStep.yield r)) (fun ok s₃=>
      if ok=true then wpAny (model prog w) A (eval elt env) (fun x s₄=>
       wpAny (model prog w) A (call (.builtin "list.append") [acc,x]) (fun _ s₅=>∃ m,m < n/\I m s₅) (notedBy (model prog w) A env fun e s'=>R (.error e) s') s₄) (notedBy (model prog w) A env fun e s'=>R (.error e) s') s₃
      else ∃ m,m < n/\I m s₃) (notedBy (model prog w) A env fun e s'=>R (.error e) s') s₂) (notedBy (model prog w) A env fun e s'=>R (.error e) s') s₁') (notedBy (model prog w) A env fun e s'=>R (.error e) s') s₁) (notedBy (model prog w) A env fun e s'=>R (.error e) s') s)
  (n:Nat) (h:I n s) :
  codeAny (model prog w) A (.compLoop (.ListComp elt [⟨target,iter,ifs,0⟩] scope pos) 0 it acc env) R s:=by
 refine codeAny_loop rfl I (fun n s hI=>?_) n h
 show wpAny _ A ((compTurn (.ListComp elt [⟨target,iter,ifs,0⟩] scope pos) 0 it acc env).onRaise (fun x=>do noteFrame x env;theTreesLotGoes x)) _ _ s
 refine wpAny_noted ?_
 rw [compTurn_list]
 refine wpAny_bind (wpAny_standAt (wpAny_bind (wpAny_mono (turn n s hI) (fun r s₁ h₁=>?_) fun _ _ h'=>h')))
 cases r with
 | none=>exact wpAny_pure h₁
 | some v=>
   refine wpAny_bind (wpAny_mono h₁ (fun _ s₁' h₁'=>?_) fun _ _ h'=>h')
   refine wpAny_bind (wpAny_mono h₁' (fun _ s₂ h₂=>wpAny_bind (wpAny_mono h₂ (fun ok s₃ h₃=>?_) fun _ _ h'=>h')) fun _ _ h'=>h')
   cases ok with
   | false=>exact wpAny_pure ⟨rfl,h₃⟩
   | true=>
     exact wpAny_bind (wpAny_bind (wpAny_mono h₃ (fun x s₄ h₄=>wpAny_bind (wpAny_mono h₄ (fun _ s₅ h₅=>wpAny_pure (wpAny_pure ⟨rfl,h₅⟩)) fun _ _ h'=>h')) fun _ _ h'=>h'))
section
variable {X:Cx}
noncomputable def tLc (wi:TI) (g:TG) (tt:TT) (te:TE) (vs:List Nat):TE:=fun σ H Q=>wi σ H fun J H1=>∀ D,H1 D=none->∃ W:Nat->Nat->Hp->Prop,(∃ m,W 0 m (upd H1 D (.lst [])))/\∀ i m H,W i m H->
 (J.stop i H/\Q (.ref D) H)\/(J.go i H/\∃ Nx:Hp->Prop,(∀ H',Nx H'->∃ m',m' < m/\W (i+1) m' H')/\∀ x H',J.yld i H x H'->g x (wipe σ vs) H' fun σ2 H2=>wipe σ2 vs=wipe σ vs/\tt σ2 H2 fun b H3=>
  if b=true then te σ2 H3 fun y H4=>∃ acc,H4 D=some (.lst acc)/\acc.length < sizeLine/\Nx (upd H4 D (.lst (acc++[y]))) else Nx H3)
theorem uW {pins:List (Addr×Obj)} {s:Shared} {σ:St} {H:Hp} {Q:VK} {elt tg iter:Expr} {ifs:List Expr} {scope:Scope} {own:List (Str×Nat)} {pos pos':Pos} {wi:TI} {g:TG} {tt:TT} {te:TE} {use:Option (Value->Sem Unit)} {Qf:Value->Shared->Prop}
  (hc:X.calm=true) (hN:X.N.Nodup) (I:Inv X pins σ H s) (hi:PI X tg iter wi) (ok:tj X.N X.env.scope scope own)
  (hg:∀ (s:Shared) (H:Hp) (C:Addr) (cl:List (Str×Addr)) (fp:List Addr),PG (X.blk s H scope (compEnvC scope cl C X.env) fp) tg g) (ht:∀ (s:Shared) (H:Hp) (C:Addr) (cl:List (Str×Addr)) (fp:List Addr),PTs (X.blk s H scope (compEnvC scope cl C X.env) fp) ifs tt)
  (he:∀ (s:Shared) (H:Hp) (C:Addr) (cl:List (Str×Addr)) (fp:List Addr),PE (X.blk s H scope (compEnvC scope cl C X.env) fp) elt te) (hs:∀ x,foldedSetIterable iter X.env x=pure x)
  (h:tLc wi g tt te (own.map (·.2)) σ H Q)
  (hRR:∀ D C s' m H',Inv X pins σ H' s'->Q (.ref D) H'->s'.heap.Ns C m->nF X pins H' C->compPost (model X.prog X.w) X.A X.xe use Qf (.ref D) C (.ok .next) s') :
  wpAny (model X.prog X.w) X.A (comprehension (.ListComp elt [⟨tg,iter,ifs,0⟩] scope pos) scope X.env pos' (newList []) false (eval iter X.env) use) Qf X.xe s:=by
 have hfree:∀ y ∈ scope.names,y.2=.free->∃ c,X.env.cells.lookup y.1=some c:=fun y hy e=>by
  rcases ok.free y hy e with k | k
  ·exact I.ok.has _ (.inl k)
  ·exact I.ok.has _ (.inr k)
 refine wpAny_comprehension_free (use:=use) rfl hs (uo hfree) ok.kind (fun y hy e=>by rw [ok.uniq y hy,e])
  (thn (hi pins s σ H _ I h) fun xv s1 hx=>thn hx fun itv s2 h2=>?_)
 obtain ⟨it,fp,tn,J,H2,e,I2,T,st2,f2,q⟩:=h2
 subst e
 refine wpAny_newObj_type (sr ?_) (by show 0<=sizeLine;decide)
 generalize hD:s2.heap.objs.size=D
 have hDn:H2 D=none:=I2.hok.fresh (Nat.le_of_eq hD)
 obtain ⟨W,⟨m0,w0⟩,turn⟩:=q D hDn
 generalize hs3:({s2 with heap:=s2.heap.push {cls:=.type "list",data:=.seq ([]:List Value).toArray}}:Shared)=s3
 have I3:Inv X pins σ (upd H2 D (.lst [])) s3:=by
  rw [<-hs3]
  refine I2.laid (t':=s2.toks) (fun b o e=>Heap.get?_push_of_some _ e) (Nat.le_of_eq hD) ⟨Nat.zero_le _,[],0,.nil,?_⟩
  rw [<-hD]
  exact Heap.get?_push_size _ rfl
 have h3:s3.heap=s2.heap.push {cls:=.type "list",data:=.seq ([]:List Value).toArray}:=by rw [<-hs3]
 have sz:∀ b ∈ fp,b < s2.heap.objs.size:=fun b hb=>by
  obtain ⟨o,e,_⟩:=T.obj _ _ st2 b hb
  exact Heap.lt_size e
 have f3:∀ b ∈ fp,nF X pins (upd H2 D (.lst [])) b/\b < s3.heap.objs.size:=fun b hb=>by
  have hlt:=sz b hb
  refine ⟨⟨?_,(f2 b hb).2⟩,by rw [h3,Heap.size_push];exact Nat.lt_succ_of_lt hlt⟩
  rw [ax (by rw [<-hD];exact Nat.ne_of_lt hlt)]
  exact (f2 b hb).1
 have st3:tn 0 s3.heap:=T.keep _ _ _ st2 fun b _ o e=>by rw [h3];exact Heap.get?_push_of_some _ e
 have I4:=sU I3 ok hN f3
 have pg:=hg s3 (upd H2 D (.lst [])) s3.heap.objs.size (cellsFrom (s3.heap.objs.size+1) scope.names (e7 X.env.cells scope.names [])) fp
 have pt:=ht s3 (upd H2 D (.lst [])) s3.heap.objs.size (cellsFrom (s3.heap.objs.size+1) scope.names (e7 X.env.cells scope.names [])) fp
 have pe:=he s3 (upd H2 D (.lst [])) s3.heap.objs.size (cellsFrom (s3.heap.objs.size+1) scope.names (e7 X.env.cells scope.names [])) fp
 show codeAny _ _ (.compStart (.ListComp elt [⟨tg,iter,ifs,0⟩] scope pos) 0 (.ref it) (.ref D) (compEnvC scope (cellsFrom (s3.heap.objs.size+1) scope.names (e7 X.env.cells scope.names [])) s3.heap.objs.size X.env)) (compPost (model X.prog X.w) X.A X.xe use Qf (.ref D) s3.heap.objs.size) {s3 with heap:=pushCells (s3.heap.push {cls:=.type "dict",data:=.dict #[]}) scope.names}
 have nfp:∀ b ∈ fp,(upd H2 D (.lst [])) b=none:=fun b hb=>(f3 b hb).1.1
 generalize hce:compEnvC scope (cellsFrom (s3.heap.objs.size+1) scope.names (e7 X.env.cells scope.names [])) s3.heap.objs.size X.env=ce at I4 pg pt pe ⊢
 have cL:ce.locals=s3.heap.objs.size:=by subst hce;rfl
 generalize hH3:upd H2 D (.lst [])=H3 at I3 I4 pg pt pe w0 nfp f3
 generalize hs4:({s3 with heap:=pushCells (s3.heap.push {cls:=.type "dict",data:=.dict #[]}) scope.names}:Shared)=s4 at I4 ⊢
 have st4:tn 0 s4.heap:=T.keep _ _ _ st3 fun b _ o e=>by rw [<-hs4];exact pushCells_keeps _ _ _ _ (Heap.get?_push_of_some _ e)
 have stat:∀ {σ':St} {H':Hp} {s':Shared},Inv (X.blk s3 H3 scope ce fp) [] σ' H' s'->(∀ b ∈ fp,H' b=none)->∀ b ∈ fp,nF (X.blk s3 H3 scope ce fp) [] H' b:=fun {σ' H' s'} I' hn b hb=>
  ⟨hn b hb,(I'.ok.exf b hb).1,I'.ok.xF b hb,.inl hb,fun x c e=>(I'.ok.exf b hb).2 x c e,fun p hp=>absurd (show p ∈ ([]:List (Addr×Obj))++[] from hp) (by simp)⟩
 have loop:codeAny (model X.prog X.w) X.A (.compLoop (.ListComp elt [⟨tg,iter,ifs,0⟩] scope pos) 0 (.ref it) (.ref D) ce) (compPost (model X.prog X.w) X.A X.xe use Qf (.ref D) s3.heap.objs.size) s4:=by
  refine rf (fun n s'=>∃ i H',Inv (X.blk s3 H3 scope ce fp) [] (wipe σ (own.map (·.2))) H' s'/\tn i s'.heap/\(∀ b ∈ fp,H' b=none)/\W i n H') ?_ m0 ⟨0,H3,I4,st4,nfp,w0⟩
  rintro n s5 ⟨i,H5,I5,st5,n5,w5⟩
  rcases turn i n H5 w5 with ⟨stop,qq⟩ | ⟨go,Nx,hNx,step⟩
  ·have td:=T.done (X.blk s3 H3 scope ce fp) rfl rfl rfl hc i [] s5 _ H5 (fun _ _=>False) I5 (stat I5 n5) st5 stop
   refine vm td fun r s6 ⟨hr,I6⟩=>?_
   subst hr
   have I7:Inv X pins σ H5 s6:=I3.B4 (ch:=fp) I6.os I6.base I6.hok I6.bare fun b hb=>⟨(f3 b hb).1.2.2.2.1,(f3 b hb).1.2.1,(f3 b hb).1.2.2.2.2.1,(f3 b hb).1.2.2.2.2.2⟩
   have nC:H5 s3.heap.objs.size=none:=by
    have z:H5 ce.locals=none:=I6.free
    rw [cL] at z
    exact z
   obtain ⟨m,hn,_⟩:=I6.loc
   have hn:s6.heap.Ns ce.locals m:=hn
   rw [cL] at hn
   exact hRR D s3.heap.objs.size s6 m H5 I7 qq hn (I3.xA (Nat.le_refl _) nC)
  ·have ti:=T.item (X.blk s3 H3 scope ce fp) rfl rfl rfl hc i [] s5 _ H5 (fun _ _=>False) I5 (stat I5 n5) st5 go
   refine vm ti fun r s6 ⟨u,hr,h6⟩=>?_
   subst hr
   refine vm h6 fun _ s7 ⟨x,H7,I7,r7,y7,st7,n7⟩=>?_
   have I7':=I7.pinned (stat I7 n7) (T.obj _ _ st7)
   refine vm (pg _ s7 _ H7 x u _ I7' r7 (step x H7 y7)) fun _ s8 ⟨σ8,H8,I8,hw8,q8⟩=>?_
   refine vm (pt _ s8 σ8 H8 _ I8 q8) fun b s9 ⟨H9,I9,q9⟩=>?_
   have fin:∀ {s':Shared} {H':Hp},Inv (X.blk s3 H3 scope ce fp) ([]++ou fp s7.heap) σ8 H' s'->Nx H'->∃ m,m < n/\∃ i H',Inv (X.blk s3 H3 scope ce fp) [] (wipe σ (own.map (·.2))) H' s'/\tn i s'.heap/\(∀ b ∈ fp,H' b=none)/\W i m H':=fun {s' H'} I' nx=>by
    obtain ⟨m',hm,w'⟩:=hNx H' nx
    have pin':∀ b ∈ fp,∀ o,s7.heap.get? b=some o->s'.heap.get? b=some o/\H' b=none:=fun b hb o e=>
     let z:=I'.pin (b,o) (List.mem_append_right _ (List.mem_append_right _ (lN hb e)))
     ⟨z.1,z.2.1⟩
    have hl:(wipe σ (own.map (·.2))).length=σ8.length:=by rw [<-hw8,jT]
    refine ⟨m',hm,i+1,H',(I'.lX (pins:=[])).weak hl (fun j v e=>?_),T.keep _ _ _ st7 fun b hb o e=>(pin' b hb o e).1,fun b hb=>?_,w'⟩
    ·rw [<-hw8] at e
     exact (mF e).1
    ·obtain ⟨o,e,_⟩:=T.obj _ _ st7 b hb
     exact (pin' b hb o e).2
   cases b with
   | false=>
     simp only [Bool.false_eq_true,if_false] at q9 ⊢
     exact fin I9 q9
   | true=>
     simp only [if_true] at q9 ⊢
     refine vm (pe _ s9 σ8 H9 _ I9 q9) fun z s10 ⟨yv,H10,I10,r10,acc,hD10,hz10,nx⟩=>?_
     exact A7 (X:=X.blk s3 H3 scope ce fp) I10 hD10 hz10 r10 fun s11 I11=>fin I11 nx
 exact codeAny_compStart_list loop (T.self X.A 0 _ _ _ st4 loop)
theorem iY {elt tg iter:Expr} {ifs:List Expr} {scope:Scope} {own:List (Str×Nat)} {pos:Pos} {wi:TI} {g:TG} {tt:TT} {te:TE} (hc:X.calm=true) (hN:X.N.Nodup) (hi:PI X tg iter wi) (ok:tj X.N X.env.scope scope own)
  (hg:∀ (s:Shared) (H:Hp) (C:Addr) (cl:List (Str×Addr)) (fp:List Addr),PG (X.blk s H scope (compEnvC scope cl C X.env) fp) tg g) (ht:∀ (s:Shared) (H:Hp) (C:Addr) (cl:List (Str×Addr)) (fp:List Addr),PTs (X.blk s H scope (compEnvC scope cl C X.env) fp) ifs tt)
  (he:∀ (s:Shared) (H:Hp) (C:Addr) (cl:List (Str×Addr)) (fp:List Addr),PE (X.blk s H scope (compEnvC scope cl C X.env) fp) elt te) (hs:∀ x,foldedSetIterable iter X.env x=pure x:=by intro _;rfl) :
  PE X (.ListComp elt [⟨tg,iter,ifs,0⟩] scope pos) (tLc wi g tt te (own.map (·.2))):=by
 intro pins s σ H Q I h
 rw [eval_ListComp]
 refine uW hc hN I hi ok hg ht he hs h fun D C s' m H' I' q hn f=>⟨m,hn,fun h'' sb=>?_⟩
 obtain ⟨f0,f1,f2,f3,f4,f5⟩:=f
 exact ⟨.ref D,H',I'.turned (t':=s'.toks) (fun b o hb e=>(sb.2 b hb).trans e) f0 f1 f3 f4 f5,rfl,q⟩
theorem wQ {i:Nat} {y:Str} {py:Pos} {elt tg iter:Expr} {ifs:List Expr} {scope:Scope} {own:List (Str×Nat)} {pos spos:Pos} {wi:TI} {g:TG} {tt:TT} {te:TE} (hc:X.calm=true) (hN:X.N.Nodup) (hy:X.N[i]? = some y) (hyl:X.env.scope.names.lookup y=some .local)
  (hsw:swapsWith (.ListComp elt [⟨tg,iter,ifs,0⟩] scope pos) (some (.Name y py)) spos.line X.env=pure true) (hi:PI X tg iter wi) (ok:tj X.N X.env.scope scope own)
  (hg:∀ (s:Shared) (H:Hp) (C:Addr) (cl:List (Str×Addr)) (fp:List Addr),PG (X.blk s H scope (compEnvC scope cl C X.env) fp) tg g) (ht:∀ (s:Shared) (H:Hp) (C:Addr) (cl:List (Str×Addr)) (fp:List Addr),PTs (X.blk s H scope (compEnvC scope cl C X.env) fp) ifs tt)
  (he:∀ (s:Shared) (H:Hp) (C:Addr) (cl:List (Str×Addr)) (fp:List Addr),PE (X.blk s H scope (compEnvC scope cl C X.env) fp) elt te) (hs:∀ x,foldedSetIterable iter X.env x=pure x:=by intro _;rfl) :
  PS X (.Assign [.Name y py] (.ListComp elt [⟨tg,iter,ifs,0⟩] scope pos) spos) (zh (tLc wi g tt te (own.map (·.2))) (gf i)):=by
 intro pins s σ H D I h
 rw [exec_Assign_Name_used _ _ _ _ hsw]
 refine wpAny_bind (wpAny_standAt (wpAny_bind ?_))
 show wpAny _ X.A (do let _ <-comprehension (.ListComp elt [⟨tg,iter,ifs,0⟩] scope pos) scope X.env (firstIterPos [⟨tg,iter,ifs,0⟩] pos) (newList []) false (eval iter X.env) (some (assign (.Name y py) X.env))) _ _ s
 have h:tLc wi g tt te (own.map (·.2)) σ H (fun x H1=>gf i x σ H1 D.nx):=h
 refine wpAny_bind (thn (uW (Qf:=fun _ s'=>SP X pins D .next s') hc hN I hi ok hg ht he hs h fun L C s' m H' I' q hn f=>?_) fun _ s' hq=>wpAny_pure (wpAny_pure hq))
 show wpAny _ _ (assign (.Name y py) X.env (.ref L)) _ _ _
 refine wpAny_assign_Name (pU (v:=V.ref L) I' hN hy (.inl hyl) rfl (fun s2 I2 ⟨a,sb,ha⟩=>?_) (.inr hyl))
 obtain ⟨f0,f1,f2,f3,f4,f5⟩:=f
 have haC:C≠a:=by
  rcases ha with z | z
  ·rw [z];exact f1
  ·exact fun e=>f4 y a z e.symm
 refine ⟨m,hn.sameBut sb haC,fun h3 sb3=>?_⟩
 exact ⟨_,H',I2.turned (t':=s2.toks) (fun b o hb e=>(sb3.2 b hb).trans e) f0 f1 f3 f4 f5,q⟩
theorem y2 {elt:Expr} {gs:List Comprehension} {scope:Scope} {pos py:Pos} {y:Str} {l:Nat} {env:Env} (hk:env.scope.kind=.function) (hy:env.scope.names.lookup y=some .local) (hl:(py.line==pos.line)=true)
  (ha:(scope.names.any fun (n,k)=>n==y&&(k==.local||k==.cell))=false):swapsWith (.ListComp elt gs scope pos) (some (.Name y py)) l env=pure true:=by
 have ky:env.kindOf y=some .local:=hy
 have hb:env.blockKind=.function:=by unfold Env.blockKind;rw [hk];rfl
 unfold swapsWith
 simp only [hb,ky,ha,Expr.pos,hl]
 rfl
end
theorem xn {lo:Int} {n:Nat} {g:TG} {tt:TT} {te:TE} {vs:List Nat} {σ:St} {H1:Hp} {D:Addr} {Qd:Hp->Prop} (Pv:Nat->Hp->Prop) (h0:Pv 0 (upd H1 D (.lst [])))
  (hs:∀ i H,i < n->Pv i H->g (.int (lo+i)) (wipe σ vs) H fun σ2 H2=>wipe σ2 vs=wipe σ vs/\tt σ2 H2 fun b H3=>
   if b=true then te σ2 H3 fun y H4=>∃ acc,H4 D=some (.lst acc)/\acc.length < sizeLine/\Pv (i+1) (upd H4 D (.lst (acc++[y]))) else Pv (i+1) H3) (hd:∀ H,Pv n H->Qd H) :
  ∃ W:Nat->Nat->Hp->Prop,(∃ m,W 0 m (upd H1 D (.lst [])))/\∀ i m H,W i m H->
   ((Itr lo n).stop i H/\Qd H)\/((Itr lo n).go i H/\∃ Nx:Hp->Prop,(∀ H',Nx H'->∃ m',m' < m/\W (i+1) m' H')/\∀ x H',(Itr lo n).yld i H x H'->g x (wipe σ vs) H' fun σ2 H2=>wipe σ2 vs=wipe σ vs/\tt σ2 H2 fun b H3=>
     if b=true then te σ2 H3 fun y H4=>∃ acc,H4 D=some (.lst acc)/\acc.length < sizeLine/\Nx (upd H4 D (.lst (acc++[y]))) else Nx H3):=by
 refine ⟨fun i m H=>m=n - i/\i<=n/\Pv i H,⟨n,by simp,Nat.zero_le _,h0⟩,?_⟩
 rintro i m H ⟨rfl,hi,p⟩
 by_cases hlt:i < n
 ·refine .inr ⟨hlt,Pv (i+1),fun H' p'=>⟨n - (i+1),by omega,rfl,hlt,p'⟩,fun x H' y=>?_⟩
  obtain ⟨e,y⟩:=y
  subst e y
  exact hs i _ hlt p
 ·have e:i=n:=by omega
  subst e
  exact .inl ⟨Nat.le_refl _,hd H p⟩
theorem yH {K:PySem.W.Frag} {a:Addr} {xs:List V} {g:TG} {tt:TT} {te:TE} {vs:List Nat} {σ:St} {H1:Hp} {D:Addr} {Qd:Hp->Prop} (Pv:Nat->Hp->Prop) (h0:Pv 0 (upd H1 D (.lst []))) (hl:∀ i H,i<=xs.length->Pv i H->SqL K H a xs)
  (hs:∀ i x H,xs[i]? = some x->Pv i H->g x (wipe σ vs) H fun σ2 H2=>wipe σ2 vs=wipe σ vs/\tt σ2 H2 fun b H3=>
   if b=true then te σ2 H3 fun y H4=>∃ acc,H4 D=some (.lst acc)/\acc.length < sizeLine/\Pv (i+1) (upd H4 D (.lst (acc++[y]))) else Pv (i+1) H3) (hd:∀ H,Pv xs.length H->Qd H) :
  ∃ W:Nat->Nat->Hp->Prop,(∃ m,W 0 m (upd H1 D (.lst [])))/\∀ i m H,W i m H->
   ((Itl K a).stop i H/\Qd H)\/((Itl K a).go i H/\∃ Nx:Hp->Prop,(∀ H',Nx H'->∃ m',m' < m/\W (i+1) m' H')/\∀ x H',(Itl K a).yld i H x H'->g x (wipe σ vs) H' fun σ2 H2=>wipe σ2 vs=wipe σ vs/\tt σ2 H2 fun b H3=>
     if b=true then te σ2 H3 fun y H4=>∃ acc,H4 D=some (.lst acc)/\acc.length < sizeLine/\Nx (upd H4 D (.lst (acc++[y]))) else Nx H3):=by
 refine ⟨fun i m H=>m=xs.length - i/\i<=xs.length/\Pv i H,⟨xs.length,by simp,Nat.zero_le _,h0⟩,?_⟩
 rintro i m H ⟨rfl,hi,p⟩
 have q:=hl i H hi p
 by_cases hlt:i < xs.length
 ·refine .inr ⟨⟨xs,xs[i],q,by simp [hlt]⟩,Pv (i+1),fun H' p'=>⟨xs.length - (i+1),by omega,rfl,hlt,p'⟩,fun x H' y=>?_⟩
  obtain ⟨e,y⟩:=y
  subst e
  exact hs i x _ (y xs q) p
 ·have e:i=xs.length:=by omega
  subst e
  exact .inl ⟨⟨xs,q,Nat.le_refl _⟩,hd H p⟩
noncomputable def B5 (N:List Str) (sc scope:Scope) (own:List (Str×Nat)):Bool:=
 (match scope.kind with | .function=>true | _=>false)&&(scope.names.all fun y=>decide (scope.names.lookup y.1=some y.2))&&(own.all fun p=>decide (N[p.2]? = some p.1))&&
  (scope.names.all fun y=>match y.2 with
   | .free=>(match sc.names.lookup y.1 with | some .cell=>true | some .free=>true | _=>false)
   | .local=>decide (y.1 ∈ own.map (·.1))||decide (y.1 ∉ N)
   | .cell=>decide (y.1 ∈ own.map (·.1))||decide (y.1 ∉ N)
   | _=>true)
theorem eZ {N:List Str} {sc scope:Scope} {own:List (Str×Nat)} (h:B5 N sc scope own=true):tj N sc scope own:=by
 unfold B5 at h
 simp only [Bool.and_eq_true,List.all_eq_true,decide_eq_true_eq] at h
 obtain ⟨⟨⟨h1,h2⟩,h3⟩,h4⟩:=h
 refine ⟨?_,h2,h3,fun y hy e=>?_,fun y hy e=>?_⟩
 ·split at h1
  ·assumption
  ·cases h1
 ·have q:=h4 y hy
  simp only [e] at q
  split at q<;>first | exact .inl (by assumption) | exact .inr (by assumption) | cases q
 ·have q:=h4 y hy
  rcases e with e | e<;>(simp only [e,Bool.or_eq_true,decide_eq_true_eq] at q;exact q)
end L2
namespace L2
open PySem PySem.Spec PyProof.Rows
section
variable {prog:Program} {w:World} {A:Around} {R:Result->Shared->Prop} {s:Shared} {elt t0 i0 t1 i1:Expr} {ifs0 ifs1:List Expr} {scope:Scope} {pos:Pos} {it acc:Value} {env:Env}
end
section
variable {X:Cx}
end
end L2
namespace L2
open PySem PySem.Spec PyProof.Rows
section
variable {κ:Type} [DecidableEq κ]
theorem lW.getD {o:Option V} {u:Option Value} {d:V} {d':Value} (r:lW o u) (rd:RelV d d'):RelV (o.getD d) (u.getD d'):=by
 cases o with
 | none=>cases u with
   | none=>exact rd
   | some _=>exact (show False from r).elim
 | some _=>cases u with
   | none=>exact (show False from r).elim
   | some _=>exact r
end
section
variable {P:Program} {w:World} {H:Hp} {h:Heap} {a:Addr}
end
section
variable {X:Cx} {pins:List (Addr×Obj)} {σ:St} {H:Hp} {s:Shared} {a:Addr} {y v:V} {u r:Value} {o:Option V} {A:Around} {E:Value->Shared->Prop}
end
section
variable {X:Cx} {pins:List (Addr×Obj)} {σ:St} {H:Hp} {s:Shared} {a:Addr} {kvs:List (Key×V)} {k:Key} {u:Value} {A:Around} {E:Value->Shared->Prop}
end
noncomputable def B8 (i:Expr):Prop:=∀ ov iv,subscripted i false ov iv=operate [ov,iv] (getItem ov iv)
theorem y4 {prog:Program} {w:World} {A:Around} {E:Value->Shared->Prop} {s:Shared} {env:Env} {value slice:Expr} {pos:Pos} {T id:String} {Q:Value->Shared->Prop}
  (hl:typeLookup (.type T) "__getitem__" = pure (some (.builtin id))) (hs:B8 slice)
  (h:wpAny (model prog w) A (eval value env) (fun o s₁=>wpAny (model prog w) A (eval slice env) (fun i s₂=>s₂.TypeIs o T/\wpAny (model prog w) A (getItem o i) Q E s₂) E s₁) E s) :
  wpAny (model prog w) A (eval (.Subscript value slice pos) env) Q E s:=by
 refine Subscript_ (wpAny_mono h (fun o s₁ h₁=>wpAny_mono h₁ (fun i s₂ h₂=>?_) fun _ _ x=>x) fun _ _ x=>x)
 obtain ⟨hT,h₂⟩:=h₂
 unfold subscriptTail
 refine wpAny_bind ?_
 rw [getitemInPython_of_ne hT.not_modules]
 refine wpAny_bind (wpAny_specialOf hT hl ?_)
 have fin:wpAny (model prog w) A (subscripted slice false o i) (fun r s₃=>wpAny (model prog w) A (letTemporaryGo value o r >>= fun _=>pure r) Q E s₃) E s₂:=by
  rw [hs o i]
  exact wpAny_operating (wpAny_mono h₂ (fun r s₃ h₃=>wpAny_bind (wpAny_letTemporaryGo (wpAny_pure h₃))) fun _ _ x=>x)
 first
  | exact wpAny_pure (wpAny_bind fin)
  | exact wpAny_bind (wpAny_pure (wpAny_bind fin))
  | exact wpAny_bind fin
section
variable {X:Cx} {o i e value:Expr} {pos pos' tpos:Pos} {td ty tv:TE}
end
section
variable {X:Cx} {pos:Pos}
end
structure M2 (X:Cx) (o:Expr) (m:Str) (apos:Pos) (e f:Expr) (cpos:Pos):Prop where
 base:attributeBase o m X.env (eval o X.env)=eval o X.env
 few:((backTo cpos (starEach [e,f] X.env)).all (fun x=>!x.1)&&(backToKw cpos (keywordEach [] X.env)).all (fun x=>x.1.isSome)
  &&decide (([e,f]:List Expr).length+([]:List Keyword).length+(if ([]:List Keyword).isEmpty then 0 else 1) < 30))=true
 line:(apos.endLine==cpos.line)=true
 trees:backTo cpos (starEach [e,f] X.env)=[(false,eval e X.env),(false,eval f X.env)]
section
variable {X:Cx} {pins:List (Addr×Obj)} {σ:St} {H:Hp} {s:Shared} {a:Addr} {y d:V} {u r:Value} {o:Option V} {A:Around} {E:Value->Shared->Prop}
end
section
variable {X:Cx} {o e f:Expr} {apos cpos:Pos} {td ty tx:TE}
end
section
variable {X:Cx} {pins:List (Addr×Obj)} {σ:St} {H:Hp} {s:Shared} {a:Addr} {kvs:List (Key×V)} {A:Around} {E:Value->Shared->Prop}
end
section
variable {X:Cx} {pins:List (Addr×Obj)} {σ:St} {H:Hp} {s:Shared} {a:Addr} {y:V} {u:Value} {A:Around} {E:Value->Shared->Prop}
end
end L2
namespace L2
open PySem PySem.Spec PyProof.Rows
section
variable {prog:Program} {w:World} {A:Around} {E:Value->Shared->Prop}
end
section
variable {X:Cx}
end
end L2
namespace L2
open PySem PySem.Spec PyProof.Rows
section
variable {X:Cx} {pins:List (Addr×Obj)} {σ:St} {H:Hp} {s:Shared} {h':Heap}
theorem Inv.xY {t':Nat} {ch:List Addr} (I:Inv X pins σ H s) (k:∀ b o,b ∉ ch->s.heap.get? b=some o->h'.get? b=some o) (hf:∀ b ∈ ch,nF X pins H b):Inv X pins σ H {s with heap:=h',toks:=t'}:=by
 have nit:∀ b u,H b=some u->b ∉ ch:=fun b u e z=>by
  have q:=(hf b z).1
  rw [q] at e;cases e
 refine I.step (g':=s.gens) (d':=s.drawn) (ch:=ch) (fun b hb=>⟨(hf b hb).2.2.2.1,(hf b hb).2.1,(hf b hb).2.2.2.2.1,(hf b hb).2.2.2.2.2⟩) (fun b o _ _ hc e _=>k b o hc e) (fun b o _ _ hc e _=>⟨o.slots,k b o hc e⟩)
  (fun _ _ _ _ n=>n) (fun b o hc e=>⟨o,k b o hc e⟩) (fun _ _ e=>e) (fun _ _ _ e=>e) (fun b ps e=>⟨#[],by rw [e];simp⟩) (fun m hm=>?_) (fun b u e=>?_) I.bare
 ·obtain ⟨o,es,ep,ho,r⟩:=hm
  exact ⟨o,es,ep,k _ o (fun z=>(hf _ z).2.1 rfl) ho,r⟩
 ·refine (I.hok b u e).js (fun c v hc q=>k c v ?_ q) (fun _ q=>q) fun _ _ q=>q
  rcases hc with z | z
  ·rw [z];exact nit b u e
  ·exact nit c _ z
theorem Inv.pS {t':Nat} {ch:List Addr} {T:Addr} {ob:HO} (I:Inv X pins σ H s) (k:∀ b o,b ∉ ch->s.heap.get? b=some o->h'.get? b=some o) (hf:∀ b ∈ ch,nF X pins H b) (hT:s.heap.objs.size<=T)
  (new:gK X.prog X.w (upd H T ob) h' T ob):Inv X pins σ (upd H T ob) {s with heap:=h',toks:=t'}:=by
 have hn:H T=none:=I.hok.fresh hT
 have nit:∀ b u,H b=some u->b ∉ ch:=fun b u e z=>by
  have q:=(hf b z).1
  rw [q] at e;cases e
 refine I.step (g':=s.gens) (d':=s.drawn) (ch:=ch) (fun b hb=>⟨(hf b hb).2.2.2.1,(hf b hb).2.1,(hf b hb).2.2.2.2.1,(hf b hb).2.2.2.2.2⟩) (fun b o _ _ hc e _=>k b o hc e) (fun b o _ _ hc e _=>⟨o.slots,k b o hc e⟩)
  (fun b o _ e n=>?_) (fun b o hc e=>⟨o,k b o hc e⟩) (fun b xs e=>?_) (fun b o u e=>?_) (fun b ps e=>⟨#[],?_⟩) (fun m hm=>?_) (fun b u e=>?_) I.bare
 ·rw [ax (Nat.ne_of_lt (Nat.lt_of_lt_of_le (Heap.lt_size e) hT))];exact n
 ·rw [ax (cC e hn)];exact e
 ·rw [ax (cC e hn)];exact e
 ·rw [ax (cC e hn),e];simp
 ·obtain ⟨o,es,ep,ho,r⟩:=hm
  exact ⟨o,es,ep,k _ o (fun z=>(hf _ z).2.1 rfl) ho,r⟩
 ·by_cases hb:b=T
  ·subst hb
   rw [aj] at e
   cases e
   exact new
  ·rw [ax hb] at e
   refine (I.hok b u e).js (fun c v hc q=>k c v ?_ q) (fun c q=>by rw [ax (cC q hn)];exact q) fun c xs q=>by rw [ax (cC q hn)];exact q
   rcases hc with z | z
   ·rw [z];exact nit b u e
   ·exact nit c _ z
theorem Inv.lock {d:Addr} {u:HO} (I:Inv X pins σ H s) (h:H d=some u) (mu:Mut (some u)):∃ od,Inv X pins σ (upd H d (.frz od u)) s:=by
 have x:=I.hok d u h
 have ex:∃ od,s.heap.get? d=some od:=by
  cases u with
  | lst xs=>obtain ⟨_,_,_,_,e⟩:=x;exact ⟨_,e⟩
  | dK kvs=>obtain ⟨_,_,_,_,o,_,_,e,_⟩:=x;exact ⟨o,e⟩
  | dT kvs=>obtain ⟨_,_,_,_,o,_,_,e,_⟩:=x;exact ⟨o,e⟩
  | set S n=>obtain ⟨o,_,_,_,e,_⟩:=x;exact ⟨o,e⟩
  | ins C dx fs=>obtain ⟨_,_,_,e,_⟩:=x;exact ⟨_,e⟩
  | ext φ=>obtain ⟨_,⟨_,e⟩,_⟩:=x;exact ⟨_,e⟩
  | _=>exact False.elim mu
 obtain ⟨od,e⟩:=ex
 have new:gK X.prog X.w (upd H d (.frz od u)) s.heap d (.frz od u):=by
  refine ⟨e,x.js (fun b v _ q=>q) (fun b q=>?_) fun b xs q=>?_⟩
  ·rw [ax (fun z=>by rw [z,h] at q;cases q;exact mu)];exact q
  ·rw [ax (fun z=>by rw [z,h] at q;cases q;exact mu)];exact q
 exact ⟨od,I.write (x:=d) (e:=d) (t':=s.toks) (h':=s.heap) (by rw [h];exact mu) (.inl rfl) (fun b v _ q=>q) ⟨od,e⟩ new⟩
theorem Inv.uQ {d:Addr} {u:HO} (I:Inv X pins σ H s) (h:H d=some u) (mu:Mut (some u)):∀ o' u',X.H_0 d≠some (.frz o' u'):=fun o' u' e=>by
 have q:=I.base.pd d o' u' e
 rw [h] at q
 cases q
 exact mu
theorem Inv.unlock {d:Addr} {od:Obj} {u:HO} (I:Inv X pins σ H s) (h:H d=some (.frz od u)) (hn:∀ o' u',X.H_0 d≠some (.frz o' u')):Inv X pins σ (upd H d u) s:=by
 have neH:∀ b o,H b=some o->(∀ o' u',o≠.frz o' u')->b≠d:=fun b o e hne z=>by
  rw [z,h] at e
  cases e
  exact hne _ _ rfl
 have neN:∀ b,H b=none->b≠d:=fun b e z=>by rw [z,h] at e;cases e
 refine ⟨I.ok,I.os,I.bare,⟨I.base.keep,I.base.slot,fun b o e n hx=>?_,I.base.there,fun b xs e=>?_,fun b o x e=>?_,fun b ps e=>?_⟩,I.loc,I.cell,?_,fun x c e=>?_,fun p hp=>?_,fun b o e=>?_,I.len⟩
 ·rw [ax (neN b (I.base.free b o e n hx))];exact I.base.free b o e n hx
 ·have q:=I.base.qj b xs e
  rw [ax (neH b _ q (fun _ _ z=>nomatch z))];exact q
 ·have q:=I.base.pd b o x e
  rw [ax (fun z=>by rw [z] at e;exact hn _ _ e)];exact q
 ·obtain ⟨m,q⟩:=I.base.qp b ps e
  exact ⟨m,by rw [ax (neH b _ q (fun _ _ z=>nomatch z))];exact q⟩
 ·rw [ax (neN _ I.free)];exact I.free
 ·rw [ax (neN c (I.jm x c e))];exact I.jm x c e
 ·obtain ⟨e,n,r⟩:=I.pin p hp
  exact ⟨e,by rw [ax (neN _ n)];exact n,r⟩
 ·by_cases hb:b=d
  ·rw [hb,aj] at e
   cases e
   rw [hb]
   obtain ⟨_,x⟩:=I.hok d _ h
   exact x.js (fun c v _ q=>q) (fun c q=>by rw [ax (neH c _ q (fun _ _ z=>nomatch z))];exact q) fun c xs q=>by rw [ax (neH c _ q (fun _ _ z=>nomatch z))];exact q
  ·rw [ax hb] at e
   exact (I.hok b o e).js (fun c v _ q=>q) (fun c q=>by rw [ax (neH c _ q (fun _ _ z=>nomatch z))];exact q) fun c xs q=>by rw [ax (neH c _ q (fun _ _ z=>nomatch z))];exact q
end
noncomputable def Ap (t:TS):TS:=fun D σ H=>∃ d u,H d=some u/\Mut (some u)/\∀ od,t ⟨fun σ' H'=>H' d=some (.frz od u)/\D.nx σ' (upd H' d u),fun v H'=>H' d=some (.frz od u)/\D.rt v (upd H' d u),fun σ' H'=>H' d=some (.frz od u)/\D.bk σ' (upd H' d u),fun σ' H'=>H' d=some (.frz od u)/\D.ct σ' (upd H' d u)⟩ σ (upd H d (.frz od u))
section
variable {X:Cx}
theorem yn {st:Stmt} {t:TS} (h:PS X st t):PS X st (Ap t):=by
 intro pins s σ H D I hw
 obtain ⟨d,u,hd,mu,hw⟩:=hw
 obtain ⟨od,I1⟩:=I.lock hd mu
 refine thn (h pins s σ _ _ I1 (hw od)) fun f s1 q=>?_
 cases f with
 | next=>obtain ⟨σ',H',I2,e,q⟩:=q;exact ⟨σ',_,I2.unlock e (I.uQ hd mu),q⟩
 | brk=>obtain ⟨σ',H',I2,e,q⟩:=q;exact ⟨σ',_,I2.unlock e (I.uQ hd mu),q⟩
 | cont=>obtain ⟨σ',H',I2,e,q⟩:=q;exact ⟨σ',_,I2.unlock e (I.uQ hd mu),q⟩
 | ret v=>obtain ⟨x,σ',H',I2,r,e,q⟩:=q;exact ⟨x,σ',_,I2.unlock e (I.uQ hd mu),r,q⟩
end
section
variable {X:Cx} {tg:Expr}
end
section
variable {X:Cx} {tg:Expr}
end
section
variable {prog:Program} {w:World} {A:Around} {E:Value->Shared->Prop} {s:Shared}
end
section
variable {X:Cx} {pins:List (Addr×Obj)} {σ:St} {H:Hp} {s:Shared} {d:Addr} {o:Obj}
end
section
variable {P:Program} {w:World} {K:PySem.W.Frag} {tg:Expr} {d:Addr} {o:Obj} {es:Array DictEntry} {ep:Nat}
end
section
variable {X:Cx} {tg e:Expr} {td:TE} {apos cpos:Pos}
end
noncomputable def Ite (K:PySem.W.Frag) (a:Addr):It:=
 ⟨fun i H=>∃ (xs:List V) (x:V),SqL K H a xs/\xs[i]? = some x,fun i H v H'=>∃ T x,v=.ref T/\H T=none/\H'=upd H T (.tup [.int (i:Nat),x])/\∀ xs,SqL K H a xs->xs[i]? = some x,fun i H=>∃ xs:List V,SqL K H a xs/\xs.length<=i⟩
theorem vi {P:Program} {w:World} {K:PySem.W.Frag} {elts:List Expr} {kk:Nat} {tpos:Pos} (a e it:Addr) :
  Turn P w K (.Tuple elts kk tpos) (Ite K a) [e,it] e (fun i h=>(∃ old,IsEnum h e it ((i:Nat):Int) old)/\h.IsListIter it a i/\e≠it) where
 mem:=by simp
 obj:=fun i h st b hb=>by
  obtain ⟨⟨old,he⟩,⟨o,ho,hc,hd⟩,_⟩:=st
  have e':b=e\/b=it:=by simpa using hb
  rcases e' with z | z
  ·rw [z];exact ⟨_,he,fun v q=>nomatch q⟩
  ·rw [z];exact ⟨o,ho,fun v q=>by rw [hd] at q;cases q⟩
 keep:=fun i h h' st k=>let ⟨⟨old,he⟩,hi,hne⟩:=st;⟨⟨old,k e (by simp) _ he⟩,hi.at fun o q=>k it (by simp) o q,hne⟩
 item:=by
  intro X hP hw hK hc i pins s σ H E I hf st hg
  subst hP hw hK
  obtain ⟨⟨old,he⟩,hit,hne⟩:=st
  obtain ⟨xs,x,hq,hx⟩:=hg
  obtain ⟨its,rv,p,hz⟩:=I.list hq
  obtain ⟨u,hu,ru⟩:=rv.get hx
  have hel:e < s.heap.objs.size:=Heap.lt_size he
  have hil:it < s.heap.objs.size:=by obtain ⟨_,q,_⟩:=hit;exact Heap.lt_size q
  refine wpAny_pyNext_enum_item he hit p.isList (x:=u) (by simpa using hu) hne fun h' ho hit' hT hsz hk=>?_
  refine ⟨_,rfl,wpAny_letOwnedTupleGo_enum (s:={s with heap:=h',toks:=s.toks+1}) ho fun h'' he' sb=>?_⟩
  have hT2:h''.get? s.heap.objs.size=some {cls:=.type "tuple",data:=.seq #[.int i s.toks,u]}:=(sb.2 _ (Nat.ne_of_gt hel)).trans hT
  have new:gK X.prog X.w (upd H s.heap.objs.size (.tup [.int (i:Nat),x])) h'' s.heap.objs.size (.tup [.int (i:Nat),x]):=
   ⟨by show 2<=sizeLine;decide,[.int i s.toks,u],.cons ⟨_,rfl⟩ (.cons ru .nil),⟨_,hT2,rfl,_,rfl⟩⟩
  have I1:Inv X pins σ (upd H s.heap.objs.size (.tup [.int (i:Nat),x])) {s with heap:=h'',toks:=s.toks+1}:=
   I.pS (ch:=[e,it]) (fun b ob hb q=>(sb.2 b (fun z=>hb (by simp [z]))).trans (hk b ob (fun z=>hb (by simp [z])) (fun z=>hb (by simp [z])) q)) hf (Nat.le_refl _) new
  refine ⟨.ref s.heap.objs.size,_,I1,rfl,⟨_,x,rfl,I.hok.fresh (Nat.le_refl _),rfl,fun ys hy=>by rw [I.oO hy hq];exact hx⟩,⟨⟨u,?_⟩,hit'.at fun o q=>(sb.2 it (Ne.symm hne)).trans q,hne⟩,fun b hb=>?_⟩
  ·have e1:((i+1:Nat):Int)=(i:Int)+1:=by omega
   rw [e1];exact he'
  ·have hb':b < s.heap.objs.size:=by
    have e':b=e\/b=it:=by simpa using hb
    rcases e' with z | z
    ·rw [z];exact hel
    ·rw [z];exact hil
   rw [ax (Nat.ne_of_lt hb')]
   exact (hf b hb).1
 done:=by
  intro X hP hw hK hc i pins s σ H E I hf st hg
  subst hP hw hK
  obtain ⟨⟨old,he⟩,hit,hne⟩:=st
  obtain ⟨xs,hq,hx⟩:=hg
  obtain ⟨its,rv,p,hz⟩:=I.list hq
  obtain ⟨f0,f1,f2,f3,f4,f5⟩:=hf it (by simp)
  have hl:=rv.length
  exact wpAny_pyNext_enum_end (I.ok.hd hc) he hit p.isList (by simp;omega) fun h' eb=>⟨rfl,I.turned (t':=s.toks) (fun b o hb q=>eb b o hb q) f0 f1 f3 f4 f5⟩
 self:=fun A i s Q E st h=>let ⟨⟨_,he⟩,_⟩:=st;wpAny_pyIter_enum he h
noncomputable def AY (K:PySem.W.Frag) (ta:TA):TI:=fun σ H R=>ta σ H fun vs H1=>∃ a xs,vs=[.ref a]/\SqL K H1 a xs/\R (Ite K a) H1
theorem uI {X:Cx} {e:Expr} {ta:TA} {p pos tpos:Pos} {elts:List Expr} {kk:Nat} (hg:Gl X "enumerate") (hm:X.mg "enumerate" = none) (ha:PA X [e] ta) (hs:starEach [e] X.env=[(false,eval e X.env)]:=by rfl) :
  PI X (.Tuple elts kk tpos) (.Call (.Name "enumerate" p) [e] [] pos) (AY X.K ta):=by
 intro pins s σ H R I h
 refine Call_ (oT I hg hm boot_enumerate (PyProof.Rows.callWith_type1 (thn (ha pos pins s σ H _ I h) fun us s1 ⟨vs,H1,I1,r1,q1⟩=>?_) hs rfl))
 obtain ⟨a,xs,ex,hq,q⟩:=q1
 subst ex
 cases r1 with
 | cons r rr=>
   cases rr
   cases r
   obtain ⟨its,rv,p',hz⟩:=I1.list hq
   refine call_enumerate_list p'.isList fun h' he hit hsz hk=>wpAny_pyIter_enum he ?_
   have I2:Inv X pins σ H1 {s1 with heap:=h'}:=I1.kept (t':=s1.toks) hk
   refine ⟨s1.heap.objs.size+1,[s1.heap.objs.size+1,s1.heap.objs.size],_,_,H1,rfl,I2,vi a (s1.heap.objs.size+1) s1.heap.objs.size,⟨⟨.none,he⟩,hit,Nat.succ_ne_self _⟩,fun b hb=>?_,q⟩
   have e':b=s1.heap.objs.size+1\/b=s1.heap.objs.size:=by simpa using hb
   have hle:s1.heap.objs.size<=b:=by
    rcases e' with z | z
    ·rw [z];exact Nat.le_add_right _ _
    ·rw [z];exact Nat.le_refl _
   exact I1.xA hle (I1.hok.fresh hle)
theorem we:bootBuiltins "zip" = some (.type "zip"):=by decide +kernel
end L2
section
namespace Bits
open PySem PyProof.Rows
end Bits
end
section
namespace TL
open PySem PySem.Builtin PySem.Builtin.Str PySem.StrLaws
end TL
end
namespace L2
open PySem PySem.Spec PyProof.Rows
section
variable {X:Cx} {pins:List (Addr×Obj)} {σ:St} {H:Hp} {s:Shared} {Q:VK}
end
section
variable {X:Cx}
end
section
variable {X:Cx} {o e:Expr} {to te:TE}
end
end L2
namespace L2
open PySem PySem.Spec PyProof.Rows
section
variable {X:Cx}
end
end L2
namespace Att
open PySem PySem.W PySem.Calls PyProof.Rows
section
variable {prog:Program} {w:World} {A:Around} {E:Value->Shared->Prop} {s:Shared} {K:Frag}
end
end Att
namespace L2
open PySem PySem.Spec PyProof.Rows
end L2
namespace L2
open PySem PySem.Spec PyProof.Rows
end L2
namespace L2
open PySem PySem.Spec PyProof.Rows
noncomputable def inClass (s:Stmt) (j:Nat):Stmt:=match s with
 | .ClassDef _ _ _ body _ _ _ _ _ _ _=>body.getD j (.Pass ⟨0,0,0,0⟩)
 | _=>.Pass ⟨0,0,0,0⟩
noncomputable def eR (s:Stmt):Arguments:=match s with
 | .FunctionDef _ a _ _ _ _ _ _ _ _=>a
 | _=>{posonlyargs:=[],args:=[],vararg:=none,kwonlyargs:=[],kw_defaults:=[],kwarg:=none,defaults:=[]}
noncomputable def eu (s:Stmt):List Stmt:=match s with
 | .FunctionDef _ _ b _ _ _ _ _ _ _=>b
 | _=>[]
noncomputable def ao (s:Stmt):Scope:=match s with
 | .FunctionDef _ _ _ _ _ _ sc _ _ _=>sc
 | _=>{kind:=.function,names:=[],isGenerator:=false,isCoroutine:=false}
abbrev CX0:CXT:=fun _ _ _ _ _ _=>False
abbrev E0:XK:=fun _ _ _=>False
theorem mf {X:Cx}:Passes CX0 X E0:=fun _ _ _ _ _ _ _ h=>h.elim
structure Fun (K:PySem.W.Frag) (x qual:Str) (st:Stmt) (f:Addr) (fd:FuncData):Prop where
 ex:∃ (oc:Value) (od:Option Addr) (kV doc pm:Value) (an:Option Addr) (cdv ct:Value) (osl:Array (Option Value)),
  fd=PySem.W.fnOf x qual (eR st) (eu st) (ao st) .none kV doc pm an cdv ct/\K.lookup f=some ⟨oc,od,.func fd,osl⟩/\PySem.W.codeIn K cdv qual=true
 kp:PySem.W.keepIn K (.ref f)=true
section
variable {P:Program} {w:World} {K:PySem.W.Frag} {mg:Str->Option Value} {base:Heap}
theorem Fun.ok {x qual:Str} {st:Stmt} {f:Addr} {fd:FuncData} {N ps:List Str} {k:Nat} {sp:Sp} (F:Fun K x qual st f fd) (S:aC N ps (ao st)) (len:∀ vs H Q E,sp vs H Q E->vs.length=ps.length)
  (hbody:∀ (cdv:Value) (A:Around) (outer:List Env) (s:Shared) (H:Hp) (vs:List V) (Q:VK) (E:XK),gJ k (A.deeper (envOfC qual (ao st) s.heap.objs.size f cdv))->sp vs H Q E->
   ∃ t,PSs (vY CX0 P w K mg base N qual (ao st) f cdv A outer s H E).nox (eu st) t/\t {nx:=fun _ H'=>Q .non H',rt:=Q} (start N vs) H):cD P w K mg base CX0 (k+1) f fd ps sp:=by
 obtain ⟨oc,od,kV,doc,pm,an,cdv,ct,osl,rfl,lk,hcd⟩:=F.ex
 refine AZ lk hcd S len fun A outer s H vs Q E hr hsp=>?_
 obtain ⟨t,h,q⟩:=hbody cdv A outer s H vs Q E hr hsp
 exact ⟨t,h.nox,q⟩
theorem Fun.binds {x qual:Str} {st:Stmt} {f:Addr} {fd:FuncData} {ps:List Str} (F:Fun K x qual st f fd)
  (h:∀ (kV doc pm:Value) (an:Option Addr) (cdv ct:Value) (us:List Value),us.length=ps.length->bindArgs (PySem.W.fnOf x qual (eR st) (eu st) (ao st) .none kV doc pm an cdv ct) ⟨us,[]⟩=pure (ps.zip us)):Binds K fd ps []:=by
 obtain ⟨oc,od,kV,doc,pm,an,cdv,ct,osl,rfl,lk,hcd⟩:=F.ex
 exact .all (h kV doc pm an cdv ct)
theorem gw {x qual:Str} {st:Stmt} {f:Addr} {oc:Value} {od an:Option Addr} {osl:Array (Option Value)} {kV doc pm cdv ct:Value} (l:K.lookup f=some ⟨oc,od,.func (PySem.W.fnOf x qual (eR st) (eu st) (ao st) .none kV doc pm an cdv ct),osl⟩)
  (c:PySem.W.codeIn K cdv qual=true) (k:PySem.W.keepIn K (.ref f)=true):Fun K x qual st f (PySem.W.fnOf x qual (eR st) (eu st) (ao st) .none kV doc pm an cdv ct):=⟨⟨oc,od,kV,doc,pm,an,cdv,ct,osl,rfl,l,c⟩,k⟩
end
theorem cG {n:Nat} (h:n<=1000):n < sizeLine:=Nat.lt_of_le_of_lt h (by decide)
section
variable {X:Cx}
theorem pv (i:Nat) {x:Str} {pos:Pos} (hN:X.N[i]? = some x:=by rfl) (hv:Vis X.env.scope x:=by first | exact Or.inl rfl | exact Or.inr (Or.inl rfl) | exact Or.inr (Or.inr rfl)) (hd:(x==("__debug__":Str))=false:=by decide)
  (hcd:(x==("__classdict__":Str))=false:=by decide):PE X (.Name x pos) (gm i):=zJ hN hv hd hcd
end
theorem BF {A B:Prop} (h:B):if false=true then A else B:=by
 rw [if_neg Bool.false_ne_true]
 exact h
theorem BE {A B:Prop} (h:A):if true=true then A else B:=by
 rw [if_pos rfl]
 exact h
theorem dG {c A B:Prop} [Decidable c] (h1:c->A) (h2:¬c->B):if c then A else B:=by
 by_cases h:c
 ·rw [if_pos h]
  exact h1 h
 ·rw [if_neg h]
  exact h2 h
noncomputable def aV (H H':Hp):Prop:=∀ b o,H b=some o->H' b=some o
theorem aV.refl (H:Hp):aV H H:=fun _ _ h=>h
theorem aV.trans {H H1 H2:Hp} (a:aV H H1) (b:aV H1 H2):aV H H2:=fun c o h=>b c o (a c o h)
theorem aV.free {H H':Hp} (e:aV H H') {l:Addr} (h:H' l=Option.none):H l=Option.none:=by
 cases q:H l with
 | none=>rfl
 | some o=>
   rw [e l o q] at h
   cases h
theorem aV.seq {K:PySem.W.Frag} {H H':Hp} {a:Addr} {xs:List V} (e:aV H H') (h:SqL K H a xs):SqL K H' a xs:=by
 rcases h with (h | ⟨o,h⟩) | h
 ·exact .inl (.inl (e _ _ h))
 ·exact .inl (.inr ⟨o,e _ _ h⟩)
 ·exact .inr h
section
variable {κ:Type} [DecidableEq κ]
end
theorem at_of {xs:List V} {z:Int} {j:Nat} {v:V} (e:z=(j:Int)) (h:xs[j]? = some v):atI xs z=some v:=by
 rw [e]
 exact bF h
theorem aV.made {H H1:Hp} {x dx C:Addr} (nx:H x=Option.none) (nd:H dx=Option.none) (k:∀ b o,(upd (upd H dx (.own x)) x (.ins C dx [])) b=some o->b≠x->H1 b=some o):aV H H1:=fun b o e=>
 k b o (by rw [ax (cC e nx),ax (cC e nd)];exact e) (cC e nx)
end L2
section
set_option Elab.async false
set_option linter.all false
set_option maxRecDepth 100000
set_option maxHeartbeats 2000000
namespace L2
open PySem PySem.Spec PyProof.Rows
open PySem.W (WData Codec OpenSpec Well WellAll ReadsW ReadsAllW)
mutual
inductive Dw (K:PySem.W.Frag) (H:Hp):V->WData->Prop
 | non:Dw K H .non .none
 | bl (b:Bool):Dw K H (.bl b) (.bool b)
 | int (i:Int):Dw K H (.int i) (.int i)
 | str (x:Str):Dw K H (.str x) (.str x)
 | byt (b:Array UInt8):Dw K H (.byt b) (.bytes b.toList)
 | lst {a:Addr} {xs:List V} {ds:List WData}:SqL K H a xs->jQ K H xs ds->Dw K H (.ref a) (.list ds)
 | tup {a:Addr} {xs:List V} {ds:List WData}:SqT K H a xs->jQ K H xs ds->Dw K H (.ref a) (.tuple ds)
inductive jQ (K:PySem.W.Frag) (H:Hp):List V->List WData->Prop
 | nil:jQ K H [] []
 | cons {v:V} {vs:List V} {d:WData} {ds:List WData}:Dw K H v d->jQ K H vs ds->jQ K H (v::vs) (d::ds)
end
theorem va {K:PySem.W.Frag} {H:Hp}:∀ ns:List Int,jQ K H (ns.map V.int) (ns.map WData.int)
 | []=>.nil
 | n::r=>.cons (.int n) (va r)
theorem uZ {K:PySem.W.Frag} {H:Hp}:∀ (ns:List Int) (xs:List V),jQ K H xs (ns.map WData.int)->xs=ns.map V.int
 | [],xs,h=>by
   cases h
   rfl
 | n::r,xs,h=>by
   cases h with
   | cons h1 h2=>
     cases h1
     rw [uZ r _ h2]<;>rfl
section
variable {P:Program} {w:World} {K:PySem.W.Frag} {H:Hp} {h:Heap} {R:PySem.W.WRecords} {cl:Str->Option Addr}
theorem zj {a:Addr} {xs:List V} (hok:HOk P w H h) (KX:K.In h) (q:SqL K H a xs):∃ (its:List Value) (o:Obj) (n:Nat),Vals xs its/\h.get? a=some o/\o.cls=.type "list"/\o.data=.seq its.toArray n:=by
 rcases q with q | ⟨o,its,n,e,hc,_,hd,_,hv⟩
 ·obtain ⟨_,its,n,hv,e⟩:=(show gK P w H h a (.lst xs) from q.ok hok)
  exact ⟨its,_,n,hv,e,rfl,rfl⟩
 ·exact ⟨its.toList,o,n,hv,KX _ _ e,hc,by simp [hd]⟩
theorem zi {a:Addr} {xs:List V} (hok:HOk P w H h) (KX:K.In h) (q:SqT K H a xs):∃ (its:List Value) (o:Obj) (n:Nat),Vals xs its/\h.get? a=some o/\o.cls=.type "tuple"/\o.data=.seq its.toArray n:=by
 rcases q with q | ⟨o,its,n,e,hc,hd,_,hv⟩
 ·obtain ⟨_,its,hv,o,e,hc,n,hd⟩:=(show gK P w H h a (.tup xs) from q.ok hok)
  exact ⟨its,o,n,hv,e,hc,hd⟩
 ·exact ⟨its.toList,o,n,hv,KX _ _ e,hc,by simp [hd]⟩
mutual
theorem Dw.reads (hok:HOk P w H h) (KX:K.In h):∀ (d:WData) (v:V) (u:Value),Dw K H v d->RelV v u->∃ as,ReadsW R cl h u d as
 | .none,_,_,x,r=>by
   cases x
   cases r
   exact ⟨_,ReadsW.none⟩
 | .bool b,_,_,x,r=>by
   cases x
   cases r
   exact ⟨_,ReadsW.bool b⟩
 | .int i,_,_,x,r=>by
   cases x
   obtain ⟨t,rfl⟩:=r
   exact ⟨_,ReadsW.int i t⟩
 | .str s,_,_,x,r=>by
   cases x
   obtain ⟨t,rfl⟩:=r
   exact ⟨_,ReadsW.str s t⟩
 | .bytes b,_,_,x,r=>by
   cases x
   obtain ⟨t,rfl⟩:=r
   exact ⟨_,ReadsW.bytes _ t⟩
 | .list ds,_,_,x,r=>by
   cases x with
   | lst hs ha=>
     cases r
     obtain ⟨its,o,n,rv,ho,hc,hd⟩:=zj hok KX hs
     obtain ⟨as,hr⟩:=Dw.readsAll hok KX ds _ its ha rv
     exact ⟨_,ReadsW.list ho hc hd hr⟩
 | .tuple ds,_,_,x,r=>by
   cases x with
   | tup hs ha=>
     cases r
     obtain ⟨its,o,n,rv,ho,hc,hd⟩:=zi hok KX hs
     obtain ⟨as,hr⟩:=Dw.readsAll hok KX ds _ its ha rv
     exact ⟨_,ReadsW.tuple ho hc hd hr⟩
 | .float _,_,_,x,_=>by cases x
 | .dict _,_,_,x,_=>by cases x
 | .bytearray _,_,_,x,_=>by cases x
 | .set _,_,_,x,_=>by cases x
 | .frozenset _,_,_,x,_=>by cases x
 | .obj _ _,_,_,x,_=>by cases x
theorem Dw.readsAll (hok:HOk P w H h) (KX:K.In h):∀ (ds:List WData) (vs:List V) (us:List Value),jQ K H vs ds->Vals vs us->∃ as,ReadsAllW R cl h us ds as
 | [],_,_,x,r=>by
   cases x
   cases r
   exact ⟨_,ReadsAllW.nil⟩
 | d::ds,_,_,x,r=>by
   cases x with
   | cons h1 h2=>
     cases r with
     | cons r1 r2=>
       obtain ⟨as,q1⟩:=Dw.reads hok KX d _ _ h1 r1
       obtain ⟨bs,q2⟩:=Dw.readsAll hok KX ds _ _ h2 r2
       exact ⟨_,ReadsAllW.cons q1 q2⟩
end
end
mutual
noncomputable def plW:WData->Bool
 | .none=>true
 | .bool _=>true
 | .int _=>true
 | .str _=>true
 | .bytes _=>true
 | .list xs=>nv xs
 | .tuple xs=>nv xs
 | _=>false
noncomputable def nv:List WData->Bool
 | []=>true
 | x::r=>plW x&&nv r
end
theorem rV {α:Type} {f:α->WData} (h:∀ a,plW (f a)=true):∀ l:List α,nv (l.map f)=true
 | []=>rfl
 | x::r=>by
   show (plW (f x)&&nv (r.map f))=true
   rw [h x,rV h r]<;>rfl
theorem kh:∀ (c:Codec) (a:c.denote),plW (c.enc a)=true
 | .unit,_=>rfl
 | .bool,_=>rfl
 | .int _ _,_=>rfl
 | .nat _ _,_=>rfl
 | .u8,_=>rfl
 | .bytes _ _,_=>rfl
 | .text _ _ _ _,_=>rfl
 | .list _ _ c,a=>rV (fun x=>kh c x) a
 | .pair c d,a=>by
   show (plW (c.enc a.1)&&(plW (d.enc a.2)&&true))=true
   rw [kh c a.1,kh d a.2]<;>rfl
 | .triple c d e,a=>by
   show (plW (c.enc a.1)&&(plW (d.enc a.2.1)&&(plW (e.enc a.2.2)&&true)))=true
   rw [kh c a.1,kh d a.2.1,kh e a.2.2]<;>rfl
 | .option c,none=>rfl
 | .option c,some x=>kh c x
theorem pW:∀ (cs:List Codec) (a:Codec.denoteAll cs),nv (Codec.encAll cs a)=true
 | [],_=>rfl
 | c::cs,a=>by
   show (plW (c.enc a.1)&&nv (Codec.encAll cs a.2))=true
   rw [kh c a.1,pW cs a.2]<;>rfl
theorem lH:∀ {xs:List WData} {d:WData},d ∈ xs->d.weight<=WData.weightAll xs
 | [],d,h=>absurd h (by simp)
 | x::r,d,h=>by
   show d.weight<=x.weight+1+WData.weightAll r
   rcases List.mem_cons.mp h with e | m
   ·rw [e]
    omega
   ·have z:=lH m
    omega
noncomputable def toV:Value->V
 | .none=>.non
 | .bool b=>.bl b
 | .int i _=>.int i
 | .str x _=>.str x
 | .bytes b _=>.byt b
 | .ref a=>.ref a
 | _=>.non
noncomputable def OkU (A:List Addr):Value->Prop
 | .none=>True
 | .bool _=>True
 | .int _ _=>True
 | .str _ _=>True
 | .bytes _ _=>True
 | .ref a=>a ∈ A
 | _=>False
theorem OkU.mono {A B:List Addr} (h:∀ a ∈ A,a ∈ B):∀ {u:Value},OkU A u->OkU B u:=fun {u} x=>by
 cases u with
 | ref a=>exact h a x
 | none=>trivial
 | bool b=>trivial
 | int i t=>trivial
 | str s t=>trivial
 | bytes b t=>trivial
 | _=>exact False.elim x
theorem wJ {A:List Addr} {u:Value} (x:OkU A u):RelV (toV u) u:=by
 cases u with
 | ref a=>rfl
 | none=>rfl
 | bool b=>rfl
 | int i t=>exact ⟨t,rfl⟩
 | str s t=>exact ⟨t,rfl⟩
 | bytes b t=>exact ⟨t,rfl⟩
 | _=>exact False.elim x
theorem jd {A:List Addr}:∀ {vs:List Value},(∀ u ∈ vs,OkU A u)->Vals (vs.map toV) vs
 | [],_=>.nil
 | u::r,h=>.cons (wJ (h u (List.mem_cons_self ..))) (jd fun x hx=>h x (List.mem_cons_of_mem _ hx))
noncomputable def jS (h:Heap) (A:List Addr) (a:Addr):Prop:=∃ vs:List Value,vs.length<=sizeLine/\(∀ u ∈ vs,OkU A u)/\
 (h.get? a=some {cls:=.type "list",data:=.seq vs.toArray}\/h.get? a=some {cls:=.type "tuple",data:=.seq vs.toArray})
theorem jS.mono {h:Heap} {A B:List Addr} {a:Addr} (k:∀ a ∈ A,a ∈ B) (x:jS h A a):jS h B a:=by
 obtain ⟨vs,h1,h2,h3⟩:=x
 exact ⟨vs,h1,fun u hu=>(h2 u hu).mono k,h3⟩
theorem iU {P:Params} {h:Heap}:∀ {vs:List Value} {ds:List WData},WellAll P h vs ds->vs.length=ds.length
 | _,_,.nil=>rfl
 | _,_,.cons _ b=>by
   show _+1=_+1
   rw [iU b]
theorem pP {P:Params} {h:Heap} {v:Value} {ds:List WData} (x:Well P h v (.list ds)):∃ (a:Addr) (vs:List Value),v=.ref a/\h.get? a=some {cls:=.type "list",data:=.seq vs.toArray}/\WellAll P h vs ds:=by
 cases x with
 | list ho hall=>exact ⟨_,_,rfl,ho,hall⟩
theorem nR {P:Params} {h:Heap} {v:Value} {ds:List WData} (x:Well P h v (.tuple ds)):∃ (a:Addr) (vs:List Value),v=.ref a/\h.get? a=some {cls:=.type "tuple",data:=.seq vs.toArray}/\WellAll P h vs ds:=by
 cases x with
 | tuple ho hall=>exact ⟨_,_,rfl,ho,hall⟩
theorem pQ {P:Params} {h:Heap} {us:List Value} {d:WData} {ds:List WData} (x:WellAll P h us (d::ds)):∃ (v:Value) (vs:List Value),us=v::vs/\Well P h v d/\WellAll P h vs ds:=by
 cases x with
 | cons a b=>exact ⟨_,_,rfl,a,b⟩
theorem uU {n:Nat} (h:n<=1048576):n<=sizeLine:=Nat.le_trans h (by decide)
section
variable {P:Params} {h:Heap}
mutual
theorem xQ:∀ (d:WData) (v:Value),Well P h v d->plW d=true->d.weight<=1048576->∃ A:List Addr,OkU A v/\∀ a ∈ A,jS h A a
 | .none,_,x,_,_=>by
   cases x
   exact ⟨[],trivial,fun a m=>absurd m (by simp)⟩
 | .bool b,_,x,_,_=>by
   cases x
   exact ⟨[],trivial,fun a m=>absurd m (by simp)⟩
 | .int i,_,x,_,_=>by
   cases x
   exact ⟨[],trivial,fun a m=>absurd m (by simp)⟩
 | .str s,_,x,_,_=>by
   cases x
   exact ⟨[],trivial,fun a m=>absurd m (by simp)⟩
 | .bytes b,_,x,_,_=>by
   cases x
   exact ⟨[],trivial,fun a m=>absurd m (by simp)⟩
 | .list ds,_,x,p,z=>by
   obtain ⟨a,vs,rfl,ho,hall⟩:=pP x
   have z2:WData.weightAll ds<=1048576:=z
   obtain ⟨A,h1,h2⟩:=mE ds _ hall p fun d hd=>Nat.le_trans (lH hd) z2
   have k:∀ b ∈ A,b ∈ a::A:=fun b hb=>List.mem_cons_of_mem _ hb
   refine ⟨a::A,List.mem_cons_self ..,fun b hb=>?_⟩
   rcases List.mem_cons.mp hb with e | m
   ·rw [e]
    exact ⟨vs,uU (by rw [iU hall];exact Nat.le_trans (PySem.W.length_le_weightAllW ds) z2),fun u hu=>(h1 u hu).mono k,.inl ho⟩
   ·exact (h2 b m).mono k
 | .tuple ds,_,x,p,z=>by
   obtain ⟨a,vs,rfl,ho,hall⟩:=nR x
   have z2:WData.weightAll ds<=1048576:=z
   obtain ⟨A,h1,h2⟩:=mE ds _ hall p fun d hd=>Nat.le_trans (lH hd) z2
   have k:∀ b ∈ A,b ∈ a::A:=fun b hb=>List.mem_cons_of_mem _ hb
   refine ⟨a::A,List.mem_cons_self ..,fun b hb=>?_⟩
   rcases List.mem_cons.mp hb with e | m
   ·rw [e]
    exact ⟨vs,uU (by rw [iU hall];exact Nat.le_trans (PySem.W.length_le_weightAllW ds) z2),fun u hu=>(h1 u hu).mono k,.inr ho⟩
   ·exact (h2 b m).mono k
 | .float _,_,_,p,_=>Bool.noConfusion (show false=true from p)
 | .dict _,_,_,p,_=>Bool.noConfusion (show false=true from p)
 | .bytearray _,_,_,p,_=>Bool.noConfusion (show false=true from p)
 | .set _,_,_,p,_=>Bool.noConfusion (show false=true from p)
 | .frozenset _,_,_,p,_=>Bool.noConfusion (show false=true from p)
 | .obj _ _,_,_,p,_=>Bool.noConfusion (show false=true from p)
theorem mE:∀ (ds:List WData) (vs:List Value),WellAll P h vs ds->nv ds=true->(∀ d ∈ ds,d.weight<=1048576)->∃ A:List Addr,(∀ u ∈ vs,OkU A u)/\∀ a ∈ A,jS h A a
 | [],_,x,_,_=>by
   cases x
   exact ⟨[],fun u m=>absurd m (by simp),fun a m=>absurd m (by simp)⟩
 | d::ds,_,x,p,z=>by
   obtain ⟨v,vs,rfl,x1,x2⟩:=pQ x
   have q:plW d=true/\nv ds=true:=Bool.and_eq_true_iff.mp p
   obtain ⟨A,a1,a2⟩:=xQ d v x1 q.1 (z d (List.mem_cons_self ..))
   obtain ⟨B,b1,b2⟩:=mE ds vs x2 q.2 fun e he=>z e (List.mem_cons_of_mem _ he)
   have kA:∀ b ∈ A,b ∈ A++B:=fun b hb=>List.mem_append.mpr (.inl hb)
   have kB:∀ b ∈ B,b ∈ A++B:=fun b hb=>List.mem_append.mpr (.inr hb)
   refine ⟨A++B,fun u hu=>?_,fun b hb=>?_⟩
   ·rcases List.mem_cons.mp hu with e | m
    ·rw [e]
     exact a1.mono kA
    ·exact (b1 u m).mono kB
   ·rcases List.mem_append.mp hb with m | m
    ·exact (a2 b m).mono kA
    ·exact (b2 b m).mono kB
end
end
noncomputable def yJ (o:Obj):Option HO:=match o.data with
 | .seq vs _=>if (o.cls==Value.type "list")=true then some (.frz o (.lst (vs.toList.map toV))) else some (.frz o (.tup (vs.toList.map toV)))
 | _=>none
noncomputable def jC (K:PySem.W.Frag) (h:Heap) (A:List Addr):Hp:=fun b=>if b ∈ A then (if (K.lookup b).isNone=true then (h.get? b).bind yJ else none) else none
noncomputable def sZ (H:Hp):Prop:=∀ b,H b=none\/∃ o u,H b=some (.frz o u)
theorem sC (vs:List Value):yJ {cls:=.type "list",data:=.seq vs.toArray} = some (.frz {cls:=.type "list",data:=.seq vs.toArray} (.lst (vs.map toV))):=by
 show (if (Value.type "list"==Value.type "list")=true then some (HO.frz {cls:=.type "list",data:=.seq vs.toArray} (.lst (vs.toArray.toList.map toV))) else some (HO.frz {cls:=.type "list",data:=.seq vs.toArray} (.tup (vs.toArray.toList.map toV))))=_
 rw [if_pos (beq_self_eq_true _)]
theorem sA (vs:List Value):yJ {cls:=.type "tuple",data:=.seq vs.toArray} = some (.frz {cls:=.type "tuple",data:=.seq vs.toArray} (.tup (vs.map toV))):=by
 show (if (Value.type "tuple"==Value.type "list")=true then some (HO.frz {cls:=.type "tuple",data:=.seq vs.toArray} (.lst (vs.toArray.toList.map toV))) else some (HO.frz {cls:=.type "tuple",data:=.seq vs.toArray} (.tup (vs.toArray.toList.map toV))))=_
 rw [if_neg (by decide)]
section
variable {P:Program} {w:World} {K:PySem.W.Frag} {h:Heap} {A:List Addr}
theorem nQ {b:Addr} {o:Obj} (hb:b ∈ A) (hk:K.lookup b=none) (e:h.get? b=some o):jC K h A b=yJ o:=by
 unfold jC
 rw [if_pos hb,hk,if_pos (show (none:Option Obj).isNone=true from rfl),e]<;>rfl
theorem yA {b:Addr} {u:HO} (q:jC K h A b=some u):b ∈ A/\K.lookup b=none:=by
 unfold jC at q
 by_cases hb:b ∈ A
 ·rw [if_pos hb] at q
  cases hk:K.lookup b with
  | none=>exact ⟨hb,rfl⟩
  | some o=>
    rw [hk,if_neg (by simp)] at q
    cases q
 ·rw [if_neg hb] at q
  cases q
theorem nP (ar:∀ a ∈ A,jS h A a) {b:Addr} {u:HO} (q:jC K h A b=some u):K.lookup b=none/\∃ vs:List Value,vs.length<=sizeLine/\(∀ u ∈ vs,OkU A u)/\
  ((h.get? b=some {cls:=.type "list",data:=.seq vs.toArray}/\u=.frz {cls:=.type "list",data:=.seq vs.toArray} (.lst (vs.map toV)))\/
   (h.get? b=some {cls:=.type "tuple",data:=.seq vs.toArray}/\u=.frz {cls:=.type "tuple",data:=.seq vs.toArray} (.tup (vs.map toV)))):=by
 obtain ⟨hb,hk⟩:=yA q
 obtain ⟨vs,h1,h2,h3⟩:=ar b hb
 refine ⟨hk,vs,h1,h2,?_⟩
 rcases h3 with e | e
 ·rw [nQ hb hk e,sC] at q
  exact .inl ⟨e,(Option.some.inj q).symm⟩
 ·rw [nQ hb hk e,sA] at q
  exact .inr ⟨e,(Option.some.inj q).symm⟩
theorem wg (ar:∀ a ∈ A,jS h A a):sZ (jC K h A):=fun b=>by
 cases q:jC K h A b with
 | none=>exact .inl rfl
 | some u=>
   obtain ⟨_,vs,_,_,⟨_,e⟩ | ⟨_,e⟩⟩:=nP ar q
   ·exact .inr ⟨_,_,by rw [e]⟩
   ·exact .inr ⟨_,_,by rw [e]⟩
theorem yN (ar:∀ a ∈ A,jS h A a):HOk P w (jC K h A) h:=fun b u q=>by
 obtain ⟨_,vs,h1,h2,⟨e,rfl⟩ | ⟨e,rfl⟩⟩:=nP ar q
 ·exact ⟨e,by rw [List.length_map];exact h1,vs,_,jd h2,e⟩
 ·exact ⟨e,by rw [List.length_map];exact h1,vs,jd h2,_,e,rfl,_,rfl⟩
theorem nJ {c c':Value} {vs us:List Value} (e:(some {cls:=c,data:=.seq vs.toArray}:Option Obj)=some {cls:=c',data:=.seq us.toArray}):c=c'/\vs=us:=by
 have e1:=Option.some.inj e
 have e2:c=c':=congrArg Obj.cls e1
 have e3:Data.seq vs.toArray=Data.seq us.toArray:=congrArg Obj.data e1
 injection e3 with e4
 refine ⟨e2,?_⟩
 have e5:=congrArg Array.toList e4
 simpa using e5
theorem BK (KX:K.In h) (ar:∀ a ∈ A,jS h A a) {a:Addr} {vs:List Value} (ha:a ∈ A) (e:h.get? a=some {cls:=.type "list",data:=.seq vs.toArray}):(∀ u ∈ vs,OkU A u)/\SqL K (jC K h A) a (vs.map toV):=by
 obtain ⟨us,h1,h2,h3⟩:=ar a ha
 have hu:us=vs:=by
  rcases h3 with q | q
  ·rw [e] at q
   exact (nJ q).2.symm
  ·rw [e] at q
   exact absurd (Value.type.inj (nJ q).1) (by decide)
 subst hu
 refine ⟨h2,?_⟩
 cases hk:K.lookup a with
 | none=>exact .inl (.inr ⟨_,by rw [nQ ha hk e,sC]⟩)
 | some o=>
   have e2:=KX a o hk
   rw [e] at e2
   obtain rfl:=Option.some.inj e2
   exact .inr ⟨_,us.toArray,_,hk,rfl,rfl,rfl,by rw [List.size_toArray];exact h1,by simpa using jd h2⟩
theorem BJ (KX:K.In h) (ar:∀ a ∈ A,jS h A a) {a:Addr} {vs:List Value} (ha:a ∈ A) (e:h.get? a=some {cls:=.type "tuple",data:=.seq vs.toArray}):(∀ u ∈ vs,OkU A u)/\SqT K (jC K h A) a (vs.map toV):=by
 obtain ⟨us,h1,h2,h3⟩:=ar a ha
 have hu:us=vs:=by
  rcases h3 with q | q
  ·rw [e] at q
   exact absurd (Value.type.inj (nJ q).1) (by decide)
  ·rw [e] at q
   exact (nJ q).2.symm
 subst hu
 refine ⟨h2,?_⟩
 cases hk:K.lookup a with
 | none=>exact .inl (.inr ⟨_,by rw [nQ ha hk e,sA]⟩)
 | some o=>
   have e2:=KX a o hk
   rw [e] at e2
   obtain rfl:=Option.some.inj e2
   exact .inr ⟨_,us.toArray,_,hk,rfl,rfl,by rw [List.size_toArray];exact h1,by simpa using jd h2⟩
mutual
theorem A2 {Pm:Params} (KX:K.In h) (ar:∀ a ∈ A,jS h A a):∀ (d:WData) (v:Value),Well Pm h v d->plW d=true->OkU A v->Dw K (jC K h A) (toV v) d
 | .none,_,x,_,_=>by
   cases x
   exact .non
 | .bool b,_,x,_,_=>by
   cases x
   exact .bl b
 | .int i,_,x,_,_=>by
   cases x
   exact .int i
 | .str s,_,x,_,_=>by
   cases x
   exact .str s
 | .bytes b,_,x,_,_=>by
   cases x
   have z:=Dw.byt (K:=K) (H:=jC K h A) b.toArray
   exact z
 | .list ds,_,x,p,hu=>by
   obtain ⟨a,vs,rfl,ho,hall⟩:=pP x
   obtain ⟨h2,hs⟩:=BK KX ar hu ho
   exact .lst hs (qY KX ar ds _ hall p h2)
 | .tuple ds,_,x,p,hu=>by
   obtain ⟨a,vs,rfl,ho,hall⟩:=nR x
   obtain ⟨h2,hs⟩:=BJ KX ar hu ho
   exact .tup hs (qY KX ar ds _ hall p h2)
 | .float _,_,_,p,_=>Bool.noConfusion (show false=true from p)
 | .dict _,_,_,p,_=>Bool.noConfusion (show false=true from p)
 | .bytearray _,_,_,p,_=>Bool.noConfusion (show false=true from p)
 | .set _,_,_,p,_=>Bool.noConfusion (show false=true from p)
 | .frozenset _,_,_,p,_=>Bool.noConfusion (show false=true from p)
 | .obj _ _,_,_,p,_=>Bool.noConfusion (show false=true from p)
theorem qY {Pm:Params} (KX:K.In h) (ar:∀ a ∈ A,jS h A a):∀ (ds:List WData) (vs:List Value),WellAll Pm h vs ds->nv ds=true->(∀ u ∈ vs,OkU A u)->jQ K (jC K h A) (vs.map toV) ds
 | [],_,x,_,_=>by
   cases x
   exact .nil
 | d::ds,_,x,p,hu=>by
   obtain ⟨v,vs,rfl,x1,x2⟩:=pQ x
   have q:plW d=true/\nv ds=true:=Bool.and_eq_true_iff.mp p
   exact .cons (A2 KX ar d v x1 q.1 (hu _ (List.mem_cons_self ..))) (qY KX ar ds vs x2 q.2 fun u m=>hu u (List.mem_cons_of_mem _ m))
end
end
theorem vp {P:Program} {w:World} {K:PySem.W.Frag} {mg mb:Str->Option Value} {CX:CXT} {k:Nat} {fa:Addr} {fd:FuncData} {ps:List Str} {sp:Sp} {s₁:Shared} {vals:List Value} {ds:List WData} {R:PySem.W.WRecords} {cl:Str->Option Addr} {d0:WData}
  (KX:K.In s₁.heap) (hns:s₁.heap.Ns mainGlobals mg) (hb:s₁.heap.Ns builtinsNs mb) (hbb:∀ x:Str,x≠"__name__"->mb x=bootBuiltins x) (hlim:s₁.heap.NoLimit) (hg:s₁.gens = #[])
  (hwl:WellAll w.params s₁.heap vals ds) (hpl:nv ds=true) (hwt:∀ d ∈ ds,d.weight<=1048576) (hr:gJ k callerA)
  (F:∀ base:Heap,K.In base->base.Ns mainGlobals mg->cD P w K mg base CX k fa fd ps sp) (hbind:∀ (s:Shared) (us:List Value),us.length=ps.length->BindsTo s fd ⟨us,[]⟩ (ps.zip us)) (hlen:ds.length=ps.length)
  (hsp:∀ (H:Hp) (xs:List V),sZ H->jQ K H xs ds->sp xs H (fun v H'=>Dw K H' v d0) fun _ _ _=>False)
  (hCX:∀ H e s',CX [] H s₁ (fun _ _ _=>False) e s'->False) :
  codeAny (model P w) callerA (.call (.ref fa) ⟨vals,[]⟩) (fun r s'=>∃ u as,r=.ok (.ret u)/\ReadsW R cl s'.heap u d0 as/\OldK s₁.heap s'.heap/\s'.os=s₁.os/\AllBare s'.gens) s₁:=by
 obtain ⟨A,ho,ar⟩:=mE ds vals hwl hpl hwt
 have hO:sZ (jC K s₁.heap A):=wg ar
 have hok:HOk P w (jC K s₁.heap A) s₁.heap:=yN ar
 have hS:=qY KX ar ds vals hwl hpl ho
 have hV:=jd ho
 have hK:∀ b u,jC K s₁.heap A b=some u->K.lookup b=none:=fun b u q=>(nP ar q).1
 have noA:∀ {b:Addr} {o:Obj} {es:Array DictEntry} {ep:Nat},s₁.heap.get? b=some o->o.data=.dict es ep->jC K s₁.heap A b=none:=fun {b o es ep} e d=>by
  cases q:jC K s₁.heap A b with
  | none=>rfl
  | some u=>
    obtain ⟨_,vs,_,_,⟨e2,_⟩ | ⟨e2,_⟩⟩:=nP ar q
    ·rw [e2] at e
     cases e
     have d':Data.seq vs.toArray _=Data.dict es ep:=d
     cases d'
    ·rw [e2] at e
     cases e
     have d':Data.seq vs.toArray _=Data.dict es ep:=d
     cases d'
 generalize jC K s₁.heap A=H at hO hok hS hK noA
 have base_of:∀ {b:Addr} {o:Obj},s₁.heap.get? b=some o->H b=none->(qU s₁.heap H).get? b=some o:=fun e n=>xw e n
 have nsK:∀ {b:Addr} {m:Str->Option Value},s₁.heap.Ns b m->(qU s₁.heap H).Ns b m:=fun {b m} ⟨o,es,ep,e,d,r⟩=>⟨o,es,ep,base_of e (noA e d),d,r⟩
 have nK:∀ b o,K.lookup b=some o->H b=none:=fun b o e=>by
  cases q:H b with
  | none=>rfl
  | some u=>
    rw [hK b u q] at e
    cases e
 have hKb:K.In (qU s₁.heap H):=fun b o e=>base_of (KX b o e) (nK b o e)
 have hM:Mod K mg (qU s₁.heap H):=⟨hKb,nsK hns,⟨mb,nsK hb,hbb⟩,let ⟨mc,h1,h2⟩:=hlim;⟨mc,nsK h1,h2⟩⟩
 have e0:uw P w K mg (qU s₁.heap H) callerA [] s₁ H:=⟨rfl,hM,fun b o e=>yz e,Nat.le_of_eq (vW _ _),trivial,fun b hb=>absurd (show b ∈ ([]:List Addr) from hb) (by simp),hok,.of_eq hg⟩
 have hl:vals.length=ps.length:=by rw [iU hwl];exact hlen
 refine codeAny_mono ((F _ hKb (nsK hns)).run callerA [] s₁ H ⟨vals,[]⟩ vals (vals.map toV) _ _ hr e0 (hbind s₁ vals hl) hV (hsp H _ hO hS)) fun r s' x=>?_
 cases r with
 | error e=>exact (hCX H e s' x).elim
 | ok fl=>
   cases fl with
   | next=>exact False.elim x
   | brk=>exact False.elim x
   | cont=>exact False.elim x
   | ret u=>
     obtain ⟨v,H',os,bare,un,hok',r',q⟩:=x
     have kept:∀ b o,s₁.heap.get? b=some o->s'.heap.get? b=some o:=fun b o e=>by
      cases q2:H b with
      | none=>exact un.keep b o e q2 (by intro z;exact absurd (show b ∈ ([]:List Addr) from z) (by simp)) (by simp)
      | some u2=>
        rcases hO b with z | ⟨ob,u3,z⟩
        ·rw [q2] at z
         cases z
        ·have z2:=un.pd b ob _ z
         obtain ⟨e1,_⟩:=hok b _ z
         obtain ⟨e2,_⟩:=hok' b _ z2
         rw [e] at e1
         cases e1
         exact e2
     have KX':K.In s'.heap:=fun b o e=>kept b o (KX b o e)
     obtain ⟨as,hrd⟩:=Dw.reads (R:=R) (cl:=cl) hok' KX' d0 v u q r'
     exact ⟨u,as,rfl,hrd,OldK.of_keep kept,os,bare⟩
theorem oU {ds:List WData} (h:WData.layableAll ds=true):∀ d ∈ ds,d.weight<=1048576:=fun d hd=>
 (PySem.W.layableW_iff.mp (List.all_eq_true.mp h d hd)).2.2
theorem pf:∀ (cs:List Codec) (a:Codec.denoteAll cs),(Codec.encAll cs a).length=cs.length
 | [],_=>rfl
 | c::cs,a=>by
   show (Codec.encAll cs a.2).length+1=cs.length+1
   rw [pf cs a.2]
theorem vf {r:OpenSpec} {k:Nat} {q:Program} {loose:List Str} {XP:(Str->Option Value)->Heap->Prop} {YP:World->Heap->Prop} {d:DefRec} {K:Params->PySem.W.Frag} {CX:World->CXT} {ps:List Str} {sp:World->Sp}
  (hwell:r.wellSaid=true) (hdf:d.params.defaults=[]) (hlen:r.args.length=ps.length) (hr:gJ k callerA)
  (hY:∀ (w:World) (h:Heap),YP w h->(K w.params).In h)
  (F:∀ (w:World) (mg:Str->Option Value) (fa:Addr) (h:Heap),YP w h->(K w.params).In h->h.Ns mainGlobals mg->mg d.name=some (.ref fa)->
   ∃ fd:FuncData,(∀ (s:Shared) (us:List Value),us.length=ps.length->BindsTo s fd ⟨us,[]⟩ (ps.zip us))/\
    ∀ base:Heap,(K w.params).In base->base.Ns mainGlobals mg->cD r.prog w (K w.params) mg base (CX w) k fa fd ps (sp w))
  (hsp:∀ (w:World) (H:Hp) (xs:List V) (a:Codec.denoteAll r.args),sZ H->Codec.withinAll r.args a=true->Codec.app r.args r.asked a=true->jQ (K w.params) H xs (Codec.encAll r.args a)->
   sp w xs H (fun v H'=>Dw (K w.params) H' v (r.ret.enc (Codec.app r.args r.f a))) fun _ _ _=>False)
  (hCX:∀ (w:World) (H:Hp) (s:Shared) (e:Value) (s':Shared),CX w [] H s (fun _ _ _=>False) e s'->False) :
  PySem.W.WalkOS q loose XP YP r d [] (fun f vs=>PySem.call f vs):=by
 intro w s_0 s₁ mg mb G Y fa o pm cd doc dV kV ho hd hcd hD hmg hg args vals as hpre hlay hrd hwl hlo
 obtain ⟨a,e1,e2⟩:=PySem.W.os_pre_some hpre
 obtain ⟨e3,hwi⟩:=Codec.encAll_of_decAll r.args args a e1
 subst e3
 have KX:=hY w _ Y
 obtain ⟨fd,hb,hF⟩:=F w mg fa _ Y KX G.T.g hmg
 refine PySem.W.enter_call (codeAny_mono (vp (R:=[]) (cl:=classAt s_0.heap) (d0:=r.ret.enc (Codec.app r.args r.f a)) KX G.T.g G.T.b G.T.builtins G.T.nolimit hg hwl (pW _ _) (oU hlay) hr hF hb (by rw [pf];exact hlen)
  (fun H xs hO hS=>hsp w H xs a hO hwi e2 hS) fun H e s'=>hCX w H s₁ e s') fun r' s' hq=>?_)
 obtain ⟨u,as',rfl,h1,h2,h3,h4⟩:=hq
 exact ⟨.inl ⟨u,_,as',rfl,fun _=>rfl,h1,(OpenSpec.post_iff hwell hwi _ _).mpr rfl,fun z=>Bool.noConfusion (show false=true from z)⟩,h2,h3,h4⟩
theorem tq {r:OpenSpec} {k:Nat} {q:Program} {loose:List Str} {XP:(Str->Option Value)->Heap->Prop} {YP:World->Heap->Prop} {d:DefRec} {K:Params->PySem.W.Frag} {CX:CXT} {ps:List Str} {sp:PySem.W.Frag->Sp}
  (hwell:r.wellSaid=true) (hdf:d.params.defaults=[]) (hlen:r.args.length=ps.length) (hr:gJ k callerA)
  (hY:∀ (w:World) (h:Heap),YP w h->(K w.params).In h)
  (F:∀ (w:World) (mg:Str->Option Value) (fa:Addr) (h:Heap),YP w h->(K w.params).In h->h.Ns mainGlobals mg->mg d.name=some (.ref fa)->
   ∃ fd:FuncData,(∀ (s:Shared) (us:List Value),us.length=ps.length->BindsTo s fd ⟨us,[]⟩ (ps.zip us))/\
    ∀ base:Heap,(K w.params).In base->base.Ns mainGlobals mg->cD r.prog w (K w.params) mg base CX k fa fd ps (sp (K w.params)))
  (hsp:∀ (K:PySem.W.Frag) (H:Hp) (xs:List V) (a:Codec.denoteAll r.args),sZ H->Codec.withinAll r.args a=true->Codec.app r.args r.asked a=true->jQ K H xs (Codec.encAll r.args a)->
   sp K xs H (fun v H'=>Dw K H' v (r.ret.enc (Codec.app r.args r.f a))) fun _ _ _=>False)
  (hCX:∀ (H:Hp) (s:Shared) (e:Value) (s':Shared),CX [] H s (fun _ _ _=>False) e s'->False) :
  PySem.W.WalkOS q loose XP YP r d [] (fun f vs=>PySem.call f vs):=
 vf (K:=K) (CX:=fun _=>CX) (sp:=fun w=>sp (K w.params)) hwell hdf hlen hr hY F (fun w H xs a h1 h2 h3 h4=>hsp (K w.params) H xs a h1 h2 h3 h4) fun _ H s e s'=>hCX H s e s'
end L2
end
namespace L2
open PySem PySem.Spec PyProof.Rows
noncomputable def lL:Expr->Bool
 | .Starred _ _=>false
 | _=>true
theorem iG {e:Expr} {es:List Expr} {env:Env} (h:lL e=true):starEach (e::es) env=(false,eval e env)::starEach es env:=by
 cases e<;>first | rfl | exact Bool.noConfusion h
theorem jY {pos:Pos} {env:Env}:∀ {es:List Expr},es.all lL=true->(backTo pos (starEach es env)).any (·.1)=false
 | [],_=>rfl
 | e::es,h=>by
   rw [List.all_cons,Bool.and_eq_true] at h
   rw [iG h.1]
   show (false||(backTo pos (starEach es env)).any (·.1))=false
   rw [jY h.2];rfl
section
variable {X:Cx} {k:Nat} {f C:Addr} {fd:FuncData} {ps:List Str} {sp:Sp} {x m:Str} {p pos apos:Pos} {e o:Expr} {es:List Expr} {ta te:TE} {t:TA}
theorem ah (ha:PE X e te) (hr:PA X es t) (hs:lL e=true:=by rfl):PA X (e::es) (jX te t):=yu ha hr (iG hs)
noncomputable def Av (sp:Sp) (t:TA):TE:=fun σ H Q=>t σ H fun vs H1=>sp vs H1 Q E0
theorem aO (F:cD X.prog X.w X.K X.mg X.base CX0 k f fd ps sp) (hr:gJ k X.A) (hg:Gl X x) (hm:X.mg x=some (.ref f)) (hk:PySem.W.keepIn X.K (.ref f)=true) (hb:Binds X.K fd ps [])
  (ha:PA X (e::es) t) (hdb:(x==("__debug__":Str))=false:=by decide) (hs:(e::es).all lL=true:=by rfl):PE X (.Call (.Name x p) (e::es) [] pos) (Av sp t):=by
 rw [List.all_cons,Bool.and_eq_true] at hs
 have z:=yt (p:=p) (pos:=pos) F hr hg hm hk hb .nil mf ha hdb (iG hs.1) (jY hs.2)
 intro pins s σ H Q I h
 refine z pins s σ H Q I ?_
 show t σ H fun vs H1=>sp (vs++[]) H1 Q E0
 have e:(fun (vs:List V) (H1:Hp)=>sp (vs++[]) H1 Q E0)=fun vs H1=>sp vs H1 Q E0:=by
  funext vs H1;rw [List.append_nil]
 rw [e];exact h
noncomputable def y1 (C:Addr) (sp:Sp) (t:TA):TE:=fun σ H Q=>t σ H fun vs H1=>∀ x dx,H1 x=none->H1 dx=none->dx≠x->
 sp (.ref x::vs) (upd (upd H1 dx (.own x)) x (.ins C dx [])) (fun v H2=>v=.non/\Q (.ref x) H2) E0
theorem j9 (M:Mk X.K C f) (F:cD X.prog X.w X.K X.mg X.base CX0 k f fd ps sp) (hr:gJ (k+1) X.A) (hg:Gl X x) (hm:X.mg x=some (.ref C)) (hb:Binds X.K fd ps [])
  (ha:PA X (e::es) t) (hdb:(x==("__debug__":Str))=false:=by decide) (hs:(e::es).all lL=true:=by rfl):PE X (.Call (.Name x p) (e::es) [] pos) (y1 C sp t):=by
 rw [List.all_cons,Bool.and_eq_true] at hs
 have z:=yq (p:=p) (pos:=pos) M F hr hg hm hb .nil mf ha hdb (iG hs.1) (jY hs.2)
 intro pins s σ H Q I h
 refine z pins s σ H Q I ?_
 show t σ H fun vs H1=>∀ x dx,H1 x=none->H1 dx=none->dx≠x->sp (.ref x::(vs++[])) (upd (upd H1 dx (.own x)) x (.ins C dx [])) (fun v H2=>v=.non/\Q (.ref x) H2) E0
 have e:(fun (vs:List V) (H1:Hp)=>∀ x dx,H1 x=none->H1 dx=none->dx≠x->sp (.ref x::(vs++[])) (upd (upd H1 dx (.own x)) x (.ins C dx [])) (fun v H2=>v=.non/\Q (.ref x) H2) E0)
   = fun vs H1=>∀ x dx,H1 x=none->H1 dx=none->dx≠x->sp (.ref x::vs) (upd (upd H1 dx (.own x)) x (.ins C dx [])) (fun v H2=>v=.non/\Q (.ref x) H2) E0:=by
  funext vs H1;rw [List.append_nil]
 rw [e];exact h
theorem bD {x:Str} {v:Int} {pos:Pos} (hg:Gl X x) (hm:∃ t,X.mg x=some (.int v t)) (hd:(x==("__debug__":Str))=false:=by decide):PE X (.Name x pos) (tC (.int v)):=by
 obtain ⟨t,hm⟩:=hm
 exact uK hg hm ⟨t,rfl⟩ hd
noncomputable def Au (X:Cx) (te:TE) (t:TA):TE:=fun σ H Q=>te σ H fun x H1=>∃ k f fd ps sp,x=.ref f/\cD X.prog X.w X.K X.mg X.base CX0 k f fd ps sp/\gJ k X.A/\PySem.W.keepIn X.K (.ref f)=true/\Binds X.K fd ps []/\
 t σ H1 fun vs H2=>sp vs H2 Q E0
theorem qF {g:Expr} (hf:PE X g te) (ha:PA X (e::es) t) (he:eval (.Call g (e::es) [] pos) X.env=(do callWith pos (<-eval g X.env) [] (backTo pos (starEach (e::es) X.env)) (backToKw pos (keywordEach [] X.env))):=by rfl)
  (hs:(e::es).all lL=true:=by rfl):PE X (.Call g (e::es) [] pos) (Au X te t):=by
 rw [List.all_cons,Bool.and_eq_true] at hs
 intro pins s σ H Q I h
 refine Call_ (thn (hf pins s σ H _ I h) fun v s1 hv=>?_) he
 obtain ⟨y,H1,I1,ry,k,f,fd,ps,sp,rfl,F,hr,hk,hb,q⟩:=hv
 cases ry
 refine PySem.W.callWith_K (h₀:=X.base) I1.ok.mod.kin hk (thn (ha pos pins s1 σ H1 _ I1 q) fun us s2 hu=>?_) (iG hs.1) (jY hs.2)
 obtain ⟨vs,H2,I2,r,q2⟩:=hu
 exact ⟨I2.kIn,qy (E:=E0) F hr hb .nil mf I2 r (by rw [List.append_nil];exact q2)⟩
noncomputable def yZ (K:PySem.W.Frag):V->V->Hp->VK->Prop:=fun x y H Q=>∃ p xs i v,x=.ref p/\y=.int i/\SqL K H p xs/\atI xs i=some v/\Q v H
theorem sD:B7 X (yZ X.K):=by
 intro pins s σ H x y v u Q I rx ry h
 obtain ⟨p,xs,i,z,rfl,rfl,hq,he,q⟩:=h
 cases rx
 obtain ⟨t,rfl⟩:=ry
 obtain ⟨its,r,pl,hz⟩:=I.list hq
 obtain ⟨j,h1,h2,h3,h4,h5⟩:=rj he
 obtain ⟨w,ew,rw'⟩:=r.get h2
 have hl:=r.length
 have hn:=oP
 have fin:EP X pins σ Q w s:=⟨z,H,I,rw',q⟩
 by_cases h0:0<=i
 ·have hj:i.toNat=j:=by
   rw [seqIndex_of h0 h5] at h1
   exact Option.some.inj h1
  exact wpAny_getItem_list pl.isList h0 (by omega) (by rw [hj];simpa using ew) fin
 ·have hj:(i+(its.toArray.size:Int)).toNat=j:=by
   rw [seqIndex_neg (by omega) h4] at h1
   rw [List.size_toArray,<-hl]
   exact Option.some.inj h1
  exact wpAny_getItem_list_neg pl.isList (by omega) (by rw [List.size_toArray]<;>omega) (by omega) (by rw [hj];simpa using ew) fin
end
section
variable {X:Cx} {pos:Pos}
noncomputable def iS (K:PySem.W.Frag) (a:Addr) (tb:List (Int×V)):Prop:=∃ o es n,K.lookup a=some o/\o.ExactDict/\o.data=.dict es n/\(a==sysModules)=false/\
 Paired (fun (p:Int×V) (q:DictEntry)=>q.hash=hashInt p.1/\(∃ t,q.key=.int p.1 t)/\RelV p.2 q.val) tb es.toList/\(tb.map (·.1)).Nodup
theorem xi {P:Program} {w:World} {tb:List (Int×V)} {es:List DictEntry} (h:Paired (fun (p:Int×V) (q:DictEntry)=>q.hash=hashInt p.1/\(∃ t,q.key=.int p.1 t)/\RelV p.2 q.val) tb es) :
  ∃ kvs:List (Int×Value),Pairs (intKind P w) es kvs/\kvs.map (·.1)=tb.map (·.1)/\(∀ i,lW (tb.lookup i) (valueAt kvs i))/\∀ e ∈ es,∃ k,(intKind P w).is k e.key=true/\e.hash=(intKind P w).hash k:=by
 induction h with
 | nil=>exact ⟨[],.nil,rfl,fun _=>trivial,fun e he=>absurd he (by simp)⟩
 | @cons p q l1 l2 hq _ ih=>
   obtain ⟨kvs,h1,h2,h3,h4⟩:=ih
   obtain ⟨g1,⟨t,g2⟩,g3⟩:=hq
   have is:(intKind P w).is p.1 q.key=true:=by rw [g2];show Value.isInt p.1 (.int p.1 t)=true;simp [Value.isInt]
   refine ⟨(p.1,q.val)::kvs,.cons is rfl h1,by simp [h2],fun i=>?_,fun e he=>?_⟩
   ·unfold valueAt
    rw [List.find?_cons]
    obtain ⟨a,b⟩:=p
    rw [List.lookup_cons]
    by_cases e:i=a
    ·subst e;simp;exact g3
    ·have e1:(i==a)=false:=beq_eq_false_iff_ne.mpr e
     have e2:decide (a=i)=false:=decide_eq_false (fun z=>e z.symm)
     simp only [e1,e2]
     exact h3 i
   ·rcases List.mem_cons.mp he with rfl | he
    ·exact ⟨p.1,is,g1⟩
    ·exact h4 e he
theorem iS.of {P:Program} {w:World} {K:PySem.W.Frag} {h:Heap} {a:Addr} {tb:List (Int×V)} (m:iS K a tb) (X:K.In h):(a==sysModules)=false/\∃ kvs:List (Int×Value),h.DictOf (intKind P w) a kvs/\∀ i,lW (tb.lookup i) (valueAt kvs i):=by
 obtain ⟨o,es,n,h1,h2,h3,h4,h5,h6⟩:=m
 obtain ⟨kvs,g1,g2,g3,g4⟩:=xi (P:=P) (w:=w) h5
 exact ⟨h4,kvs,⟨o,es,n,X a o h1,h2,h3,fun e he=>g4 e (by simpa using he),g1,by rw [g2];exact h6⟩,g3⟩
noncomputable def tMD (K:PySem.W.Frag) (td ty:TE):TE:=fun σ H Q=>td σ H fun x H1=>ty σ H1 fun y H2=>∃ a tb i v,x=.ref a/\iS K a tb/\y=.int i/\tb.lookup i=some v/\Q v H2
theorem isI {i:Int} {u:Value} {P:Program} {w:World} (r:RelV (.int i) u):(intKind P w).is i u=true:=by
 obtain ⟨t,rfl⟩:=r
 show Value.isInt i (.int i t)=true;simp [Value.isInt]
theorem rW {o i:Expr} {td ty:TE} (ho:PE X o td) (hi:PE X i ty) (hs:B8 i):PE X (.Subscript o i pos) (tMD X.K td ty):=by
 intro pins s σ H Q I h
 refine y4 PySem.F.slot_dict_getitem.lookup hs (thn (ho pins s σ H _ I h) fun u s1 ⟨x,H1,I1,rx,q1⟩=>thn (hi pins s1 σ H1 _ I1 q1) fun iv s2 ⟨y,H2,I2,ry,a,tb,i,v,ex,m,ey,l,q2⟩=>?_)
 subst ex
 subst ey
 obtain rfl:u=Value.ref a:=rx
 obtain ⟨_,kvs,dd,rel⟩:=m.of (P:=X.prog) (w:=X.w) I2.kIn
 obtain ⟨w',hw,rw'⟩:=lW.some_of (v:=v) (o:=valueAt kvs i) (by rw [<-l];exact rel i)
 exact ⟨dd.typeIs,wpAny_getItem_of (isI ry) dd.mapOf hw ⟨v,H2,I2.tok _,rw',q2⟩⟩
noncomputable def Be (K:PySem.W.Frag) (td ty tx:TE):TE:=fun σ H Q=>td σ H fun x H1=>∃ a tb,x=.ref a/\iS K a tb/\ty σ H1 fun y H2=>tx σ H2 fun z H3=>∃ i,y=.int i/\Q ((tb.lookup i).getD z) H3
theorem wU {o e f:Expr} {apos cpos:Pos} {td ty tx:TE} (ho:PE X o td) (he:PE X e ty) (hf:PE X f tx) (m:M2 X o "get" apos e f cpos:=by exact ⟨rfl,rfl,rfl,rfl⟩):PE X (.Call (.Attribute o "get" apos) [e,f] [] cpos) (Be X.K td ty tx):=by
 intro pins s σ H Q I h
 refine wpAny_Call_method m.base m.few m.line PySem.F.plainAttrs_dict PySem.F.slot_dict_get PySem.F.type_dict_get (thn (ho pins s σ H _ I h) fun u s1 ⟨x,H1,I1,rx,a,tb,ex,d,q1⟩=>?_)
 subst ex
 obtain rfl:u=Value.ref a:=rx
 obtain ⟨_,kvs1,dd1,_⟩:=d.of (P:=X.prog) (w:=X.w) I1.kIn
 refine ⟨dd1.typeIs,fun b q=>?_,?_⟩
 ·cases q
  obtain ⟨ob,_,_,h1,h2,_⟩:=dd1
  exact ⟨ob,h1,h2.2.1⟩
 rw [m.trees]
 refine Calls.callWith_builtin rfl (Calls.evalArgs_plain (Calls.spliced_cons (thn (he pins s1 σ H1 _ I1 q1) fun iv s2 ⟨y,H2,I2,ry,q2⟩=>
  Calls.spliced_cons (thn (hf pins s2 σ H2 _ I2 q2) fun fv s3 ⟨z,H3,I3,rz,i,ey,q3⟩=>Calls.spliced_nil ?_))))
 subst ey
 obtain ⟨hd,kvs,dd,rel⟩:=d.of (P:=X.prog) (w:=X.w) I3.kIn
 exact call_meetsIn PySem.F.slot_dict_get dd.typeIs PySem.F.entry_dict_get (PySem.F.args_dict_get_3 _ _ _) (meets_dict_get_default (intKind X.prog X.w) a (isI ry) hd fv) ⟨_,dd.mapOf,_,H3,I3.tok _,(rel i).getD rz,q3⟩
end
section
variable {prog:Program} {w:World} {A:Around} {E:Value->Shared->Prop} {s:Shared}
theorem zO {p t:Addr} {n:Nat} {its:Array Value} {v:Value} {Q:Value->Shared->Prop} (hp:s.heap.IsTupleIter p t n) (ht:s.heap.IsTuple t its) (hv:its[n]? = some v)
  (q:∀ hh,hh.IsTupleIter p t (n+1)->Heap.SameBut p s.heap hh->Q v {s with heap:=hh}):wpAny (model prog w) A (Builtin.SmallTypes.nextOf (.ref p)) Q E s:=by
 obtain ⟨ob,g1,g2,g3⟩:=id hp
 obtain ⟨ot,k1,-,m,k2⟩:=ht
 unfold Builtin.SmallTypes.nextOf
 refine wpAny_bind (wpAny_callSpecial?_slot (name:=Str.ofString "__next__") hp.typeIs F.slot_tuple_iterator_next (wpAny_call_entry F.slot_tuple_iterator_next hp.typeIs F.entry_tuple_iterator_next ?_ (F.args_tuple_iterator_next_1 _)))
 show wpAny _ _ (field (.ref p) 0 >>= _) _ _ s
 refine wpAny_bind (wpAny_field g1 g3 (x:=.ref t) rfl ?_)
 rw [if_neg (show ¬((Value.ref t==Value.none)=true) by exact Bool.false_ne_true)]
 refine wpAny_bind (wpAny_field g1 g3 (x:=.int n 0) rfl ?_)
 refine wpAny_bind (wpAny_seqItems k1 k2 ?_)
 simp only [hv,Int.toNat_natCast]
 refine wpAny_bind (wpAny_setField g1 g3 (by simp) (wpAny_pure ⟨v,rfl,wpAny_pure (q _ ⟨_,Heap.get?_update_self _ g1 (Obj.isFreed_of_fields (Obj.data_mapFields g3 _)),(Obj.cls_mapFields ..).trans g2,?_⟩ (Heap.SameBut.update ..))⟩))
 rw [Obj.data_mapFields g3];simp [rawInt]
structure ZT (h:Heap) (z u o p1 p2 l t:Addr) (n:Nat):Prop where
 z:IsZip h z u o .none
 u:IsPair h u (.ref p1) (.ref p2)
 o:∃ a b,IsPair h o a b
 p1:h.IsListIter p1 l n
 p2:h.IsTupleIter p2 t n
theorem xW {z u o p1 p2 l t:Addr} {n:Nat} {xs ys:Array Value} {v v2:Value} {Q:Value->Shared->Prop} (D:ZipApart z u o p1 p2 l t) (S:ZT s.heap z u o p1 p2 l t n) (hl:s.heap.IsList l xs) (ht:s.heap.IsTuple t ys) (hv:xs[n]? = some v) (hv2:ys[n]? = some v2)
  (q:∀ hh,IsZip hh z u o (rawInt s.heap.objs.size)->IsPair hh u (.ref p1) (.ref p2)->IsPair hh o v v2->hh.IsListIter p1 l (n+1)->hh.IsTupleIter p2 t (n+1)->IsPair hh s.heap.objs.size v v2->
   (∀ c ob,c≠z->c≠o->c≠p1->c≠p2->s.heap.get? c=some ob->hh.get? c=some ob)->Q (.ref s.heap.objs.size) {s with heap:=hh}) :
  wpAny (model prog w) A (Builtin.«zip.__next__» ⟨[.ref z],[]⟩) (fun fin s'=>∃ v,fin=.done (.ret v)/\Q v s') E s:=by
 obtain ⟨gz,gu,⟨a,b,go⟩,g1,g2⟩:=S
 show wpAny _ _ (field (.ref z) 2 >>= fun _=>_) _ _ _
 refine wpAny_bind (wpAny_field gz rfl (x:=.bool false) rfl (wpAny_bind (wpAny_field gz rfl (x:=.ref u) rfl (wpAny_bind (wpAny_seqItems gu rfl (wpAny_bind ?_))))))
 unfold Builtin.SmallTypes.ownedTupleIsFree
 refine wpAny_bind (wpAny_field gz rfl (x:=.none) rfl (wpAny_pure ?_))
 simp only [if_true]
 refine wpAny_bind (wpAny_rule (wpAny_bind (wpAny_field gz rfl (x:=.ref o) rfl (wpAny_bind (wpAny_setField_rec gz (by simp) fun ha (ga:IsZip ha z u o .ellipsis) sa=>wpAny_bind ?_)))))
 simp only [List.forIn_cons,List.forIn_nil,List.zipIdx_cons,List.zipIdx_nil]
 refine wpAny_bind (wpAny_bind (wpAny_onRaise (wpAny_bind (wpAny_nextOf_list_item (g1.extBut sa.extBut D.i1z) (hl.extBut sa.extBut D.l1z) hv fun hb b1 sb=>wpAny_pure ?_))))
 have ob:IsPair hb o a b:=sb.extBut _ _ D.TOi1 (sa.extBut _ _ D.TOz go)
 refine wpAny_bind (wpAny_seqItems ob rfl (wpAny_bind (wpAny_updateSeq_pair ob fun hc (oc:IsPair hc o v b) sc=>wpAny_bind (wpAny_letGo (wpAny_pure ?_)))))
 have t2:hc.IsTupleIter p2 t n:=((g2.extBut sa.extBut D.i2z).extBut sb.extBut D.i12.symm).extBut sc.extBut D.TOi2.symm
 have tt:hc.IsTuple t ys:=((ht.extBut sa.extBut D.l2z).extBut sb.extBut D.l2i1).extBut sc.extBut D.l2TO
 refine wpAny_bind (wpAny_bind (wpAny_onRaise (wpAny_bind (zO t2 tt hv2 fun hd d2 sd=>wpAny_pure ?_))))
 have od:IsPair hd o v b:=sd.extBut _ _ D.TOi2 oc
 refine wpAny_bind (wpAny_seqItems od rfl (wpAny_bind (wpAny_updateSeq_pair od fun he (oe:IsPair he o v v2) se=>wpAny_bind (wpAny_letGo (wpAny_pure (wpAny_pure ?_))))))
 refine wpAny_bind (wpAny_seqItems oe rfl (wpAny_bind (wpAny_newTuple (wpAny_bind ?_))))
 have zs:he.objs.size=s.heap.objs.size:=by rw [se.1,sd.1,sc.1,sb.1,sa.1]
 have ze:IsZip he z u o .ellipsis:=se.extBut _ _ D.TOz.symm (sd.extBut _ _ D.i2z.symm (sc.extBut _ _ D.TOz.symm (sb.extBut _ _ D.i1z.symm ga)))
 have ke:∀ c ob,c≠z->c≠o->c≠p1->c≠p2->s.heap.get? c=some ob->he.get? c=some ob:=fun c ob n1 n2 n3 n4 e=>
  se.extBut _ _ n2 (sd.extBut _ _ n4 (sc.extBut _ _ n2 (sb.extBut _ _ n3 (sa.extBut _ _ n1 e))))
 have e1:he.IsListIter p1 l (n+1):=((b1.extBut sc.extBut D.TOi1.symm).extBut sd.extBut D.i12).extBut se.extBut D.TOi1.symm
 have e2:he.IsTupleIter p2 t (n+1):=d2.extBut se.extBut D.TOi2.symm
 have lz:z < he.objs.size:=Heap.lt_size ze
 unfold Builtin.SmallTypes.ownedTupleHandOut
 have zp:IsZip (he.push {cls:=.type "tuple",data:=.seq #[v,v2]}) z u o .ellipsis:=Heap.get?_push_of_some _ ze
 refine wpAny_bind (wpAny_setField_rec zp (by simp) fun hf (zf:IsZip hf z u o (rawInt he.objs.size)) sf=>?_)
 refine wpAny_setField_rec zf (by simp) fun hg (zg:IsZip hg z u o (rawInt he.objs.size)) sg=>wpAny_pure ⟨_,rfl,?_⟩
 have up:∀ c ob,c≠z->he.get? c=some ob->hg.get? c=some ob:=fun c ob n1 e=>sg.extBut _ _ n1 (sf.extBut _ _ n1 (Heap.get?_push_of_some _ e))
 have pg:IsPair hg he.objs.size v v2:=sg.extBut _ _ (Nat.ne_of_gt lz) (sf.extBut _ _ (Nat.ne_of_gt lz) (Heap.get?_push_size _ rfl))
 show Q (.ref he.objs.size) _
 rw [zs] at zg pg ⊢
 exact q hg zg (up _ _ D.TIz (ke _ _ D.TIz D.TITO D.TIi1 D.TIi2 gu)) (up _ _ D.TOz oe) (e1.at fun ob e=>up _ ob D.i1z e) (e2.at fun ob e=>up _ ob D.i2z e) pg fun c ob n1 n2 n3 n4 e=>up c ob n1 (ke c ob n1 n2 n3 n4 e)
theorem xV {z u o p1 p2 l t:Addr} {n:Nat} {xs ys:Array Value} {v v2:Value} {Q:Option Value->Shared->Prop} (D:ZipApart z u o p1 p2 l t) (S:ZT s.heap z u o p1 p2 l t n) (hl:s.heap.IsList l xs) (ht:s.heap.IsTuple t ys) (hv:xs[n]? = some v) (hv2:ys[n]? = some v2)
  (q:∀ hh,IsZip hh z u o (rawInt s.heap.objs.size)->IsPair hh u (.ref p1) (.ref p2)->IsPair hh o v v2->hh.IsListIter p1 l (n+1)->hh.IsTupleIter p2 t (n+1)->IsPair hh s.heap.objs.size v v2->
   (∀ c ob,c≠z->c≠o->c≠p1->c≠p2->s.heap.get? c=some ob->hh.get? c=some ob)->Q (some (.ref s.heap.objs.size)) {s with heap:=hh}):wpAny (model prog w) A (pyNext (.ref z)) Q E s:=by
 have ty:s.TypeIs (.ref z) "zip":=⟨_,S.z,rfl⟩
 unfold pyNext
 refine wpAny_bind (wpAny_attempt (wpAny_callSpecial?_slot (name:=Str.ofString "__next__") ty F.slot_zip_next (wpAny_call_entry F.slot_zip_next ty F.entry_zip_next ?_ (F.args_zip_next_1 _))))
 exact xW D S hl ht hv hv2 fun hh a1 a2 a3 a4 a5 a6 a7=>wpAny_pure (q hh a1 a2 a3 a4 a5 a6 a7)
theorem xT {z u o p1 p2 l t:Addr} {n:Nat} {xs:Array Value} {Q:Option Value->Shared->Prop} (h0:A.handled=none) (D:ZipApart z u o p1 p2 l t) (S:ZT s.heap z u o p1 p2 l t n) (hl:s.heap.IsList l xs) (hv:xs[n]? = none)
  (q:∀ hh,(∀ c ob,c≠z->c≠p1->s.heap.get? c=some ob->hh.get? c=some ob)->Q none {s with heap:=hh}):wpAny (model prog w) A (pyNext (.ref z)) Q E s:=by
 obtain ⟨gz,gu,⟨a,b,go⟩,g1,g2⟩:=S
 have ty:s.TypeIs (.ref z) "zip":=⟨_,gz,rfl⟩
 unfold pyNext
 refine wpAny_bind (wpAny_attempt (wpAny_callSpecial?_slot (name:=Str.ofString "__next__") ty F.slot_zip_next (wpAny_call_entry F.slot_zip_next ty F.entry_zip_next ?_ (F.args_zip_next_1 _))))
 show wpAny _ _ (field (.ref z) 2 >>= fun _=>_) _ _ _
 refine wpAny_bind (wpAny_field gz rfl (x:=.bool false) rfl (wpAny_bind (wpAny_field gz rfl (x:=.ref u) rfl (wpAny_bind (wpAny_seqItems gu rfl (wpAny_bind ?_))))))
 unfold Builtin.SmallTypes.ownedTupleIsFree
 refine wpAny_bind (wpAny_field gz rfl (x:=.none) rfl (wpAny_pure ?_))
 simp only [if_true]
 refine wpAny_bind (wpAny_rule (wpAny_bind (wpAny_field gz rfl (x:=.ref o) rfl (wpAny_bind (wpAny_setField_rec gz (by simp) fun ha (ga:IsZip ha z u o .ellipsis) sa=>wpAny_bind ?_)))))
 simp only [List.forIn_cons,List.forIn_nil,List.zipIdx_cons,List.zipIdx_nil]
 refine wpAny_bind (wpAny_bind (wpAny_onRaise (wpAny_bind (wpAny_nextOf_list_end h0 (g1.extBut sa.extBut D.i1z) (hl.extBut sa.extBut D.l1z) hv fun hb e sb he=>?_))))
 obtain ⟨oe,k1,k2⟩:=he
 have zb:IsZip hb z u o .ellipsis:=sb _ _ D.i1z.symm ga
 have ez:e≠z:=fun y=>by subst y;rw [zb] at k1;cases k1;simp at k2
 refine wpAny_setField_rec zb (by simp) fun hc _ sc=>?_
 refine wpAny_bind (wpAny_isInstance (T:="StopIteration") (b:=true) ⟨oe,sc.extBut _ _ ez k1,k2⟩ isSubtype_stop (wpAny_pure (q _ fun c ob n1 n2 y=>?_)))
 exact sc.extBut _ _ n1 (sb _ _ n2 (sa.extBut _ _ n1 y))
noncomputable def zA (h:Heap) (l:Addr):Heap:=h.push {cls:=.type "list_iterator",data:=.fields #[.ref l,.int 0 0]}
noncomputable def zB (h:Heap) (l t:Addr):Heap:=(zA h l).push {cls:=.type "tuple_iterator",data:=.fields #[.ref t,.int 0 0]}
noncomputable def zC (h:Heap) (l t:Addr):Heap:=(zB h l t).push {cls:=.type "tuple",data:=.seq #[.ref h.objs.size,.ref (zA h l).objs.size]}
noncomputable def zD (h:Heap) (l t:Addr):Heap:=(zC h l t).push {cls:=.type "tuple",data:=.seq #[.none,.none]}
noncomputable def zE (h:Heap) (l t:Addr):Heap:=(zD h l t).push {cls:=.type "zip",data:=.fields #[.none,.bool false,.bool false,.ref (zB h l t).objs.size,.ref (zC h l t).objs.size]}
theorem xU (l t:Addr) (xs ys:Array Value):Meets (Builtin.«zip.__new__» ⟨[.type "zip",.ref l,.ref t],[]⟩) (fun _ R s=>s.heap.IsList l xs/\s.heap.IsTuple t ys/\R (.ok (.ret (.ref (zD s.heap l t).objs.size))) {s with heap:=zE s.heap l t}):=
 .of_wp fun prog w A R s h=>by
  obtain ⟨hp,g,d,tk,os⟩:=s;obtain ⟨g1,g2,q⟩:=h
  have sub:=sub_zip
  have k1:Heap.IsList (Shared.heap ⟨hp,g,d,tk,os⟩) l xs:=g1
  have k2:Heap.IsTuple (Shared.heap ⟨hp.push {cls:=.type "list_iterator",data:=.fields #[.ref l,.int 0 0]},g,d,tk,os⟩) t ys:=Heap.IsTuple.push g2 _
  wp_walk using wpAny_pyIter_list k1,wpAny_pyIter_tuple k2
  exact ⟨_,rfl,q⟩
theorem xX {l t:Addr} {xs ys:Array Value} {Q:Value->Shared->Prop} (hl:s.heap.IsList l xs) (ht:s.heap.IsTuple t ys)
  (q:∀ hh,ZT hh (s.heap.objs.size+4) (s.heap.objs.size+2) (s.heap.objs.size+3) s.heap.objs.size (s.heap.objs.size+1) l t 0->(∀ c ob,s.heap.get? c=some ob->hh.get? c=some ob)->Q (.ref (s.heap.objs.size+4)) {s with heap:=hh}) :
  wpAny (model prog w) A (call (.type "zip") [.ref l,.ref t]) Q E s:=by
 refine callType_new F.called_zip (by decide) (F.typeCall_zip_2 _ _) (F.newCall_zip_2 _ _) (fun ob=>F.args_object_init_3 ob _ _) F.entry_zip_new (xU l t xs ys) ⟨hl,ht,?_⟩
 have a1:(zA s.heap l).objs.size=s.heap.objs.size+1:=Heap.size_push ..
 have a2:(zB s.heap l t).objs.size=s.heap.objs.size+2:=by unfold zB;rw [Heap.size_push,a1]
 have a3:(zC s.heap l t).objs.size=s.heap.objs.size+3:=by unfold zC;rw [Heap.size_push,a2]
 have a4:(zD s.heap l t).objs.size=s.heap.objs.size+4:=by unfold zD;rw [Heap.size_push,a3]
 have up1:∀ c ob,(zD s.heap l t).get? c=some ob->(zE s.heap l t).get? c=some ob:=fun c ob e=>Heap.get?_push_of_some _ e
 have up2:∀ c ob,(zC s.heap l t).get? c=some ob->(zE s.heap l t).get? c=some ob:=fun c ob e=>up1 c ob (Heap.get?_push_of_some _ e)
 have up3:∀ c ob,(zB s.heap l t).get? c=some ob->(zE s.heap l t).get? c=some ob:=fun c ob e=>up2 c ob (Heap.get?_push_of_some _ e)
 have up4:∀ c ob,(zA s.heap l).get? c=some ob->(zE s.heap l t).get? c=some ob:=fun c ob e=>up3 c ob (Heap.get?_push_of_some _ e)
 have up5:∀ c ob,s.heap.get? c=some ob->(zE s.heap l t).get? c=some ob:=fun c ob e=>up4 c ob (Heap.get?_push_of_some _ e)
 have b5:(zE s.heap l t).get? (zD s.heap l t).objs.size=some _:=Heap.get?_push_size _ rfl
 have b4:=up1 (zC s.heap l t).objs.size _ (Heap.get?_push_size _ rfl)
 have b3:=up2 (zB s.heap l t).objs.size _ (Heap.get?_push_size _ rfl)
 have b2:=up3 (zA s.heap l).objs.size _ (Heap.get?_push_size _ rfl)
 have b1:=up4 s.heap.objs.size _ (Heap.get?_push_size _ rfl)
 rw [a2,a3,a4] at b5
 rw [a3] at b4
 rw [a1,a2] at b3
 rw [a1] at b2
 show _/\_
 rw [a4]
 exact ⟨⟨_,b5,rfl⟩,q _ ⟨b5,b3,⟨_,_,b4⟩,⟨_,b1,rfl,rfl⟩,⟨_,b2,rfl,rfl⟩⟩ up5⟩
end
noncomputable def xR (K:PySem.W.Frag) (a b:Addr):It:=
 ⟨fun i H=>∃ (xs ys:List V) (x y:V),SqL K H a xs/\SqT K H b ys/\xs[i]? = some x/\ys[i]? = some y,
  fun i H v H'=>∃ T x y,v=.ref T/\H T=none/\H'=upd H T (.tup [x,y])/\(∀ xs,SqL K H a xs->xs[i]? = some x)/\∀ ys,SqT K H b ys->ys[i]? = some y,
  fun i H=>∃ xs:List V,SqL K H a xs/\xs.length<=i⟩
theorem vg {P:Program} {w:World} {K:PySem.W.Frag} {elts:List Expr} {kk:Nat} {tpos:Pos} {a b z TI TO i1 i2:Addr} (D:ZipApart z TI TO i1 i2 a b) :
  Turn P w K (.Tuple elts kk tpos) (xR K a b) [z,TI,TO,i1,i2] z (fun i h=>ZT h z TI TO i1 i2 a b i) where
 mem:=by simp
 obj:=fun i h st c hc=>by
  obtain ⟨hz,hTI,⟨x,y,hTO⟩,⟨o1,e1,_,d1⟩,⟨o2,e2,_,d2⟩⟩:=st
  have e':c=z\/c=TI\/c=TO\/c=i1\/c=i2:=by simpa using hc
  rcases e' with q | q | q | q | q
  ·rw [q];exact ⟨_,hz,fun v q=>nomatch q⟩
  ·rw [q];exact ⟨_,hTI,fun v q=>nomatch q⟩
  ·rw [q];exact ⟨_,hTO,fun v q=>nomatch q⟩
  ·rw [q];exact ⟨o1,e1,fun v q=>by rw [d1] at q;cases q⟩
  ·rw [q];exact ⟨o2,e2,fun v q=>by rw [d2] at q;cases q⟩
 keep:=fun i h h' st k=>by
  obtain ⟨hz,hTI,⟨x,y,hTO⟩,h1,h2⟩:=st
  exact ⟨k z (by simp) _ hz,k TI (by simp) _ hTI,⟨x,y,k TO (by simp) _ hTO⟩,h1.at fun o q=>k i1 (by simp) o q,h2.at fun o q=>k i2 (by simp) o q⟩
 item:=by
  intro X hP hw hK hc i pins s σ H E I hf st hg
  subst hP hw hK
  obtain ⟨xs,ys,x,y,hqx,hqy,hx,hy⟩:=hg
  obtain ⟨its,rv,p,_⟩:=I.list hqx
  obtain ⟨its2,rv2,p2,_⟩:=I.tuple hqy
  obtain ⟨u,hu,ru⟩:=rv.get hx
  obtain ⟨u2,hu2,ru2⟩:=rv2.get hy
  have hzl:z < s.heap.objs.size:=Heap.lt_size st.z
  have lts:∀ c ∈ [z,TI,TO,i1,i2],c < s.heap.objs.size:=fun c hcm=>by
   have e':c=z\/c=TI\/c=TO\/c=i1\/c=i2:=by simpa using hcm
   obtain ⟨_,hTI,⟨x,y,hTO⟩,⟨o1,e1,_,d1⟩,⟨o2,e2,_,d2⟩⟩:=st
   rcases e' with q | q | q | q | q
   ·rw [q];exact hzl
   ·rw [q];exact Heap.lt_size hTI
   ·rw [q];exact Heap.lt_size hTO
   ·rw [q];exact Heap.lt_size e1
   ·rw [q];exact Heap.lt_size e2
  refine xV D st p.isList (show s.heap.IsTuple b its2.toArray from p2) (v:=u) (v2:=u2) (by simpa using hu) (by simpa using hu2) fun h' z' hTI TO' h1' h2' hT hk=>?_
  refine ⟨_,rfl,wpAny_letOwnedTupleGo_zip (s:={s with heap:=h'}) z' fun h'' z'' sb=>?_⟩
  have hT2:h''.get? s.heap.objs.size=some {cls:=.type "tuple",data:=.seq #[u,u2]}:=(sb.2 _ (Nat.ne_of_gt hzl)).trans hT
  have new:gK X.prog X.w (upd H s.heap.objs.size (.tup [x,y])) h'' s.heap.objs.size (.tup [x,y]):=
   ⟨by show 2<=sizeLine;decide,[u,u2],.cons ru (.cons ru2 .nil),⟨_,hT2,rfl,_,rfl⟩⟩
  have I1:Inv X pins σ (upd H s.heap.objs.size (.tup [x,y])) {s with heap:=h''}:=
   I.pS (t':=s.toks) (ch:=[z,TI,TO,i1,i2]) (fun c o hb q=>(sb.2 c (fun q'=>hb (by simp [q']))).trans (hk c o (fun q'=>hb (by simp [q'])) (fun q'=>hb (by simp [q'])) (fun q'=>hb (by simp [q'])) (fun q'=>hb (by simp [q'])) q)) hf (Nat.le_refl _) new
  refine ⟨.ref s.heap.objs.size,_,I1,rfl,⟨_,x,y,rfl,I.hok.fresh (Nat.le_refl _),rfl,fun l hl=>by rw [I.oO hl hqx];exact hx,fun l hl=>by rw [I.vj hl hqy];exact hy⟩,⟨z'',?_,⟨u,u2,?_⟩,?_,?_⟩,fun c hcm=>?_⟩
  ·exact (sb.2 _ D.TIz).trans hTI
  ·exact (sb.2 _ D.TOz).trans TO'
  ·exact h1'.at fun o q=>(sb.2 _ D.i1z).trans q
  ·exact h2'.at fun o q=>(sb.2 _ D.i2z).trans q
  ·rw [ax (Nat.ne_of_lt (lts c hcm))]
   exact (hf c hcm).1
 done:=by
  intro X hP hw hK hc i pins s σ H E I hf st hg
  subst hP hw hK
  obtain ⟨xs,hqx,hend⟩:=hg
  obtain ⟨its,rv,p,_⟩:=I.list hqx
  have l1:=rv.length
  exact xT (I.ok.hd hc) D st p.isList (by simp;omega) fun h' hk=>⟨rfl,I.xY (t':=s.toks) (ch:=[z,TI,TO,i1,i2]) (fun c o hb q=>
   hk c o (fun q'=>hb (by simp [q'])) (fun q'=>hb (by simp [q'])) q) hf⟩
 self:=fun A i s Q E st h=>wpAny_pyIter_zip st.z h
noncomputable def AU (K:PySem.W.Frag) (ta:TA):TI:=fun σ H R=>ta σ H fun vs H1=>∃ a b xs ys,vs=[.ref a,.ref b]/\SqL K H1 a xs/\SqT K H1 b ys/\R (xR K a b) H1
theorem uH {X:Cx} {e e2:Expr} {ta:TA} {p pos tpos:Pos} {elts:List Expr} {kk:Nat} (hg:Gl X "zip") (hm:X.mg "zip" = none) (ha:PA X [e,e2] ta)
  (hs:([e,e2]:List Expr).all lL=true:=by rfl):PI X (.Tuple elts kk tpos) (.Call (.Name "zip" p) [e,e2] [] pos) (AU X.K ta):=by
 rw [List.all_cons,Bool.and_eq_true] at hs
 intro pins s σ H R I h
 refine Call_ (oT I hg hm we (PyProof.Rows.callWith_type1 (thn (ha pos pins s σ H _ I h) fun us s1 ⟨vs,H1,I1,r1,q1⟩=>?_) (iG hs.1) (jY hs.2)))
 obtain ⟨a,b,xs,ys,ex,hqx,hqy,q⟩:=q1
 subst ex
 cases r1 with
 | cons r rr=>
   cases rr with
   | cons r' rr=>
     cases rr
     cases r
     cases r'
     obtain ⟨its,rv,p1,_⟩:=I1.list hqx
     obtain ⟨its2,rv2,p2,_⟩:=I1.tuple hqy
     have p2:s1.heap.IsTuple b its2.toArray:=p2
     have la:a < s1.heap.objs.size:=p1.lt
     have lb:b < s1.heap.objs.size:=by obtain ⟨o,ho,_⟩:=p2;exact Heap.lt_size ho
     refine xX p1.isList p2 fun h' st hk=>wpAny_pyIter_zip st.z ?_
     have I2:Inv X pins σ H1 {s1 with heap:=h'}:=I1.kept (t':=s1.toks) hk
     refine ⟨s1.heap.objs.size+4,[s1.heap.objs.size+4,s1.heap.objs.size+2,s1.heap.objs.size+3,s1.heap.objs.size,s1.heap.objs.size+1],_,_,H1,rfl,I2,vg (PySem.W.ktu_apart s1.heap.objs.size a b la lb),st,fun c hcm=>?_,q⟩
     have e':c=s1.heap.objs.size+4\/c=s1.heap.objs.size+2\/c=s1.heap.objs.size+3\/c=s1.heap.objs.size\/c=s1.heap.objs.size+1:=by simpa using hcm
     have hle:s1.heap.objs.size<=c:=by
      rcases e' with z | z | z | z | z
      ·rw [z];exact Nat.le_add_right _ _
      ·rw [z];exact Nat.le_add_right _ _
      ·rw [z];exact Nat.le_add_right _ _
      ·rw [z];exact Nat.le_refl _
      ·rw [z];exact Nat.le_add_right _ _
     exact I1.xA hle (I1.hok.fresh hle)
noncomputable def AG (K:PySem.W.Frag):List V->Hp->VK->Prop:=fun vs H Q=>∃ (a:Addr) (as:List Addr) (ts:List (List Int)),vs=[V.ref a]/\SqL K H a (as.map V.ref)/\0 < as.length/\as.length=ts.length/\
 (∀ (j:Nat) (b:Addr) (t:List Int),as[j]? = some b->ts[j]? = some t->SqT K H b (t.map V.int))/\
 ∀ (j:Nat) (b:Addr) (t:List Int),as[j]? = some b->ts[j]? = some t->(∀ u,u ∈ ts->HT.lexLt u t=false)->Q (.ref b) H
theorem lex_trans:∀ (a b c:List Int),HT.lexLt a b=true->HT.lexLt b c=true->HT.lexLt a c=true
 | [],[],_,h,_=>by cases h
 | [],_::_,[],_,h=>by cases h
 | [],_::_,_::_,_,_=>rfl
 | _::_,[],_,h,_=>by cases h
 | _::_,_::_,[],_,h=>by cases h
 | x::a,y::b,z::c,h1,h2=>by
   rw [HT.gW] at h1 h2 ⊢
   by_cases e1:x=y
   ·subst e1
    by_cases e2:x=z
    ·rw [if_pos rfl] at h1;rw [if_pos e2] at h2 ⊢
     exact lex_trans a b c h1 h2
    ·rw [if_neg e2] at h2 ⊢;exact h2
   ·rw [if_neg e1] at h1
    have h1:=of_decide_eq_true h1
    by_cases e2:y=z
    ·subst e2;rw [if_neg e1];exact decide_eq_true h1
    ·rw [if_neg e2] at h2
     have h2:=of_decide_eq_true h2
     rw [if_neg (by omega)];exact decide_eq_true (by omega)
theorem qS:∀ a:List Int,HT.lexLt a a=false
 | []=>rfl
 | x::a=>by rw [HT.gW,if_pos rfl];exact qS a
section
variable {prog:Program} {w:World} {A:Around} {E:Value->Shared->Prop} {s:Shared} {R:Result->Shared->Prop}
theorem yB {I S l:Addr} {bs:List Addr} {ts:List (List Int)} {g0:Heap} (h0:A.handled=none) (hu:A.in1.units < cLine) (nI:g0.get? I=none) (nS:g0.get? S=none) (nSI:S≠I)
  (gl:g0.IsList l (bs.map Value.ref).toArray) (len:bs.length=ts.length) (gt:∀ (j:Nat) (b:Addr) (t:List Int),bs[j]? = some b->ts[j]? = some t->∃ us,IsTup g0 b us/\IntsAre us.toList t)
  (q:∀ (i:Nat) (b:Addr) (t:List Int) (hh:Heap) (k:Nat),bs[i]? = some b->ts[i]? = some t->(∀ u ∈ ts,HT.lexLt u t=false)->(∀ a o,g0.get? a=some o->hh.get? a=some o)->R (.ok (.ret (.ref b))) {s with heap:=hh,toks:=k}) :
  ∀ (r j i:Nat) (h:Heap) (k:Nat) (b:Addr) (t:List Int) (c:Nat),bs.length=j+1+r->(∀ a o,g0.get? a=some o->h.get? a=some o)->h.get? S=some {cls:=.type "list",dict:=none,data:=.seq #[.ref b,.ref b] c,slots:=#[]}->
   h.IsListIter I l (j+1)->bs[i]? = some b->ts[i]? = some t->(∀ j' u,j'<=j->ts[j']? = some u->HT.lexLt u t=false)->
   codeAny (model prog w) A (.builtin "min.loop" ⟨[.ref I,.none,.ref S],[]⟩) R {s with heap:=h,toks:=k}:=by
 have lI:∀ a o,g0.get? a=some o->a≠I:=fun a o e z=>by rw [z,nI] at e;cases e
 have lS:∀ a o,g0.get? a=some o->a≠S:=fun a o e z=>by rw [z,nS] at e;cases e
 have nm:(toString "min"++toString ".loop":String)="min.loop":=by decide
 intro r
 induction r with
 | zero=>
   intro j i h k b t c hr kp gS it hb ht best
   refine codeAny_builtin PySem.F.entry_min_loop ?_
   rw [Around.under_plainId PySem.F.plain_min_loop _]
   refine wpAny_bind (m:=seqItems? (.ref S)) (wpAny_seqItems gS rfl ?_)
   refine wpAny_bind (wpAny_tryCatch (wpAny_pyNext_list_end h0 it (gl.at fun o e=>kp l o e) (by simp;omega) fun h1 x1=>?_))
   have gS1:=x1 S _ nSI gS
   refine wpAny_bind (m:=updateSeq S fun _=>#[]) (wpAny_updateSeq gS1 rfl (wpAny_bind (wpAny_letGo (wpAny_pure ?_))))
   refine q i b t _ _ hb ht (fun u hu=>?_) fun a o e=>?_
   ·obtain ⟨j',hj,e⟩:=List.getElem_of_mem hu
    exact best j' u (by omega) (by rw [List.getElem?_eq_getElem hj,e])
   ·exact (Heap.get?_update_other _ _ (Ne.symm (lS a o e))).trans (x1 a o (lI a o e) (kp a o e))
 | succ r ih=>
   intro j i h k b t c hr kp gS it hb ht best
   obtain ⟨v,hv⟩:∃ v,bs[j+1]? = some v:=⟨_,List.getElem?_eq_getElem (by omega)⟩
   obtain ⟨tv,htv⟩:∃ tv,ts[j+1]? = some tv:=⟨_,List.getElem?_eq_getElem (by omega)⟩
   refine codeAny_builtin PySem.F.entry_min_loop ?_
   rw [Around.under_plainId PySem.F.plain_min_loop _]
   refine wpAny_bind (m:=seqItems? (.ref S)) (wpAny_seqItems gS rfl ?_)
   refine wpAny_bind (wpAny_tryCatch (wpAny_pyNext_list_item it (gl.at fun o e=>kp l o e) (x:=.ref v) (by simp [hv]) fun h1 it1 x1=>?_))
   have gS1:=x1.extBut S _ nSI gS
   have kp1:∀ a o,g0.get? a=some o->h1.get? a=some o:=fun a o e=>x1.extBut a o (lI a o e) (kp a o e)
   obtain ⟨us,k1,k2⟩:=gt _ _ _ hb ht
   obtain ⟨us2,k3,k4⟩:=gt _ _ _ hv htv
   have k1:IsTup h1 b us:=by obtain ⟨o,e,z⟩:=k1;exact ⟨o,kp1 b o e,z⟩
   have k3:IsTup h1 v us2:=by obtain ⟨o,e,z⟩:=k3;exact ⟨o,kp1 v o e,z⟩
   refine wpAny_bind (m:=tryCatch (holding [.ref v,.ref v] (richCompare .Lt (.ref v) (.ref b) >>= _)) _) (wpAny_tryCatch (wpAny_holding (wpAny_bind (HT.uf k3 k1 k4 k2 hu ?_))))
   refine wpAny_bind (wpAny_holding (wpAny_truthy_bool (wpAny_bind (wpAny_letGo (wpAny_pure ?_)))))
   cases hb':HT.lexLt tv t with
   | true=>
     simp only [if_true]
     refine wpAny_bind (wpAny_updateSeq gS1 rfl (wpAny_bind (wpAny_letGo ?_)))
     rw [nm]
     refine wpAny_pure ⟨plainId_quiet PySem.F.plain_min_loop _,ih (j+1) (j+1) _ _ v tv _ (by omega) (fun a o e=>(Heap.get?_update_other _ _ (Ne.symm (lS a o e))).trans (kp1 a o e)) (Heap.get?_update_self _ gS1 rfl) (it1.at fun o e=>(Heap.get?_update_other _ _ nSI).trans e) hv htv fun j' u hj hu=>?_⟩
     by_cases e:j'=j+1
     ·subst e;rw [htv] at hu;cases hu;exact qS _
     ·cases z:HT.lexLt u tv with
      | false=>rfl
      | true=>exact (lex_trans _ _ _ z hb').symm.trans (best j' u (by omega) hu)
   | false=>
     simp only [Bool.false_eq_true,if_false]
     refine wpAny_bind (wpAny_letGo ?_)
     rw [nm]
     refine wpAny_pure ⟨plainId_quiet PySem.F.plain_min_loop _,ih (j+1) i _ _ b t c (by omega) kp1 gS1 it1 hb ht fun j' u hj hu=>?_⟩
     by_cases e:j'=j+1
     ·subst e;rw [htv] at hu;cases hu;exact hb'
     ·exact best j' u (by omega) hu
theorem yC {l:Addr} {bs:List Addr} {ts:List (List Int)} {Q:Value->Shared->Prop} (h0:A.handled=none) (hu:A.in1.units < cLine) (gl:s.heap.IsList l (bs.map Value.ref).toArray) (pos:0 < bs.length) (len:bs.length=ts.length)
  (gt:∀ (j:Nat) (b:Addr) (t:List Int),bs[j]? = some b->ts[j]? = some t->∃ us,IsTup s.heap b us/\IntsAre us.toList t)
  (q:∀ (i:Nat) (b:Addr) (t:List Int) (hh:Heap) (k:Nat),bs[i]? = some b->ts[i]? = some t->(∀ u ∈ ts,HT.lexLt u t=false)->(∀ a o,s.heap.get? a=some o->hh.get? a=some o)->Q (.ref b) {s with heap:=hh,toks:=k}) :
  wpAny (model prog w) A (call (.builtin "min") [.ref l]) Q E s:=by
 have nm:(toString "min"++toString ".loop":String)="min.loop":=by decide
 refine call_function_tree PySem.F.kind_min PySem.F.plain_min PySem.F.entry_min (PySem.F.args_min1 _) ?_
 refine wpAny_bind (m:=Builtin.Builtins.bindParams "min" ["key","default"] 0 ⟨[],[]⟩) (wpAny_of_eq (a:=[none,none]) rfl (wpAny_bind (wpAny_pure (wpAny_bind (wpAny_pyIter_list gl ?_)))))
 have kA:∀ a o,s.heap.get? a=some o->(s.heap.push {cls:=.type "list_iterator",data:=.fields #[.ref l,.int 0 0]}).get? a=some o:=fun a o e=>Heap.get?_push_of_some _ e
 have itA:(s.heap.push {cls:=.type "list_iterator",data:=.fields #[.ref l,.int 0 0]}).IsListIter s.heap.objs.size l 0:=⟨_,Heap.get?_push_size _ rfl,rfl,rfl⟩
 have szA:(s.heap.push {cls:=.type "list_iterator",data:=.fields #[.ref l,.int 0 0]}).objs.size=s.heap.objs.size+1:=Heap.size_push ..
 generalize s.heap.push {cls:=.type "list_iterator",data:=.fields #[.ref l,.int 0 0]} = hA at *
 refine wpAny_bind (wpAny_newObj_type ?_)
 rw [nm]
 have off:∀ a,s.heap.objs.size<=a->s.heap.get? a=none:=fun a ha=>by
  cases e:s.heap.get? a with
  | none=>rfl
  | some o=>exact absurd (Heap.lt_size e) (Nat.not_lt.mpr ha)
 have nI:=off s.heap.objs.size (Nat.le_refl _)
 have nS:=off hA.objs.size (by omega)
 have nSI:hA.objs.size≠s.heap.objs.size:=by omega
 have gS:(hA.push {cls:=.type "list",data:=.seq #[]}).get? hA.objs.size=some {cls:=.type "list",data:=.seq #[]}:=Heap.get?_push_size _ rfl
 have kB:∀ a o,s.heap.get? a=some o->(hA.push {cls:=.type "list",data:=.seq #[]}).get? a=some o:=fun a o e=>Heap.get?_push_of_some _ (kA a o e)
 have itB:(hA.push {cls:=.type "list",data:=.seq #[]}).IsListIter s.heap.objs.size l 0:=itA.at fun o e=>Heap.get?_push_of_some _ e
 refine wpAny_pure ⟨plainId_quiet PySem.F.plain_min_loop _,?_⟩
 refine codeAny_builtin PySem.F.entry_min_loop ?_
 rw [Around.under_plainId PySem.F.plain_min_loop _]
 obtain ⟨v,hv⟩:∃ v,bs[0]? = some v:=⟨_,List.getElem?_eq_getElem pos⟩
 obtain ⟨t,ht⟩:∃ t,ts[0]? = some t:=⟨_,List.getElem?_eq_getElem (by omega)⟩
 refine wpAny_bind (m:=seqItems? (.ref hA.objs.size)) (wpAny_seqItems gS rfl ?_)
 refine wpAny_bind (wpAny_tryCatch (wpAny_pyNext_list_item itB (gl.at fun o e=>kB l o e) (x:=.ref v) (by simp [hv]) fun h1 it1 x1=>?_))
 have gS1:=x1.extBut _ _ nSI gS
 refine wpAny_bind (m:=updateSeq hA.objs.size fun _=>#[.ref v,.ref v]) (wpAny_updateSeq gS1 rfl ?_)
 rw [nm]
 have lI:∀ a o,s.heap.get? a=some o->a≠s.heap.objs.size:=fun a o e z=>by rw [z,nI] at e;cases e
 have lS:∀ a o,s.heap.get? a=some o->a≠hA.objs.size:=fun a o e z=>by rw [z,nS] at e;cases e
 refine wpAny_pure ⟨plainId_quiet PySem.F.plain_min_loop _,yB h0 hu nI nS nSI gl len gt (fun i b t hh k a1 a2 a3 a4=>q i b t hh k a1 a2 a3 a4) (bs.length - 1) 0 0 _ _ v t _ (by omega) (fun a o e=>?_) (Heap.get?_update_self _ gS1 rfl) (it1.at fun o e=>(Heap.get?_update_other _ _ nSI).trans e) hv ht fun j' u hj hu=>?_⟩
 ·exact (Heap.get?_update_other _ _ (Ne.symm (lS a o e))).trans (x1.extBut a o (lI a o e) (kB a o e))
 ·obtain rfl:j'=0:=by omega
  rw [ht] at hu;cases hu;exact qS _
end
theorem uC:∀ {as:List Addr} {us:List Value},Vals (as.map V.ref) us->us=as.map Value.ref
 | [],_,h=>by cases h;rfl
 | a::as,_,h=>by
   cases h with
   | cons r rr=>cases r;rw [uC rr];rfl
theorem yL {X:Cx} (hc:X.calm=true) (hu:X.A.units+64 < cLine):qi X (.builtin "min") (AG X.K):=by
 intro pins s σ H vs us Q I r h
 obtain ⟨a,as,ts,rfl,hs,hne,len,tup,q⟩:=h
 obtain ⟨its,rv,hl,_⟩:=I.list hs
 have e:=uC rv
 subst e
 rw [Vals.zw r]
 refine yC (I.ok.hd hc) ?_ hl.isList hne len (fun j b t h1 h2=>?_) fun i b t hh k h1 h2 h3 h4=>⟨.ref b,H,I.kept h4,rfl,q i b t h1 h2 h3⟩
 ·show X.A.units+1 < cLine
  omega
 ·obtain ⟨its2,rv2,p2,_⟩:=I.tuple (tup j b t h1 h2)
  exact ⟨_,p2,intsAre_of rv2⟩
end L2
namespace Mi
structure Blk where
 number:Int
 bU:Int
 left:Int
 tipped:Int
 place:Int
structure Trk where
 does:Int
 at_:Int
 go:Int
 since:Int
 load:Option (Nat×Int)
 stop:Bool
 cnt:List Int
structure Shv where
 time:Int
 row:List Nat
 stop:Bool
 cnt:List Int
structure Plc where
 time:Int
 loads:Int
 bU:Int
structure Stp where
 kind:Int
 which:Int
 since:Int
 until_:Int
structure Flt where
 carries:Int
 rule:Int
 r0:List Int
 r1:List Int
 park:List Int
 onw:List Int
 back:List Int
 aq:List Trk
 au:List Shv
 br:List Plc
 told:List (Int×List Int)
 aA:List Blk
 cI:List Stp
 book:List (List Int)
 minute:Int
noncomputable def uq:Blk:=⟨0,0,0,0,0⟩
noncomputable def fq:Trk:=⟨0,0,0,0,none,false,List.replicate 9 0⟩
noncomputable def fO:Shv:=⟨0,[],false,List.replicate 4 0⟩
noncomputable def qC:Plc:=⟨0,0,0⟩
noncomputable def dq (n carries rule:Int) (r0 r1 r2 r3 r4:List Int):Flt:=
 {carries:=carries,rule:=rule,r0:=r0,r1:=r1,park:=r2,onw:=r3,back:=r4
  aq:=List.replicate n.toNat fq,au:=r0.map fun l=>{fO with time:=l},br:=r1.map fun l=>⟨l,0,0⟩
  told:=[],aA:=[],cI:=[],book:=[],minute:=0}
noncomputable def ak (f:Flt) (j:Nat):Blk:=f.aA.getD j uq
noncomputable def aa (f:Flt) (i:Nat):Trk:=f.aq.getD i fq
noncomputable def ai (f:Flt) (i:Nat):Shv:=f.au.getD i fO
noncomputable def bz (f:Flt) (i:Nat):Plc:=f.br.getD i qC
noncomputable def gC (f:Flt) (w s:Int):Int:=if w=0 then f.park.getD (s - 1).toNat 0 else f.back.getD ((w - 1)*(f.au.length:Int)+s - 1).toNat 0
noncomputable def iV (f:Flt) (s p:Int):Int:=f.onw.getD ((s - 1)*(f.br.length:Int)+p - 1).toNat 0
noncomputable def fF (f:Flt) (row:List Nat):Int:=(row.map fun j=>((ak f j).left+f.carries - 1) / f.carries).sum
noncomputable def fw (f:Flt) (row:List Nat):Int:=(row.map fun j=>(ak f j).left).sum
noncomputable def cf (f:Flt):Int:=(f.br.map (·.loads)).sum
noncomputable def dt (f:Flt):Int:=(f.br.map (·.bU)).sum
noncomputable def without (f:Flt):Int:=(f.au.map fun s=>s.cnt.getD 2 0).sum
noncomputable def isAt (ds:List Int) (w:Int) (t:Trk):Bool:=ds.contains t.does&&t.at_==w
noncomputable def cE (f:Flt) (ds:List Int) (w:Int):Int:=((f.aq.filter (isAt ds w)).length:Int)
noncomputable def dr (f:Flt) (t:Trk):List Int:=match t.load with
 | none=>[0,0]
 | some (j,k)=>[(ak f j).number,k]
noncomputable def three (f:Flt) (w:Int) (i:Nat):Int×Int×Int:=
 let s:Int:=(i:Int)+1
 let m:=gC f w s
 let t:=cE f [1,2,3] s
 if f.rule=0 then (t,m,s) else if f.rule=1 then (m,t,s) else (m+(ai f i).time*t,t,s)
noncomputable def eE (f:Flt) (w:Int) (n:Nat):List (Int×Int×Int):=
 ((List.range n).filter fun (i:Nat)=>decide (cE f [1,2] ((i:Int)+1) < fF f (ai f i).row)).map (three f w)
noncomputable def ltT (a b:Int×Int×Int):Bool:=decide (a.1 < b.1)||(a.1==b.1&&(decide (a.2.1 < b.2.1)||(a.2.1==b.2.1&&decide (a.2.2 < b.2.2))))
noncomputable def ic (x:Int×Int×Int) (l:List (Int×Int×Int)):Int×Int×Int:=l.foldl (fun m y=>if ltT y m then y else m) x
noncomputable def chosen (f:Flt) (w:Int):Int:=match eE f w f.au.length with
 | []=>0
 | x::l=>(ic x l).2.2
noncomputable def aX (f:Flt) (i:Nat) (t:Trk):Flt:={f with aq:=f.aq.set i t}
noncomputable def cZ (f:Flt) (i:Nat) (s:Shv):Flt:={f with au:=f.au.set i s}
noncomputable def fA (f:Flt) (i:Nat) (s:Plc):Flt:={f with br:=f.br.set i s}
noncomputable def dS (f:Flt) (i:Nat) (s:Blk):Flt:={f with aA:=f.aA.set i s}
noncomputable def iq (f:Flt) (i:Nat):Flt:=aX f i {aa f i with stop:=false}
noncomputable def ir (f:Flt) (i:Nat):Flt:=cZ f i {ai f i with stop:=false}
noncomputable def dO (f:Flt) (z:Stp):Flt:=
 if z.since<=f.minute/\f.minute < z.until_ then
  (if z.kind=0 then aX f (z.which - 1).toNat {aa f (z.which - 1).toNat with stop:=true} else cZ f (z.which - 1).toNat {ai f (z.which - 1).toNat with stop:=true})
 else f
noncomputable def mark (f:Flt):Flt:=
 let a:=(List.range f.aq.length).foldl iq f
 let b:=(List.range f.au.length).foldl ir a
 f.cI.foldl dO b
noncomputable def comes (f:Flt) (m:Int) (i:Nat) (does w go:Int):Flt:=
 {f with aq:=f.aq.set i {aa f i with does:=does,at_:=w,go:=go,since:=m},book:=f.book++[[m,(i:Int)+1,does,w]++dr f (aa f i)]}
noncomputable def cY (f:Flt) (i:Nat):Flt:=
 let t:=aa f i
 if t.does=0/\t.stop=false then
  (let s:=chosen f t.at_
   if s=0 then comes f f.minute i 7 t.at_ 0 else comes f f.minute i 1 s (gC f t.at_ s))
 else f
noncomputable def sendAll (f:Flt):Flt:=(List.range f.aq.length).foldl cY f
noncomputable def eQ (f:Flt) (does w:Int) (n:Nat):Option Nat:=(List.range n).foldl (fun (o:Option Nat) i=>
 if (aa f i).does=does/\(aa f i).at_=w/\(aa f i).stop=false then
  (match o with
   | none=>some i
   | some u=>if (aa f i).since < (aa f u).since then some i else some u)
 else o) none
noncomputable def first (f:Flt) (does w:Int):Option Nat:=eQ f does w f.aq.length
noncomputable def eA (f:Flt) (p:Nat):Flt:=match first f 5 ((p:Int)+1) with
 | none=>f
 | some i=>if cE f [6] ((p:Int)+1)=0 then comes f f.minute i 6 ((p:Int)+1) (bz f p).time else f
noncomputable def gD (f:Flt):Flt:=(List.range f.br.length).foldl eA f
noncomputable def fe (f:Flt) (i:Nat):Bool:=decide (0 < cE f [3] ((i:Int)+1))
noncomputable def bS (f:Flt) (j:Nat):Int:=if (ak f j).left < f.carries then (ak f j).left else f.carries
noncomputable def take (f:Flt) (s:Nat) (j:Nat):Flt:=
 let b:=ak f j
 let k:=bS f j
 let g:=dS f j {b with left:=b.left - k}
 if b.left - k=0 then cZ g s {ai f s with row:=(ai f s).row.tail} else g
noncomputable def cU (f:Flt) (s:Nat):Flt:=
 if (ai f s).stop=false/\0 < (ai f s).row.length/\fe f s=false then
  (match first f 2 ((s:Int)+1),(ai f s).row with
   | some i,j::_=>
     let k:=bS f j
     let g:=take f s j
     comes (aX g i {aa g i with load:=some (j,k)}) f.minute i 3 ((s:Int)+1) (ai f s).time
   | _,_=>f)
 else f
noncomputable def gp (f:Flt):Flt:=(List.range f.au.length).foldl cU f
noncomputable def bump (l:List Int) (k:Nat):List Int:=l.set k (l.getD k 0+1)
noncomputable def dR (f:Flt) (i:Nat):Flt:=let t:=aa f i;aX f i {t with cnt:=bump t.cnt (if t.stop then 8 else t.does.toNat)}
noncomputable def eH (f:Flt) (i:Nat):Nat:=if (ai f i).stop then 1 else if fe f i then 0 else if (ai f i).row.length=0 then 3 else 2
noncomputable def eY (f:Flt) (i:Nat):Flt:=let s:=ai f i;cZ f i {s with cnt:=bump s.cnt (eH f i)}
noncomputable def count (f:Flt):Flt:=(List.range f.au.length).foldl eY ((List.range f.aq.length).foldl dR f)
noncomputable def held (f:Flt) (t:Trk):Bool:=t.stop||(decide (t.does=3)&&(ai f (t.at_ - 1).toNat).stop)
noncomputable def tip (f:Flt) (i:Nat):Flt:=
 let t:=aa f i
 match t.load with
 | none=>f
 | some (j,k)=>
   let p:=bz f (t.at_ - 1).toNat
   let g:=fA f (t.at_ - 1).toNat {p with loads:=p.loads+1,bU:=p.bU+k}
   let g:=dS g j {ak g j with tipped:=(ak g j).tipped+k}
   aX g i {t with load:=none,does:=0,go:=0}
noncomputable def ly (f:Flt) (i:Nat):Flt:=
 let t:=aa f i
 if t.does=1 then comes f (f.minute+1) i 2 t.at_ 0
 else if t.does=3 then
  (match t.load with
   | none=>f
   | some (j,_)=>comes f (f.minute+1) i 4 (ak f j).place (iV f t.at_ (ak f j).place))
 else if t.does=4 then comes f (f.minute+1) i 5 t.at_ 0
 else tip f i
noncomputable def eG (f:Flt) (i:Nat):Flt:=
 let t:=aa f i
 if (t.does=1\/t.does=3\/t.does=4\/t.does=6)/\held f t=false then
  (if 1 < t.go then aX f i {t with go:=t.go - 1} else ly f i)
 else f
noncomputable def hC (f:Flt):Flt:=(List.range f.aq.length).foldl eG f
noncomputable def minute (f:Flt):Flt:=
 let g:=hC (count (gp (gD (sendAll (mark f)))))
 {g with minute:=g.minute+1}
noncomputable def minutes (f:Flt):Nat->Flt
 | 0=>f
 | n+1=>minute (minutes f n)
noncomputable def fz (f:Flt) (i:Nat):Flt:=if (aa f i).does=7 then aX f i {aa f i with does:=0} else f
noncomputable def dF (f:Flt):Flt:=(List.range f.aq.length).foldl fz f
noncomputable def ej (f:Flt) (s:Nat) (b:Blk):Flt:={f with aA:=f.aA++[b],au:=f.au.set s {ai f s with row:=(ai f s).row++[f.aA.length]}}
noncomputable def things (f:Flt) (kind:Int):Int:=if kind=0 then (f.aq.length:Int) else (f.au.length:Int)
noncomputable def du (f:Flt) (s number bU p:Int):Flt×List Int:=
 if (f.au.length:Int) < s\/(f.br.length:Int) < p then (f,[-2])
 else if (f.aA.map (·.number)).contains number then (f,[-3])
 else if f.aA.length=20 then (f,[-4])
 else
  let g:=dF (ej f (s - 1).toNat ⟨number,bU,bU,0,p⟩)
  (g,[0,fF g (ai g (s - 1).toNat).row])
noncomputable def dJ (f:Flt) (kind which since long:Int):Flt×List Int:=
 if things f kind < which then (f,[-2])
 else if since < f.minute then (f,[-5])
 else if f.cI.length=20 then (f,[-4])
 else ({f with cI:=f.cI++[⟨kind,which,since,since+long⟩]},[0])
noncomputable def fD (f:Flt) (n:Int):Flt×List Int:=
 if 1440 < f.minute+n then (f,[-6])
 else let g:=minutes f n.toNat;(g,[0,g.minute,cf g])
noncomputable def dU (f:Flt) (c:Int×List Int):Flt×List Int:=match c with
 | (1,[s,n,k,p])=>du f s n k p
 | (2,[k,w,m,l])=>dJ f k w m l
 | (3,[n])=>fD f n
 | _=>(f,[])
noncomputable def tell (f:Flt) (c:Int×List Int):Flt×List Int:=
 let x:=dU f c
 (if x.2.headD 1=0 then {x.1 with told:=x.1.told++[c]} else x.1,x.2)
noncomputable def again (f:Flt) (rule n:Int):Flt:=f.told.foldl (fun g c=>(tell g c).1) (dq n f.carries rule f.r0 f.r1 f.park f.onw f.back)
noncomputable def outcome (f:Flt):List Int:=[0,cf f,dt f,without f]
noncomputable def dQ (f:Flt) (most:Int):Nat->Nat->List Int
 | 0,_=>[0,0]
 | k+1,n=>let w:=without (again f f.rule (n:Int));if w<=most then [0,(n:Int),w] else dQ f most k (n+1)
noncomputable def ahead (f:Flt) (n:Int):List Int:=if 1440 < f.minute+n then [-6] else outcome (minutes (again f f.rule (f.aq.length:Int)) n.toNat)
noncomputable def carried (f:Flt):Int:=(f.aq.filterMap fun t=>t.load.map (·.2)).sum
noncomputable def fH (f:Flt) (l:List Int):Nat->Nat->List Int
 | 0,_=>[0,1]
 | n+1,k=>if f.book.length<=k\/(l.drop (k*6)).take 6≠f.book.getD k [] then [0,0,(k:Int)] else fH f l n (k+1)
noncomputable def fI (f:Flt) (c:Int×List Int) (rows:List (List Int)):List Int:=match c with
 | (4,[t])=>if (f.aq.length:Int) < t then [-2] else let k:=aa f (t - 1).toNat;[0,k.does,k.at_,k.go]++dr f k
 | (5,[s])=>if (f.au.length:Int) < s then [-2] else let k:=ai f (s - 1).toNat;[0,fF f k.row,cE f [1,2] s,fw f k.row]++k.row.map fun j=>(ak f j).number
 | (6,[p])=>if (f.br.length:Int) < p then [-2] else let k:=bz f (p - 1).toNat;[0,k.loads,k.bU,cE f [5] p]
 | (7,[k])=>0::((f.book.drop k.toNat).take 50).flatten
 | (8,[t])=>if (f.aq.length:Int) < t then [-2] else 0::(aa f (t - 1).toNat).cnt
 | (9,[s])=>if (f.au.length:Int) < s then [-2] else 0::(ai f (s - 1).toNat).cnt
 | (10,[])=>[0,(f.aA.map (·.bU)).sum,(f.au.map fun s=>fw f s.row).sum,carried f,dt f]
 | (11,[])=>0::f.aA.flatMap fun b=>[b.number,b.bU,b.tipped,b.place]
 | (12,[p])=>if (f.br.length:Int) < p then [-2] else [0,chosen f p]
 | (13,[])=>match rows with
   | [l]=>if l.length % 6≠0 then [-7] else fH f l (l.length / 6) 0
   | _=>[]
 | (14,[r,n])=>outcome (again f r n)
 | (15,[m])=>dQ f m 8 1
 | (16,[n])=>ahead f n
 | (17,[])=>[0,f.minute,(f.aq.length:Int),(f.au.length:Int),(f.br.length:Int),f.rule,(f.book.length:Int),cf f,without f]
 | _=>[]
noncomputable def cj:Int->List (Int×Int)
 | 0=>[(1,8),(1,1000000),(0,2)]
 | 1=>[(1,3),(1,1000000),(1,100000000),(1,3)]
 | 2=>[(0,1),(1,8),(0,1440),(1,1440)]
 | 3=>[(1,1440)]
 | 4=>[(1,8)]
 | 5=>[(1,3)]
 | 6=>[(1,3)]
 | 7=>[(0,1000000)]
 | 8=>[(1,8)]
 | 9=>[(1,3)]
 | 12=>[(0,3)]
 | 14=>[(0,2),(1,8)]
 | 15=>[(0,10000)]
 | 16=>[(1,1440)]
 | _=>[]
noncomputable def gk:Int->List (Int×Int×Int×Int)
 | 0=>[(1,3,1,60),(1,3,1,60),(1,3,1,60),(1,9,1,60),(1,9,1,60)]
 | 13=>[(0,600,0,100000000)]
 | _=>[]
noncomputable def dB (l:List Int) (r:List (Int×Int)):Bool:=(l.zip r).all fun p=>decide (p.2.1<=p.1)&&decide (p.1<=p.2.2)
noncomputable def kq (l:List Int) (e:Int×Int×Int×Int):Bool:=(decide (e.1<=(l.length:Int))&&decide ((l.length:Int)<=e.2.1))&&l.all fun m=>decide (e.2.2.1<=m)&&decide (m<=e.2.2.2)
noncomputable def cX (n:Int) (plain:List Int) (rows:List (List Int)):Bool:=dB plain (cj n)&&(rows.zip (gk n)).all fun p=>kq p.1 p.2
noncomputable def iF (o:Option Flt) (plain:List Int) (rows:List (List Int)):Option Flt×List Int:=match plain,rows with
 | [n,c,r],[r0,r1,r2,r3,r4]=>
   if r2.length≠r0.length\/r3.length≠r0.length*r1.length\/r4.length≠r0.length*r1.length then (o,[-7])
   else (some (dq n c r r0 r1 r2 r3 r4),[0])
 | _,_=>(o,[])
noncomputable def answer (o:Option Flt) (n:Int) (plain:List Int) (rows:List (List Int)):Option Flt×List Int:=
 if cX n plain rows=false then (o,[-1])
 else if n=0 then iF o plain rows
 else match o with
  | none=>(o,[-8])
  | some f=>if n=1\/n=2\/n=3 then (let x:=tell f (n,plain);(some x.1,x.2)) else (o,fI f (n,plain) rows)
end Mi
namespace Ms
open PySem PySem.Spec PyProof.Rows L2
noncomputable def top (i:Nat):Stmt:=PySem.Challenge.pw_mineshift_s01_answers.main.body.getD i (.Pass ⟨0,0,0,0⟩)
inductive Fn where
 | dE | eL | dC | cV | dD | eJ | dv | aJ | aE | aS | bV | aZ | aK | az | cg | bG | eO | cW | bJ | dP | aW | dm | aU | bO | bu | bK | bx | aT | bZ | bI | aR | bw | bQ | bR | cJ | df | cb | aQ | cz | eI | gG | dI | cM | aN | de | bH | cw | aF | tell | aY | outcome | cx | bP | cP | replay | cN | cu | aL | cO | di | bX | dg | bY | cv | dh | cQ | dN | show | eK | cK | cA | answers
inductive Cn where
 | Block | Load | Truck | fk | Place | Stop | Fleet | Call | Reader | iE
noncomputable def sm:Fn->Stmt
 | .dE=>inClass (top 37) 0
 | .eL=>inClass (top 38) 0
 | .dC=>inClass (top 39) 0
 | .cV=>inClass (top 40) 0
 | .dD=>inClass (top 41) 0
 | .eJ=>inClass (top 42) 0
 | .dv=>inClass (top 43) 0
 | .aJ=>top 44
 | .aE=>top 45
 | .aS=>top 46
 | .bV=>top 47
 | .aZ=>top 48
 | .aK=>top 49
 | .az=>top 50
 | .cg=>top 51
 | .bG=>top 52
 | .eO=>inClass (top 56) 0
 | .cW=>inClass (top 57) 0
 | .bJ=>inClass (top 57) 1
 | .dP=>inClass (top 57) 2
 | .aW=>inClass (top 57) 3
 | .dm=>top 58
 | .aU=>top 59
 | .bO=>top 60
 | .bu=>top 62
 | .bK=>top 63
 | .bx=>top 64
 | .aT=>top 66
 | .bZ=>top 67
 | .bI=>top 68
 | .aR=>top 69
 | .bw=>top 70
 | .bQ=>top 71
 | .bR=>top 72
 | .cJ=>top 73
 | .df=>top 74
 | .cb=>top 75
 | .aQ=>top 76
 | .cz=>top 77
 | .eI=>top 78
 | .gG=>top 79
 | .dI=>top 80
 | .cM=>top 82
 | .aN=>top 83
 | .de=>top 84
 | .bH=>top 85
 | .cw=>top 86
 | .aF=>top 87
 | .tell=>top 89
 | .aY=>top 91
 | .outcome=>top 92
 | .cx=>top 93
 | .bP=>top 94
 | .cP=>top 95
 | .replay=>top 97
 | .cN=>top 99
 | .cu=>top 100
 | .aL=>top 101
 | .cO=>top 102
 | .di=>top 103
 | .bX=>top 104
 | .dg=>top 105
 | .bY=>top 106
 | .cv=>top 107
 | .dh=>top 108
 | .cQ=>top 109
 | .dN=>top 110
 | .show=>top 112
 | .eK=>inClass (top 114) 0
 | .cK=>top 115
 | .cA=>top 116
 | .answers=>top 118
noncomputable def nm:Fn->Str
 | .dE=>"__init__"
 | .eL=>"__init__"
 | .dC=>"__init__"
 | .cV=>"__init__"
 | .dD=>"__init__"
 | .eJ=>"__init__"
 | .dv=>"__init__"
 | .aJ=>"stoppable_things"
 | .aE=>"minutes_to_shovel"
 | .aS=>"minutes_to_place"
 | .bV=>"loads_left"
 | .aZ=>"loads_tipped"
 | .aK=>"kilograms_tipped"
 | .az=>"minutes_without_truck"
 | .cg=>"how_many"
 | .bG=>"load_numbers"
 | .eO=>"__init__"
 | .cW=>"__init__"
 | .bJ=>"has_more"
 | .dP=>"take"
 | .aW=>"take_many"
 | .dm=>"read_call"
 | .aU=>"is_within_ranges"
 | .bO=>"is_row_within"
 | .bu=>"trucks_coming"
 | .bK=>"three_numbers"
 | .bx=>"chosen_shovel"
 | .aT=>"let_minute_go_by"
 | .bZ=>"mark_stopped"
 | .bI=>"comes_to"
 | .aR=>"send_free_trucks"
 | .bw=>"first_waiting"
 | .bQ=>"begin_tipping"
 | .bR=>"begin_loading"
 | .cJ=>"loads_now"
 | .df=>"take_load"
 | .cb=>"count_minute"
 | .aQ=>"shovel_counts_as"
 | .cz=>"move_trucks"
 | .eI=>"is_held"
 | .gG=>"go_on"
 | .dI=>"tip_load"
 | .cM=>"tell_block"
 | .aN=>"free_ended_trucks"
 | .de=>"tell_stop"
 | .bH=>"goes_too_far"
 | .cw=>"run_minutes"
 | .aF=>"let_minutes_go_by"
 | .tell=>"tell"
 | .aY=>"played_again"
 | .outcome=>"outcome"
 | .cx=>"other_shift"
 | .bP=>"fewest_trucks"
 | .cP=>"look_ahead"
 | .replay=>"replay"
 | .cN=>"show_truck"
 | .cu=>"show_shovel"
 | .aL=>"kilograms_before"
 | .cO=>"show_place"
 | .di=>"show_book"
 | .bX=>"show_minutes"
 | .dg=>"show_work"
 | .bY=>"show_balance"
 | .cv=>"show_blocks"
 | .dh=>"show_next"
 | .cQ=>"check_book"
 | .dN=>"show_now"
 | .show=>"show"
 | .eK=>"__init__"
 | .cK=>"tell_fleet"
 | .cA=>"answer_call"
 | .answers=>"answers"
noncomputable def ql:Fn->Str
 | .dE=>"Block.__init__"
 | .eL=>"Load.__init__"
 | .dC=>"Truck.__init__"
 | .cV=>"Shovel.__init__"
 | .dD=>"Place.__init__"
 | .eJ=>"Stop.__init__"
 | .dv=>"Fleet.__init__"
 | .aJ=>"stoppable_things"
 | .aE=>"minutes_to_shovel"
 | .aS=>"minutes_to_place"
 | .bV=>"loads_left"
 | .aZ=>"loads_tipped"
 | .aK=>"kilograms_tipped"
 | .az=>"minutes_without_truck"
 | .cg=>"how_many"
 | .bG=>"load_numbers"
 | .eO=>"Call.__init__"
 | .cW=>"Reader.__init__"
 | .bJ=>"Reader.has_more"
 | .dP=>"Reader.take"
 | .aW=>"Reader.take_many"
 | .dm=>"read_call"
 | .aU=>"is_within_ranges"
 | .bO=>"is_row_within"
 | .bu=>"trucks_coming"
 | .bK=>"three_numbers"
 | .bx=>"chosen_shovel"
 | .aT=>"let_minute_go_by"
 | .bZ=>"mark_stopped"
 | .bI=>"comes_to"
 | .aR=>"send_free_trucks"
 | .bw=>"first_waiting"
 | .bQ=>"begin_tipping"
 | .bR=>"begin_loading"
 | .cJ=>"loads_now"
 | .df=>"take_load"
 | .cb=>"count_minute"
 | .aQ=>"shovel_counts_as"
 | .cz=>"move_trucks"
 | .eI=>"is_held"
 | .gG=>"go_on"
 | .dI=>"tip_load"
 | .cM=>"tell_block"
 | .aN=>"free_ended_trucks"
 | .de=>"tell_stop"
 | .bH=>"goes_too_far"
 | .cw=>"run_minutes"
 | .aF=>"let_minutes_go_by"
 | .tell=>"tell"
 | .aY=>"played_again"
 | .outcome=>"outcome"
 | .cx=>"other_shift"
 | .bP=>"fewest_trucks"
 | .cP=>"look_ahead"
 | .replay=>"replay"
 | .cN=>"show_truck"
 | .cu=>"show_shovel"
 | .aL=>"kilograms_before"
 | .cO=>"show_place"
 | .di=>"show_book"
 | .bX=>"show_minutes"
 | .dg=>"show_work"
 | .bY=>"show_balance"
 | .cv=>"show_blocks"
 | .dh=>"show_next"
 | .cQ=>"check_book"
 | .dN=>"show_now"
 | .show=>"show"
 | .eK=>"Mine.__init__"
 | .cK=>"tell_fleet"
 | .cA=>"answer_call"
 | .answers=>"answers"
noncomputable def ps:Fn->List Str
 | .dE=>["self","number","kilograms","place"]
 | .eL=>["self","block","kilograms"]
 | .dC=>["self","number"]
 | .cV=>["self","number","loading"]
 | .dD=>["self","number","tipping"]
 | .eJ=>["self","kind","which","since","minutes"]
 | .dv=>["self","n","carries","rule","rows"]
 | .aJ=>["fleet","kind"]
 | .aE=>["fleet","where","shovel"]
 | .aS=>["fleet","shovel","place"]
 | .bV=>["fleet","shovel"]
 | .aZ=>["fleet"]
 | .aK=>["fleet"]
 | .az=>["fleet"]
 | .cg=>["fleet","doings","where"]
 | .bG=>["truck"]
 | .eO=>["self","number","plain","rows"]
 | .cW=>["self","numbers"]
 | .bJ=>["self"]
 | .dP=>["self"]
 | .aW=>["self","many"]
 | .dm=>["reader"]
 | .aU=>["call"]
 | .bO=>["row","ends"]
 | .bu=>["fleet","shovel"]
 | .bK=>["fleet","where","shovel"]
 | .bx=>["fleet","where"]
 | .aT=>["fleet"]
 | .bZ=>["fleet"]
 | .bI=>["fleet","minute","truck","does","where","to_go"]
 | .aR=>["fleet"]
 | .bw=>["fleet","does","where"]
 | .bQ=>["fleet"]
 | .bR=>["fleet"]
 | .cJ=>["fleet","shovel"]
 | .df=>["fleet","shovel"]
 | .cb=>["fleet"]
 | .aQ=>["fleet","shovel"]
 | .cz=>["fleet"]
 | .eI=>["fleet","truck"]
 | .gG=>["fleet","truck"]
 | .dI=>["fleet","truck"]
 | .cM=>["fleet","call"]
 | .aN=>["fleet"]
 | .de=>["fleet","call"]
 | .bH=>["fleet","n"]
 | .cw=>["fleet","call"]
 | .aF=>["fleet","n"]
 | .tell=>["fleet","call"]
 | .aY=>["fleet","rule","n"]
 | .outcome=>["fleet"]
 | .cx=>["fleet","call"]
 | .bP=>["fleet","call"]
 | .cP=>["fleet","call"]
 | .replay=>["fleet","call"]
 | .cN=>["fleet","call"]
 | .cu=>["fleet","call"]
 | .aL=>["shovel"]
 | .cO=>["fleet","call"]
 | .di=>["fleet","call"]
 | .bX=>["fleet","call"]
 | .dg=>["fleet","call"]
 | .bY=>["fleet","call"]
 | .cv=>["fleet","call"]
 | .dh=>["fleet","call"]
 | .cQ=>["fleet","call"]
 | .dN=>["fleet","call"]
 | .show=>["fleet","call"]
 | .eK=>["self"]
 | .cK=>["mine","call"]
 | .cA=>["mine","call"]
 | .answers=>["calls"]
noncomputable def AS:Fn->Bool
 | .dE=>false
 | .eL=>false
 | .dC=>false
 | .cV=>false
 | .dD=>false
 | .eJ=>false
 | .dv=>false
 | .eO=>false
 | .cW=>false
 | .bJ=>false
 | .dP=>false
 | .aW=>false
 | .eK=>false
 | _=>true
noncomputable def cnm:Cn->Str
 | .Block=>"Block"
 | .Load=>"Load"
 | .Truck=>"Truck"
 | .fk=>"Shovel"
 | .Place=>"Place"
 | .Stop=>"Stop"
 | .Fleet=>"Fleet"
 | .Call=>"Call"
 | .Reader=>"Reader"
 | .iE=>"Mine"
noncomputable def ini:Cn->Fn
 | .Block=>.dE
 | .Load=>.eL
 | .Truck=>.dC
 | .fk=>.cV
 | .Place=>.dD
 | .Stop=>.eJ
 | .Fleet=>.dv
 | .Call=>.eO
 | .Reader=>.cW
 | .iE=>.eK
noncomputable def kH:Cn->List Str
 | .Block=>["number","kilograms","left","tipped","place"]
 | .Load=>["block","kilograms"]
 | .Truck=>["number","does","where","to_go","since","load","stopped","counted"]
 | .fk=>["number","loading","row","stopped","counted"]
 | .Place=>["number","tipping","loads","kilograms"]
 | .Stop=>["kind","which","since","until"]
 | .Fleet=>["carries","rule","rows","trucks","shovels","places","park","onward","back","told","blocks","stops","book","minute"]
 | .Call=>["number","plain","rows"]
 | .Reader=>["numbers","at"]
 | .iE=>["fleet"]
structure Ad where
 f:Fn->Addr
 fd:Fn->FuncData
 c:Cn->Addr
 i6:Addr
 gE:Addr
 nV:Addr
 j4:Addr
 fN:Addr
 iQ:Addr
 jB:Addr
 lV:Addr
 mV:Addr
 r8:Addr
noncomputable def fC (K:PySem.W.Frag) (a:Addr) (xs:List V):Prop:=∀ H,SqT K H a xs
structure Txt (K:PySem.W.Frag) (mg:Str->Option Value) (A:Ad):Prop where
 F:∀ x:Fn,Fun K (nm x) (ql x) (sm x) (A.f x) (A.fd x)
 g:∀ x:Fn,AS x=true->mg (nm x)=some (.ref (A.f x))
 mak:∀ c:Cn,Mk K (A.c c) (A.f (ini c))
 gc:∀ c:Cn,mg (cnm c)=some (.ref (A.c c))
 cl:∀ c:Cn,Cls K (A.c c)
 na:∀ (c:Cn) (f:Str),(kH c).contains f=true->dW K (A.c c) f
 bJ:Meth K (A.c .Reader) "has_more" (A.f .bJ)
 dP:Meth K (A.c .Reader) "take" (A.f .dP)
 aW:Meth K (A.c .Reader) "take_many" (A.f .aW)
 z4:mg "all" = none
 kr:mg "enumerate" = none
 dX:mg "len" = none
 x9:mg "min" = none
 kQ:mg "range" = none
 mm:mg "sum" = none
 x8:mg "zip" = none
 mv:∃ t,mg "FLEET_CALL" = some (.int 0 t)
 ui:∃ t,mg "PARK" = some (.int 0 t)
 p7:∃ t,mg "FREE" = some (.int 0 t)
 kC:∃ t,mg "TO_SHOVEL" = some (.int 1 t)
 kG:∃ t,mg "AT_SHOVEL" = some (.int 2 t)
 kF:∃ t,mg "LOADED" = some (.int 3 t)
 lQ:∃ t,mg "TO_PLACE" = some (.int 4 t)
 jA:∃ t,mg "AT_PLACE" = some (.int 5 t)
 uh:∃ t,mg "TIPS" = some (.int 6 t)
 qV:∃ t,mg "ENDED" = some (.int 7 t)
 jL:∃ t,mg "TRUCK_STOPPED" = some (.int 8 t)
 kD:∃ t,mg "SHOVEL_LOADS" = some (.int 0 t)
 jk:∃ t,mg "SHOVEL_STOPPED" = some (.int 1 t)
 fG:∃ t,mg "SHOVEL_WITHOUT_TRUCK" = some (.int 2 t)
 gL:∃ t,mg "SHOVEL_NOTHING_LEFT" = some (.int 3 t)
 jN:∃ t,mg "STOP_OF_TRUCK" = some (.int 0 t)
 lF:∃ t,mg "LAST_MINUTE" = some (.int 1440 t)
 lD:∃ t,mg "MOST_TRUCKS" = some (.int 8 t)
 lE:∃ t,mg "MOST_BLOCKS" = some (.int 20 t)
 mr:∃ t,mg "MOST_STOPS" = some (.int 20 t)
 jO:∃ t,mg "LINES_AT_ONCE" = some (.int 50 t)
 fB:∃ t,mg "NUMBERS_A_LINE" = some (.int 6 t)
 fj:∃ t,mg "DONE" = some (.int 0 t)
 kE:∃ t,mg "OUT_OF_RANGE" = some (.int (-1) t)
 fZ:∃ t,mg "NO_SUCH" = some (.int (-2) t)
 mw:∃ t,mg "BLOCK_TOLD" = some (.int (-3) t)
 lR:∃ t,mg "TOO_MANY" = some (.int (-4) t)
 ni:∃ t,mg "TOO_EARLY" = some (.int (-5) t)
 lT:∃ t,mg "TOO_LATE" = some (.int (-6) t)
 jb:∃ t,mg "LISTS_UNFIT" = some (.int (-7) t)
 oZ:∃ t,mg "NO_FLEET" = some (.int (-8) t)
 jM:mg "TELLING_CALLS" = some (.ref A.i6)
 jG:fC K A.i6 [.int 1,.int 2,.int 3]
 j0:mg "REPLAYING_CALLS" = some (.ref A.gE)
 iW:fC K A.gE [.int 14,.int 15,.int 16]
 sF:mg "COMING" = some (.ref A.nV)
 rP:fC K A.nV [.int 1,.int 2]
 lC:mg "WITH_SHOVEL" = some (.ref A.j4)
 lA:fC K A.j4 [.int 1,.int 2,.int 3]
 i5:mg "WITH_MINUTES_TO_GO" = some (.ref A.fN)
 hJ:fC K A.fN [.int 1,.int 3,.int 4,.int 6]
 iP:mg "PLAIN_RANGES" = some (.ref A.iQ)
 jz:mg "ROW_RANGES" = some (.ref A.jB)
 oY:mg "TELLINGS" = some (.ref A.lV)
 qa:mg "REPLAYS" = some (.ref A.mV)
 v5:mg "VIEWS" = some (.ref A.r8)
 jy:iS K A.lV [(1,.ref (A.f .cM)),(2,.ref (A.f .de)),(3,.ref (A.f .cw))]
 kR:iS K A.mV [(14,.ref (A.f .cx)),(15,.ref (A.f .bP)),(16,.ref (A.f .cP))]
 gn:iS K A.r8 [(4,.ref (A.f .cN)),(5,.ref (A.f .cu)),(6,.ref (A.f .cO)),(7,.ref (A.f .di)),(8,.ref (A.f .bX)),(9,.ref (A.f .dg)),(10,.ref (A.f .bY)),(11,.ref (A.f .cv)),(12,.ref (A.f .dh)),(13,.ref (A.f .cQ)),(17,.ref (A.f .dN))]
 qQ:∃ tb,iS K A.iQ tb/\∀ n:Int,0<=n->n<=17->∃ (a:Addr) (as:List Addr),tb.lookup n=some (.ref a)/\fC K a (as.map V.ref)/\as.length=(Mi.cj n).length/\∀ (j:Nat) (b:Addr) (e:Int×Int),as[j]? = some b->(Mi.cj n)[j]? = some e->fC K b [.int e.1,.int e.2]
 xk:∃ tb,iS K A.jB tb/\∀ n:Int,0<=n->n<=17->(tb.lookup n=none/\Mi.gk n=[])\/∃ (a:Addr) (as:List Addr),tb.lookup n=some (.ref a)/\fC K a (as.map V.ref)/\as.length=(Mi.gk n).length/\∀ (j:Nat) (b:Addr) (e:Int×Int×Int×Int),as[j]? = some b->(Mi.gk n)[j]? = some e->fC K b [.int e.1,.int e.2.1,.int e.2.2.1,.int e.2.2.2]
theorem nb1 {P:List Value->Prop} {us:List Value} (e:us.length=1) (h:∀ a,P [a]):P us:=match us,e with | [_],_=>h _
theorem nb2 {P:List Value->Prop} {us:List Value} (e:us.length=2) (h:∀ a b,P [a,b]):P us:=match us,e with | [_,_],_=>h _ _
theorem nb3 {P:List Value->Prop} {us:List Value} (e:us.length=3) (h:∀ a b c,P [a,b,c]):P us:=match us,e with | [_,_,_],_=>h _ _ _
theorem nb4 {P:List Value->Prop} {us:List Value} (e:us.length=4) (h:∀ a b c d,P [a,b,c,d]):P us:=match us,e with | [_,_,_,_],_=>h _ _ _ _
theorem nb5 {P:List Value->Prop} {us:List Value} (e:us.length=5) (h:∀ a b c d e,P [a,b,c,d,e]):P us:=match us,e with | [_,_,_,_,_],_=>h _ _ _ _ _
theorem nb6 {P:List Value->Prop} {us:List Value} (e:us.length=6) (h:∀ a b c d e f,P [a,b,c,d,e,f]):P us:=match us,e with | [_,_,_,_,_,_],_=>h _ _ _ _ _ _
theorem Txt.b {K:PySem.W.Frag} {mg:Str->Option Value} {A:Ad} (T:Txt K mg A) (x:Fn):Binds K (A.fd x) (ps x) []:=by
 cases x<;>refine (T.F _).binds fun _ _ _ _ _ _ us hl=>?_<;>first | exact nb1 (P:=fun u=>bindArgs _ ⟨u,[]⟩=pure ((ps _).zip u)) hl fun _=>rfl | exact nb2 (P:=fun u=>bindArgs _ ⟨u,[]⟩=pure ((ps _).zip u)) hl fun _ _=>rfl | exact nb3 (P:=fun u=>bindArgs _ ⟨u,[]⟩=pure ((ps _).zip u)) hl fun _ _ _=>rfl | exact nb4 (P:=fun u=>bindArgs _ ⟨u,[]⟩=pure ((ps _).zip u)) hl fun _ _ _ _=>rfl | exact nb5 (P:=fun u=>bindArgs _ ⟨u,[]⟩=pure ((ps _).zip u)) hl fun _ _ _ _ _=>rfl | exact nb6 (P:=fun u=>bindArgs _ ⟨u,[]⟩=pure ((ps _).zip u)) hl fun _ _ _ _ _ _=>rfl
theorem tV:aC ["self","number","kilograms","place"] ["self","number","kilograms","place"] (ao (sm .dE)):=⟨rfl,rfl,rfl,by decide +kernel,rfl,by decide +kernel,by decide +kernel⟩
theorem vE:aC ["self","block","kilograms"] ["self","block","kilograms"] (ao (sm .eL)):=⟨rfl,rfl,rfl,by decide +kernel,rfl,by decide +kernel,by decide +kernel⟩
theorem tT:aC ["self","number"] ["self","number"] (ao (sm .dC)):=⟨rfl,rfl,rfl,by decide +kernel,rfl,by decide +kernel,by decide +kernel⟩
theorem rM:aC ["self","number","loading"] ["self","number","loading"] (ao (sm .cV)):=⟨rfl,rfl,rfl,by decide +kernel,rfl,by decide +kernel,by decide +kernel⟩
theorem tU:aC ["self","number","tipping"] ["self","number","tipping"] (ao (sm .dD)):=⟨rfl,rfl,rfl,by decide +kernel,rfl,by decide +kernel,by decide +kernel⟩
theorem vC:aC ["self","kind","which","since","minutes"] ["self","kind","which","since","minutes"] (ao (sm .eJ)):=⟨rfl,rfl,rfl,by decide +kernel,rfl,by decide +kernel,by decide +kernel⟩
theorem fE:aC ["self","n","carries","rule","rows","k","loading","tipping"] ["self","n","carries","rule","rows"] (ao (sm .dv)):=⟨rfl,rfl,rfl,by decide +kernel,rfl,by decide +kernel,by decide +kernel⟩
theorem kW:aC ["fleet","kind"] ["fleet","kind"] (ao (sm .aJ)):=⟨rfl,rfl,rfl,by decide +kernel,rfl,by decide +kernel,by decide +kernel⟩
theorem k9:aC ["fleet","where","shovel"] ["fleet","where","shovel"] (ao (sm .aE)):=⟨rfl,rfl,rfl,by decide +kernel,rfl,by decide +kernel,by decide +kernel⟩
theorem kY:aC ["fleet","shovel","place"] ["fleet","shovel","place"] (ao (sm .aS)):=⟨rfl,rfl,rfl,by decide +kernel,rfl,by decide +kernel,by decide +kernel⟩
theorem j8:aC ["fleet","shovel","block"] ["fleet","shovel"] (ao (sm .bV)):=⟨rfl,rfl,rfl,by decide +kernel,rfl,by decide +kernel,by decide +kernel⟩
theorem i8:aC ["fleet","place"] ["fleet"] (ao (sm .aZ)):=⟨rfl,rfl,rfl,by decide +kernel,rfl,by decide +kernel,by decide +kernel⟩
theorem gh:aC ["fleet","place"] ["fleet"] (ao (sm .aK)):=⟨rfl,rfl,rfl,by decide +kernel,rfl,by decide +kernel,by decide +kernel⟩
theorem fg:aC ["fleet","shovel"] ["fleet"] (ao (sm .az)):=⟨rfl,rfl,rfl,by decide +kernel,rfl,by decide +kernel,by decide +kernel⟩
theorem ka:aC ["fleet","doings","where","truck"] ["fleet","doings","where"] (ao (sm .cg)):=⟨rfl,rfl,rfl,by decide +kernel,rfl,by decide +kernel,by decide +kernel⟩
theorem nr:aC ["truck"] ["truck"] (ao (sm .bG)):=⟨rfl,rfl,rfl,by decide +kernel,rfl,by decide +kernel,by decide +kernel⟩
theorem vF:aC ["self","number","plain","rows"] ["self","number","plain","rows"] (ao (sm .eO)):=⟨rfl,rfl,rfl,by decide +kernel,rfl,by decide +kernel,by decide +kernel⟩
theorem rN:aC ["self","numbers"] ["self","numbers"] (ao (sm .cW)):=⟨rfl,rfl,rfl,by decide +kernel,rfl,by decide +kernel,by decide +kernel⟩
theorem pD:aC ["self"] ["self"] (ao (sm .bJ)):=⟨rfl,rfl,rfl,by decide +kernel,rfl,by decide +kernel,by decide +kernel⟩
theorem vB:aC ["self"] ["self"] (ao (sm .dP)):=⟨rfl,rfl,rfl,by decide +kernel,rfl,by decide +kernel,by decide +kernel⟩
theorem oi:aC ["self","many"] ["self","many"] (ao (sm .aW)):=⟨rfl,rfl,rfl,by decide +kernel,rfl,by decide +kernel,by decide +kernel⟩
theorem gF:aC ["reader","number","plain","rows","k"] ["reader"] (ao (sm .dm)):=⟨rfl,rfl,rfl,by decide +kernel,rfl,by decide +kernel,by decide +kernel⟩
theorem eD:aC ["call","value","ends","row"] ["call"] (ao (sm .aU)):=⟨rfl,rfl,rfl,by decide +kernel,rfl,by decide +kernel,by decide +kernel⟩
theorem gO:aC ["row","ends","member"] ["row","ends"] (ao (sm .bO)):=⟨rfl,rfl,rfl,by decide +kernel,rfl,by decide +kernel,by decide +kernel⟩
theorem mJ:aC ["fleet","shovel"] ["fleet","shovel"] (ao (sm .bu)):=⟨rfl,rfl,rfl,by decide +kernel,rfl,by decide +kernel,by decide +kernel⟩
theorem gN:aC ["fleet","where","shovel","minutes","trucks"] ["fleet","where","shovel"] (ao (sm .bK)):=⟨rfl,rfl,rfl,by decide +kernel,rfl,by decide +kernel,by decide +kernel⟩
theorem gP:aC ["fleet","where","ranks","shovel"] ["fleet","where"] (ao (sm .bx)):=⟨rfl,rfl,rfl,by decide +kernel,rfl,by decide +kernel,by decide +kernel⟩
theorem kZ:aC ["fleet"] ["fleet"] (ao (sm .aT)):=⟨rfl,rfl,rfl,by decide +kernel,rfl,by decide +kernel,by decide +kernel⟩
theorem fJ:aC ["fleet","truck","shovel","stop","thing"] ["fleet"] (ao (sm .bZ)):=⟨rfl,rfl,rfl,by decide +kernel,rfl,by decide +kernel,by decide +kernel⟩
theorem rO:aC ["fleet","minute","truck","does","where","to_go"] ["fleet","minute","truck","does","where","to_go"] (ao (sm .bI)):=⟨rfl,rfl,rfl,by decide +kernel,rfl,by decide +kernel,by decide +kernel⟩
theorem ft:aC ["fleet","truck","shovel","minutes"] ["fleet"] (ao (sm .aR)):=⟨rfl,rfl,rfl,by decide +kernel,rfl,by decide +kernel,by decide +kernel⟩
theorem fV:aC ["fleet","does","where","first","truck"] ["fleet","does","where"] (ao (sm .bw)):=⟨rfl,rfl,rfl,by decide +kernel,rfl,by decide +kernel,by decide +kernel⟩
theorem gQ:aC ["fleet","place","truck"] ["fleet"] (ao (sm .bQ)):=⟨rfl,rfl,rfl,by decide +kernel,rfl,by decide +kernel,by decide +kernel⟩
theorem gR:aC ["fleet","shovel","truck"] ["fleet"] (ao (sm .bR)):=⟨rfl,rfl,rfl,by decide +kernel,rfl,by decide +kernel,by decide +kernel⟩
theorem qx:aC ["fleet","shovel"] ["fleet","shovel"] (ao (sm .cJ)):=⟨rfl,rfl,rfl,by decide +kernel,rfl,by decide +kernel,by decide +kernel⟩
theorem ju:aC ["fleet","shovel","block","load"] ["fleet","shovel"] (ao (sm .df)):=⟨rfl,rfl,rfl,by decide +kernel,rfl,by decide +kernel,by decide +kernel⟩
theorem i9:aC ["fleet","truck","shovel"] ["fleet"] (ao (sm .cb)):=⟨rfl,rfl,rfl,by decide +kernel,rfl,by decide +kernel,by decide +kernel⟩
theorem kX:aC ["fleet","shovel"] ["fleet","shovel"] (ao (sm .aQ)):=⟨rfl,rfl,rfl,by decide +kernel,rfl,by decide +kernel,by decide +kernel⟩
theorem k8:aC ["fleet","truck"] ["fleet"] (ao (sm .cz)):=⟨rfl,rfl,rfl,by decide +kernel,rfl,by decide +kernel,by decide +kernel⟩
theorem tS:aC ["fleet","truck"] ["fleet","truck"] (ao (sm .eI)):=⟨rfl,rfl,rfl,by decide +kernel,rfl,by decide +kernel,by decide +kernel⟩
theorem oj:aC ["fleet","truck","after","place"] ["fleet","truck"] (ao (sm .gG)):=⟨rfl,rfl,rfl,by decide +kernel,rfl,by decide +kernel,by decide +kernel⟩
theorem mZ:aC ["fleet","truck","place"] ["fleet","truck"] (ao (sm .dI)):=⟨rfl,rfl,rfl,by decide +kernel,rfl,by decide +kernel,by decide +kernel⟩
theorem eV:aC ["fleet","call","s","number","p","block","told","shovel"] ["fleet","call"] (ao (sm .cM)):=⟨rfl,rfl,rfl,by decide +kernel,rfl,by decide +kernel,by decide +kernel⟩
theorem hG:aC ["fleet","truck"] ["fleet"] (ao (sm .aN)):=⟨rfl,rfl,rfl,by decide +kernel,rfl,by decide +kernel,by decide +kernel⟩
theorem iB:aC ["fleet","call","kind","which","since"] ["fleet","call"] (ao (sm .de)):=⟨rfl,rfl,rfl,by decide +kernel,rfl,by decide +kernel,by decide +kernel⟩
theorem nu:aC ["fleet","n"] ["fleet","n"] (ao (sm .bH)):=⟨rfl,rfl,rfl,by decide +kernel,rfl,by decide +kernel,by decide +kernel⟩
theorem k7:aC ["fleet","call","n"] ["fleet","call"] (ao (sm .cw)):=⟨rfl,rfl,rfl,by decide +kernel,rfl,by decide +kernel,by decide +kernel⟩
theorem hE:aC ["fleet","n","k"] ["fleet","n"] (ao (sm .aF)):=⟨rfl,rfl,rfl,by decide +kernel,rfl,by decide +kernel,by decide +kernel⟩
theorem uA:aC ["fleet","call","answer"] ["fleet","call"] (ao (sm .tell)):=⟨rfl,rfl,rfl,by decide +kernel,rfl,by decide +kernel,by decide +kernel⟩
theorem i7:aC ["fleet","rule","n","anew","call"] ["fleet","rule","n"] (ao (sm .aY)):=⟨rfl,rfl,rfl,by decide +kernel,rfl,by decide +kernel,by decide +kernel⟩
theorem tQ:aC ["fleet"] ["fleet"] (ao (sm .outcome)):=⟨rfl,rfl,rfl,by decide +kernel,rfl,by decide +kernel,by decide +kernel⟩
theorem oh:aC ["fleet","call"] ["fleet","call"] (ao (sm .cx)):=⟨rfl,rfl,rfl,by decide +kernel,rfl,by decide +kernel,by decide +kernel⟩
theorem fW:aC ["fleet","call","most","n","without"] ["fleet","call"] (ao (sm .bP)):=⟨rfl,rfl,rfl,by decide +kernel,rfl,by decide +kernel,by decide +kernel⟩
theorem j7:aC ["fleet","call","n","anew"] ["fleet","call"] (ao (sm .cP)):=⟨rfl,rfl,rfl,by decide +kernel,rfl,by decide +kernel,by decide +kernel⟩
theorem vA:aC ["fleet","call"] ["fleet","call"] (ao (sm .replay)):=⟨rfl,rfl,rfl,by decide +kernel,rfl,by decide +kernel,by decide +kernel⟩
theorem j5:aC ["fleet","call","t","truck"] ["fleet","call"] (ao (sm .cN)):=⟨rfl,rfl,rfl,by decide +kernel,rfl,by decide +kernel,by decide +kernel⟩
theorem fQ:aC ["fleet","call","s","shovel","numbers","block"] ["fleet","call"] (ao (sm .cu)):=⟨rfl,rfl,rfl,by decide +kernel,rfl,by decide +kernel,by decide +kernel⟩
theorem gj:aC ["shovel","block"] ["shovel"] (ao (sm .aL)):=⟨rfl,rfl,rfl,by decide +kernel,rfl,by decide +kernel,by decide +kernel⟩
theorem j6:aC ["fleet","call","p","place"] ["fleet","call"] (ao (sm .cO)):=⟨rfl,rfl,rfl,by decide +kernel,rfl,by decide +kernel,by decide +kernel⟩
theorem iC:aC ["fleet","call","k","answer","line"] ["fleet","call"] (ao (sm .di)):=⟨rfl,rfl,rfl,by decide +kernel,rfl,by decide +kernel,by decide +kernel⟩
theorem jF:aC ["fleet","call","t"] ["fleet","call"] (ao (sm .bX)):=⟨rfl,rfl,rfl,by decide +kernel,rfl,by decide +kernel,by decide +kernel⟩
theorem m9:aC ["fleet","call","s"] ["fleet","call"] (ao (sm .dg)):=⟨rfl,rfl,rfl,by decide +kernel,rfl,by decide +kernel,by decide +kernel⟩
theorem dc:aC ["fleet","call","told","block","left","shovel","carried","truck"] ["fleet","call"] (ao (sm .bY)):=⟨rfl,rfl,rfl,by decide +kernel,rfl,by decide +kernel,by decide +kernel⟩
theorem iL:aC ["fleet","call","answer","block"] ["fleet","call"] (ao (sm .cv)):=⟨rfl,rfl,rfl,by decide +kernel,rfl,by decide +kernel,by decide +kernel⟩
theorem ma:aC ["fleet","call","where"] ["fleet","call"] (ao (sm .dh)):=⟨rfl,rfl,rfl,by decide +kernel,rfl,by decide +kernel,by decide +kernel⟩
theorem gZ:aC ["fleet","call","numbers","k","line"] ["fleet","call"] (ao (sm .cQ)):=⟨rfl,rfl,rfl,by decide +kernel,rfl,by decide +kernel,by decide +kernel⟩
theorem jZ:aC ["fleet","call","things","done"] ["fleet","call"] (ao (sm .dN)):=⟨rfl,rfl,rfl,by decide +kernel,rfl,by decide +kernel,by decide +kernel⟩
theorem yj:aC ["fleet","call"] ["fleet","call"] (ao (sm .show)):=⟨rfl,rfl,rfl,by decide +kernel,rfl,by decide +kernel,by decide +kernel⟩
theorem vD:aC ["self"] ["self"] (ao (sm .eK)):=⟨rfl,rfl,rfl,by decide +kernel,rfl,by decide +kernel,by decide +kernel⟩
theorem gY:aC ["mine","call","rows","shovels","ways"] ["mine","call"] (ao (sm .cK)):=⟨rfl,rfl,rfl,by decide +kernel,rfl,by decide +kernel,by decide +kernel⟩
theorem om:aC ["mine","call"] ["mine","call"] (ao (sm .cA)):=⟨rfl,rfl,rfl,by decide +kernel,rfl,by decide +kernel,by decide +kernel⟩
theorem iM:aC ["calls","mine","reader","given","answer"] ["calls"] (ao (sm .answers)):=⟨rfl,rfl,rfl,by decide +kernel,rfl,by decide +kernel,by decide +kernel⟩
end Ms
namespace Ms
open PySem PySem.Spec PyProof.Rows L2
inductive Ro where
 | fl | tL | sL | pL | told | bL | zL | book
 | trk (i:Nat) | tc (i:Nat) | ld (i:Nat)
 | shv (i:Nat) | row (i:Nat) | sc (i:Nat)
 | plc (i:Nat) | blk (j:Nat) | stp (j:Nat) | line (k:Nat)
 deriving DecidableEq
structure Pl where
 a:Ro->Addr
 d:Ro->Addr
 rows:Addr
 r0:Addr
 r1:Addr
 r2:Addr
 r3:Addr
 r4:Addr
 calls:List Addr
noncomputable def Pl.put (p:Pl) (r:Ro) (x dx:Addr):Pl:={p with a:=fun q=>if q=r then x else p.a q,d:=fun q=>if q=r then dx else p.d q}
theorem Pl.cp (p:Pl) (r:Ro) (x dx:Addr):(p.put r x dx).a r=x:=if_pos rfl
theorem Pl.aH (p:Pl) {r q:Ro} (x dx:Addr) (h:q≠r):(p.put r x dx).a q=p.a q:=if_neg h
theorem Pl.iI (p:Pl) (r:Ro) (x dx:Addr):(p.put r x dx).d r=dx:=if_pos rfl
theorem Pl.fX (p:Pl) {r q:Ro} (x dx:Addr) (h:q≠r):(p.put r x dx).d q=p.d q:=if_neg h
noncomputable def refs (p:Pl) (g:Nat->Ro) (n:Nat):List V:=(List.range n).map fun i=>V.ref (p.a (g i))
noncomputable def xB (p:Pl) (f:Mi.Flt):List (Str×V):=[("carries",.int f.carries),("rule",.int f.rule),("rows",.ref p.rows),("trucks",.ref (p.a .tL)),("shovels",.ref (p.a .sL)),("places",.ref (p.a .pL)),
 ("park",.ref p.r2),("onward",.ref p.r3),("back",.ref p.r4),("told",.ref (p.a .told)),("blocks",.ref (p.a .bL)),("stops",.ref (p.a .zL)),("book",.ref (p.a .book)),("minute",.int f.minute)]
noncomputable def oN (p:Pl) (i:Nat):Option (Nat×Int)->V
 | none=>.non
 | some _=>.ref (p.a (.ld i))
noncomputable def pA (i:Nat) (t:Mi.Trk) (l:V) (c:Addr):List (Str×V):=[("number",.int ((i:Int)+1)),("does",.int t.does),("where",.int t.at_),("to_go",.int t.go),("since",.int t.since),("load",l),("stopped",.bl t.stop),("counted",.ref c)]
noncomputable def ldF (b:Addr) (k:Int):List (Str×V):=[("block",.ref b),("kilograms",.int k)]
noncomputable def tN (i:Nat) (s:Mi.Shv) (r c:Addr):List (Str×V):=[("number",.int ((i:Int)+1)),("loading",.int s.time),("row",.ref r),("stopped",.bl s.stop),("counted",.ref c)]
noncomputable def vI (i:Nat) (s:Mi.Plc):List (Str×V):=[("number",.int ((i:Int)+1)),("tipping",.int s.time),("loads",.int s.loads),("kilograms",.int s.bU)]
noncomputable def pO (b:Mi.Blk):List (Str×V):=[("number",.int b.number),("kilograms",.int b.bU),("left",.int b.left),("tipped",.int b.tipped),("place",.int b.place)]
noncomputable def y6 (z:Mi.Stp):List (Str×V):=[("kind",.int z.kind),("which",.int z.which),("since",.int z.since),("until",.int z.until_)]
noncomputable def kM (n:Int) (pa ra:Addr):List (Str×V):=[("number",.int n),("plain",.ref pa),("rows",.ref ra)]
noncomputable def obj (A:Ad) (p:Pl) (f:Mi.Flt):Ro->Option HO
 | .fl=>some (.ins (A.c .Fleet) (p.d .fl) (xB p f))
 | .tL=>some (.lst (refs p .trk f.aq.length))
 | .sL=>some (.lst (refs p .shv f.au.length))
 | .pL=>some (.lst (refs p .plc f.br.length))
 | .told=>some (.lst (p.calls.map V.ref))
 | .bL=>some (.lst (refs p .blk f.aA.length))
 | .zL=>some (.lst (refs p .stp f.cI.length))
 | .book=>some (.lst (refs p .line f.book.length))
 | .trk i=>f.aq[i]?.map fun t=>.ins (A.c .Truck) (p.d (.trk i)) (pA i t (oN p i t.load) (p.a (.tc i)))
 | .tc i=>f.aq[i]?.map fun t=>.lst (t.cnt.map V.int)
 | .ld i=>f.aq[i]?.bind fun t=>t.load.map fun l=>.ins (A.c .Load) (p.d (.ld i)) (ldF (p.a (.blk l.1)) l.2)
 | .shv i=>f.au[i]?.map fun s=>.ins (A.c .fk) (p.d (.shv i)) (tN i s (p.a (.row i)) (p.a (.sc i)))
 | .row i=>f.au[i]?.map fun s=>.lst (s.row.map fun j=>V.ref (p.a (.blk j)))
 | .sc i=>f.au[i]?.map fun s=>.lst (s.cnt.map V.int)
 | .plc i=>f.br[i]?.map fun q=>.ins (A.c .Place) (p.d (.plc i)) (vI i q)
 | .blk j=>f.aA[j]?.map fun b=>.ins (A.c .Block) (p.d (.blk j)) (pO b)
 | .stp j=>f.cI[j]?.map fun z=>.ins (A.c .Stop) (p.d (.stp j)) (y6 z)
 | .line k=>f.book[k]?.map fun l=>.lst (l.map V.int)
noncomputable def jE (A:Ad) (H:Hp) (a:Addr) (c:Int×List Int):Prop:=∃ dx pa ra,H a=some (.ins (A.c .Call) dx (kM c.1 pa ra))/\H pa=some (.lst (c.2.map V.int))
structure Ex (A:Ad) (p:Pl) (f:Mi.Flt) (H:Hp):Prop where
 rows:H p.rows=some (.lst [.ref p.r0,.ref p.r1,.ref p.r2,.ref p.r3,.ref p.r4])
 h0:H p.r0=some (.lst (f.r0.map V.int))
 h1:H p.r1=some (.lst (f.r1.map V.int))
 h2:H p.r2=some (.lst (f.park.map V.int))
 h3:H p.r3=some (.lst (f.onw.map V.int))
 h4:H p.r4=some (.lst (f.back.map V.int))
 cl:p.calls.length=f.told.length
 call:∀ (k:Nat) (a:Addr) (c:Int×List Int),p.calls[k]? = some a->f.told[k]? = some c->jE A H a c
structure dA (A:Ad) (p:Pl) (f:Mi.Flt) (H:Hp):Prop where
 own:∀ r o,obj A p f r=some o->H (p.a r)=some o
 ex:Ex A p f H
structure Rep (A:Ad) (p:Pl) (f:Mi.Flt) (B H:Hp):Prop where
 own:∀ r o,obj A p f r=some o->H (p.a r)=some o
 inj:∀ r q,(obj A p f r).isSome=true->(obj A p f q).isSome=true->p.a r=p.a q->r=q
 frame:aV B H
 iT:∀ r,(obj A p f r).isSome=true->B (p.a r)=none
 ex:Ex A p f B
theorem jE.same {A:Ad} {H H':Hp} {a:Addr} {c:Int×List Int} (s:aV H H') (h:jE A H a c):jE A H' a c:=by
 obtain ⟨dx,pa,ra,h1,h2⟩:=h
 exact ⟨dx,pa,ra,s _ _ h1,s _ _ h2⟩
theorem Ex.same {A:Ad} {p:Pl} {f:Mi.Flt} {H H':Hp} (s:aV H H') (e:Ex A p f H):Ex A p f H':=
 ⟨s _ _ e.rows,s _ _ e.h0,s _ _ e.h1,s _ _ e.h2,s _ _ e.h3,s _ _ e.h4,e.cl,fun k a c h1 h2=>(e.call k a c h1 h2).same s⟩
theorem dA.same {A:Ad} {p:Pl} {f:Mi.Flt} {H H':Hp} (s:aV H H') (e:dA A p f H):dA A p f H':=⟨fun r o h=>s _ _ (e.own r o h),e.ex.same s⟩
section
variable {A:Ad} {p:Pl} {f f':Mi.Flt} {B H H':Hp}
theorem Rep.sees (R:Rep A p f B H):dA A p f H:=⟨R.own,R.ex.same R.frame⟩
theorem Rep.same (R:Rep A p f B H) (s:aV H H'):Rep A p f B H':=⟨fun r o h=>s _ _ (R.own r o h),R.inj,R.frame.trans s,R.iT,R.ex⟩
theorem Rep.ne (R:Rep A p f B H) {r q:Ro} (hr:(obj A p f r).isSome=true) (hq:(obj A p f q).isSome=true) (h:r≠q):p.a r≠p.a q:=fun e=>h (R.inj r q hr hq e)
theorem Rep.write (R:Rep A p f B H) (r:Ro) (o:HO) (hl:(obj A p f r).isSome=true) (hr:obj A p f' r=some o) (hs:∀ q,q≠r->∀ u,obj A p f' q=some u->obj A p f q=some u) (he:Ex A p f' B):Rep A p f' B (upd H (p.a r) o):=by
 have lv:∀ q,(obj A p f' q).isSome=true->(obj A p f q).isSome=true:=fun q h=>by
  by_cases e:q=r
  ·rw [e];exact hl
  ·obtain ⟨u,hu⟩:=Option.isSome_iff_exists.mp h
   rw [hs q e u hu];rfl
 refine ⟨fun q u h=>?_,fun a b ha hb=>R.inj a b (lv a ha) (lv b hb),fun b u h=>?_,fun q h=>R.iT q (lv q h),he⟩
 ·by_cases e:q=r
  ·subst e;rw [hr] at h;cases h;exact aj
  ·have h2:=hs q e u h
   rw [ax (R.ne (by rw [h2];rfl) hl e)]
   exact R.own q u h2
 ·have:b≠p.a r:=fun e=>by rw [e,R.iT r hl] at h;cases h
  rw [ax this];exact R.frame b u h
theorem Rep.put2 (R:Rep A p f B H) {r q0:Ro} {x dx:Addr} {o o0:HO} (hx:H x=some o) (hn:∀ q,(obj A p f q).isSome=true->p.a q≠x) (hB:B x=none) (hq:(obj A p f q0).isSome=true) (hqr:q0≠r)
  (h1:obj A (p.put r x dx) f' r=some o) (h2:obj A (p.put r x dx) f' q0=some o0) (hs:∀ q,q≠r->q≠q0->∀ u,obj A (p.put r x dx) f' q=some u->obj A p f q=some u) (he:Ex A (p.put r x dx) f' B) :
  Rep A (p.put r x dx) f' B (upd H (p.a q0) o0):=by
 have lv:∀ q,q≠r->(obj A (p.put r x dx) f' q).isSome=true->(obj A p f q).isSome=true:=fun q e h=>by
  by_cases e2:q=q0
  ·rw [e2];exact hq
  ·obtain ⟨u,hu⟩:=Option.isSome_iff_exists.mp h
   rw [hs q e e2 u hu];rfl
 refine ⟨fun q u h=>?_,fun a b ha hb=>?_,fun b u h=>?_,fun q h=>?_,he⟩
 ·by_cases e:q=r
  ·subst e;rw [h1] at h;cases h
   rw [Pl.cp,ax (fun z=>hn q0 hq z.symm)];exact hx
  ·rw [Pl.aH _ _ _ e]
   by_cases e2:q=q0
   ·subst e2;rw [h2] at h;cases h;exact aj
   ·have h3:=hs q e e2 u h
    rw [ax (R.ne (by rw [h3];rfl) hq e2)]
    exact R.own q u h3
 ·by_cases ea:a=r
  ·by_cases eb:b=r
   ·intro _;rw [ea,eb]
   ·rw [ea,Pl.cp,Pl.aH _ _ _ eb];intro z
    exact absurd z.symm (hn b (lv b eb hb))
  ·by_cases eb:b=r
   ·rw [eb,Pl.cp,Pl.aH _ _ _ ea];intro z
    exact absurd z (hn a (lv a ea ha))
   ·rw [Pl.aH _ _ _ ea,Pl.aH _ _ _ eb];exact R.inj a b (lv a ea ha) (lv b eb hb)
 ·have:b≠p.a q0:=fun e=>by rw [e,R.iT q0 hq] at h;cases h
  rw [ax this];exact R.frame b u h
 ·by_cases e:q=r
  ·rw [e,Pl.cp];exact hB
  ·rw [Pl.aH _ _ _ e];exact R.iT q (lv q e h)
theorem Rep.fresh (R:Rep A p f B H) {x:Addr} (hx:H x=none):(∀ q,(obj A p f q).isSome=true->p.a q≠x)/\B x=none:=by
 refine ⟨fun q h e=>?_,R.frame.free hx⟩
 obtain ⟨u,hu⟩:=Option.isSome_iff_exists.mp h
 have:=R.own q u hu
 rw [e,hx] at this;cases this
theorem dA.fl (S:dA A p f H):H (p.a .fl)=some (.ins (A.c .Fleet) (p.d .fl) (xB p f)):=S.own .fl _ rfl
theorem dA.tL (S:dA A p f H):H (p.a .tL)=some (.lst (refs p .trk f.aq.length)):=S.own .tL _ rfl
theorem dA.sL (S:dA A p f H):H (p.a .sL)=some (.lst (refs p .shv f.au.length)):=S.own .sL _ rfl
theorem dA.pL (S:dA A p f H):H (p.a .pL)=some (.lst (refs p .plc f.br.length)):=S.own .pL _ rfl
theorem dA.told (S:dA A p f H):H (p.a .told)=some (.lst (p.calls.map V.ref)):=S.own .told _ rfl
theorem dA.bL (S:dA A p f H):H (p.a .bL)=some (.lst (refs p .blk f.aA.length)):=S.own .bL _ rfl
theorem dA.zL (S:dA A p f H):H (p.a .zL)=some (.lst (refs p .stp f.cI.length)):=S.own .zL _ rfl
theorem dA.book (S:dA A p f H):H (p.a .book)=some (.lst (refs p .line f.book.length)):=S.own .book _ rfl
theorem dA.trk (S:dA A p f H) {i:Nat} {t:Mi.Trk} (h:f.aq[i]? = some t):H (p.a (.trk i))=some (.ins (A.c .Truck) (p.d (.trk i)) (pA i t (oN p i t.load) (p.a (.tc i)))):=S.own (.trk i) _ (by show f.aq[i]?.map _=_;rw [h];rfl)
theorem dA.tc (S:dA A p f H) {i:Nat} {t:Mi.Trk} (h:f.aq[i]? = some t):H (p.a (.tc i))=some (.lst (t.cnt.map V.int)):=S.own (.tc i) _ (by show f.aq[i]?.map _=_;rw [h];rfl)
theorem dA.ld (S:dA A p f H) {i:Nat} {t:Mi.Trk} {l:Nat×Int} (h:f.aq[i]? = some t) (hl:t.load=some l):H (p.a (.ld i))=some (.ins (A.c .Load) (p.d (.ld i)) (ldF (p.a (.blk l.1)) l.2)):=S.own (.ld i) _ (by show f.aq[i]?.bind _=_;rw [h];show t.load.map _=_;rw [hl];rfl)
theorem dA.shv (S:dA A p f H) {i:Nat} {s:Mi.Shv} (h:f.au[i]? = some s):H (p.a (.shv i))=some (.ins (A.c .fk) (p.d (.shv i)) (tN i s (p.a (.row i)) (p.a (.sc i)))):=S.own (.shv i) _ (by show f.au[i]?.map _=_;rw [h];rfl)
theorem dA.row (S:dA A p f H) {i:Nat} {s:Mi.Shv} (h:f.au[i]? = some s):H (p.a (.row i))=some (.lst (s.row.map fun j=>V.ref (p.a (.blk j)))):=S.own (.row i) _ (by show f.au[i]?.map _=_;rw [h];rfl)
theorem dA.sc (S:dA A p f H) {i:Nat} {s:Mi.Shv} (h:f.au[i]? = some s):H (p.a (.sc i))=some (.lst (s.cnt.map V.int)):=S.own (.sc i) _ (by show f.au[i]?.map _=_;rw [h];rfl)
theorem dA.plc (S:dA A p f H) {i:Nat} {s:Mi.Plc} (h:f.br[i]? = some s):H (p.a (.plc i))=some (.ins (A.c .Place) (p.d (.plc i)) (vI i s)):=S.own (.plc i) _ (by show f.br[i]?.map _=_;rw [h];rfl)
theorem dA.blk (S:dA A p f H) {i:Nat} {s:Mi.Blk} (h:f.aA[i]? = some s):H (p.a (.blk i))=some (.ins (A.c .Block) (p.d (.blk i)) (pO s)):=S.own (.blk i) _ (by show f.aA[i]?.map _=_;rw [h];rfl)
theorem dA.stp (S:dA A p f H) {i:Nat} {s:Mi.Stp} (h:f.cI[i]? = some s):H (p.a (.stp i))=some (.ins (A.c .Stop) (p.d (.stp i)) (y6 s)):=S.own (.stp i) _ (by show f.cI[i]?.map _=_;rw [h];rfl)
theorem dA.line (S:dA A p f H) {i:Nat} {s:List Int} (h:f.book[i]? = some s):H (p.a (.line i))=some (.lst (s.map V.int)):=S.own (.line i) _ (by show f.book[i]?.map _=_;rw [h];rfl)
theorem qA {g:Nat->Ro} {n i:Nat} (h:i < n):(refs p g n)[i]? = some (V.ref (p.a (g i))):=by
 unfold refs
 rw [List.getElem?_map,List.getElem?_range h];rfl
theorem aI {g:Nat->Ro} {n:Nat}:(refs p g n).length=n:=by unfold refs;simp
theorem f7 {g:Nat->Ro} {n i:Nat} {x:V} (h:(refs p g n)[i]? = some x):i < n/\x=V.ref (p.a (g i)):=by
 have hi:i < n:=by
  have:=(List.getElem?_eq_some_iff.mp h).1
  rwa [aI] at this
 rw [qA hi] at h
 exact ⟨hi,(Option.some.inj h).symm⟩
theorem iH {g:Nat->Ro} {n:Nat}:refs p g (n+1)=refs p g n++[V.ref (p.a (g n))]:=by
 unfold refs;rw [List.range_succ,List.map_append];rfl
end
end Ms
namespace Mi
structure TOk (ns np nb:Nat) (t:Trk):Prop where
 d0:0<=t.does
 d7:t.does<=7
 cnt:t.cnt.length=9
 w0:t.does=0\/t.does=7->0<=t.at_/\t.at_<=(np:Int)
 w1:t.does=1\/t.does=2\/t.does=3->1<=t.at_/\t.at_<=(ns:Int)
 w4:t.does=4\/t.does=5\/t.does=6->1<=t.at_/\t.at_<=(np:Int)
 l3:t.does=3\/t.does=4\/t.does=5\/t.does=6->t.load.isSome=true
 l:∀ x,t.load=some x->x.1 < nb
structure SOk (nb:Nat) (s:Shv):Prop where
 cnt:s.cnt.length=4
 row:∀ j ∈ s.row,j < nb
 len:s.row.length<=nb
 t1:1<=s.time
 t2:s.time<=60
structure ZOk (nt ns:Nat) (z:Stp):Prop where
 k:(z.kind=0/\1<=z.which/\z.which<=(nt:Int))\/(z.kind=1/\1<=z.which/\z.which<=(ns:Int))
structure WF (n:Nat) (f:Flt):Prop where
 c1:1<=f.carries
 c2:f.carries<=1000000
 t1:1<=f.aq.length
 t2:f.aq.length<=8
 s1:1<=f.au.length
 s2:f.au.length<=3
 p1:1<=f.br.length
 p2:f.br.length<=3
 park:f.park.length=f.au.length
 onw:f.onw.length=f.au.length*f.br.length
 back:f.back.length=f.au.length*f.br.length
 trk:∀ t ∈ f.aq,TOk f.au.length f.br.length f.aA.length t
 shv:∀ s ∈ f.au,SOk f.aA.length s
 blk:∀ b ∈ f.aA,1<=b.place/\b.place<=(f.br.length:Int)
 stp:∀ z ∈ f.cI,ZOk f.aq.length f.au.length z
 b20:f.aA.length<=20
 z20:f.cI.length<=20
 m0:0<=f.minute
 bk:f.book.length<=n
 ln:∀ l ∈ f.book,l.length=6
theorem WF.aa {n:Nat} {f:Flt} (w:WF n f) {i:Nat} (h:i < f.aq.length):TOk f.au.length f.br.length f.aA.length (aa f i):=w.trk _ (by unfold Mi.aa;simp [List.getD,h])
theorem WF.ai {n:Nat} {f:Flt} (w:WF n f) {i:Nat} (h:i < f.au.length):SOk f.aA.length (ai f i):=w.shv _ (by unfold Mi.ai;simp [List.getD,h])
theorem WF.ak {n:Nat} {f:Flt} (w:WF n f) {i:Nat} (h:i < f.aA.length):1<=(ak f i).place/\(ak f i).place<=(f.br.length:Int):=w.blk _ (by unfold Mi.ak;simp [List.getD,h])
end Mi
namespace Ms
open PySem PySem.Spec PyProof.Rows L2
section
variable {A:Ad} {p:Pl} {f f':Mi.Flt} {B H H':Hp}
theorem Ex.cast (e:Ex A p f H) (h0:f'.r0=f.r0) (h1:f'.r1=f.r1) (h2:f'.park=f.park) (h3:f'.onw=f.onw) (h4:f'.back=f.back) (h5:f'.told=f.told):Ex A p f' H:=
 ⟨e.rows,by rw [h0];exact e.h0,by rw [h1];exact e.h1,by rw [h2];exact e.h2,by rw [h3];exact e.h3,by rw [h4];exact e.h4,by rw [h5];exact e.cl,by rw [h5];exact e.call⟩
theorem Ex.put (e:Ex A p f H) (r:Ro) (x dx:Addr):Ex A (p.put r x dx) f H:=⟨e.rows,e.h0,e.h1,e.h2,e.h3,e.h4,e.cl,e.call⟩
theorem eC {α:Type} {l:List α} {i:Nat} {t t':α} (h:l[i]? = some t):(l.set i t')[i]? = some t':=List.getElem?_set_self (List.getElem?_eq_some_iff.mp h).1
theorem fM {α:Type} {l:List α} {i j:Nat} {t':α} (h:j≠i):(l.set i t')[j]? = l[j]?:=List.getElem?_set_ne (Ne.symm h)
theorem Rep.trk (R:Rep A p f B H) {i:Nat} {t t':Mi.Trk} (ht:f.aq[i]? = some t) (hc:t'.cnt=t.cnt) (hl:t'.load=t.load\/t'.load=none) :
  Rep A p (Mi.aX f i t') B (upd H (p.a (.trk i)) (.ins (A.c .Truck) (p.d (.trk i)) (pA i t' (oN p i t'.load) (p.a (.tc i))))):=by
 refine R.write (.trk i) _ ?_ ?_ (fun q hq u h=>?_) (R.ex.cast rfl rfl rfl rfl rfl rfl)
 ·show (f.aq[i]?.map _).isSome=true;rw [ht];rfl
 ·show ((f.aq.set i t')[i]?).map _=_;rw [eC ht];rfl
 ·cases q with
  | trk j=>
    have hj:j≠i:=fun z=>hq (by rw [z])
    have h:((f.aq.set i t')[j]?).map _=some u:=h
    rw [fM hj] at h;exact h
  | tc j=>
    have h:((f.aq.set i t')[j]?).map _=some u:=h
    by_cases hj:j=i
    ·subst hj
     rw [eC ht] at h
     show (f.aq[j]?).map _=some u
     rw [ht,<-h];simp [hc]
    ·rw [fM hj] at h;exact h
  | ld j=>
    have h:((f.aq.set i t')[j]?).bind _=some u:=h
    by_cases hj:j=i
    ·subst hj
     rw [eC ht] at h
     show (f.aq[j]?).bind _=some u
     rcases hl with hl | hl
     ·rw [ht,<-h];simp [hl]
     ·simp [hl] at h
    ·rw [fM hj] at h;exact h
  | tL=>
    have h:some (HO.lst (refs p Ro.trk (f.aq.set i t').length))=some u:=h
    rw [List.length_set] at h;exact h
  | _=>exact h
theorem Rep.tc (R:Rep A p f B H) {i:Nat} {t:Mi.Trk} (ht:f.aq[i]? = some t) (c:List Int) :
  Rep A p (Mi.aX f i {t with cnt:=c}) B (upd H (p.a (.tc i)) (.lst (c.map V.int))):=by
 refine R.write (.tc i) _ ?_ ?_ (fun q hq u h=>?_) (R.ex.cast rfl rfl rfl rfl rfl rfl)
 ·show (f.aq[i]?.map _).isSome=true;rw [ht];rfl
 ·show ((f.aq.set i _)[i]?).map _=_;rw [eC ht];rfl
 ·cases q with
  | tc j=>
    have hj:j≠i:=fun z=>hq (by rw [z])
    have h:((f.aq.set i {t with cnt:=c})[j]?).map _=some u:=h
    rw [fM hj] at h;exact h
  | trk j=>
    have h:((f.aq.set i {t with cnt:=c})[j]?).map _=some u:=h
    by_cases hj:j=i
    ·subst hj
     rw [eC ht] at h
     show (f.aq[j]?).map _=some u
     rw [ht];exact h
    ·rw [fM hj] at h;exact h
  | ld j=>
    have h:((f.aq.set i {t with cnt:=c})[j]?).bind _=some u:=h
    by_cases hj:j=i
    ·subst hj
     rw [eC ht] at h
     show (f.aq[j]?).bind _=some u
     rw [ht];exact h
    ·rw [fM hj] at h;exact h
  | tL=>
    have h:some (HO.lst (refs p Ro.trk (f.aq.set i {t with cnt:=c}).length))=some u:=h
    rw [List.length_set] at h;exact h
  | _=>exact h
theorem Rep.zu (R:Rep A p f B H) {i:Nat} {s s':Mi.Shv} {r:Ro} {o:HO} (hs:f.au[i]? = some s) (hr:r=.shv i\/r=.row i\/r=.sc i) (ho:obj A p (Mi.cZ f i s') r=some o)
  (h1:r≠.shv i->s'.time=s.time/\s'.stop=s.stop) (h2:r≠.row i->s'.row=s.row) (h3:r≠.sc i->s'.cnt=s.cnt) :
  Rep A p (Mi.cZ f i s') B (upd H (p.a r) o):=by
 refine R.write r o ?_ ho (fun q hq u h=>?_) (R.ex.cast rfl rfl rfl rfl rfl rfl)
 ·rcases hr with rfl | rfl | rfl
  ·show (f.au[i]?.map _).isSome=true;rw [hs];rfl
  ·show (f.au[i]?.map _).isSome=true;rw [hs];rfl
  ·show (f.au[i]?.map _).isSome=true;rw [hs];rfl
 ·cases q with
  | shv j=>
    have h:((f.au.set i s')[j]?).map _=some u:=h
    by_cases hj:j=i
    ·subst hj
     rw [eC hs] at h
     show (f.au[j]?).map _=some u
     have:=h1 (Ne.symm hq)
     rw [hs,<-h];simp [tN,this]
    ·rw [fM hj] at h;exact h
  | row j=>
    have h:((f.au.set i s')[j]?).map _=some u:=h
    by_cases hj:j=i
    ·subst hj
     rw [eC hs] at h
     show (f.au[j]?).map _=some u
     rw [hs,<-h];simp [h2 (Ne.symm hq)]
    ·rw [fM hj] at h;exact h
  | sc j=>
    have h:((f.au.set i s')[j]?).map _=some u:=h
    by_cases hj:j=i
    ·subst hj
     rw [eC hs] at h
     show (f.au[j]?).map _=some u
     rw [hs,<-h];simp [h3 (Ne.symm hq)]
    ·rw [fM hj] at h;exact h
  | sL=>
    have h:some (HO.lst (refs p Ro.shv (f.au.set i s').length))=some u:=h
    rw [List.length_set] at h;exact h
  | _=>exact h
theorem Rep.shv (R:Rep A p f B H) {i:Nat} {s s':Mi.Shv} (hs:f.au[i]? = some s) (h2:s'.row=s.row) (h3:s'.cnt=s.cnt) :
  Rep A p (Mi.cZ f i s') B (upd H (p.a (.shv i)) (.ins (A.c .fk) (p.d (.shv i)) (tN i s' (p.a (.row i)) (p.a (.sc i))))):=
 R.zu hs (.inl rfl) (by show ((f.au.set i s')[i]?).map _=_;rw [eC hs];rfl) (fun z=>absurd rfl z) (fun _=>h2) (fun _=>h3)
theorem Rep.row (R:Rep A p f B H) {i:Nat} {s:Mi.Shv} (hs:f.au[i]? = some s) (l:List Nat) :
  Rep A p (Mi.cZ f i {s with row:=l}) B (upd H (p.a (.row i)) (.lst (l.map fun j=>V.ref (p.a (.blk j))))):=
 R.zu hs (.inr (.inl rfl)) (by show ((f.au.set i _)[i]?).map _=_;rw [eC hs];rfl) (fun _=>⟨rfl,rfl⟩) (fun z=>absurd rfl z) (fun _=>rfl)
theorem Rep.sc (R:Rep A p f B H) {i:Nat} {s:Mi.Shv} (hs:f.au[i]? = some s) (c:List Int) :
  Rep A p (Mi.cZ f i {s with cnt:=c}) B (upd H (p.a (.sc i)) (.lst (c.map V.int))):=
 R.zu hs (.inr (.inr rfl)) (by show ((f.au.set i _)[i]?).map _=_;rw [eC hs];rfl) (fun _=>⟨rfl,rfl⟩) (fun _=>rfl) (fun z=>absurd rfl z)
theorem Rep.plc (R:Rep A p f B H) {i:Nat} {s:Mi.Plc} (hs:f.br[i]? = some s) (s':Mi.Plc) :
  Rep A p (Mi.fA f i s') B (upd H (p.a (.plc i)) (.ins (A.c .Place) (p.d (.plc i)) (vI i s'))):=by
 refine R.write (.plc i) _ ?_ ?_ (fun q hq u h=>?_) (R.ex.cast rfl rfl rfl rfl rfl rfl)
 ·show (f.br[i]?.map _).isSome=true;rw [hs];rfl
 ·show ((f.br.set i _)[i]?).map _=_;rw [eC hs];rfl
 ·cases q with
  | plc j=>
    have hj:j≠i:=fun z=>hq (by rw [z])
    have h:((f.br.set i s')[j]?).map _=some u:=h
    rw [fM hj] at h;exact h
  | pL=>
    have h:some (HO.lst (refs p Ro.plc (f.br.set i s').length))=some u:=h
    rw [List.length_set] at h;exact h
  | _=>exact h
theorem Rep.blk (R:Rep A p f B H) {i:Nat} {s:Mi.Blk} (hs:f.aA[i]? = some s) (s':Mi.Blk) :
  Rep A p (Mi.dS f i s') B (upd H (p.a (.blk i)) (.ins (A.c .Block) (p.d (.blk i)) (pO s'))):=by
 refine R.write (.blk i) _ ?_ ?_ (fun q hq u h=>?_) (R.ex.cast rfl rfl rfl rfl rfl rfl)
 ·show (f.aA[i]?.map _).isSome=true;rw [hs];rfl
 ·show ((f.aA.set i _)[i]?).map _=_;rw [eC hs];rfl
 ·cases q with
  | blk j=>
    have hj:j≠i:=fun z=>hq (by rw [z])
    have h:((f.aA.set i s')[j]?).map _=some u:=h
    rw [fM hj] at h;exact h
  | bL=>
    have h:some (HO.lst (refs p Ro.blk (f.aA.set i s').length))=some u:=h
    rw [List.length_set] at h;exact h
  | _=>exact h
theorem Rep.min (R:Rep A p f B H) (m:Int):Rep A p {f with minute:=m} B (upd H (p.a .fl) (.ins (A.c .Fleet) (p.d .fl) (xB p {f with minute:=m}))):=by
 refine R.write .fl _ rfl rfl (fun q hq u h=>?_) (R.ex.cast rfl rfl rfl rfl rfl rfl)
 cases q with
 | fl=>exact absurd rfl hq
 | _=>exact h
theorem jt {α:Type} {l:List α} {x:α}:(l++[x])[l.length]? = some x:=by simp
theorem iJ {α:Type} {l:List α} {x u:α} {j:Nat} (hj:j≠l.length) (h:(l++[x])[j]? = some u):l[j]? = some u:=by
 have h1:=(List.getElem?_eq_some_iff.mp h).1
 simp at h1
 rw [List.getElem?_append_left (by omega)] at h;exact h
theorem bT {g:Nat->Ro} {n:Nat} {r:Ro} {x dx:Addr} (h:∀ i,i < n->g i≠r):refs (p.put r x dx) g n=refs p g n:=by
 unfold refs
 refine List.map_congr_left fun i hi=>?_
 rw [Pl.aH _ _ _ (h i (List.mem_range.mp hi))]
theorem dM {α β:Type} {o:Option α} {g:α->β} {u:β} (h:o.map g=some u):∃ y,o=some y/\g y=u:=by
 cases o with
 | none=>cases h
 | some y=>exact ⟨y,rfl,Option.some.inj h⟩
theorem Rep.line (R:Rep A p f B H) {x:Addr} {l:List Int} (hx:H x=some (.lst (l.map V.int))) (hn:∀ q,(obj A p f q).isSome=true->p.a q≠x) (hB:B x=none) :
  Rep A (p.put (.line f.book.length) x 0) {f with book:=f.book++[l]} B (upd H (p.a .book) (.lst (refs p .line f.book.length++[V.ref x]))):=by
 refine R.put2 hx hn hB (q0:=.book) rfl (by intro z;cases z) ?_ ?_ (fun q h1 h2 u h=>?_) ((R.ex.put _ _ _).cast rfl rfl rfl rfl rfl rfl)
 ·show (f.book++[l])[f.book.length]?.map _=_;rw [jt];rfl
 ·show some (HO.lst (refs _ Ro.line (f.book++[l]).length))=_
  rw [List.length_append,List.length_singleton,iH,Pl.cp,bT]
  intro i hi z;cases z;omega
 ·cases q with
  | book=>exact absurd rfl h2
  | line j=>
    have hj:j≠f.book.length:=fun z=>h1 (by rw [z])
    have h:((f.book++[l])[j]?).map _=some u:=h
    obtain ⟨y,hy,rfl⟩:=dM h
    show (f.book[j]?).map _=_
    rw [iJ hj hy];rfl
  | tL=>rw [<-h];show _=some (HO.lst (refs (p.put _ _ _) Ro.trk f.aq.length));rw [bT (fun i _=>by intro z;cases z)];rfl
  | sL=>rw [<-h];show _=some (HO.lst (refs (p.put _ _ _) Ro.shv f.au.length));rw [bT (fun i _=>by intro z;cases z)];rfl
  | pL=>rw [<-h];show _=some (HO.lst (refs (p.put _ _ _) Ro.plc f.br.length));rw [bT (fun i _=>by intro z;cases z)];rfl
  | bL=>rw [<-h];show _=some (HO.lst (refs (p.put _ _ _) Ro.blk f.aA.length));rw [bT (fun i _=>by intro z;cases z)];rfl
  | zL=>rw [<-h];show _=some (HO.lst (refs (p.put _ _ _) Ro.stp f.cI.length));rw [bT (fun i _=>by intro z;cases z)];rfl
  | _=>exact h
theorem Rep.load (R:Rep A p f B H) {i:Nat} {t:Mi.Trk} {x dx:Addr} {j:Nat} {k:Int} (ht:f.aq[i]? = some t) (hx:H x=some (.ins (A.c .Load) dx (ldF (p.a (.blk j)) k))) (hn:∀ q,(obj A p f q).isSome=true->p.a q≠x) (hB:B x=none) :
  Rep A (p.put (.ld i) x dx) (Mi.aX f i {t with load:=some (j,k)}) B (upd H (p.a (.trk i)) (.ins (A.c .Truck) (p.d (.trk i)) (pA i {t with load:=some (j,k)} (.ref x) (p.a (.tc i))))):=by
 refine R.put2 hx hn hB (q0:=.trk i) (by show (f.aq[i]?.map _).isSome=true;rw [ht];rfl) (by intro z;cases z) ?_ ?_ (fun q h1 h2 u h=>?_) ((R.ex.put _ _ _).cast rfl rfl rfl rfl rfl rfl)
 ·show ((f.aq.set i _)[i]?).bind _=_
  rw [eC ht]
  show some (HO.ins (A.c .Load) ((p.put (.ld i) x dx).d (.ld i)) (ldF ((p.put (.ld i) x dx).a (.blk j)) k))=_
  rw [Pl.iI];rfl
 ·show ((f.aq.set i _)[i]?).map _=_
  rw [eC ht]
  show some (HO.ins (A.c .Truck) ((p.put (.ld i) x dx).d (.trk i)) (pA i _ (.ref ((p.put (.ld i) x dx).a (.ld i))) ((p.put (.ld i) x dx).a (.tc i))))=_
  rw [Pl.cp];rfl
 ·cases q with
  | trk m=>
    have hj:m≠i:=fun z=>h2 (by rw [z])
    have h:((f.aq.set i {t with load:=some (j,k)})[m]?).map _=some u:=h
    rw [fM hj] at h
    obtain ⟨y,hy,rfl⟩:=dM h
    show (f.aq[m]?).map _=_
    rw [hy]
    show some (HO.ins _ _ (pA m y (oN p m y.load) _))=some (HO.ins _ ((p.put (.ld i) x dx).d (.trk m)) (pA m y (oN (p.put (.ld i) x dx) m y.load) _))
    have e:oN (p.put (.ld i) x dx) m y.load=oN p m y.load:=by
     cases y.load with
     | none=>rfl
     | some l=>show V.ref _=V.ref _;rw [Pl.aH _ _ _ (fun z=>hj (by cases z;rfl))]
    rw [e];rfl
  | ld m=>
    have hj:m≠i:=fun z=>h1 (by rw [z])
    have h:((f.aq.set i {t with load:=some (j,k)})[m]?).bind _=some u:=h
    rw [fM hj] at h
    show (f.aq[m]?).bind _=some u
    rw [<-h]
    congr 1
    funext y
    cases y.load with
    | none=>rfl
    | some l=>
      show some (HO.ins _ _ _)=some (HO.ins _ ((p.put (.ld i) x dx).d (.ld m)) _)
      rw [Pl.fX _ _ _ (fun z=>hj (by cases z;rfl))];rfl
  | tc m=>
    have h:((f.aq.set i {t with load:=some (j,k)})[m]?).map _=some u:=h
    by_cases hj:m=i
    ·subst hj
     rw [eC ht] at h
     show (f.aq[m]?).map _=some u
     rw [ht];exact h
    ·rw [fM hj] at h;exact h
  | tL=>rw [<-h];show _=some (HO.lst (refs (p.put _ _ _) Ro.trk (f.aq.set i _).length));rw [List.length_set,bT (fun i _=>by intro z;cases z)];rfl
  | sL=>rw [<-h];show _=some (HO.lst (refs (p.put _ _ _) Ro.shv f.au.length));rw [bT (fun i _=>by intro z;cases z)];rfl
  | pL=>rw [<-h];show _=some (HO.lst (refs (p.put _ _ _) Ro.plc f.br.length));rw [bT (fun i _=>by intro z;cases z)];rfl
  | bL=>rw [<-h];show _=some (HO.lst (refs (p.put _ _ _) Ro.blk f.aA.length));rw [bT (fun i _=>by intro z;cases z)];rfl
  | zL=>rw [<-h];show _=some (HO.lst (refs (p.put _ _ _) Ro.stp f.cI.length));rw [bT (fun i _=>by intro z;cases z)];rfl
  | book=>rw [<-h];show _=some (HO.lst (refs (p.put _ _ _) Ro.line f.book.length));rw [bT (fun i _=>by intro z;cases z)];rfl
  | _=>exact h
theorem Rep.uu (R:Rep A p f B H) {x dx:Addr} {z:Mi.Stp} (hx:H x=some (.ins (A.c .Stop) dx (y6 z))) (hn:∀ q,(obj A p f q).isSome=true->p.a q≠x) (hB:B x=none) :
  Rep A (p.put (.stp f.cI.length) x dx) {f with cI:=f.cI++[z]} B (upd H (p.a .zL) (.lst (refs p .stp f.cI.length++[V.ref x]))):=by
 refine R.put2 hx hn hB (q0:=.zL) rfl (by intro z;cases z) ?_ ?_ (fun q h1 h2 u h=>?_) ((R.ex.put _ _ _).cast rfl rfl rfl rfl rfl rfl)
 ·show (f.cI++[z])[f.cI.length]?.map _=_;rw [jt]
  show some (HO.ins _ ((p.put _ x dx).d _) _)=_
  rw [Pl.iI]
 ·show some (HO.lst (refs _ Ro.stp (f.cI++[z]).length))=_
  rw [List.length_append,List.length_singleton,iH,Pl.cp,bT]
  intro i hi z;cases z;omega
 ·cases q with
  | zL=>exact absurd rfl h2
  | stp j=>
    have hj:j≠f.cI.length:=fun z=>h1 (by rw [z])
    have h:((f.cI++[z])[j]?).map _=some u:=h
    obtain ⟨y,hy,rfl⟩:=dM h
    show (f.cI[j]?).map _=_
    rw [iJ hj hy]
    show some (HO.ins _ _ _)=some (HO.ins _ ((p.put _ x dx).d (.stp j)) _)
    rw [Pl.fX _ _ _ h1]
  | tL=>rw [<-h];show _=some (HO.lst (refs (p.put _ _ _) Ro.trk f.aq.length));rw [bT (fun i _=>by intro z;cases z)];rfl
  | sL=>rw [<-h];show _=some (HO.lst (refs (p.put _ _ _) Ro.shv f.au.length));rw [bT (fun i _=>by intro z;cases z)];rfl
  | pL=>rw [<-h];show _=some (HO.lst (refs (p.put _ _ _) Ro.plc f.br.length));rw [bT (fun i _=>by intro z;cases z)];rfl
  | bL=>rw [<-h];show _=some (HO.lst (refs (p.put _ _ _) Ro.blk f.aA.length));rw [bT (fun i _=>by intro z;cases z)];rfl
  | book=>rw [<-h];show _=some (HO.lst (refs (p.put _ _ _) Ro.line f.book.length));rw [bT (fun i _=>by intro z;cases z)];rfl
  | _=>exact h
theorem Rep.ej (R:Rep A p f B H) {n:Nat} (W:Mi.WF n f) {x dx:Addr} {b:Mi.Blk} (hx:H x=some (.ins (A.c .Block) dx (pO b))) (hn:∀ q,(obj A p f q).isSome=true->p.a q≠x) (hB:B x=none) :
  Rep A (p.put (.blk f.aA.length) x dx) {f with aA:=f.aA++[b]} B (upd H (p.a .bL) (.lst (refs p .blk f.aA.length++[V.ref x]))):=by
 refine R.put2 hx hn hB (q0:=.bL) rfl (by intro z;cases z) ?_ ?_ (fun q h1 h2 u h=>?_) ((R.ex.put _ _ _).cast rfl rfl rfl rfl rfl rfl)
 ·show (f.aA++[b])[f.aA.length]?.map _=_;rw [jt]
  show some (HO.ins _ ((p.put _ x dx).d _) _)=_
  rw [Pl.iI]
 ·show some (HO.lst (refs _ Ro.blk (f.aA++[b]).length))=_
  rw [List.length_append,List.length_singleton,iH,Pl.cp,bT]
  intro i hi z;cases z;omega
 ·cases q with
  | bL=>exact absurd rfl h2
  | blk j=>
    have hj:j≠f.aA.length:=fun z=>h1 (by rw [z])
    have h:((f.aA++[b])[j]?).map _=some u:=h
    obtain ⟨y,hy,rfl⟩:=dM h
    show (f.aA[j]?).map _=_
    rw [iJ hj hy]
    show some (HO.ins _ _ _)=some (HO.ins _ ((p.put _ x dx).d (.blk j)) _)
    rw [Pl.fX _ _ _ h1]
  | ld m=>
    have h:(f.aq[m]?).bind _=some u:=h
    show (f.aq[m]?).bind _=some u
    rw [<-h]
    cases e:f.aq[m]? with
    | none=>rfl
    | some y=>
      show y.load.map _=y.load.map _
      cases e2:y.load with
      | none=>rfl
      | some l=>
        have hl:=(W.trk y (List.mem_of_getElem? e)).l l e2
        show some (HO.ins _ _ (ldF _ _))=some (HO.ins _ _ (ldF ((p.put _ x dx).a (.blk l.1)) _))
        rw [Pl.aH _ _ _ (fun z=>by injection z with z;omega)];rfl
  | row m=>
    have h:(f.au[m]?).map _=some u:=h
    obtain ⟨y,hy,rfl⟩:=dM h
    show (f.au[m]?).map _=_
    rw [hy]
    show some (HO.lst _)=some (HO.lst _)
    congr 2
    refine List.map_congr_left fun j hj=>?_
    have:=(W.shv y (List.mem_of_getElem? hy)).row j hj
    rw [Pl.aH _ _ _ (fun z=>by injection z with z;omega)]
  | tL=>rw [<-h];show _=some (HO.lst (refs (p.put _ _ _) Ro.trk f.aq.length));rw [bT (fun i _=>by intro z;cases z)];rfl
  | sL=>rw [<-h];show _=some (HO.lst (refs (p.put _ _ _) Ro.shv f.au.length));rw [bT (fun i _=>by intro z;cases z)];rfl
  | pL=>rw [<-h];show _=some (HO.lst (refs (p.put _ _ _) Ro.plc f.br.length));rw [bT (fun i _=>by intro z;cases z)];rfl
  | zL=>rw [<-h];show _=some (HO.lst (refs (p.put _ _ _) Ro.stp f.cI.length));rw [bT (fun i _=>by intro z;cases z)];rfl
  | book=>rw [<-h];show _=some (HO.lst (refs (p.put _ _ _) Ro.line f.book.length));rw [bT (fun i _=>by intro z;cases z)];rfl
  | _=>exact h
theorem Rep.yP (R:Rep A p f B H) {x:Addr} {c:Int×List Int} (hc:jE A B x c) :
  Rep A {p with calls:=p.calls++[x]} {f with told:=f.told++[c]} B (upd H (p.a .told) (.lst (p.calls.map V.ref++[V.ref x]))):=by
 have R1:Rep A {p with calls:=p.calls++[x]} {f with told:=f.told++[c]} B (upd H (p.a .told) (.lst ((p.calls++[x]).map V.ref))):=by
  have ex:Ex A {p with calls:=p.calls++[x]} {f with told:=f.told++[c]} B:=by
   refine ⟨R.ex.rows,R.ex.h0,R.ex.h1,R.ex.h2,R.ex.h3,R.ex.h4,by simp [R.ex.cl],fun k a u h1 h2=>?_⟩
   by_cases hk:k=p.calls.length
   ·subst hk
    have e1:x=a:=by
     have h1:(p.calls++[x])[p.calls.length]? = some a:=h1
     rw [jt] at h1;exact Option.some.inj h1
    have e2:c=u:=by
     have h2:(f.told++[c])[p.calls.length]? = some u:=h2
     rw [R.ex.cl,jt] at h2;exact Option.some.inj h2
    rw [<-e1,<-e2];exact hc
   ·exact R.ex.call k a u (iJ hk h1) (iJ (by rw [<-R.ex.cl];exact hk) h2)
  refine ⟨fun q u h=>?_,fun a b ha hb=>R.inj a b ?_ ?_,fun b u h=>?_,fun q h=>R.iT q ?_,ex⟩
  ·by_cases e:q=.told
   ·subst e
    have h:some (HO.lst ((p.calls++[x]).map V.ref))=some u:=h
    cases h;exact aj
   ·have h2:obj A p f q=some u:=by
     cases q with
     | told=>exact absurd rfl e
     | _=>exact h
    show (upd H (p.a .told) _) (p.a q)=some u
    rw [ax (R.ne (by rw [h2];rfl) rfl e)]
    exact R.own q u h2
  ·cases a<;>exact ha
  ·cases b<;>exact hb
  ·have:b≠p.a .told:=fun e=>by rw [e,R.iT .told rfl] at h;cases h
   rw [ax this];exact R.frame b u h
  ·cases q<;>exact h
 rw [List.map_append] at R1;exact R1
end
end Ms
namespace Mi
section
variable {n:Nat} {f:Flt}
theorem lM {α:Type} {l:List α} {i:Nat} {x y:α} (h:y ∈ l.set i x):y=x\/y ∈ l:=by
 rcases List.mem_or_eq_of_mem_set h with h | h
 ·exact .inr h
 ·exact .inl h
theorem WF.mono (w:WF n f) {m:Nat} (h:n<=m):WF m f:={w with bk:=Nat.le_trans w.bk h}
theorem WF.aX (w:WF n f) {i:Nat} {t:Trk} (h:TOk f.au.length f.br.length f.aA.length t):WF n (aX f i t) where
 c1:=w.c1
 c2:=w.c2
 t1:=by show 1<=(f.aq.set i t).length;rw [List.length_set];exact w.t1
 t2:=by show (f.aq.set i t).length<=8;rw [List.length_set];exact w.t2
 s1:=w.s1
 s2:=w.s2
 p1:=w.p1
 p2:=w.p2
 park:=w.park
 onw:=w.onw
 back:=w.back
 trk:=fun u hu=>by
  rcases lM hu with e | e
  ·rw [e];exact h
  ·exact w.trk u e
 shv:=w.shv
 blk:=w.blk
 stp:=fun z hz=>by show ZOk (f.aq.set i t).length f.au.length z;rw [List.length_set];exact w.stp z hz
 b20:=w.b20
 z20:=w.z20
 m0:=w.m0
 bk:=w.bk
 ln:=w.ln
theorem WF.cZ (w:WF n f) {i:Nat} {t:Shv} (h:SOk f.aA.length t):WF n (cZ f i t) where
 c1:=w.c1
 c2:=w.c2
 t1:=w.t1
 t2:=w.t2
 s1:=by show 1<=(f.au.set i t).length;rw [List.length_set];exact w.s1
 s2:=by show (f.au.set i t).length<=3;rw [List.length_set];exact w.s2
 p1:=w.p1
 p2:=w.p2
 park:=by show f.park.length=(f.au.set i t).length;rw [List.length_set];exact w.park
 onw:=by show f.onw.length=(f.au.set i t).length*_;rw [List.length_set];exact w.onw
 back:=by show f.back.length=(f.au.set i t).length*_;rw [List.length_set];exact w.back
 trk:=fun u hu=>by show TOk (f.au.set i t).length _ _ u;rw [List.length_set];exact w.trk u hu
 shv:=fun u hu=>by
  rcases lM hu with e | e
  ·rw [e];exact h
  ·exact w.shv u e
 blk:=w.blk
 stp:=fun z hz=>by show ZOk f.aq.length (f.au.set i t).length z;rw [List.length_set];exact w.stp z hz
 b20:=w.b20
 z20:=w.z20
 m0:=w.m0
 bk:=w.bk
 ln:=w.ln
theorem WF.fA (w:WF n f) {i:Nat} {t:Plc}:WF n (fA f i t) where
 c1:=w.c1
 c2:=w.c2
 t1:=w.t1
 t2:=w.t2
 s1:=w.s1
 s2:=w.s2
 p1:=by show 1<=(f.br.set i t).length;rw [List.length_set];exact w.p1
 p2:=by show (f.br.set i t).length<=3;rw [List.length_set];exact w.p2
 park:=w.park
 onw:=by show f.onw.length=_*(f.br.set i t).length;rw [List.length_set];exact w.onw
 back:=by show f.back.length=_*(f.br.set i t).length;rw [List.length_set];exact w.back
 trk:=fun u hu=>by show TOk _ (f.br.set i t).length _ u;rw [List.length_set];exact w.trk u hu
 shv:=w.shv
 blk:=fun b hb=>by show _/\_<=((f.br.set i t).length:Int);rw [List.length_set];exact w.blk b hb
 stp:=w.stp
 b20:=w.b20
 z20:=w.z20
 m0:=w.m0
 bk:=w.bk
 ln:=w.ln
theorem WF.dS (w:WF n f) {i:Nat} {t:Blk} (h:1<=t.place/\t.place<=(f.br.length:Int)):WF n (dS f i t) where
 c1:=w.c1
 c2:=w.c2
 t1:=w.t1
 t2:=w.t2
 s1:=w.s1
 s2:=w.s2
 p1:=w.p1
 p2:=w.p2
 park:=w.park
 onw:=w.onw
 back:=w.back
 trk:=fun u hu=>by show TOk _ _ (f.aA.set i t).length u;rw [List.length_set];exact w.trk u hu
 shv:=fun u hu=>by show SOk (f.aA.set i t).length u;rw [List.length_set];exact w.shv u hu
 blk:=fun b hb=>by
  rcases lM hb with e | e
  ·rw [e];exact h
  ·exact w.blk b e
 stp:=w.stp
 b20:=by show (f.aA.set i t).length<=20;rw [List.length_set];exact w.b20
 z20:=w.z20
 m0:=w.m0
 bk:=w.bk
 ln:=w.ln
theorem iD (t:Trk):(dr f t).length=2:=by
 unfold dr
 cases t.load with
 | none=>rfl
 | some l=>rfl
theorem WF.addLine (w:WF n f) {l:List Int} (h:l.length=6):WF (n+1) {f with book:=f.book++[l]}:=
 {w with
  bk:=by show (f.book++[l]).length<=n+1;rw [List.length_append];have:=w.bk;simp;omega
  ln:=fun u hu=>by
   rcases List.mem_append.mp hu with e | e
   ·exact w.ln u e
   ·rw [List.mem_singleton.mp e];exact h}
theorem WF.comes (w:WF n f) {i:Nat} {m does a go:Int} (h:TOk f.au.length f.br.length f.aA.length {Mi.aa f i with does:=does,at_:=a,go:=go,since:=m}):WF (n+1) (Mi.comes f m i does a go):=by
 have w1:=w.addLine (l:=[m,(i:Int)+1,does,a]++dr f (Mi.aa f i)) (by rw [List.length_append,iD];rfl)
 exact WF.aX w1 h
theorem vk (a:Int) (i:Nat):(three f a i).2.2=(i:Int)+1:=by
 unfold three
 by_cases h:f.rule=0
 ·simp [h]
 ·by_cases h2:f.rule=1<;>simp [h,h2]
theorem qO:∀ (l:List (Int×Int×Int)) (x:Int×Int×Int),ic x l=x\/ic x l ∈ l
 | [],x=>.inl rfl
 | z::l,x=>by
   have e:ic x (z::l)=ic (if ltT z x then z else x) l:=rfl
   rw [e]
   by_cases h:ltT z x=true
   ·rw [if_pos h]
    rcases qO l z with q | q
    ·rw [q];exact .inr (by simp)
    ·exact .inr (by simp [q])
   ·rw [if_neg h]
    rcases qO l x with q | q
    ·exact .inl q
    ·exact .inr (by simp [q])
theorem mD (f:Flt) (a:Int):0<=chosen f a/\chosen f a<=(f.au.length:Int):=by
 have key:∀ t ∈ eE f a f.au.length,1<=t.2.2/\t.2.2<=(f.au.length:Int):=fun t ht=>by
  unfold eE at ht
  obtain ⟨i,hi,rfl⟩:=List.mem_map.mp ht
  have:=List.mem_range.mp (List.mem_filter.mp hi).1
  rw [vk];omega
 unfold chosen
 cases e:eE f a f.au.length with
 | nil=>simp
 | cons x l=>
   rw [e] at key
   have:ic x l ∈ x::l:=by
    rcases qO l x with q | q
    ·rw [q];simp
    ·simp [q]
   have:=key _ this
   show 0<=(ic x l).2.2/\(ic x l).2.2<=_
   omega
theorem dY (does a:Int):∀ (m:Nat) {i:Nat},eQ f does a m=some i->i < m/\(aa f i).does=does/\(aa f i).at_=a/\(aa f i).stop=false
 | 0,i,h=>by unfold eQ at h;simp at h
 | m+1,i,h=>by
   have e:eQ f does a (m+1)=(if (aa f m).does=does/\(aa f m).at_=a/\(aa f m).stop=false then (match eQ f does a m with | none=>some m | some u=>if (aa f m).since < (aa f u).since then some m else some u) else eQ f does a m):=by
    unfold eQ
    rw [List.range_succ,List.foldl_append];rfl
   rw [e] at h
   by_cases c:(aa f m).does=does/\(aa f m).at_=a/\(aa f m).stop=false
   ·rw [if_pos c] at h
    cases q:eQ f does a m with
    | none=>
      rw [q] at h
      have h:some m=some i:=h
      cases h;exact ⟨by omega,c⟩
    | some u=>
      rw [q] at h
      have h:(if (aa f m).since < (aa f u).since then some m else some u)=some i:=h
      by_cases c2:(aa f m).since < (aa f u).since
      ·rw [if_pos c2] at h;cases h;exact ⟨by omega,c⟩
      ·rw [if_neg c2] at h;cases h
       obtain ⟨h1,h2⟩:=dY does a m q
       exact ⟨by omega,h2⟩
   ·rw [if_neg c] at h
    obtain ⟨h1,h2⟩:=dY does a m h
    exact ⟨by omega,h2⟩
theorem mz (does a:Int) (m:Nat):eQ f does a (m+1)=(if (aa f m).does=does/\(aa f m).at_=a/\(aa f m).stop=false then (match eQ f does a m with | none=>some m | some u=>if (aa f m).since < (aa f u).since then some m else some u) else eQ f does a m):=by
 unfold eQ
 rw [List.range_succ,List.foldl_append];rfl
theorem WF.iq (w:WF n f) {i:Nat} (h:i < f.aq.length):WF n (iq f i):=by
 have t:=w.aa h
 exact w.aX ⟨t.d0,t.d7,t.cnt,t.w0,t.w1,t.w4,t.l3,t.l⟩
theorem WF.ir (w:WF n f) {i:Nat} (h:i < f.au.length):WF n (ir f i):=by
 have t:=w.ai h
 exact w.cZ ⟨t.cnt,t.row,t.len,t.t1,t.t2⟩
theorem WF.dO (w:WF n f) {z:Stp} (h:ZOk f.aq.length f.au.length z):WF n (dO f z):=by
 unfold Mi.dO
 split
 ·split
  ·rename_i _ k
   have t:=w.aa (i:=(z.which - 1).toNat) (by rcases h.k with ⟨_,h⟩ | ⟨h,_⟩<;>omega)
   exact w.aX ⟨t.d0,t.d7,t.cnt,t.w0,t.w1,t.w4,t.l3,t.l⟩
  ·rename_i _ k
   have t:=w.ai (i:=(z.which - 1).toNat) (by rcases h.k with ⟨h,_⟩ | ⟨_,h⟩<;>omega)
   exact w.cZ ⟨t.cnt,t.row,t.len,t.t1,t.t2⟩
 ·exact w
theorem WF.cY (w:WF n f) {i:Nat} (h:i < f.aq.length):WF (n+1) (cY f i):=by
 have t:=w.aa h
 unfold Mi.cY
 show WF (n+1) (if (Mi.aa f i).does=0/\(Mi.aa f i).stop=false then (if chosen f (Mi.aa f i).at_=0 then _ else _) else f)
 split
 ·rename_i c
  have a:=t.w0 (.inl c.1)
  split
  ·exact w.comes ⟨by simp,by simp,t.cnt,fun _=>a,fun h=>by simp at h,fun h=>by simp at h,fun h=>by simp at h,t.l⟩
  ·have r:=mD f (Mi.aa f i).at_
   exact w.comes ⟨by simp,by simp,t.cnt,fun h=>by simp at h,fun _=>by simp;omega,fun h=>by simp at h,fun h=>by simp at h,t.l⟩
 ·exact w.mono (by omega)
theorem WF.eA (w:WF n f) {i:Nat} (h:i < f.br.length):WF (n+1) (eA f i):=by
 unfold Mi.eA
 cases e:Mi.first f 5 ((i:Int)+1) with
 | none=>exact w.mono (by omega)
 | some j=>
   obtain ⟨h1,h2,h3,_⟩:=dY _ _ _ e
   have t:=w.aa h1
   show WF (n+1) (if cE f [6] ((i:Int)+1)=0 then _ else f)
   split
   ·exact w.comes ⟨by simp,by simp,t.cnt,fun h=>by simp at h,fun h=>by simp at h,fun _=>by simp;omega,fun _=>t.l3 (by omega),t.l⟩
   ·exact w.mono (by omega)
theorem WF.take (w:WF n f) {s j:Nat} (hs:s < f.au.length) (hj:j < f.aA.length):WF n (take f s j):=by
 have b:=w.ak hj
 have t:=w.ai hs
 unfold Mi.take
 show WF n (if _ then Mi.cZ (Mi.dS f j _) s _ else Mi.dS f j _)
 have w1:WF n (Mi.dS f j {Mi.ak f j with left:=(Mi.ak f j).left - bS f j}):=w.dS b
 split
 ·refine w1.cZ ⟨t.cnt,fun x hx=>?_,?_,t.t1,t.t2⟩
  ·show x < (f.aA.set j _).length
   rw [List.length_set];exact t.row x (List.mem_of_mem_tail hx)
  ·show (Mi.ai f s).row.tail.length<=(f.aA.set j _).length
   rw [List.length_set,List.length_tail];have:=t.len;omega
 ·exact w1
theorem je (f:Flt) (s j:Nat):(take f s j).aq=f.aq/\(take f s j).aA.length=f.aA.length/\(take f s j).au.length=f.au.length/\(take f s j).br=f.br/\(take f s j).book=f.book:=by
 unfold take
 by_cases h:(ak f j).left - bS f j=0<;>simp [cZ,dS,h]
theorem WF.cU (w:WF n f) {s:Nat} (hs:s < f.au.length):WF (n+1) (cU f s):=by
 unfold Mi.cU
 split
 ·cases e:Mi.first f 2 ((s:Int)+1) with
  | none=>exact w.mono (by omega)
  | some i=>
    cases er:(Mi.ai f s).row with
    | nil=>exact w.mono (by omega)
    | cons j r=>
      obtain ⟨h1,h2,h3,_⟩:=dY _ _ _ e
      have t:=w.aa h1
      have hj:=(w.ai hs).row j (by rw [er];simp)
      have w1:=w.take hs hj
      obtain ⟨q1,q2,q3,q4,q5⟩:=je f s j
      have et:Mi.aa (Mi.take f s j) i=Mi.aa f i:=by unfold Mi.aa;rw [q1]
      show WF (n+1) (Mi.comes (Mi.aX (Mi.take f s j) i {Mi.aa (Mi.take f s j) i with load:=some (j,bS f j)}) f.minute i 3 ((s:Int)+1) (Mi.ai f s).time)
      have t2:TOk (Mi.take f s j).au.length (Mi.take f s j).br.length (Mi.take f s j).aA.length {Mi.aa (Mi.take f s j) i with load:=some (j,bS f j)}:=by
       rw [q2,q3,q4,et]
       exact ⟨t.d0,t.d7,t.cnt,t.w0,t.w1,t.w4,fun _=>rfl,fun x hx=>by cases hx;exact hj⟩
      have w2:=w1.aX (i:=i) t2
      have et2:Mi.aa (Mi.aX (Mi.take f s j) i {Mi.aa (Mi.take f s j) i with load:=some (j,bS f j)}) i = {Mi.aa (Mi.take f s j) i with load:=some (j,bS f j)}:=by
       unfold Mi.aa Mi.aX
       simp [q1,h1]
      refine w2.comes ?_
      show TOk (Mi.take f s j).au.length (Mi.take f s j).br.length (Mi.take f s j).aA.length _
      rw [et2]
      exact ⟨by simp,by simp,t2.cnt,fun h=>by simp at h,fun _=>by simp;omega,fun h=>by simp at h,fun _=>rfl,t2.l⟩
 ·exact w.mono (by omega)
theorem sS (l:List Int) (k:Nat):(bump l k).length=l.length:=by unfold bump;simp
theorem WF.dR (w:WF n f) {i:Nat} (h:i < f.aq.length):WF n (dR f i):=by
 have t:=w.aa h
 exact w.aX ⟨t.d0,t.d7,by show (bump _ _).length=9;rw [sS];exact t.cnt,t.w0,t.w1,t.w4,t.l3,t.l⟩
theorem WF.eY (w:WF n f) {i:Nat} (h:i < f.au.length):WF n (eY f i):=by
 have t:=w.ai h
 exact w.cZ ⟨by show (bump _ _).length=4;rw [sS];exact t.cnt,t.row,t.len,t.t1,t.t2⟩
theorem WF.tip (w:WF n f) {i:Nat} (h:i < f.aq.length) (h6:(Mi.aa f i).does=6):WF n (tip f i):=by
 have t:=w.aa h
 unfold Mi.tip
 show WF n (match (Mi.aa f i).load with | none=>f | some (j,k)=>_)
 cases e:(Mi.aa f i).load with
 | none=>exact w
 | some l=>
   obtain ⟨j,k⟩:=l
   have hj:=t.l _ e
   have b:=w.ak hj
   have a:=t.w4 (by omega)
   have w1:WF n (Mi.fA f ((Mi.aa f i).at_ - 1).toNat {Mi.bz f ((Mi.aa f i).at_ - 1).toNat with loads:=(Mi.bz f ((Mi.aa f i).at_ - 1).toNat).loads+1,bU:=(Mi.bz f ((Mi.aa f i).at_ - 1).toNat).bU+k}):=w.fA
   have w2:=w1.dS (i:=j) (t:={Mi.ak f j with tipped:=(Mi.ak f j).tipped+k}) (by
    show 1<=(Mi.ak f j).place/\(Mi.ak f j).place<=((f.br.set _ _).length:Int)
    rw [List.length_set];exact b)
   refine w2.aX (t:={Mi.aa f i with load:=none,does:=0,go:=0}) ?_
   show TOk f.au.length (f.br.set _ _).length (f.aA.set _ _).length _
   rw [List.length_set,List.length_set]
   exact ⟨by simp,by simp,t.cnt,fun _=>by simp;omega,fun h=>by simp at h,fun h=>by simp at h,fun h=>by simp at h,fun x hx=>by cases hx⟩
theorem WF.ly (w:WF n f) {i:Nat} (h:i < f.aq.length) (hd:(Mi.aa f i).does=1\/(Mi.aa f i).does=3\/(Mi.aa f i).does=4\/(Mi.aa f i).does=6):WF (n+1) (ly f i):=by
 have t:=w.aa h
 unfold Mi.ly
 show WF (n+1) (if (Mi.aa f i).does=1 then _ else if (Mi.aa f i).does=3 then (match (Mi.aa f i).load with | none=>f | some (j,_)=>_) else if (Mi.aa f i).does=4 then _ else _)
 split
 ·rename_i c
  have a:=t.w1 (.inl c)
  exact w.comes ⟨by simp,by simp,t.cnt,fun h=>by simp at h,fun _=>a,fun h=>by simp at h,fun h=>by simp at h,t.l⟩
 ·split
  ·rename_i c
   cases e:(Mi.aa f i).load with
   | none=>exact w.mono (by omega)
   | some l=>
     obtain ⟨j,k⟩:=l
     have b:=w.ak (t.l _ e)
     exact w.comes ⟨by simp,by simp,t.cnt,fun h=>by simp at h,fun h=>by simp at h,fun _=>by simp;omega,fun _=>by simp [e],t.l⟩
  ·split
   ·rename_i c
    have a:=t.w4 (.inl c)
    exact w.comes ⟨by simp,by simp,t.cnt,fun h=>by simp at h,fun h=>by simp at h,fun _=>a,fun _=>t.l3 (.inr (.inl c)),t.l⟩
   ·exact (w.tip h (by omega)).mono (by omega)
theorem WF.eG (w:WF n f) {i:Nat} (h:i < f.aq.length):WF (n+1) (eG f i):=by
 have t:=w.aa h
 unfold Mi.eG
 show WF (n+1) (if ((Mi.aa f i).does=1\/(Mi.aa f i).does=3\/(Mi.aa f i).does=4\/(Mi.aa f i).does=6)/\held f (Mi.aa f i)=false then _ else f)
 split
 ·rename_i c
  split
  ·exact (w.aX (t:={Mi.aa f i with go:=(Mi.aa f i).go - 1}) ⟨t.d0,t.d7,t.cnt,t.w0,t.w1,t.w4,t.l3,t.l⟩).mono (by omega)
  ·exact w.ly h c.1
 ·exact w.mono (by omega)
theorem WF.fz (w:WF n f) {i:Nat} (h:i < f.aq.length):WF n (fz f i):=by
 have t:=w.aa h
 unfold Mi.fz
 split
 ·rename_i c
  have a:=t.w0 (.inr c)
  exact w.aX ⟨by simp,by simp,t.cnt,fun _=>a,fun h=>by simp at h,fun h=>by simp at h,fun h=>by simp at h,t.l⟩
 ·exact w
end
end Mi
namespace Mi
structure Sh (f g:Flt):Prop where
 t:g.aq.length=f.aq.length
 s:g.au.length=f.au.length
 p:g.br.length=f.br.length
 b:g.aA.length=f.aA.length
 z:g.cI=f.cI
 m:g.minute=f.minute
 c:g.carries=f.carries
 r:g.rule=f.rule
 to:g.told=f.told
 r0:g.r0=f.r0
 r1:g.r1=f.r1
 r2:g.park=f.park
 r3:g.onw=f.onw
 r4:g.back=f.back
theorem Sh.refl (f:Flt):Sh f f:=⟨rfl,rfl,rfl,rfl,rfl,rfl,rfl,rfl,rfl,rfl,rfl,rfl,rfl,rfl⟩
theorem Sh.trans {f g h:Flt} (a:Sh f g) (b:Sh g h):Sh f h:=
 ⟨b.t.trans a.t,b.s.trans a.s,b.p.trans a.p,b.b.trans a.b,b.z.trans a.z,b.m.trans a.m,b.c.trans a.c,b.r.trans a.r,b.to.trans a.to,b.r0.trans a.r0,b.r1.trans a.r1,b.r2.trans a.r2,b.r3.trans a.r3,b.r4.trans a.r4⟩
theorem Sh.aX (f:Flt) (i:Nat) (t:Trk):Sh f (aX f i t):=⟨by simp [Mi.aX],rfl,rfl,rfl,rfl,rfl,rfl,rfl,rfl,rfl,rfl,rfl,rfl,rfl⟩
theorem Sh.cZ (f:Flt) (i:Nat) (t:Shv):Sh f (cZ f i t):=⟨rfl,by simp [Mi.cZ],rfl,rfl,rfl,rfl,rfl,rfl,rfl,rfl,rfl,rfl,rfl,rfl⟩
theorem Sh.fA (f:Flt) (i:Nat) (t:Plc):Sh f (fA f i t):=⟨rfl,rfl,by simp [Mi.fA],rfl,rfl,rfl,rfl,rfl,rfl,rfl,rfl,rfl,rfl,rfl⟩
theorem Sh.dS (f:Flt) (i:Nat) (t:Blk):Sh f (dS f i t):=⟨rfl,rfl,rfl,by simp [Mi.dS],rfl,rfl,rfl,rfl,rfl,rfl,rfl,rfl,rfl,rfl⟩
theorem Sh.comes (f:Flt) (m:Int) (i:Nat) (d a g:Int):Sh f (comes f m i d a g):=⟨by simp [Mi.comes],rfl,rfl,rfl,rfl,rfl,rfl,rfl,rfl,rfl,rfl,rfl,rfl,rfl⟩
theorem Sh.ite {f a b:Flt} {c:Prop} [Decidable c] (ha:Sh f a) (hb:Sh f b):Sh f (if c then a else b):=by
 split
 ·exact ha
 ·exact hb
theorem Sh.iq (f:Flt) (i:Nat):Sh f (iq f i):=Sh.aX ..
theorem Sh.ir (f:Flt) (i:Nat):Sh f (ir f i):=Sh.cZ ..
theorem Sh.dO (f:Flt) (z:Stp):Sh f (dO f z):=Sh.ite (Sh.ite (Sh.aX ..) (Sh.cZ ..)) (Sh.refl f)
theorem Sh.cY (f:Flt) (i:Nat):Sh f (cY f i):=Sh.ite (Sh.ite (Sh.comes ..) (Sh.comes ..)) (Sh.refl f)
theorem Sh.eA (f:Flt) (i:Nat):Sh f (eA f i):=by
 unfold Mi.eA
 split
 ·exact Sh.refl f
 ·exact Sh.ite (Sh.comes ..) (Sh.refl f)
theorem Sh.take (f:Flt) (s j:Nat):Sh f (take f s j):=Sh.ite ((Sh.dS ..).trans (Sh.cZ ..)) (Sh.dS ..)
theorem Sh.cU (f:Flt) (s:Nat):Sh f (cU f s):=by
 unfold Mi.cU
 refine Sh.ite ?_ (Sh.refl f)
 split
 ·exact ((Sh.take ..).trans (Sh.aX ..)).trans (Sh.comes ..)
 ·exact Sh.refl f
theorem Sh.dR (f:Flt) (i:Nat):Sh f (dR f i):=Sh.aX ..
theorem Sh.eY (f:Flt) (i:Nat):Sh f (eY f i):=Sh.cZ ..
theorem Sh.tip (f:Flt) (i:Nat):Sh f (tip f i):=by
 unfold Mi.tip
 show Sh f (match (aa f i).load with | none=>f | some (j,k)=>_)
 cases (aa f i).load with
 | none=>exact Sh.refl f
 | some l=>exact ((Sh.fA ..).trans (Sh.dS ..)).trans (Sh.aX ..)
theorem Sh.ly (f:Flt) (i:Nat):Sh f (ly f i):=by
 refine Sh.ite (Sh.comes ..) (Sh.ite ?_ (Sh.ite (Sh.comes ..) (Sh.tip ..)))
 show Sh f (match (aa f i).load with | none=>f | some (j,k)=>_)
 cases (aa f i).load with
 | none=>exact Sh.refl f
 | some l=>exact Sh.comes ..
theorem Sh.eG (f:Flt) (i:Nat):Sh f (eG f i):=Sh.ite (Sh.ite (Sh.aX ..) (Sh.ly ..)) (Sh.refl f)
theorem Sh.fz (f:Flt) (i:Nat):Sh f (fz f i):=Sh.ite (Sh.aX ..) (Sh.refl f)
theorem fold_succ {step:Flt->Nat->Flt} {f:Flt} {i:Nat}:(List.range (i+1)).foldl step f=step ((List.range i).foldl step f) i:=by
 rw [List.range_succ,List.foldl_append];rfl
theorem gH {step:Flt->Nat->Flt} {d n N:Nat} {f:Flt} (hsh:∀ g j,Sh g (step g j)) (hwf:∀ m g j,WF m g->Sh f g->j < N->WF (m+d) (step g j)) (w:WF n f) :
  ∀ i,i<=N->WF (n+d*i) ((List.range i).foldl step f)/\Sh f ((List.range i).foldl step f)
 | 0,_=>⟨w,Sh.refl f⟩
 | i+1,h=>by
   obtain ⟨w1,s1⟩:=gH hsh hwf w i (by omega)
   rw [fold_succ]
   have w2:=hwf _ _ i w1 s1 (by omega)
   exact ⟨w2.mono (by rw [Nat.mul_succ];omega),s1.trans (hsh _ _)⟩
section
variable {n:Nat} {f:Flt}
theorem lY (w:WF n f) (i:Nat) (h:i<=f.aq.length):WF n ((List.range i).foldl iq f)/\Sh f ((List.range i).foldl iq f):=by
 have:=gH (d:=0) (N:=f.aq.length) Sh.iq (fun m g j w s hj=>w.iq (by rw [s.t];exact hj)) w i h
 simpa using this
theorem lZ (w:WF n f) (i:Nat) (h:i<=f.au.length):WF n ((List.range i).foldl ir f)/\Sh f ((List.range i).foldl ir f):=by
 have:=gH (d:=0) (N:=f.au.length) Sh.ir (fun m g j w s hj=>w.ir (by rw [s.s];exact hj)) w i h
 simpa using this
theorem qw (w:WF n f) (i:Nat) (h:i<=f.aq.length):WF (n+i) ((List.range i).foldl cY f)/\Sh f ((List.range i).foldl cY f):=by
 have:=gH (d:=1) (N:=f.aq.length) Sh.cY (fun m g j w s hj=>w.cY (by rw [s.t];exact hj)) w i h
 simpa using this
theorem tD (w:WF n f) (i:Nat) (h:i<=f.br.length):WF (n+i) ((List.range i).foldl eA f)/\Sh f ((List.range i).foldl eA f):=by
 have:=gH (d:=1) (N:=f.br.length) Sh.eA (fun m g j w s hj=>w.eA (by rw [s.p];exact hj)) w i h
 simpa using this
theorem qR (w:WF n f) (i:Nat) (h:i<=f.au.length):WF (n+i) ((List.range i).foldl cU f)/\Sh f ((List.range i).foldl cU f):=by
 have:=gH (d:=1) (N:=f.au.length) Sh.cU (fun m g j w s hj=>w.cU (by rw [s.s];exact hj)) w i h
 simpa using this
theorem nO (w:WF n f) (i:Nat) (h:i<=f.aq.length):WF n ((List.range i).foldl dR f)/\Sh f ((List.range i).foldl dR f):=by
 have:=gH (d:=0) (N:=f.aq.length) Sh.dR (fun m g j w s hj=>w.dR (by rw [s.t];exact hj)) w i h
 simpa using this
theorem r9 (w:WF n f) (i:Nat) (h:i<=f.au.length):WF n ((List.range i).foldl eY f)/\Sh f ((List.range i).foldl eY f):=by
 have:=gH (d:=0) (N:=f.au.length) Sh.eY (fun m g j w s hj=>w.eY (by rw [s.s];exact hj)) w i h
 simpa using this
theorem qN (w:WF n f) (i:Nat) (h:i<=f.aq.length):WF (n+i) ((List.range i).foldl eG f)/\Sh f ((List.range i).foldl eG f):=by
 have:=gH (d:=1) (N:=f.aq.length) Sh.eG (fun m g j w s hj=>w.eG (by rw [s.t];exact hj)) w i h
 simpa using this
theorem qW (w:WF n f) (i:Nat) (h:i<=f.aq.length):WF n ((List.range i).foldl fz f)/\Sh f ((List.range i).foldl fz f):=by
 have:=gH (d:=0) (N:=f.aq.length) Sh.fz (fun m g j w s hj=>w.fz (by rw [s.t];exact hj)) w i h
 simpa using this
theorem m7:∀ (l:List Stp) {g:Flt},WF n g->(∀ z ∈ l,ZOk g.aq.length g.au.length z)->WF n (l.foldl dO g)/\Sh g (l.foldl dO g)
 | [],g,w,_=>⟨w,Sh.refl g⟩
 | z::l,g,w,h=>by
   have w1:=w.dO (h z (by simp))
   have s1:=Sh.dO g z
   obtain ⟨w2,s2⟩:=m7 l w1 (fun y hy=>by rw [s1.t,s1.s];exact h y (by simp [hy]))
   exact ⟨w2,s1.trans s2⟩
theorem qP (w:WF n f):WF n (mark f)/\Sh f (mark f):=by
 obtain ⟨w1,s1⟩:=lY w f.aq.length (Nat.le_refl _)
 obtain ⟨w2,s2⟩:=lZ w1 f.au.length (by rw [s1.s];exact Nat.le_refl _)
 obtain ⟨w3,s3⟩:=m7 f.cI w2 (fun z hz=>by rw [s2.t,s2.s,s1.t,s1.s];exact w.stp z hz)
 exact ⟨w3,(s1.trans s2).trans s3⟩
theorem lK (w:WF n f):WF (n+8) (sendAll f)/\Sh f (sendAll f):=by
 obtain ⟨w1,s1⟩:=qw w f.aq.length (Nat.le_refl _)
 exact ⟨w1.mono (by have:=w.t2;omega),s1⟩
theorem mG (w:WF n f):WF (n+3) (gD f)/\Sh f (gD f):=by
 obtain ⟨w1,s1⟩:=tD w f.br.length (Nat.le_refl _)
 exact ⟨w1.mono (by have:=w.p2;omega),s1⟩
theorem lO (w:WF n f):WF (n+3) (gp f)/\Sh f (gp f):=by
 obtain ⟨w1,s1⟩:=qR w f.au.length (Nat.le_refl _)
 exact ⟨w1.mono (by have:=w.s2;omega),s1⟩
theorem pj (w:WF n f):WF n (count f)/\Sh f (count f):=by
 obtain ⟨w1,s1⟩:=nO w f.aq.length (Nat.le_refl _)
 obtain ⟨w2,s2⟩:=r9 w1 f.au.length (by rw [s1.s];exact Nat.le_refl _)
 exact ⟨w2,s1.trans s2⟩
theorem oJ (w:WF n f):WF (n+8) (hC f)/\Sh f (hC f):=by
 obtain ⟨w1,s1⟩:=qN w f.aq.length (Nat.le_refl _)
 exact ⟨w1.mono (by have:=w.t2;omega),s1⟩
theorem lU (w:WF n f):WF n (dF f)/\Sh f (dF f):=qW w f.aq.length (Nat.le_refl _)
noncomputable def mid (f:Flt):Flt:=hC (count (gp (gD (sendAll (mark f)))))
theorem ub (w:WF n f):WF (n+22) (mid f)/\Sh f (mid f):=by
 obtain ⟨w1,s1⟩:=qP w
 obtain ⟨w2,s2⟩:=lK w1
 obtain ⟨w3,s3⟩:=mG w2
 obtain ⟨w4,s4⟩:=lO w3
 obtain ⟨w5,s5⟩:=pj w4
 obtain ⟨w6,s6⟩:=oJ w5
 exact ⟨w6.mono (by omega),((((s1.trans s2).trans s3).trans s4).trans s5).trans s6⟩
theorem jj (f:Flt):minute f = {mid f with minute:=(mid f).minute+1}:=rfl
theorem WF.tP {g:Flt} (w:WF n g) {m:Int} (h:0<=m):WF n {g with minute:=m}:=
 ⟨w.c1,w.c2,w.t1,w.t2,w.s1,w.s2,w.p1,w.p2,w.park,w.onw,w.back,w.trk,w.shv,w.blk,w.stp,w.b20,w.z20,h,w.bk,w.ln⟩
theorem vR (w:WF n f):WF (n+22) (minute f):=by
 obtain ⟨w1,s1⟩:=ub w
 rw [jj]
 exact w1.tP (by rw [s1.m];have:=w.m0;omega)
theorem gv (w:WF n f):∀ k,WF (n+22*k) (minutes f k)
 | 0=>w
 | k+1=>(vR (gv w k)).mono (by rw [Nat.mul_succ];omega)
structure Sk (f g:Flt):Prop where
 t:g.aq.length=f.aq.length
 s:g.au.length=f.au.length
 p:g.br.length=f.br.length
 b:g.aA.length=f.aA.length
 z:g.cI=f.cI
 c:g.carries=f.carries
 r:g.rule=f.rule
 to:g.told=f.told
 r0:g.r0=f.r0
 r1:g.r1=f.r1
 r2:g.park=f.park
 r3:g.onw=f.onw
 r4:g.back=f.back
theorem Sk.trans {f g h:Flt} (a:Sk f g) (b:Sk g h):Sk f h:=
 ⟨b.t.trans a.t,b.s.trans a.s,b.p.trans a.p,b.b.trans a.b,b.z.trans a.z,b.c.trans a.c,b.r.trans a.r,b.to.trans a.to,b.r0.trans a.r0,b.r1.trans a.r1,b.r2.trans a.r2,b.r3.trans a.r3,b.r4.trans a.r4⟩
theorem Sk.refl (f:Flt):Sk f f:=⟨rfl,rfl,rfl,rfl,rfl,rfl,rfl,rfl,rfl,rfl,rfl,rfl,rfl⟩
theorem vQ (w:WF n f):Sk f (minute f)/\(minute f).minute=f.minute+1:=by
 obtain ⟨w1,h⟩:=ub w
 rw [jj]
 generalize mid f=g at h
 exact ⟨⟨h.t,h.s,h.p,h.b,h.z,h.c,h.r,h.to,h.r0,h.r1,h.r2,h.r3,h.r4⟩,by show g.minute+1=_;rw [h.m]⟩
theorem jx (w:WF n f):∀ k,Sk f (minutes f k)/\(minutes f k).minute=f.minute+(k:Int)
 | 0=>⟨Sk.refl f,by show f.minute=f.minute+((0:Nat):Int);omega⟩
 | k+1=>by
   obtain ⟨s1,m1⟩:=jx w k
   obtain ⟨s2,m2⟩:=vQ (gv w k)
   exact ⟨s1.trans s2,by
    have e:(minutes f (k+1)).minute=(minute (minutes f k)).minute:=rfl
    rw [e,m2,m1,Int.natCast_add];omega⟩
end
end Mi
namespace Mi
noncomputable def COk (c:Int×List Int):Prop:=
 (∃ s n k p:Int,c=(1,[s,n,k,p])/\1<=s/\s<=3/\1<=p/\p<=3/\1<=n/\n<=1000000/\1<=k/\k<=100000000)\/(∃ k w m l:Int,c=(2,[k,w,m,l])/\0<=k/\k<=1/\1<=w/\w<=8/\0<=m/\m<=1440/\1<=l/\l<=1440)\/(∃ n:Int,c=(3,[n])/\1<=n/\n<=1440)
structure WI (f:Flt):Prop where
 w:WF (22*f.minute.toNat) f
 m:f.minute<=1440
 c:∀ c ∈ f.told,COk c
section
variable {n:Nat} {f:Flt}
theorem TOk.mono {ns np nb nb':Nat} {t:Trk} (h:TOk ns np nb t) (e:nb<=nb'):TOk ns np nb' t:=⟨h.d0,h.d7,h.cnt,h.w0,h.w1,h.w4,h.l3,fun x hx=>Nat.lt_of_lt_of_le (h.l x hx) e⟩
theorem SOk.mono {nb nb':Nat} {t:Shv} (h:SOk nb t) (e:nb<=nb'):SOk nb' t:=⟨h.cnt,fun j hj=>Nat.lt_of_lt_of_le (h.row j hj) e,Nat.le_trans h.len e,h.t1,h.t2⟩
theorem WF.uR (w:WF n f) {b:Blk} (hb:f.aA.length < 20) (hp:1<=b.place/\b.place<=(f.br.length:Int)):WF n {f with aA:=f.aA++[b]} where
 c1:=w.c1
 c2:=w.c2
 t1:=w.t1
 t2:=w.t2
 s1:=w.s1
 s2:=w.s2
 p1:=w.p1
 p2:=w.p2
 park:=w.park
 onw:=w.onw
 back:=w.back
 trk:=fun u hu=>by show TOk _ _ (f.aA++[b]).length u;exact (w.trk u hu).mono (by simp)
 shv:=fun u hu=>by show SOk (f.aA++[b]).length u;exact (w.shv u hu).mono (by simp)
 blk:=fun u hu=>by
  rcases List.mem_append.mp hu with e | e
  ·exact w.blk u e
  ·rw [List.mem_singleton.mp e];exact hp
 stp:=w.stp
 b20:=by show (f.aA++[b]).length<=20;simp;omega
 z20:=w.z20
 m0:=w.m0
 bk:=w.bk
 ln:=w.ln
theorem qh (f:Flt) (s:Nat) (b:Blk):ej f s b=cZ {f with aA:=f.aA++[b]} s {ai f s with row:=(ai f s).row++[f.aA.length]}:=rfl
theorem WF.ej (w:WF n f) {s:Nat} {b:Blk} (hs:s < f.au.length) (hb:f.aA.length < 20) (hp:1<=b.place/\b.place<=(f.br.length:Int)):WF n (ej f s b):=by
 rw [qh]
 have t:=w.ai hs
 refine (w.uR hb hp).cZ ⟨t.cnt,fun j hj=>?_,?_,t.t1,t.t2⟩
 ·show j < (f.aA++[b]).length
  rcases List.mem_append.mp hj with e | e
  ·have:=t.row j e;simp;omega
  ·rw [List.mem_singleton.mp e];simp
 ·show ((Mi.ai f s).row++[f.aA.length]).length<=(f.aA++[b]).length
  have:=t.len;simp;omega
theorem WF.uu (w:WF n f) {z:Stp} (hb:f.cI.length < 20) (hz:ZOk f.aq.length f.au.length z):WF n {f with cI:=f.cI++[z]}:=
 {w with
  stp:=fun u hu=>by
   rcases List.mem_append.mp hu with e | e
   ·exact w.stp u e
   ·rw [List.mem_singleton.mp e];exact hz
  z20:=by show (f.cI++[z]).length<=20;simp;omega}
theorem WF.m8 (w:WF n f) (l:List (Int×List Int)):WF n {f with told:=l}:=
 ⟨w.c1,w.c2,w.t1,w.t2,w.s1,w.s2,w.p1,w.p2,w.park,w.onw,w.back,w.trk,w.shv,w.blk,w.stp,w.b20,w.z20,w.m0,w.bk,w.ln⟩
theorem xh {n c r:Int} {r0 r1 r2 r3 r4:List Int} (n1:1<=n) (n2:n<=8) (c1:1<=c) (c2:c<=1000000) (a1:1<=r0.length) (a2:r0.length<=3) (b1:1<=r1.length) (b2:r1.length<=3) (e2:r2.length=r0.length)
  (e3:r3.length=r0.length*r1.length) (e4:r4.length=r0.length*r1.length) (ht:∀ z ∈ r0,1<=z/\z<=60):WI (dq n c r r0 r1 r2 r3 r4) where
 w:={
  c1:=c1
  c2:=c2
  t1:=by simp [dq];omega
  t2:=by simp [dq];omega
  s1:=by simp [dq];omega
  s2:=by simp [dq];omega
  p1:=by simp [dq];omega
  p2:=by simp [dq];omega
  park:=by simp [dq];omega
  onw:=by simp [dq];omega
  back:=by simp [dq];omega
  trk:=fun t h=>by
   have h:t ∈ List.replicate n.toNat fq:=h
   rw [List.eq_of_mem_replicate h]
   exact ⟨by simp [fq],by simp [fq],by simp [fq],fun _=>by simp [fq],fun h=>by simp [fq] at h,fun h=>by simp [fq] at h,fun h=>by simp [fq] at h,fun x hx=>by simp [fq] at hx⟩
  shv:=fun s h=>by
   have h:s ∈ r0.map fun l=>{fO with time:=l}:=h
   obtain ⟨z,hz,rfl⟩:=List.mem_map.mp h
   exact ⟨by simp [fO],fun j hj=>by simp [fO] at hj,by simp [fO],(ht z hz).1,(ht z hz).2⟩
  blk:=fun b h=>by simp [dq] at h
  stp:=fun b h=>by simp [dq] at h
  b20:=by simp [dq]
  z20:=by simp [dq]
  m0:=by simp [dq]
  bk:=by simp [dq]
  ln:=fun b h=>by simp [dq] at h}
 m:=by simp [dq]
 c:=fun c h=>by simp [dq] at h
theorem qo (w:WI f) {s num k p:Int} (s1:1<=s) (p1:1<=p):WI (du f s num k p).1/\(du f s num k p).1.told=f.told:=by
 unfold du
 split
 ·exact ⟨w,rfl⟩
 ·rename_i h1
  split
  ·exact ⟨w,rfl⟩
  ·split
   ·exact ⟨w,rfl⟩
   ·rename_i h3
    have b:=w.w.b20
    have w1:=w.w.ej (s:=(s - 1).toNat) (b:=⟨num,k,k,0,p⟩) (by omega) (by omega) ⟨p1,by show p<=_;omega⟩
    obtain ⟨w2,s2⟩:=lU w1
    refine ⟨⟨?_,by show (dF _).minute<=1440;rw [s2.m];exact w.m,by show ∀ c ∈ (dF _).told,_;rw [s2.to];exact w.c⟩,by show (dF _).told=_;rw [s2.to];rfl⟩
    show WF (22*(dF _).minute.toNat) _
    rw [s2.m];exact w2
theorem rB (w:WI f) {k wh m l:Int} (k0:0<=k) (k1:k<=1) (w1:1<=wh):WI (dJ f k wh m l).1/\(dJ f k wh m l).1.told=f.told:=by
 unfold dJ
 split
 ·exact ⟨w,rfl⟩
 ·rename_i h1
  split
  ·exact ⟨w,rfl⟩
  ·split
   ·exact ⟨w,rfl⟩
   ·rename_i h3
    have b:=w.w.z20
    unfold things at h1
    refine ⟨⟨w.w.uu (by omega) ⟨?_⟩,w.m,w.c⟩,rfl⟩
    by_cases e:k=0
    ·rw [if_pos e] at h1
     exact .inl ⟨e,w1,by show wh<=_;omega⟩
    ·rw [if_neg e] at h1
     exact .inr ⟨by show k=1;omega,w1,by show wh<=_;omega⟩
theorem tE (w:WI f) {k:Int} (k1:1<=k):WI (fD f k).1/\(fD f k).1.told=f.told:=by
 unfold fD
 split
 ·exact ⟨w,rfl⟩
 ·rename_i h1
  obtain ⟨s1,m1⟩:=jx w.w k.toNat
  have w1:=gv w.w k.toNat
  have m0:=w.w.m0
  have e:(minutes f k.toNat).minute=f.minute+k:=by rw [m1];omega
  refine ⟨⟨?_,by show (minutes f k.toNat).minute<=1440;omega,by show ∀ c ∈ (minutes f k.toNat).told,_;rw [s1.to];exact w.c⟩,s1.to⟩
  show WF (22*(minutes f k.toNat).minute.toNat) (minutes f k.toNat)
  exact w1.mono (by rw [e];omega)
theorem rC (w:WI f) {c:Int×List Int} (hc:COk c):WI (dU f c).1/\(dU f c).1.told=f.told:=by
 rcases hc with ⟨s,n,k,p,rfl,h⟩ | ⟨k,wh,m,l,rfl,h⟩ | ⟨n,rfl,h⟩
 ·exact qo w h.1 h.2.2.1
 ·exact rB w h.1 h.2.1 h.2.2.1
 ·exact tE w h.1
theorem m5 (w:WI f) {c:Int×List Int} (hc:COk c):WI (tell f c).1/\((tell f c).1.told=f.told\/(tell f c).1.told=f.told++[c]):=by
 obtain ⟨w1,e1⟩:=rC w hc
 unfold tell
 show WI (if (dU f c).2.headD 1=0 then _ else _)/\_
 split
 ·refine ⟨⟨w1.w.m8 _,w1.m,fun u hu=>?_⟩,.inr ?_⟩
  ·rcases List.mem_append.mp hu with q | q
   ·exact w1.c u q
   ·rw [List.mem_singleton.mp q];exact hc
  ·rename_i h
   simp only [h,if_true]
   rw [e1]
 ·refine ⟨w1,.inl ?_⟩
  rename_i h
  simp only [h,if_false]
  exact e1
end
end Mi
namespace Mi
structure RI (f:Flt):Prop where
 c1:1<=f.carries
 c2:f.carries<=1000000
 a1:1<=f.r0.length
 a2:f.r0.length<=3
 b1:1<=f.r1.length
 b2:f.r1.length<=3
 e2:f.park.length=f.r0.length
 e3:f.onw.length=f.r0.length*f.r1.length
 e4:f.back.length=f.r0.length*f.r1.length
 t:∀ z ∈ f.r0,1<=z/\z<=60
structure RS (f g:Flt):Prop where
 c:g.carries=f.carries
 r:g.rule=f.rule
 r0:g.r0=f.r0
 r1:g.r1=f.r1
 r2:g.park=f.park
 r3:g.onw=f.onw
 r4:g.back=f.back
 t:g.aq.length=f.aq.length
 s:g.au.length=f.au.length
 p:g.br.length=f.br.length
theorem RS.refl (f:Flt):RS f f:=⟨rfl,rfl,rfl,rfl,rfl,rfl,rfl,rfl,rfl,rfl⟩
theorem RS.trans {f g h:Flt} (a:RS f g) (b:RS g h):RS f h:=⟨b.c.trans a.c,b.r.trans a.r,b.r0.trans a.r0,b.r1.trans a.r1,b.r2.trans a.r2,b.r3.trans a.r3,b.r4.trans a.r4,b.t.trans a.t,b.s.trans a.s,b.p.trans a.p⟩
theorem RS.ri {f g:Flt} (h:RS f g) (r:RI f):RI g:=
 ⟨by rw [h.c];exact r.c1,by rw [h.c];exact r.c2,by rw [h.r0];exact r.a1,by rw [h.r0];exact r.a2,by rw [h.r1];exact r.b1,by rw [h.r1];exact r.b2,by rw [h.r2,h.r0];exact r.e2,by rw [h.r3,h.r0,h.r1];exact r.e3,by rw [h.r4,h.r0,h.r1];exact r.e4,by rw [h.r0];exact r.t⟩
theorem Sh.rs {f g:Flt} (h:Sh f g):RS f g:=⟨h.c,h.r,h.r0,h.r1,h.r2,h.r3,h.r4,h.t,h.s,h.p⟩
theorem Sk.rs {f g:Flt} (h:Sk f g):RS f g:=⟨h.c,h.r,h.r0,h.r1,h.r2,h.r3,h.r4,h.t,h.s,h.p⟩
section
variable {f:Flt}
theorem wj (s:Nat) (b:Blk):RS f (ej f s b):=⟨rfl,rfl,rfl,rfl,rfl,rfl,rfl,rfl,by simp [ej],rfl⟩
theorem wx (w:WI f) {c:Int×List Int} (hc:COk c):RS f (dU f c).1:=by
 rcases hc with ⟨s,n,k,p,rfl,h⟩ | ⟨k,wh,m,l,rfl,h⟩ | ⟨n,rfl,h⟩
 ·show RS f (du f s n k p).1
  unfold du
  split
  ·exact RS.refl f
  ·rename_i h1
   split
   ·exact RS.refl f
   ·split
    ·exact RS.refl f
    ·rename_i h3
     have b:=w.w.b20
     have w1:=w.w.ej (s:=(s - 1).toNat) (b:=⟨n,k,k,0,p⟩) (by omega) (by omega) ⟨h.2.2.1,by show p<=_;omega⟩
     exact (wj _ _).trans (lU w1).2.rs
 ·show RS f (dJ f k wh m l).1
  unfold dJ
  split
  ·exact RS.refl f
  ·split
   ·exact RS.refl f
   ·split
    ·exact RS.refl f
    ·exact ⟨rfl,rfl,rfl,rfl,rfl,rfl,rfl,rfl,rfl,rfl⟩
 ·show RS f (fD f n).1
  unfold fD
  split
  ·exact RS.refl f
  ·exact (jx w.w n.toNat).1.rs
theorem qk (w:WI f) {c:Int×List Int} (hc:COk c):RS f (tell f c).1:=by
 have h:=wx w hc
 unfold tell
 show RS f (if (dU f c).2.headD 1=0 then _ else _)
 split
 ·exact ⟨h.c,h.r,h.r0,h.r1,h.r2,h.r3,h.r4,h.t,h.s,h.p⟩
 ·exact h
theorem rA (w:WI f) {c:Int×List Int} (hc:COk c):(tell f c).1.told.length<=f.told.length+1:=by
 rcases (m5 w hc).2 with e | e
 ·rw [e];omega
 ·rw [e];simp
theorem AM (r:RI f) {n rule:Int} (n1:1<=n) (n2:n<=8):WI (dq n f.carries rule f.r0 f.r1 f.park f.onw f.back):=xh n1 n2 r.c1 r.c2 r.a1 r.a2 r.b1 r.b2 r.e2 r.e3 r.e4 r.t
noncomputable def gb (f:Flt) (rule n:Int) (i:Nat):Flt:=(f.told.take i).foldl (fun g c=>(tell g c).1) (dq n f.carries rule f.r0 f.r1 f.park f.onw f.back)
theorem iR (w:WI f) (r:RI f) {n rule:Int} (n1:1<=n) (n2:n<=8):∀ i,i<=f.told.length->WI (gb f rule n i)/\(gb f rule n i).told.length<=i/\RS (dq n f.carries rule f.r0 f.r1 f.park f.onw f.back) (gb f rule n i)
 | 0,_=>by
   have e:gb f rule n 0=dq n f.carries rule f.r0 f.r1 f.park f.onw f.back:=rfl
   rw [e];exact ⟨AM r n1 n2,by simp [dq],RS.refl _⟩
 | i+1,h=>by
   obtain ⟨w1,l1,s1⟩:=iR w r n1 n2 (rule:=rule) i (by omega)
   obtain ⟨c,hc⟩:∃ c,f.told[i]? = some c:=⟨_,List.getElem?_eq_getElem (by omega)⟩
   have ok:=w.c c (List.mem_of_getElem? hc)
   have e:gb f rule n (i+1)=(tell (gb f rule n i) c).1:=by
    unfold gb;rw [List.take_add_one,hc,List.foldl_append];rfl
   rw [e]
   exact ⟨(m5 w1 ok).1,by have:=rA w1 ok;omega,s1.trans (qk w1 ok)⟩
theorem jo (f:Flt) (rule n:Int):again f rule n=gb f rule n f.told.length:=by unfold again gb;rw [List.take_length]
end
end Mi
namespace Ms
open PySem PySem.Spec PyProof.Rows L2
theorem aM {H:Hp} {l:Addr} {o:HO} (h:H l=none):aV H (upd H l o):=fun b u e=>by rw [ax (cC e h)];exact e
theorem eqI {a b:Int} (h:decide (V.int a=V.int b)=true):a=b:=by
 have:=of_decide_eq_true h
 injection this
theorem neI {a b:Int} (h:¬decide (V.int a=V.int b)=true):¬a=b:=fun z=>h (decide_eq_true (congrArg V.int z))
theorem jH {X:Cx} {x:Str} {a:Addr} {pos:Pos} (hg:Gl X x) (hm:X.mg x=some (.ref a)) (hd:(x==("__debug__":Str))=false:=by decide):PE X (.Name x pos) (tC (.ref a)):=uK hg hm rfl hd
theorem zZ {K:PySem.W.Frag} {mg:Str->Option Value} {A:Ad} {H:Hp} {c:Cn} {a dx:Addr} {fs:List (Str×V)} {f:Str} {v:V} {Q:V->Prop} (q:Q v) (h:H a=some (.ins (A.c c) dx fs):=by assumption)
  (T:Txt K mg A:=by assumption) (hf:(kH c).contains f=true:=by rfl) (hl:fs.lookup f=some v:=by rfl) :
  ∃ a' C dx' fs' v',V.ref a=.ref a'/\H a'=some (.ins C dx' fs')/\Cls K C/\dW K C f/\fs'.lookup f=some v'/\Q v':=⟨a,_,dx,fs,v,rfl,h,T.cl c,T.na c f hf,hl,q⟩
theorem iK {K:PySem.W.Frag} {mg:Str->Option Value} {A:Ad} {H:Hp} {c:Cn} {a dx:Addr} {fs fs':List (Str×V)} {f:Str} {v:V} {Q:Hp->Prop} (q:Q (upd H a (.ins (A.c c) dx fs'))) (h:H a=some (.ins (A.c c) dx fs):=by assumption)
  (T:Txt K mg A:=by assumption) (hf:(kH c).contains f=true:=by rfl) (hn:decide (fs.length < 1000)=true:=by rfl) (hl:gr f v fs=fs':=by rfl) :
  ∃ a' C dx' fs',V.ref a=.ref a'/\H a'=some (.ins C dx' fs')/\Cls K C/\dW K C f/\fs'.length < 1000/\Q (upd H a' (.ins C dx' (gr f v fs'))):=⟨a,_,dx,fs,rfl,h,T.cl c,T.na c f hf,of_decide_eq_true hn,by rw [hl];exact q⟩
theorem gq {K:PySem.W.Frag} {a:Addr} {α:Type} {l:List α} {F:α->V} {g:TG} {tt:TT} {te:TE} {vs:List Nat} {σ:L2.St} {H:Hp} {D:Addr} {Qd:Hp->Prop} (G:α->Option V) (hD:H D=none) (hl:SqL K H a (l.map F)) (hz:l.length < sizeLine)
  (hs:∀ y,y ∈ l->∀ H',aV H H'->∀ (R:V->Hp->Prop) (R0:Hp->Prop),(∀ z H4,aV H' H4->G y=some z->R z H4)->(∀ H3,aV H' H3->G y=none->R0 H3)->
   g (F y) (wipe σ vs) H' fun σ2 H2=>wipe σ2 vs=wipe σ vs/\tt σ2 H2 fun b H3=>if b=true then te σ2 H3 R else R0 H3)
  (hd:∀ H',aV H H'->H' D=some (.lst (l.filterMap G))->Qd H') :
  ∃ W:Nat->Nat->Hp->Prop,(∃ m,W 0 m (upd H D (.lst [])))/\∀ i m H,W i m H->
   ((Itl K a).stop i H/\Qd H)\/((Itl K a).go i H/\∃ Nx:Hp->Prop,(∀ H',Nx H'->∃ m',m' < m/\W (i+1) m' H')/\∀ x H',(Itl K a).yld i H x H'->g x (wipe σ vs) H' fun σ2 H2=>wipe σ2 vs=wipe σ vs/\tt σ2 H2 fun b H3=>
     if b=true then te σ2 H3 fun y H4=>∃ acc,H4 D=some (.lst acc)/\acc.length < sizeLine/\Nx (upd H4 D (.lst (acc++[y]))) else Nx H3):=by
 refine yH (K:=K) (a:=a) (xs:=l.map F) (fun i H'=>aV H H'/\H' D=some (.lst ((l.take i).filterMap G))) ⟨aM hD,aj⟩ (fun i H' _ h=>h.1.seq hl) (fun i x H' hx h=>?_) (fun H' h=>?_)
 ·obtain ⟨s,hD'⟩:=h
  rw [List.getElem?_map] at hx
  obtain ⟨y,hy,rfl⟩:=Option.map_eq_some_iff.mp hx
  have hm:y ∈ l:=List.mem_of_getElem? hy
  have ht:l.take (i+1)=l.take i++[y]:=by rw [List.take_add_one,hy];rfl
  have hlen:((l.take i).filterMap G).length < sizeLine:=Nat.lt_of_le_of_lt (Nat.le_trans (List.length_filterMap_le _ _) (by rw [List.length_take];exact Nat.min_le_right _ _)) hz
  refine hs y hm H' s _ _ (fun z H4 s4 hz=>?_) (fun H3 s3 hz=>?_)
  ·refine ⟨_,s4 _ _ hD',hlen,fun b u e=>?_,?_⟩
   ·rw [ax (cC e hD)];exact s4 _ _ (s _ _ e)
   ·rw [aj,ht,List.filterMap_append];simp [hz]
  ·refine ⟨s.trans s3,?_⟩
   rw [s3 _ _ hD',ht,List.filterMap_append];simp [hz]
 ·obtain ⟨s,hD'⟩:=h
  rw [List.length_map,List.take_length] at hD'
  exact hd H' s hD'
theorem dZ {α:Type} (g:α->Int) (l:List α):l.filterMap (fun y=>some (V.int (g y)))=(l.map g).map V.int:=by
 induction l with
 | nil=>rfl
 | cons a r ih=>simp [ih]
theorem e9 {α β:Type} (h:α->β) (d:α):∀ l:List α,(List.range l.length).map (fun i=>h (l.getD i d))=l.map h:=by
 intro l
 apply List.ext_getElem?
 intro i
 rw [List.getElem?_map,List.getElem?_map]
 by_cases hi:i < l.length
 ·rw [List.getElem?_range hi,List.getElem?_eq_getElem hi];simp [List.getD,hi]
 ·rw [List.getElem?_eq_none (by simpa using hi),List.getElem?_eq_none (by simpa using hi)];rfl
theorem bq {α:Type} {l:List α} {i:Nat} (h:i < l.length) (d:α):l[i]? = some (l.getD i d):=by simp [List.getD,h]
local macro_rules | `(tactic| walk_at "v")=>`(tactic| refine ⟨_,rfl,?_⟩)
local macro_rules | `(tactic| walk_at "f")=>`(tactic| refine zZ ?_)
local macro_rules | `(tactic| walk_at "w")=>`(tactic| (refine ⟨_,rfl,?_⟩;refine zZ ?_))
local macro_rules | `(tactic| walk_at "u")=>`(tactic| (refine ⟨_,rfl,?_⟩;refine ⟨_,rfl,?_⟩))
local macro_rules | `(tactic| walk_at "i")=>`(tactic| refine ⟨_,_,rfl,rfl,?_⟩)
local macro_rules | `(tactic| walk_at "r")=>`(tactic| repeat (first | refine ⟨_,rfl,?_⟩ | refine zZ ?_ | refine ⟨_,_,rfl,rfl,?_⟩))
section
variable {P:Program} {w:World} {K:PySem.W.Frag} {mg:Str->Option Value} {base:Heap} {A:Ad}
noncomputable def tM (A:Ad):Sp:=fun vs H Q _=>∃ (p:Pl) (f:Mi.Flt) (i:Nat) (t:Mi.Trk),vs=[.ref (p.a (.trk i))]/\dA A p f H/\f.aq[i]? = some t/\(∀ l,t.load=some l->l.1 < f.aA.length)/\
 ∀ (H':Hp) (x:Addr),H x=none->H' x=some (.lst ((Mi.dr f t).map V.int))->aV H H'->Q (.ref x) H'
theorem jJ (T:Txt K mg A):cD P w K mg base CX0 1 (A.f .bG) (A.fd .bG) (ps .bG) (tM A):=by
 refine (T.F .bG).ok nr (fun vs H Q E h=>?_) (fun cdv Ar outer s H vs Q E hr h=>?_)
 ·obtain ⟨p,f,i,t,rfl,_⟩:=h
  rfl
 ·obtain ⟨p,f,i,t,rfl,S,ht,hl,k⟩:=h
  refine ⟨_,(ab (cR (mK (tZ (ae (pv 0) rfl))) (ag (aG (bM (ah aB (ah aB af))))) bE)
   (ag (aG (bM (ah (ae (ae (ae (pv 0) rfl) rfl) rfl) (ah (ae (ae (pv 0) rfl) rfl) af)))))),?_⟩
  have h1:=S.trk ht
  cases e:t.load with
  | none=>
    rw [e] at h1
    walk_at "w";walk_at "v"
    refine BE ?_
    refine ⟨by show 2<=sizeLine;decide,fun x hx=>k _ x hx ?_ (aM hx)⟩
    rw [aj];unfold Mi.dr;rw [e];rfl
  | some l=>
    obtain ⟨j,kg⟩:=l
    rw [e] at h1
    have h2:=S.ld ht e
    obtain ⟨b,hb⟩:∃ b,f.aA[j]? = some b:=⟨_,List.getElem?_eq_getElem (hl _ e)⟩
    have h3:=S.blk hb
    walk_at "w";walk_at "v"
    refine BF ?_
    walk_at "w";walk_at "f";walk_at "f";walk_at "w";walk_at "f"
    refine ⟨by show 2<=sizeLine;decide,fun x hx=>k _ x hx ?_ (aM hx)⟩
    rw [aj];unfold Mi.dr Mi.ak;rw [e]
    simp [List.getD,hb]
noncomputable def wB (A:Ad):Sp:=fun vs H Q _=>∃ (p:Pl) (f:Mi.Flt) (k:Int),vs=[.ref (p.a .fl),.int k]/\dA A p f H/\Q (.ref (if k=0 then p.a .tL else p.a .sL)) H
theorem iy (T:Txt K mg A):cD P w K mg base CX0 1 (A.f .aJ) (A.fd .aJ) (ps .aJ) (wB A):=by
 refine (T.F .aJ).ok kW (fun vs H Q E h=>?_) (fun cdv Ar outer s H vs Q E hr h=>?_)
 ·obtain ⟨p,f,k,rfl,_⟩:=h
  rfl
 ·obtain ⟨p,f,k,rfl,S,q⟩:=h
  refine ⟨_,(ag (aG (rX (bB gd (pv 1) (bD rfl T.jN) (cn _)) (ae (pv 0) rfl) (ae (pv 0) rfl)))),?_⟩
  have h1:=S.fl
  walk_at "v"
  refine ⟨rfl,?_⟩
  walk_at "v"
  refine dG (fun e=>?_) (fun e=>?_)
  ·have e:k=0:=by simpa using e
   rw [if_pos e] at q
   walk_at "w";exact q
  ·have e:¬k=0:=by simpa using e
   rw [if_neg e] at q
   walk_at "w";exact q
noncomputable def nZ (A:Ad) (g:Mi.Flt->Int):Sp:=fun vs H Q _=>∃ (p:Pl) (f:Mi.Flt),vs=[.ref (p.a .fl)]/\dA A p f H/\f.br.length<=1000/\f.au.length<=1000/\(∀ s ∈ f.au,s.cnt.length=4)/\∀ (H':Hp),aV H H'->Q (.int (g f)) H'
theorem ib (T:Txt K mg A):cD P w K mg base CX0 1 (A.f .aZ) (A.fd .aZ) (ps .aZ) (nZ A Mi.cf):=by
 refine (T.F .aZ).ok i8 (fun vs H Q E h=>?_) (fun cdv Ar outer s H vs Q E hr h=>?_)
 ·obtain ⟨p,f,rfl,_⟩:=h
  rfl
 ·obtain ⟨p,f,rfl,S,hz,_,_,k⟩:=h
  refine ⟨_,(ag (aG (aP (kJ rfl) rfl T.mm boot_sum (ah (iY (g:=(gf 1)) (tt:=m6) (te:=(jW K (gm 1) "loads")) rfl i8.nd (dn (ae (pv 0) rfl)) (eZ (own:=[("place",1)]) (by rfl)) (fun _ _ _ _ _=>(bW (i:=1) i8.nd rfl (Or.inl rfl))) (fun _ _ _ _ _=>fY) (fun _ _ _ _ _=>(ae (pv 1) rfl))) af)))),?_⟩
  have h1:=S.fl
  walk_at "w"
  refine ⟨_,rfl,⟨_,SqL.of S.pL⟩,fun D hD=>gq (K:=K) (l:=List.range f.br.length) (F:=fun i=>V.ref (p.a (.plc i))) (fun i=>some (.int (Mi.bz f i).loads)) hD (SqL.of S.pL) (by rw [List.length_range];exact cG hz) ?_ ?_⟩
  ·intro i hi H' s' R R0 hR _
   have hi':i < f.br.length:=List.mem_range.mp hi
   have h2:=(S.same s').plc (bq hi' Mi.qC)
   refine ⟨rfl,?_⟩
   walk_at "w"
   exact hR _ _ (aV.refl _) rfl
  ·intro H' s' hD'
   rw [dZ] at hD'
   refine ⟨_,_,rfl,SqL.of hD',?_⟩
   have e:Mi.cf f=((List.range f.br.length).map fun i=>(Mi.bz f i).loads).sum:=by
    unfold Mi.cf Mi.bz
    rw [e9 (fun (q:Mi.Plc)=>q.loads)]
   rw [<-e];exact k H' s'
theorem iz (T:Txt K mg A):cD P w K mg base CX0 1 (A.f .aK) (A.fd .aK) (ps .aK) (nZ A Mi.dt):=by
 refine (T.F .aK).ok gh (fun vs H Q E h=>?_) (fun cdv Ar outer s H vs Q E hr h=>?_)
 ·obtain ⟨p,f,rfl,_⟩:=h
  rfl
 ·obtain ⟨p,f,rfl,S,hz,_,_,k⟩:=h
  refine ⟨_,(ag (aG (aP (kJ rfl) rfl T.mm boot_sum (ah (iY (g:=(gf 1)) (tt:=m6) (te:=(jW K (gm 1) "kilograms")) rfl gh.nd (dn (ae (pv 0) rfl)) (eZ (own:=[("place",1)]) (by rfl)) (fun _ _ _ _ _=>(bW (i:=1) gh.nd rfl (Or.inl rfl))) (fun _ _ _ _ _=>fY) (fun _ _ _ _ _=>(ae (pv 1) rfl))) af)))),?_⟩
  have h1:=S.fl
  walk_at "w"
  refine ⟨_,rfl,⟨_,SqL.of S.pL⟩,fun D hD=>gq (K:=K) (l:=List.range f.br.length) (F:=fun i=>V.ref (p.a (.plc i))) (fun i=>some (.int (Mi.bz f i).bU)) hD (SqL.of S.pL) (by rw [List.length_range];exact cG hz) ?_ ?_⟩
  ·intro i hi H' s' R R0 hR _
   have hi':i < f.br.length:=List.mem_range.mp hi
   have h2:=(S.same s').plc (bq hi' Mi.qC)
   refine ⟨rfl,?_⟩
   walk_at "w"
   exact hR _ _ (aV.refl _) rfl
  ·intro H' s' hD'
   rw [dZ] at hD'
   refine ⟨_,_,rfl,SqL.of hD',?_⟩
   have e:Mi.dt f=((List.range f.br.length).map fun i=>(Mi.bz f i).bU).sum:=by
    unfold Mi.dt Mi.bz
    rw [e9 (fun (q:Mi.Plc)=>q.bU)]
   rw [<-e];exact k H' s'
theorem fi (T:Txt K mg A):cD P w K mg base CX0 1 (A.f .az) (A.fd .az) (ps .az) (nZ A Mi.without):=by
 refine (T.F .az).ok fg (fun vs H Q E h=>?_) (fun cdv Ar outer s H vs Q E hr h=>?_)
 ·obtain ⟨p,f,rfl,_⟩:=h
  rfl
 ·obtain ⟨p,f,rfl,S,_,hz,hc,k⟩:=h
  refine ⟨_,(ag (aG (aP (kJ rfl) rfl T.mm boot_sum (ah (iY (g:=(gf 1)) (tt:=m6) (te:=(tOp (zG K) (jW K (gm 1) "counted") (tC (.int 2)))) rfl fg.nd (dn (ae (pv 0) rfl)) (eZ (own:=[("shovel",1)]) (by rfl)) (fun _ _ _ _ _=>(bW (i:=1) fg.nd rfl (Or.inl rfl))) (fun _ _ _ _ _=>fY) (fun _ _ _ _ _=>(cB bo (ae (pv 1) rfl) (bD rfl T.fG) (fun _ _=>rfl)))) af)))),?_⟩
  have h1:=S.fl
  walk_at "w"
  refine ⟨_,rfl,⟨_,SqL.of S.sL⟩,fun D hD=>gq (K:=K) (l:=List.range f.au.length) (F:=fun i=>V.ref (p.a (.shv i))) (fun i=>some (.int ((Mi.ai f i).cnt.getD 2 0))) hD (SqL.of S.sL) (by rw [List.length_range];exact cG hz) ?_ ?_⟩
  ·intro i hi H' s' R R0 hR _
   have hi':i < f.au.length:=List.mem_range.mp hi
   have h2:=(S.same s').shv (bq hi' Mi.fO)
   have h3:=(S.same s').sc (bq hi' Mi.fO)
   refine ⟨rfl,?_⟩
   walk_at "w"
   have h4:2 < (Mi.ai f i).cnt.length:=by
    have:=hc (Mi.ai f i) (List.mem_of_getElem? (bq hi' Mi.fO))
    omega
   refine ⟨_,_,_,_,rfl,rfl,SqL.of h3,bF (j:=2) (v:=V.int ((Mi.ai f i).cnt.getD 2 0)) ?_,?_⟩
   ·rw [List.getElem?_map];exact congrArg (Option.map V.int) (bq h4 0)
   ·exact hR _ _ (aV.refl _) rfl
  ·intro H' s' hD'
   rw [dZ] at hD'
   refine ⟨_,_,rfl,SqL.of hD',?_⟩
   have e:Mi.without f=((List.range f.au.length).map fun i=>(Mi.ai f i).cnt.getD 2 0).sum:=by
    unfold Mi.without Mi.ai
    rw [e9 (fun (q:Mi.Shv)=>q.cnt.getD 2 0)]
   rw [<-e];exact k H' s'
end
section
variable {P:Program} {w:World} {K:PySem.W.Frag} {mg:Str->Option Value} {base:Heap} {A:Ad}
theorem sV {l:List Int} {z:Int} (h0:0<=z) (h1:z < (l.length:Int)):atI (l.map V.int) z=some (V.int (l.getD z.toNat 0)):=by
 refine at_of (j:=z.toNat) (by omega) ?_
 rw [List.getElem?_map];exact congrArg (Option.map V.int) (bq (by omega) 0)
theorem wq {a b n m:Int} (h1:1<=a) (h2:a<=n) (h3:1<=b) (h4:b<=m):0<=(a - 1)*m+b - 1/\(a - 1)*m+b - 1 < n*m:=by
 have h5:0<=(a - 1)*m:=Int.mul_nonneg (by omega) (by omega)
 have h6:(a - 1)*m+m<=n*m:=by
  have:(a - 1)*m+m=a*m:=by rw [Int.sub_mul];omega
  rw [this];exact Int.mul_le_mul_of_nonneg_right h2 (by omega)
 omega
noncomputable def tJ (A:Ad):Sp:=fun vs H Q _=>∃ (p:Pl) (f:Mi.Flt) (n:Nat) (a s:Int),vs=[.ref (p.a .fl),.int a,.int s]/\dA A p f H/\Mi.WF n f/\0<=a/\a<=(f.br.length:Int)/\1<=s/\s<=(f.au.length:Int)/\Q (.int (Mi.gC f a s)) H
theorem hW (T:Txt K mg A):cD P w K mg base CX0 1 (A.f .aE) (A.fd .aE) (ps .aE) (tJ A):=by
 refine (T.F .aE).ok k9 (fun vs H Q E h=>?_) (fun cdv Ar outer s H vs Q E hr h=>?_)
 ·obtain ⟨p,f,n,a,s,rfl,_⟩:=h
  rfl
 ·obtain ⟨p,f,n,a,s,rfl,S,W,a0,a1,s1,s2,q⟩:=h
  refine ⟨_,(ab (cR (bB gd (pv 1) (bD rfl T.ui) (cn _)) (ag (aG (cB bo (ae (pv 0) rfl) (cS fR (pv 2) aB) (fun _ _=>rfl)))) bE)
   (ag (aG (cB bo (ae (pv 0) rfl) (cS fR (cS gU (cS mL (cS fR (pv 1) aB) (aP aD rfl T.dX PySem.boot_len (ah (ae (pv 0) rfl) af))) (pv 2)) aB) (fun _ _=>rfl))))),?_⟩
  have h1:=S.fl
  unfold Mi.gC at q
  walk_at "v"
  refine ⟨rfl,?_⟩
  walk_at "v"
  refine dG (fun e=>?_) (fun e=>?_)
  ·have e:a=0:=by simpa using e
   rw [if_pos e] at q
   walk_at "w";walk_at "v";walk_at "i"
   have:=W.park
   exact ⟨_,_,_,_,rfl,rfl,SqL.of S.ex.h2,sV (by omega) (by omega),q⟩
  ·have e:¬a=0:=by simpa using e
   rw [if_neg e] at q
   walk_at "w";walk_at "v";walk_at "i";walk_at "w"
   refine ⟨_,_,rfl,.inl (SqL.of S.sL),?_⟩
   rw [aI]
   have b1:=W.p2
   refine ⟨_,_,rfl,rfl,.inl ⟨by omega,by omega⟩,?_⟩
   walk_at "v";walk_at "i";walk_at "i"
   have hb:=W.back
   have z:=wq (a:=a) (b:=s) (n:=(f.br.length:Int)) (m:=(f.au.length:Int)) (by omega) a1 s1 s2
   have z2:((f.br.length:Int)*(f.au.length:Int))=(f.back.length:Int):=by rw [hb,Int.mul_comm];simp
   exact ⟨_,_,_,_,rfl,rfl,SqL.of S.ex.h4,sV z.1 (by omega),q⟩
noncomputable def vx (A:Ad):Sp:=fun vs H Q _=>∃ (p:Pl) (f:Mi.Flt) (n:Nat) (s a:Int),vs=[.ref (p.a .fl),.int s,.int a]/\dA A p f H/\Mi.WF n f/\1<=a/\a<=(f.br.length:Int)/\1<=s/\s<=(f.au.length:Int)/\Q (.int (Mi.iV f s a)) H
theorem lq (T:Txt K mg A):cD P w K mg base CX0 1 (A.f .aS) (A.fd .aS) (ps .aS) (vx A):=by
 refine (T.F .aS).ok kY (fun vs H Q E h=>?_) (fun cdv Ar outer s H vs Q E hr h=>?_)
 ·obtain ⟨p,f,n,s,a,rfl,_⟩:=h
  rfl
 ·obtain ⟨p,f,n,s,a,rfl,S,W,a0,a1,s1,s2,q⟩:=h
  refine ⟨_,(ag (aG (cB bo (ae (pv 0) rfl) (cS fR (cS gU (cS mL (cS fR (pv 1) aB) (aP aD rfl T.dX PySem.boot_len (ah (ae (pv 0) rfl) af))) (pv 2)) aB) (fun _ _=>rfl)))),?_⟩
  have h1:=S.fl
  unfold Mi.iV at q
  walk_at "w";walk_at "v";walk_at "i";walk_at "w"
  refine ⟨_,_,rfl,.inl (SqL.of S.pL),?_⟩
  rw [aI]
  have b1:=W.s2
  refine ⟨_,_,rfl,rfl,.inl ⟨by omega,by omega⟩,?_⟩
  walk_at "v";walk_at "i";walk_at "i"
  have hb:=W.onw
  have z:=wq (a:=s) (b:=a) (n:=(f.au.length:Int)) (m:=(f.br.length:Int)) s1 s2 a0 a1
  have z2:((f.au.length:Int)*(f.br.length:Int))=(f.onw.length:Int):=by rw [hb];simp
  exact ⟨_,_,_,_,rfl,rfl,SqL.of S.ex.h3,sV z.1 (by omega),q⟩
noncomputable def rJ (A:Ad):Sp:=fun vs H Q _=>∃ (p:Pl) (f:Mi.Flt) (n i:Nat),vs=[.ref (p.a .fl),.ref (p.a (.shv i))]/\dA A p f H/\Mi.WF n f/\i < f.au.length/\∀ (H':Hp),aV H H'->Q (.int (Mi.fF f (Mi.ai f i).row)) H'
theorem ja (T:Txt K mg A):cD P w K mg base CX0 1 (A.f .bV) (A.fd .bV) (ps .bV) (rJ A):=by
 refine (T.F .bV).ok j8 (fun vs H Q E h=>?_) (fun cdv Ar outer s H vs Q E hr h=>?_)
 ·obtain ⟨p,f,n,i,rfl,_⟩:=h
  rfl
 ·obtain ⟨p,f,n,i,rfl,S,W,hi,k⟩:=h
  refine ⟨_,(ag (aG (aP (kJ rfl) rfl T.mm boot_sum (ah (iY (g:=(gf 2)) (tt:=m6) (te:=(tOp (rI B9 fun i j=>.int (i / j)) (tOp (rI0 fun i j=>.int (i - j)) (tOp (rI0 fun i j=>.int (i+j)) (jW K (gm 2) "left") (jW K (gm 0) "carries")) (tC (.int 1))) (jW K (gm 0) "carries"))) rfl j8.nd (dn (ae (pv 1) rfl)) (eZ (own:=[("block",2)]) (by rfl)) (fun _ _ _ _ _=>(bW (i:=2) j8.nd rfl (Or.inl rfl))) (fun _ _ _ _ _=>fY) (fun _ _ _ _ _=>(cS uN (cS fR (cS gU (ae (pv 2) rfl) (ae (pv 0) rfl)) aB) (ae (pv 0) rfl)))) af)))),?_⟩
  have h1:=S.shv (bq hi Mi.fO)
  have h2:=S.row (bq hi Mi.fO)
  have W2:=W.ai hi
  have b20:=W.b20
  walk_at "w"
  refine ⟨_,rfl,⟨_,SqL.of h2⟩,fun D hD=>gq (K:=K) (l:=(Mi.ai f i).row) (F:=fun j=>V.ref (p.a (.blk j))) (fun j=>some (.int (((Mi.ak f j).left+f.carries - 1) / f.carries))) hD (SqL.of h2) (cG (by have:=W2.len;omega)) ?_ ?_⟩
  ·intro j hj H' s' R R0 hR _
   have hj':=W2.row j hj
   have h3:=(S.same s').blk (bq hj' Mi.uq)
   have h4:=(S.same s').fl
   refine ⟨rfl,?_⟩
   walk_at "w";walk_at "w";walk_at "i";walk_at "i";walk_at "w"
   have c1:=W.c1
   have c2:=W.c2
   refine ⟨_,_,rfl,rfl,⟨by omega,by omega⟩,?_⟩
   exact hR _ _ (aV.refl _) rfl
  ·intro H' s' hD'
   rw [dZ] at hD'
   exact ⟨_,_,rfl,SqL.of hD',k H' s'⟩
noncomputable def vz (K:PySem.W.Frag) (A:Ad):Sp:=fun vs H Q _=>∃ (p:Pl) (f:Mi.Flt) (td:Addr) (ds:List Int) (a:Int),vs=[.ref (p.a .fl),.ref td,.int a]/\dA A p f H/\f.aq.length<=8/\SqT K H td (ds.map V.int)/\∀ (H':Hp),aV H H'->Q (.int (Mi.cE f ds a)) H'
theorem yX {K:PySem.W.Frag} {H H':Hp} {a:Addr} {xs:List V} (e:aV H H') (h:SqT K H a xs):SqT K H' a xs:=by
 rcases h with (h | ⟨o,h⟩) | h
 ·exact .inl (.inl (e _ _ h))
 ·exact .inl (.inr ⟨o,e _ _ h⟩)
 ·exact .inr h
theorem kx (x:Int) (l:List Int):inV (V.int x) (l.map V.int)=l.contains x:=by
 unfold inV
 induction l with
 | nil=>rfl
 | cons a r ih=>
   rw [List.map_cons,List.any_cons,List.contains_cons,ih]
   congr 1
   show (a==x)=(x==a)
   exact Bool.beq_comm
theorem qb (l:List Int):(l.map V.int).all my=true:=by
 induction l with
 | nil=>rfl
 | cons a r ih=>rw [List.map_cons,List.all_cons,ih];rfl
theorem xE {α:Type} (F:Nat->α) (q:Nat->Bool):∀ l:List Nat,(l.filterMap fun i=>if q i=true then some (F i) else none).length=(l.filter q).length:=by
 intro l
 induction l with
 | nil=>rfl
 | cons a r ih=>by_cases h:q a=true<;>simp [h,ih]
theorem tX {α:Type} (q:α->Bool) (d:α):∀ l:List α,((List.range l.length).filter fun i=>q (l.getD i d)).length=(l.filter q).length:=by
 intro l
 rw [<-List.countP_eq_length_filter,<-List.countP_eq_length_filter]
 have h:=e9 (fun x:α=>x) d l
 rw [List.map_id'] at h
 conv=>rhs;rw [<-h]
 rw [List.countP_map];rfl
theorem hZ (T:Txt K mg A):cD P w K mg base CX0 1 (A.f .cg) (A.fd .cg) (ps .cg) (vz K A):=by
 refine (T.F .cg).ok ka (fun vs H Q E h=>?_) (fun cdv Ar outer s H vs Q E hr h=>?_)
 ·obtain ⟨p,f,td,ds,a,rfl,_⟩:=h
  rfl
 ·obtain ⟨p,f,td,ds,a,rfl,S,t8,hd,k⟩:=h
  refine ⟨_,(ag (aG (aP aD rfl T.dX PySem.boot_len (ah (iY (g:=(gf 3)) (tt:=(Ay (rD (tOp (rIn K false) (jW K (gm 3) "does") (gm 1))) (rD (tOp rEq (jW K (gm 3) "where") (gm 2))))) (te:=(gm 3)) rfl ka.nd (dn (ae (pv 0) rfl)) (eZ (own:=[("truck",3)]) (by rfl)) (fun _ _ _ _ _=>(bW (i:=3) ka.nd rfl (Or.inl rfl))) (fun _ _ _ _ _=>(uE (PW.pt (kb (bB jf (ae (pv 3) rfl) (pv 1) (by with_unfolding_all rfl)) (kN (bB gd (ae (pv 3) rfl) (pv 2) (cn _))))))) (fun _ _ _ _ _=>(pv 3))) af)))),?_⟩
  have h1:=S.fl
  walk_at "w"
  refine ⟨_,rfl,⟨_,SqL.of S.tL⟩,fun D hD=>gq (K:=K) (l:=List.range f.aq.length) (F:=fun i=>V.ref (p.a (.trk i))) (fun i=>if Mi.isAt ds a (Mi.aa f i)=true then some (V.ref (p.a (.trk i))) else none) hD (SqL.of S.tL) (by rw [List.length_range];exact cG (by omega)) ?_ ?_⟩
  ·intro i hi H' s' R R0 hR hR0
   have hi':i < f.aq.length:=List.mem_range.mp hi
   have h2:=(S.same s').trk (bq hi' Mi.fq)
   refine ⟨rfl,?_⟩
   walk_at "w";walk_at "v"
   refine ⟨_,_,rfl,.inr (yX s' hd),rfl,qb ds,?_⟩
   walk_at "v"
   have e1:(if false=true then !inV (V.int (Mi.aa f i).does) (ds.map V.int) else inV (V.int (Mi.aa f i).does) (ds.map V.int))=ds.contains (Mi.aa f i).does:=by
    rw [if_neg (by decide)];exact kx _ _
   refine dG (fun e=>?_) (fun e=>?_)
   ·have e:ds.contains (Mi.aa f i).does=true:=e1.symm.trans e
    walk_at "w";walk_at "v"
    refine ⟨rfl,?_⟩
    walk_at "v"
    refine dG (fun e2=>?_) (fun e2=>?_)
    ·have e2:(Mi.aa f i).at_=a:=by have:=of_decide_eq_true e2;cases this;rfl
     walk_at "v"
     refine hR _ _ (aV.refl _) ?_
     rw [if_pos];unfold Mi.isAt;rw [e,e2];simp
    ·have e2:¬(Mi.aa f i).at_=a:=fun z=>e2 (decide_eq_true (congrArg V.int z))
     refine hR0 _ (aV.refl _) ?_
     rw [if_neg];unfold Mi.isAt;rw [e];simp [e2]
   ·have e:¬ds.contains (Mi.aa f i).does=true:=fun z=>e (e1.trans z)
    refine hR0 _ (aV.refl _) ?_
    rw [if_neg];unfold Mi.isAt;simp at e;simp [e]
  ·intro H' s' hD'
   refine ⟨_,_,rfl,.inl (SqL.of hD'),?_⟩
   have e:((List.range f.aq.length).filterMap fun i=>if Mi.isAt ds a (Mi.aa f i)=true then some (V.ref (p.a (.trk i))) else none).length=(f.aq.filter (Mi.isAt ds a)).length:=by
    rw [xE (fun i=>V.ref (p.a (.trk i))) (fun i=>Mi.isAt ds a (Mi.aa f i))]
    exact tX (Mi.isAt ds a) Mi.fq f.aq
   rw [e];exact k H' s'
end
section
variable {P:Program} {w:World} {K:PySem.W.Frag} {mg:Str->Option Value} {base:Heap} {A:Ad}
noncomputable def wC (A:Ad):Sp:=fun vs H Q _=>∃ (p:Pl) (f:Mi.Flt) (i:Nat),vs=[.ref (p.a .fl),.ref (p.a (.shv i))]/\dA A p f H/\f.aq.length<=8/\i < f.au.length/\∀ (H':Hp),aV H H'->Q (.int (Mi.cE f [1,2] ((i:Int)+1))) H'
theorem jg (T:Txt K mg A):cD P w K mg base CX0 2 (A.f .bu) (A.fd .bu) (ps .bu) (wC A):=by
 refine (T.F .bu).ok mJ (fun vs H Q E h=>?_) (fun cdv Ar outer s H vs Q E hr h=>?_)
 ·obtain ⟨p,f,i,rfl,_⟩:=h
  rfl
 ·obtain ⟨p,f,i,rfl,S,t8,hi,k⟩:=h
  refine ⟨_,(ag (aG (aO (hZ T) hr rfl (T.g .cg rfl) (T.F .cg).kp (T.b .cg) (ah (pv 0) (ah (jH rfl T.sF) (ah (ae (pv 1) rfl) af)))))),?_⟩
  have h1:=S.shv (bq hi Mi.fO)
  walk_at "v";walk_at "w"
  exact ⟨p,f,_,[1,2],_,rfl,S,t8,T.rP H,k⟩
noncomputable def ux (t:Int×Int×Int):List V:=[.int t.1,.int t.2.1,.int t.2.2]
noncomputable def y8 (A:Ad):Sp:=fun vs H Q _=>∃ (p:Pl) (f:Mi.Flt) (n:Nat) (a:Int) (i:Nat),vs=[.ref (p.a .fl),.int a,.ref (p.a (.shv i))]/\dA A p f H/\Mi.WF n f/\0<=a/\a<=(f.br.length:Int)/\i < f.au.length/\
 ∀ (H':Hp) (x:Addr),H x=none->H' x=some (.tup (ux (Mi.three f a i)))->aV H H'->Q (.ref x) H'
theorem mM (T:Txt K mg A):cD P w K mg base CX0 2 (A.f .bK) (A.fd .bK) (ps .bK) (y8 A):=by
 refine (T.F .bK).ok gN (fun vs H Q E h=>?_) (fun cdv Ar outer s H vs Q E hr h=>?_)
 ·obtain ⟨p,f,n,a,i,rfl,_⟩:=h
  rfl
 ·obtain ⟨p,f,n,a,i,rfl,S,W,a0,a1,hi,k⟩:=h
  refine ⟨_,(ab (bC (i:=3) gN.nd rfl (Or.inl rfl) (aO (hW T) hr rfl (T.g .aE rfl) (T.F .aE).kp (T.b .aE) (ah (pv 0) (ah (pv 1) (ah (ae (pv 2) rfl) af)))))
   (ab (bC (i:=4) gN.nd rfl (Or.inl rfl) (aO (hZ T) hr rfl (T.g .cg rfl) (T.F .cg).kp (T.b .cg) (ah (pv 0) (ah (jH rfl T.lC) (ah (ae (pv 2) rfl) af)))))
   (ab (cR (bB gd (ae (pv 0) rfl) aB (cn _)) (ag (aG (ki (ah (pv 4) (ah (pv 3) (ah (ae (pv 2) rfl) af)))))) bE)
   (ab (cR (bB gd (ae (pv 0) rfl) aB (cn _)) (ag (aG (ki (ah (pv 3) (ah (pv 4) (ah (ae (pv 2) rfl) af)))))) bE)
   (ag (aG (ki (ah (cS gU (pv 3) (cS mL (ae (pv 2) rfl) (pv 4))) (ah (pv 4) (ah (ae (pv 2) rfl) af)))))))))),?_⟩
  have h1:=S.shv (bq hi Mi.fO)
  walk_at "u";walk_at "w"
  refine ⟨p,f,n,a,_,rfl,S,W,a0,a1,by omega,by omega,?_⟩
  walk_at "v";walk_at "w"
  refine ⟨p,f,_,[1,2,3],_,rfl,S,W.t2,T.lA H,fun H1 s1=>?_⟩
  have S1:=S.same s1
  have h2:=S1.shv (bq hi Mi.fO)
  have h3:=S1.fl
  have fin:∀ (t:Int×Int×Int),Mi.three f a i=t->∀ x,H1 x=none->Q (.ref x) (upd H1 x (.tup (ux t))):=fun t e x hx=>by
   subst e
   exact k _ x (s1.free hx) aj (s1.trans (aM hx))
  walk_at "w"
  refine ⟨rfl,?_⟩
  walk_at "v"
  refine dG (fun e=>?_) (fun e=>?_)
  ·have e:f.rule=0:=eqI e
   walk_at "u";walk_at "w"
   exact ⟨by show 3<=sizeLine;decide,fun x hx=>fin (_,_,_) (by unfold Mi.three;rw [if_pos e];rfl) x hx⟩
  ·have e:¬f.rule=0:=fun z=>e (decide_eq_true (congrArg V.int z))
   walk_at "w"
   refine ⟨rfl,?_⟩
   walk_at "v"
   refine dG (fun e2=>?_) (fun e2=>?_)
   ·have e2:f.rule=1:=eqI e2
    walk_at "u";walk_at "w"
    exact ⟨by show 3<=sizeLine;decide,fun x hx=>fin (_,_,_) (by unfold Mi.three;rw [if_neg e,if_pos e2];rfl) x hx⟩
   ·have e2:¬f.rule=1:=fun z=>e2 (decide_eq_true (congrArg V.int z))
    walk_at "v";walk_at "w";walk_at "v"
    have W2:=W.ai hi
    have b1:=W2.t1
    have b2:=W2.t2
    refine ⟨_,_,rfl,rfl,.inl ⟨by show _ < (Mi.ai f i).time;omega,by show (Mi.ai f i).time < _;omega⟩,?_⟩
    walk_at "i";walk_at "v";walk_at "w"
    exact ⟨by show 3<=sizeLine;decide,fun x hx=>fin (_,_,_) (by unfold Mi.three;rw [if_neg e,if_neg e2];rfl) x hx⟩
noncomputable def jD (H:Hp) (as:List Addr) (ts:List (Int×Int×Int)):Prop:=as.length=ts.length/\∀ (j:Nat) (b:Addr) (t:Int×Int×Int),as[j]? = some b->ts[j]? = some t->H b=some (.tup (ux t))
theorem jD.same {H H':Hp} {as:List Addr} {ts:List (Int×Int×Int)} (s:aV H H') (h:jD H as ts):jD H' as ts:=⟨h.1,fun j b t h1 h2=>s _ _ (h.2 j b t h1 h2)⟩
theorem jD.snoc {H:Hp} {as:List Addr} {ts:List (Int×Int×Int)} {b:Addr} {t:Int×Int×Int} (h:jD H as ts) (hb:H b=some (.tup (ux t))):jD H (as++[b]) (ts++[t]):=by
 refine ⟨by simp [h.1],fun j c u h1 h2=>?_⟩
 by_cases hj:j < as.length
 ·rw [List.getElem?_append_left hj] at h1
  rw [List.getElem?_append_left (by rw [<-h.1];exact hj)] at h2
  exact h.2 j c u h1 h2
 ·rw [List.getElem?_append_right (by omega)] at h1
  rw [List.getElem?_append_right (by rw [<-h.1];omega)] at h2
  have hl:=h.1
  have hj0:j - as.length=0:=by
   have:=(List.getElem?_eq_some_iff.mp h1).1
   simp at this;omega
  rw [hj0] at h1
  rw [<-hl,hj0] at h2
  simp at h1 h2
  rw [<-h1,<-h2];exact hb
theorem jv (f:Mi.Flt) (a:Int) (n:Nat):Mi.eE f a (n+1)=Mi.eE f a n++(if Mi.cE f [1,2] ((n:Int)+1) < Mi.fF f (Mi.ai f n).row then [Mi.three f a n] else []):=by
 unfold Mi.eE
 rw [List.range_succ,List.filter_append,List.map_append]
 congr 1
 by_cases h:Mi.cE f [1,2] ((n:Int)+1) < Mi.fF f (Mi.ai f n).row<;>simp [h]
theorem vG (f:Mi.Flt) (a:Int) (n:Nat):(Mi.eE f a n).length<=n:=by
 unfold Mi.eE
 rw [List.length_map]
 exact Nat.le_trans (List.length_filter_le _ _) (by simp)
theorem BA (a b:Int×Int×Int):HT.lexLt [a.1,a.2.1,a.2.2] [b.1,b.2.1,b.2.2]=Mi.ltT a b:=by
 obtain ⟨a1,a2,a3⟩:=a
 obtain ⟨b1,b2,b3⟩:=b
 unfold Mi.ltT
 rw [HT.gW,HT.gW,HT.gW,HT.lB]
 by_cases e1:a1=b1
 ·subst e1
  by_cases e2:a2=b2
  ·subst e2
   by_cases e3:a3=b3
   ·subst e3;simp
   ·simp [e3]
  ·simp [e2]
 ·simp [e1]
theorem yE (a b:Int×Int×Int) (h:Mi.ltT a b=true):Mi.ltT b a=false:=by
 obtain ⟨a1,a2,a3⟩:=a
 obtain ⟨b1,b2,b3⟩:=b
 unfold Mi.ltT at *
 simp at *
 omega
theorem xm (a b c:Int×Int×Int) (h:Mi.ltT b a=false) (h2:Mi.ltT c b=false):Mi.ltT c a=false:=by
 obtain ⟨a1,a2,a3⟩:=a
 obtain ⟨b1,b2,b3⟩:=b
 obtain ⟨c1,c2,c3⟩:=c
 unfold Mi.ltT at *
 simp at *
 omega
theorem zQ (a b:Int×Int×Int) (h:Mi.ltT b a=false) (h2:Mi.ltT a b=false):a=b:=by
 obtain ⟨a1,a2,a3⟩:=a
 obtain ⟨b1,b2,b3⟩:=b
 unfold Mi.ltT at *
 simp at *
 refine ⟨?_,?_,?_⟩<;>omega
theorem oK:∀ (l:List (Int×Int×Int)) (x:Int×Int×Int),(Mi.ic x l=x\/Mi.ic x l ∈ l)/\Mi.ltT x (Mi.ic x l)=false/\∀ y ∈ l,Mi.ltT y (Mi.ic x l)=false
 | [],x=>⟨.inl rfl,by unfold Mi.ic Mi.ltT;simp,fun y h=>absurd h (by simp)⟩
 | z::l,x=>by
   have e:Mi.ic x (z::l)=Mi.ic (if Mi.ltT z x then z else x) l:=rfl
   rw [e]
   by_cases h:Mi.ltT z x=true
   ·rw [if_pos h]
    obtain ⟨h1,h2,h3⟩:=oK l z
    refine ⟨.inr ?_,xm _ z _ h2 (yE _ _ h),fun y hy=>?_⟩
    ·rcases h1 with q | q
     ·rw [q];simp
     ·simp [q]
    ·rcases List.mem_cons.mp hy with q | q
     ·rw [q];exact h2
     ·exact h3 y q
   ·rw [if_neg h]
    obtain ⟨h1,h2,h3⟩:=oK l x
    refine ⟨?_,h2,fun y hy=>?_⟩
    ·rcases h1 with q | q
     ·exact .inl q
     ·exact .inr (by simp [q])
    ·rcases List.mem_cons.mp hy with q | q
     ·rw [q];exact xm _ x _ h2 (by simpa using h)
     ·exact h3 y q
noncomputable def wD (A:Ad):Sp:=fun vs H Q _=>∃ (p:Pl) (f:Mi.Flt) (n:Nat) (a:Int),vs=[.ref (p.a .fl),.int a]/\dA A p f H/\Mi.WF n f/\0<=a/\a<=(f.br.length:Int)/\∀ (H':Hp),aV H H'->Q (.int (Mi.chosen f a)) H'
theorem ji (T:Txt K mg A):cD P w K mg base CX0 3 (A.f .bx) (A.fd .bx) (ps .bx) (wD A):=by
 refine (T.F .bx).ok gP (fun vs H Q E h=>?_) (fun cdv Ar outer s H vs Q E hr h=>?_)
 ·obtain ⟨p,f,n,a,rfl,_⟩:=h
  rfl
 ·obtain ⟨p,f,n,a,rfl,S,W,a0,a1,k⟩:=h
  refine ⟨_,(ab (bC (i:=2) gP.nd rfl (Or.inl rfl) (bM af))
   (ab (fh PassesOwn.never rfl (dn (ae (pv 0) rfl)) (bW (i:=3) gP.nd rfl (Or.inl rfl))
   (ag (cR (bB iZ (aO (ja T) (hr.mono (by decide)) rfl (T.g .bV rfl) (T.F .bV).kp (T.b .bV) (ah (pv 0) (ah (pv 3) af))) (aO (jg T) hr rfl (T.g .bu rfl) (T.F .bu).kp (T.b .bu) (ah (pv 0) (ah (pv 3) af))) (cn _)) (ag (cH (jI PySem.F.plainAttrs_list PySem.F.slot_list_append PySem.F.type_list_append gB (pv 2) (ah (aO (mM T) hr rfl (T.g .bK rfl) (T.F .bK).kp (T.b .bK) (ah (pv 0) (ah (pv 1) (ah (pv 3) af)))) af)))) bE)))
   (ab (cR (bB gd (aP aD rfl T.dX PySem.boot_len (ah (pv 2) af)) aB (cn _)) (ag (aG aB)) bE)
   (ag (aG (cB lP (aP (yL rfl hr.units) rfl T.x9 boot_min (ah (pv 2) af)) aB (fun _ _=>rfl))))))),?_⟩
  refine ⟨Nat.zero_le _,fun D hD=>?_⟩
  have s0:aV H (upd H D (.lst [])):=aM hD
  have h1:=(S.same s0).fl
  walk_at "w"
  refine ⟨_,rfl,⟨_,SqL.of (S.same s0).sL⟩,eW (K:=K) (xs:=refs p .shv f.au.length) (fun i σ H'=>∃ (v:Option V) (as:List Addr),σ=[some (.ref (p.a .fl)),some (.int a),some (.ref D),v]/\aV H H'/\H' D=some (.lst (as.map V.ref))/\jD H' as (Mi.eE f a i))
   ⟨none,[],rfl,s0,aj,rfl,fun j b t h1 _=>absurd h1 (by simp)⟩ (fun i σ H' _ ⟨_,_,_,s1,_⟩=>SqL.of (S.same s1).sL) ?_ ?_⟩
  ·rintro i y σ H' hi ⟨v,as,rfl,s1,hD1,tr⟩
   obtain ⟨hi',rfl⟩:=f7 hi
   have S1:=S.same s1
   walk_at "u"
   refine ⟨p,f,n,i,rfl,S1,W,hi',fun H2 s2=>?_⟩
   have S2:=S1.same s2
   walk_at "u"
   refine ⟨p,f,i,rfl,S2,W.t2,hi',fun H3 s3=>?_⟩
   have S3:=S2.same s3
   have s13:=s2.trans s3
   walk_at "i";walk_at "v"
   refine dG (fun e=>?_) (fun e=>?_)
   ·have e:=of_decide_eq_true e
    walk_at "v"
    refine ⟨.inl ⟨rfl,_,SqL.of (s13 _ _ hD1)⟩,?_⟩
    walk_at "u";walk_at "v"
    refine ⟨p,f,n,a,i,rfl,S3,W,a0,a1,hi',fun H4 x hx hx4 s4=>?_⟩
    have s14:=s13.trans s4
    have hl:as.length < 1000:=by
     have:=vG f a i
     have:=W.s2
     have:=tr.1
     omega
    refine ⟨_,_,_,rfl,rfl,s14 _ _ hD1,by rw [List.length_map];exact cG (Nat.le_of_lt hl),?_⟩
    have xD:x≠D:=fun z=>by rw [z,s13 _ _ hD1] at hx;cases hx
    refine ⟨_,as++[x],rfl,fun b u hb=>?_,?_,?_⟩
    ·rw [ax (cC hb hD)];exact s14 _ _ (s1 _ _ hb)
    ·rw [aj];simp
    ·rw [jv,if_pos e]
     have tr4:=(tr.same s14).snoc hx4
     exact ⟨tr4.1,fun j b t h1 h2=>by
      have z:=tr4.2 j b t h1 h2
      rw [ax (mj z (s14 _ _ hD1) (by intro q;cases q))];exact z⟩
   ·have e:=fun z=>e (decide_eq_true z)
    refine ⟨_,as,rfl,s1.trans s13,s13 _ _ hD1,?_⟩
    rw [jv,if_neg e,List.append_nil];exact tr.same s13
  ·rintro σ H' ⟨v,as,rfl,s1,hD1,tr⟩
   rw [aI] at tr
   walk_at "v"
   refine ⟨_,_,rfl,.inl (SqL.of hD1),?_⟩
   rw [List.length_map]
   refine ⟨rfl,?_⟩
   walk_at "v"
   refine dG (fun e=>?_) (fun e=>?_)
   ·have e:(as.length:Int)=0:=by have:=of_decide_eq_true e;injection this
    have e2:Mi.eE f a f.au.length=[]:=List.eq_nil_of_length_eq_zero (by have:=tr.1;omega)
    have e3:Mi.chosen f a=0:=by unfold Mi.chosen;rw [e2]
    have:=k H' s1
    rw [e3] at this;exact this
   ·have e:¬(as.length:Int)=0:=fun z=>e (decide_eq_true (congrArg V.int z))
    walk_at "v"
    cases er:Mi.eE f a f.au.length with
    | nil=>
      rw [er] at tr
      have:=tr.1
      simp at this
      exact absurd (by rw [this];rfl) e
    | cons x0 l0=>
      rw [er] at tr
      have hl:=tr.1
      refine ⟨_,as,(x0::l0).map (fun t=>[t.1,t.2.1,t.2.2]),rfl,SqL.of hD1,by omega,by rw [List.length_map];exact hl,fun j b t h1 h2=>?_,fun j b t h1 h2 hm=>?_⟩
      ·rw [List.getElem?_map] at h2
       obtain ⟨u,hu,rfl⟩:=Option.map_eq_some_iff.mp h2
       exact SqT.of (tr.2 j b u h1 hu)
      ·rw [List.getElem?_map] at h2
       obtain ⟨u,hu,rfl⟩:=Option.map_eq_some_iff.mp h2
       refine ⟨_,_,_,_,rfl,rfl,SqT.of (tr.2 j b u h1 hu),bF (j:=2) (v:=V.int u.2.2) rfl,?_⟩
       obtain ⟨m1,m2,m3⟩:=oK l0 x0
       have le:∀ y ∈ x0::l0,Mi.ltT y u=false:=fun y hy=>by
        rw [<-BA];exact hm _ (List.mem_map.mpr ⟨y,hy,rfl⟩)
       have hmem:Mi.ic x0 l0 ∈ x0::l0:=by
        rcases m1 with q | q
        ·rw [q];simp
        ·simp [q]
       have hu2:u ∈ x0::l0:=List.mem_of_getElem? hu
       have:Mi.ltT u (Mi.ic x0 l0)=false:=by
        rcases List.mem_cons.mp hu2 with q | q
        ·rw [q];exact m2
        ·exact m3 u q
       have eq:u=Mi.ic x0 l0:=zQ _ _ (le _ hmem) this
       have e3:Mi.chosen f a=u.2.2:=by unfold Mi.chosen;rw [er,eq]
       have:=k H' s1
       rw [e3] at this;exact this
end
section
variable {P:Program} {w:World} {K:PySem.W.Frag} {mg:Str->Option Value} {base:Heap} {A:Ad}
theorem nq {p:Pl} {f':Mi.Flt} {B H:Hp} {r:Ro} {c:Cn} {dx:Addr} {fs fs':List (Str×V)} {fl:Str} {v:V} {Q:Hp->Prop} (h:H (p.a r)=some (.ins (A.c c) dx fs)) (R:Rep A p f' B (upd H (p.a r) (.ins (A.c c) dx fs')))
  (q:∀ H',Rep A p f' B H'->Q H') (T:Txt K mg A:=by assumption) (hf:(kH c).contains fl=true:=by rfl) (hn:decide (fs.length < 1000)=true:=by rfl) (hl:gr fl v fs=fs':=by rfl) :
  ∃ a' C dx' fs',V.ref (p.a r)=.ref a'/\H a'=some (.ins C dx' fs')/\Cls K C/\dW K C fl/\fs'.length < 1000/\Q (upd H a' (.ins C dx' (gr fl v fs'))):=
 ⟨_,_,dx,fs,rfl,h,T.cl c,T.na c fl hf,of_decide_eq_true hn,by rw [hl];exact q _ R⟩
theorem A6 {p:Pl} {f':Mi.Flt} {B H:Hp} {r:Ro} {C dx:Addr} {fs fs':List (Str×V)} {fl:Str} {v:V} {Q:Hp->Prop} (h:H (p.a r)=some (.ins C dx fs)) (R:Rep A p f' B (upd H (p.a r) (.ins C dx fs')))
  (q:∀ H',Rep A p f' B H'->Q H') (hn:decide (fs.length < 1000)=true:=by rfl) (hl:gr fl v fs=fs':=by rfl) :
  ∃ dx' fs',H (p.a r)=some (.ins C dx' fs')/\fs'.length < 1000/\Q (upd H (p.a r) (.ins C dx' (gr fl v fs'))):=
 ⟨dx,fs,h,of_decide_eq_true hn,by rw [hl];exact q _ R⟩
noncomputable def Kp (p p':Pl):Prop:=∀ r:Ro,(∀ i,r≠.ld i)->(∀ k,r≠.line k)->p'.a r=p.a r
theorem Kp.refl (p:Pl):Kp p p:=fun _ _ _=>rfl
theorem Kp.trans {p p1 p2:Pl} (a:Kp p p1) (b:Kp p1 p2):Kp p p2:=fun r h1 h2=>(b r h1 h2).trans (a r h1 h2)
theorem Kp.fl {p p':Pl} (k:Kp p p'):p'.a .fl=p.a .fl:=k _ (fun _ z=>by cases z) (fun _ z=>by cases z)
theorem Kp.tL {p p':Pl} (k:Kp p p'):p'.a .tL=p.a .tL:=k _ (fun _ z=>by cases z) (fun _ z=>by cases z)
theorem Kp.sL {p p':Pl} (k:Kp p p'):p'.a .sL=p.a .sL:=k _ (fun _ z=>by cases z) (fun _ z=>by cases z)
theorem Kp.pL {p p':Pl} (k:Kp p p'):p'.a .pL=p.a .pL:=k _ (fun _ z=>by cases z) (fun _ z=>by cases z)
theorem Kp.trk {p p':Pl} (k:Kp p p') (i:Nat):p'.a (.trk i)=p.a (.trk i):=k _ (fun _ z=>by cases z) (fun _ z=>by cases z)
theorem Kp.shv {p p':Pl} (k:Kp p p') (i:Nat):p'.a (.shv i)=p.a (.shv i):=k _ (fun _ z=>by cases z) (fun _ z=>by cases z)
theorem Kp.plc {p p':Pl} (k:Kp p p') (i:Nat):p'.a (.plc i)=p.a (.plc i):=k _ (fun _ z=>by cases z) (fun _ z=>by cases z)
theorem Kp.refs {p p':Pl} (k:Kp p p') {g:Nat->Ro} {n:Nat} (hg:∀ j,(∀ i,g j≠.ld i)/\(∀ i,g j≠.line i)):refs p' g n=refs p g n:=by
 unfold Ms.refs
 refine List.map_congr_left fun i _=>?_
 rw [k (g i) (hg i).1 (hg i).2]
theorem Kp.tR {p p':Pl} (k:Kp p p') {n:Nat}:Ms.refs p' Ro.trk n=Ms.refs p Ro.trk n:=k.refs fun j=>⟨fun i z=>(by cases z),fun i z=>(by cases z)⟩
theorem Kp.sR {p p':Pl} (k:Kp p p') {n:Nat}:Ms.refs p' Ro.shv n=Ms.refs p Ro.shv n:=k.refs fun j=>⟨fun i z=>(by cases z),fun i z=>(by cases z)⟩
theorem Kp.pR {p p':Pl} (k:Kp p p') {n:Nat}:Ms.refs p' Ro.plc n=Ms.refs p Ro.plc n:=k.refs fun j=>⟨fun i z=>(by cases z),fun i z=>(by cases z)⟩
theorem Kp.wN (p:Pl) (k:Nat) (x dx:Addr):Kp p (p.put (.line k) x dx):=fun r _ h=>Pl.aH _ _ _ (h k)
theorem Kp.zH (p:Pl) (k:Nat) (x dx:Addr):Kp p (p.put (.ld k) x dx):=fun r h _=>Pl.aH _ _ _ (h k)
noncomputable def tK (A:Ad):Sp:=fun vs H Q _=>∃ (p:Pl) (f:Mi.Flt) (i:Nat),vs=[.ref (p.a .fl),.ref (p.a (.shv i))]/\dA A p f H/\f.aq.length<=8/\i < f.au.length/\∀ (H':Hp),aV H H'->Q (.bl (Mi.fe f i)) H'
theorem mh (T:Txt K mg A):cD P w K mg base CX0 2 (A.f .cJ) (A.fd .cJ) (ps .cJ) (tK A):=by
 refine (T.F .cJ).ok qx (fun vs H Q E h=>?_) (fun cdv Ar outer s H vs Q E hr h=>?_)
 ·obtain ⟨p,f,i,rfl,_⟩:=h
  rfl
 ·obtain ⟨p,f,i,rfl,S,t8,hi,k⟩:=h
  refine ⟨_,(ag (aG (nM iZ (aO (hZ T) hr rfl (T.g .cg rfl) (T.F .cg).kp (T.b .cg) (ah (pv 0) (ah (ki (ah (bD rfl T.kF) af)) (ah (ae (pv 1) rfl) af)))) aB (cn _)))),?_⟩
  walk_at "v"
  refine ⟨by show 1<=sizeLine;decide,fun x hx=>?_⟩
  have s1:aV H (upd H x (.tup [.int 3])):=aM hx
  have S1:=S.same s1
  have h1:=S1.shv (bq hi Mi.fO)
  walk_at "w"
  refine ⟨p,f,_,[3],_,rfl,S1,t8,SqT.of aj,fun H' s2=>?_⟩
  walk_at "i"
  exact k H' (s1.trans s2)
noncomputable def AI (p:Pl):Option Nat->V
 | none=>.non
 | some i=>.ref (p.a (.trk i))
noncomputable def ye (A:Ad):Sp:=fun vs H Q _=>∃ (p:Pl) (f:Mi.Flt) (d a:Int),vs=[.ref (p.a .fl),.int d,.int a]/\dA A p f H/\Q (AI p (Mi.first f d a)) H
theorem jh (T:Txt K mg A):cD P w K mg base CX0 1 (A.f .bw) (A.fd .bw) (ps .bw) (ye A):=by
 refine (T.F .bw).ok fV (fun vs H Q E h=>?_) (fun cdv Ar outer s H vs Q E hr h=>?_)
 ·obtain ⟨p,f,d,a,rfl,_⟩:=h
  rfl
 ·obtain ⟨p,f,d,a,rfl,S,k⟩:=h
  refine ⟨_,(ab (bC (i:=3) fV.nd rfl (Or.inl rfl) qE)
   (ab (fh PassesOwn.never rfl (dn (ae (pv 0) rfl)) (bW (i:=4) fV.nd rfl (Or.inl rfl))
   (ag (cR (PW.pt (kb (bB gd (ae (pv 4) rfl) (pv 1) (cn _)) (kb (bB gd (ae (pv 4) rfl) (pv 2) (cn _)) (kN (jw (gT (ae (pv 4) rfl))))))) (ag (cR (PW.pt (rT (mK (tZ (pv 3))) (qB (bB uM (ae (pv 4) rfl) (ae (pv 3) rfl) (cn _))))) (ag (bC (i:=3) fV.nd rfl (Or.inl rfl) (pv 4))) bE)) bE)))
   (ag (aG (pv 3))))),?_⟩
  have h1:=S.fl
  walk_at "w"
  refine ⟨_,rfl,⟨_,SqL.of S.tL⟩,eW (K:=K) (xs:=refs p .trk f.aq.length) (fun i σ H'=>∃ (v:Option V),σ=[some (.ref (p.a .fl)),some (.int d),some (.int a),some (AI p (Mi.eQ f d a i)),v]/\H'=H)
   ⟨none,rfl,rfl⟩ (fun i σ H' _ ⟨_,_,e⟩=>by rw [e];exact SqL.of S.tL) ?_ ?_⟩
  ·rintro i y σ H' hi ⟨v,rfl,rfl⟩
   obtain ⟨hi',rfl⟩:=f7 hi
   have h2:=S.trk (bq hi' Mi.fq)
   have fin:Mi.eQ f d a (i+1)=_:=Mi.mz d a i
   walk_at "w";walk_at "v"
   refine ⟨rfl,?_⟩
   walk_at "v"
   refine dG (fun e1=>?_) (fun e1=>?_)
   ·have e1:(Mi.aa f i).does=d:=eqI e1
    walk_at "w";walk_at "v"
    refine ⟨rfl,?_⟩
    walk_at "v"
    refine dG (fun e2=>?_) (fun e2=>?_)
    ·have e2:(Mi.aa f i).at_=a:=eqI e2
     walk_at "w";walk_at "v"
     cases e3:(Mi.aa f i).stop with
     | true=>
       have e3':(f.aq.getD i Mi.fq).stop=true:=e3
       rw [e3']
       rw [if_neg (by intro z;simp [e3] at z)] at fin
       exact ⟨_,by rw [fin];rfl,rfl⟩
     | false=>
       have e3':(f.aq.getD i Mi.fq).stop=false:=e3
       rw [e3']
       rw [if_pos ⟨e1,e2,e3⟩] at fin
       cases e4:Mi.eQ f d a i with
       | none=>
         rw [e4] at fin
         walk_at "u";walk_at "v"
         exact ⟨_,by rw [fin];rfl,rfl⟩
       | some u=>
         rw [e4] at fin
         obtain ⟨hu,_⟩:=Mi.dY d a i e4
         have h3:=S.trk (bq (Nat.lt_trans hu hi') Mi.fq)
         walk_at "u"
         walk_at "w"
         walk_at "w";walk_at "i";walk_at "v"
         refine dG (fun e5=>?_) (fun e5=>?_)
         ·have e5:(Mi.aa f i).since < (Mi.aa f u).since:=of_decide_eq_true e5
          have fin:Mi.eQ f d a (i+1)=some i:=fin.trans (if_pos e5)
          walk_at "v"
          exact ⟨_,by rw [fin];rfl,rfl⟩
         ·have e5:¬(Mi.aa f i).since < (Mi.aa f u).since:=fun z=>e5 (decide_eq_true z)
          have fin:Mi.eQ f d a (i+1)=some u:=fin.trans (if_neg e5)
          exact ⟨_,by rw [fin];rfl,rfl⟩
    ·have e2:¬(Mi.aa f i).at_=a:=neI e2
     rw [if_neg (fun z=>e2 z.2.1)] at fin
     exact ⟨_,by rw [fin];rfl,rfl⟩
   ·have e1:¬(Mi.aa f i).does=d:=neI e1
    rw [if_neg (fun z=>e1 z.1)] at fin
    exact ⟨_,by rw [fin];rfl,rfl⟩
  ·rintro σ H' ⟨v,rfl,rfl⟩
   rw [aI]
   walk_at "v"
   exact k
noncomputable def rH (A:Ad):Sp:=fun vs H Q _=>∃ (p:Pl) (f:Mi.Flt) (n i:Nat),vs=[.ref (p.a .fl),.ref (p.a (.shv i))]/\dA A p f H/\Mi.WF n f/\i < f.au.length/\∀ (H':Hp),aV H H'->Q (.int (Mi.eH f i:Nat)) H'
theorem lh (T:Txt K mg A):cD P w K mg base CX0 3 (A.f .aQ) (A.fd .aQ) (ps .aQ) (rH A):=by
 refine (T.F .aQ).ok kX (fun vs H Q E h=>?_) (fun cdv Ar outer s H vs Q E hr h=>?_)
 ·obtain ⟨p,f,n,i,rfl,_⟩:=h
  rfl
 ·obtain ⟨p,f,n,i,rfl,S,W,hi,k⟩:=h
  refine ⟨_,(ab (cR (gT (ae (pv 1) rfl)) (ag (aG (bD rfl T.jk))) bE)
   (ab (cR (gT (aO (mh T) hr rfl (T.g .cJ rfl) (T.F .cJ).kp (T.b .cJ) (ah (pv 0) (ah (pv 1) af)))) (ag (aG (bD rfl T.kD))) bE)
   (ab (cR (bB gd (aP aD rfl T.dX PySem.boot_len (ah (ae (pv 1) rfl) af)) aB (cn _)) (ag (aG (bD rfl T.gL))) bE)
   (ag (aG (bD rfl T.fG)))))),?_⟩
  unfold Mi.eH at k
  have h1:=S.shv (bq hi Mi.fO)
  walk_at "w";walk_at "v"
  refine dG (fun e=>?_) (fun e=>?_)
  ·have e:(Mi.ai f i).stop=true:=e
   rw [if_pos e] at k
   exact k H (aV.refl _)
  ·have e:¬(Mi.ai f i).stop=true:=e
   rw [if_neg e] at k
   walk_at "u"
   refine ⟨p,f,i,rfl,S,W.t2,hi,fun H1 s1=>?_⟩
   walk_at "v"
   refine dG (fun e2=>?_) (fun e2=>?_)
   ·rw [if_pos e2] at k
    exact k H1 s1
   ·rw [if_neg e2] at k
    have S1:=S.same s1
    have h2:=S1.shv (bq hi Mi.fO)
    have h3:=S1.row (bq hi Mi.fO)
    walk_at "w"
    refine ⟨_,_,rfl,.inl (SqL.of h3),?_⟩
    refine ⟨rfl,?_⟩
    walk_at "v"
    rw [List.length_map]
    refine dG (fun e3=>?_) (fun e3=>?_)
    ·have e3:(Mi.ai f i).row.length=0:=by have e3:(((Mi.ai f i).row.length:Nat):Int)=0:=eqI e3;omega
     rw [if_pos e3] at k
     exact k H1 s1
    ·have e3:¬(Mi.ai f i).row.length=0:=fun z=>neI e3 (by show (((Mi.ai f i).row.length:Nat):Int)=0;omega)
     rw [if_neg e3] at k
     exact k H1 s1
noncomputable def zr (A:Ad):Sp:=fun vs H Q _=>∃ (p:Pl) (f:Mi.Flt) (n i:Nat),vs=[.ref (p.a .fl),.ref (p.a (.trk i))]/\dA A p f H/\Mi.WF n f/\i < f.aq.length/\Q (.bl (Mi.held f (Mi.aa f i))) H
theorem lG {p:Pl} {g:Nat->Ro} {n:Nat} {z:Int} (h0:1<=z) (h1:z<=(n:Int)):atI (refs p g n) (z - 1)=some (V.ref (p.a (g (z - 1).toNat))):=
 at_of (j:=(z - 1).toNat) (by omega) (qA (by omega))
theorem u0 (T:Txt K mg A):cD P w K mg base CX0 1 (A.f .eI) (A.fd .eI) (ps .eI) (zr A):=by
 refine (T.F .eI).ok tS (fun vs H Q E h=>?_) (fun cdv Ar outer s H vs Q E hr h=>?_)
 ·obtain ⟨p,f,n,i,rfl,_⟩:=h
  rfl
 ·obtain ⟨p,f,n,i,rfl,S,W,hi,k⟩:=h
  refine ⟨_,(ag (aG (AH (ae (pv 1) rfl) (wR (zK (nM gd (ae (pv 1) rfl) (bD rfl T.kF) (cn _)) (wR (ae (cB bo (ae (pv 0) rfl) (cS fR (ae (pv 1) rfl) aB) (fun _ _=>rfl)) rfl))))))),?_⟩
  unfold Mi.held at k
  have h1:=S.trk (bq hi Mi.fq)
  have h0:=S.fl
  walk_at "w";walk_at "v"
  refine dG (fun e=>?_) (fun e=>?_)
  ·have e:(Mi.aa f i).stop=true:=e
   rw [e] at k;exact k
  ·have e:(Mi.aa f i).stop=false:=by cases q:(Mi.aa f i).stop with | true=>exact absurd q e | false=>rfl
   rw [e,Bool.false_or] at k
   walk_at "w"
   refine ⟨rfl,?_⟩
   walk_at "v"
   refine dG (fun e2=>?_) (fun e2=>?_)
   ·have e2:(Mi.aa f i).does=3:=eqI e2
    have a:=(W.aa hi).w1 (.inr (.inr e2))
    rw [decide_eq_true e2,Bool.true_and] at k
    walk_at "w";walk_at "w";walk_at "i"
    refine ⟨_,_,_,_,rfl,rfl,SqL.of S.sL,lG (z:=(Mi.aa f i).at_) a.1 a.2,?_⟩
    have h2:=S.shv (bq (i:=((Mi.aa f i).at_ - 1).toNat) (by omega) Mi.fO)
    walk_at "f"
    exact k
   ·have e2:¬(Mi.aa f i).does=3:=neI e2
    rw [decide_eq_false e2,Bool.false_and] at k
    exact k
end
section
variable {P:Program} {w:World} {K:PySem.W.Frag} {mg:Str->Option Value} {base:Heap} {A:Ad}
theorem md (f:Mi.Flt) (i:Nat) (a b:Mi.Trk):Mi.aX (Mi.aX f i a) i b=Mi.aX f i b:=by
 unfold Mi.aX;simp
theorem uT {n:Nat} (h:n<=1000000):n < sizeLine:=Nat.lt_of_le_of_lt h (by decide)
noncomputable def yf (A:Ad):Sp:=fun vs H Q _=>∃ (B:Hp) (p:Pl) (f:Mi.Flt) (n:Nat) (m:Int) (i:Nat) (d a g:Int),vs=[.ref (p.a .fl),.int m,.ref (p.a (.trk i)),.int d,.int a,.int g]/\Rep A p f B H/\Mi.WF n f/\n<=1000000/\i < f.aq.length/\
 ∀ (p':Pl) (H':Hp),Rep A p' (Mi.comes f m i d a g) B H'->Kp p p'->Q .non H'
theorem fU (T:Txt K mg A):cD P w K mg base CX0 2 (A.f .bI) (A.fd .bI) (ps .bI) (yf A):=by
 refine (T.F .bI).ok rO (fun vs H Q E h=>?_) (fun cdv Ar outer s H vs Q E hr h=>?_)
 ·obtain ⟨B,p,f,n,m,i,d,a,g,rfl,_⟩:=h
  rfl
 ·obtain ⟨B,p,f,n,m,i,d,a,g,rfl,R,W,hn,hi,k⟩:=h
  refine ⟨_,(ab (bA (pv 2) (pv 3) rfl)
   (ab (bA (pv 2) (pv 4) rfl)
   (ab (bA (pv 2) (pv 5) rfl)
   (ab (bA (pv 2) (pv 1) rfl)
   (ag (cH (jI PySem.F.plainAttrs_list PySem.F.slot_list_append PySem.F.type_list_append gB (ae (pv 0) rfl) (ah (cS km (bM (ah (pv 1) (ah (ae (pv 2) rfl) (ah (pv 3) (ah (pv 4) af))))) (aO (jJ T) hr rfl (T.g .bG rfl) (T.F .bG).kp (T.b .bG) (ah (pv 2) af))) af)))))))),?_⟩
  have ht:f.aq[i]? = some (Mi.aa f i):=bq hi _
  generalize et:Mi.aa f i=t at ht
  walk_at "u"
  refine nq (R.sees.trk ht) (R.trk (t':={t with does:=d}) ht rfl (.inl rfl)) (fun H1 R1=>?_)
  have ht1:(Mi.aX f i {t with does:=d}).aq[i]? = some {t with does:=d}:=eC ht
  walk_at "u"
  refine nq (R1.sees.trk ht1) (R1.trk (t':={t with does:=d,at_:=a}) ht1 rfl (.inl rfl)) (fun H2 R2=>?_)
  rw [md] at R2
  have ht2:(Mi.aX f i {t with does:=d,at_:=a}).aq[i]? = some {t with does:=d,at_:=a}:=eC ht
  walk_at "u"
  refine nq (R2.sees.trk ht2) (R2.trk (t':={t with does:=d,at_:=a,go:=g}) ht2 rfl (.inl rfl)) (fun H3 R3=>?_)
  rw [md] at R3
  have ht3:(Mi.aX f i {t with does:=d,at_:=a,go:=g}).aq[i]? = some {t with does:=d,at_:=a,go:=g}:=eC ht
  walk_at "u"
  refine nq (R3.sees.trk ht3) (R3.trk (t':={t with does:=d,at_:=a,go:=g,since:=m}) ht3 rfl (.inl rfl)) (fun H4 R4=>?_)
  rw [md] at R4
  have ht4:(Mi.aX f i {t with does:=d,at_:=a,go:=g,since:=m}).aq[i]? = some {t with does:=d,at_:=a,go:=g,since:=m}:=eC ht
  have S4:=R4.sees
  have h0:=S4.fl
  walk_at "w"
  refine ⟨.inl ⟨rfl,_,SqL.of S4.book⟩,?_⟩
  have h1:=S4.trk ht4
  walk_at "v";walk_at "w";walk_at "u"
  refine ⟨by show 4<=sizeLine;decide,fun x hx=>?_⟩
  have s5:aV H4 (upd H4 x (.lst [.int m,.int ((i:Int)+1),.int d,.int a])):=aM hx
  have hl:∀ l,t.load=some l->l.1 < f.aA.length:=fun l e=>(W.aa hi).l l (by rw [et];exact e)
  walk_at "v"
  refine ⟨p,_,i,_,rfl,S4.same s5,ht4,hl,fun H6 y hy hy6 s6=>?_⟩
  refine ⟨_,_,_,_,rfl,rfl,s6 _ _ aj,hy6,?_,fun z hz=>?_⟩
  ·rw [List.length_map,Mi.iD];show 4+2<=sizeLine;decide
  ·have s46:aV H4 H6:=s5.trans s6
   have R7:=(R4.same s46).same (aM (o:=.lst ([V.int m,V.int ((i:Int)+1),V.int d,V.int a]++(Mi.dr (Mi.aX f i {t with does:=d,at_:=a,go:=g,since:=m}) {t with does:=d,at_:=a,go:=g,since:=m}).map V.int)) hz)
   refine ⟨_,_,_,rfl,rfl,R7.sees.book,by rw [aI];exact uT (Nat.le_trans W.bk hn),?_⟩
   have fr:=(R4.same s46).fresh hz
   have R8:=R7.line (x:=z) (l:=[m,(i:Int)+1,d,a]++Mi.dr f t) (by rw [aj,List.map_append];rfl) fr.1 fr.2
   refine k (p.put (.line f.book.length) z 0) _ ?_ (Kp.wN _ _ _ _)
   unfold Mi.comes
   rw [et]
   exact R8
noncomputable def spM (A:Ad) (F:Mi.Flt->Mi.Flt):Sp:=fun vs H Q _=>∃ (B:Hp) (p:Pl) (f:Mi.Flt) (n:Nat),vs=[.ref (p.a .fl)]/\Rep A p f B H/\Mi.WF n f/\n<=100000/\
 ∀ (p':Pl) (H':Hp),Rep A p' (F f) B H'->Kp p p'->Q .non H'
theorem ll (T:Txt K mg A):cD P w K mg base CX0 4 (A.f .aR) (A.fd .aR) (ps .aR) (spM A Mi.sendAll):=by
 refine (T.F .aR).ok ft (fun vs H Q E h=>?_) (fun cdv Ar outer s H vs Q E hr h=>?_)
 ·obtain ⟨B,p,f,n,rfl,_⟩:=h
  rfl
 ·obtain ⟨B,p,f,n,rfl,R,W,hn,k⟩:=h
  refine ⟨_,(ag (fh PassesOwn.never rfl (dn (ae (pv 0) rfl)) (bW (i:=1) ft.nd rfl (Or.inl rfl))
   (ag (cR (PW.pt (kb (bB gd (ae (pv 1) rfl) (bD rfl T.p7) (cn _)) (kN (jw (gT (ae (pv 1) rfl)))))) (ab (bC (i:=2) ft.nd rfl (Or.inl rfl) (aO (ji T) hr rfl (T.g .bx rfl) (T.F .bx).kp (T.b .bx) (ah (pv 0) (ah (ae (pv 1) rfl) af))))
   (ag (cR (bB gd (pv 2) aB (cn _)) (ag (cH (aO (fU T) (hr.mono (by decide)) rfl (T.g .bI rfl) (T.F .bI).kp (T.b .bI) (ah (pv 0) (ah (ae (pv 0) rfl) (ah (pv 1) (ah (bD rfl T.qV) (ah (ae (pv 1) rfl) (ah aB af))))))))) (ab (bC (i:=3) ft.nd rfl (Or.inl rfl) (aO (hW T) (hr.mono (by decide)) rfl (T.g .aE rfl) (T.F .aE).kp (T.b .aE) (ah (pv 0) (ah (ae (pv 1) rfl) (ah (pv 2) af)))))
   (ag (cH (aO (fU T) (hr.mono (by decide)) rfl (T.g .bI rfl) (T.F .bI).kp (T.b .bI) (ah (pv 0) (ah (ae (pv 0) rfl) (ah (pv 1) (ah (bD rfl T.kC) (ah (pv 2) (ah (pv 3) af))))))))))))) bE)))),?_⟩
  have h0:=R.sees.fl
  walk_at "w"
  refine ⟨_,rfl,⟨_,SqL.of R.sees.tL⟩,eW (K:=K) (xs:=refs p .trk f.aq.length) (fun i σ H'=>∃ (v1 v2 v3:Option V) (p':Pl),σ=[some (.ref (p.a .fl)),v1,v2,v3]/\Rep A p' ((List.range i).foldl Mi.cY f) B H'/\Kp p p')
   ⟨none,none,none,p,rfl,R,Kp.refl p⟩ (fun i σ H' hi ⟨_,_,_,p',_,R',kp⟩=>?_) ?_ ?_⟩
  ·obtain ⟨_,sh⟩:=Mi.qw W i (by rw [aI] at hi;exact hi)
   have:=R'.sees.tL
   rw [kp.tL,sh.t,kp.tR] at this
   exact SqL.of this
  ·rintro i y σ H1 hi ⟨v1,v2,v3,p1,rfl,R1,kp⟩
   obtain ⟨hi',rfl⟩:=f7 hi
   obtain ⟨W1,sh⟩:=Mi.qw W i (Nat.le_of_lt hi')
   have t8:=W.t2
   rw [Mi.fold_succ]
   generalize (List.range i).foldl Mi.cY f=f1 at R1 W1 sh
   have hi1:i < f1.aq.length:=by rw [sh.t];exact hi'
   have S1:=R1.sees
   have h1:=S1.fl
   have h2:=S1.trk (bq hi1 Mi.fq)
   rw [kp.fl] at h1
   rw [kp.trk] at h2
   have fin:Mi.cY f1 i=_:=rfl
   unfold Mi.cY at fin
   walk_at "w"
   refine ⟨rfl,?_⟩
   walk_at "v"
   refine dG (fun e1=>?_) (fun e1=>?_)
   ·have e1:(Mi.aa f1 i).does=0:=eqI e1
    walk_at "w";walk_at "v"
    cases e2:(Mi.aa f1 i).stop with
    | true=>
      have e2':(f1.aq.getD i Mi.fq).stop=true:=e2
      rw [e2']
      have e3:Mi.cY f1 i=f1:=by unfold Mi.cY;exact if_neg (by intro z;rw [e2] at z;cases z.2)
      exact ⟨_,_,_,p1,rfl,by rw [e3];exact R1,kp⟩
    | false=>
      have e2':(f1.aq.getD i Mi.fq).stop=false:=e2
      rw [e2']
      have a:=(W1.aa hi1).w0 (.inl e1)
      walk_at "v";walk_at "w"
      refine ⟨p1,f1,_,_,by rw [kp.fl];rfl,S1,W1,a.1,a.2,fun H2 s2=>?_⟩
      have R2:=R1.same s2
      have S2:=R2.sees
      have g1:=S2.fl
      have g2:=S2.trk (bq hi1 Mi.fq)
      rw [kp.fl] at g1
      rw [kp.trk] at g2
      have cr:=Mi.mD f1 (Mi.aa f1 i).at_
      walk_at "v"
      refine ⟨rfl,?_⟩
      walk_at "v"
      refine dG (fun e4=>?_) (fun e4=>?_)
      ·have e4:Mi.chosen f1 (Mi.aa f1 i).at_=0:=eqI e4
       have e3:Mi.cY f1 i=Mi.comes f1 f1.minute i 7 (Mi.aa f1 i).at_ 0:=by unfold Mi.cY;exact (if_pos ⟨e1,e2⟩).trans (if_pos e4)
       walk_at "v";walk_at "w";walk_at "v";walk_at "w"
       refine ⟨B,p1,f1,_,_,i,_,_,_,by rw [kp.fl,kp.trk],R2,W1,by omega,hi1,fun p3 H3 R3 k3=>?_⟩
       exact ⟨_,_,_,p3,rfl,by rw [e3];exact R3,kp.trans k3⟩
      ·have e4:¬Mi.chosen f1 (Mi.aa f1 i).at_=0:=neI e4
       have e3:Mi.cY f1 i=Mi.comes f1 f1.minute i 1 (Mi.chosen f1 (Mi.aa f1 i).at_) (Mi.gC f1 (Mi.aa f1 i).at_ (Mi.chosen f1 (Mi.aa f1 i).at_)):=by unfold Mi.cY;exact (if_pos ⟨e1,e2⟩).trans (if_neg e4)
       walk_at "v";walk_at "w";walk_at "v"
       refine ⟨p1,f1,_,_,_,by rw [kp.fl];rfl,S2,W1,a.1,a.2,by omega,cr.2,?_⟩
       walk_at "v";walk_at "w";walk_at "u";walk_at "v"
       refine ⟨B,p1,f1,_,_,i,_,_,_,by rw [kp.fl,kp.trk],R2,W1,by omega,hi1,fun p3 H3 R3 k3=>?_⟩
       exact ⟨_,_,_,p3,rfl,by rw [e3];exact R3,kp.trans k3⟩
   ·have e1:¬(Mi.aa f1 i).does=0:=neI e1
    have e3:Mi.cY f1 i=f1:=by unfold Mi.cY;exact if_neg (fun z=>e1 z.1)
    exact ⟨_,_,_,p1,rfl,by rw [e3];exact R1,kp⟩
  ·rintro σ H1 ⟨v1,v2,v3,p1,rfl,R1,kp⟩
   rw [aI] at R1
   exact k p1 H1 R1 kp
end
section
variable {P:Program} {w:World} {K:PySem.W.Frag} {mg:Str->Option Value} {base:Heap} {A:Ad}
theorem pT {α β:Type} {l:List α} {g:β->α->β} {b:β} {i:Nat} {z:α} (h:l[i]? = some z):(l.take (i+1)).foldl g b=g ((l.take i).foldl g b) z:=by
 rw [List.take_add_one,h,List.foldl_append];rfl
theorem nA (T:Txt K mg A):cD P w K mg base CX0 2 (A.f .bZ) (A.fd .bZ) (ps .bZ) (spM A Mi.mark):=by
 refine (T.F .bZ).ok fJ (fun vs H Q E h=>?_) (fun cdv Ar outer s H vs Q E hr h=>?_)
 ·obtain ⟨B,p,f,n,rfl,_⟩:=h
  rfl
 ·obtain ⟨B,p,f,n,rfl,R,W,hn,k⟩:=h
  refine ⟨_,(ab (fh PassesOwn.never rfl (dn (ae (pv 0) rfl)) (bW (i:=1) fJ.nd rfl (Or.inl rfl))
   (ag (bA (pv 1) me rfl)))
   (ab (fh PassesOwn.never rfl (dn (ae (pv 0) rfl)) (bW (i:=2) fJ.nd rfl (Or.inl rfl))
   (ag (bA (pv 2) me rfl)))
   (ag (fh PassesOwn.never rfl (dn (ae (pv 0) rfl)) (bW (i:=3) fJ.nd rfl (Or.inl rfl))
   (ag (cR (oq nc uM (ae (pv 3) rfl) (ae (pv 0) rfl) (ae (pv 3) rfl)) (ab (bC (i:=4) fJ.nd rfl (Or.inl rfl) (cB bo (aO (iy T) hr rfl (T.g .aJ rfl) (T.F .aJ).kp (T.b .aJ) (ah (pv 0) (ah (ae (pv 3) rfl) af))) (cS fR (ae (pv 3) rfl) aB) (fun _ _=>rfl)))
   (ag (bA (pv 4) me rfl))) bE)))))),?_⟩
  have h0:=R.sees.fl
  walk_at "w"
  refine ⟨_,rfl,⟨_,SqL.of R.sees.tL⟩,eW (K:=K) (xs:=refs p .trk f.aq.length) (fun i σ H'=>∃ (v1:Option V),σ=[some (.ref (p.a .fl)),v1,none,none,none]/\Rep A p ((List.range i).foldl Mi.iq f) B H')
   ⟨none,rfl,R⟩ (fun i σ H' hi ⟨_,_,R'⟩=>?_) ?_ ?_⟩
  ·obtain ⟨_,sh⟩:=Mi.lY W i (by rw [aI] at hi;exact hi)
   have:=R'.sees.tL
   rw [sh.t] at this
   exact SqL.of this
  ·rintro i y σ H1 hi ⟨v1,rfl,R1⟩
   obtain ⟨hi',rfl⟩:=f7 hi
   obtain ⟨W1,sh⟩:=Mi.lY W i (Nat.le_of_lt hi')
   rw [Mi.fold_succ]
   generalize (List.range i).foldl Mi.iq f=f1 at R1 W1 sh
   have ht:f1.aq[i]? = some (Mi.aa f1 i):=bq (by rw [sh.t];exact hi') _
   walk_at "v"
   refine nq (R1.sees.trk ht) (R1.trk (t':={Mi.aa f1 i with stop:=false}) ht rfl (.inl rfl)) (fun H2 R2=>?_)
   exact ⟨_,rfl,R2⟩
  ·rintro σ H1 ⟨v1,rfl,R1⟩
   rw [aI] at R1
   obtain ⟨W1,sh1⟩:=Mi.lY W f.aq.length (Nat.le_refl _)
   have mk:Mi.mark f=f.cI.foldl Mi.dO ((List.range f.au.length).foldl Mi.ir ((List.range f.aq.length).foldl Mi.iq f)):=rfl
   generalize (List.range f.aq.length).foldl Mi.iq f=f1 at R1 W1 sh1 mk
   have h1:=R1.sees.fl
   walk_at "w"
   refine ⟨_,rfl,⟨_,SqL.of R1.sees.sL⟩,eW (K:=K) (xs:=refs p .shv f1.au.length) (fun i σ H'=>∃ (v1 v2:Option V),σ=[some (.ref (p.a .fl)),v1,v2,none,none]/\Rep A p ((List.range i).foldl Mi.ir f1) B H')
    ⟨_,none,rfl,R1⟩ (fun i σ H' hi ⟨_,_,_,R'⟩=>?_) ?_ ?_⟩
   ·obtain ⟨_,sh⟩:=Mi.lZ W1 i (by rw [aI] at hi;exact hi)
    have:=R'.sees.sL
    rw [sh.s] at this
    exact SqL.of this
   ·rintro i y σ H2 hi ⟨v1,v2,rfl,R2⟩
    obtain ⟨hi',rfl⟩:=f7 hi
    obtain ⟨W2,sh⟩:=Mi.lZ W1 i (Nat.le_of_lt hi')
    rw [Mi.fold_succ]
    generalize (List.range i).foldl Mi.ir f1=f2 at R2 W2 sh
    have ht:f2.au[i]? = some (Mi.ai f2 i):=bq (by rw [sh.s];exact hi') _
    walk_at "v"
    refine nq (R2.sees.shv ht) (R2.shv (s':={Mi.ai f2 i with stop:=false}) ht rfl rfl) (fun H3 R3=>?_)
    exact ⟨_,_,rfl,R3⟩
   ·rintro σ H2 ⟨v1,v2,rfl,R2⟩
    rw [aI] at R2
    obtain ⟨W2,sh2⟩:=Mi.lZ W1 f1.au.length (Nat.le_refl _)
    rw [<-sh1.s] at mk
    generalize (List.range f1.au.length).foldl Mi.ir f1=f2 at R2 W2 sh2 mk
    have ez:f2.cI=f.cI:=sh2.z.trans sh1.z
    have zo:∀ i,∀ z ∈ f.cI.take i,Mi.ZOk f2.aq.length f2.au.length z:=fun i z hz=>by
     rw [sh2.t,sh2.s,sh1.t,sh1.s];exact W.stp z (List.mem_of_mem_take hz)
    have h2:=R2.sees.fl
    walk_at "w"
    refine ⟨_,rfl,⟨_,SqL.of R2.sees.zL⟩,eW (K:=K) (xs:=refs p .stp f2.cI.length) (fun i σ H'=>∃ (v1 v2 v3 v4:Option V),σ=[some (.ref (p.a .fl)),v1,v2,v3,v4]/\Rep A p ((f.cI.take i).foldl Mi.dO f2) B H')
     ⟨_,_,none,none,rfl,R2⟩ (fun i σ H' hi ⟨_,_,_,_,_,R'⟩=>?_) ?_ ?_⟩
    ·obtain ⟨_,sh⟩:=Mi.m7 (f.cI.take i) W2 (zo i)
     have:=R'.sees.zL
     rw [sh.z] at this
     exact SqL.of this
    ·rintro i y σ H3 hi ⟨v1,v2,v3,v4,rfl,R3⟩
     obtain ⟨hi',rfl⟩:=f7 hi
     obtain ⟨W3,sh⟩:=Mi.m7 (f.cI.take i) W2 (zo i)
     rw [ez] at hi'
     obtain ⟨z,hz⟩:∃ z,f.cI[i]? = some z:=⟨_,List.getElem?_eq_getElem hi'⟩
     rw [pT hz]
     generalize (f.cI.take i).foldl Mi.dO f2=f3 at R3 W3 sh
     have hz3:f3.cI[i]? = some z:=by rw [sh.z,ez];exact hz
     have zk:=W3.stp z (List.mem_of_getElem? hz3)
     have S3:=R3.sees
     have g0:=S3.fl
     have g1:=S3.stp hz3
     walk_at "w";walk_at "w";walk_at "i";walk_at "v"
     refine dG (fun e1=>?_) (fun e1=>?_)
     ·have e1:z.since<=f3.minute:=of_decide_eq_true e1
      walk_at "w";walk_at "i";walk_at "v"
      refine dG (fun e2=>?_) (fun e2=>?_)
      ·have e2:f3.minute < z.until_:=of_decide_eq_true e2
       walk_at "v";walk_at "w"
       refine ⟨p,f3,_,rfl,S3,?_⟩
       walk_at "w";walk_at "i"
       by_cases hk:z.kind=0
       ·have hw:1<=z.which/\z.which<=(f3.aq.length:Int):=by rcases zk.k with q | q<;>omega
        rw [if_pos hk]
        refine ⟨_,_,_,_,rfl,rfl,SqL.of S3.tL,lG hw.1 hw.2,?_⟩
        have ht:f3.aq[(z.which - 1).toNat]? = some (Mi.aa f3 (z.which - 1).toNat):=bq (by omega) _
        walk_at "v"
        refine nq (S3.trk ht) (R3.trk (t':={Mi.aa f3 (z.which - 1).toNat with stop:=true}) ht rfl (.inl rfl)) (fun H4 R4=>?_)
        refine ⟨_,_,_,_,rfl,?_⟩
        unfold Mi.dO
        rw [if_pos ⟨e1,e2⟩,if_pos hk];exact R4
       ·have hw:1<=z.which/\z.which<=(f3.au.length:Int):=by rcases zk.k with q | q<;>omega
        rw [if_neg hk]
        refine ⟨_,_,_,_,rfl,rfl,SqL.of S3.sL,lG hw.1 hw.2,?_⟩
        have ht:f3.au[(z.which - 1).toNat]? = some (Mi.ai f3 (z.which - 1).toNat):=bq (by omega) _
        walk_at "v"
        refine nq (S3.shv ht) (R3.shv (s':={Mi.ai f3 (z.which - 1).toNat with stop:=true}) ht rfl rfl) (fun H4 R4=>?_)
        refine ⟨_,_,_,_,rfl,?_⟩
        unfold Mi.dO
        rw [if_pos ⟨e1,e2⟩,if_neg hk];exact R4
      ·have e2:¬f3.minute < z.until_:=fun q=>e2 (decide_eq_true q)
       refine ⟨_,_,_,_,rfl,?_⟩
       unfold Mi.dO
       rw [if_neg (fun q=>e2 q.2)];exact R3
     ·have e1:¬z.since<=f3.minute:=fun q=>e1 (decide_eq_true q)
      walk_at "v"
      refine ⟨_,_,_,_,rfl,?_⟩
      unfold Mi.dO
      rw [if_neg (fun q=>e1 q.1)];exact R3
    ·rintro σ H3 ⟨v1,v2,v3,v4,rfl,R3⟩
     rw [aI,ez,List.take_length,<-mk] at R3
     exact k p H3 R3 (Kp.refl p)
theorem mP (T:Txt K mg A):cD P w K mg base CX0 3 (A.f .bQ) (A.fd .bQ) (ps .bQ) (spM A Mi.gD):=by
 refine (T.F .bQ).ok gQ (fun vs H Q E h=>?_) (fun cdv Ar outer s H vs Q E hr h=>?_)
 ·obtain ⟨B,p,f,n,rfl,_⟩:=h
  rfl
 ·obtain ⟨B,p,f,n,rfl,R,W,hn,k⟩:=h
  refine ⟨_,(ag (fh PassesOwn.never rfl (dn (ae (pv 0) rfl)) (bW (i:=1) gQ.nd rfl (Or.inl rfl))
   (ab (bC (i:=2) gQ.nd rfl (Or.inl rfl) (aO (jh T) (hr.mono (by decide)) rfl (T.g .bw rfl) (T.F .bw).kp (T.b .bw) (ah (pv 0) (ah (bD rfl T.jA) (ah (ae (pv 1) rfl) af)))))
   (ag (cR (PW.pt (kb (mK (qG (pv 2))) (kN (bB gd (aO (hZ T) (hr.mono (by decide)) rfl (T.g .cg rfl) (T.F .cg).kp (T.b .cg) (ah (pv 0) (ah (ki (ah (bD rfl T.uh) af)) (ah (ae (pv 1) rfl) af)))) aB (cn _))))) (ag (cH (aO (fU T) hr rfl (T.g .bI rfl) (T.F .bI).kp (T.b .bI) (ah (pv 0) (ah (ae (pv 0) rfl) (ah (pv 2) (ah (bD rfl T.uh) (ah (ae (pv 1) rfl) (ah (ae (pv 1) rfl) af))))))))) bE))))),?_⟩
  have h0:=R.sees.fl
  walk_at "w"
  refine ⟨_,rfl,⟨_,SqL.of R.sees.pL⟩,eW (K:=K) (xs:=refs p .plc f.br.length) (fun i σ H'=>∃ (v1 v2:Option V) (p':Pl),σ=[some (.ref (p.a .fl)),v1,v2]/\Rep A p' ((List.range i).foldl Mi.eA f) B H'/\Kp p p')
   ⟨none,none,p,rfl,R,Kp.refl p⟩ (fun i σ H' hi ⟨_,_,p',_,R',kp⟩=>?_) ?_ ?_⟩
  ·obtain ⟨_,sh⟩:=Mi.tD W i (by rw [aI] at hi;exact hi)
   have:=R'.sees.pL
   rw [kp.pL,sh.p,kp.pR] at this
   exact SqL.of this
  ·rintro i y σ H1 hi ⟨v1,v2,p1,rfl,R1,kp⟩
   obtain ⟨hi',rfl⟩:=f7 hi
   obtain ⟨W1,sh⟩:=Mi.tD W i (Nat.le_of_lt hi')
   have p3:=W.p2
   rw [Mi.fold_succ]
   generalize (List.range i).foldl Mi.eA f=f1 at R1 W1 sh
   have hi1:i < f1.br.length:=by rw [sh.p];exact hi'
   have S1:=R1.sees
   have h1:=S1.fl
   have h2:=S1.plc (bq hi1 Mi.qC)
   rw [kp.fl] at h1
   rw [kp.plc] at h2
   walk_at "v";walk_at "w"
   refine ⟨p1,f1,_,_,by rw [kp.fl],S1,?_⟩
   walk_at "u"
   cases e:Mi.first f1 5 ((i:Int)+1) with
   | none=>
     have e3:Mi.eA f1 i=f1:=by unfold Mi.eA;rw [e]
     exact ⟨_,_,p1,rfl,by rw [e3];exact R1,kp⟩
   | some j=>
     obtain ⟨hj,_⟩:=Mi.dY _ _ _ e
     walk_at "v"
     refine ⟨by show 1<=sizeLine;decide,fun x hx=>?_⟩
     have s2:aV H1 (upd H1 x (.tup [.int 6])):=aM hx
     have S2:=S1.same s2
     have g2:=S2.plc (bq hi1 Mi.qC)
     rw [kp.plc] at g2
     walk_at "w"
     refine ⟨p1,f1,_,[6],_,by rw [kp.fl],S2,W1.t2,SqT.of aj,fun H3 s3=>?_⟩
     have R3:=(R1.same s2).same s3
     have S3:=R3.sees
     have q1:=S3.fl
     have q2:=S3.plc (bq hi1 Mi.qC)
     rw [kp.fl] at q1
     rw [kp.plc] at q2
     refine ⟨rfl,?_⟩
     walk_at "v"
     refine dG (fun e2=>?_) (fun e2=>?_)
     ·have e2:Mi.cE f1 [6] ((i:Int)+1)=0:=eqI e2
      have e3:Mi.eA f1 i=Mi.comes f1 f1.minute j 6 ((i:Int)+1) (Mi.bz f1 i).time:=by unfold Mi.eA;rw [e];exact if_pos e2
      walk_at "v";walk_at "w";walk_at "v";walk_at "w";walk_at "w"
      refine ⟨B,p1,f1,_,_,j,_,_,_,by rw [kp.fl];rfl,R3,W1,by omega,hj,fun p4 H4 R4 k4=>?_⟩
      exact ⟨_,_,p4,rfl,by rw [e3];exact R4,kp.trans k4⟩
     ·have e2:¬Mi.cE f1 [6] ((i:Int)+1)=0:=neI e2
      have e3:Mi.eA f1 i=f1:=by unfold Mi.eA;rw [e];exact if_neg e2
      exact ⟨_,_,p1,rfl,by rw [e3];exact R3,kp⟩
  ·rintro σ H1 ⟨v1,v2,p1,rfl,R1,kp⟩
   rw [aI] at R1
   exact k p1 H1 R1 kp
end
section
variable {P:Program} {w:World} {K:PySem.W.Frag} {mg:Str->Option Value} {base:Heap} {A:Ad}
theorem B0 {H:Hp} {c:Cn} {a dx:Addr} {fs:List (Str×V)} {f:Str} {v:V} {Q:Addr->Addr->V->Prop} (q:Q a (A.c c) v) (h:H a=some (.ins (A.c c) dx fs):=by assumption)
  (T:Txt K mg A:=by assumption) (hf:(kH c).contains f=true:=by rfl) (hl:fs.lookup f=some v:=by rfl) :
  ∃ a' C dx' fs' v',V.ref a=.ref a'/\H a'=some (.ins C dx' fs')/\Cls K C/\dW K C f/\fs'.lookup f=some v'/\Q a' C v':=⟨a,_,dx,fs,v,rfl,h,T.cl c,T.na c f hf,hl,q⟩
local macro_rules | `(tactic| walk_at "g")=>`(tactic| refine B0 ?_)
noncomputable def oa (A:Ad) (c:Cn) (vs0:List V) (fs:List (Str×V)):List V->Hp->VK->Prop:=fun vs H Q=>∃ (x dx:Addr),vs=.ref x::vs0/\H x=some (.ins (A.c c) dx [])/\
 ∀ H':Hp,H' x=some (.ins (A.c c) dx fs)->(∀ b o,H b=some o->b≠x->H' b=some o)->Q .non H'
noncomputable def vv (K:PySem.W.Frag) (A:Ad):Sp:=fun vs H Q _=>∃ (b:Addr) (k:Int),oa A .Load [.ref b,.int k] (ldF b k) vs H Q
theorem vN (T:Txt K mg A):cD P w K mg base CX0 1 (A.f .eL) (A.fd .eL) (ps .eL) (vv K A):=by
 refine (T.F .eL).ok vE (fun vs H Q E h=>?_) (fun cdv Ar outer s H vs Q E hr h=>?_)
 ·obtain ⟨b,k,x,dx,rfl,_⟩:=h
  rfl
 ·obtain ⟨b,kg,x,dx,rfl,hx,k⟩:=h
  refine ⟨_,(ab (bA (pv 0) (pv 1) rfl)
   (ag (bA (pv 0) (pv 2) rfl))),?_⟩
  walk_at "u"
  refine iK ?_ hx
  walk_at "u"
  refine iK ?_ aj
  exact k _ aj fun c o e hc=>by rw [ax hc,ax hc];exact e
theorem yF {p:Pl} {f g:Mi.Flt} (t:g.aq=f.aq) (s:g.au.length=f.au.length) (pl:g.br.length=f.br.length) (b:g.aA.length=f.aA.length) (z:g.cI.length=f.cI.length) (k:g.book.length=f.book.length) :
  ∀ q,(obj A p g q).isSome=true->(obj A p f q).isSome=true:=by
 have key:∀ {α β γ:Type} {l:List α} {m:List β} {i:Nat} {u:α->γ} {v:β->γ},l.length=m.length->(l[i]?.map u).isSome=true->(m[i]?.map v).isSome=true:=fun {α β γ l m i u v} e h=>by
  simp at h ⊢;omega
 intro q h
 cases q with
 | fl=>rfl
 | tL=>rfl
 | sL=>rfl
 | pL=>rfl
 | told=>rfl
 | bL=>rfl
 | zL=>rfl
 | book=>rfl
 | trk i=>exact key (by rw [t]) h
 | tc i=>exact key (by rw [t]) h
 | ld i=>
   have h:(g.aq[i]?.bind _).isSome=true:=h
   show (f.aq[i]?.bind _).isSome=true
   rw [t] at h;exact h
 | shv i=>exact key s h
 | row i=>exact key s h
 | sc i=>exact key s h
 | plc i=>exact key pl h
 | blk i=>exact key b h
 | stp i=>exact key z h
 | line i=>exact key k h
noncomputable def zl (A:Ad):Sp:=fun vs H Q _=>∃ (B:Hp) (p:Pl) (f:Mi.Flt) (n s j:Nat) (r:List Nat),vs=[.ref (p.a .fl),.ref (p.a (.shv s))]/\Rep A p f B H/\Mi.WF n f/\s < f.au.length/\(Mi.ai f s).row=j::r/\
 ∀ (H':Hp) (x dx:Addr),H' x=some (.ins (A.c .Load) dx (ldF (p.a (.blk j)) (Mi.bS f j)))->Rep A p (Mi.take f s j) B H'->(∀ q,(obj A p (Mi.take f s j) q).isSome=true->p.a q≠x)->B x=none->Q (.ref x) H'
theorem qI (T:Txt K mg A):cD P w K mg base CX0 3 (A.f .df) (A.fd .df) (ps .df) (zl A):=by
 refine (T.F .df).ok ju (fun vs H Q E h=>?_) (fun cdv Ar outer s H vs Q E hr h=>?_)
 ·obtain ⟨B,p,f,n,s,j,r,rfl,_⟩:=h
  rfl
 ·obtain ⟨B,p,f,n,sv,j,r,rfl,R,W,hs,er,k⟩:=h
  refine ⟨_,(ab (bC (i:=2) ju.nd rfl (Or.inl rfl) (cB bo (ae (pv 1) rfl) aB (fun _ _=>rfl)))
   (ab (bC (i:=3) ju.nd rfl (Or.inl rfl) (j9 (T.mak .Load) (vN T) hr rfl (T.gc .Load) (T.b .eL) (ah (pv 2) (ah (aP (wd rfl) rfl T.x9 boot_min (ah (ae (pv 0) rfl) (ah (ae (pv 2) rfl) af))) af))))
   (ab (gA (pv 2) (ae (pv 3) rfl) xu)
   (ab (cR (bB gd (ae (pv 2) rfl) aB (cn _)) (ag (cH (jI PySem.F.plainAttrs_list PySem.F.slot_list_pop PySem.F.type_list_pop xa (ae (pv 1) rfl) (ah aB af)))) bE)
   (ag (aG (pv 3))))))),?_⟩
  have S:=R.sees
  have h0:=S.fl
  have hsv:f.au[sv]? = some (Mi.ai f sv):=bq hs _
  have h1:=S.shv hsv
  have h2:=S.row hsv
  have hj:j < f.aA.length:=(W.ai hs).row j (by rw [er];simp)
  have hb:f.aA[j]? = some (Mi.ak f j):=bq hj _
  have h3:=S.blk hb
  walk_at "w"
  refine ⟨_,_,_,_,rfl,rfl,SqL.of h2,bF (j:=0) (v:=V.ref (p.a (.blk j))) (by rw [er];rfl),?_⟩
  walk_at "v";walk_at "w";walk_at "w"
  refine ⟨_,_,rfl,?_⟩
  intro x dx hx hdx hne
  refine ⟨_,_,x,dx,rfl,aj,fun H1 hx1 s1=>⟨rfl,?_⟩⟩
  have sm:aV H H1:=aV.made hx hdx s1
  have fr:=R.fresh hx
  have R1:=R.same sm
  have S1:=R1.sees
  have g3:=S1.blk hb
  have kg:(if (Mi.ak f j).left < f.carries then (Mi.ak f j).left else f.carries)=Mi.bS f j:=rfl
  have hx1':H1 x=some (.ins (A.c .Load) dx (ldF (p.a (.blk j)) (Mi.bS f j))):=hx1
  walk_at "v";walk_at "g";walk_at "w";walk_at "i"
  have xb:x≠p.a (.blk j):=fun z=>fr.1 (.blk j) (by show (f.aA[j]?.map _).isSome=true;rw [hb];rfl) z.symm
  have R2:=R1.blk hb {Mi.ak f j with left:=(Mi.ak f j).left - Mi.bS f j}
  have hx2:(upd H1 (p.a (.blk j)) (.ins (A.c .Block) (p.d (.blk j)) (pO {Mi.ak f j with left:=(Mi.ak f j).left - Mi.bS f j}))) x=some (.ins (A.c .Load) dx (ldF (p.a (.blk j)) (Mi.bS f j))):=by rw [ax xb];exact hx1'
  refine ⟨_,_,g3,of_decide_eq_true rfl,?_⟩
  have eh:upd H1 (p.a (.blk j)) (.ins (A.c .Block) (p.d (.blk j)) (gr "left" (.int ((Mi.ak f j).left - Mi.bS f j)) (pO (Mi.ak f j))))=upd H1 (p.a (.blk j)) (.ins (A.c .Block) (p.d (.blk j)) (pO {Mi.ak f j with left:=(Mi.ak f j).left - Mi.bS f j})):=rfl
  have tk:=Mi.je f sv j
  have et:Mi.take f sv j=if (Mi.ak f j).left - Mi.bS f j=0 then Mi.cZ (Mi.dS f j {Mi.ak f j with left:=(Mi.ak f j).left - Mi.bS f j}) sv {Mi.ai f sv with row:=(Mi.ai f sv).row.tail} else Mi.dS f j {Mi.ak f j with left:=(Mi.ak f j).left - Mi.bS f j}:=rfl
  have frx:∀ q,(obj A p (Mi.take f sv j) q).isSome=true->p.a q≠x:=fun q hq=>fr.1 q (yF tk.1 tk.2.2.1 (by rw [tk.2.2.2.1]) tk.2.1 (by rw [(Mi.Sh.take f sv j).z]) (by rw [tk.2.2.2.2]) q hq)
  revert R2 hx2
  generalize eH2:(upd H1 (p.a (.blk j)) (.ins (A.c .Block) (p.d (.blk j)) (pO {Mi.ak f j with left:=(Mi.ak f j).left - Mi.bS f j})))=H2
  intro R2 hx2
  have S2:=R2.sees
  have hb2:(Mi.dS f j {Mi.ak f j with left:=(Mi.ak f j).left - Mi.bS f j}).aA[j]? = some {Mi.ak f j with left:=(Mi.ak f j).left - Mi.bS f j}:=eC hb
  have q3:=S2.blk hb2
  have goal2:∀ (t:TS) (D:Ends) (σ:L2.St),t D σ H2->t D σ (upd H1 (p.a (.blk j)) (.ins (A.c .Block) (p.d (.blk j)) (gr "left" (.int ((Mi.ak f j).left - Mi.bS f j)) (pO (Mi.ak f j))))):=fun t D σ z=>by rw [eh,eH2];exact z
  refine goal2 _ _ _ ?_
  walk_at "w"
  refine ⟨rfl,?_⟩
  walk_at "v"
  refine dG (fun e=>?_) (fun e=>?_)
  ·have e:(Mi.ak f j).left - Mi.bS f j=0:=eqI e
   have hsv2:(Mi.dS f j {Mi.ak f j with left:=(Mi.ak f j).left - Mi.bS f j}).au[sv]? = some (Mi.ai f sv):=hsv
   have q1:=S2.shv hsv2
   have q2:=S2.row hsv2
   walk_at "w"
   refine ⟨.inl ⟨rfl,_,SqL.of q2⟩,?_⟩
   refine ⟨_,_,0,0,V.ref (p.a (.blk j)),rfl,rfl,q2,by decide,by decide,?_,by rw [er];rfl,?_⟩
   ·rw [er];simp [seqIndex?]
   ·walk_at "v"
    have R3:=R2.row hsv2 (Mi.ai f sv).row.tail
    have el:((Mi.ai f sv).row.map fun j=>V.ref (p.a (.blk j))).eraseIdx 0=(Mi.ai f sv).row.tail.map fun j=>V.ref (p.a (.blk j)):=by rw [er];rfl
    rw [el]
    have xr:x≠p.a (.row sv):=fun z=>fr.1 (.row sv) (by show (f.au[sv]?.map _).isSome=true;rw [hsv];rfl) z.symm
    refine k _ x dx (by rw [ax xr];exact hx2) ?_ frx fr.2
    rw [et,if_pos e];exact R3
  ·have e:¬(Mi.ak f j).left - Mi.bS f j=0:=neI e
   walk_at "v"
   refine k _ x dx hx2 ?_ frx fr.2
   rw [et,if_neg e];exact R2
end
local macro_rules | `(tactic| walk_at "g")=>`(tactic| refine B0 ?_)
section
variable {P:Program} {w:World} {K:PySem.W.Frag} {mg:Str->Option Value} {base:Heap} {A:Ad}
theorem vo (f:Mi.Flt) (s j:Nat) (h:s < f.au.length):(Mi.ai (Mi.take f s j) s).time=(Mi.ai f s).time:=by
 unfold Mi.take
 by_cases e:(Mi.ak f j).left - Mi.bS f j=0
 ·simp only [e,if_true]
  unfold Mi.ai Mi.cZ Mi.dS
  simp [h]
 ·simp only [e,if_false]
  rfl
theorem mQ (T:Txt K mg A):cD P w K mg base CX0 4 (A.f .bR) (A.fd .bR) (ps .bR) (spM A Mi.gp):=by
 refine (T.F .bR).ok gR (fun vs H Q E h=>?_) (fun cdv Ar outer s H vs Q E hr h=>?_)
 ·obtain ⟨B,p,f,n,rfl,_⟩:=h
  rfl
 ·obtain ⟨B,p,f,n,rfl,R,W,hn,k⟩:=h
  refine ⟨_,(ag (fh PassesOwn.never rfl (dn (ae (pv 0) rfl)) (bW (i:=1) gR.nd rfl (Or.inl rfl))
   (ag (cR (PW.pt (kb (jw (gT (ae (pv 1) rfl))) (kb (bB iZ (aP aD rfl T.dX PySem.boot_len (ah (ae (pv 1) rfl) af)) aB (cn _)) (kN (jw (gT (aO (mh T) (hr.mono (by decide)) rfl (T.g .cJ rfl) (T.F .cJ).kp (T.b .cJ) (ah (pv 0) (ah (pv 1) af))))))))) (ab (bC (i:=2) gR.nd rfl (Or.inl rfl) (aO (jh T) (hr.mono (by decide)) rfl (T.g .bw rfl) (T.F .bw).kp (T.b .bw) (ah (pv 0) (ah (bD rfl T.kG) (ah (ae (pv 1) rfl) af)))))
   (ag (cR (mK (qG (pv 2))) (ab (bA (pv 2) (aO (qI T) hr rfl (T.g .df rfl) (T.F .df).kp (T.b .df) (ah (pv 0) (ah (pv 1) af))) rfl)
   (ag (cH (aO (fU T) (hr.mono (by decide)) rfl (T.g .bI rfl) (T.F .bI).kp (T.b .bI) (ah (pv 0) (ah (ae (pv 0) rfl) (ah (pv 2) (ah (bD rfl T.kF) (ah (ae (pv 1) rfl) (ah (ae (pv 1) rfl) af)))))))))) bE))) bE)))),?_⟩
  have h0:=R.sees.fl
  walk_at "w"
  refine ⟨_,rfl,⟨_,SqL.of R.sees.sL⟩,eW (K:=K) (xs:=refs p .shv f.au.length) (fun i σ H'=>∃ (v1 v2:Option V) (p':Pl),σ=[some (.ref (p.a .fl)),v1,v2]/\Rep A p' ((List.range i).foldl Mi.cU f) B H'/\Kp p p')
   ⟨none,none,p,rfl,R,Kp.refl p⟩ (fun i σ H' hi ⟨_,_,p',_,R',kp⟩=>?_) ?_ ?_⟩
  ·obtain ⟨_,sh⟩:=Mi.qR W i (by rw [aI] at hi;exact hi)
   have:=R'.sees.sL
   rw [kp.sL,sh.s,kp.sR] at this
   exact SqL.of this
  ·rintro i y σ H1 hi ⟨v1,v2,p1,rfl,R1,kp⟩
   obtain ⟨hi',rfl⟩:=f7 hi
   obtain ⟨W1,sh⟩:=Mi.qR W i (Nat.le_of_lt hi')
   have p3:=W.s2
   rw [Mi.fold_succ]
   generalize (List.range i).foldl Mi.cU f=f1 at R1 W1 sh
   have hi1:i < f1.au.length:=by rw [sh.s];exact hi'
   have hsv:f1.au[i]? = some (Mi.ai f1 i):=bq hi1 _
   have S1:=R1.sees
   have h1:=S1.fl
   have h2:=S1.shv hsv
   have h3:=S1.row hsv
   rw [kp.fl] at h1
   rw [kp.shv] at h2
   walk_at "w";walk_at "v"
   cases e1:(Mi.ai f1 i).stop with
   | true=>
     have e3:Mi.cU f1 i=f1:=by unfold Mi.cU;exact if_neg (by intro z;rw [e1] at z;cases z.1)
     exact ⟨_,_,p1,rfl,by rw [e3];exact R1,kp⟩
   | false=>
     walk_at "w"
     refine ⟨_,_,rfl,.inl (SqL.of h3),?_⟩
     rw [List.length_map]
     walk_at "i";walk_at "v"
     refine dG (fun e2=>?_) (fun e2=>?_)
     ·have e2:0 < (Mi.ai f1 i).row.length:=by have e2:(0:Int) < (((Mi.ai f1 i).row.length:Nat):Int):=of_decide_eq_true e2;omega
      walk_at "u"
      refine ⟨p1,f1,i,by rw [kp.fl,kp.shv],S1,W1.t2,hi1,fun H2 s2=>?_⟩
      walk_at "v"
      have R2:=R1.same s2
      have S2:=R2.sees
      have g2:=S2.shv hsv
      rw [kp.shv] at g2
      cases e3:Mi.fe f1 i with
      | true=>
        have e4:Mi.cU f1 i=f1:=by unfold Mi.cU;exact if_neg (by intro z;rw [e3] at z;cases z.2.2)
        exact ⟨_,_,p1,rfl,by rw [e4];exact R2,kp⟩
      | false=>
        walk_at "v";walk_at "w"
        refine ⟨p1,f1,_,_,by rw [kp.fl],S2,?_⟩
        walk_at "u"
        cases e:Mi.first f1 2 ((i:Int)+1) with
        | none=>
          have e4:Mi.cU f1 i=f1:=by unfold Mi.cU;rw [e];exact if_pos ⟨e1,e2,e3⟩
          exact ⟨_,_,p1,rfl,by rw [e4];exact R2,kp⟩
        | some t=>
          obtain ⟨ht,_⟩:=Mi.dY _ _ _ e
          cases er:(Mi.ai f1 i).row with
          | nil=>rw [er] at e2;exact absurd e2 (by simp)
          | cons j r=>
            have e4:Mi.cU f1 i=Mi.comes (Mi.aX (Mi.take f1 i j) t {Mi.aa (Mi.take f1 i j) t with load:=some (j,Mi.bS f1 j)}) f1.minute t 3 ((i:Int)+1) (Mi.ai f1 i).time:=by
             unfold Mi.cU;rw [e,er,if_pos ⟨e1,by simp,e3⟩]
            walk_at "u"
            refine ⟨B,p1,f1,_,i,j,r,by rw [kp.fl,kp.shv],R2,W1,hi1,er,fun H3 x dx hx3 R3 fr hB=>?_⟩
            have tk:=Mi.je f1 i j
            have shT:=Mi.Sh.take f1 i j
            have hj:j < f1.aA.length:=(W1.ai hi1).row j (by rw [er];simp)
            have W3:=W1.take hi1 hj
            have tm:=vo f1 i j hi1
            rw [e4,<-shT.m,<-tm]
            generalize Mi.take f1 i j=f3 at R3 fr tk shT W3 tm
            have ht3:f3.aq[t]? = some (Mi.aa f3 t):=bq (by rw [tk.1];exact ht) _
            have S3:=R3.sees
            have q3:=S3.trk ht3
            have kpt:=kp.trk t
            have R4:=R3.load ht3 hx3 fr hB
            have W4:=W3.aX (i:=t) (t:={Mi.aa f3 t with load:=some (j,Mi.bS f1 j)}) (by
             have tt:=W3.aa (i:=t) (by rw [tk.1];exact ht)
             exact ⟨tt.d0,tt.d7,tt.cnt,tt.w0,tt.w1,tt.w4,fun _=>rfl,fun x hx=>by cases hx;rw [shT.b];exact hj⟩)
            walk_at "v"
            refine iK (a:=p1.a (.trk t)) (fs':=pA t {Mi.aa f3 t with load:=some (j,Mi.bS f1 j)} (.ref x) (p1.a (.tc t))) ?_ q3
            revert R4
            generalize (upd H3 (p1.a (.trk t)) _)=H4
            intro R4
            have k4:Kp p (p1.put (.ld t) x dx):=kp.trans (Kp.zH _ _ _ _)
            generalize p1.put (.ld t) x dx=p4 at R4 k4
            have hi4:i < (Mi.aX f3 t {Mi.aa f3 t with load:=some (j,Mi.bS f1 j)}).au.length:=by show i < f3.au.length;rw [shT.s];exact hi1
            have S4:=R4.sees
            have r1:=S4.fl
            have r2:=S4.shv (bq hi4 Mi.fO)
            rw [k4.fl] at r1
            rw [k4.shv] at r2
            walk_at "v";walk_at "w";walk_at "v";walk_at "w";walk_at "w"
            refine ⟨B,p4,_,_,_,t,_,_,_,by rw [k4.fl,k4.trk];show _=[_,_,V.ref (p.a (.trk t)),_,_,_];rw [<-kpt];rfl,R4,W4,by omega,by show t < (f3.aq.set t _).length;rw [List.length_set,tk.1];exact ht,fun p5 H5 R5 k5=>?_⟩
            exact ⟨_,_,p5,rfl,R5,k4.trans k5⟩
     ·have e2:¬0 < (Mi.ai f1 i).row.length:=fun z=>e2 (decide_eq_true (by show (0:Int) < (((Mi.ai f1 i).row.length:Nat):Int);omega))
      have e3:Mi.cU f1 i=f1:=by unfold Mi.cU;exact if_neg (fun z=>e2 z.2.1)
      exact ⟨_,_,p1,rfl,by rw [e3];exact R1,kp⟩
  ·rintro σ H1 ⟨v1,v2,p1,rfl,R1,kp⟩
   rw [aI] at R1
   exact k p1 H1 R1 kp
theorem uY {n:Nat} {z:Int} (h0:0<=z) (h1:z < (n:Int)):ixN n z=some z.toNat:=by
 unfold ixN;rw [if_pos h0,if_pos h1]
theorem nB (T:Txt K mg A):cD P w K mg base CX0 4 (A.f .cb) (A.fd .cb) (ps .cb) (spM A Mi.count):=by
 refine (T.F .cb).ok i9 (fun vs H Q E h=>?_) (fun cdv Ar outer s H vs Q E hr h=>?_)
 ·obtain ⟨B,p,f,n,rfl,_⟩:=h
  rfl
 ·obtain ⟨B,p,f,n,rfl,R,W,hn,k⟩:=h
  refine ⟨_,(ab (fh PassesOwn.never rfl (dn (ae (pv 0) rfl)) (bW (i:=1) i9.nd rfl (Or.inl rfl))
   (ag (uF (ae (pv 1) rfl) (rX (gT (ae (pv 1) rfl)) (bD rfl T.jL) (ae (pv 1) rfl)) sD aB xp set_list)))
   (ag (fh PassesOwn.never rfl (dn (ae (pv 0) rfl)) (bW (i:=2) i9.nd rfl (Or.inl rfl))
   (ag (uF (ae (pv 2) rfl) (aO (lh T) hr rfl (T.g .aQ rfl) (T.F .aQ).kp (T.b .aQ) (ah (pv 0) (ah (pv 2) af))) sD aB xp set_list))))),?_⟩
  have h0:=R.sees.fl
  walk_at "w"
  refine ⟨_,rfl,⟨_,SqL.of R.sees.tL⟩,eW (K:=K) (xs:=refs p .trk f.aq.length) (fun i σ H'=>∃ (v1:Option V),σ=[some (.ref (p.a .fl)),v1,none]/\Rep A p ((List.range i).foldl Mi.dR f) B H')
   ⟨none,rfl,R⟩ (fun i σ H' hi ⟨_,_,R'⟩=>?_) ?_ ?_⟩
  ·obtain ⟨_,sh⟩:=Mi.nO W i (by rw [aI] at hi;exact hi)
   have:=R'.sees.tL
   rw [sh.t] at this
   exact SqL.of this
  ·rintro i y σ H1 hi ⟨v1,rfl,R1⟩
   obtain ⟨hi',rfl⟩:=f7 hi
   obtain ⟨W1,sh⟩:=Mi.nO W i (Nat.le_of_lt hi')
   rw [Mi.fold_succ]
   generalize (List.range i).foldl Mi.dR f=f1 at R1 W1 sh
   have hi1:i < f1.aq.length:=by rw [sh.t];exact hi'
   have ht:f1.aq[i]? = some (Mi.aa f1 i):=bq hi1 _
   have tt:=W1.aa hi1
   have S1:=R1.sees
   have h1:=S1.trk ht
   have h2:=S1.tc ht
   walk_at "w";walk_at "w";walk_at "v"
   have fin:∀ (z:Int) (kk:Nat),z=(kk:Int)->kk < 9->Mi.dR f1 i=Mi.aX f1 i {Mi.aa f1 i with cnt:=Mi.bump (Mi.aa f1 i).cnt kk}->
     yZ K (V.ref (p.a (.tc i))) (V.int z) H1 fun x H3=>tC (V.int 1) [some (V.ref (p.a .fl)),some (V.ref (p.a (.trk i))),none] H3 fun y H4=>ipI (fun i j=>i+j) x y H4 fun z' H5=>yY (V.ref (p.a (.tc i))) (V.int z) z' H5 fun H6=>
      ∃ v1,([some (V.ref (p.a .fl)),some (V.ref (p.a (.trk i))),none]:L2.St)=[some (.ref (p.a .fl)),v1,none]/\Rep A p (Mi.dR f1 i) B H6:=by
    intro z kk ez h9 ec
    have c9:=tt.cnt
    refine ⟨_,_,_,_,rfl,rfl,SqL.of h2,sV (l:=(Mi.aa f1 i).cnt) (by omega) (by omega),?_⟩
    refine ⟨_,_,rfl,rfl,?_⟩
    refine ⟨_,_,_,_,rfl,rfl,h2,uY (by omega) (by rw [List.length_map];omega),?_⟩
    refine ⟨_,rfl,?_⟩
    have R2:=R1.tc ht (Mi.bump (Mi.aa f1 i).cnt kk)
    have e1:z.toNat=kk:=by omega
    rw [e1,ec]
    have e2:((Mi.aa f1 i).cnt.map V.int).set kk (V.int ((Mi.aa f1 i).cnt.getD kk 0+1))=(Mi.bump (Mi.aa f1 i).cnt kk).map V.int:=by unfold Mi.bump;rw [List.map_set]
    rw [e2];exact R2
   have ec:∀ kk,(if (Mi.aa f1 i).stop=true then 8 else (Mi.aa f1 i).does.toNat)=kk->Mi.dR f1 i=Mi.aX f1 i {Mi.aa f1 i with cnt:=Mi.bump (Mi.aa f1 i).cnt kk}:=fun kk h=>by subst h;rfl
   refine dG (fun e=>?_) (fun e=>?_)
   ·have e:(Mi.aa f1 i).stop=true:=e
    exact fin 8 8 rfl (by omega) (ec _ (if_pos e))
   ·have e:(Mi.aa f1 i).stop=false:=by cases q:(Mi.aa f1 i).stop with | true=>exact absurd q e | false=>rfl
    walk_at "w"
    have d0:=tt.d0
    have d7:=tt.d7
    exact fin _ (Mi.aa f1 i).does.toNat (by show (Mi.aa f1 i).does=_;omega) (by omega) (ec _ (if_neg (by rw [e];decide)))
  ·rintro σ H1 ⟨v1,rfl,R1⟩
   rw [aI] at R1
   obtain ⟨W1,sh1⟩:=Mi.nO W f.aq.length (Nat.le_refl _)
   have mk:Mi.count f=(List.range f.au.length).foldl Mi.eY ((List.range f.aq.length).foldl Mi.dR f):=rfl
   generalize (List.range f.aq.length).foldl Mi.dR f=f1 at R1 W1 sh1 mk
   have h1:=R1.sees.fl
   walk_at "w"
   refine ⟨_,rfl,⟨_,SqL.of R1.sees.sL⟩,eW (K:=K) (xs:=refs p .shv f1.au.length) (fun i σ H'=>∃ (v1 v2:Option V),σ=[some (.ref (p.a .fl)),v1,v2]/\Rep A p ((List.range i).foldl Mi.eY f1) B H')
    ⟨_,none,rfl,R1⟩ (fun i σ H' hi ⟨_,_,_,R'⟩=>?_) ?_ ?_⟩
   ·obtain ⟨_,sh⟩:=Mi.r9 W1 i (by rw [aI] at hi;exact hi)
    have:=R'.sees.sL
    rw [sh.s] at this
    exact SqL.of this
   ·rintro i y σ H2 hi ⟨v1,v2,rfl,R2⟩
    obtain ⟨hi',rfl⟩:=f7 hi
    obtain ⟨W2,sh⟩:=Mi.r9 W1 i (Nat.le_of_lt hi')
    rw [Mi.fold_succ]
    generalize (List.range i).foldl Mi.eY f1=f2 at R2 W2 sh
    have hi2:i < f2.au.length:=by rw [sh.s];exact hi'
    have ht:f2.au[i]? = some (Mi.ai f2 i):=bq hi2 _
    have tt:=W2.ai hi2
    have c4:=tt.cnt
    have S2:=R2.sees
    have g1:=S2.shv ht
    walk_at "w";walk_at "u"
    refine ⟨p,f2,_,i,rfl,S2,W2,hi2,fun H3 s3=>?_⟩
    have R3:=R2.same s3
    have g3:=R3.sees.sc ht
    have k3:Mi.eH f2 i < 4:=by
     unfold Mi.eH
     split
     ·omega
     ·split
      ·omega
      ·split<;>omega
    refine ⟨_,_,_,_,rfl,rfl,SqL.of g3,sV (l:=(Mi.ai f2 i).cnt) (by omega) (by omega),?_⟩
    refine ⟨_,_,rfl,rfl,?_⟩
    refine ⟨_,_,_,_,rfl,rfl,g3,uY (by omega) (by rw [List.length_map];omega),?_⟩
    refine ⟨_,_,rfl,?_⟩
    have R4:=R3.sc ht (Mi.bump (Mi.ai f2 i).cnt (Mi.eH f2 i))
    have e1:((Mi.eH f2 i:Nat):Int).toNat=Mi.eH f2 i:=by omega
    rw [e1]
    have e2:((Mi.ai f2 i).cnt.map V.int).set (Mi.eH f2 i) (V.int ((Mi.ai f2 i).cnt.getD (Mi.eH f2 i) 0+1))=(Mi.bump (Mi.ai f2 i).cnt (Mi.eH f2 i)).map V.int:=by unfold Mi.bump;rw [List.map_set]
    rw [e2];exact R4
   ·rintro σ H2 ⟨v1,v2,rfl,R2⟩
    rw [aI] at R2
    rw [sh1.s] at R2
    rw [<-mk] at R2
    exact k p H2 R2 (Kp.refl p)
end
section
variable {P:Program} {w:World} {K:PySem.W.Frag} {mg:Str->Option Value} {base:Heap} {A:Ad}
theorem yo (f:Mi.Flt) (i:Nat) (a b:Mi.Plc):Mi.fA (Mi.fA f i a) i b=Mi.fA f i b:=by
 unfold Mi.fA;simp
noncomputable def Az (A:Ad):Sp:=fun vs H Q _=>∃ (B:Hp) (p:Pl) (f:Mi.Flt) (n i:Nat),vs=[.ref (p.a .fl),.ref (p.a (.trk i))]/\Rep A p f B H/\Mi.WF n f/\i < f.aq.length/\(Mi.aa f i).does=6/\
 ∀ (H':Hp),Rep A p (Mi.tip f i) B H'->Q .non H'
theorem rY (T:Txt K mg A):cD P w K mg base CX0 1 (A.f .dI) (A.fd .dI) (ps .dI) (Az A):=by
 refine (T.F .dI).ok mZ (fun vs H Q E h=>?_) (fun cdv Ar outer s H vs Q E hr h=>?_)
 ·obtain ⟨B,p,f,n,i,rfl,_⟩:=h
  rfl
 ·obtain ⟨B,p,f,n,i,rfl,R,W,hi,h6,k⟩:=h
  refine ⟨_,(ab (bC (i:=2) mZ.nd rfl (Or.inl rfl) (cB bo (ae (pv 0) rfl) (cS fR (ae (pv 1) rfl) aB) (fun _ _=>rfl)))
   (ab (gA (pv 2) aB mU)
   (ab (gA (pv 2) (ae (ae (pv 1) rfl) rfl) mU)
   (ab (gA (ae (ae (pv 1) rfl) rfl) (ae (ae (pv 1) rfl) rfl) mU)
   (ab (bA (pv 1) qE rfl)
   (ab (bA (pv 1) (bD rfl T.p7) rfl)
   (ag (bA (pv 1) aB rfl)))))))),?_⟩
  have tt:=W.aa hi
  have aw:=tt.w4 (.inr (.inr h6))
  have ht:f.aq[i]? = some (Mi.aa f i):=bq hi _
  obtain ⟨l,el⟩:=Option.isSome_iff_exists.mp (tt.l3 (.inr (.inr (.inr h6))))
  obtain ⟨j,kg⟩:=l
  have hj:=tt.l _ el
  have em:Mi.tip f i=Mi.aX (Mi.dS (Mi.fA f ((Mi.aa f i).at_ - 1).toNat {Mi.bz f ((Mi.aa f i).at_ - 1).toNat with loads:=(Mi.bz f ((Mi.aa f i).at_ - 1).toNat).loads+1,bU:=(Mi.bz f ((Mi.aa f i).at_ - 1).toNat).bU+kg}) j
    {Mi.ak f j with tipped:=(Mi.ak f j).tipped+kg}) i {Mi.aa f i with load:=none,does:=0,go:=0}:=by
   unfold Mi.tip
   show (match (Mi.aa f i).load with | none=>f | some (j,k)=>_)=_
   rw [el];rfl
  rw [em] at k
  have ha:((Mi.aa f i).at_ - 1).toNat < f.br.length:=by omega
  have S:=R.sees
  have h0:=S.fl
  have h1:=S.trk ht
  walk_at "w";walk_at "w";walk_at "i"
  refine ⟨_,_,_,_,rfl,rfl,SqL.of S.pL,lG (z:=(Mi.aa f i).at_) aw.1 aw.2,?_⟩
  generalize ((Mi.aa f i).at_ - 1).toNat=a at k ha
  have hp:f.br[a]? = some (Mi.bz f a):=bq ha _
  have h2:=S.plc hp
  walk_at "v";walk_at "g";walk_at "i"
  refine A6 h2 (R.plc hp {Mi.bz f a with loads:=(Mi.bz f a).loads+1}) (fun H1 R1=>?_)
  have hp1:(Mi.fA f a {Mi.bz f a with loads:=(Mi.bz f a).loads+1}).br[a]? = some {Mi.bz f a with loads:=(Mi.bz f a).loads+1}:=eC hp
  have ht1:(Mi.fA f a {Mi.bz f a with loads:=(Mi.bz f a).loads+1}).aq[i]? = some (Mi.aa f i):=ht
  have S1:=R1.sees
  have g2:=S1.plc hp1
  have g1:=S1.trk ht1
  have g3:=S1.ld ht1 el
  rw [el] at g1
  walk_at "v";walk_at "g";walk_at "w";walk_at "f";walk_at "i"
  refine A6 g2 (R1.plc hp1 {Mi.bz f a with loads:=(Mi.bz f a).loads+1,bU:=(Mi.bz f a).bU+kg}) (fun H2 R2=>?_)
  rw [yo] at R2
  generalize ef2:Mi.fA f a {Mi.bz f a with loads:=(Mi.bz f a).loads+1,bU:=(Mi.bz f a).bU+kg} = f2 at R2 k
  have ht2:f2.aq[i]? = some (Mi.aa f i):=by rw [<-ef2];exact ht
  have hb2:f2.aA[j]? = some (Mi.ak f j):=by rw [<-ef2];exact bq hj _
  have S2:=R2.sees
  have q1:=S2.trk ht2
  have q3:=S2.ld ht2 el
  have q4:=S2.blk hb2
  rw [el] at q1
  walk_at "w";walk_at "f";walk_at "g";walk_at "w";walk_at "f";walk_at "i"
  refine A6 q4 (R2.blk hb2 {Mi.ak f j with tipped:=(Mi.ak f j).tipped+kg}) (fun H3 R3=>?_)
  have ht3:(Mi.dS f2 j {Mi.ak f j with tipped:=(Mi.ak f j).tipped+kg}).aq[i]? = some (Mi.aa f i):=ht2
  generalize Mi.dS f2 j {Mi.ak f j with tipped:=(Mi.ak f j).tipped+kg} = f3 at R3 k ht3
  walk_at "v"
  refine nq (R3.sees.trk ht3) (R3.trk (t':={Mi.aa f i with load:=none}) ht3 rfl (.inr rfl)) (fun H4 R4=>?_)
  have ht4:(Mi.aX f3 i {Mi.aa f i with load:=none}).aq[i]? = some {Mi.aa f i with load:=none}:=eC ht3
  walk_at "v"
  refine nq (R4.sees.trk ht4) (R4.trk (t':={Mi.aa f i with load:=none,does:=0}) ht4 rfl (.inr rfl)) (fun H5 R5=>?_)
  rw [md] at R5
  have ht5:(Mi.aX f3 i {Mi.aa f i with load:=none,does:=0}).aq[i]? = some {Mi.aa f i with load:=none,does:=0}:=eC ht3
  walk_at "v"
  refine nq (R5.sees.trk ht5) (R5.trk (t':={Mi.aa f i with load:=none,does:=0,go:=0}) ht5 rfl (.inr rfl)) (fun H6 R6=>?_)
  rw [md] at R6
  exact k H6 R6
noncomputable def zt (A:Ad):Sp:=fun vs H Q _=>∃ (B:Hp) (p:Pl) (f:Mi.Flt) (n i:Nat),vs=[.ref (p.a .fl),.ref (p.a (.trk i))]/\Rep A p f B H/\Mi.WF n f/\n<=1000000/\i < f.aq.length/\((Mi.aa f i).does=1\/(Mi.aa f i).does=3\/(Mi.aa f i).does=4\/(Mi.aa f i).does=6)/\
 ∀ (p':Pl) (H':Hp),Rep A p' (Mi.ly f i) B H'->Kp p p'->Q .non H'
theorem wY (T:Txt K mg A):cD P w K mg base CX0 3 (A.f .gG) (A.fd .gG) (ps .gG) (zt A):=by
 refine (T.F .gG).ok oj (fun vs H Q E h=>?_) (fun cdv Ar outer s H vs Q E hr h=>?_)
 ·obtain ⟨B,p,f,n,i,rfl,_⟩:=h
  rfl
 ·obtain ⟨B,p,f,n,i,rfl,R,W,hn,hi,hd,k⟩:=h
  refine ⟨_,(ab (bC (i:=2) oj.nd rfl (Or.inl rfl) (cS gU (ae (pv 0) rfl) aB))
   (ag (cR (bB gd (ae (pv 1) rfl) (bD rfl T.kC) (cn _)) (ag (cH (aO (fU T) hr rfl (T.g .bI rfl) (T.F .bI).kp (T.b .bI) (ah (pv 0) (ah (pv 2) (ah (pv 1) (ah (bD rfl T.kG) (ah (ae (pv 1) rfl) (ah aB af))))))))) (ag (cR (bB gd (ae (pv 1) rfl) (bD rfl T.kF) (cn _)) (ab (bC (i:=3) oj.nd rfl (Or.inl rfl) (ae (ae (ae (pv 1) rfl) rfl) rfl))
   (ag (cH (aO (fU T) hr rfl (T.g .bI rfl) (T.F .bI).kp (T.b .bI) (ah (pv 0) (ah (pv 2) (ah (pv 1) (ah (bD rfl T.lQ) (ah (pv 3) (ah (aO (lq T) (hr.mono (by decide)) rfl (T.g .aS rfl) (T.F .aS).kp (T.b .aS) (ah (pv 0) (ah (ae (pv 1) rfl) (ah (pv 3) af)))) af)))))))))) (ag (cR (bB gd (ae (pv 1) rfl) (bD rfl T.lQ) (cn _)) (ag (cH (aO (fU T) hr rfl (T.g .bI rfl) (T.F .bI).kp (T.b .bI) (ah (pv 0) (ah (pv 2) (ah (pv 1) (ah (bD rfl T.jA) (ah (ae (pv 1) rfl) (ah aB af))))))))) (ag (cH (aO (rY T) (hr.mono (by decide)) rfl (T.g .dI rfl) (T.F .dI).kp (T.b .dI) (ah (pv 0) (ah (pv 1) af)))))))))))),?_⟩
  have tt:=W.aa hi
  have ht:f.aq[i]? = some (Mi.aa f i):=bq hi _
  have S:=R.sees
  have h0:=S.fl
  have h1:=S.trk ht
  have eg:Mi.ly f i=if (Mi.aa f i).does=1 then Mi.comes f (f.minute+1) i 2 (Mi.aa f i).at_ 0 else if (Mi.aa f i).does=3 then (match (Mi.aa f i).load with | none=>f | some (j,_)=>Mi.comes f (f.minute+1) i 4 (Mi.ak f j).place (Mi.iV f (Mi.aa f i).at_ (Mi.ak f j).place))
    else if (Mi.aa f i).does=4 then Mi.comes f (f.minute+1) i 5 (Mi.aa f i).at_ 0 else Mi.tip f i:=rfl
  rw [eg] at k
  walk_at "w";walk_at "i"
  walk_at "w"
  refine ⟨rfl,?_⟩
  walk_at "v"
  refine dG (fun e1=>?_) (fun e1=>?_)
  ·have e1:(Mi.aa f i).does=1:=eqI e1
   rw [if_pos e1] at k
   walk_at "u";walk_at "v";walk_at "w"
   exact ⟨B,p,f,n,_,i,_,_,_,rfl,R,W,hn,hi,k⟩
  ·have e1:¬(Mi.aa f i).does=1:=neI e1
   rw [if_neg e1] at k
   walk_at "w"
   refine ⟨rfl,?_⟩
   walk_at "v"
   refine dG (fun e2=>?_) (fun e2=>?_)
   ·have e2:(Mi.aa f i).does=3:=eqI e2
    rw [if_pos e2] at k
    obtain ⟨l,el⟩:=Option.isSome_iff_exists.mp (tt.l3 (.inl e2))
    obtain ⟨j,kg⟩:=l
    rw [el] at k h1
    have hj:=tt.l _ el
    have hb:f.aA[j]? = some (Mi.ak f j):=bq hj _
    have bp:=W.ak hj
    have aw:=tt.w1 (.inr (.inr e2))
    have h2:=S.ld ht el
    have h3:=S.blk hb
    walk_at "w";walk_at "f";walk_at "f"
    walk_at "u";walk_at "u"
    walk_at "v";walk_at "w";walk_at "v"
    refine ⟨p,f,n,_,_,rfl,S,W,bp.1,bp.2,aw.1,aw.2,?_⟩
    exact ⟨B,p,f,n,_,i,_,_,_,rfl,R,W,hn,hi,k⟩
   ·have e2:¬(Mi.aa f i).does=3:=neI e2
    rw [if_neg e2] at k
    walk_at "w"
    refine ⟨rfl,?_⟩
    walk_at "v"
    refine dG (fun e3=>?_) (fun e3=>?_)
    ·have e3:(Mi.aa f i).does=4:=eqI e3
     rw [if_pos e3] at k
     walk_at "u";walk_at "v";walk_at "w"
     exact ⟨B,p,f,n,_,i,_,_,_,rfl,R,W,hn,hi,k⟩
    ·have e3:¬(Mi.aa f i).does=4:=neI e3
     rw [if_neg e3] at k
     walk_at "u"
     exact ⟨B,p,f,n,i,rfl,R,W,hi,by omega,fun H' R'=>k p H' R' (Kp.refl p)⟩
theorem in4 (d:Int):([1,3,4,6]:List Int).contains d=true ↔ (d=1\/d=3\/d=4\/d=6):=by
 simp
theorem oE (T:Txt K mg A):cD P w K mg base CX0 4 (A.f .cz) (A.fd .cz) (ps .cz) (spM A Mi.hC):=by
 refine (T.F .cz).ok k8 (fun vs H Q E h=>?_) (fun cdv Ar outer s H vs Q E hr h=>?_)
 ·obtain ⟨B,p,f,n,rfl,_⟩:=h
  rfl
 ·obtain ⟨B,p,f,n,rfl,R,W,hn,k⟩:=h
  refine ⟨_,(ag (fh PassesOwn.never rfl (dn (ae (pv 0) rfl)) (bW (i:=1) k8.nd rfl (Or.inl rfl))
   (ag (cR (PW.pt (kb (bB jf (ae (pv 1) rfl) (jH rfl T.i5) (by with_unfolding_all rfl)) (kN (jw (gT (aO (u0 T) (hr.mono (by decide)) rfl (T.g .eI rfl) (T.F .eI).kp (T.b .eI) (ah (pv 0) (ah (pv 1) af)))))))) (ag (cR (bB iZ (ae (pv 1) rfl) aB (cn _)) (ag (gA (pv 1) aB xu)) (ag (cH (aO (wY T) hr rfl (T.g .gG rfl) (T.F .gG).kp (T.b .gG) (ah (pv 0) (ah (pv 1) af))))))) bE)))),?_⟩
  have h0:=R.sees.fl
  walk_at "w"
  refine ⟨_,rfl,⟨_,SqL.of R.sees.tL⟩,eW (K:=K) (xs:=refs p .trk f.aq.length) (fun i σ H'=>∃ (v1:Option V) (p':Pl),σ=[some (.ref (p.a .fl)),v1]/\Rep A p' ((List.range i).foldl Mi.eG f) B H'/\Kp p p')
   ⟨none,p,rfl,R,Kp.refl p⟩ (fun i σ H' hi ⟨_,p',_,R',kp⟩=>?_) ?_ ?_⟩
  ·obtain ⟨_,sh⟩:=Mi.qN W i (by rw [aI] at hi;exact hi)
   have:=R'.sees.tL
   rw [kp.tL,sh.t,kp.tR] at this
   exact SqL.of this
  ·rintro i y σ H1 hi ⟨v1,p1,rfl,R1,kp⟩
   obtain ⟨hi',rfl⟩:=f7 hi
   obtain ⟨W1,sh⟩:=Mi.qN W i (Nat.le_of_lt hi')
   have t8:=W.t2
   rw [Mi.fold_succ]
   generalize (List.range i).foldl Mi.eG f=f1 at R1 W1 sh
   have hi1:i < f1.aq.length:=by rw [sh.t];exact hi'
   have ht:f1.aq[i]? = some (Mi.aa f1 i):=bq hi1 _
   have S1:=R1.sees
   have h1:=S1.fl
   have h2:=S1.trk ht
   rw [kp.fl] at h1
   have h2':=h2
   rw [kp.trk] at h2
   have eg:Mi.eG f1 i=if ((Mi.aa f1 i).does=1\/(Mi.aa f1 i).does=3\/(Mi.aa f1 i).does=4\/(Mi.aa f1 i).does=6)/\Mi.held f1 (Mi.aa f1 i)=false then (if 1 < (Mi.aa f1 i).go then Mi.aX f1 i {Mi.aa f1 i with go:=(Mi.aa f1 i).go - 1} else Mi.ly f1 i) else f1:=rfl
   walk_at "w"
   refine ⟨_,[.int 1,.int 3,.int 4,.int 6],rfl,.inr (T.hJ H1),rfl,rfl,?_⟩
   walk_at "v"
   have e1:(if false=true then !inV (V.int (Mi.aa f1 i).does) [.int 1,.int 3,.int 4,.int 6] else inV (V.int (Mi.aa f1 i).does) [.int 1,.int 3,.int 4,.int 6])=([1,3,4,6]:List Int).contains (Mi.aa f1 i).does:=by
    rw [if_neg (by decide)];exact kx _ [1,3,4,6]
   refine dG (fun e=>?_) (fun e=>?_)
   ·have e:=(in4 _).mp (e1.symm.trans e)
    walk_at "u"
    refine ⟨p1,f1,_,i,by rw [kp.fl,kp.trk],S1,W1,hi1,?_⟩
    walk_at "v"
    cases e2:Mi.held f1 (Mi.aa f1 i) with
    | true=>
      have eg:=eg.trans (if_neg (by intro z;rw [e2] at z;cases z.2))
      exact ⟨_,p1,rfl,by rw [eg];exact R1,kp⟩
    | false=>
      have eg:=eg.trans (if_pos ⟨e,e2⟩)
      walk_at "w";walk_at "i";walk_at "v"
      refine dG (fun e3=>?_) (fun e3=>?_)
      ·have e3:1 < (Mi.aa f1 i).go:=of_decide_eq_true e3
       have eg:=eg.trans (if_pos e3)
       walk_at "v";walk_at "g";walk_at "i"
       have R2:=R1.trk (t':={Mi.aa f1 i with go:=(Mi.aa f1 i).go - 1}) ht rfl (.inl rfl)
       rw [kp.trk] at R2
       refine ⟨_,_,h2,of_decide_eq_true rfl,?_⟩
       exact ⟨_,p1,rfl,by rw [eg];exact R2,kp⟩
      ·have e3:¬1 < (Mi.aa f1 i).go:=fun z=>e3 (decide_eq_true z)
       have eg:=eg.trans (if_neg e3)
       walk_at "u"
       exact ⟨B,p1,f1,_,i,by rw [kp.fl,kp.trk],R1,W1,by omega,hi1,e,fun p3 H3 R3 k3=>⟨_,p3,rfl,by rw [eg];exact R3,kp.trans k3⟩⟩
   ·have e:=fun z=>e (e1.trans ((in4 _).mpr z))
    have eg:=eg.trans (if_neg (fun z=>e z.1))
    exact ⟨_,p1,rfl,by rw [eg];exact R1,kp⟩
  ·rintro σ H1 ⟨v1,p1,rfl,R1,kp⟩
   rw [aI] at R1
   exact k p1 H1 R1 kp
noncomputable def AB (A:Ad):Sp:=fun vs H Q _=>∃ (B:Hp) (p:Pl) (f:Mi.Flt) (n:Nat),vs=[.ref (p.a .fl)]/\Rep A p f B H/\Mi.WF n f/\n<=90000/\
 ∀ (p':Pl) (H':Hp),Rep A p' (Mi.minute f) B H'->Kp p p'->Q .non H'
theorem lu (T:Txt K mg A):cD P w K mg base CX0 5 (A.f .aT) (A.fd .aT) (ps .aT) (AB A):=by
 refine (T.F .aT).ok kZ (fun vs H Q E h=>?_) (fun cdv Ar outer s H vs Q E hr h=>?_)
 ·obtain ⟨B,p,f,n,rfl,_⟩:=h
  rfl
 ·obtain ⟨B,p,f,n,rfl,R,W,hn,k⟩:=h
  refine ⟨_,(ab (cH (aO (nA T) (hr.mono (by decide)) rfl (T.g .bZ rfl) (T.F .bZ).kp (T.b .bZ) (ah (pv 0) af)))
   (ab (cH (aO (ll T) hr rfl (T.g .aR rfl) (T.F .aR).kp (T.b .aR) (ah (pv 0) af)))
   (ab (cH (aO (mP T) (hr.mono (by decide)) rfl (T.g .bQ rfl) (T.F .bQ).kp (T.b .bQ) (ah (pv 0) af)))
   (ab (cH (aO (mQ T) hr rfl (T.g .bR rfl) (T.F .bR).kp (T.b .bR) (ah (pv 0) af)))
   (ab (cH (aO (nB T) hr rfl (T.g .cb rfl) (T.F .cb).kp (T.b .cb) (ah (pv 0) af)))
   (ab (cH (aO (oE T) hr rfl (T.g .cz rfl) (T.F .cz).kp (T.b .cz) (ah (pv 0) af)))
   (ag (gA (pv 0) aB mU)))))))),?_⟩
  obtain ⟨W1,s1⟩:=Mi.qP W
  obtain ⟨W2,s2⟩:=Mi.lK W1
  obtain ⟨W3,s3⟩:=Mi.mG W2
  obtain ⟨W4,s4⟩:=Mi.lO W3
  obtain ⟨W5,s5⟩:=Mi.pj W4
  obtain ⟨W6,s6⟩:=Mi.oJ W5
  rw [Mi.jj] at k
  unfold Mi.mid at k
  walk_at "v"
  refine ⟨B,p,f,n,rfl,R,W,by omega,fun p1 H1 R1 k1=>?_⟩
  walk_at "v"
  refine ⟨B,p1,_,_,by rw [k1.fl],R1,W1,by omega,fun p2 H2 R2 k2=>?_⟩
  have k2:=k1.trans k2
  walk_at "v"
  refine ⟨B,p2,_,_,by rw [k2.fl],R2,W2,by omega,fun p3 H3 R3 k3=>?_⟩
  have k3:=k2.trans k3
  walk_at "v"
  refine ⟨B,p3,_,_,by rw [k3.fl],R3,W3,by omega,fun p4 H4 R4 k4=>?_⟩
  have k4:=k3.trans k4
  walk_at "v"
  refine ⟨B,p4,_,_,by rw [k4.fl],R4,W4,by omega,fun p5 H5 R5 k5=>?_⟩
  have k5:=k4.trans k5
  walk_at "v"
  refine ⟨B,p5,_,_,by rw [k5.fl],R5,W5,by omega,fun p6 H6 R6 k6=>?_⟩
  have k6:=k5.trans k6
  generalize Mi.hC (Mi.count (Mi.gp (Mi.gD (Mi.sendAll (Mi.mark f)))))=f6 at R6 k
  have h6:=R6.sees.fl
  rw [k6.fl] at h6
  have R7:=R6.min (f6.minute+1)
  rw [k6.fl] at R7
  walk_at "v";walk_at "g";walk_at "i"
  refine ⟨_,_,h6,of_decide_eq_true rfl,?_⟩
  exact k p6 _ R7 k6
noncomputable def Bi (A:Ad):Sp:=fun vs H Q _=>∃ (B:Hp) (p:Pl) (f:Mi.Flt) (n:Nat) (c:Int),vs=[.ref (p.a .fl),.int c]/\Rep A p f B H/\Mi.WF n f/\n<=40000/\0<=c/\c<=1440/\
 ∀ (p':Pl) (H':Hp),Rep A p' (Mi.minutes f c.toNat) B H'->Kp p p'->Q .non H'
theorem hX (T:Txt K mg A):cD P w K mg base CX0 6 (A.f .aF) (A.fd .aF) (ps .aF) (Bi A):=by
 refine (T.F .aF).ok hE (fun vs H Q E h=>?_) (fun cdv Ar outer s H vs Q E hr h=>?_)
 ·obtain ⟨B,p,f,n,c,rfl,_⟩:=h
  rfl
 ·obtain ⟨B,p,f,n,c,rfl,R,W,hn,c0,c1,k⟩:=h
  refine ⟨_,(ag (fh PassesOwn.never rfl (kP rfl T.kQ (ah (pv 1) af)) (bW (i:=2) hE.nd rfl (Or.inl rfl))
   (ag (cH (aO (lu T) hr rfl (T.g .aT rfl) (T.F .aT).kp (T.b .aT) (ah (pv 0) af)))))),?_⟩
  walk_at "v"
  refine ⟨c,rfl,by omega,by omega,kT (n:=c.toNat) (fun i σ H'=>∃ (v:Option V) (p':Pl),σ=[some (.ref (p.a .fl)),some (.int c),v]/\Rep A p' (Mi.minutes f i) B H'/\Kp p p') ⟨none,p,rfl,R,Kp.refl p⟩ ?_ ?_⟩
  ·rintro i σ H1 hi ⟨v,p1,rfl,R1,kp⟩
   have W1:=Mi.gv W i
   walk_at "v"
   exact ⟨B,p1,_,_,by rw [kp.fl],R1,W1,by omega,fun p2 H2 R2 k2=>⟨_,p2,rfl,R2,kp.trans k2⟩⟩
  ·rintro σ H1 ⟨v,p1,rfl,R1,kp⟩
   exact k p1 H1 R1 kp
end
section
variable {P:Program} {w:World} {K:PySem.W.Frag} {mg:Str->Option Value} {base:Heap} {A:Ad}
noncomputable def tI (K:PySem.W.Frag) (A:Ad):Sp:=fun vs H Q _=>∃ (n k p:Int),oa A .Block [.int n,.int k,.int p] (pO ⟨n,k,k,0,p⟩) vs H Q
theorem u7 (T:Txt K mg A):cD P w K mg base CX0 1 (A.f .dE) (A.fd .dE) (ps .dE) (tI K A):=by
 refine (T.F .dE).ok tV (fun vs H Q E h=>?_) (fun cdv Ar outer s H vs Q E hr h=>?_)
 ·obtain ⟨n,kg,pl,x,dx,rfl,_⟩:=h
  rfl
 ·obtain ⟨n,kg,pl,x,dx,rfl,hx,k⟩:=h
  refine ⟨_,(ab (bA (pv 0) (pv 1) rfl)
   (ab (bA (pv 0) (pv 2) rfl)
   (ab (bA (pv 0) (pv 2) rfl)
   (ab (bA (pv 0) aB rfl)
   (ag (bA (pv 0) (pv 3) rfl)))))),?_⟩
  walk_at "u"
  refine iK ?_ hx
  walk_at "u"
  refine iK ?_ aj
  walk_at "u"
  refine iK ?_ aj
  walk_at "v"
  refine iK ?_ aj
  walk_at "u"
  refine iK ?_ aj
  exact k _ aj fun c o e hc=>by rw [ax hc,ax hc,ax hc,ax hc,ax hc];exact e
noncomputable def vq (K:PySem.W.Frag) (A:Ad):Sp:=fun vs H Q _=>∃ (k wh m l:Int),oa A .Stop [.int k,.int wh,.int m,.int l] (y6 ⟨k,wh,m,m+l⟩) vs H Q
theorem vL (T:Txt K mg A):cD P w K mg base CX0 1 (A.f .eJ) (A.fd .eJ) (ps .eJ) (vq K A):=by
 refine (T.F .eJ).ok vC (fun vs H Q E h=>?_) (fun cdv Ar outer s H vs Q E hr h=>?_)
 ·obtain ⟨kk,wh,m,l,x,dx,rfl,_⟩:=h
  rfl
 ·obtain ⟨kk,wh,m,l,x,dx,rfl,hx,k⟩:=h
  refine ⟨_,(ab (bA (pv 0) (pv 1) rfl)
   (ab (bA (pv 0) (pv 2) rfl)
   (ab (bA (pv 0) (pv 3) rfl)
   (ag (bA (pv 0) (cS gU (pv 3) (pv 4)) rfl))))),?_⟩
  walk_at "u"
  refine iK ?_ hx
  walk_at "u"
  refine iK ?_ aj
  walk_at "u"
  refine iK ?_ aj
  walk_at "u";walk_at "i";walk_at "v"
  refine iK ?_ aj
  exact k _ aj fun c o e hc=>by rw [ax hc,ax hc,ax hc,ax hc];exact e
theorem ko (T:Txt K mg A):cD P w K mg base CX0 1 (A.f .aN) (A.fd .aN) (ps .aN) (spM A Mi.dF):=by
 refine (T.F .aN).ok hG (fun vs H Q E h=>?_) (fun cdv Ar outer s H vs Q E hr h=>?_)
 ·obtain ⟨B,p,f,n,rfl,_⟩:=h
  rfl
 ·obtain ⟨B,p,f,n,rfl,R,W,hn,k⟩:=h
  refine ⟨_,(ag (fh PassesOwn.never rfl (dn (ae (pv 0) rfl)) (bW (i:=1) hG.nd rfl (Or.inl rfl))
   (ag (cR (bB gd (ae (pv 1) rfl) (bD rfl T.qV) (cn _)) (ag (bA (pv 1) (bD rfl T.p7) rfl)) bE)))),?_⟩
  have h0:=R.sees.fl
  walk_at "w"
  refine ⟨_,rfl,⟨_,SqL.of R.sees.tL⟩,eW (K:=K) (xs:=refs p .trk f.aq.length) (fun i σ H'=>∃ (v1:Option V),σ=[some (.ref (p.a .fl)),v1]/\Rep A p ((List.range i).foldl Mi.fz f) B H')
   ⟨none,rfl,R⟩ (fun i σ H' hi ⟨_,_,R'⟩=>?_) ?_ ?_⟩
  ·obtain ⟨_,sh⟩:=Mi.qW W i (by rw [aI] at hi;exact hi)
   have:=R'.sees.tL
   rw [sh.t] at this
   exact SqL.of this
  ·rintro i y σ H1 hi ⟨v1,rfl,R1⟩
   obtain ⟨hi',rfl⟩:=f7 hi
   obtain ⟨W1,sh⟩:=Mi.qW W i (Nat.le_of_lt hi')
   rw [Mi.fold_succ]
   generalize (List.range i).foldl Mi.fz f=f1 at R1 W1 sh
   have ht:f1.aq[i]? = some (Mi.aa f1 i):=bq (by rw [sh.t];exact hi') _
   have h1:=R1.sees.trk ht
   walk_at "w"
   refine ⟨rfl,?_⟩
   walk_at "v"
   refine dG (fun e=>?_) (fun e=>?_)
   ·have e:(Mi.aa f1 i).does=7:=eqI e
    have eg:Mi.fz f1 i=Mi.aX f1 i {Mi.aa f1 i with does:=0}:=if_pos e
    walk_at "v"
    refine nq h1 (R1.trk (t':={Mi.aa f1 i with does:=0}) ht rfl (.inl rfl)) (fun H2 R2=>?_)
    exact ⟨_,rfl,by rw [eg];exact R2⟩
   ·have e:¬(Mi.aa f1 i).does=7:=neI e
    have eg:Mi.fz f1 i=f1:=if_neg e
    exact ⟨_,rfl,by rw [eg];exact R1⟩
  ·rintro σ H1 ⟨v1,rfl,R1⟩
   rw [aI] at R1
   exact k p H1 R1 (Kp.refl p)
noncomputable def AD (A:Ad):Sp:=fun vs H Q _=>∃ (p:Pl) (f:Mi.Flt) (c:Int),vs=[.ref (p.a .fl),.int c]/\dA A p f H/\Q (.bl (decide (1440 < f.minute+c))) H
theorem jK (T:Txt K mg A):cD P w K mg base CX0 1 (A.f .bH) (A.fd .bH) (ps .bH) (AD A):=by
 refine (T.F .bH).ok nu (fun vs H Q E h=>?_) (fun cdv Ar outer s H vs Q E hr h=>?_)
 ·obtain ⟨p,f,c,rfl,_⟩:=h
  rfl
 ·obtain ⟨p,f,c,rfl,S,k⟩:=h
  refine ⟨_,(ag (aG (nM iZ (cS gU (ae (pv 0) rfl) (pv 1)) (bD rfl T.lF) (cn _)))),?_⟩
  have h0:=S.fl
  walk_at "w";walk_at "v";walk_at "i";walk_at "i"
  exact k
structure Ans (A:Ad) (p:Pl) (f:Mi.Flt) (B H:Hp) (x:Addr) (l:List Int):Prop where
 at_:H x=some (.lst (l.map V.int))
 ro:∀ q,(obj A p f q).isSome=true->p.a q≠x
 B:B x=none
theorem Ans.new {p:Pl} {f:Mi.Flt} {B H:Hp} {x:Addr} {l:List Int} (R:Rep A p f B H) (hx:H x=none):Ans A p f B (upd H x (.lst (l.map V.int))) x l:=⟨aj,(R.fresh hx).1,(R.fresh hx).2⟩
noncomputable def qt (A:Ad) (F:Mi.Flt->Int×List Int->Mi.Flt×List Int) (ok:Int×List Int->Prop):Sp:=fun vs H Q _=>∃ (B:Hp) (p:Pl) (f:Mi.Flt) (ca:Addr) (c:Int×List Int),vs=[.ref (p.a .fl),.ref ca]/\Rep A p f B H/\Mi.WI f/\f.told.length<=1000/\jE A B ca c/\ok c/\
 ∀ (p':Pl) (H':Hp) (x:Addr),Rep A p' (F f c).1 B H'->p'.a .fl=p.a .fl->Ans A p' (F f c).1 B H' x (F f c).2->Q (.ref x) H'
theorem z8 {f:Mi.Flt} (w:Mi.WI f):22*f.minute.toNat<=40000:=by have:=w.m;omega
theorem qH (T:Txt K mg A):cD P w K mg base CX0 3 (A.f .de) (A.fd .de) (ps .de) (qt A Mi.dU fun c=>∃ k w m l:Int,c=(2,[k,w,m,l])/\0<=k/\k<=1/\1<=w/\w<=8/\0<=m/\m<=1440/\1<=l/\l<=1440):=by
 refine (T.F .de).ok iB (fun vs H Q E h=>?_) (fun cdv Ar outer s H vs Q E hr h=>?_)
 ·obtain ⟨B,p,f,ca,c,rfl,_⟩:=h
  rfl
 ·obtain ⟨B,p,f,ca,c,rfl,R,W,hn,hc,⟨kk,wh,m,l,rfl,k0,k1,w1,w8,m0,m1,l0,l1⟩,k⟩:=h
  refine ⟨_,(ab (bC (i:=2) iB.nd rfl (Or.inl rfl) (cB bo (ae (pv 1) rfl) aB (fun _ _=>rfl)))
   (ab (bC (i:=3) iB.nd rfl (Or.inl rfl) (cB bo (ae (pv 1) rfl) aB (fun _ _=>rfl)))
   (ab (bC (i:=4) iB.nd rfl (Or.inl rfl) (cB bo (ae (pv 1) rfl) aB (fun _ _=>rfl)))
   (ab (cR (bB iZ (pv 3) (aP aD rfl T.dX PySem.boot_len (ah (aO (iy T) (hr.mono (by decide)) rfl (T.g .aJ rfl) (T.F .aJ).kp (T.b .aJ) (ah (pv 0) (ah (pv 2) af))) af)) (cn _)) (ag (aG (bM (ah (bD rfl T.fZ) af)))) bE)
   (ab (cR (bB uM (pv 4) (ae (pv 0) rfl) (cn _)) (ag (aG (bM (ah (bD rfl T.ni) af)))) bE)
   (ab (cR (bB gd (aP aD rfl T.dX PySem.boot_len (ah (ae (pv 0) rfl) af)) (bD rfl T.mr) (cn _)) (ag (aG (bM (ah (bD rfl T.lR) af)))) bE)
   (ab (cH (jI PySem.F.plainAttrs_list PySem.F.slot_list_append PySem.F.type_list_append gB (ae (pv 0) rfl) (ah (j9 (T.mak .Stop) (vL T) hr rfl (T.gc .Stop) (T.b .eJ) (ah (pv 2) (ah (pv 3) (ah (pv 4) (ah (cB bo (ae (pv 1) rfl) aB (fun _ _=>rfl)) af))))) af)))
   (ag (aG (bM (ah (bD rfl T.fj) af))))))))))),?_⟩
  have S:=R.sees
  have h0:=S.fl
  obtain ⟨cdx,pa,ra,hca,hpa⟩:=hc
  have hca:=R.frame _ _ hca
  have hpa:=R.frame _ _ hpa
  have et:Mi.dU f (2,[kk,wh,m,l])=Mi.dJ f kk wh m l:=rfl
  rw [et] at k
  unfold Mi.dJ at k
  walk_at "w"
  refine ⟨_,_,_,_,rfl,rfl,SqL.of hpa,bF (j:=0) rfl,?_⟩
  walk_at "w"
  refine ⟨_,_,_,_,rfl,rfl,SqL.of hpa,bF (j:=1) rfl,?_⟩
  walk_at "w"
  refine ⟨_,_,_,_,rfl,rfl,SqL.of hpa,bF (j:=2) rfl,?_⟩
  walk_at "u";walk_at "v"
  refine ⟨p,f,_,rfl,S,?_⟩
  have hth:SqL K H (if kk=0 then p.a .tL else p.a .sL) (if kk=0 then refs p .trk f.aq.length else refs p .shv f.au.length):=by
   by_cases e:kk=0
   ·rw [if_pos e,if_pos e];exact SqL.of S.tL
   ·rw [if_neg e,if_neg e];exact SqL.of S.sL
  have hlen:(((if kk=0 then refs p .trk f.aq.length else refs p .shv f.au.length).length:Nat):Int)=Mi.things f kk:=by
   unfold Mi.things
   by_cases e:kk=0
   ·rw [if_pos e,if_pos e,aI]
   ·rw [if_neg e,if_neg e,aI]
  refine ⟨_,_,rfl,.inl hth,?_⟩
  rw [hlen]
  walk_at "i";walk_at "v"
  refine dG (fun e1=>?_) (fun e1=>?_)
  ·have e1:Mi.things f kk < wh:=of_decide_eq_true e1
   rw [if_pos e1] at k
   exact ⟨by show 1<=sizeLine;decide,fun x hx=>k p _ x (R.same (aM hx)) rfl (Ans.new (l:=[-2]) R hx)⟩
  ·have e1:¬Mi.things f kk < wh:=fun z=>e1 (decide_eq_true z)
   rw [if_neg e1] at k
   walk_at "v";walk_at "w";walk_at "i";walk_at "v"
   refine dG (fun e2=>?_) (fun e2=>?_)
   ·have e2:m < f.minute:=of_decide_eq_true e2
    rw [if_pos e2] at k
    exact ⟨by show 1<=sizeLine;decide,fun x hx=>k p _ x (R.same (aM hx)) rfl (Ans.new (l:=[-5]) R hx)⟩
   ·have e2:¬m < f.minute:=fun z=>e2 (decide_eq_true z)
    rw [if_neg e2] at k
    walk_at "w"
    refine ⟨_,_,rfl,.inl (SqL.of S.zL),?_⟩
    rw [aI]
    refine ⟨rfl,?_⟩
    walk_at "v"
    refine dG (fun e3=>?_) (fun e3=>?_)
    ·have e3:f.cI.length=20:=by have e3:((f.cI.length:Nat):Int)=20:=eqI e3;omega
     rw [if_pos e3] at k
     exact ⟨by show 1<=sizeLine;decide,fun x hx=>k p _ x (R.same (aM hx)) rfl (Ans.new (l:=[-4]) R hx)⟩
    ·have e3:¬f.cI.length=20:=fun z=>neI e3 (by omega)
     rw [if_neg e3] at k
     have b20:=W.w.z20
     walk_at "w"
     refine ⟨.inl ⟨rfl,_,SqL.of S.zL⟩,?_⟩
     walk_at "u";walk_at "v";walk_at "w"
     refine ⟨_,_,_,_,rfl,rfl,SqL.of hpa,bF (j:=3) rfl,?_⟩
     intro x dx hx hdx hne
     refine ⟨kk,wh,m,l,x,dx,rfl,aj,fun H1 hx1 s1=>⟨rfl,?_⟩⟩
     have sm:aV H H1:=aV.made hx hdx s1
     have fr:=R.fresh hx
     have R1:=R.same sm
     refine ⟨_,_,_,rfl,rfl,R1.sees.zL,by rw [aI];exact cG (by omega),?_⟩
     have R2:=R1.uu hx1 fr.1 fr.2
     revert R2
     generalize upd H1 (p.a .zL) _=H2
     intro R2
     refine ⟨by show 1<=sizeLine;decide,fun y hy=>?_⟩
     exact k _ _ y (R2.same (aM hy)) (Pl.aH _ _ _ (by intro z;cases z)) (Ans.new (l:=[0]) R2 hy)
theorem oA (T:Txt K mg A):cD P w K mg base CX0 7 (A.f .cw) (A.fd .cw) (ps .cw) (qt A Mi.dU fun c=>∃ n:Int,c=(3,[n])/\1<=n/\n<=1440):=by
 refine (T.F .cw).ok k7 (fun vs H Q E h=>?_) (fun cdv Ar outer s H vs Q E hr h=>?_)
 ·obtain ⟨B,p,f,ca,c,rfl,_⟩:=h
  rfl
 ·obtain ⟨B,p,f,ca,c,rfl,R,W,hn,hc,⟨n,rfl,n1,n2⟩,k⟩:=h
  refine ⟨_,(ab (bC (i:=2) k7.nd rfl (Or.inl rfl) (cB bo (ae (pv 1) rfl) aB (fun _ _=>rfl)))
   (ab (cR (gT (aO (jK T) (hr.mono (by decide)) rfl (T.g .bH rfl) (T.F .bH).kp (T.b .bH) (ah (pv 0) (ah (pv 2) af)))) (ag (aG (bM (ah (bD rfl T.lT) af)))) bE)
   (ab (cH (aO (hX T) hr rfl (T.g .aF rfl) (T.F .aF).kp (T.b .aF) (ah (pv 0) (ah (pv 2) af))))
   (ag (aG (bM (ah (bD rfl T.fj) (ah (ae (pv 0) rfl) (ah (aO (ib T) (hr.mono (by decide)) rfl (T.g .aZ rfl) (T.F .aZ).kp (T.b .aZ) (ah (pv 0) af)) af))))))))),?_⟩
  have S:=R.sees
  obtain ⟨cdx,pa,ra,hca,hpa⟩:=hc
  have hca:=R.frame _ _ hca
  have hpa:=R.frame _ _ hpa
  have et:Mi.dU f (3,[n])=Mi.fD f n:=rfl
  rw [et] at k
  unfold Mi.fD at k
  walk_at "w"
  refine ⟨_,_,_,_,rfl,rfl,SqL.of hpa,bF (j:=0) rfl,?_⟩
  walk_at "u"
  refine ⟨p,f,_,rfl,S,?_⟩
  walk_at "v"
  refine dG (fun e1=>?_) (fun e1=>?_)
  ·have e1:1440 < f.minute+n:=of_decide_eq_true e1
   rw [if_pos e1] at k
   exact ⟨by show 1<=sizeLine;decide,fun x hx=>k p _ x (R.same (aM hx)) rfl (Ans.new (l:=[-6]) R hx)⟩
  ·have e1:¬1440 < f.minute+n:=fun z=>e1 (decide_eq_true z)
   rw [if_neg e1] at k
   walk_at "u"
   refine ⟨B,p,f,_,n,rfl,R,W.w,z8 W,by omega,n2,fun p1 H1 R1 k1=>?_⟩
   have W1:=Mi.gv W.w n.toNat
   generalize Mi.minutes f n.toNat=g at R1 W1 k
   have h1:=R1.sees.fl
   rw [k1.fl] at h1
   walk_at "w";walk_at "v"
   refine ⟨p1,g,by rw [k1.fl],R1.sees,by have:=W1.p2;omega,by have:=W1.s2;omega,fun q hq=>(W1.shv q hq).cnt,fun H2 s2=>?_⟩
   have R2:=R1.same s2
   exact ⟨by show 3<=sizeLine;decide,fun x hx=>k p1 _ x (R2.same (aM hx)) k1.fl (Ans.new (l:=[0,g.minute,Mi.cf g]) R2 hx)⟩
end
section
variable {P:Program} {w:World} {K:PySem.W.Frag} {mg:Str->Option Value} {base:Heap} {A:Ad}
theorem pF (T:Txt K mg A):cD P w K mg base CX0 3 (A.f .cM) (A.fd .cM) (ps .cM) (qt A Mi.dU fun c=>∃ s n k p:Int,c=(1,[s,n,k,p])/\1<=s/\s<=3/\1<=p/\p<=3/\1<=n/\n<=1000000/\1<=k/\k<=100000000):=by
 refine (T.F .cM).ok eV (fun vs H Q E h=>?_) (fun cdv Ar outer s H vs Q E hr h=>?_)
 ·obtain ⟨B,p,f,ca,c,rfl,_⟩:=h
  rfl
 ·obtain ⟨B,p,f,ca,c,rfl,R,W,hn,hc,⟨sn,nb,kg,pn,rfl,s1,s3,p1,p3,n1,n2,kg1,kg2⟩,k⟩:=h
  refine ⟨_,(ab (bC (i:=2) eV.nd rfl (Or.inl rfl) (cB bo (ae (pv 1) rfl) aB (fun _ _=>rfl)))
   (ab (bC (i:=3) eV.nd rfl (Or.inl rfl) (cB bo (ae (pv 1) rfl) aB (fun _ _=>rfl)))
   (ab (bC (i:=4) eV.nd rfl (Or.inl rfl) (cB bo (ae (pv 1) rfl) aB (fun _ _=>rfl)))
   (ab (cR (PW.pt (rT (bB iZ (pv 2) (aP aD rfl T.dX PySem.boot_len (ah (ae (pv 0) rfl) af)) (cn _)) (qB (bB iZ (pv 4) (aP aD rfl T.dX PySem.boot_len (ah (ae (pv 0) rfl) af)) (cn _))))) (ag (aG (bM (ah (bD rfl T.fZ) af)))) bE)
   (ab (cR (bB jf (pv 3) (iY (g:=(gf 5)) (tt:=m6) (te:=(jW K (gm 5) "number")) rfl eV.nd (dn (ae (pv 0) rfl)) (eZ (own:=[("block",5)]) (by rfl)) (fun _ _ _ _ _=>(bW (i:=5) eV.nd rfl (Or.inl rfl))) (fun _ _ _ _ _=>fY) (fun _ _ _ _ _=>(ae (pv 5) rfl))) (by with_unfolding_all rfl)) (ag (aG (bM (ah (bD rfl T.mw) af)))) bE)
   (ab (cR (bB gd (aP aD rfl T.dX PySem.boot_len (ah (ae (pv 0) rfl) af)) (bD rfl T.lE) (cn _)) (ag (aG (bM (ah (bD rfl T.lR) af)))) bE)
   (ab (bC (i:=6) eV.nd rfl (Or.inl rfl) (j9 (T.mak .Block) (u7 T) hr rfl (T.gc .Block) (T.b .dE) (ah (pv 3) (ah (cB bo (ae (pv 1) rfl) aB (fun _ _=>rfl)) (ah (pv 4) af)))))
   (ab (bC (i:=7) eV.nd rfl (Or.inl rfl) (cB bo (ae (pv 0) rfl) (cS fR (pv 2) aB) (fun _ _=>rfl)))
   (ab (cH (jI PySem.F.plainAttrs_list PySem.F.slot_list_append PySem.F.type_list_append gB (ae (pv 0) rfl) (ah (pv 6) af)))
   (ab (cH (jI PySem.F.plainAttrs_list PySem.F.slot_list_append PySem.F.type_list_append gB (ae (pv 7) rfl) (ah (pv 6) af)))
   (ab (cH (aO (ko T) (hr.mono (by decide)) rfl (T.g .aN rfl) (T.F .aN).kp (T.b .aN) (ah (pv 0) af)))
   (ag (aG (bM (ah (bD rfl T.fj) (ah (aO (ja T) (hr.mono (by decide)) rfl (T.g .bV rfl) (T.F .bV).kp (T.b .bV) (ah (pv 0) (ah (pv 7) af))) af)))))))))))))))),?_⟩
  have S:=R.sees
  have h0:=S.fl
  obtain ⟨cdx,pa,ra,hca,hpa⟩:=hc
  have hcaB:=hca
  have hpaB:=hpa
  have hca:=R.frame _ _ hca
  have hpa:=R.frame _ _ hpa
  have et:Mi.dU f (1,[sn,nb,kg,pn])=Mi.du f sn nb kg pn:=rfl
  rw [et] at k
  unfold Mi.du at k
  walk_at "w"
  refine ⟨_,_,_,_,rfl,rfl,SqL.of hpa,bF (j:=0) rfl,?_⟩
  walk_at "w"
  refine ⟨_,_,_,_,rfl,rfl,SqL.of hpa,bF (j:=1) rfl,?_⟩
  walk_at "w"
  refine ⟨_,_,_,_,rfl,rfl,SqL.of hpa,bF (j:=3) rfl,?_⟩
  have no2:((f.au.length:Int) < sn\/(f.br.length:Int) < pn)->zd (jX (tC (.int (-2))) pB) (([some (V.ref (p.a .fl)),some (V.ref ca)]++[some (V.int sn),some (V.int nb),some (V.int pn)]):L2.St) H Q:=fun e=>by
   rw [if_pos e] at k
   exact ⟨by show 1<=sizeLine;decide,fun x hx=>k p _ x (R.same (aM hx)) rfl (Ans.new (l:=[-2]) R hx)⟩
  walk_at "v";walk_at "w"
  refine ⟨_,_,rfl,.inl (SqL.of S.sL),?_⟩
  rw [aI]
  walk_at "i";walk_at "v"
  refine dG (fun e1=>?_) (fun e1=>?_)
  ·have e1:(f.au.length:Int) < sn:=of_decide_eq_true e1
   exact no2 (.inl e1)
  ·have e1:¬(f.au.length:Int) < sn:=fun z=>e1 (decide_eq_true z)
   walk_at "v";walk_at "w"
   refine ⟨_,_,rfl,.inl (SqL.of S.pL),?_⟩
   rw [aI]
   walk_at "i";walk_at "v"
   refine dG (fun e2=>?_) (fun e2=>?_)
   ·have e2:(f.br.length:Int) < pn:=of_decide_eq_true e2
    exact no2 (.inr e2)
   ·have e2:¬(f.br.length:Int) < pn:=fun z=>e2 (decide_eq_true z)
    rw [if_neg (by omega)] at k
    clear no2
    have b20:=W.w.b20
    walk_at "v";walk_at "w"
    refine ⟨_,rfl,⟨_,SqL.of S.bL⟩,fun D hD=>gq (K:=K) (l:=List.range f.aA.length) (F:=fun i=>V.ref (p.a (.blk i))) (fun i=>some (.int (Mi.ak f i).number)) hD (SqL.of S.bL) (by rw [List.length_range];exact cG (by omega)) ?_ ?_⟩
    ·intro i hi H' s' R' R0 hR _
     have hi':i < f.aA.length:=List.mem_range.mp hi
     have h2:=(S.same s').blk (bq hi' Mi.uq)
     refine ⟨rfl,?_⟩
     walk_at "w"
     exact hR _ _ (aV.refl _) rfl
    ·intro H1 s1' hD1
     rw [dZ] at hD1
     have en:(List.range f.aA.length).map (fun i=>(Mi.ak f i).number)=f.aA.map (·.number):=by
      unfold Mi.ak;exact e9 (fun (q:Mi.Blk)=>q.number) _ _
     rw [en] at hD1
     refine ⟨_,_,rfl,.inl (SqL.of hD1),rfl,qb _,?_⟩
     walk_at "v"
     have e3':(if false=true then !inV (V.int nb) ((f.aA.map (·.number)).map V.int) else inV (V.int nb) ((f.aA.map (·.number)).map V.int))=(f.aA.map (·.number)).contains nb:=by
      rw [if_neg (by decide)];exact kx _ _
     have R1:=R.same s1'
     have S1:=R1.sees
     have g0:=S1.fl
     have gca:=R1.frame _ _ hcaB
     have gpa:=R1.frame _ _ hpaB
     refine dG (fun e3=>?_) (fun e3=>?_)
     ·have e3:=e3'.symm.trans e3
      rw [if_pos e3] at k
      exact ⟨by show 1<=sizeLine;decide,fun x hx=>k p _ x (R1.same (aM hx)) rfl (Ans.new (l:=[-3]) R1 hx)⟩
     ·have e3:=fun z=>e3 (e3'.trans z)
      rw [if_neg e3] at k
      walk_at "w"
      refine ⟨_,_,rfl,.inl (SqL.of S1.bL),?_⟩
      rw [aI]
      refine ⟨rfl,?_⟩
      walk_at "v"
      refine dG (fun e4=>?_) (fun e4=>?_)
      ·have e4:f.aA.length=20:=by have e4:((f.aA.length:Nat):Int)=20:=eqI e4;omega
       rw [if_pos e4] at k
       exact ⟨by show 1<=sizeLine;decide,fun x hx=>k p _ x (R1.same (aM hx)) rfl (Ans.new (l:=[-4]) R1 hx)⟩
      ·have e4:¬f.aA.length=20:=fun z=>neI e4 (by omega)
       rw [if_neg e4] at k
       walk_at "v";walk_at "w"
       refine ⟨_,_,_,_,rfl,rfl,SqL.of gpa,bF (j:=2) rfl,?_⟩
       walk_at "v"
       intro x dx hx hdx hne
       refine ⟨nb,kg,pn,x,dx,rfl,aj,fun H2 hx2 s2=>⟨rfl,?_⟩⟩
       have sm:aV H1 H2:=aV.made hx hdx s2
       have fr:=R1.fresh hx
       have R2:=R1.same sm
       have S2:=R2.sees
       have q0:=S2.fl
       walk_at "w";walk_at "v";walk_at "i"
       refine ⟨_,_,_,_,rfl,rfl,SqL.of S2.sL,lG s1 (by omega),?_⟩
       have hsl:(sn - 1).toNat < f.au.length:=by omega
       generalize (sn - 1).toNat=sv at k hsl
       walk_at "w"
       refine ⟨.inl ⟨rfl,_,SqL.of S2.bL⟩,?_⟩
       walk_at "v"
       refine ⟨_,_,_,rfl,rfl,S2.bL,by rw [aI];exact cG (by omega),?_⟩
       have R3:=R2.ej W.w hx2 fr.1 fr.2
       have W3:=W.w.uR (b:=⟨nb,kg,kg,0,pn⟩) (by omega) ⟨p1,by show pn<=_;omega⟩
       revert R3
       generalize upd H2 (p.a .bL) _=H3
       intro R3
       have pfl:(p.put (.blk f.aA.length) x dx).a .fl=p.a .fl:=Pl.aH _ _ _ (by intro z;cases z)
       have psv:(p.put (.blk f.aA.length) x dx).a (.shv sv)=p.a (.shv sv):=Pl.aH _ _ _ (by intro z;cases z)
       have pbk:(p.put (.blk f.aA.length) x dx).a (.blk f.aA.length)=x:=Pl.cp _ _ _ _
       generalize p.put (.blk f.aA.length) x dx=p4 at R3 pfl psv pbk
       have hs3:({f with aA:=f.aA++[⟨nb,kg,kg,0,pn⟩]}:Mi.Flt).au[sv]? = some (Mi.ai f sv):=bq hsl _
       have S3:=R3.sees
       have r1:=S3.shv hs3
       have r2:=S3.row hs3
       rw [psv] at r1
       have rl:=(W.w.ai hsl).len
       walk_at "w"
       refine ⟨.inl ⟨rfl,_,SqL.of r2⟩,?_⟩
       walk_at "v"
       refine ⟨_,_,_,rfl,rfl,r2,by rw [List.length_map];exact cG (by omega),?_⟩
       have R4:=R3.row hs3 ((Mi.ai f sv).row++[f.aA.length])
       rw [List.map_append] at R4
       have W4:=W.w.ej (b:=⟨nb,kg,kg,0,pn⟩) hsl (by omega) ⟨p1,by show pn<=_;omega⟩
       have R4:Rep A p4 (Mi.ej f sv ⟨nb,kg,kg,0,pn⟩) B (upd H3 (p4.a (.row sv)) (.lst (((Mi.ai f sv).row.map fun j=>V.ref (p4.a (.blk j)))++[V.ref (p4.a (.blk f.aA.length))]))):=R4
       rw [pbk] at R4
       revert R4
       generalize upd H3 (p4.a (.row sv)) _=H4
       intro R4
       obtain ⟨W5,sh5⟩:=Mi.lU W4
       have hsl5:sv < (Mi.dF (Mi.ej f sv ⟨nb,kg,kg,0,pn⟩)).au.length:=by rw [sh5.s,Mi.qh];show sv < (f.au.set _ _).length;rw [List.length_set];exact hsl
       generalize Mi.ej f sv ⟨nb,kg,kg,0,pn⟩=f4 at R4 W4 W5 sh5 k hsl5
       walk_at "v"
       have wn:=z8 W
       refine ⟨B,p4,f4,_,by rw [pfl],R4,W4,by omega,fun p5 H5 R5 k5=>?_⟩
       generalize Mi.dF f4=f5 at R5 W5 k hsl5
       walk_at "u"
       refine ⟨p5,f5,_,sv,by rw [k5.fl,k5.shv,pfl,psv],R5.sees,W5,hsl5,fun H6 s6=>?_⟩
       have R6:=R5.same s6
       exact ⟨by show 2<=sizeLine;decide,fun y hy=>k p5 _ y (R6.same (aM hy)) (k5.fl.trans pfl) (Ans.new (l:=[0,_]) R6 hy)⟩
theorem uO (T:Txt K mg A):cD P w K mg base CX0 8 (A.f .tell) (A.fd .tell) (ps .tell) (qt A Mi.tell Mi.COk):=by
 refine (T.F .tell).ok uA (fun vs H Q E h=>?_) (fun cdv Ar outer s H vs Q E hr h=>?_)
 ·obtain ⟨B,p,f,ca,c,rfl,_⟩:=h
  rfl
 ·obtain ⟨B,p,f,ca,c,rfl,R,W,hn,hc,cok,k⟩:=h
  refine ⟨_,(ab (bC (i:=2) uA.nd rfl (Or.inl rfl) (qF (rW (jH rfl T.oY) (ae (pv 1) rfl) (fun _ _=>rfl)) (ah (pv 0) (ah (pv 1) af))))
   (ab (cR (bB gd (cB bo (pv 2) aB (fun _ _=>rfl)) (bD rfl T.fj) (cn _)) (ag (cH (jI PySem.F.plainAttrs_list PySem.F.slot_list_append PySem.F.type_list_append gB (ae (pv 0) rfl) (ah (pv 1) af)))) bE)
   (ag (aG (pv 2))))),?_⟩
  have hc0:=hc
  obtain ⟨cdx,pa,ra,hca,hpa⟩:=hc
  have hca:=R.frame _ _ hca
  have fin:∀ (p1:Pl) (H1:Hp) (x:Addr),Rep A p1 (Mi.dU f c).1 B H1->p1.a .fl=p.a .fl->Ans A p1 (Mi.dU f c).1 B H1 x (Mi.dU f c).2->(∃ z r,(Mi.dU f c).2=z::r)->
    zh (fun _ _ Q=>Q (V.ref x) H1) (gf 2) {nx:=Am (Aq (rD (tOp rEq (tOp (zG K) (gm 2) (tC (.int 0))) (tC (.int 0)))) (yW (tBM K "list" uD (jW K (gm 0) "told") (jX (gm 1) pB))) yT) (An (gm 2)) {nx:=fun _ H'=>Q .non H',rt:=Q},rt:=Q} [some (.ref (p.a .fl)),some (.ref ca),none] H1:=by
   intro p1 H1 x R1 e1 a1 ⟨z,r,ez⟩
   have ha:=a1.at_
   rw [ez] at ha
   walk_at "v"
   refine ⟨_,_,_,_,rfl,rfl,SqL.of ha,bF (j:=0) rfl,?_⟩
   refine ⟨rfl,?_⟩
   walk_at "v"
   have etl:Mi.tell f c=(if (Mi.dU f c).2.headD 1=0 then {(Mi.dU f c).1 with told:=(Mi.dU f c).1.told++[c]} else (Mi.dU f c).1,(Mi.dU f c).2):=rfl
   have et0:=(Mi.rC W cok).2
   have S1:=R1.sees
   have h1:=S1.fl
   rw [e1] at h1
   refine dG (fun e=>?_) (fun e=>?_)
   ·have e:z=0:=eqI e
    have etl:Mi.tell f c=({(Mi.dU f c).1 with told:=(Mi.dU f c).1.told++[c]},(Mi.dU f c).2):=by rw [etl,if_pos (by rw [ez];exact e)]
    rw [etl] at k
    have hl:p1.calls.length<=1000:=by rw [R1.ex.cl,et0];exact hn
    walk_at "w"
    refine ⟨.inl ⟨rfl,_,SqL.of S1.told⟩,?_⟩
    walk_at "v"
    refine ⟨_,_,_,rfl,rfl,S1.told,by rw [List.length_map];exact cG hl,?_⟩
    have R2:=R1.yP hc0
    walk_at "v"
    have xt:x≠p1.a .told:=fun q=>a1.ro .told rfl q.symm
    refine k _ _ x R2 e1 ⟨by rw [ax xt];exact a1.at_,fun q hq=>a1.ro q ?_,a1.B⟩
    cases q<;>exact hq
   ·have e:¬z=0:=neI e
    have etl:Mi.tell f c=((Mi.dU f c).1,(Mi.dU f c).2):=by rw [etl,if_neg (by rw [ez];exact e)]
    rw [etl] at k
    walk_at "v"
    exact k p1 H1 x R1 e1 a1
  have ans:∃ z r,(Mi.dU f c).2=z::r:=by
   rcases cok with ⟨s,n,kk,pp,rfl,_⟩ | ⟨kk,wh,m,l,rfl,_⟩ | ⟨n,rfl,_⟩
   ·show ∃ z r,(Mi.du f s n kk pp).2=z::r
    unfold Mi.du
    split
    ·exact ⟨_,_,rfl⟩
    ·split
     ·exact ⟨_,_,rfl⟩
     ·split
      ·exact ⟨_,_,rfl⟩
      ·exact ⟨_,_,rfl⟩
   ·show ∃ z r,(Mi.dJ f kk wh m l).2=z::r
    unfold Mi.dJ
    split
    ·exact ⟨_,_,rfl⟩
    ·split
     ·exact ⟨_,_,rfl⟩
     ·split
      ·exact ⟨_,_,rfl⟩
      ·exact ⟨_,_,rfl⟩
   ·show ∃ z r,(Mi.fD f n).2=z::r
    unfold Mi.fD
    split
    ·exact ⟨_,_,rfl⟩
    ·exact ⟨_,_,rfl⟩
  walk_at "w"
  rcases cok with c1 | c2 | c3
  ·refine ⟨_,_,1,_,rfl,T.jy,?_,rfl,?_⟩
   ·obtain ⟨s,n,kk,pp,rfl,_⟩:=c1;rfl
   ·refine ⟨_,_,_,_,_,rfl,pF T,hr.mono (by decide),(T.F .cM).kp,T.b .cM,?_⟩
    walk_at "u"
    exact ⟨B,p,f,ca,c,rfl,R,W,hn,hc0,c1,fun p1 H1 x R1 e1 a1=>fin p1 H1 x R1 e1 a1 ans⟩
  ·refine ⟨_,_,2,_,rfl,T.jy,?_,rfl,?_⟩
   ·obtain ⟨s,n,kk,pp,rfl,_⟩:=c2;rfl
   ·refine ⟨_,_,_,_,_,rfl,qH T,hr.mono (by decide),(T.F .de).kp,T.b .de,?_⟩
    walk_at "u"
    exact ⟨B,p,f,ca,c,rfl,R,W,hn,hc0,c2,fun p1 H1 x R1 e1 a1=>fin p1 H1 x R1 e1 a1 ans⟩
  ·refine ⟨_,_,3,_,rfl,T.jy,?_,rfl,?_⟩
   ·obtain ⟨n,rfl,_⟩:=c3;rfl
   ·refine ⟨_,_,_,_,_,rfl,oA T,hr.mono (by decide),(T.F .cw).kp,T.b .cw,?_⟩
    walk_at "u"
    exact ⟨B,p,f,ca,c,rfl,R,W,hn,hc0,c3,fun p1 H1 x R1 e1 a1=>fin p1 H1 x R1 e1 a1 ans⟩
end
section
variable {P:Program} {w:World} {K:PySem.W.Frag} {mg:Str->Option Value} {base:Heap} {A:Ad}
noncomputable def nX (K:PySem.W.Frag) (A:Ad):Sp:=fun vs H Q _=>∃ (i:Nat) (x dx:Addr),vs=[.ref x,.int ((i:Int)+1)]/\H x=some (.ins (A.c .Truck) dx [])/\
 ∀ (H':Hp) (c:Addr),H' x=some (.ins (A.c .Truck) dx (pA i Mi.fq .non c))->H' c=some (.lst (Mi.fq.cnt.map V.int))->H c=none->(∀ b o,H b=some o->b≠x->H' b=some o)->Q .non H'
theorem zeros (n:Nat):(List.replicate n [V.int 0]).flatten=(List.replicate n (0:Int)).map V.int:=by
 induction n with
 | zero=>rfl
 | succ n ih=>rw [List.replicate_succ,List.flatten_cons,ih];rfl
noncomputable def New (H0 H:Hp) (x:Addr) (o:HO):Prop:=H x=some o/\∀ b u,H0 b=some u->b≠x->H b=some u
theorem mI {H0 H:Hp} {c:Cn} {x dx:Addr} {fs fs':List (Str×V)} {f:Str} {v:V} {Q:Hp->Prop} (a:New H0 H x (.ins (A.c c) dx fs)) (q:∀ H',New H0 H' x (.ins (A.c c) dx fs')->(∀ b,b≠x->H' b=H b)->Q H')
  (T:Txt K mg A:=by assumption) (hf:(kH c).contains f=true:=by rfl) (hn:decide (fs.length < 1000)=true:=by rfl) (hl:gr f v fs=fs':=by rfl) :
  ∃ a' C dx' fs',V.ref x=.ref a'/\H a'=some (.ins C dx' fs')/\Cls K C/\dW K C f/\fs'.length < 1000/\Q (upd H a' (.ins C dx' (gr f v fs'))):=
 ⟨_,_,dx,fs,rfl,a.1,T.cl c,T.na c f hf,of_decide_eq_true hn,by rw [hl];exact q _ ⟨aj,fun b u e hb=>by rw [ax hb];exact a.2 b u e hb⟩ fun b hb=>ax hb⟩
theorem New.lay {H0 H:Hp} {x l:Addr} {o o':HO} (a:New H0 H x o) (h:H l=none):New H0 (upd H l o') x o/\x≠l/\(H0 l=none\/l=x):=by
 have xl:x≠l:=fun z=>by rw [<-z,a.1] at h;cases h
 refine ⟨⟨by rw [ax xl];exact a.1,fun b u e hb=>?_⟩,xl,?_⟩
 ·have e1:=a.2 b u e hb
  rw [ax (fun z=>by rw [z,h] at e1;cases e1)];exact e1
 ·cases q:H0 l with
  | none=>exact .inl rfl
  | some u=>rw [a.2 l u q (Ne.symm xl)] at h;cases h
theorem u5 (T:Txt K mg A):cD P w K mg base CX0 1 (A.f .dC) (A.fd .dC) (ps .dC) (nX K A):=by
 refine (T.F .dC).ok tT (fun vs H Q E h=>?_) (fun cdv Ar outer s H vs Q E hr h=>?_)
 ·obtain ⟨i,x,dx,rfl,_⟩:=h
  rfl
 ·obtain ⟨i,x,dx,rfl,hx,k⟩:=h
  refine ⟨_,(ab (bA (pv 0) (pv 1) rfl)
   (ab (bA (pv 0) (bD rfl T.p7) rfl)
   (ab (bA (pv 0) (bD rfl T.ui) rfl)
   (ab (bA (pv 0) aB rfl)
   (ab (bA (pv 0) aB rfl)
   (ab (bA (pv 0) qE rfl)
   (ab (bA (pv 0) me rfl)
   (ag (bA (pv 0) (cS wX (bM (ah aB af)) aB) rfl))))))))),?_⟩
  have a0:New H H x (.ins (A.c .Truck) dx []):=⟨hx,fun b u e _=>e⟩
  walk_at "u"
  refine mI a0 (fun H1 a1 _=>?_)
  walk_at "v"
  refine mI a1 (fun H2 a2 _=>?_)
  walk_at "v"
  refine mI a2 (fun H3 a3 _=>?_)
  walk_at "v"
  refine mI a3 (fun H4 a4 _=>?_)
  walk_at "v"
  refine mI a4 (fun H5 a5 _=>?_)
  walk_at "v"
  refine mI a5 (fun H6 a6 _=>?_)
  walk_at "v"
  refine mI a6 (fun H7 a7 _=>?_)
  refine ⟨by show 1<=sizeLine;decide,fun l hl=>?_⟩
  obtain ⟨a8,xl,_⟩:=a7.lay (o':=.lst [.int 0]) hl
  refine ⟨_,_,_,rfl,rfl,aj,by decide,by decide,by show 1*9<=sizeLine;decide,fun c hc=>?_⟩
  obtain ⟨a9,xc,hc0⟩:=a8.lay (o':=.lst (List.replicate 9 [V.int 0]).flatten) hc
  walk_at "v"
  refine mI a9 (fun H9 a10 e10=>?_)
  refine k _ c a10.1 ?_ (hc0.resolve_right (Ne.symm xc)) a10.2
  rw [e10 c (Ne.symm xc),aj,zeros];rfl
noncomputable def mY (K:PySem.W.Frag) (A:Ad):Sp:=fun vs H Q _=>∃ (i:Nat) (t:Int) (x dx:Addr),vs=[.ref x,.int ((i:Int)+1),.int t]/\H x=some (.ins (A.c .fk) dx [])/\
 ∀ (H':Hp) (r c:Addr),H' x=some (.ins (A.c .fk) dx (tN i {Mi.fO with time:=t} r c))->H' r=some (.lst [])->H' c=some (.lst (Mi.fO.cnt.map V.int))->H r=none->H c=none->r≠c->(∀ b o,H b=some o->b≠x->H' b=some o)->Q .non H'
theorem si (T:Txt K mg A):cD P w K mg base CX0 1 (A.f .cV) (A.fd .cV) (ps .cV) (mY K A):=by
 refine (T.F .cV).ok rM (fun vs H Q E h=>?_) (fun cdv Ar outer s H vs Q E hr h=>?_)
 ·obtain ⟨i,t,x,dx,rfl,_⟩:=h
  rfl
 ·obtain ⟨i,t,x,dx,rfl,hx,k⟩:=h
  refine ⟨_,(ab (bA (pv 0) (pv 1) rfl)
   (ab (bA (pv 0) (pv 2) rfl)
   (ab (bA (pv 0) (bM af) rfl)
   (ab (bA (pv 0) me rfl)
   (ag (bA (pv 0) (cS wX (bM (ah aB af)) aB) rfl)))))),?_⟩
  have a0:New H H x (.ins (A.c .fk) dx []):=⟨hx,fun b u e _=>e⟩
  walk_at "u"
  refine mI a0 (fun H1 a1 _=>?_)
  walk_at "u"
  refine mI a1 (fun H2 a2 _=>?_)
  refine ⟨Nat.zero_le _,fun r hr'=>?_⟩
  obtain ⟨a3,xr,hr0⟩:=a2.lay (o':=.lst []) hr'
  walk_at "v"
  refine mI a3 (fun H3 a4 e4=>?_)
  have r3:H3 r=some (.lst []):=by rw [e4 r (Ne.symm xr),aj]
  walk_at "v"
  refine mI a4 (fun H4 a5 e5=>?_)
  have r4:H4 r=some (.lst []):=by rw [e5 r (Ne.symm xr)];exact r3
  refine ⟨by show 1<=sizeLine;decide,fun l hl=>?_⟩
  obtain ⟨a8,xl,_⟩:=a5.lay (o':=.lst [.int 0]) hl
  have rl:r≠l:=fun z=>by rw [<-z,r4] at hl;cases hl
  refine ⟨_,_,_,rfl,rfl,aj,by decide,by decide,by show 1*4<=sizeLine;decide,fun c hc=>?_⟩
  obtain ⟨a9,xc,hc0⟩:=a8.lay (o':=.lst (List.replicate 4 [V.int 0]).flatten) hc
  have rc:r≠c:=fun z=>by rw [<-z,ax rl,r4] at hc;cases hc
  walk_at "v"
  refine mI a9 (fun H9 a10 e10=>?_)
  refine k _ r c a10.1 ?_ ?_ (hr0.resolve_right (Ne.symm xr)) (hc0.resolve_right (Ne.symm xc)) rc a10.2
  ·rw [e10 r (Ne.symm xr),ax rc,ax rl];exact r4
  ·rw [e10 c (Ne.symm xc),aj,zeros];rfl
noncomputable def nY (K:PySem.W.Frag) (A:Ad):Sp:=fun vs H Q _=>∃ (i:Nat) (t:Int),oa A .Place [.int ((i:Int)+1),.int t] (vI i ⟨t,0,0⟩) vs H Q
theorem u6 (T:Txt K mg A):cD P w K mg base CX0 1 (A.f .dD) (A.fd .dD) (ps .dD) (nY K A):=by
 refine (T.F .dD).ok tU (fun vs H Q E h=>?_) (fun cdv Ar outer s H vs Q E hr h=>?_)
 ·obtain ⟨i,t,x,dx,rfl,_⟩:=h
  rfl
 ·obtain ⟨i,t,x,dx,rfl,hx,k⟩:=h
  refine ⟨_,(ab (bA (pv 0) (pv 1) rfl)
   (ab (bA (pv 0) (pv 2) rfl)
   (ab (bA (pv 0) aB rfl)
   (ag (bA (pv 0) aB rfl))))),?_⟩
  walk_at "u"
  refine iK ?_ hx
  walk_at "u"
  refine iK ?_ aj
  walk_at "v"
  refine iK ?_ aj
  walk_at "v"
  refine iK ?_ aj
  exact k _ aj fun c o e hc=>by rw [ax hc,ax hc,ax hc,ax hc];exact e
structure Bld (p:Pl) (g:Ro->Option HO) (B H:Hp):Prop where
 own:∀ r o,g r=some o->H (p.a r)=some o
 inj:∀ r q,(g r).isSome=true->(g q).isSome=true->p.a r=p.a q->r=q
 frame:aV B H
 iT:∀ r,(g r).isSome=true->B (p.a r)=none
section
variable {p:Pl} {g g':Ro->Option HO} {B H H':Hp} {f:Mi.Flt}
theorem Bld.rep (b:Bld p g B H) (h:∀ r o,obj A p f r=some o->g r=some o) (ex:Ex A p f B):Rep A p f B H:=by
 have lv:∀ r,(obj A p f r).isSome=true->(g r).isSome=true:=fun r hr=>by
  obtain ⟨u,hu⟩:=Option.isSome_iff_exists.mp hr
  rw [h r u hu];rfl
 exact ⟨fun r o e=>b.own r o (h r o e),fun r q hr hq=>b.inj r q (lv r hr) (lv q hq),b.frame,fun r hr=>b.iT r (lv r hr),ex⟩
theorem Bld.conv (b:Bld p g B H) (h:∀ r o,g' r=some o->g r=some o):Bld p g' B H:=by
 have lv:∀ r,(g' r).isSome=true->(g r).isSome=true:=fun r hr=>by
  obtain ⟨u,hu⟩:=Option.isSome_iff_exists.mp hr
  rw [h r u hu];rfl
 exact ⟨fun r o e=>b.own r o (h r o e),fun r q hr hq=>b.inj r q (lv r hr) (lv q hq),b.frame,fun r hr=>b.iT r (lv r hr)⟩
theorem Bld.same (b:Bld p g B H) (s:aV H H'):Bld p g B H':=⟨fun r o e=>s _ _ (b.own r o e),b.inj,b.frame.trans s,b.iT⟩
theorem Bld.fresh (b:Bld p g B H) {y:Addr} (hy:H y=none):(∀ q,(g q).isSome=true->p.a q≠y)/\B y=none:=by
 refine ⟨fun q h e=>?_,b.frame.free hy⟩
 obtain ⟨u,hu⟩:=Option.isSome_iff_exists.mp h
 have:=b.own q u hu
 rw [e,hy] at this;cases this
theorem Bld.put (b:Bld p g B H) (r:Ro) {y dy:Addr} {o:HO} (hy:H y=some o) (hn:∀ q,(g q).isSome=true->p.a q≠y) (hB:B y=none):Bld (p.put r y dy) (fun q=>if q=r then some o else g q) B H:=by
 refine ⟨fun q u h=>?_,fun a c ha hc=>?_,b.frame,fun q h=>?_⟩
 ·by_cases e:q=r
  ·rw [if_pos e] at h;cases h;rw [e,Pl.cp];exact hy
  ·rw [if_neg e] at h;rw [Pl.aH _ _ _ e];exact b.own q u h
 ·by_cases ea:a=r
  ·by_cases ec:c=r
   ·intro _;rw [ea,ec]
   ·rw [if_neg ec] at hc
    rw [ea,Pl.cp,Pl.aH _ _ _ ec];intro z;exact absurd z.symm (hn c hc)
  ·rw [if_neg ea] at ha
   by_cases ec:c=r
   ·rw [ec,Pl.cp,Pl.aH _ _ _ ea];intro z;exact absurd z (hn a ha)
   ·rw [if_neg ec] at hc
    rw [Pl.aH _ _ _ ea,Pl.aH _ _ _ ec];exact b.inj a c ha hc
 ·by_cases e:q=r
  ·rw [e,Pl.cp];exact hB
  ·rw [if_neg e] at h;rw [Pl.aH _ _ _ e];exact b.iT q h
theorem Bld.write (b:Bld p g B H) (r:Ro) {o:HO} (hr:(g r).isSome=true):Bld p (fun q=>if q=r then some o else g q) B (upd H (p.a r) o):=by
 have lv:∀ q,((if q=r then some o else g q)).isSome=true->(g q).isSome=true:=fun q h=>by
  by_cases e:q=r
  ·rw [e];exact hr
  ·rw [if_neg e] at h;exact h
 refine ⟨fun q u h=>?_,fun a c ha hc=>b.inj a c (lv a ha) (lv c hc),fun c u h=>?_,fun q h=>b.iT q (lv q h)⟩
 ·by_cases e:q=r
  ·rw [if_pos e] at h;cases h;rw [e];exact aj
  ·rw [if_neg e] at h
   rw [ax (fun z=>e (b.inj q r (by rw [h];rfl) hr z))];exact b.own q u h
 ·rw [ax (fun z=>by rw [z,b.iT r hr] at h;cases h)];exact b.frame c u h
end
theorem uV {a:Addr} {xs:List V} {g:TG} {tt:TT} {te:TE} {vs:List Nat} {σ:L2.St} {H1:Hp} {D:Addr} {Qd:Hp->Prop} (Pv:Nat->Hp->Prop) (h0:Pv 0 (upd H1 D (.lst []))) (hl:∀ i H,i<=xs.length->Pv i H->SqL K H a xs)
  (hs:∀ i x H,xs[i]? = some x->Pv i H->∀ t,H t=none->g (.ref t) (wipe σ vs) (upd H t (.tup [.int (i:Nat),x])) fun σ2 H2=>wipe σ2 vs=wipe σ vs/\tt σ2 H2 fun b H3=>
   if b=true then te σ2 H3 fun y H4=>∃ acc,H4 D=some (.lst acc)/\acc.length < sizeLine/\Pv (i+1) (upd H4 D (.lst (acc++[y]))) else Pv (i+1) H3) (hd:∀ H,Pv xs.length H->Qd H) :
  ∃ W:Nat->Nat->Hp->Prop,(∃ m,W 0 m (upd H1 D (.lst [])))/\∀ i m H,W i m H->
   ((Ite K a).stop i H/\Qd H)\/((Ite K a).go i H/\∃ Nx:Hp->Prop,(∀ H',Nx H'->∃ m',m' < m/\W (i+1) m' H')/\∀ x H',(Ite K a).yld i H x H'->g x (wipe σ vs) H' fun σ2 H2=>wipe σ2 vs=wipe σ vs/\tt σ2 H2 fun b H3=>
     if b=true then te σ2 H3 fun y H4=>∃ acc,H4 D=some (.lst acc)/\acc.length < sizeLine/\Nx (upd H4 D (.lst (acc++[y]))) else Nx H3):=by
 refine ⟨fun i m H=>m=xs.length - i/\i<=xs.length/\Pv i H,⟨xs.length,by simp,Nat.zero_le _,h0⟩,fun i m H z=>?_⟩
 obtain ⟨rfl,hi,pv⟩:=z
 have q:=hl i H hi pv
 by_cases hlt:i < xs.length
 ·refine .inr ⟨⟨xs,xs[i],q,by simp [hlt]⟩,Pv (i+1),fun H' p'=>⟨xs.length - (i+1),by omega,rfl,hlt,p'⟩,fun v H' yl=>?_⟩
  obtain ⟨t,x,rfl,ht,rfl,hx⟩:=yl
  exact hs i x H (hx xs q) pv t ht
 ·have e:i=xs.length:=by omega
  subst e
  exact .inl ⟨⟨xs,q,Nat.le_refl _⟩,hd H pv⟩
end
section
variable {P:Program} {w:World} {K:PySem.W.Frag} {mg:Str->Option Value} {base:Heap} {A:Ad}
noncomputable def gS (A:Ad) (p:Pl) (f:Mi.Flt) (fo:HO) (m:Ro->Bool):Ro->Option HO
 | .fl=>some fo
 | r=>if m r=true then obj A p f r else none
noncomputable def mk_ (n:Nat):Ro->Bool
 | .fl=>true
 | .tL=>decide (1<=n)
 | .trk _=>decide (1<=n)
 | .tc _=>decide (1<=n)
 | .sL=>decide (2<=n)
 | .shv _=>decide (2<=n)
 | .row _=>decide (2<=n)
 | .sc _=>decide (2<=n)
 | .pL=>decide (3<=n)
 | .plc _=>decide (3<=n)
 | .told=>decide (4<=n)
 | .bL=>decide (5<=n)
 | .zL=>decide (6<=n)
 | .book=>decide (7<=n)
 | _=>false
structure PX (p:Pl) (x dx rw a0 a1 a2 a3 a4:Addr):Prop where
 fl:p.a .fl=x
 d:p.d .fl=dx
 rows:p.rows=rw
 r0:p.r0=a0
 r1:p.r1=a1
 r2:p.r2=a2
 r3:p.r3=a3
 r4:p.r4=a4
 calls:p.calls=[]
section
variable {p:Pl} {f f':Mi.Flt} {fo:HO} {n:Nat} {B H H':Hp} {x dx rw a0 a1 a2 a3 a4:Addr}
theorem PX.put (h:PX p x dx rw a0 a1 a2 a3 a4) {r:Ro} (y dy:Addr) (hr:r≠.fl):PX (p.put r y dy) x dx rw a0 a1 a2 a3 a4:=
 ⟨(Pl.aH _ _ _ (Ne.symm hr)).trans h.fl,(Pl.fX _ _ _ (Ne.symm hr)).trans h.d,h.rows,h.r0,h.r1,h.r2,h.r3,h.r4,h.calls⟩
theorem setB {fs fs':List (Str×V)} {fl:Str} {v:V} {m:Ro->Bool} {Q:Hp->Prop} (b:Bld p (gS A p f (.ins (A.c .Fleet) dx fs) m) B H) (hx:p.a .fl=x)
  (q:∀ H',Bld p (gS A p f (.ins (A.c .Fleet) dx fs') m) B H'->Q H') (T:Txt K mg A:=by assumption) (hf:(kH .Fleet).contains fl=true:=by rfl) (hn:decide (fs.length < 1000)=true:=by rfl) (hl:gr fl v fs=fs':=by rfl) :
  ∃ a' C dx' fs',V.ref x=.ref a'/\H a'=some (.ins C dx' fs')/\Cls K C/\dW K C fl/\fs'.length < 1000/\Q (upd H a' (.ins C dx' (gr fl v fs'))):=by
 refine ⟨x,_,dx,fs,rfl,by rw [<-hx];exact b.own .fl _ rfl,T.cl .Fleet,T.na .Fleet fl hf,of_decide_eq_true hn,?_⟩
 rw [hl,<-hx]
 refine q _ ((b.write .fl (o:=.ins (A.c .Fleet) dx fs') rfl).conv fun r o h=>?_)
 cases r with
 | fl=>exact h
 | _=>exact h
theorem layB {m m':Ro->Bool} {r:Ro} {y:Addr} {o:HO} (b:Bld p (gS A p f fo m) B H) (hy:H y=none) (hr:r≠.fl)
  (h1:∀ u,obj A (p.put r y 0) f' r=some u->u=o) (h2:∀ q u,q≠r->q≠.fl->m' q=true->obj A (p.put r y 0) f' q=some u->m q=true/\obj A p f q=some u) :
  Bld (p.put r y 0) (gS A (p.put r y 0) f' fo m') B (upd H y o):=by
 have fr:=b.fresh hy
 refine ((b.same (aM hy)).put r (dy:=0) aj fr.1 fr.2).conv fun q u h=>?_
 by_cases e:q=r
 ·rw [if_pos e]
  subst e
  have h:(if m' q=true then obj A (p.put q y 0) f' q else none)=some u:=by
   cases q with
   | fl=>exact absurd rfl hr
   | _=>exact h
  by_cases e2:m' q=true
  ·rw [if_pos e2] at h;rw [h1 u h]
  ·rw [if_neg e2] at h;cases h
 ·rw [if_neg e]
  by_cases e3:q=.fl
  ·subst e3;exact h
  ·have h:(if m' q=true then obj A (p.put r y 0) f' q else none)=some u:=by
    cases q with
    | fl=>exact absurd rfl e3
    | _=>exact h
   by_cases e2:m' q=true
   ·rw [if_pos e2] at h
    obtain ⟨z1,z2⟩:=h2 q u e e3 e2 h
    have z:(if m q=true then obj A p f q else none)=some u:=by rw [if_pos z1];exact z2
    cases q with
    | fl=>exact absurd rfl e3
    | _=>exact z
   ·rw [if_neg e2] at h;cases h
end
theorem tW {α:Type} {a:α} {n i:Nat} {u:α} (h:(List.replicate n a)[i]? = some u):i < n/\u=a:=by
 have h1:=(List.getElem?_eq_some_iff.mp h).1
 rw [List.length_replicate] at h1
 rw [List.getElem?_replicate,if_pos h1] at h
 exact ⟨h1,(Option.some.inj h).symm⟩
theorem wI {α:Type} {a:α} {n i:Nat} (h:i < n):(List.replicate n a)[i]? = some a:=by rw [List.getElem?_replicate,if_pos h]
noncomputable def fT (F:Mi.Flt) (k:Nat):Mi.Flt:={F with aq:=List.replicate k Mi.fq}
theorem tw {p:Pl} {F:Mi.Flt} {fo:HO} {B H1 H2:Hp} {k:Nat} {y dy c:Addr} (b:Bld p (gS A p (fT F k) fo (mk_ 1)) B H1) (sm:aV H1 H2) (hy:H1 y=none) (hc:H1 c=none) (yc:y≠c)
  (hy2:H2 y=some (.ins (A.c .Truck) dy (pA k Mi.fq .non c))) (hc2:H2 c=some (.lst (Mi.fq.cnt.map V.int))) :
  Bld ((p.put (.trk k) y dy).put (.tc k) c 0) (gS A ((p.put (.trk k) y dy).put (.tc k) c 0) (fT F (k+1)) fo (mk_ 1)) B (upd H2 (p.a .tL) (.lst (refs p .trk k++[.ref y]))):=by
 have f1:=b.fresh hy
 have f2:=b.fresh hc
 have b3:=(b.same sm).put (.trk k) (dy:=dy) hy2 f1.1 f1.2
 have b4:=b3.put (.tc k) (dy:=0) hc2 (fun q h=>by
  by_cases e:q=.trk k
  ·rw [e,Pl.cp];exact yc
  ·rw [if_neg e] at h;rw [Pl.aH _ _ _ e];exact f2.1 q h) f2.2
 have b5:=b4.write .tL (o:=.lst (refs p .trk k++[.ref y])) rfl
 have eT:((p.put (.trk k) y dy).put (.tc k) c 0).a .tL=p.a .tL:=by
  rw [Pl.aH _ _ _ (by intro z;cases z),Pl.aH _ _ _ (by intro z;cases z)]
 rw [eT] at b5
 refine b5.conv fun r o h=>?_
 have ea:∀ i,i≠k->((p.put (.trk k) y dy).put (.tc k) c 0).a (.trk i)=p.a (.trk i):=fun i hi=>by
  rw [Pl.aH _ _ _ (by intro z;cases z),Pl.aH _ _ _ (by intro z;injection z with z;exact hi z)]
 have ek:((p.put (.trk k) y dy).put (.tc k) c 0).a (.trk k)=y:=by
  rw [Pl.aH _ _ _ (by intro z;cases z),Pl.cp]
 have dk:((p.put (.trk k) y dy).put (.tc k) c 0).d (.trk k)=dy:=by
  rw [Pl.fX _ _ _ (by intro z;cases z),Pl.iI]
 have da:∀ i,i≠k->((p.put (.trk k) y dy).put (.tc k) c 0).d (.trk i)=p.d (.trk i):=fun i hi=>by
  rw [Pl.fX _ _ _ (by intro z;cases z),Pl.fX _ _ _ (by intro z;injection z with z;exact hi z)]
 have ck:((p.put (.trk k) y dy).put (.tc k) c 0).a (.tc k)=c:=Pl.cp _ _ _ _
 have ca:∀ i,i≠k->((p.put (.trk k) y dy).put (.tc k) c 0).a (.tc i)=p.a (.tc i):=fun i hi=>by
  rw [Pl.aH _ _ _ (by intro z;injection z with z;exact hi z),Pl.aH _ _ _ (by intro z;cases z)]
 cases r with
 | fl=>exact h
 | tL=>
   have h:some (HO.lst (refs ((p.put (.trk k) y dy).put (.tc k) c 0) .trk (List.replicate (k+1) Mi.fq).length))=some o:=h
   rw [List.length_replicate,iH,ek] at h
   rw [<-h]
   show some (HO.lst (refs p .trk k++[V.ref y]))=_
   congr 3
   unfold refs
   exact List.map_congr_left fun i hi=>by rw [ea i (by have:=List.mem_range.mp hi;omega)]
 | trk i=>
   have h:((List.replicate (k+1) Mi.fq)[i]?).map _=some o:=h
   obtain ⟨t,ht,rfl⟩:=dM h
   obtain ⟨hi,rfl⟩:=tW ht
   by_cases e:i=k
   ·subst e
    show (if (Ro.trk i)=.tL then _ else if (Ro.trk i)=.tc i then _ else if (Ro.trk i)=.trk i then _ else _)=_
    rw [if_neg (by intro z;cases z),if_neg (by intro z;cases z),if_pos rfl,dk,ck]
    rfl
   ·show (if (Ro.trk i)=.tL then _ else if (Ro.trk i)=.tc k then _ else if (Ro.trk i)=.trk k then _ else ((List.replicate k Mi.fq)[i]?).map _)=_
    rw [if_neg (by intro z;cases z),if_neg (by intro z;cases z),if_neg (by intro z;injection z with z;exact e z),wI (by omega),da i e,ca i e]
    rfl
 | tc i=>
   have h:((List.replicate (k+1) Mi.fq)[i]?).map _=some o:=h
   obtain ⟨t,ht,rfl⟩:=dM h
   obtain ⟨hi,rfl⟩:=tW ht
   by_cases e:i=k
   ·subst e
    show (if (Ro.tc i)=.tL then _ else if (Ro.tc i)=.tc i then _ else _)=_
    rw [if_neg (by intro z;cases z),if_pos rfl]
   ·show (if (Ro.tc i)=.tL then _ else if (Ro.tc i)=.tc k then _ else if (Ro.tc i)=.trk k then _ else ((List.replicate k Mi.fq)[i]?).map _)=_
    rw [if_neg (by intro z;cases z),if_neg (by intro z;injection z with z;exact e z),if_neg (by intro z;cases z),wI (by omega)]
    rfl
 | _=>cases h
noncomputable def mkS (l:Int):Mi.Shv:={Mi.fO with time:=l}
noncomputable def fS (F:Mi.Flt) (l0:List Int) (k:Nat):Mi.Flt:={F with au:=(l0.take k).map mkS}
theorem qr {l0:List Int} {k i:Nat} {s:Mi.Shv} {t:Int} (ht:l0[k]? = some t) (h:((l0.take (k+1)).map mkS)[i]? = some s):(i=k/\s=mkS t)\/(i≠k/\((l0.take k).map mkS)[i]? = some s):=by
 have e:l0.take (k+1)=l0.take k++[t]:=by rw [List.take_add_one,ht];rfl
 have hk:k < l0.length:=(List.getElem?_eq_some_iff.mp ht).1
 have hlen:((l0.take k).map mkS).length=k:=by simp;omega
 rw [e,List.map_append] at h
 by_cases q:i=k
 ·subst q
  rw [List.getElem?_append_right (by omega),hlen] at h
  simp at h
  exact .inl ⟨rfl,h.symm⟩
 ·have h1:=(List.getElem?_eq_some_iff.mp h).1
  simp at h1
  rw [List.getElem?_append_left (by rw [hlen];omega)] at h
  exact .inr ⟨q,h⟩
theorem rK {p:Pl} {F:Mi.Flt} {fo:HO} {B H1 H2:Hp} {k:Nat} {l0:List Int} {t:Int} {y dy r c:Addr} (b:Bld p (gS A p (fS F l0 k) fo (mk_ 2)) B H1) (ht:l0[k]? = some t) (sm:aV H1 H2) (hy:H1 y=none) (hr:H1 r=none) (hc:H1 c=none) (yr:y≠r) (yc:y≠c) (rc:r≠c)
  (hy2:H2 y=some (.ins (A.c .fk) dy (tN k (mkS t) r c))) (hr2:H2 r=some (.lst [])) (hc2:H2 c=some (.lst (Mi.fO.cnt.map V.int))) :
  Bld (((p.put (.shv k) y dy).put (.row k) r 0).put (.sc k) c 0) (gS A (((p.put (.shv k) y dy).put (.row k) r 0).put (.sc k) c 0) (fS F l0 (k+1)) fo (mk_ 2)) B (upd H2 (p.a .sL) (.lst (refs p .shv k++[.ref y]))):=by
 have f1:=b.fresh hy
 have f2:=b.fresh hr
 have f3:=b.fresh hc
 have hk:k < l0.length:=(List.getElem?_eq_some_iff.mp ht).1
 have b3:=(b.same sm).put (.shv k) (dy:=dy) hy2 f1.1 f1.2
 have b4:=b3.put (.row k) (dy:=0) hr2 (fun q h=>by
  by_cases e:q=.shv k
  ·rw [e,Pl.cp];exact yr
  ·rw [if_neg e] at h;rw [Pl.aH _ _ _ e];exact f2.1 q h) f2.2
 have b4:=b4.put (.sc k) (dy:=0) hc2 (fun q h=>by
  by_cases e:q=.row k
  ·rw [e,Pl.cp];exact rc
  ·rw [if_neg e] at h;rw [Pl.aH _ _ _ e]
   by_cases e:q=.shv k
   ·rw [e,Pl.cp];exact yc
   ·rw [if_neg e] at h;rw [Pl.aH _ _ _ e];exact f3.1 q h) f3.2
 have b5:=b4.write .sL (o:=.lst (refs p .shv k++[.ref y])) rfl
 have eT:(((p.put (.shv k) y dy).put (.row k) r 0).put (.sc k) c 0).a .sL=p.a .sL:=by
  rw [Pl.aH _ _ _ (by intro z;cases z),Pl.aH _ _ _ (by intro z;cases z),Pl.aH _ _ _ (by intro z;cases z)]
 rw [eT] at b5
 refine b5.conv fun ro o h=>?_
 have ea:∀ i,i≠k->(((p.put (.shv k) y dy).put (.row k) r 0).put (.sc k) c 0).a (.shv i)=p.a (.shv i):=fun i hi=>by
  rw [Pl.aH _ _ _ (by intro z;cases z),Pl.aH _ _ _ (by intro z;cases z),Pl.aH _ _ _ (by intro z;injection z with z;exact hi z)]
 have ek:(((p.put (.shv k) y dy).put (.row k) r 0).put (.sc k) c 0).a (.shv k)=y:=by
  rw [Pl.aH _ _ _ (by intro z;cases z),Pl.aH _ _ _ (by intro z;cases z),Pl.cp]
 have dk:(((p.put (.shv k) y dy).put (.row k) r 0).put (.sc k) c 0).d (.shv k)=dy:=by
  rw [Pl.fX _ _ _ (by intro z;cases z),Pl.fX _ _ _ (by intro z;cases z),Pl.iI]
 have da:∀ i,i≠k->(((p.put (.shv k) y dy).put (.row k) r 0).put (.sc k) c 0).d (.shv i)=p.d (.shv i):=fun i hi=>by
  rw [Pl.fX _ _ _ (by intro z;cases z),Pl.fX _ _ _ (by intro z;cases z),Pl.fX _ _ _ (by intro z;injection z with z;exact hi z)]
 have ck:(((p.put (.shv k) y dy).put (.row k) r 0).put (.sc k) c 0).a (.sc k)=c:=Pl.cp _ _ _ _
 have ca:∀ i,i≠k->(((p.put (.shv k) y dy).put (.row k) r 0).put (.sc k) c 0).a (.sc i)=p.a (.sc i):=fun i hi=>by
  rw [Pl.aH _ _ _ (by intro z;injection z with z;exact hi z),Pl.aH _ _ _ (by intro z;cases z),Pl.aH _ _ _ (by intro z;cases z)]
 have rk:(((p.put (.shv k) y dy).put (.row k) r 0).put (.sc k) c 0).a (.row k)=r:=by
  rw [Pl.aH _ _ _ (by intro z;cases z),Pl.cp]
 have ra:∀ i,i≠k->(((p.put (.shv k) y dy).put (.row k) r 0).put (.sc k) c 0).a (.row i)=p.a (.row i):=fun i hi=>by
  rw [Pl.aH _ _ _ (by intro z;cases z),Pl.aH _ _ _ (by intro z;injection z with z;exact hi z),Pl.aH _ _ _ (by intro z;cases z)]
 have oldT:∀ q u,(∀ i,q≠.shv i)->(∀ i,q≠.row i)->(∀ i,q≠.sc i)->q≠.sL->gS A p (fS F l0 k) fo (mk_ 2) q=some u->(if q=Ro.sL then some (HO.lst (refs p .shv k++[.ref y])) else if q=Ro.sc k then some (HO.lst (Mi.fO.cnt.map V.int)) else if q=Ro.row k then some (HO.lst []) else if q=Ro.shv k then some (HO.ins (A.c .fk) dy (tN k (mkS t) r c)) else gS A p (fS F l0 k) fo (mk_ 2) q)=some u:=fun q u h1 h2 h3 h4 h=>by
  rw [if_neg h4,if_neg (h3 k),if_neg (h2 k),if_neg (h1 k)];exact h
 cases ro with
 | fl=>exact h
 | sL=>
   have h:some (HO.lst (refs (((p.put (.shv k) y dy).put (.row k) r 0).put (.sc k) c 0) .shv ((l0.take (k+1)).map mkS).length))=some o:=h
   have hl:((l0.take (k+1)).map mkS).length=k+1:=by simp;omega
   rw [hl,iH,ek] at h
   rw [<-h]
   show some (HO.lst (refs p .shv k++[V.ref y]))=_
   congr 3
   unfold refs
   exact List.map_congr_left fun i hi=>by rw [ea i (by have:=List.mem_range.mp hi;omega)]
 | shv i=>
   have h:(((l0.take (k+1)).map mkS)[i]?).map _=some o:=h
   obtain ⟨s,hs,rfl⟩:=dM h
   rcases qr ht hs with ⟨rfl,rfl⟩ | ⟨e,hs'⟩
   ·show (if (Ro.shv i)=.sL then _ else if (Ro.shv i)=.sc i then _ else if (Ro.shv i)=.row i then _ else if (Ro.shv i)=.shv i then _ else _)=_
    rw [if_neg (by intro z;cases z),if_neg (by intro z;cases z),if_neg (by intro z;cases z),if_pos rfl,dk,ck,rk]
   ·show (if (Ro.shv i)=.sL then _ else if (Ro.shv i)=.sc k then _ else if (Ro.shv i)=.row k then _ else if (Ro.shv i)=.shv k then _ else (((l0.take k).map mkS)[i]?).map _)=_
    rw [if_neg (by intro z;cases z),if_neg (by intro z;cases z),if_neg (by intro z;cases z),if_neg (by intro z;injection z with z;exact e z),hs',da i e,ca i e,ra i e]
    rfl
 | row i=>
   have h:(((l0.take (k+1)).map mkS)[i]?).map _=some o:=h
   obtain ⟨s,hs,rfl⟩:=dM h
   rcases qr ht hs with ⟨rfl,rfl⟩ | ⟨e,hs'⟩
   ·show (if (Ro.row i)=.sL then _ else if (Ro.row i)=.sc i then _ else if (Ro.row i)=.row i then _ else _)=_
    rw [if_neg (by intro z;cases z),if_neg (by intro z;cases z),if_pos rfl]
    rfl
   ·show (if (Ro.row i)=.sL then _ else if (Ro.row i)=.sc k then _ else if (Ro.row i)=.row k then _ else if (Ro.row i)=.shv k then _ else (((l0.take k).map mkS)[i]?).map _)=_
    rw [if_neg (by intro z;cases z),if_neg (by intro z;cases z),if_neg (by intro z;injection z with z;exact e z),if_neg (by intro z;cases z),hs']
    have es:s.row=[]:=by
     rw [List.getElem?_map] at hs'
     obtain ⟨q,_,rfl⟩:=dM hs'
     rfl
    simp [es]
 | sc i=>
   have h:(((l0.take (k+1)).map mkS)[i]?).map _=some o:=h
   obtain ⟨s,hs,rfl⟩:=dM h
   rcases qr ht hs with ⟨rfl,rfl⟩ | ⟨e,hs'⟩
   ·show (if (Ro.sc i)=.sL then _ else if (Ro.sc i)=.sc i then _ else _)=_
    rw [if_neg (by intro z;cases z),if_pos rfl]
    rfl
   ·show (if (Ro.sc i)=.sL then _ else if (Ro.sc i)=.sc k then _ else if (Ro.sc i)=.row k then _ else if (Ro.sc i)=.shv k then _ else (((l0.take k).map mkS)[i]?).map _)=_
    rw [if_neg (by intro z;cases z),if_neg (by intro z;injection z with z;exact e z),if_neg (by intro z;cases z),if_neg (by intro z;cases z),hs']
    rfl
 | tL=>
   refine oldT _ _ (fun i z=>by cases z) (fun i z=>by cases z) (fun i z=>by cases z) (by intro z;cases z) ?_
   rw [<-h]
   show some (HO.lst (refs p .trk F.aq.length))=some (HO.lst (refs (((p.put (.shv k) y dy).put (.row k) r 0).put (.sc k) c 0) .trk F.aq.length))
   rw [bT (fun i _=>by intro z;cases z),bT (fun i _=>by intro z;cases z),bT (fun i _=>by intro z;cases z)]
 | trk i=>exact oldT _ _ (fun i z=>by cases z) (fun i z=>by cases z) (fun i z=>by cases z) (by intro z;cases z) h
 | tc i=>exact oldT _ _ (fun i z=>by cases z) (fun i z=>by cases z) (fun i z=>by cases z) (by intro z;cases z) h
 | _=>cases h
end
section
variable {P:Program} {w:World} {K:PySem.W.Frag} {mg:Str->Option Value} {base:Heap} {A:Ad}
noncomputable def mkP (l:Int):Mi.Plc:=⟨l,0,0⟩
noncomputable def fP (F:Mi.Flt) (l1:List Int) (k:Nat):Mi.Flt:={F with br:=(l1.take k).map mkP}
theorem wy {l0:List Int} {k i:Nat} {s:Mi.Plc} {t:Int} (ht:l0[k]? = some t) (h:((l0.take (k+1)).map mkP)[i]? = some s):(i=k/\s=mkP t)\/(i≠k/\((l0.take k).map mkP)[i]? = some s):=by
 have e:l0.take (k+1)=l0.take k++[t]:=by rw [List.take_add_one,ht];rfl
 have hk:k < l0.length:=(List.getElem?_eq_some_iff.mp ht).1
 have hlen:((l0.take k).map mkP).length=k:=by simp;omega
 rw [e,List.map_append] at h
 by_cases q:i=k
 ·subst q
  rw [List.getElem?_append_right (by omega),hlen] at h
  simp at h
  exact .inl ⟨rfl,h.symm⟩
 ·have h1:=(List.getElem?_eq_some_iff.mp h).1
  simp at h1
  rw [List.getElem?_append_left (by rw [hlen];omega)] at h
  exact .inr ⟨q,h⟩
theorem tY {p:Pl} {F:Mi.Flt} {fo:HO} {B H1 H2:Hp} {k:Nat} {l1:List Int} {t:Int} {y dy:Addr} (b:Bld p (gS A p (fP F l1 k) fo (mk_ 3)) B H1) (ht:l1[k]? = some t) (sm:aV H1 H2) (hy:H1 y=none)
  (hy2:H2 y=some (.ins (A.c .Place) dy (vI k (mkP t)))) :
  Bld (p.put (.plc k) y dy) (gS A (p.put (.plc k) y dy) (fP F l1 (k+1)) fo (mk_ 3)) B (upd H2 (p.a .pL) (.lst (refs p .plc k++[.ref y]))):=by
 have f1:=b.fresh hy
 have hk:k < l1.length:=(List.getElem?_eq_some_iff.mp ht).1
 have b4:=(b.same sm).put (.plc k) (dy:=dy) hy2 f1.1 f1.2
 have b5:=b4.write .pL (o:=.lst (refs p .plc k++[.ref y])) rfl
 have eT:(p.put (.plc k) y dy).a .pL=p.a .pL:=Pl.aH _ _ _ (by intro z;cases z)
 rw [eT] at b5
 refine b5.conv fun ro o h=>?_
 have ea:∀ i,i≠k->(p.put (.plc k) y dy).a (.plc i)=p.a (.plc i):=fun i hi=>Pl.aH _ _ _ (by intro z;injection z with z;exact hi z)
 have ek:(p.put (.plc k) y dy).a (.plc k)=y:=Pl.cp _ _ _ _
 have dk:(p.put (.plc k) y dy).d (.plc k)=dy:=Pl.iI _ _ _ _
 have da:∀ i,i≠k->(p.put (.plc k) y dy).d (.plc i)=p.d (.plc i):=fun i hi=>Pl.fX _ _ _ (by intro z;injection z with z;exact hi z)
 have oldT:∀ q u,(∀ i,q≠.plc i)->q≠.pL->gS A p (fP F l1 k) fo (mk_ 3) q=some u->(if q=Ro.pL then some (HO.lst (refs p .plc k++[.ref y])) else if q=Ro.plc k then some (HO.ins (A.c .Place) dy (vI k (mkP t))) else gS A p (fP F l1 k) fo (mk_ 3) q)=some u:=fun q u h1 h4 h=>by
  rw [if_neg h4,if_neg (h1 k)];exact h
 cases ro with
 | fl=>exact h
 | pL=>
   have h:some (HO.lst (refs (p.put (.plc k) y dy) .plc ((l1.take (k+1)).map mkP).length))=some o:=h
   have hl:((l1.take (k+1)).map mkP).length=k+1:=by simp;omega
   rw [hl,iH,ek] at h
   rw [<-h]
   show some (HO.lst (refs p .plc k++[V.ref y]))=_
   congr 3
   unfold refs
   exact List.map_congr_left fun i hi=>by rw [ea i (by have:=List.mem_range.mp hi;omega)]
 | plc i=>
   have h:(((l1.take (k+1)).map mkP)[i]?).map _=some o:=h
   obtain ⟨s,hs,rfl⟩:=dM h
   rcases wy ht hs with ⟨rfl,rfl⟩ | ⟨e,hs'⟩
   ·show (if (Ro.plc i)=.pL then _ else if (Ro.plc i)=.plc i then _ else _)=_
    rw [if_neg (by intro z;cases z),if_pos rfl,dk]
   ·show (if (Ro.plc i)=.pL then _ else if (Ro.plc i)=.plc k then _ else (((l1.take k).map mkP)[i]?).map _)=_
    rw [if_neg (by intro z;cases z),if_neg (by intro z;injection z with z;exact e z),hs',da i e]
    rfl
 | tL=>
   refine oldT _ _ (fun i z=>by cases z) (by intro z;cases z) ?_
   rw [<-h]
   show some (HO.lst (refs p .trk F.aq.length))=some (HO.lst (refs (p.put (.plc k) y dy) .trk F.aq.length))
   rw [bT (fun i _=>by intro z;cases z)]
 | sL=>
   refine oldT _ _ (fun i z=>by cases z) (by intro z;cases z) ?_
   rw [<-h]
   show some (HO.lst (refs p .shv F.au.length))=some (HO.lst (refs (p.put (.plc k) y dy) .shv F.au.length))
   rw [bT (fun i _=>by intro z;cases z)]
 | trk i=>exact oldT _ _ (fun i z=>by cases z) (by intro z;cases z) h
 | tc i=>exact oldT _ _ (fun i z=>by cases z) (by intro z;cases z) h
 | shv i=>exact oldT _ _ (fun i z=>by cases z) (by intro z;cases z) h
 | row i=>exact oldT _ _ (fun i z=>by cases z) (by intro z;cases z) h
 | sc i=>exact oldT _ _ (fun i z=>by cases z) (by intro z;cases z) h
 | _=>cases h
structure A9 (B:Hp) (rw a0 a1 a2 a3 a4:Addr) (l0 l1 l2 l3 l4:List Int):Prop where
 rows:B rw=some (.lst [.ref a0,.ref a1,.ref a2,.ref a3,.ref a4])
 h0:B a0=some (.lst (l0.map V.int))
 h1:B a1=some (.lst (l1.map V.int))
 h2:B a2=some (.lst (l2.map V.int))
 h3:B a3=some (.lst (l3.map V.int))
 h4:B a4=some (.lst (l4.map V.int))
noncomputable def tH (K:PySem.W.Frag) (A:Ad):Sp:=fun vs H Q _=>∃ (B:Hp) (n c r:Int) (rw a0 a1 a2 a3 a4:Addr) (l0 l1 l2 l3 l4:List Int) (x dx:Addr),vs=[.ref x,.int n,.int c,.int r,.ref rw]/\H x=some (.ins (A.c .Fleet) dx [])/\aV B H/\B x=none/\
 A9 B rw a0 a1 a2 a3 a4 l0 l1 l2 l3 l4/\0<=n/\n<=8/\l0.length<=600/\l1.length<=600/\∀ (p:Pl) (H':Hp),Rep A p (Mi.dq n c r l0 l1 l2 l3 l4) B H'->p.a .fl=x->Q .non H'
theorem oF (T:Txt K mg A):cD P w K mg base CX0 3 (A.f .dv) (A.fd .dv) (ps .dv) (tH K A):=by
 refine (T.F .dv).ok fE (fun vs H Q E h=>?_) (fun cdv Ar outer s H vs Q E hr h=>?_)
 ·obtain ⟨B,n,c,r,rw,a0,a1,a2,a3,a4,l0,l1,l2,l3,l4,x,dx,rfl,_⟩:=h
  rfl
 ·obtain ⟨B,n,c,r,rw,a0,a1,a2,a3,a4,l0,l1,l2,l3,l4,x,dx,rfl,hx,hB,Bx,RA,n0,n8,z0,z1,k⟩:=h
  refine ⟨_,(ab (bA (pv 0) (pv 2) rfl)
   (ab (bA (pv 0) (pv 3) rfl)
   (ab (bA (pv 0) (pv 4) rfl)
   (ab (bA (pv 0) (iY (g:=(gf 5)) (tt:=m6) (te:=(y1 (A.c .Truck) (nX K A) (jX (tOp (rI0 fun i j=>.int (i+j)) (gm 5) (tC (.int 1))) pB))) rfl fE.nd (kP rfl T.kQ (ah (pv 1) af)) (eZ (own:=[("k",5)]) (by rfl)) (fun _ _ _ _ _=>(bW (i:=5) fE.nd rfl (Or.inl rfl))) (fun _ _ _ _ _=>fY) (fun _ _ _ _ _=>(j9 (T.mak .Truck) (u5 T) hr rfl (T.gc .Truck) (T.b .dC) (ah (cS gU (pv 5) aB) af)))) rfl)
   (ab (bA (pv 0) (iY (g:=(zX K 2 (sG (gf 5) (sG (gf 6) zY)))) (tt:=m6) (te:=(y1 (A.c .fk) (mY K A) (jX (tOp (rI0 fun i j=>.int (i+j)) (gm 5) (tC (.int 1))) (jX (gm 6) pB)))) rfl fE.nd (uI rfl T.kr (ah (cB bo (pv 4) aB (fun _ _=>rfl)) af)) (eZ (own:=[("k",5),("loading",6)]) (by rfl)) (fun _ _ _ _ _=>(qD rfl (hU (bW (i:=5) fE.nd rfl (Or.inl rfl)) (hU (bW (i:=6) fE.nd rfl (Or.inl rfl)) nL)))) (fun _ _ _ _ _=>fY) (fun _ _ _ _ _=>(j9 (T.mak .fk) (si T) hr rfl (T.gc .fk) (T.b .cV) (ah (cS gU (pv 5) aB) (ah (pv 6) af))))) rfl)
   (ab (bA (pv 0) (iY (g:=(zX K 2 (sG (gf 5) (sG (gf 7) zY)))) (tt:=m6) (te:=(y1 (A.c .Place) (nY K A) (jX (tOp (rI0 fun i j=>.int (i+j)) (gm 5) (tC (.int 1))) (jX (gm 7) pB)))) rfl fE.nd (uI rfl T.kr (ah (cB bo (pv 4) aB (fun _ _=>rfl)) af)) (eZ (own:=[("k",5),("tipping",7)]) (by rfl)) (fun _ _ _ _ _=>(qD rfl (hU (bW (i:=5) fE.nd rfl (Or.inl rfl)) (hU (bW (i:=7) fE.nd rfl (Or.inl rfl)) nL)))) (fun _ _ _ _ _=>fY) (fun _ _ _ _ _=>(j9 (T.mak .Place) (u6 T) hr rfl (T.gc .Place) (T.b .dD) (ah (cS gU (pv 5) aB) (ah (pv 7) af))))) rfl)
   (ab (bA (pv 0) (cB bo (pv 4) aB (fun _ _=>rfl)) rfl)
   (ab (bA (pv 0) (cB bo (pv 4) aB (fun _ _=>rfl)) rfl)
   (ab (bA (pv 0) (cB bo (pv 4) aB (fun _ _=>rfl)) rfl)
   (ab (bA (pv 0) (bM af) rfl)
   (ab (bA (pv 0) (bM af) rfl)
   (ab (bA (pv 0) (bM af) rfl)
   (ab (bA (pv 0) (bM af) rfl)
   (ag (bA (pv 0) aB rfl))))))))))))))),?_⟩
  generalize eF:Mi.dq n c r l0 l1 l2 l3 l4=F at k
  have px:PX ⟨fun _=>x,fun _=>dx,rw,a0,a1,a2,a3,a4,[]⟩ x dx rw a0 a1 a2 a3 a4:=⟨rfl,rfl,rfl,rfl,rfl,rfl,rfl,rfl,rfl⟩
  have b0:Bld ⟨fun _=>x,fun _=>dx,rw,a0,a1,a2,a3,a4,[]⟩ (gS A ⟨fun _=>x,fun _=>dx,rw,a0,a1,a2,a3,a4,[]⟩ (fT F 0) (.ins (A.c .Fleet) dx []) (mk_ 0)) B H:=by
   refine ⟨fun q u h=>?_,fun a b ha hb _=>?_,hB,fun q _=>Bx⟩
   ·cases q with
    | fl=>cases h;exact hx
    | _=>cases h
   ·cases a with
    | fl=>cases b with
      | fl=>rfl
      | _=>cases hb
    | _=>cases ha
  generalize (⟨fun _=>x,fun _=>dx,rw,a0,a1,a2,a3,a4,[]⟩:Pl)=p0 at px b0
  walk_at "u"
  refine setB (fs':=[("carries",.int c)]) b0 px.fl (fun H1 b1=>?_)
  walk_at "u"
  refine setB (fs':=[("carries",.int c),("rule",.int r)]) b1 px.fl (fun H2 b2=>?_)
  walk_at "u"
  refine setB (fs':=[("carries",.int c),("rule",.int r),("rows",.ref rw)]) b2 px.fl (fun H3 b3=>?_)
  clear b0 b1 b2
  walk_at "v"
  refine ⟨n,rfl,by omega,by omega,fun D hD=>xn (n:=n.toNat) (fun k H'=>∃ p,Bld p (gS A p (fT F k) (.ins (A.c .Fleet) dx [("carries",.int c),("rule",.int r),("rows",.ref rw)]) (mk_ 1)) B H'/\PX p x dx rw a0 a1 a2 a3 a4/\p.a .tL=D) ?_ ?_ ?_⟩
  ·refine ⟨_,layB (r:=.tL) b3 hD (by intro z;cases z) (fun u h=>?_) (fun q u h1 h2 h3 h=>?_),px.put _ _ (by intro z;cases z),Pl.cp _ _ _ _⟩
   ·cases h;rfl
   ·cases q with
    | tL=>exact absurd rfl h1
    | trk i=>cases h
    | tc i=>cases h
    | fl=>exact absurd rfl h2
    | _=>cases h3
  ·rintro i H4 hi ⟨p4,b4,px4,e4⟩
   refine ⟨rfl,?_⟩
   walk_at "v";walk_at "i"
   intro y dy hy hdy hne
   refine ⟨i,y,dy,by rw [Int.zero_add],aj,fun H5 cc hy5 hc5 hc0 keep=>⟨rfl,?_⟩⟩
   have sm:aV H4 H5:=aV.made hy hdy keep
   have cy:cc≠y:=fun z=>by rw [z,aj] at hc0;cases hc0
   have hc4:H4 cc=none:=by
    cases q:H4 cc with
    | none=>rfl
    | some u=>rw [ax cy,ax (fun z=>by rw [z,hdy] at q;cases q),q] at hc0;cases hc0
   have st:=tw b4 sm hy hc4 (Ne.symm cy) hy5 hc5
   have hD4:=b4.own .tL _ rfl
   rw [e4] at hD4 st
   refine ⟨_,sm _ _ hD4,?_,_,?_,(px4.put (r:=.trk i) y dy (by intro z;cases z)).put (r:=.tc i) cc 0 (by intro z;cases z),?_⟩
   ·show (refs p4 .trk (List.replicate i Mi.fq).length).length < sizeLine
    rw [aI,List.length_replicate];exact cG (by omega)
   ·have er:refs p4 .trk (fT F i).aq.length=refs p4 .trk i:=by show refs p4 .trk (List.replicate i Mi.fq).length=_;rw [List.length_replicate]
    rw [er];exact st
   ·rw [Pl.aH _ _ _ (by intro z;cases z),Pl.aH _ _ _ (by intro z;cases z)];exact e4
  rintro H4 ⟨p4,b4,px4,e4⟩
  walk_at "v"
  refine setB (fs':=[("carries",.int c),("rule",.int r),("rows",.ref rw),("trucks",.ref D)]) b4 px4.fl (fun H5 b5=>?_)
  have et:fT F n.toNat=F:=by rw [<-eF];rfl
  rw [et] at b5
  have RA5:=fun (H:Hp) (hs:aV B H)=>(hs _ _ RA.rows)
  walk_at "v"
  refine ⟨_,_,_,_,rfl,rfl,SqL.of (b5.frame _ _ RA.rows),bF (j:=0) rfl,?_⟩
  refine ⟨a0,l0.map V.int,rfl,SqL.of (b5.frame _ _ RA.h0),fun D2 hD2=>uV (K:=K) (xs:=l0.map V.int) (fun k H'=>∃ p,Bld p (gS A p (fS F l0 k) (.ins (A.c .Fleet) dx [("carries",.int c),("rule",.int r),("rows",.ref rw),("trucks",.ref D)]) (mk_ 2)) B H'/\PX p x dx rw a0 a1 a2 a3 a4/\p.a .tL=D/\p.a .sL=D2) ?_ (fun i H' _ ⟨_,b,_⟩=>SqL.of (b.frame _ _ RA.h0)) ?_ ?_⟩
  ·refine ⟨_,layB (r:=.sL) b5 hD2 (by intro z;cases z) (fun u h=>?_) (fun q u h1 h2 h3 h=>?_),px4.put _ _ (by intro z;cases z),(Pl.aH _ _ _ (by intro z;cases z)).trans e4,Pl.cp _ _ _ _⟩
   ·cases h;rfl
   ·cases q with
    | sL=>exact absurd rfl h1
    | shv i=>cases h
    | row i=>cases h
    | sc i=>cases h
    | fl=>exact absurd rfl h2
    | tL=>
      refine ⟨rfl,?_⟩
      rw [<-h]
      show some (HO.lst (refs p4 .trk F.aq.length))=some (HO.lst (refs (p4.put .sL D2 0) .trk F.aq.length))
      rw [bT (fun i _=>by intro z;cases z)]
    | trk i=>exact ⟨rfl,h⟩
    | tc i=>exact ⟨rfl,h⟩
    | _=>cases h3
  ·rintro i v H6 hv ⟨p6,b6,px6,e6,e6'⟩ tt htt
   rw [List.getElem?_map] at hv
   obtain ⟨t,ht,rfl⟩:=dM hv
   have b7:=b6.same (aM (o:=.tup [.int ((i:Nat):Int),.int t]) htt)
   have tup7:upd H6 tt (.tup [.int ((i:Nat):Int),.int t]) tt=some (.tup [.int ((i:Nat):Int),.int t]):=aj
   revert b7 tup7
   generalize upd H6 tt (.tup [.int ((i:Nat):Int),.int t])=H7
   intro b7 tup7
   refine ⟨_,_,rfl,SqT.of tup7,rfl,?_⟩
   refine ⟨_,_,rfl,?_⟩
   refine ⟨_,_,rfl,?_⟩
   refine ⟨rfl,?_⟩
   refine ⟨rfl,?_⟩
   walk_at "v";walk_at "i";walk_at "v"
   intro y dy hy hdy hne
   refine ⟨i,t,y,dy,rfl,aj,fun H8 rr cc hy8 hr8 hc8 hr0 hc0 rc keep=>⟨rfl,?_⟩⟩
   have sm:aV H7 H8:=aV.made hy hdy keep
   have fresh7:∀ a,upd (upd H7 dy (.own y)) y (.ins (A.c .fk) dy []) a=none->a≠y/\H7 a=none:=fun a h0=>by
    have ay:a≠y:=fun z=>by rw [z,aj] at h0;cases h0
    refine ⟨ay,?_⟩
    cases q:H7 a with
    | none=>rfl
    | some u=>rw [ax ay,ax (fun z=>by rw [z,hdy] at q;cases q),q] at h0;cases h0
   obtain ⟨ry,hr7⟩:=fresh7 rr hr0
   obtain ⟨cy,hc7⟩:=fresh7 cc hc0
   have st:=rK b7 ht sm hy hr7 hc7 (Ne.symm ry) (Ne.symm cy) rc hy8 hr8 hc8
   have hD7:=b7.own .sL _ rfl
   rw [e6'] at hD7 st
   have hk:i < l0.length:=(List.getElem?_eq_some_iff.mp ht).1
   have hl:(fS F l0 i).au.length=i:=by show ((l0.take i).map mkS).length=i;simp;omega
   refine ⟨_,sm _ _ hD7,?_,_,?_,((px6.put (r:=.shv i) y dy (by intro z;cases z)).put (r:=.row i) rr 0 (by intro z;cases z)).put (r:=.sc i) cc 0 (by intro z;cases z),?_,?_⟩
   ·show (refs p6 .shv (fS F l0 i).au.length).length < sizeLine
    rw [aI,hl];exact cG (by omega)
   ·rw [hl];exact st
   ·rw [Pl.aH _ _ _ (by intro z;cases z),Pl.aH _ _ _ (by intro z;cases z),Pl.aH _ _ _ (by intro z;cases z)];exact e6
   ·rw [Pl.aH _ _ _ (by intro z;cases z),Pl.aH _ _ _ (by intro z;cases z),Pl.aH _ _ _ (by intro z;cases z)];exact e6'
  rintro H6 ⟨p6,b6,px6,e6,e6'⟩
  rw [List.length_map] at b6
  have es:fS F l0 l0.length=F:=by rw [<-eF];unfold fS;rw [List.take_length];rfl
  rw [es] at b6
  walk_at "v"
  refine setB (fs':=[("carries",.int c),("rule",.int r),("rows",.ref rw),("trucks",.ref D),("shovels",.ref D2)]) b6 px6.fl (fun H7 b7=>?_)
  walk_at "v"
  refine ⟨_,_,_,_,rfl,rfl,SqL.of (b7.frame _ _ RA.rows),bF (j:=1) rfl,?_⟩
  refine ⟨a1,l1.map V.int,rfl,SqL.of (b7.frame _ _ RA.h1),fun D3 hD3=>uV (K:=K) (xs:=l1.map V.int) (fun k H'=>∃ p,Bld p (gS A p (fP F l1 k) (.ins (A.c .Fleet) dx [("carries",.int c),("rule",.int r),("rows",.ref rw),("trucks",.ref D),("shovels",.ref D2)]) (mk_ 3)) B H'/\PX p x dx rw a0 a1 a2 a3 a4/\p.a .tL=D/\p.a .sL=D2/\p.a .pL=D3) ?_ (fun i H' _ ⟨_,b,_⟩=>SqL.of (b.frame _ _ RA.h1)) ?_ ?_⟩
  ·refine ⟨_,layB (r:=.pL) b7 hD3 (by intro z;cases z) (fun u h=>?_) (fun q u h1 h2 h3 h=>?_),px6.put _ _ (by intro z;cases z),(Pl.aH _ _ _ (by intro z;cases z)).trans e6,(Pl.aH _ _ _ (by intro z;cases z)).trans e6',Pl.cp _ _ _ _⟩
   ·cases h;rfl
   ·cases q with
    | pL=>exact absurd rfl h1
    | plc i=>cases h
    | fl=>exact absurd rfl h2
    | tL=>
      refine ⟨rfl,?_⟩
      rw [<-h]
      show some (HO.lst (refs p6 .trk F.aq.length))=some (HO.lst (refs (p6.put .pL D3 0) .trk F.aq.length))
      rw [bT (fun i _=>by intro z;cases z)]
    | sL=>
      refine ⟨rfl,?_⟩
      rw [<-h]
      show some (HO.lst (refs p6 .shv F.au.length))=some (HO.lst (refs (p6.put .pL D3 0) .shv F.au.length))
      rw [bT (fun i _=>by intro z;cases z)]
    | trk i=>exact ⟨rfl,h⟩
    | tc i=>exact ⟨rfl,h⟩
    | shv i=>exact ⟨rfl,h⟩
    | row i=>exact ⟨rfl,h⟩
    | sc i=>exact ⟨rfl,h⟩
    | _=>cases h3
  ·rintro i v H8 hv ⟨p8,b8,px8,e8,e8',e8''⟩ tt htt
   rw [List.getElem?_map] at hv
   obtain ⟨t,ht,rfl⟩:=dM hv
   have b9:=b8.same (aM (o:=.tup [.int ((i:Nat):Int),.int t]) htt)
   have tup9:upd H8 tt (.tup [.int ((i:Nat):Int),.int t]) tt=some (.tup [.int ((i:Nat):Int),.int t]):=aj
   revert b9 tup9
   generalize upd H8 tt (.tup [.int ((i:Nat):Int),.int t])=H9
   intro b9 tup9
   refine ⟨_,_,rfl,SqT.of tup9,rfl,?_⟩
   refine ⟨_,_,rfl,?_⟩
   refine ⟨_,_,rfl,?_⟩
   refine ⟨rfl,?_⟩
   refine ⟨rfl,?_⟩
   walk_at "v";walk_at "i";walk_at "v"
   intro y dy hy hdy hne
   refine ⟨i,t,y,dy,rfl,aj,fun Ha hya keep=>⟨rfl,?_⟩⟩
   have sm:aV H9 Ha:=aV.made hy hdy keep
   have st:=tY b9 ht sm hy hya
   have hD9:=b9.own .pL _ rfl
   rw [e8''] at hD9 st
   have hk:i < l1.length:=(List.getElem?_eq_some_iff.mp ht).1
   have hl:(fP F l1 i).br.length=i:=by show ((l1.take i).map mkP).length=i;simp;omega
   refine ⟨_,sm _ _ hD9,?_,_,?_,px8.put (r:=.plc i) y dy (by intro z;cases z),?_,?_,?_⟩
   ·show (refs p8 .plc (fP F l1 i).br.length).length < sizeLine
    rw [aI,hl];exact cG (by omega)
   ·rw [hl];exact st
   ·rw [Pl.aH _ _ _ (by intro z;cases z)];exact e8
   ·rw [Pl.aH _ _ _ (by intro z;cases z)];exact e8'
   ·rw [Pl.aH _ _ _ (by intro z;cases z)];exact e8''
  rintro H8 ⟨p8,b8,px8,e8,e8',e8''⟩
  rw [List.length_map] at b8
  have ep:fP F l1 l1.length=F:=by rw [<-eF];unfold fP;rw [List.take_length];rfl
  rw [ep] at b8
  walk_at "v"
  refine setB (fs':=[("carries",.int c),("rule",.int r),("rows",.ref rw),("trucks",.ref D),("shovels",.ref D2),("places",.ref D3)]) b8 px8.fl (fun H9 b9=>?_)
  walk_at "v"
  refine ⟨_,_,_,_,rfl,rfl,SqL.of (b9.frame _ _ RA.rows),bF (j:=2) rfl,?_⟩
  walk_at "v"
  refine setB (fs':=[("carries",.int c),("rule",.int r),("rows",.ref rw),("trucks",.ref D),("shovels",.ref D2),("places",.ref D3),("park",.ref a2)]) b9 px8.fl (fun Ha ba=>?_)
  walk_at "v"
  refine ⟨_,_,_,_,rfl,rfl,SqL.of (ba.frame _ _ RA.rows),bF (j:=3) rfl,?_⟩
  walk_at "v"
  refine setB (fs':=[("carries",.int c),("rule",.int r),("rows",.ref rw),("trucks",.ref D),("shovels",.ref D2),("places",.ref D3),("park",.ref a2),("onward",.ref a3)]) ba px8.fl (fun Hb bb=>?_)
  walk_at "v"
  refine ⟨_,_,_,_,rfl,rfl,SqL.of (bb.frame _ _ RA.rows),bF (j:=4) rfl,?_⟩
  walk_at "v"
  refine setB (fs':=[("carries",.int c),("rule",.int r),("rows",.ref rw),("trucks",.ref D),("shovels",.ref D2),("places",.ref D3),("park",.ref a2),("onward",.ref a3),("back",.ref a4)]) bb px8.fl (fun Hc bc=>?_)
  clear b3 b4 b5 b6 b7 b8 b9 ba bb
  have old:∀ (p:Pl) (q:Ro) (y:Addr),(∀ i,Ro.trk i≠q)->(∀ i,Ro.shv i≠q)->(∀ i,Ro.plc i≠q)->refs (p.put q y 0) .trk F.aq.length=refs p .trk F.aq.length/\refs (p.put q y 0) .shv F.au.length=refs p .shv F.au.length/\refs (p.put q y 0) .plc F.br.length=refs p .plc F.br.length:=fun p q y h1 h2 h3=>
   ⟨bT fun i _=>h1 i,bT fun i _=>h2 i,bT fun i _=>h3 i⟩
  have eb:F.aA=[]:=by rw [<-eF];rfl
  have ez:F.cI=[]:=by rw [<-eF];rfl
  have ek:F.book=[]:=by rw [<-eF];rfl
  refine ⟨Nat.zero_le _,fun D4 hD4=>?_⟩
  have bd:Bld (p8.put .told D4 0) (gS A (p8.put .told D4 0) F (.ins (A.c .Fleet) dx [("carries",.int c),("rule",.int r),("rows",.ref rw),("trucks",.ref D),("shovels",.ref D2),("places",.ref D3),("park",.ref a2),("onward",.ref a3),("back",.ref a4)]) (mk_ 4)) B (upd Hc D4 (.lst [])):=by
   obtain ⟨o1,o2,o3⟩:=old p8 .told D4 (fun i z=>by cases z) (fun i z=>by cases z) (fun i z=>by cases z)
   refine layB (r:=.told) bc hD4 (by intro z;cases z) (fun u h=>?_) (fun q u h1 h2 h3 h=>?_)
   ·have h:some (HO.lst (p8.calls.map V.ref))=some u:=h
    rw [px8.calls] at h;cases h;rfl
   ·cases q with
    | told=>exact absurd rfl h1
    | fl=>exact absurd rfl h2
    | tL=>refine ⟨rfl,?_⟩;rw [<-h];show some (HO.lst _)=some (HO.lst _);rw [o1]
    | sL=>refine ⟨rfl,?_⟩;rw [<-h];show some (HO.lst _)=some (HO.lst _);rw [o2]
    | pL=>refine ⟨rfl,?_⟩;rw [<-h];show some (HO.lst _)=some (HO.lst _);rw [o3]
    | trk i=>exact ⟨rfl,h⟩
    | tc i=>exact ⟨rfl,h⟩
    | shv i=>exact ⟨rfl,h⟩
    | row i=>exact ⟨rfl,h⟩
    | sc i=>exact ⟨rfl,h⟩
    | plc i=>exact ⟨rfl,h⟩
    | _=>cases h3
  have px9:=px8.put (r:=.told) D4 0 (by intro z;cases z)
  have q1:(p8.put .told D4 0).a .tL=D:=(Pl.aH _ _ _ (by intro z;cases z)).trans e8
  have q2:(p8.put .told D4 0).a .sL=D2:=(Pl.aH _ _ _ (by intro z;cases z)).trans e8'
  have q3:(p8.put .told D4 0).a .pL=D3:=(Pl.aH _ _ _ (by intro z;cases z)).trans e8''
  have q4:(p8.put .told D4 0).a .told=D4:=Pl.cp _ _ _ _
  generalize p8.put .told D4 0=p9 at bd px9 q1 q2 q3 q4
  walk_at "v"
  refine setB (fs':=[("carries",.int c),("rule",.int r),("rows",.ref rw),("trucks",.ref D),("shovels",.ref D2),("places",.ref D3),("park",.ref a2),("onward",.ref a3),("back",.ref a4),("told",.ref D4)]) bd px9.fl (fun Hd be=>?_)
  refine ⟨Nat.zero_le _,fun D5 hD5=>?_⟩
  have bf:Bld (p9.put .bL D5 0) (gS A (p9.put .bL D5 0) F (.ins (A.c .Fleet) dx [("carries",.int c),("rule",.int r),("rows",.ref rw),("trucks",.ref D),("shovels",.ref D2),("places",.ref D3),("park",.ref a2),("onward",.ref a3),("back",.ref a4),("told",.ref D4)]) (mk_ 5)) B (upd Hd D5 (.lst [])):=by
   obtain ⟨o1,o2,o3⟩:=old p9 .bL D5 (fun i z=>by cases z) (fun i z=>by cases z) (fun i z=>by cases z)
   refine layB (r:=.bL) be hD5 (by intro z;cases z) (fun u h=>?_) (fun q u h1 h2 h3 h=>?_)
   ·have h:some (HO.lst (refs (p9.put .bL D5 0) .blk F.aA.length))=some u:=h
    rw [eb] at h;cases h;rfl
   ·cases q with
    | bL=>exact absurd rfl h1
    | fl=>exact absurd rfl h2
    | tL=>refine ⟨rfl,?_⟩;rw [<-h];show some (HO.lst _)=some (HO.lst _);rw [o1]
    | sL=>refine ⟨rfl,?_⟩;rw [<-h];show some (HO.lst _)=some (HO.lst _);rw [o2]
    | pL=>refine ⟨rfl,?_⟩;rw [<-h];show some (HO.lst _)=some (HO.lst _);rw [o3]
    | trk i=>exact ⟨rfl,h⟩
    | tc i=>exact ⟨rfl,h⟩
    | shv i=>exact ⟨rfl,h⟩
    | row i=>exact ⟨rfl,h⟩
    | sc i=>exact ⟨rfl,h⟩
    | plc i=>exact ⟨rfl,h⟩
    | told=>exact ⟨rfl,h⟩
    | _=>cases h3
  have pxa:=px9.put (r:=.bL) D5 0 (by intro z;cases z)
  have q1:(p9.put .bL D5 0).a .tL=D:=(Pl.aH _ _ _ (by intro z;cases z)).trans q1
  have q2:(p9.put .bL D5 0).a .sL=D2:=(Pl.aH _ _ _ (by intro z;cases z)).trans q2
  have q3:(p9.put .bL D5 0).a .pL=D3:=(Pl.aH _ _ _ (by intro z;cases z)).trans q3
  have q4:(p9.put .bL D5 0).a .told=D4:=(Pl.aH _ _ _ (by intro z;cases z)).trans q4
  have q5:(p9.put .bL D5 0).a .bL=D5:=Pl.cp _ _ _ _
  generalize p9.put .bL D5 0=pa at bf pxa q1 q2 q3 q4 q5
  walk_at "v"
  refine setB (fs':=[("carries",.int c),("rule",.int r),("rows",.ref rw),("trucks",.ref D),("shovels",.ref D2),("places",.ref D3),("park",.ref a2),("onward",.ref a3),("back",.ref a4),("told",.ref D4),("blocks",.ref D5)]) bf pxa.fl (fun He bg=>?_)
  refine ⟨Nat.zero_le _,fun D6 hD6=>?_⟩
  have bh:Bld (pa.put .zL D6 0) (gS A (pa.put .zL D6 0) F (.ins (A.c .Fleet) dx [("carries",.int c),("rule",.int r),("rows",.ref rw),("trucks",.ref D),("shovels",.ref D2),("places",.ref D3),("park",.ref a2),("onward",.ref a3),("back",.ref a4),("told",.ref D4),("blocks",.ref D5)]) (mk_ 6)) B (upd He D6 (.lst [])):=by
   obtain ⟨o1,o2,o3⟩:=old pa .zL D6 (fun i z=>by cases z) (fun i z=>by cases z) (fun i z=>by cases z)
   refine layB (r:=.zL) bg hD6 (by intro z;cases z) (fun u h=>?_) (fun q u h1 h2 h3 h=>?_)
   ·have h:some (HO.lst (refs (pa.put .zL D6 0) .stp F.cI.length))=some u:=h
    rw [ez] at h;cases h;rfl
   ·cases q with
    | zL=>exact absurd rfl h1
    | fl=>exact absurd rfl h2
    | tL=>refine ⟨rfl,?_⟩;rw [<-h];show some (HO.lst _)=some (HO.lst _);rw [o1]
    | sL=>refine ⟨rfl,?_⟩;rw [<-h];show some (HO.lst _)=some (HO.lst _);rw [o2]
    | pL=>refine ⟨rfl,?_⟩;rw [<-h];show some (HO.lst _)=some (HO.lst _);rw [o3]
    | trk i=>exact ⟨rfl,h⟩
    | tc i=>exact ⟨rfl,h⟩
    | shv i=>exact ⟨rfl,h⟩
    | row i=>exact ⟨rfl,h⟩
    | sc i=>exact ⟨rfl,h⟩
    | plc i=>exact ⟨rfl,h⟩
    | told=>exact ⟨rfl,h⟩
    | bL=>
      refine ⟨rfl,?_⟩
      rw [<-h];show some (HO.lst (refs pa .blk F.aA.length))=some (HO.lst (refs _ .blk F.aA.length));rw [eb];rfl
    | _=>cases h3
  have pxb:=pxa.put (r:=.zL) D6 0 (by intro z;cases z)
  have q1:(pa.put .zL D6 0).a .tL=D:=(Pl.aH _ _ _ (by intro z;cases z)).trans q1
  have q2:(pa.put .zL D6 0).a .sL=D2:=(Pl.aH _ _ _ (by intro z;cases z)).trans q2
  have q3:(pa.put .zL D6 0).a .pL=D3:=(Pl.aH _ _ _ (by intro z;cases z)).trans q3
  have q4:(pa.put .zL D6 0).a .told=D4:=(Pl.aH _ _ _ (by intro z;cases z)).trans q4
  have q5:(pa.put .zL D6 0).a .bL=D5:=(Pl.aH _ _ _ (by intro z;cases z)).trans q5
  have q6:(pa.put .zL D6 0).a .zL=D6:=Pl.cp _ _ _ _
  generalize pa.put .zL D6 0=pb at bh pxb q1 q2 q3 q4 q5 q6
  walk_at "v"
  refine setB (fs':=[("carries",.int c),("rule",.int r),("rows",.ref rw),("trucks",.ref D),("shovels",.ref D2),("places",.ref D3),("park",.ref a2),("onward",.ref a3),("back",.ref a4),("told",.ref D4),("blocks",.ref D5),("stops",.ref D6)]) bh pxb.fl (fun Hf bi=>?_)
  refine ⟨Nat.zero_le _,fun D7 hD7=>?_⟩
  have bj:Bld (pb.put .book D7 0) (gS A (pb.put .book D7 0) F (.ins (A.c .Fleet) dx [("carries",.int c),("rule",.int r),("rows",.ref rw),("trucks",.ref D),("shovels",.ref D2),("places",.ref D3),("park",.ref a2),("onward",.ref a3),("back",.ref a4),("told",.ref D4),("blocks",.ref D5),("stops",.ref D6)]) (mk_ 7)) B (upd Hf D7 (.lst [])):=by
   obtain ⟨o1,o2,o3⟩:=old pb .book D7 (fun i z=>by cases z) (fun i z=>by cases z) (fun i z=>by cases z)
   refine layB (r:=.book) bi hD7 (by intro z;cases z) (fun u h=>?_) (fun q u h1 h2 h3 h=>?_)
   ·have h:some (HO.lst (refs (pb.put .book D7 0) .line F.book.length))=some u:=h
    rw [ek] at h;cases h;rfl
   ·cases q with
    | book=>exact absurd rfl h1
    | fl=>exact absurd rfl h2
    | tL=>refine ⟨rfl,?_⟩;rw [<-h];show some (HO.lst _)=some (HO.lst _);rw [o1]
    | sL=>refine ⟨rfl,?_⟩;rw [<-h];show some (HO.lst _)=some (HO.lst _);rw [o2]
    | pL=>refine ⟨rfl,?_⟩;rw [<-h];show some (HO.lst _)=some (HO.lst _);rw [o3]
    | trk i=>exact ⟨rfl,h⟩
    | tc i=>exact ⟨rfl,h⟩
    | shv i=>exact ⟨rfl,h⟩
    | row i=>exact ⟨rfl,h⟩
    | sc i=>exact ⟨rfl,h⟩
    | plc i=>exact ⟨rfl,h⟩
    | told=>exact ⟨rfl,h⟩
    | bL=>
      refine ⟨rfl,?_⟩
      rw [<-h];show some (HO.lst (refs pb .blk F.aA.length))=some (HO.lst (refs _ .blk F.aA.length));rw [eb];rfl
    | zL=>
      refine ⟨rfl,?_⟩
      rw [<-h];show some (HO.lst (refs pb .stp F.cI.length))=some (HO.lst (refs _ .stp F.cI.length));rw [ez];rfl
    | _=>cases h3
  have pxc:=pxb.put (r:=.book) D7 0 (by intro z;cases z)
  have q1:(pb.put .book D7 0).a .tL=D:=(Pl.aH _ _ _ (by intro z;cases z)).trans q1
  have q2:(pb.put .book D7 0).a .sL=D2:=(Pl.aH _ _ _ (by intro z;cases z)).trans q2
  have q3:(pb.put .book D7 0).a .pL=D3:=(Pl.aH _ _ _ (by intro z;cases z)).trans q3
  have q4:(pb.put .book D7 0).a .told=D4:=(Pl.aH _ _ _ (by intro z;cases z)).trans q4
  have q5:(pb.put .book D7 0).a .bL=D5:=(Pl.aH _ _ _ (by intro z;cases z)).trans q5
  have q6:(pb.put .book D7 0).a .zL=D6:=(Pl.aH _ _ _ (by intro z;cases z)).trans q6
  have q7:(pb.put .book D7 0).a .book=D7:=Pl.cp _ _ _ _
  generalize pb.put .book D7 0=pc at bj pxc q1 q2 q3 q4 q5 q6 q7
  walk_at "v"
  refine setB (fs':=[("carries",.int c),("rule",.int r),("rows",.ref rw),("trucks",.ref D),("shovels",.ref D2),("places",.ref D3),("park",.ref a2),("onward",.ref a3),("back",.ref a4),("told",.ref D4),("blocks",.ref D5),("stops",.ref D6),("book",.ref D7)]) bj pxc.fl (fun Hg bk=>?_)
  walk_at "v"
  refine setB (fs':=[("carries",.int c),("rule",.int r),("rows",.ref rw),("trucks",.ref D),("shovels",.ref D2),("places",.ref D3),("park",.ref a2),("onward",.ref a3),("back",.ref a4),("told",.ref D4),("blocks",.ref D5),("stops",.ref D6),("book",.ref D7),("minute",.int 0)]) bk pxc.fl (fun Hh bl=>?_)
  refine k pc Hh (bl.rep (fun q u h=>?_) ?_) pxc.fl
  ·have e1:F.carries=c:=by rw [<-eF];rfl
   have e2:F.rule=r:=by rw [<-eF];rfl
   have e3:F.minute=0:=by rw [<-eF];rfl
   have tz:∀ (i:Nat) (t:Mi.Trk),F.aq[i]? = some t->t.load=none:=fun i t ht=>by
    rw [<-eF] at ht
    have ht:(List.replicate n.toNat Mi.fq)[i]? = some t:=ht
    rw [(tW ht).2];rfl
   cases q with
   | fl=>
     have h:some (HO.ins (A.c .Fleet) (pc.d .fl) (xB pc F))=some u:=h
     rw [<-h,pxc.d]
     unfold xB
     rw [e1,e2,e3,pxc.rows,pxc.r2,pxc.r3,pxc.r4,q1,q2,q3,q4,q5,q6,q7]
     rfl
   | ld i=>
     have h:(F.aq[i]?).bind _=some u:=h
     cases e:F.aq[i]? with
     | none=>rw [e] at h;cases h
     | some t=>
       rw [e] at h
       have h:t.load.map _=some u:=h
       rw [tz i t e] at h;cases h
   | blk i=>
     have h:(F.aA[i]?).map _=some u:=h
     rw [eb] at h;cases h
   | stp i=>
     have h:(F.cI[i]?).map _=some u:=h
     rw [ez] at h;cases h
   | line i=>
     have h:(F.book[i]?).map _=some u:=h
     rw [ek] at h;cases h
   | _=>exact h
  ·refine ⟨?_,?_,?_,?_,?_,?_,?_,fun kk a cc h1 h2=>?_⟩
   ·rw [pxc.rows,pxc.r0,pxc.r1,pxc.r2,pxc.r3,pxc.r4];exact RA.rows
   ·rw [pxc.r0,<-eF];exact RA.h0
   ·rw [pxc.r1,<-eF];exact RA.h1
   ·rw [pxc.r2,<-eF];exact RA.h2
   ·rw [pxc.r3,<-eF];exact RA.h3
   ·rw [pxc.r4,<-eF];exact RA.h4
   ·rw [pxc.calls,<-eF];rfl
   ·rw [pxc.calls] at h1;cases h1
end
section
variable {P:Program} {w:World} {K:PySem.W.Frag} {mg:Str->Option Value} {base:Heap} {A:Ad}
noncomputable def yh (A:Ad):Sp:=fun vs H Q _=>∃ (p:Pl) (f:Mi.Flt) (rule n:Int),vs=[.ref (p.a .fl),.int rule,.int n]/\dA A p f H/\Mi.WI f/\Mi.RI f/\f.told.length<=1000/\1<=n/\n<=8/\
 ∀ (p':Pl) (H':Hp),Rep A p' (Mi.again f rule n) H H'->Q (.ref (p'.a .fl)) H'
theorem ia (T:Txt K mg A):cD P w K mg base CX0 9 (A.f .aY) (A.fd .aY) (ps .aY) (yh A):=by
 refine (T.F .aY).ok i7 (fun vs H Q E h=>?_) (fun cdv Ar outer s H vs Q E hr h=>?_)
 ·obtain ⟨p,f,rule,n,rfl,_⟩:=h
  rfl
 ·obtain ⟨p,f,rule,n,rfl,S,W,RI,hn,n1,n8,k⟩:=h
  refine ⟨_,(ab (bC (i:=3) i7.nd rfl (Or.inl rfl) (j9 (T.mak .Fleet) (oF T) (hr.mono (by decide)) rfl (T.gc .Fleet) (T.b .dv) (ah (pv 2) (ah (ae (pv 0) rfl) (ah (pv 1) (ah (ae (pv 0) rfl) af))))))
   (ab (fh PassesOwn.never rfl (dn (ae (pv 0) rfl)) (bW (i:=4) i7.nd rfl (Or.inl rfl))
   (ag (cH (aO (uO T) hr rfl (T.g .tell rfl) (T.F .tell).kp (T.b .tell) (ah (pv 3) (ah (pv 4) af))))))
   (ag (aG (pv 3))))),?_⟩
  have h0:=S.fl
  walk_at "v";walk_at "w";walk_at "v";walk_at "w"
  intro x dx hx hdx hne
  have a2:=RI.a2
  have b2:=RI.b2
  refine ⟨H,n,f.carries,rule,p.rows,p.r0,p.r1,p.r2,p.r3,p.r4,f.r0,f.r1,f.park,f.onw,f.back,x,dx,rfl,aj,fun b u e=>?_,hx,⟨S.ex.rows,S.ex.h0,S.ex.h1,S.ex.h2,S.ex.h3,S.ex.h4⟩,by omega,n8,by omega,by omega,fun p1 H1 R1 e1=>⟨rfl,?_⟩⟩
  ·rw [ax (cC e hx),ax (cC e hdx)];exact e
  ·have h1:=R1.frame _ _ h0
   walk_at "w"
   refine ⟨_,rfl,⟨_,SqL.of (R1.frame _ _ S.told)⟩,eW (K:=K) (xs:=p.calls.map V.ref) (fun i σ H'=>∃ (v:Option V) (p':Pl),σ=[some (.ref (p.a .fl)),some (.int rule),some (.int n),some (.ref x),v]/\Rep A p' (Mi.gb f rule n i) H H'/\p'.a .fl=x)
    ⟨none,p1,rfl,R1,e1⟩ (fun i σ H' hi ⟨_,p',_,R',_⟩=>SqL.of (R'.frame _ _ S.told)) ?_ ?_⟩
   ·rintro i y σ H2 hi ⟨v,p2,rfl,R2,e2⟩
    rw [List.getElem?_map] at hi
    obtain ⟨a,ha,rfl⟩:=dM hi
    have hl:i < p.calls.length:=(List.getElem?_eq_some_iff.mp ha).1
    have hcl:=S.ex.cl
    obtain ⟨c,hc⟩:∃ c,f.told[i]? = some c:=⟨_,List.getElem?_eq_getElem (by omega)⟩
    obtain ⟨W2,l2,_⟩:=Mi.iR W RI n1 n8 (rule:=rule) i (by omega)
    have et:Mi.gb f rule n (i+1)=(Mi.tell (Mi.gb f rule n i) c).1:=by
     unfold Mi.gb;exact pT hc
    walk_at "u"
    refine ⟨H,p2,_,a,c,by rw [e2],R2,W2,by omega,S.ex.call i a c ha hc,W.c c (List.mem_of_getElem? hc),fun p3 H3 y R3 e3 _=>?_⟩
    exact ⟨_,p3,rfl,by rw [et];exact R3,e3.trans e2⟩
   ·rintro σ H2 ⟨v,p2,rfl,R2,e2⟩
    rw [List.length_map,S.ex.cl,<-Mi.jo] at R2
    walk_at "v"
    rw [<-e2];exact k p2 H2 R2
noncomputable def ie (H:Hp) (l:List Int) (Q:VK):Prop:=∀ (H':Hp) (x:Addr),H x=none->H' x=some (.lst (l.map V.int))->aV H H'->Q (.ref x) H'
noncomputable def vy (A:Ad):Sp:=fun vs H Q _=>∃ (p:Pl) (f:Mi.Flt) (n:Nat),vs=[.ref (p.a .fl)]/\dA A p f H/\Mi.WF n f/\ie H (Mi.outcome f) Q
theorem ie.lay {H H1:Hp} {l:List Int} {Q:VK} (k:ie H l Q) (s:aV H H1) {x:Addr} (hx:H1 x=none):Q (.ref x) (upd H1 x (.lst (l.map V.int))):=k _ x (s.free hx) aj (s.trans (aM hx))
theorem ie.same {H H1:Hp} {l:List Int} {Q:VK} (k:ie H l Q) (s:aV H H1):ie H1 l Q:=fun H' x hx h1 h2=>k H' x (s.free hx) h1 (s.trans h2)
theorem oB (T:Txt K mg A):cD P w K mg base CX0 2 (A.f .outcome) (A.fd .outcome) (ps .outcome) (vy A):=by
 refine (T.F .outcome).ok tQ (fun vs H Q E h=>?_) (fun cdv Ar outer s H vs Q E hr h=>?_)
 ·obtain ⟨p,f,n,rfl,_⟩:=h
  rfl
 ·obtain ⟨p,f,n,rfl,S,W,k⟩:=h
  refine ⟨_,(ag (aG (bM (ah (bD rfl T.fj) (ah (aO (ib T) hr rfl (T.g .aZ rfl) (T.F .aZ).kp (T.b .aZ) (ah (pv 0) af)) (ah (aO (iz T) hr rfl (T.g .aK rfl) (T.F .aK).kp (T.b .aK) (ah (pv 0) af)) (ah (aO (fi T) hr rfl (T.g .az rfl) (T.F .az).kp (T.b .az) (ah (pv 0) af)) af))))))),?_⟩
  have z1:f.br.length<=1000:=by have:=W.p2;omega
  have z2:f.au.length<=1000:=by have:=W.s2;omega
  have z3:∀ s ∈ f.au,s.cnt.length=4:=fun q hq=>(W.shv q hq).cnt
  walk_at "v"
  refine ⟨p,f,rfl,S,z1,z2,z3,fun H1 s1=>?_⟩
  walk_at "v"
  refine ⟨p,f,rfl,S.same s1,z1,z2,z3,fun H2 s2=>?_⟩
  walk_at "v"
  refine ⟨p,f,rfl,S.same (s1.trans s2),z1,z2,z3,fun H3 s3=>?_⟩
  exact ⟨by show 4<=sizeLine;decide,fun x hx=>k.lay ((s1.trans s2).trans s3) hx⟩
noncomputable def gM (A:Ad) (F:Mi.Flt->List Int->List Int) (ok:Int×List Int->Prop):Sp:=fun vs H Q _=>∃ (p:Pl) (f:Mi.Flt) (ca:Addr) (c:Int×List Int),vs=[.ref (p.a .fl),.ref ca]/\dA A p f H/\Mi.WI f/\Mi.RI f/\f.told.length<=1000/\jE A H ca c/\ok c/\ie H (F f c.2) Q
theorem oC (T:Txt K mg A):cD P w K mg base CX0 10 (A.f .cx) (A.fd .cx) (ps .cx) (gM A (fun f l=>Mi.fI f (14,l) []) fun c=>∃ r n:Int,c=(14,[r,n])/\1<=n/\n<=8):=by
 refine (T.F .cx).ok oh (fun vs H Q E h=>?_) (fun cdv Ar outer s H vs Q E hr h=>?_)
 ·obtain ⟨p,f,ca,c,rfl,_⟩:=h
  rfl
 ·obtain ⟨p,f,ca,c,rfl,S,W,RI,hn,hc,⟨r,n,rfl,n1,n8⟩,k⟩:=h
  refine ⟨_,(ag (aG (aO (oB T) (hr.mono (by decide)) rfl (T.g .outcome rfl) (T.F .outcome).kp (T.b .outcome) (ah (aO (ia T) hr rfl (T.g .aY rfl) (T.F .aY).kp (T.b .aY) (ah (pv 0) (ah (cB bo (ae (pv 1) rfl) aB (fun _ _=>rfl)) (ah (cB bo (ae (pv 1) rfl) aB (fun _ _=>rfl)) af)))) af)))),?_⟩
  obtain ⟨cdx,pa,ra,hca,hpa⟩:=hc
  walk_at "v";walk_at "w"
  refine ⟨_,_,_,_,rfl,rfl,SqL.of hpa,bF (j:=0) rfl,?_⟩
  walk_at "w"
  refine ⟨_,_,_,_,rfl,rfl,SqL.of hpa,bF (j:=1) rfl,?_⟩
  refine ⟨p,f,r,n,rfl,S,W,RI,hn,n1,n8,fun p1 H1 R1=>?_⟩
  obtain ⟨W1,_⟩:=Mi.iR W RI n1 n8 (rule:=r) f.told.length (Nat.le_refl _)
  rw [<-Mi.jo] at W1
  exact ⟨p1,_,_,rfl,R1.sees,W1.w,k.same R1.frame⟩
theorem pJ (T:Txt K mg A):cD P w K mg base CX0 10 (A.f .cP) (A.fd .cP) (ps .cP) (gM A (fun f l=>Mi.fI f (16,l) []) fun c=>∃ n:Int,c=(16,[n])/\1<=n/\n<=1440):=by
 refine (T.F .cP).ok j7 (fun vs H Q E h=>?_) (fun cdv Ar outer s H vs Q E hr h=>?_)
 ·obtain ⟨p,f,ca,c,rfl,_⟩:=h
  rfl
 ·obtain ⟨p,f,ca,c,rfl,S,W,RI,hn,hc,⟨n,rfl,n1,n8⟩,k⟩:=h
  refine ⟨_,(ab (bC (i:=2) j7.nd rfl (Or.inl rfl) (cB bo (ae (pv 1) rfl) aB (fun _ _=>rfl)))
   (ab (cR (gT (aO (jK T) (hr.mono (by decide)) rfl (T.g .bH rfl) (T.F .bH).kp (T.b .bH) (ah (pv 0) (ah (pv 2) af)))) (ag (aG (bM (ah (bD rfl T.lT) af)))) bE)
   (ab (bC (i:=3) j7.nd rfl (Or.inl rfl) (aO (ia T) hr rfl (T.g .aY rfl) (T.F .aY).kp (T.b .aY) (ah (pv 0) (ah (ae (pv 0) rfl) (ah (aP aD rfl T.dX PySem.boot_len (ah (ae (pv 0) rfl) af)) af)))))
   (ab (cH (aO (hX T) (hr.mono (by decide)) rfl (T.g .aF rfl) (T.F .aF).kp (T.b .aF) (ah (pv 3) (ah (pv 2) af))))
   (ag (aG (aO (oB T) (hr.mono (by decide)) rfl (T.g .outcome rfl) (T.F .outcome).kp (T.b .outcome) (ah (pv 3) af)))))))),?_⟩
  obtain ⟨cdx,pa,ra,hca,hpa⟩:=hc
  have k:ie H (Mi.ahead f n) Q:=k
  unfold Mi.ahead at k
  walk_at "w"
  refine ⟨_,_,_,_,rfl,rfl,SqL.of hpa,bF (j:=0) rfl,?_⟩
  walk_at "u"
  refine ⟨p,f,_,rfl,S,?_⟩
  walk_at "v"
  refine dG (fun e1=>?_) (fun e1=>?_)
  ·have e1:1440 < f.minute+n:=of_decide_eq_true e1
   rw [if_pos e1] at k
   exact ⟨by show 1<=sizeLine;decide,fun x hx=>k.lay (aV.refl _) hx⟩
  ·have e1:¬1440 < f.minute+n:=fun z=>e1 (decide_eq_true z)
   rw [if_neg e1] at k
   have h0:=S.fl
   have t1:=W.w.t1
   have t2:=W.w.t2
   walk_at "v";walk_at "w";walk_at "w"
   refine ⟨_,_,rfl,.inl (SqL.of S.tL),?_⟩
   rw [aI]
   refine ⟨p,f,_,_,rfl,S,W,RI,hn,by omega,by omega,fun p1 H1 R1=>?_⟩
   obtain ⟨W1,_⟩:=Mi.iR W RI (n:=(f.aq.length:Int)) (by omega) (by omega) (rule:=f.rule) f.told.length (Nat.le_refl _)
   rw [<-Mi.jo] at W1
   generalize Mi.again f f.rule (f.aq.length:Int)=g at R1 W1 k
   walk_at "u"
   refine ⟨H,p1,g,_,n,rfl,R1,W1.w,z8 W1,by omega,n8,fun p2 H2 R2 k2=>?_⟩
   walk_at "v"
   exact ⟨p2,_,_,by rw [k2.fl],R2.sees,Mi.gv W1.w n.toNat,k.same R2.frame⟩
theorem mO (T:Txt K mg A):cD P w K mg base CX0 10 (A.f .bP) (A.fd .bP) (ps .bP) (gM A (fun f l=>Mi.fI f (15,l) []) fun c=>∃ m:Int,c=(15,[m])):=by
 refine (T.F .bP).ok fW (fun vs H Q E h=>?_) (fun cdv Ar outer s H vs Q E hr h=>?_)
 ·obtain ⟨p,f,ca,c,rfl,_⟩:=h
  rfl
 ·obtain ⟨p,f,ca,c,rfl,S,W,RI,hn,hc,⟨m,rfl⟩,k⟩:=h
  refine ⟨_,(ab (bC (i:=2) fW.nd rfl (Or.inl rfl) (cB bo (ae (pv 1) rfl) aB (fun _ _=>rfl)))
   (ab (fh PassesOwn.never rfl (vJ rfl T.kQ (ah aB (ah (cS gU (bD rfl T.lD) aB) af))) (bW (i:=3) fW.nd rfl (Or.inl rfl))
   (ab (bC (i:=4) fW.nd rfl (Or.inl rfl) (aO (fi T) (hr.mono (by decide)) rfl (T.g .az rfl) (T.F .az).kp (T.b .az) (ah (aO (ia T) hr rfl (T.g .aY rfl) (T.F .aY).kp (T.b .aY) (ah (pv 0) (ah (ae (pv 0) rfl) (ah (pv 3) af)))) af)))
   (ag (cR (bB nc (pv 4) (pv 2) (cn _)) (ag (aG (bM (ah (bD rfl T.fj) (ah (pv 3) (ah (pv 4) af)))))) bE))))
   (ag (aG (bM (ah (bD rfl T.fj) (ah aB af))))))),?_⟩
  obtain ⟨cdx,pa,ra,hca,hpa⟩:=hc
  have k:ie H (Mi.dQ f m 8 1) Q:=k
  walk_at "w"
  refine ⟨_,_,_,_,rfl,rfl,SqL.of hpa,bF (j:=0) rfl,?_⟩
  walk_at "i"
  refine ⟨1,9,rfl,⟨by decide,by decide,by decide,by decide⟩,?_⟩
  show ∃ W:Nat->Nat->L2.St->Hp->Prop,_
  refine kT (lo:=1) (n:=8) (fun i σ H'=>∃ (v1 v2:Option V),σ=[some (.ref (p.a .fl)),some (.ref ca),some (.int m),v1,v2]/\aV H H'/\Mi.dQ f m 8 1=Mi.dQ f m (8 - i) (1+i)) ⟨none,none,rfl,aV.refl H,rfl⟩ ?_ ?_
  ·rintro i σ H1 hi ⟨v1,v2,rfl,s1,ef⟩
   have S1:=S.same s1
   have h1:=S1.fl
   have ez:(1:Int)+(i:Int)=((1+i:Nat):Int):=by omega
   have e8:8 - i=(8 - (i+1))+1:=by omega
   rw [e8] at ef
   have ef:Mi.dQ f m 8 1=if Mi.without (Mi.again f f.rule ((1+i:Nat):Int))<=m then [0,((1+i:Nat):Int),Mi.without (Mi.again f f.rule ((1+i:Nat):Int))] else Mi.dQ f m (8 - (i+1)) (1+i+1):=ef
   walk_at "v";walk_at "w";walk_at "v"
   refine ⟨p,f,_,_,rfl,S1,W,RI,hn,by omega,by omega,fun p1 H2 R2=>?_⟩
   obtain ⟨W2,_⟩:=Mi.iR W RI (n:=(1:Int)+(i:Int)) (by omega) (by omega) (rule:=f.rule) f.told.length (Nat.le_refl _)
   rw [<-Mi.jo] at W2
   rw [<-ez] at ef
   generalize Mi.again f f.rule ((1:Int)+(i:Int))=g at R2 W2 ef
   refine ⟨p1,g,rfl,R2.sees,by have:=W2.w.p2;omega,by have:=W2.w.s2;omega,fun q hq=>(W2.w.shv q hq).cnt,fun H3 s3=>?_⟩
   have s13:aV H H3:=(s1.trans R2.frame).trans s3
   walk_at "u";walk_at "i";walk_at "v"
   refine dG (fun e=>?_) (fun e=>?_)
   ·have e:Mi.without g<=m:=of_decide_eq_true e
    rw [if_pos e] at ef
    rw [ef] at k
    walk_at "u"
    exact ⟨by show 3<=sizeLine;decide,fun x hx=>k.lay s13 hx⟩
   ·have e:¬Mi.without g<=m:=fun z=>e (decide_eq_true z)
    rw [if_neg e] at ef
    exact ⟨_,_,rfl,s13,ef⟩
  ·rintro σ H1 ⟨v1,v2,rfl,s1,ef⟩
   have ef:Mi.dQ f m 8 1=[0,0]:=ef
   rw [ef] at k
   exact ⟨by show 2<=sizeLine;decide,fun x hx=>k.lay s1 hx⟩
noncomputable def oH (c:Int×List Int):Prop:=(∃ r n:Int,c=(14,[r,n])/\1<=n/\n<=8)\/(∃ m:Int,c=(15,[m]))\/∃ n:Int,c=(16,[n])/\1<=n/\n<=1440
noncomputable def yd (A:Ad) (ok:Int×List Int->Prop):Sp:=fun vs H Q _=>∃ (p:Pl) (f:Mi.Flt) (ca:Addr) (c:Int×List Int),vs=[.ref (p.a .fl),.ref ca]/\dA A p f H/\Mi.WI f/\Mi.RI f/\f.told.length<=1000/\jE A H ca c/\ok c/\ie H (Mi.fI f c []) Q
theorem vK (T:Txt K mg A):cD P w K mg base CX0 11 (A.f .replay) (A.fd .replay) (ps .replay) (yd A oH):=by
 refine (T.F .replay).ok vA (fun vs H Q E h=>?_) (fun cdv Ar outer s H vs Q E hr h=>?_)
 ·obtain ⟨p,f,ca,c,rfl,_⟩:=h
  rfl
 ·obtain ⟨p,f,ca,c,rfl,S,W,RI,hn,hc,ok,k⟩:=h
  refine ⟨_,(ag (aG (qF (rW (jH rfl T.qa) (ae (pv 1) rfl) (fun _ _=>rfl)) (ah (pv 0) (ah (pv 1) af))))),?_⟩
  have hc0:=hc
  obtain ⟨cdx,pa,ra,hca,hpa⟩:=hc
  walk_at "w"
  rcases ok with o1 | o2 | o3
  ·have o:=o1
   obtain ⟨r,n,rfl,_⟩:=o1
   refine ⟨_,_,14,_,rfl,T.kR,rfl,rfl,?_⟩
   refine ⟨_,_,_,_,_,rfl,oC T,hr.mono (by decide),(T.F .cx).kp,T.b .cx,?_⟩
   walk_at "u"
   exact ⟨p,f,ca,_,rfl,S,W,RI,hn,hc0,o,k⟩
  ·have o:=o2
   obtain ⟨m,rfl⟩:=o2
   refine ⟨_,_,15,_,rfl,T.kR,rfl,rfl,?_⟩
   refine ⟨_,_,_,_,_,rfl,mO T,hr.mono (by decide),(T.F .bP).kp,T.b .bP,?_⟩
   walk_at "u"
   exact ⟨p,f,ca,_,rfl,S,W,RI,hn,hc0,o,k⟩
  ·have o:=o3
   obtain ⟨n,rfl,_⟩:=o3
   refine ⟨_,_,16,_,rfl,T.kR,rfl,rfl,?_⟩
   refine ⟨_,_,_,_,_,rfl,pJ T,hr.mono (by decide),(T.F .cP).kp,T.b .cP,?_⟩
   walk_at "u"
   exact ⟨p,f,ca,_,rfl,S,W,RI,hn,hc0,o,k⟩
end
section
variable {P:Program} {w:World} {K:PySem.W.Frag} {mg:Str->Option Value} {base:Heap} {A:Ad}
noncomputable def iu (K:PySem.W.Frag) (A:Ad):Sp:=fun vs H Q _=>∃ (p:Pl) (f:Mi.Flt) (n i:Nat),vs=[.ref (p.a (.shv i))]/\dA A p f H/\Mi.WF n f/\i < f.au.length/\∀ (H':Hp),aV H H'->Q (.int (Mi.fw f (Mi.ai f i).row)) H'
theorem iA (T:Txt K mg A):cD P w K mg base CX0 1 (A.f .aL) (A.fd .aL) (ps .aL) (iu K A):=by
 refine (T.F .aL).ok gj (fun vs H Q E h=>?_) (fun cdv Ar outer s H vs Q E hr h=>?_)
 ·obtain ⟨p,f,n,i,rfl,_⟩:=h
  rfl
 ·obtain ⟨p,f,n,i,rfl,S,W,hi,k⟩:=h
  refine ⟨_,(ag (aG (aP (kJ rfl) rfl T.mm boot_sum (ah (iY (g:=(gf 1)) (tt:=m6) (te:=(jW K (gm 1) "left")) rfl gj.nd (dn (ae (pv 0) rfl)) (eZ (own:=[("block",1)]) (by rfl)) (fun _ _ _ _ _=>(bW (i:=1) gj.nd rfl (Or.inl rfl))) (fun _ _ _ _ _=>fY) (fun _ _ _ _ _=>(ae (pv 1) rfl))) af)))),?_⟩
  have h1:=S.shv (bq hi Mi.fO)
  have h2:=S.row (bq hi Mi.fO)
  have W2:=W.ai hi
  have b20:=W.b20
  walk_at "w"
  refine ⟨_,rfl,⟨_,SqL.of h2⟩,fun D hD=>gq (K:=K) (l:=(Mi.ai f i).row) (F:=fun j=>V.ref (p.a (.blk j))) (fun j=>some (.int (Mi.ak f j).left)) hD (SqL.of h2) (cG (by have:=W2.len;omega)) ?_ ?_⟩
  ·intro j hj H' s' R R0 hR _
   have hj':=W2.row j hj
   have h3:=(S.same s').blk (bq hj' Mi.uq)
   refine ⟨rfl,?_⟩
   walk_at "w"
   exact hR _ _ (aV.refl _) rfl
  ·intro H' s' hD'
   rw [dZ] at hD'
   exact ⟨_,_,rfl,SqL.of hD',k H' s'⟩
theorem pG (T:Txt K mg A):cD P w K mg base CX0 2 (A.f .cN) (A.fd .cN) (ps .cN) (gM A (fun f l=>Mi.fI f (4,l) []) fun c=>∃ t:Int,c=(4,[t])/\1<=t):=by
 refine (T.F .cN).ok j5 (fun vs H Q E h=>?_) (fun cdv Ar outer s H vs Q E hr h=>?_)
 ·obtain ⟨p,f,ca,c,rfl,_⟩:=h
  rfl
 ·obtain ⟨p,f,ca,c,rfl,S,W,RI,hn,hc,⟨t,rfl,t1⟩,k⟩:=h
  refine ⟨_,(ab (bC (i:=2) j5.nd rfl (Or.inl rfl) (cB bo (ae (pv 1) rfl) aB (fun _ _=>rfl)))
   (ab (cR (bB iZ (pv 2) (aP aD rfl T.dX PySem.boot_len (ah (ae (pv 0) rfl) af)) (cn _)) (ag (aG (bM (ah (bD rfl T.fZ) af)))) bE)
   (ab (bC (i:=3) j5.nd rfl (Or.inl rfl) (cB bo (ae (pv 0) rfl) (cS fR (pv 2) aB) (fun _ _=>rfl)))
   (ag (aG (cS km (bM (ah (bD rfl T.fj) (ah (ae (pv 3) rfl) (ah (ae (pv 3) rfl) (ah (ae (pv 3) rfl) af))))) (aO (jJ T) hr rfl (T.g .bG rfl) (T.F .bG).kp (T.b .bG) (ah (pv 3) af)))))))),?_⟩
  obtain ⟨cdx,pa,ra,hca,hpa⟩:=hc
  have k:ie H (if (f.aq.length:Int) < t then [-2] else [0,(Mi.aa f (t - 1).toNat).does,(Mi.aa f (t - 1).toNat).at_,(Mi.aa f (t - 1).toNat).go]++Mi.dr f (Mi.aa f (t - 1).toNat)) Q:=k
  have h0:=S.fl
  walk_at "w"
  refine ⟨_,_,_,_,rfl,rfl,SqL.of hpa,bF (j:=0) rfl,?_⟩
  walk_at "v";walk_at "w"
  refine ⟨_,_,rfl,.inl (SqL.of S.tL),?_⟩
  rw [aI]
  walk_at "i";walk_at "v"
  refine dG (fun e1=>?_) (fun e1=>?_)
  ·have e1:(f.aq.length:Int) < t:=of_decide_eq_true e1
   rw [if_pos e1] at k
   exact ⟨by show 1<=sizeLine;decide,fun x hx=>k.lay (aV.refl _) hx⟩
  ·have e1:¬(f.aq.length:Int) < t:=fun z=>e1 (decide_eq_true z)
   rw [if_neg e1] at k
   walk_at "w";walk_at "v";walk_at "i"
   refine ⟨_,_,_,_,rfl,rfl,SqL.of S.tL,lG t1 (by omega),?_⟩
   have hi:(t - 1).toNat < f.aq.length:=by omega
   generalize (t - 1).toNat=i at k hi
   have ht:f.aq[i]? = some (Mi.aa f i):=bq hi _
   have h1:=S.trk ht
   walk_at "w";walk_at "w";walk_at "w"
   refine ⟨by show 4<=sizeLine;decide,fun x hx=>?_⟩
   have s1:aV H (upd H x (.lst [.int 0,.int (Mi.aa f i).does,.int (Mi.aa f i).at_,.int (Mi.aa f i).go])):=aM hx
   walk_at "v"
   refine ⟨p,f,i,_,rfl,S.same s1,ht,(W.w.aa hi).l,fun H2 y hy hy2 s2=>?_⟩
   refine ⟨_,_,_,_,rfl,rfl,s2 _ _ aj,hy2,by rw [List.length_map,Mi.iD];show 4+2<=sizeLine;decide,fun z hz=>?_⟩
   have:=k.lay (s1.trans s2) hz
   rw [List.map_append] at this
   exact this
theorem oy (T:Txt K mg A):cD P w K mg base CX0 3 (A.f .cu) (A.fd .cu) (ps .cu) (gM A (fun f l=>Mi.fI f (5,l) []) fun c=>∃ t:Int,c=(5,[t])/\1<=t):=by
 refine (T.F .cu).ok fQ (fun vs H Q E h=>?_) (fun cdv Ar outer s H vs Q E hr h=>?_)
 ·obtain ⟨p,f,ca,c,rfl,_⟩:=h
  rfl
 ·obtain ⟨p,f,ca,c,rfl,S,W,RI,hn,hc,⟨t,rfl,t1⟩,k⟩:=h
  refine ⟨_,(ab (bC (i:=2) fQ.nd rfl (Or.inl rfl) (cB bo (ae (pv 1) rfl) aB (fun _ _=>rfl)))
   (ab (cR (bB iZ (pv 2) (aP aD rfl T.dX PySem.boot_len (ah (ae (pv 0) rfl) af)) (cn _)) (ag (aG (bM (ah (bD rfl T.fZ) af)))) bE)
   (ab (bC (i:=3) fQ.nd rfl (Or.inl rfl) (cB bo (ae (pv 0) rfl) (cS fR (pv 2) aB) (fun _ _=>rfl)))
   (ab (wQ (i:=4) (g:=(gf 5)) (tt:=m6) (te:=(jW K (gm 5) "number")) rfl fQ.nd rfl rfl (y2 rfl rfl rfl rfl) (dn (ae (pv 3) rfl)) (eZ (own:=[("block",5)]) (by rfl)) (fun _ _ _ _ _=>(bW (i:=5) fQ.nd rfl (Or.inl rfl))) (fun _ _ _ _ _=>fY) (fun _ _ _ _ _=>(ae (pv 5) rfl)))
   (ag (aG (cS km (bM (ah (bD rfl T.fj) (ah (aO (ja T) (hr.mono (by decide)) rfl (T.g .bV rfl) (T.F .bV).kp (T.b .bV) (ah (pv 0) (ah (pv 3) af))) (ah (aO (jg T) hr rfl (T.g .bu rfl) (T.F .bu).kp (T.b .bu) (ah (pv 0) (ah (pv 3) af))) (ah (aO (iA T) (hr.mono (by decide)) rfl (T.g .aL rfl) (T.F .aL).kp (T.b .aL) (ah (pv 3) af)) af))))) (pv 4)))))))),?_⟩
  obtain ⟨cdx,pa,ra,hca,hpa⟩:=hc
  have k:ie H (if (f.au.length:Int) < t then [-2] else [0,Mi.fF f (Mi.ai f (t - 1).toNat).row,Mi.cE f [1,2] t,Mi.fw f (Mi.ai f (t - 1).toNat).row]++(Mi.ai f (t - 1).toNat).row.map fun j=>(Mi.ak f j).number) Q:=k
  have h0:=S.fl
  walk_at "w"
  refine ⟨_,_,_,_,rfl,rfl,SqL.of hpa,bF (j:=0) rfl,?_⟩
  walk_at "v";walk_at "w"
  refine ⟨_,_,rfl,.inl (SqL.of S.sL),?_⟩
  rw [aI]
  walk_at "i";walk_at "v"
  refine dG (fun e1=>?_) (fun e1=>?_)
  ·have e1:(f.au.length:Int) < t:=of_decide_eq_true e1
   rw [if_pos e1] at k
   exact ⟨by show 1<=sizeLine;decide,fun x hx=>k.lay (aV.refl _) hx⟩
  ·have e1:¬(f.au.length:Int) < t:=fun z=>e1 (decide_eq_true z)
   rw [if_neg e1] at k
   walk_at "w";walk_at "v";walk_at "i"
   refine ⟨_,_,_,_,rfl,rfl,SqL.of S.sL,lG t1 (by omega),?_⟩
   have hi:(t - 1).toNat < f.au.length:=by omega
   have et:t=(((t - 1).toNat:Nat):Int)+1:=by omega
   generalize (t - 1).toNat=i at k hi et
   subst et
   have h1:=S.shv (bq hi Mi.fO)
   have h2:=S.row (bq hi Mi.fO)
   have W2:=W.w.ai hi
   have b20:=W.w.b20
   have rl:=W2.len
   walk_at "w"
   refine ⟨_,rfl,⟨_,SqL.of h2⟩,fun D hD=>gq (K:=K) (l:=(Mi.ai f i).row) (F:=fun j=>V.ref (p.a (.blk j))) (fun j=>some (.int (Mi.ak f j).number)) hD (SqL.of h2) (cG (by omega)) ?_ ?_⟩
   ·intro j hj H' s' R R0 hR _
    have hj':=W2.row j hj
    have h3:=(S.same s').blk (bq hj' Mi.uq)
    refine ⟨rfl,?_⟩
    walk_at "w"
    exact hR _ _ (aV.refl _) rfl
   ·intro H1 s1 hD1
    rw [dZ] at hD1
    walk_at "u"
    refine ⟨p,f,_,i,rfl,S.same s1,W.w,hi,fun H2 s2=>?_⟩
    walk_at "u"
    refine ⟨p,f,i,rfl,(S.same s1).same s2,W.w.t2,hi,fun H3 s3=>?_⟩
    walk_at "v"
    refine ⟨p,f,_,i,rfl,((S.same s1).same s2).same s3,W.w,hi,fun H4 s4=>?_⟩
    have s14:aV H1 H4:=(s2.trans s3).trans s4
    refine ⟨by show 4<=sizeLine;decide,fun x hx=>?_⟩
    walk_at "v"
    have s5:aV H4 (upd H4 x (.lst [.int 0,.int (Mi.fF f (Mi.ai f i).row),.int (Mi.cE f [1,2] ((i:Int)+1)),.int (Mi.fw f (Mi.ai f i).row)])):=aM hx
    refine ⟨_,_,_,_,rfl,rfl,aj,s5 _ _ (s14 _ _ hD1),by rw [List.length_map,List.length_map];exact Nat.le_of_lt (cG (by show 4+_<=1000;omega)),fun z hz=>?_⟩
    have:=k.lay ((s1.trans s14).trans s5) hz
    rw [List.map_append] at this
    exact this
theorem pH (T:Txt K mg A):cD P w K mg base CX0 2 (A.f .cO) (A.fd .cO) (ps .cO) (gM A (fun f l=>Mi.fI f (6,l) []) fun c=>∃ t:Int,c=(6,[t])/\1<=t):=by
 refine (T.F .cO).ok j6 (fun vs H Q E h=>?_) (fun cdv Ar outer s H vs Q E hr h=>?_)
 ·obtain ⟨p,f,ca,c,rfl,_⟩:=h
  rfl
 ·obtain ⟨p,f,ca,c,rfl,S,W,RI,hn,hc,⟨t,rfl,t1⟩,k⟩:=h
  refine ⟨_,(ab (bC (i:=2) j6.nd rfl (Or.inl rfl) (cB bo (ae (pv 1) rfl) aB (fun _ _=>rfl)))
   (ab (cR (bB iZ (pv 2) (aP aD rfl T.dX PySem.boot_len (ah (ae (pv 0) rfl) af)) (cn _)) (ag (aG (bM (ah (bD rfl T.fZ) af)))) bE)
   (ab (bC (i:=3) j6.nd rfl (Or.inl rfl) (cB bo (ae (pv 0) rfl) (cS fR (pv 2) aB) (fun _ _=>rfl)))
   (ag (aG (bM (ah (bD rfl T.fj) (ah (ae (pv 3) rfl) (ah (ae (pv 3) rfl) (ah (aO (hZ T) hr rfl (T.g .cg rfl) (T.F .cg).kp (T.b .cg) (ah (pv 0) (ah (ki (ah (bD rfl T.jA) af)) (ah (ae (pv 3) rfl) af)))) af)))))))))),?_⟩
  obtain ⟨cdx,pa,ra,hca,hpa⟩:=hc
  have k:ie H (if (f.br.length:Int) < t then [-2] else [0,(Mi.bz f (t - 1).toNat).loads,(Mi.bz f (t - 1).toNat).bU,Mi.cE f [5] t]) Q:=k
  have h0:=S.fl
  walk_at "w"
  refine ⟨_,_,_,_,rfl,rfl,SqL.of hpa,bF (j:=0) rfl,?_⟩
  walk_at "v";walk_at "w"
  refine ⟨_,_,rfl,.inl (SqL.of S.pL),?_⟩
  rw [aI]
  walk_at "i";walk_at "v"
  refine dG (fun e1=>?_) (fun e1=>?_)
  ·have e1:(f.br.length:Int) < t:=of_decide_eq_true e1
   rw [if_pos e1] at k
   exact ⟨by show 1<=sizeLine;decide,fun x hx=>k.lay (aV.refl _) hx⟩
  ·have e1:¬(f.br.length:Int) < t:=fun z=>e1 (decide_eq_true z)
   rw [if_neg e1] at k
   walk_at "w";walk_at "v";walk_at "i"
   refine ⟨_,_,_,_,rfl,rfl,SqL.of S.pL,lG t1 (by omega),?_⟩
   have hi:(t - 1).toNat < f.br.length:=by omega
   have et:t=(((t - 1).toNat:Nat):Int)+1:=by omega
   generalize (t - 1).toNat=i at k hi et
   subst et
   have h1:=S.plc (bq hi Mi.qC)
   walk_at "w";walk_at "w";walk_at "v"
   refine ⟨by show 1<=sizeLine;decide,fun x hx=>?_⟩
   have s1:aV H (upd H x (.tup [.int 5])):=aM hx
   have S1:=S.same s1
   have h2:=S1.plc (bq hi Mi.qC)
   walk_at "w"
   refine ⟨p,f,_,[5],_,rfl,S1,W.w.t2,SqT.of aj,fun H2 s2=>?_⟩
   exact ⟨by show 4<=sizeLine;decide,fun y hy=>k.lay (s1.trans s2) hy⟩
theorem ny (T:Txt K mg A):cD P w K mg base CX0 1 (A.f .bX) (A.fd .bX) (ps .bX) (gM A (fun f l=>Mi.fI f (8,l) []) fun c=>∃ t:Int,c=(8,[t])/\1<=t):=by
 refine (T.F .bX).ok jF (fun vs H Q E h=>?_) (fun cdv Ar outer s H vs Q E hr h=>?_)
 ·obtain ⟨p,f,ca,c,rfl,_⟩:=h
  rfl
 ·obtain ⟨p,f,ca,c,rfl,S,W,RI,hn,hc,⟨t,rfl,t1⟩,k⟩:=h
  refine ⟨_,(ab (bC (i:=2) jF.nd rfl (Or.inl rfl) (cB bo (ae (pv 1) rfl) aB (fun _ _=>rfl)))
   (ab (cR (bB iZ (pv 2) (aP aD rfl T.dX PySem.boot_len (ah (ae (pv 0) rfl) af)) (cn _)) (ag (aG (bM (ah (bD rfl T.fZ) af)))) bE)
   (ag (aG (cS km (bM (ah (bD rfl T.fj) af)) (ae (cB bo (ae (pv 0) rfl) (cS fR (pv 2) aB) (fun _ _=>rfl)) rfl)))))),?_⟩
  obtain ⟨cdx,pa,ra,hca,hpa⟩:=hc
  have k:ie H (if (f.aq.length:Int) < t then [-2] else 0::(Mi.aa f (t - 1).toNat).cnt) Q:=k
  have h0:=S.fl
  walk_at "w"
  refine ⟨_,_,_,_,rfl,rfl,SqL.of hpa,bF (j:=0) rfl,?_⟩
  walk_at "v";walk_at "w"
  refine ⟨_,_,rfl,.inl (SqL.of S.tL),?_⟩
  rw [aI]
  walk_at "i";walk_at "v"
  refine dG (fun e1=>?_) (fun e1=>?_)
  ·have e1:(f.aq.length:Int) < t:=of_decide_eq_true e1
   rw [if_pos e1] at k
   exact ⟨by show 1<=sizeLine;decide,fun x hx=>k.lay (aV.refl _) hx⟩
  ·have e1:¬(f.aq.length:Int) < t:=fun z=>e1 (decide_eq_true z)
   rw [if_neg e1] at k
   refine ⟨by show 1<=sizeLine;decide,fun x hx=>?_⟩
   have s1:aV H (upd H x (.lst [.int 0])):=aM hx
   have S1:=S.same s1
   have h1:=S1.fl
   walk_at "w";walk_at "v";walk_at "i"
   refine ⟨_,_,_,_,rfl,rfl,SqL.of S1.tL,lG t1 (by omega),?_⟩
   have hi:(t - 1).toNat < f.aq.length:=by omega
   generalize (t - 1).toNat=i at k hi
   have h2:=S1.trk (bq hi Mi.fq)
   have h3:=S1.tc (bq hi Mi.fq)
   have c9:=(W.w.aa hi).cnt
   walk_at "f"
   refine ⟨_,_,_,_,rfl,rfl,aj,h3,by rw [List.length_map];show 1+(Mi.aa f i).cnt.length<=sizeLine;rw [c9];decide,fun y hy=>?_⟩
   exact k.lay s1 hy
theorem qJ (T:Txt K mg A):cD P w K mg base CX0 1 (A.f .dg) (A.fd .dg) (ps .dg) (gM A (fun f l=>Mi.fI f (9,l) []) fun c=>∃ t:Int,c=(9,[t])/\1<=t):=by
 refine (T.F .dg).ok m9 (fun vs H Q E h=>?_) (fun cdv Ar outer s H vs Q E hr h=>?_)
 ·obtain ⟨p,f,ca,c,rfl,_⟩:=h
  rfl
 ·obtain ⟨p,f,ca,c,rfl,S,W,RI,hn,hc,⟨t,rfl,t1⟩,k⟩:=h
  refine ⟨_,(ab (bC (i:=2) m9.nd rfl (Or.inl rfl) (cB bo (ae (pv 1) rfl) aB (fun _ _=>rfl)))
   (ab (cR (bB iZ (pv 2) (aP aD rfl T.dX PySem.boot_len (ah (ae (pv 0) rfl) af)) (cn _)) (ag (aG (bM (ah (bD rfl T.fZ) af)))) bE)
   (ag (aG (cS km (bM (ah (bD rfl T.fj) af)) (ae (cB bo (ae (pv 0) rfl) (cS fR (pv 2) aB) (fun _ _=>rfl)) rfl)))))),?_⟩
  obtain ⟨cdx,pa,ra,hca,hpa⟩:=hc
  have k:ie H (if (f.au.length:Int) < t then [-2] else 0::(Mi.ai f (t - 1).toNat).cnt) Q:=k
  have h0:=S.fl
  walk_at "w"
  refine ⟨_,_,_,_,rfl,rfl,SqL.of hpa,bF (j:=0) rfl,?_⟩
  walk_at "v";walk_at "w"
  refine ⟨_,_,rfl,.inl (SqL.of S.sL),?_⟩
  rw [aI]
  walk_at "i";walk_at "v"
  refine dG (fun e1=>?_) (fun e1=>?_)
  ·have e1:(f.au.length:Int) < t:=of_decide_eq_true e1
   rw [if_pos e1] at k
   exact ⟨by show 1<=sizeLine;decide,fun x hx=>k.lay (aV.refl _) hx⟩
  ·have e1:¬(f.au.length:Int) < t:=fun z=>e1 (decide_eq_true z)
   rw [if_neg e1] at k
   refine ⟨by show 1<=sizeLine;decide,fun x hx=>?_⟩
   have s1:aV H (upd H x (.lst [.int 0])):=aM hx
   have S1:=S.same s1
   have h1:=S1.fl
   walk_at "w";walk_at "v";walk_at "i"
   refine ⟨_,_,_,_,rfl,rfl,SqL.of S1.sL,lG t1 (by omega),?_⟩
   have hi:(t - 1).toNat < f.au.length:=by omega
   generalize (t - 1).toNat=i at k hi
   have h2:=S1.shv (bq hi Mi.fO)
   have h3:=S1.sc (bq hi Mi.fO)
   have c9:=(W.w.ai hi).cnt
   walk_at "f"
   refine ⟨_,_,_,_,rfl,rfl,aj,h3,by rw [List.length_map];show 1+(Mi.ai f i).cnt.length<=sizeLine;rw [c9];decide,fun y hy=>?_⟩
   exact k.lay s1 hy
theorem qK (T:Txt K mg A):cD P w K mg base CX0 4 (A.f .dh) (A.fd .dh) (ps .dh) (gM A (fun f l=>Mi.fI f (12,l) []) fun c=>∃ t:Int,c=(12,[t])/\0<=t):=by
 refine (T.F .dh).ok ma (fun vs H Q E h=>?_) (fun cdv Ar outer s H vs Q E hr h=>?_)
 ·obtain ⟨p,f,ca,c,rfl,_⟩:=h
  rfl
 ·obtain ⟨p,f,ca,c,rfl,S,W,RI,hn,hc,⟨t,rfl,t1⟩,k⟩:=h
  refine ⟨_,(ab (bC (i:=2) ma.nd rfl (Or.inl rfl) (cB bo (ae (pv 1) rfl) aB (fun _ _=>rfl)))
   (ab (cR (bB iZ (pv 2) (aP aD rfl T.dX PySem.boot_len (ah (ae (pv 0) rfl) af)) (cn _)) (ag (aG (bM (ah (bD rfl T.fZ) af)))) bE)
   (ag (aG (bM (ah (bD rfl T.fj) (ah (aO (ji T) hr rfl (T.g .bx rfl) (T.F .bx).kp (T.b .bx) (ah (pv 0) (ah (pv 2) af))) af))))))),?_⟩
  obtain ⟨cdx,pa,ra,hca,hpa⟩:=hc
  have k:ie H (if (f.br.length:Int) < t then [-2] else [0,Mi.chosen f t]) Q:=k
  have h0:=S.fl
  walk_at "w"
  refine ⟨_,_,_,_,rfl,rfl,SqL.of hpa,bF (j:=0) rfl,?_⟩
  walk_at "v";walk_at "w"
  refine ⟨_,_,rfl,.inl (SqL.of S.pL),?_⟩
  rw [aI]
  walk_at "i";walk_at "v"
  refine dG (fun e1=>?_) (fun e1=>?_)
  ·have e1:(f.br.length:Int) < t:=of_decide_eq_true e1
   rw [if_pos e1] at k
   exact ⟨by show 1<=sizeLine;decide,fun x hx=>k.lay (aV.refl _) hx⟩
  ·have e1:¬(f.br.length:Int) < t:=fun z=>e1 (decide_eq_true z)
   rw [if_neg e1] at k
   walk_at "u"
   refine ⟨p,f,_,t,rfl,S,W.w,t1,by omega,fun H1 s1=>?_⟩
   exact ⟨by show 2<=sizeLine;decide,fun x hx=>k.lay s1 hx⟩
theorem rZ (T:Txt K mg A):cD P w K mg base CX0 2 (A.f .dN) (A.fd .dN) (ps .dN) (gM A (fun f l=>Mi.fI f (17,l) []) fun c=>c=(17,[])):=by
 refine (T.F .dN).ok jZ (fun vs H Q E h=>?_) (fun cdv Ar outer s H vs Q E hr h=>?_)
 ·obtain ⟨p,f,ca,c,rfl,_⟩:=h
  rfl
 ·obtain ⟨p,f,ca,c,rfl,S,W,RI,hn,hc,rfl,k⟩:=h
  refine ⟨_,(ab (bC (i:=2) jZ.nd rfl (Or.inl rfl) (bM (ah (aP aD rfl T.dX PySem.boot_len (ah (ae (pv 0) rfl) af)) (ah (aP aD rfl T.dX PySem.boot_len (ah (ae (pv 0) rfl) af)) (ah (aP aD rfl T.dX PySem.boot_len (ah (ae (pv 0) rfl) af)) af)))))
   (ab (bC (i:=3) jZ.nd rfl (Or.inl rfl) (bM (ah (aP aD rfl T.dX PySem.boot_len (ah (ae (pv 0) rfl) af)) (ah (aO (ib T) hr rfl (T.g .aZ rfl) (T.F .aZ).kp (T.b .aZ) (ah (pv 0) af)) (ah (aO (fi T) hr rfl (T.g .az rfl) (T.F .az).kp (T.b .az) (ah (pv 0) af)) af)))))
   (ag (aG (cS km (cS km (cS km (bM (ah (bD rfl T.fj) (ah (ae (pv 0) rfl) af))) (pv 2)) (bM (ah (ae (pv 0) rfl) af))) (pv 3)))))),?_⟩
  have k:ie H [0,f.minute,(f.aq.length:Int),(f.au.length:Int),(f.br.length:Int),f.rule,(f.book.length:Int),Mi.cf f,Mi.without f] Q:=k
  have h0:=S.fl
  have z1:f.br.length<=1000:=by have:=W.w.p2;omega
  have z2:f.au.length<=1000:=by have:=W.w.s2;omega
  have z3:∀ s ∈ f.au,s.cnt.length=4:=fun q hq=>(W.w.shv q hq).cnt
  walk_at "w"
  refine ⟨_,_,rfl,.inl (SqL.of S.tL),?_⟩
  walk_at "w"
  refine ⟨_,_,rfl,.inl (SqL.of S.sL),?_⟩
  walk_at "w"
  refine ⟨_,_,rfl,.inl (SqL.of S.pL),?_⟩
  rw [aI,aI,aI]
  refine ⟨by show 3<=sizeLine;decide,fun x hx=>?_⟩
  have s1:aV H (upd H x (.lst [.int (f.aq.length:Int),.int (f.au.length:Int),.int (f.br.length:Int)])):=aM hx
  have hx1:=@aj H x (.lst [.int (f.aq.length:Int),.int (f.au.length:Int),.int (f.br.length:Int)])
  revert s1 hx1
  generalize upd H x (.lst [.int (f.aq.length:Int),.int (f.au.length:Int),.int (f.br.length:Int)])=H1
  intro s1 hx1
  have S1:=S.same s1
  have h1:=S1.fl
  walk_at "w"
  refine ⟨_,_,rfl,.inl (SqL.of S1.book),?_⟩
  rw [aI]
  walk_at "v"
  refine ⟨p,f,rfl,S1,z1,z2,z3,fun H2 s2=>?_⟩
  walk_at "v"
  refine ⟨p,f,rfl,S1.same s2,z1,z2,z3,fun H3 s3=>?_⟩
  have s13:aV H1 H3:=s2.trans s3
  refine ⟨by show 3<=sizeLine;decide,fun y hy=>?_⟩
  have s4:aV H3 (upd H3 y (.lst [.int (f.book.length:Int),.int (Mi.cf f),.int (Mi.without f)])):=aM hy
  have hy4:=@aj H3 y (.lst [.int (f.book.length:Int),.int (Mi.cf f),.int (Mi.without f)])
  revert s4 hy4
  generalize upd H3 y (.lst [.int (f.book.length:Int),.int (Mi.cf f),.int (Mi.without f)])=H4
  intro s4 hy4
  have S4:=(S1.same s13).same s4
  have h4:=S4.fl
  have hx4:=s4 _ _ (s13 _ _ hx1)
  walk_at "w"
  refine ⟨by show 2<=sizeLine;decide,fun a ha=>?_⟩
  have s5:aV H4 (upd H4 a (.lst [.int 0,.int f.minute])):=aM ha
  have ha5:=@aj H4 a (.lst [.int 0,.int f.minute])
  revert s5 ha5
  generalize upd H4 a (.lst [.int 0,.int f.minute])=H5
  intro s5 ha5
  walk_at "v"
  refine ⟨_,_,_,_,rfl,rfl,ha5,s5 _ _ hx4,by show 2+3<=sizeLine;decide,fun b hb=>?_⟩
  have s6:aV H5 (upd H5 b (.lst ([.int 0,.int f.minute]++[.int (f.aq.length:Int),.int (f.au.length:Int),.int (f.br.length:Int)]))):=aM hb
  have hb6:=@aj H5 b (.lst ([.int 0,.int f.minute]++[.int (f.aq.length:Int),.int (f.au.length:Int),.int (f.br.length:Int)]))
  revert s6 hb6
  generalize upd H5 b (.lst ([.int 0,.int f.minute]++[.int (f.aq.length:Int),.int (f.au.length:Int),.int (f.br.length:Int)]))=H6
  intro s6 hb6
  have h6:=((S4.same s5).same s6).fl
  walk_at "w"
  refine ⟨by show 1<=sizeLine;decide,fun d hd=>?_⟩
  have s7:aV H6 (upd H6 d (.lst [.int f.rule])):=aM hd
  refine ⟨_,_,_,_,rfl,rfl,s7 _ _ hb6,aj,by show 5+1<=sizeLine;decide,fun e he=>?_⟩
  walk_at "v"
  refine ⟨_,_,_,_,rfl,rfl,aj,(aM he) _ _ (s7 _ _ (s6 _ _ (s5 _ _ hy4))),by show 6+3<=sizeLine;decide,fun g hg=>?_⟩
  exact k.lay ((((((s1.trans s13).trans s4).trans s5).trans s6).trans s7).trans (aM he)) hg
end
section
variable {P:Program} {w:World} {K:PySem.W.Frag} {mg:Str->Option Value} {base:Heap} {A:Ad}
theorem pM {α:Type} (g:α->Option Int) (l:List α):l.filterMap (fun y=>(g y).map V.int)=(l.filterMap g).map V.int:=by
 induction l with
 | nil=>rfl
 | cons a r ih=>cases h:g a<;>simp [h,ih]
theorem wM {α β:Type} (q:α->Option β) (d:α):∀ l:List α,((List.range l.length).filterMap fun i=>q (l.getD i d))=l.filterMap q:=by
 intro l
 have h:=e9 (fun x:α=>x) d l
 rw [List.map_id'] at h
 conv=>rhs;rw [<-h]
 rw [List.filterMap_map];rfl
theorem nz (T:Txt K mg A):cD P w K mg base CX0 2 (A.f .bY) (A.fd .bY) (ps .bY) (gM A (fun f l=>Mi.fI f (10,l) []) fun c=>c=(10,[])):=by
 refine (T.F .bY).ok dc (fun vs H Q E h=>?_) (fun cdv Ar outer s H vs Q E hr h=>?_)
 ·obtain ⟨p,f,ca,c,rfl,_⟩:=h
  rfl
 ·obtain ⟨p,f,ca,c,rfl,S,W,RI,hn,hc,rfl,k⟩:=h
  refine ⟨_,(ab (bC (i:=2) dc.nd rfl (Or.inl rfl) (aP (kJ rfl) rfl T.mm boot_sum (ah (iY (g:=(gf 3)) (tt:=m6) (te:=(jW K (gm 3) "kilograms")) rfl dc.nd (dn (ae (pv 0) rfl)) (eZ (own:=[("block",3)]) (by rfl)) (fun _ _ _ _ _=>(bW (i:=3) dc.nd rfl (Or.inl rfl))) (fun _ _ _ _ _=>fY) (fun _ _ _ _ _=>(ae (pv 3) rfl))) af)))
   (ab (bC (i:=4) dc.nd rfl (Or.inl rfl) (aP (kJ rfl) rfl T.mm boot_sum (ah (iY (g:=(gf 5)) (tt:=m6) (te:=(Av (iu K A) (jX (gm 5) pB))) rfl dc.nd (dn (ae (pv 0) rfl)) (eZ (own:=[("shovel",5)]) (by rfl)) (fun _ _ _ _ _=>(bW (i:=5) dc.nd rfl (Or.inl rfl))) (fun _ _ _ _ _=>fY) (fun _ _ _ _ _=>(aO (iA T) hr rfl (T.g .aL rfl) (T.F .aL).kp (T.b .aL) (ah (pv 5) af)))) af)))
   (ab (bC (i:=6) dc.nd rfl (Or.inl rfl) (aP (kJ rfl) rfl T.mm boot_sum (ah (iY (g:=(gf 7)) (tt:=(tB (yS (jW K (gm 7) "load")))) (te:=(jW K (jW K (gm 7) "load") "kilograms")) rfl dc.nd (dn (ae (pv 0) rfl)) (eZ (own:=[("truck",7)]) (by rfl)) (fun _ _ _ _ _=>(bW (i:=7) dc.nd rfl (Or.inl rfl))) (fun _ _ _ _ _=>(uE (mK (qG (ae (pv 7) rfl))))) (fun _ _ _ _ _=>(ae (ae (pv 7) rfl) rfl))) af)))
   (ag (aG (bM (ah (bD rfl T.fj) (ah (pv 2) (ah (pv 4) (ah (pv 6) (ah (aO (iz T) hr rfl (T.g .aK rfl) (T.F .aK).kp (T.b .aK) (ah (pv 0) af)) af))))))))))),?_⟩
  have k:ie H [0,(f.aA.map (·.bU)).sum,(f.au.map fun s=>Mi.fw f s.row).sum,Mi.carried f,Mi.dt f] Q:=k
  have h0:=S.fl
  have b20:=W.w.b20
  have t8:=W.w.t2
  have s3:=W.w.s2
  have z1:f.br.length<=1000:=by have:=W.w.p2;omega
  have z2:f.au.length<=1000:=by omega
  have z3:∀ s ∈ f.au,s.cnt.length=4:=fun q hq=>(W.w.shv q hq).cnt
  walk_at "w"
  refine ⟨_,rfl,⟨_,SqL.of S.bL⟩,fun D hD=>gq (K:=K) (l:=List.range f.aA.length) (F:=fun i=>V.ref (p.a (.blk i))) (fun i=>some (.int (Mi.ak f i).bU)) hD (SqL.of S.bL) (by rw [List.length_range];exact cG (by omega)) ?_ ?_⟩
  ·intro i hi H' s' R' R0 hR _
   have hi':i < f.aA.length:=List.mem_range.mp hi
   have h2:=(S.same s').blk (bq hi' Mi.uq)
   refine ⟨rfl,?_⟩
   walk_at "w"
   exact hR _ _ (aV.refl _) rfl
  ·intro H1 s1 hD1
   rw [dZ] at hD1
   have en:(List.range f.aA.length).map (fun i=>(Mi.ak f i).bU)=f.aA.map (·.bU):=by
    unfold Mi.ak;exact e9 (fun (q:Mi.Blk)=>q.bU) _ _
   rw [en] at hD1
   refine ⟨_,_,rfl,SqL.of hD1,?_⟩
   have S1:=S.same s1
   have h1:=S1.fl
   walk_at "w"
   refine ⟨_,rfl,⟨_,SqL.of S1.sL⟩,fun D2 hD2=>gq (K:=K) (l:=List.range f.au.length) (F:=fun i=>V.ref (p.a (.shv i))) (fun i=>some (.int (Mi.fw f (Mi.ai f i).row))) hD2 (SqL.of S1.sL) (by rw [List.length_range];exact cG (by omega)) ?_ ?_⟩
   ·intro i hi H' s' R' R0 hR _
    have hi':i < f.au.length:=List.mem_range.mp hi
    refine ⟨rfl,?_⟩
    walk_at "v"
    exact ⟨p,f,_,i,rfl,S1.same s',W.w,hi',fun H'' s''=>hR _ _ s'' rfl⟩
   ·intro H2 s2 hD2'
    rw [dZ] at hD2'
    have en2:(List.range f.au.length).map (fun i=>Mi.fw f (Mi.ai f i).row)=f.au.map fun s=>Mi.fw f s.row:=by
     unfold Mi.ai;exact e9 (fun (q:Mi.Shv)=>Mi.fw f q.row) _ _
    rw [en2] at hD2'
    refine ⟨_,_,rfl,SqL.of hD2',?_⟩
    have S2:=S1.same s2
    have h2:=S2.fl
    walk_at "w"
    refine ⟨_,rfl,⟨_,SqL.of S2.tL⟩,fun D3 hD3=>gq (K:=K) (l:=List.range f.aq.length) (F:=fun i=>V.ref (p.a (.trk i))) (fun i=>((Mi.aa f i).load.map (·.2)).map V.int) hD3 (SqL.of S2.tL) (by rw [List.length_range];exact cG (by omega)) ?_ ?_⟩
    ·intro i hi H' s' R' R0 hR hR0
     have hi':i < f.aq.length:=List.mem_range.mp hi
     have ht:f.aq[i]? = some (Mi.aa f i):=bq hi' _
     have h3:=(S2.same s').trk ht
     refine ⟨rfl,?_⟩
     cases e:(Mi.aa f i).load with
     | none=>
       rw [e] at h3
       walk_at "w";walk_at "v"
       exact hR0 _ (aV.refl _) (by rw [e];rfl)
     | some l=>
       have h4:=(S2.same s').ld ht e
       rw [e] at h3
       walk_at "w";walk_at "v"
       walk_at "w";walk_at "f"
       exact hR _ _ (aV.refl _) (by rw [e];rfl)
    ·intro H3 s3' hD3'
     rw [pM] at hD3'
     have en3:(List.range f.aq.length).filterMap (fun i=>(Mi.aa f i).load.map (·.2))=f.aq.filterMap fun t=>t.load.map (·.2):=by
      unfold Mi.aa;exact wM (fun (q:Mi.Trk)=>q.load.map (·.2)) _ _
     rw [en3] at hD3'
     refine ⟨_,_,rfl,SqL.of hD3',?_⟩
     walk_at "u";walk_at "u"
     refine ⟨p,f,rfl,S2.same s3',z1,z2,z3,fun H4 s4=>?_⟩
     exact ⟨by show 5<=sizeLine;decide,fun x hx=>k.lay (((s1.trans s2).trans s3').trans s4) hx⟩
structure rn (H H':Hp) (x:Addr) (l:List Int):Prop where
 at_:H' x=some (.lst (l.map V.int))
 same:aV H H'
 free:H x=none
theorem rn.ext {H H':Hp} {x:Addr} {l m:List Int} (g:rn H H' x l):rn H (upd H' x (.lst ((l++m).map V.int))) x (l++m):=
 ⟨aj,fun b u e=>by rw [ax (cC e g.free)];exact g.same b u e,g.free⟩
theorem oz (T:Txt K mg A):cD P w K mg base CX0 1 (A.f .cv) (A.fd .cv) (ps .cv) (gM A (fun f l=>Mi.fI f (11,l) []) fun c=>c=(11,[])):=by
 refine (T.F .cv).ok iL (fun vs H Q E h=>?_) (fun cdv Ar outer s H vs Q E hr h=>?_)
 ·obtain ⟨p,f,ca,c,rfl,_⟩:=h
  rfl
 ·obtain ⟨p,f,ca,c,rfl,S,W,RI,hn,hc,rfl,k⟩:=h
  refine ⟨_,(ab (bC (i:=2) iL.nd rfl (Or.inl rfl) (bM (ah (bD rfl T.fj) af)))
   (ab (fh PassesOwn.never rfl (dn (ae (pv 0) rfl)) (bW (i:=3) iL.nd rfl (Or.inl rfl))
   (ag (cH (jI PySem.F.plainAttrs_list PySem.F.slot_list_extend PySem.F.type_list_extend mR (pv 2) (ah (bM (ah (ae (pv 3) rfl) (ah (ae (pv 3) rfl) (ah (ae (pv 3) rfl) (ah (ae (pv 3) rfl) af))))) af)))))
   (ag (aG (pv 2))))),?_⟩
  have k:ie H (0::f.aA.flatMap fun b=>[b.number,b.bU,b.tipped,b.place]) Q:=k
  have b20:=W.w.b20
  refine ⟨by show 1<=sizeLine;decide,fun x hx=>?_⟩
  have g0:rn H (upd H x (.lst [.int 0])) x [0]:=⟨aj,aM hx,hx⟩
  have S0:=S.same g0.same
  have h0:=S0.fl
  walk_at "w"
  have flen:∀ i,((f.aA.take i).flatMap fun (b:Mi.Blk)=>[b.number,b.bU,b.tipped,b.place]).length<=4*i:=fun i=>by
   have:∀ l:List Mi.Blk,(l.flatMap fun (b:Mi.Blk)=>[b.number,b.bU,b.tipped,b.place]).length=4*l.length:=fun l=>by
    induction l with
    | nil=>rfl
    | cons a r ih=>simp only [List.flatMap_cons,List.length_append,ih,List.length_cons,List.length_nil];omega
   rw [this,List.length_take];omega
  refine ⟨_,rfl,⟨_,SqL.of S0.bL⟩,eW (K:=K) (xs:=refs p .blk f.aA.length) (fun i σ H'=>∃ (v:Option V),σ=[some (.ref (p.a .fl)),some (.ref ca),some (.ref x),v]/\rn H H' x (0::(f.aA.take i).flatMap fun b=>[b.number,b.bU,b.tipped,b.place]))
   ⟨none,rfl,g0⟩ (fun i σ H' _ ⟨_,_,g⟩=>SqL.of (S.same g.same).bL) ?_ ?_⟩
  ·rintro i y σ H1 hi ⟨v,rfl,g⟩
   obtain ⟨hi',rfl⟩:=f7 hi
   have hb:f.aA[i]? = some (Mi.ak f i):=bq hi' _
   have h1:=(S.same g.same).blk hb
   have et:(f.aA.take (i+1))=f.aA.take i++[Mi.ak f i]:=by rw [List.take_add_one,hb];rfl
   walk_at "v"
   refine ⟨.inl ⟨rfl,_,SqL.of g.at_⟩,?_⟩
   walk_at "w";walk_at "w";walk_at "w";walk_at "w"
   refine ⟨by show 4<=sizeLine;decide,fun z hz=>?_⟩
   have zx:x≠z:=fun q=>by rw [<-q,g.at_] at hz;cases hz
   have g1:rn H (upd H1 z (.lst [.int (Mi.ak f i).number,.int (Mi.ak f i).bU,.int (Mi.ak f i).tipped,.int (Mi.ak f i).place])) x (0::(f.aA.take i).flatMap fun b=>[b.number,b.bU,b.tipped,b.place]):=
    ⟨by rw [ax zx];exact g.at_,g.same.trans (aM hz),g.free⟩
   refine ⟨_,_,_,_,rfl,rfl,g1.at_,aj,?_,?_⟩
   ·rw [List.length_map,List.length_cons]
    have:=flen i
    exact Nat.le_of_lt (cG (by show _+4<=1000;omega))
   ·have g2:=g1.ext (m:=[(Mi.ak f i).number,(Mi.ak f i).bU,(Mi.ak f i).tipped,(Mi.ak f i).place])
    refine ⟨_,rfl,?_⟩
    rw [et,List.flatMap_append]
    have e2:(0::((f.aA.take i).flatMap (fun b=>[b.number,b.bU,b.tipped,b.place])++[Mi.ak f i].flatMap fun b=>[b.number,b.bU,b.tipped,b.place]))=(0::(f.aA.take i).flatMap fun b=>[b.number,b.bU,b.tipped,b.place])++[(Mi.ak f i).number,(Mi.ak f i).bU,(Mi.ak f i).tipped,(Mi.ak f i).place]:=by simp
    rw [e2]
    rw [List.map_append] at g2
    exact g2
  ·rintro σ H1 ⟨v,rfl,g⟩
   rw [aI,List.take_length] at g
   walk_at "v"
   exact k H1 x g.free g.at_ g.same
theorem A3 {p:Pl} {n:Nat} {k:Nat} {i:Nat} {v:V} (h:(kI (refs p .line n) (some ((k:Nat):Int)) (some (((k:Nat):Int)+50)))[i]? = some v):k+i < n/\i < 50/\v=V.ref (p.a (.line (k+i))):=by
 have e50:((k:Nat):Int)+50=((k+50:Nat):Int):=by omega
 unfold kI at h
 rw [aI,e50,HT.iX,HT.iX] at h
 have hl:=(List.getElem?_eq_some_iff.mp h).1
 rw [List.length_take,List.length_drop,aI] at hl
 rw [List.getElem?_take_of_lt (by omega),List.getElem?_drop] at h
 have hk:min k n=k:=by omega
 rw [hk] at h
 obtain ⟨h1,h2⟩:=f7 h
 exact ⟨h1,by omega,h2⟩
theorem yK {p:Pl} {n:Nat} {k:Nat}:(kI (refs p .line n) (some ((k:Nat):Int)) (some (((k:Nat):Int)+50))).length=min 50 (n - k):=by
 have e50:((k:Nat):Int)+50=((k+50:Nat):Int):=by omega
 unfold kI
 rw [aI,e50,HT.iX,HT.iX,List.length_take,List.length_drop,aI]
 omega
theorem qL (T:Txt K mg A):cD P w K mg base CX0 1 (A.f .di) (A.fd .di) (ps .di) (gM A (fun f l=>Mi.fI f (7,l) []) fun c=>∃ t:Int,c=(7,[t])/\0<=t):=by
 refine (T.F .di).ok iC (fun vs H Q E h=>?_) (fun cdv Ar outer s H vs Q E hr h=>?_)
 ·obtain ⟨p,f,ca,c,rfl,_⟩:=h
  rfl
 ·obtain ⟨p,f,ca,c,rfl,S,W,RI,hn,hc,⟨t,rfl,t0⟩,k⟩:=h
  refine ⟨_,(ab (bC (i:=2) iC.nd rfl (Or.inl rfl) (cB bo (ae (pv 1) rfl) aB (fun _ _=>rfl)))
   (ab (bC (i:=3) iC.nd rfl (Or.inl rfl) (bM (ah (bD rfl T.fj) af)))
   (ab (fh PassesOwn.never rfl (dn (ow qv (ae (pv 0) rfl) (kO (pv 2)) (kO (cS gU (pv 2) (bD rfl T.jO))))) (bW (i:=4) iC.nd rfl (Or.inl rfl))
   (ag (cH (jI PySem.F.plainAttrs_list PySem.F.slot_list_extend PySem.F.type_list_extend mR (pv 3) (ah (pv 4) af)))))
   (ag (aG (pv 3)))))),?_⟩
  obtain ⟨cdx,pa,ra,hca,hpa⟩:=hc
  have k:ie H (0::((f.book.drop t.toNat).take 50).flatten) Q:=k
  obtain ⟨b,rfl⟩:∃ b:Nat,t=(b:Int):=⟨t.toNat,by omega⟩
  have k:ie H (0::((f.book.drop b).take 50).flatten) Q:=k
  walk_at "w"
  refine ⟨_,_,_,_,rfl,rfl,SqL.of hpa,bF (j:=0) rfl,?_⟩
  refine ⟨by show 1<=sizeLine;decide,fun x hx=>?_⟩
  have g0:rn H (upd H x (.lst [.int 0])) x [0]:=⟨aj,aM hx,hx⟩
  have S0:=S.same g0.same
  have h0:=S0.fl
  walk_at "w";walk_at "u";walk_at "v";walk_at "i";walk_at "v"
  refine ⟨_,_,rfl,SqL.of S0.book,fun y hy=>?_⟩
  have hy':H y=none:=g0.same.free hy
  have xy:x≠y:=fun z=>by rw [<-z,aj] at hy;cases hy
  have g1:rn H (upd (upd H x (.lst [.int 0])) y (.lst (kI (refs p .line f.book.length) (some ((b:Nat):Int)) (some (((b:Nat):Int)+50))))) x [0]:=⟨by rw [ax xy];exact aj,g0.same.trans (aM hy),hx⟩
  have hy1:(upd (upd H x (.lst [.int 0])) y (.lst (kI (refs p .line f.book.length) (some ((b:Nat):Int)) (some (((b:Nat):Int)+50))))) y=some _:=aj
  revert g1 hy1
  generalize (upd (upd H x (.lst [.int 0])) y (.lst (kI (refs p .line f.book.length) (some ((b:Nat):Int)) (some (((b:Nat):Int)+50)))))=H1
  intro g1 hy1
  have hl6:∀ l ∈ (f.book.drop b).take 50,l.length=6:=fun l hl=>W.w.ln l (List.mem_of_mem_drop (List.mem_of_mem_take hl))
  have flen:∀ i,(((f.book.drop b).take 50).take i).flatten.length<=6*50:=fun i=>by
   have key:∀ (l:List (List Int)),(∀ u ∈ l,u.length=6)->l.flatten.length=6*l.length:=fun l=>by
    induction l with
    | nil=>intro _;rfl
    | cons a r ih=>intro h;rw [List.flatten_cons,List.length_append,ih (fun u hu=>h u (by simp [hu])),h a (by simp),List.length_cons];omega
   rw [key _ (fun u hu=>hl6 u (List.mem_of_mem_take hu)),List.length_take,List.length_take];omega
  refine ⟨_,rfl,⟨_,SqL.of hy1⟩,eW (K:=K) (xs:=kI (refs p .line f.book.length) (some ((b:Nat):Int)) (some (((b:Nat):Int)+50))) (fun i σ H'=>∃ (v:Option V),σ=[some (.ref (p.a .fl)),some (.ref ca),some (.int (b:Int)),some (.ref x),v]/\rn H H' x (0::(((f.book.drop b).take 50).take i).flatten)/\H' y=some (.lst (kI (refs p .line f.book.length) (some ((b:Nat):Int)) (some (((b:Nat):Int)+50)))))
   ⟨none,rfl,g1,hy1⟩ (fun i σ H' _ ⟨_,_,_,h⟩=>SqL.of h) ?_ ?_⟩
  ·rintro i z σ H2 hi ⟨v,rfl,g,hy2⟩
   obtain ⟨hb1,hb2,rfl⟩:=A3 hi
   obtain ⟨ln,hln⟩:∃ ln,f.book[b+i]? = some ln:=⟨_,List.getElem?_eq_getElem hb1⟩
   have h1:=(S.same g.same).line hln
   have l6:=W.w.ln ln (List.mem_of_getElem? hln)
   have hd:((f.book.drop b).take 50)[i]? = some ln:=by rw [List.getElem?_take_of_lt hb2,List.getElem?_drop];exact hln
   have et:((f.book.drop b).take 50).take (i+1)=((f.book.drop b).take 50).take i++[ln]:=by rw [List.take_add_one,hd];rfl
   walk_at "v"
   refine ⟨.inl ⟨rfl,_,SqL.of g.at_⟩,?_⟩
   walk_at "v"
   refine ⟨_,_,_,_,rfl,rfl,g.at_,h1,?_,?_⟩
   ·rw [List.length_map,List.length_map,List.length_cons]
    have:=flen i
    exact Nat.le_of_lt (cG (by omega))
   ·have g2:=g.ext (m:=ln)
    rw [List.map_append] at g2
    refine ⟨_,rfl,?_,by rw [ax (Ne.symm xy)];exact hy2⟩
    rw [et,List.flatten_append]
    have e2:(0::((((f.book.drop b).take 50).take i).flatten++[ln].flatten))=(0::(((f.book.drop b).take 50).take i).flatten)++ln:=by simp
    rw [e2];exact g2
  ·rintro σ H2 ⟨v,rfl,g,hy2⟩
   rw [yK] at g
   have e3:((f.book.drop b).take 50).take (min 50 (f.book.length - b))=(f.book.drop b).take 50:=by
    apply List.take_of_length_le
    rw [List.length_take,List.length_drop];omega
   rw [e3] at g
   walk_at "v"
   exact k H2 x g.free g.at_ g.same
end
section
variable {P:Program} {w:World} {K:PySem.W.Frag} {mg:Str->Option Value} {base:Heap} {A:Ad}
structure jR (A:Ad) (H:Hp) (ca:Addr) (c:Int×List Int) (rows:List (List Int)) (ra:Addr) (ras:List Addr):Prop where
 at_:∃ dx pa,H ca=some (.ins (A.c .Call) dx (kM c.1 pa ra))/\H pa=some (.lst (c.2.map V.int))
 rw_:H ra=some (.lst (ras.map V.ref))
 len:ras.length=rows.length
 row:∀ (j:Nat) (a:Addr) (l:List Int),ras[j]? = some a->rows[j]? = some l->H a=some (.lst (l.map V.int))
theorem jR.call {H:Hp} {ca ra:Addr} {c:Int×List Int} {rows:List (List Int)} {ras:List Addr} (h:jR A H ca c rows ra ras):jE A H ca c:=by
 obtain ⟨dx,pa,h1,h2⟩:=h.at_
 exact ⟨dx,pa,ra,h1,h2⟩
theorem jR.same {H H':Hp} {ca ra:Addr} {c:Int×List Int} {rows:List (List Int)} {ras:List Addr} (h:jR A H ca c rows ra ras) (s:aV H H'):jR A H' ca c rows ra ras:=by
 obtain ⟨dx,pa,h1,h2⟩:=h.at_
 exact ⟨⟨dx,pa,s _ _ h1,s _ _ h2⟩,s _ _ h.rw_,h.len,fun j a l e1 e2=>s _ _ (h.row j a l e1 e2)⟩
theorem sN:∀ a b:List Int,PyData.eqvAll (a.map PyData.int) (b.map PyData.int)=decide (a=b)
 | [],[]=>rfl
 | [],b::bs=>rfl
 | a::as,[]=>rfl
 | a::as,b::bs=>by
   show (PyData.eqv (.int a) (.int b)&&PyData.eqvAll (as.map PyData.int) (bs.map PyData.int))=_
   rw [sN as bs]
   show ((a==b)&&decide (as=bs))=_
   by_cases e:a=b<;>by_cases e2:as=bs<;>simp [e,e2]
theorem qZ {H:Hp}:∀ l:List Int,pq K H (l.map V.int) (l.map PyData.int)
 | []=>.nil
 | a::l=>.cons (.int a) (qZ l)
theorem lay_ints:∀ l:List Int,PyData.canLayAll0 (l.map PyData.int)=true
 | []=>rfl
 | a::r=>by
   show (PyData.canLay0 (.int a)&&PyData.canLayAll0 (r.map PyData.int))=true
   rw [lay_ints r];rfl
theorem ph:∀ l:List Int,PyData.depthAll (l.map PyData.int)<=1
 | []=>Nat.zero_le _
 | a::r=>by
   show max (PyData.depth (.int a)) (PyData.depthAll (r.map PyData.int))<=1
   have:=ph r
   have e:PyData.depth (.int a)=0:=rfl
   omega
theorem shaped_ints (l:List Int):SeqAt.shaped (.list (l.map PyData.int))=true:=by
 unfold SeqAt.shaped
 have h1:PyData.canLay0 (.list (l.map PyData.int))=true:=lay_ints l
 have h2:PyData.depth (.list (l.map PyData.int))<=64:=by
  have:=ph l
  show PyData.depthAll (l.map PyData.int)+1<=64
  omega
 rw [h1,decide_eq_true h2];rfl
noncomputable def yg (A:Ad):Sp:=fun vs H Q _=>∃ (p:Pl) (f:Mi.Flt) (ca ra:Addr) (ras:List Addr) (l:List Int),vs=[.ref (p.a .fl),.ref ca]/\dA A p f H/\Mi.WI f/\jR A H ca (13,[]) [l] ra ras/\l.length<=600/\ie H (Mi.fI f (13,[]) [l]) Q
theorem pK (T:Txt K mg A):cD P w K mg base CX0 1 (A.f .cQ) (A.fd .cQ) (ps .cQ) (yg A):=by
 refine (T.F .cQ).ok gZ (fun vs H Q E h=>?_) (fun cdv Ar outer s H vs Q E hr h=>?_)
 ·obtain ⟨p,f,ca,ra,ras,l,rfl,_⟩:=h
  rfl
 ·obtain ⟨p,f,ca,ra,ras,l,rfl,S,W,hc,l6,k⟩:=h
  refine ⟨_,(ab (bC (i:=2) gZ.nd rfl (Or.inl rfl) (cB bo (ae (pv 1) rfl) aB (fun _ _=>rfl)))
   (ab (cR (bB uL (cS zN (aP aD rfl T.dX PySem.boot_len (ah (pv 2) af)) (bD rfl T.fB)) aB (cn _)) (ag (aG (bM (ah (bD rfl T.jb) af)))) bE)
   (ab (fh PassesOwn.never rfl (kP rfl T.kQ (ah (cS uN (aP aD rfl T.dX PySem.boot_len (ah (pv 2) af)) (bD rfl T.fB)) af)) (bW (i:=3) gZ.nd rfl (Or.inl rfl))
   (ab (bC (i:=4) gZ.nd rfl (Or.inl rfl) (ow qv (pv 2) (kO (cS mL (pv 3) (bD rfl T.fB))) (kO (cS mL (cS gU (pv 3) aB) (bD rfl T.fB)))))
   (ag (cR (PW.pt (rT (bB AJ (pv 3) (aP aD rfl T.dX PySem.boot_len (ah (ae (pv 0) rfl) af)) (cn _)) (qB (bB (zM hr.units) (pv 4) (cB bo (ae (pv 0) rfl) (pv 3) (fun _ _=>rfl)) (cn _))))) (ag (aG (bM (ah (bD rfl T.fj) (ah aB (ah (pv 3) af)))))) bE))))
   (ag (aG (bM (ah (bD rfl T.fj) (ah aB af)))))))),?_⟩
  have k:ie H (if l.length % 6≠0 then [-7] else Mi.fH f l (l.length / 6) 0) Q:=k
  obtain ⟨dx,pa,h1,h2⟩:=hc.at_
  obtain ⟨a0,ha0⟩:∃ a0,ras[0]? = some a0:=⟨_,List.getElem?_eq_getElem (by rw [hc.len];exact Nat.zero_lt_one)⟩
  have hl:=hc.row 0 a0 l ha0 rfl
  walk_at "w"
  refine ⟨_,_,_,_,rfl,rfl,SqL.of hc.rw_,bF (j:=0) (v:=V.ref a0) (by rw [List.getElem?_map,ha0];rfl),?_⟩
  walk_at "v"
  refine ⟨_,_,rfl,.inl (SqL.of hl),?_⟩
  rw [List.length_map]
  refine ⟨_,_,rfl,rfl,by show (0:Int) < 6;decide,?_⟩
  refine ⟨rfl,?_⟩
  walk_at "v"
  refine dG (fun e1=>?_) (fun e1=>?_)
  ·have e1:l.length % 6≠0:=fun z=>by
    have e2:decide (V.int (((l.length:Nat):Int) % 6)=V.int 0)=true:=decide_eq_true (congrArg V.int (by omega))
    rw [e2] at e1;cases e1
   rw [if_pos e1] at k
   exact ⟨by show 1<=sizeLine;decide,fun x hx=>k.lay (aV.refl _) hx⟩
  ·have e1:¬l.length % 6≠0:=fun z=>e1 (by
    have e2:decide (V.int (((l.length:Nat):Int) % 6)=V.int 0)=false:=decide_eq_false (fun q=>by injection q with q;omega)
    rw [e2];rfl)
   rw [if_neg e1] at k
   walk_at "v"
   refine ⟨_,_,rfl,.inl (SqL.of hl),?_⟩
   rw [List.length_map]
   refine ⟨_,_,rfl,rfl,⟨by show (0:Int) < 6;decide,by show (6:Int) < 1073741824;decide⟩,?_⟩
   have ed:((l.length:Nat):Int) / 6=((l.length / 6:Nat):Int):=by omega
   refine ⟨((l.length / 6:Nat):Int),by show [V.int (((l.length:Nat):Int) / 6)]=_;rw [ed],by omega,by omega,?_⟩
   have en:(((l.length / 6:Nat):Int)).toNat=l.length / 6:=by omega
   rw [en]
   refine kT (lo:=0) (n:=l.length / 6) (fun i σ H'=>∃ (v1 v2:Option V),σ=[some (.ref (p.a .fl)),some (.ref ca),some (.ref a0),v1,v2]/\aV H H'/\Mi.fH f l (l.length / 6) 0=Mi.fH f l (l.length / 6 - i) i) ⟨none,none,rfl,aV.refl H,rfl⟩ ?_ ?_
   ·rintro i σ H1 hi ⟨v1,v2,rfl,s1,ef⟩
    have S1:=S.same s1
    have h0:=S1.fl
    have e8:l.length / 6 - i=(l.length / 6 - (i+1))+1:=by omega
    rw [e8] at ef
    have ef:Mi.fH f l (l.length / 6) 0=if f.book.length<=i\/(l.drop (i*6)).take 6≠f.book.getD i [] then [0,0,(i:Int)] else Mi.fH f l (l.length / 6 - (i+1)) (i+1):=ef
    walk_at "u"
    refine ⟨_,_,rfl,rfl,.inr ⟨by show -(2 ^ 64) < (6:Int);decide,by show (6:Int) < 2 ^ 64;decide⟩,?_⟩
    walk_at "u";walk_at "i"
    refine ⟨_,_,rfl,rfl,.inr ⟨by show -(2 ^ 64) < (6:Int);decide,by show (6:Int) < 2 ^ 64;decide⟩,?_⟩
    walk_at "v"
    have ez:(0:Int)+(i:Int)=(i:Int):=Int.zero_add _
    rw [ez]
    refine ⟨_,_,rfl,SqL.of (s1 _ _ hl),fun y hy=>?_⟩
    have ecut:kI (l.map V.int) (some ((i:Int)*6)) (some (((i:Int)+1)*6))=((l.drop (i*6)).take 6).map V.int:=by
     have e1:(i:Int)*6=((i*6:Nat):Int):=by omega
     have e2:((i:Int)+1)*6=(((i+1)*6:Nat):Int):=by omega
     unfold kI
     rw [List.length_map,e1,e2,HT.iX,HT.iX,List.map_take,List.map_drop]
     congr 1
     ·omega
     ·congr 1;omega
    rw [ecut]
    have s2:aV H1 (upd H1 y (.lst (((l.drop (i*6)).take 6).map V.int))):=aM hy
    have hy2:(upd H1 y (.lst (((l.drop (i*6)).take 6).map V.int))) y=some (.lst (((l.drop (i*6)).take 6).map V.int)):=aj
    revert s2 hy2
    generalize upd H1 y (.lst (((l.drop (i*6)).take 6).map V.int))=H2
    intro s2 hy2
    have S2:=S1.same s2
    have g0:=S2.fl
    walk_at "v";walk_at "w"
    refine ⟨_,_,rfl,.inl (SqL.of S2.book),?_⟩
    rw [aI]
    walk_at "i";walk_at "v"
    refine dG (fun e2=>?_) (fun e2=>?_)
    ·have e2:f.book.length<=i:=by have e2:((f.book.length:Nat):Int)<=(i:Int):=of_decide_eq_true e2;omega
     rw [if_pos (.inl e2)] at ef
     rw [ef] at k
     walk_at "v"
     exact ⟨by show 3<=sizeLine;decide,fun x hx=>k.lay (s1.trans s2) hx⟩
    ·have e2:¬f.book.length<=i:=fun z=>e2 (decide_eq_true (by omega))
     obtain ⟨ln,hln⟩:∃ ln,f.book[i]? = some ln:=⟨_,List.getElem?_eq_getElem (by omega)⟩
     have gl:f.book.getD i []=ln:=by simp [List.getD,hln]
     rw [gl] at ef
     have h3:=S2.line hln
     walk_at "v";walk_at "w";walk_at "v"
     refine ⟨_,_,_,_,rfl,rfl,SqL.of S2.book,bF (j:=i) (qA (by omega)),?_⟩
     refine ⟨_,_,.lst (SqL.of hy2) (qZ _),.lst (SqL.of h3) (qZ _),shaped_ints _,shaped_ints _,?_⟩
     walk_at "v"
     have eq:(!PyData.eqv (.list (((l.drop (i*6)).take 6).map PyData.int)) (.list (ln.map PyData.int))) = !decide ((l.drop (i*6)).take 6=ln):=by
      show (!PyData.eqvAll _ _)=_
      rw [sN]
     refine dG (fun e3=>?_) (fun e3=>?_)
     ·have e3:(l.drop (i*6)).take 6≠ln:=by
       have e3:=eq.symm.trans e3
       intro z;rw [decide_eq_true z] at e3;cases e3
      rw [if_pos (.inr e3)] at ef
      rw [ef] at k
      walk_at "v"
      exact ⟨by show 3<=sizeLine;decide,fun x hx=>k.lay (s1.trans s2) hx⟩
     ·have e3:¬(l.drop (i*6)).take 6≠ln:=fun z=>e3 (eq.trans (by rw [decide_eq_false z];rfl))
      rw [if_neg (fun q=>q.elim e2 e3)] at ef
      exact ⟨_,_,rfl,s1.trans s2,ef⟩
   ·rintro σ H1 ⟨v1,v2,rfl,s1,ef⟩
    rw [Nat.sub_self] at ef
    have ef:Mi.fH f l (l.length / 6) 0=[0,1]:=ef
    rw [ef] at k
    exact ⟨by show 2<=sizeLine;decide,fun x hx=>k.lay s1 hx⟩
end
section
variable {P:Program} {w:World} {K:PySem.W.Frag} {mg:Str->Option Value} {base:Heap} {A:Ad}
noncomputable def ua (c:Int×List Int) (rows:List (List Int)):Prop:=
 (∃ t:Int,c=(4,[t])/\1<=t)\/(∃ t:Int,c=(5,[t])/\1<=t)\/(∃ t:Int,c=(6,[t])/\1<=t)\/(∃ t:Int,c=(7,[t])/\0<=t)\/(∃ t:Int,c=(8,[t])/\1<=t)\/(∃ t:Int,c=(9,[t])/\1<=t)\/
 c=(10,[])\/c=(11,[])\/(∃ t:Int,c=(12,[t])/\0<=t)\/(c=(13,[])/\∃ l,rows=[l]/\l.length<=600)\/c=(17,[])
noncomputable def yb (A:Ad):Sp:=fun vs H Q _=>∃ (p:Pl) (f:Mi.Flt) (ca ra:Addr) (ras:List Addr) (c:Int×List Int) (rows:List (List Int)),vs=[.ref (p.a .fl),.ref ca]/\dA A p f H/\Mi.WI f/\Mi.RI f/\f.told.length<=1000/\jR A H ca c rows ra ras/\ua c rows/\ie H (Mi.fI f c rows) Q
theorem yy (T:Txt K mg A):cD P w K mg base CX0 5 (A.f .show) (A.fd .show) (ps .show) (yb A):=by
 refine (T.F .show).ok yj (fun vs H Q E h=>?_) (fun cdv Ar outer s H vs Q E hr h=>?_)
 ·obtain ⟨p,f,ca,ra,ras,c,rows,rfl,_⟩:=h
  rfl
 ·obtain ⟨p,f,ca,ra,ras,c,rows,rfl,S,W,RI,hn,hc,ok,k⟩:=h
  refine ⟨_,(ag (aG (qF (rW (jH rfl T.v5) (ae (pv 1) rfl) (fun _ _=>rfl)) (ah (pv 0) (ah (pv 1) af))))),?_⟩
  obtain ⟨dx,pa,h1,h2⟩:=hc.at_
  walk_at "w"
  rcases ok with o | o | o | o | o | o | o | o | o | o | o
  ·obtain ⟨t,rfl,t1⟩:=o
   refine ⟨_,_,4,_,rfl,T.gn,rfl,rfl,?_⟩
   refine ⟨_,_,_,_,_,rfl,pG T,hr.mono (by decide),(T.F .cN).kp,T.b .cN,?_⟩
   walk_at "u"
   exact ⟨p,f,ca,_,rfl,S,W,RI,hn,hc.call,⟨t,rfl,t1⟩,k⟩
  ·obtain ⟨t,rfl,t1⟩:=o
   refine ⟨_,_,5,_,rfl,T.gn,rfl,rfl,?_⟩
   refine ⟨_,_,_,_,_,rfl,oy T,hr.mono (by decide),(T.F .cu).kp,T.b .cu,?_⟩
   walk_at "u"
   exact ⟨p,f,ca,_,rfl,S,W,RI,hn,hc.call,⟨t,rfl,t1⟩,k⟩
  ·obtain ⟨t,rfl,t1⟩:=o
   refine ⟨_,_,6,_,rfl,T.gn,rfl,rfl,?_⟩
   refine ⟨_,_,_,_,_,rfl,pH T,hr.mono (by decide),(T.F .cO).kp,T.b .cO,?_⟩
   walk_at "u"
   exact ⟨p,f,ca,_,rfl,S,W,RI,hn,hc.call,⟨t,rfl,t1⟩,k⟩
  ·obtain ⟨t,rfl,t1⟩:=o
   refine ⟨_,_,7,_,rfl,T.gn,rfl,rfl,?_⟩
   refine ⟨_,_,_,_,_,rfl,qL T,hr.mono (by decide),(T.F .di).kp,T.b .di,?_⟩
   walk_at "u"
   exact ⟨p,f,ca,_,rfl,S,W,RI,hn,hc.call,⟨t,rfl,t1⟩,k⟩
  ·obtain ⟨t,rfl,t1⟩:=o
   refine ⟨_,_,8,_,rfl,T.gn,rfl,rfl,?_⟩
   refine ⟨_,_,_,_,_,rfl,ny T,hr.mono (by decide),(T.F .bX).kp,T.b .bX,?_⟩
   walk_at "u"
   exact ⟨p,f,ca,_,rfl,S,W,RI,hn,hc.call,⟨t,rfl,t1⟩,k⟩
  ·obtain ⟨t,rfl,t1⟩:=o
   refine ⟨_,_,9,_,rfl,T.gn,rfl,rfl,?_⟩
   refine ⟨_,_,_,_,_,rfl,qJ T,hr.mono (by decide),(T.F .dg).kp,T.b .dg,?_⟩
   walk_at "u"
   exact ⟨p,f,ca,_,rfl,S,W,RI,hn,hc.call,⟨t,rfl,t1⟩,k⟩
  ·subst o
   refine ⟨_,_,10,_,rfl,T.gn,rfl,rfl,?_⟩
   refine ⟨_,_,_,_,_,rfl,nz T,hr.mono (by decide),(T.F .bY).kp,T.b .bY,?_⟩
   walk_at "u"
   exact ⟨p,f,ca,_,rfl,S,W,RI,hn,hc.call,rfl,k⟩
  ·subst o
   refine ⟨_,_,11,_,rfl,T.gn,rfl,rfl,?_⟩
   refine ⟨_,_,_,_,_,rfl,oz T,hr.mono (by decide),(T.F .cv).kp,T.b .cv,?_⟩
   walk_at "u"
   exact ⟨p,f,ca,_,rfl,S,W,RI,hn,hc.call,rfl,k⟩
  ·obtain ⟨t,rfl,t1⟩:=o
   refine ⟨_,_,12,_,rfl,T.gn,rfl,rfl,?_⟩
   refine ⟨_,_,_,_,_,rfl,qK T,hr.mono (by decide),(T.F .dh).kp,T.b .dh,?_⟩
   walk_at "u"
   exact ⟨p,f,ca,_,rfl,S,W,RI,hn,hc.call,⟨t,rfl,t1⟩,k⟩
  ·obtain ⟨rfl,l,rfl,l6⟩:=o
   refine ⟨_,_,13,_,rfl,T.gn,rfl,rfl,?_⟩
   refine ⟨_,_,_,_,_,rfl,pK T,hr.mono (by decide),(T.F .cQ).kp,T.b .cQ,?_⟩
   walk_at "u"
   exact ⟨p,f,ca,ra,ras,l,rfl,S,W,hc,l6,k⟩
  ·subst o
   refine ⟨_,_,17,_,rfl,T.gn,rfl,rfl,?_⟩
   refine ⟨_,_,_,_,_,rfl,rZ T,hr.mono (by decide),(T.F .dN).kp,T.b .dN,?_⟩
   walk_at "u"
   exact ⟨p,f,ca,_,rfl,S,W,RI,hn,hc.call,rfl,k⟩
noncomputable def AA (K:PySem.W.Frag):Sp:=fun vs H Q _=>∃ (a b:Addr) (l:List Int) (e:Int×Int×Int×Int),vs=[.ref a,.ref b]/\SqL K H a (l.map V.int)/\l.length<=20000/\SqT K H b [.int e.1,.int e.2.1,.int e.2.2.1,.int e.2.2.2]/\∀ H',aV H H'->Q (.bl (Mi.kq l e)) H'
theorem qX {α:Type} (g:α->Bool) (l:List α):l.filterMap (fun y=>some (V.bl (g y)))=(l.map g).map V.bl:=by
 induction l with
 | nil=>rfl
 | cons a r ih=>simp [ih]
theorem ur (g:Int->Bool) (l:List Int):(l.map g).all id=l.all g:=by
 induction l with
 | nil=>rfl
 | cons a r ih=>simp
theorem mN (T:Txt K mg A):cD P w K mg base CX0 1 (A.f .bO) (A.fd .bO) (ps .bO) (AA K):=by
 refine (T.F .bO).ok gO (fun vs H Q E h=>?_) (fun cdv Ar outer s H vs Q E hr h=>?_)
 ·obtain ⟨a,b,l,e,rfl,_⟩:=h
  rfl
 ·obtain ⟨a,b,l,e,rfl,hl,hz,he,k⟩:=h
  refine ⟨_,(ab (cR (jw (oq nc nc (cB lP (pv 1) aB (fun _ _=>rfl)) (aP aD rfl T.dX PySem.boot_len (ah (pv 0) af)) (cB lP (pv 1) aB (fun _ _=>rfl)))) (ag (aG me)) bE)
   (ag (aG (aP (A4 rfl) rfl T.z4 boot_all (ah (iY (g:=(gf 2)) (tt:=m6) (te:=(tF (rI0 fun i j=>.bl (decide (i<=j))) (rI0 fun i j=>.bl (decide (i<=j))) (tOp (zF K) (gm 1) (tC (.int 2))) (gm 2) (tOp (zF K) (gm 1) (tC (.int 3))))) rfl gO.nd (dn (pv 0)) (eZ (own:=[("member",2)]) (by rfl)) (fun _ _ _ _ _=>(bW (i:=2) gO.nd rfl (Or.inl rfl))) (fun _ _ _ _ _=>fY) (fun _ _ _ _ _=>(wW nc nc (cB lP (pv 1) aB (fun _ _=>rfl)) (pv 2) (cB lP (pv 1) aB (fun _ _=>rfl))))) af))))),?_⟩
  have lsz:l.length < sizeLine:=uT (by omega)
  unfold Mi.kq at k
  walk_at "v"
  refine ⟨_,_,_,_,rfl,rfl,he,bF (j:=0) rfl,?_⟩
  walk_at "v"
  refine ⟨_,_,rfl,.inl hl,?_⟩
  rw [List.length_map]
  walk_at "i";walk_at "v"
  refine dG (fun e1=>?_) (fun e1=>?_)
  ·walk_at "v"
   refine ⟨_,_,_,_,rfl,rfl,he,bF (j:=1) rfl,?_⟩
   walk_at "i";walk_at "v"
   rw [e1,Bool.true_and] at k
   cases e2:decide ((l.length:Int)<=e.2.1) with
   | false=>
     rw [e2,Bool.false_and] at k
     exact k H (aV.refl _)
   | true=>
     rw [e2,Bool.true_and] at k
     walk_at "v"
     refine ⟨_,rfl,⟨_,hl⟩,fun D hD=>gq (K:=K) (l:=l) (F:=V.int) (fun m=>some (.bl (decide (e.2.2.1<=m)&&decide (m<=e.2.2.2)))) hD hl lsz ?_ ?_⟩
     ·intro m hm H' s' R R0 hR _
      have he':=yX s' he
      refine ⟨rfl,?_⟩
      walk_at "v"
      refine ⟨_,_,_,_,rfl,rfl,he',bF (j:=2) rfl,?_⟩
      walk_at "v";walk_at "i";walk_at "v"
      refine dG (fun e3=>?_) (fun e3=>?_)
      ·walk_at "v"
       refine ⟨_,_,_,_,rfl,rfl,he',bF (j:=3) rfl,?_⟩
       walk_at "i"
       exact hR _ _ (aV.refl _) (by rw [e3,Bool.true_and])
      ·have e3:decide (e.2.2.1<=m)=false:=by cases q:decide (e.2.2.1<=m) with | true=>exact absurd q e3 | false=>rfl
       exact hR _ _ (aV.refl _) (by rw [e3,Bool.false_and])
     ·intro H' s' hD'
      rw [qX] at hD'
      refine ⟨_,_,rfl,SqL.of hD',?_⟩
      rw [ur]
      exact k H' s'
  ·have e1:decide (e.1<=(l.length:Int))=false:=by cases q:decide (e.1<=(l.length:Int)) with | true=>exact absurd q e1 | false=>rfl
   rw [e1,Bool.false_and,Bool.false_and] at k
   walk_at "v"
   exact k H (aV.refl _)
theorem sI {a b:Addr} {xs ys:List V} {g:TG} {tb:TS} {D:Ends} {σ:L2.St} {H:Hp} (Pv:Nat->L2.St->Hp->Prop) (hle:xs.length<=ys.length) (h0:Pv 0 σ H) (hl:∀ i σ H,Pv i σ H->SqL K H a xs/\SqT K H b ys)
  (hs:∀ i x y σ H t,xs[i]? = some x->ys[i]? = some y->Pv i σ H->H t=none->g (.ref t) σ (upd H t (.tup [x,y])) fun σ2 H2=>tb {D with nx:=Pv (i+1),ct:=Pv (i+1),bk:=D.nx} σ2 H2) (hd:∀ σ H,Pv (min xs.length ys.length) σ H->D.nx σ H) :
  ∃ W:Nat->Nat->L2.St->Hp->Prop,(∃ m,W 0 m σ H)/\∀ i m σ H,W i m σ H->
   ((xR K a b).stop i H/\D.nx σ H)\/((xR K a b).go i H/\∃ N:L2.St->Hp->Prop,(∀ σ' H',N σ' H'->∃ m',m' < m/\W (i+1) m' σ' H')/\∀ x H',(xR K a b).yld i H x H'->g x σ H' fun σ2 H2=>tb {D with nx:=N,ct:=N,bk:=D.nx} σ2 H2):=by
 refine ⟨fun i m σ H=>m=min xs.length ys.length - i/\i<=min xs.length ys.length/\Pv i σ H,⟨_,rfl,Nat.zero_le _,h0⟩,fun i m σ H z=>?_⟩
 obtain ⟨rfl,hi,pv⟩:=z
 obtain ⟨q1,q2⟩:=hl i σ H pv
 by_cases hlt:i < min xs.length ys.length
 ·have l1:i < xs.length:=by omega
  have l2:i < ys.length:=by omega
  refine .inr ⟨⟨xs,ys,xs[i],ys[i],q1,q2,by simp [l1],by simp [l2]⟩,Pv (i+1),fun σ' H' p'=>⟨_,by omega,rfl,hlt,p'⟩,fun v H' yl=>?_⟩
  obtain ⟨t,x,y,rfl,ht,rfl,hx,hy⟩:=yl
  exact hs i x y σ H t (hx xs q1) (hy ys q2) pv ht
 ·have e:i=min xs.length ys.length:=by omega
  subst e
  exact .inl ⟨⟨xs,q1,by omega⟩,hd σ H pv⟩
noncomputable def wA (A:Ad):Sp:=fun vs H Q _=>∃ (ca ra:Addr) (ras:List Addr) (n:Int) (pl:List Int) (rows:List (List Int)),vs=[.ref ca]/\jR A H ca (n,pl) rows ra ras/\0<=n/\n<=17/\(∀ l ∈ rows,l.length<=20000)/\pl.length=(Mi.cj n).length/\rows.length=(Mi.gk n).length/\∀ H',aV H H'->Q (.bl (Mi.cX n pl rows)) H'
theorem sX {α:Type} (q:α->Bool) (l:List α) {i:Nat} {x:α} (hx:l[i]? = some x) (h:(l.take i).all q=true):(q x=true->(l.take (i+1)).all q=true)/\(q x=false->l.all q=false):=by
 refine ⟨fun h1=>?_,fun h1=>?_⟩
 ·rw [List.take_add_one,hx,List.all_append,h];simp [h1]
 ·cases e:l.all q with
  | false=>rfl
  | true=>
    have:=List.all_eq_true.mp e x (List.mem_of_getElem? hx)
    rw [h1] at this;cases this
theorem wk {α β:Type} {l:List α} {m:List β} {i:Nat} {x:α} {y:β} (h1:l[i]? = some x) (h2:m[i]? = some y):(l.zip m)[i]? = some (x,y):=by
 rw [List.getElem?_zip_eq_some];exact ⟨h1,h2⟩
theorem lx (T:Txt K mg A):cD P w K mg base CX0 2 (A.f .aU) (A.fd .aU) (ps .aU) (wA A):=by
 refine (T.F .aU).ok eD (fun vs H Q E h=>?_) (fun cdv Ar outer s H vs Q E hr h=>?_)
 ·obtain ⟨ca,ra,ras,n,pl,rows,rfl,_⟩:=h
  rfl
 ·obtain ⟨ca,ra,ras,n,pl,rows,rfl,hc,n0,n17,hz,lp,lr,k⟩:=h
  refine ⟨_,(ab (fh PassesOwn.never rfl (uH rfl T.x8 (ah (ae (pv 0) rfl) (ah (rW (jH rfl T.iP) (ae (pv 0) rfl) (fun _ _=>rfl)) af))) (qD rfl (hU (bW (i:=1) eD.nd rfl (Or.inl rfl)) (hU (bW (i:=2) eD.nd rfl (Or.inl rfl)) nL)))
   (ag (cR (jw (oq nc nc (cB lP (pv 2) aB (fun _ _=>rfl)) (pv 1) (cB lP (pv 2) aB (fun _ _=>rfl)))) (ag (aG me)) bE)))
   (ab (fh PassesOwn.never rfl (uH rfl T.x8 (ah (ae (pv 0) rfl) (ah (wU (jH rfl T.jz) (ae (pv 0) rfl) (ki af)) af))) (qD rfl (hU (bW (i:=3) eD.nd rfl (Or.inl rfl)) (hU (bW (i:=2) eD.nd rfl (Or.inl rfl)) nL)))
   (ag (cR (jw (gT (aO (mN T) hr rfl (T.g .bO rfl) (T.F .bO).kp (T.b .bO) (ah (pv 3) (ah (pv 2) af))))) (ag (aG me)) bE)))
   (ag (aG me)))),?_⟩
  obtain ⟨dx,pa,h1,h2⟩:=hc.at_
  obtain ⟨tb,htb,hP⟩:=T.qQ
  obtain ⟨a,as,hlk,hta,hal,hae⟩:=hP n n0 n17
  obtain ⟨tr,htr,hR⟩:=T.xk
  unfold Mi.cX at k
  walk_at "w";walk_at "w"
  refine ⟨_,_,n,_,rfl,htb,rfl,hlk,?_⟩
  refine ⟨_,_,_,_,rfl,SqL.of h2,hta H,sI (K:=K) (xs:=pl.map V.int) (ys:=as.map V.ref) (fun i σ H'=>∃ (v1 v2:Option V),σ=[some (.ref ca),v1,v2,none]/\aV H H'/\(((pl.zip (Mi.cj n)).take i).all fun p=>decide (p.2.1<=p.1)&&decide (p.1<=p.2.2))=true)
   (by rw [List.length_map,List.length_map];omega) ⟨none,none,rfl,aV.refl H,rfl⟩ (fun i σ H' ⟨_,_,_,s',_⟩=>⟨SqL.of (s' _ _ h2),hta H'⟩) ?_ ?_⟩
  ·rintro i x y σ H1 t hx hy ⟨v1,v2,rfl,s1,al⟩ ht
   rw [List.getElem?_map] at hx hy
   obtain ⟨z,hz',rfl⟩:=dM hx
   obtain ⟨b,hb,rfl⟩:=dM hy
   obtain ⟨e,he⟩:∃ e,(Mi.cj n)[i]? = some e:=⟨_,List.getElem?_eq_getElem (by have:=(List.getElem?_eq_some_iff.mp hb).1;omega)⟩
   have hbt:=hae i b e hb he
   have s2:=s1.trans (aM (o:=.tup [.int z,.ref b]) ht)
   obtain ⟨a1,a2⟩:=sX (fun (p:Int×Int×Int)=>decide (p.2.1<=p.1)&&decide (p.1<=p.2.2)) (pl.zip (Mi.cj n)) (wk hz' he) al
   refine ⟨_,_,rfl,SqT.of aj,rfl,?_⟩
   refine ⟨_,_,rfl,?_⟩
   refine ⟨_,_,rfl,?_⟩
   refine ⟨rfl,?_⟩
   revert s2
   generalize upd H1 t (.tup [.int z,.ref b])=H2
   intro s2
   have no:(decide (e.1<=z)&&decide (z<=e.2))=false->Q (.bl false) H2:=fun q=>by
    have q2:=a2 q
    unfold Mi.dB at k
    rw [q2,Bool.false_and] at k
    exact k H2 s2
   walk_at "v"
   refine ⟨_,_,_,_,rfl,rfl,hbt H2,bF (j:=0) rfl,?_⟩
   walk_at "v";walk_at "i";walk_at "v"
   refine dG (fun e1=>?_) (fun e1=>?_)
   ·walk_at "v"
    refine ⟨_,_,_,_,rfl,rfl,hbt H2,bF (j:=1) rfl,?_⟩
    walk_at "i";walk_at "v"
    cases e2:decide (z<=e.2) with
    | true=>exact ⟨_,_,rfl,s2,a1 (by show (decide (e.1<=z)&&decide (z<=e.2))=true;rw [e1,e2];rfl)⟩
    | false=>exact no (by rw [e1,e2];rfl)
   ·have e1:decide (e.1<=z)=false:=by cases q:decide (e.1<=z) with | true=>exact absurd q e1 | false=>rfl
    walk_at "v"
    exact no (by rw [e1];rfl)
  ·rintro σ H1 ⟨v1,v2,rfl,s1,al⟩
   have eP:Mi.dB pl (Mi.cj n)=true:=by
    unfold Mi.dB
    rw [List.take_of_length_le (by simp;omega)] at al
    exact al
   rw [eP,Bool.true_and] at k
   have hc1:=hc.same s1
   have g1:=s1 _ _ h1
   walk_at "w"
   refine ⟨_,_,rfl,htr,?_⟩
   walk_at "w"
   refine ⟨Nat.zero_le _,fun q hq=>?_⟩
   refine ⟨n,rfl,?_⟩
   have s2:aV H (upd H1 q (.tup [])):=s1.trans (aM hq)
   have hq2:(upd H1 q (.tup [])) q=some (.tup []):=aj
   revert s2 hq2
   generalize upd H1 q (.tup [])=H2
   intro s2 hq2
   have hc2:=hc.same s2
   obtain ⟨bb,bs,ebb,hbt,hbl,hbe⟩:∃ (bb:Addr) (bs:List Addr),(tr.lookup n).getD (.ref q)=.ref bb/\(∀ H',aV H2 H'->SqT K H' bb (bs.map V.ref))/\bs.length=(Mi.gk n).length/\∀ (j:Nat) (b:Addr) (e:Int×Int×Int×Int),bs[j]? = some b->(Mi.gk n)[j]? = some e->fC K b [.int e.1,.int e.2.1,.int e.2.2.1,.int e.2.2.2]:=by
    rcases hR n n0 n17 with ⟨l1,l2⟩ | ⟨bb,bs,l1,l2,l3,l4⟩
    ·refine ⟨q,[],by rw [l1];rfl,fun H' s'=>SqT.of (s' _ _ hq2),by rw [l2];rfl,fun j b e h1 _=>absurd h1 (by simp)⟩
    ·exact ⟨bb,bs,by rw [l1];rfl,fun H' _=>l2 H',l3,l4⟩
   rw [ebb]
   refine ⟨_,_,_,_,rfl,SqL.of hc2.rw_,hbt H2 (aV.refl _),sI (K:=K) (xs:=ras.map V.ref) (ys:=bs.map V.ref) (fun i σ H'=>∃ (v1 v2 v3:Option V),σ=[some (.ref ca),v1,v2,v3]/\aV H2 H'/\(((rows.zip (Mi.gk n)).take i).all fun p=>Mi.kq p.1 p.2)=true)
    (by rw [List.length_map,List.length_map];have:=hc2.len;omega) ⟨_,_,none,rfl,aV.refl H2,rfl⟩ (fun i σ H' ⟨_,_,_,_,s',_⟩=>⟨SqL.of (s' _ _ hc2.rw_),hbt H' s'⟩) ?_ ?_⟩
   ·rintro i x y σ H3 t hx hy ⟨v1,v2,v3,rfl,s3,al⟩ ht
    rw [List.getElem?_map] at hx hy
    obtain ⟨ra',hra',rfl⟩:=dM hx
    obtain ⟨b,hb,rfl⟩:=dM hy
    obtain ⟨e,he⟩:∃ e,(Mi.gk n)[i]? = some e:=⟨_,List.getElem?_eq_getElem (by have:=(List.getElem?_eq_some_iff.mp hb).1;omega)⟩
    obtain ⟨l,hl⟩:∃ l,rows[i]? = some l:=⟨_,List.getElem?_eq_getElem (by have:=(List.getElem?_eq_some_iff.mp hra').1;have:=hc.len;omega)⟩
    have hbt':=hbe i b e hb he
    have s4:aV H2 (upd H3 t (.tup [.ref ra',.ref b])):=s3.trans (aM ht)
    obtain ⟨a1,a2⟩:=sX (fun (p:List Int×Int×Int×Int×Int)=>Mi.kq p.1 p.2) (rows.zip (Mi.gk n)) (wk hl he) al
    refine ⟨_,_,rfl,SqT.of aj,rfl,?_⟩
    refine ⟨_,_,rfl,?_⟩
    refine ⟨_,_,rfl,?_⟩
    refine ⟨rfl,?_⟩
    revert s4
    generalize upd H3 t (.tup [.ref ra',.ref b])=H4
    intro s4
    walk_at "u"
    refine ⟨ra',b,l,e,rfl,SqL.of ((hc2.same s4).row i ra' l hra' hl),hz l (List.mem_of_getElem? hl),hbt' H4,fun H5 s5=>?_⟩
    walk_at "v"
    cases e2:Mi.kq l e with
    | true=>exact ⟨_,_,_,rfl,s4.trans s5,a1 e2⟩
    | false=>
      have q2:=a2 e2
      rw [q2] at k
      exact k H5 (s2.trans (s4.trans s5))
   ·rintro σ H3 ⟨v1,v2,v3,rfl,s3,al⟩
    rw [List.take_of_length_le (by have:=hc.len;simp;omega)] at al
    rw [al] at k
    exact k H3 (s2.trans s3)
end
section
variable {P:Program} {w:World} {K:PySem.W.Frag} {mg:Str->Option Value} {base:Heap} {A:Ad}
noncomputable def rdF (na:Addr) (i:Nat):List (Str×V):=[("numbers",.ref na),("at",.int (i:Int))]
noncomputable def rF (K:PySem.W.Frag) (A:Ad):Sp:=fun vs H Q _=>∃ na,oa A .Reader [.ref na] (rdF na 0) vs H Q
theorem sj (T:Txt K mg A):cD P w K mg base CX0 1 (A.f .cW) (A.fd .cW) (ps .cW) (rF K A):=by
 refine (T.F .cW).ok rN (fun vs H Q E h=>?_) (fun cdv Ar outer s H vs Q E hr h=>?_)
 ·obtain ⟨na,x,dx,rfl,_⟩:=h
  rfl
 ·obtain ⟨na,x,dx,rfl,hx,k⟩:=h
  refine ⟨_,(ab (bA (pv 0) (pv 1) rfl)
   (ag (bA (pv 0) aB rfl))),?_⟩
  walk_at "u"
  refine iK ?_ hx
  walk_at "v"
  refine iK ?_ aj
  exact k _ aj fun c o e hc=>by rw [ax hc,ax hc];exact e
noncomputable def vw (K:PySem.W.Frag) (A:Ad):Sp:=fun vs H Q _=>∃ n pa ra,oa A .Call [.int n,.ref pa,.ref ra] (kM n pa ra) vs H Q
theorem vO (T:Txt K mg A):cD P w K mg base CX0 1 (A.f .eO) (A.fd .eO) (ps .eO) (vw K A):=by
 refine (T.F .eO).ok vF (fun vs H Q E h=>?_) (fun cdv Ar outer s H vs Q E hr h=>?_)
 ·obtain ⟨n,pa,ra,x,dx,rfl,_⟩:=h
  rfl
 ·obtain ⟨n,pa,ra,x,dx,rfl,hx,k⟩:=h
  refine ⟨_,(ab (bA (pv 0) (pv 1) rfl)
   (ab (bA (pv 0) (pv 2) rfl)
   (ag (bA (pv 0) (pv 3) rfl)))),?_⟩
  walk_at "u"
  refine iK ?_ hx
  walk_at "u"
  refine iK ?_ aj
  walk_at "u"
  refine iK ?_ aj
  exact k _ aj fun c o e hc=>by rw [ax hc,ax hc,ax hc];exact e
noncomputable def mnF (v:V):List (Str×V):=[("fleet",v)]
noncomputable def vt (K:PySem.W.Frag) (A:Ad):Sp:=fun vs H Q _=>oa A .iE [] (mnF .non) vs H Q
theorem vM (T:Txt K mg A):cD P w K mg base CX0 1 (A.f .eK) (A.fd .eK) (ps .eK) (vt K A):=by
 refine (T.F .eK).ok vD (fun vs H Q E h=>?_) (fun cdv Ar outer s H vs Q E hr h=>?_)
 ·obtain ⟨x,dx,rfl,_⟩:=h
  rfl
 ·obtain ⟨x,dx,rfl,hx,k⟩:=h
  refine ⟨_,(ag (bA (pv 0) qE rfl)),?_⟩
  walk_at "v"
  refine iK ?_ hx
  exact k _ aj fun c o e hc=>by rw [ax hc];exact e
theorem sqN {H H':Hp} {x na:Addr} {o:HO} {C dx:Addr} {fs:List (Str×V)} {xs:List V} (h:SqL K H na xs) (hx:H x=some (.ins C dx fs)) (n:New H H' x o):SqL K H' na xs:=by
 rcases h with (h | ⟨u,h⟩) | h
 ·exact .inl (.inl (n.2 na _ h (mj h hx (by intro z;cases z))))
 ·exact .inl (.inr ⟨u,n.2 na _ h (mj h hx (by intro z;cases z))⟩)
 ·exact .inr h
noncomputable def zq (K:PySem.W.Frag) (A:Ad):Sp:=fun vs H Q _=>∃ (x dx na:Addr) (i:Nat) (ns:List Int),vs=[.ref x]/\H x=some (.ins (A.c .Reader) dx (rdF na i))/\SqL K H na (ns.map V.int)/\Q (.bl (decide ((i:Int) < (ns.length:Int)))) H
theorem pI (T:Txt K mg A):cD P w K mg base CX0 1 (A.f .bJ) (A.fd .bJ) (ps .bJ) (zq K A):=by
 refine (T.F .bJ).ok pD (fun vs H Q E h=>?_) (fun cdv Ar outer s H vs Q E hr h=>?_)
 ·obtain ⟨x,dx,na,i,ns,rfl,_⟩:=h
  rfl
 ·obtain ⟨x,dx,na,i,ns,rfl,hx,hn,k⟩:=h
  refine ⟨_,(ag (aG (nM uM (ae (pv 0) rfl) (aP aD rfl T.dX PySem.boot_len (ah (ae (pv 0) rfl) af)) (cn _)))),?_⟩
  walk_at "w";walk_at "w"
  refine ⟨_,_,rfl,.inl hn,?_⟩
  rw [List.length_map]
  walk_at "i"
  exact k
noncomputable def ya (K:PySem.W.Frag) (A:Ad):Sp:=fun vs H Q _=>∃ (x dx na:Addr) (i:Nat) (ns:List Int) (z:Int),vs=[.ref x]/\H x=some (.ins (A.c .Reader) dx (rdF na i))/\SqL K H na (ns.map V.int)/\ns[i]? = some z/\
 ∀ H',New H H' x (.ins (A.c .Reader) dx (rdF na (i+1)))->Q (.int z) H'
theorem pX (T:Txt K mg A):cD P w K mg base CX0 1 (A.f .dP) (A.fd .dP) (ps .dP) (ya K A):=by
 refine (T.F .dP).ok vB (fun vs H Q E h=>?_) (fun cdv Ar outer s H vs Q E hr h=>?_)
 ·obtain ⟨x,dx,na,i,ns,z,rfl,_⟩:=h
  rfl
 ·obtain ⟨x,dx,na,i,ns,z,rfl,hx,hn,hz,k⟩:=h
  refine ⟨_,(ab (gA (pv 0) aB mU)
   (ag (aG (cB bo (ae (pv 0) rfl) (cS fR (ae (pv 0) rfl) aB) (fun _ _=>rfl))))),?_⟩
  walk_at "v";walk_at "g";walk_at "i"
  refine ⟨_,_,hx,of_decide_eq_true rfl,?_⟩
  have n1:New H (upd H x (.ins (A.c .Reader) dx (rdF na (i+1)))) x (.ins (A.c .Reader) dx (rdF na (i+1))):=⟨aj,fun b u e hb=>by rw [ax hb];exact e⟩
  have e1:upd H x (.ins (A.c .Reader) dx (gr "at" (.int ((i:Int)+1)) (rdF na i)))=upd H x (.ins (A.c .Reader) dx (rdF na (i+1))):=rfl
  rw [e1]
  revert n1
  generalize upd H x (.ins (A.c .Reader) dx (rdF na (i+1)))=H1
  intro n1
  have h1:=n1.1
  walk_at "w";walk_at "w";walk_at "i"
  refine ⟨_,_,_,_,rfl,rfl,sqN hn hx n1,at_of (j:=i) (v:=V.int z) (by omega) (by rw [List.getElem?_map,hz];rfl),?_⟩
  exact k H1 n1
noncomputable def y9 (K:PySem.W.Frag) (A:Ad):Sp:=fun vs H Q _=>∃ (x dx na:Addr) (i m:Nat) (ns:List Int),vs=[.ref x,.int (m:Int)]/\H x=some (.ins (A.c .Reader) dx (rdF na i))/\SqL K H na (ns.map V.int)/\i+m<=ns.length/\
 ∀ (H':Hp) (y:Addr),New H H' x (.ins (A.c .Reader) dx (rdF na (i+m)))->H y=none->y≠x->H' y=some (.lst (((ns.drop i).take m).map V.int))->Q (.ref y) H'
theorem kn (T:Txt K mg A):cD P w K mg base CX0 1 (A.f .aW) (A.fd .aW) (ps .aW) (y9 K A):=by
 refine (T.F .aW).ok oi (fun vs H Q E h=>?_) (fun cdv Ar outer s H vs Q E hr h=>?_)
 ·obtain ⟨x,dx,na,i,m,ns,rfl,_⟩:=h
  rfl
 ·obtain ⟨x,dx,na,i,m,ns,rfl,hx,hn,hm,k⟩:=h
  refine ⟨_,(ab (gA (pv 0) (pv 1) mU)
   (ag (aG (ow qv (ae (pv 0) rfl) (kO (cS fR (ae (pv 0) rfl) (pv 1))) (kO (ae (pv 0) rfl)))))),?_⟩
  walk_at "v";walk_at "g";walk_at "v";walk_at "i"
  refine ⟨_,_,hx,of_decide_eq_true rfl,?_⟩
  have n1:New H (upd H x (.ins (A.c .Reader) dx (rdF na (i+m)))) x (.ins (A.c .Reader) dx (rdF na (i+m))):=⟨aj,fun b u e hb=>by rw [ax hb];exact e⟩
  have e1:upd H x (.ins (A.c .Reader) dx (gr "at" (.int ((i:Int)+(m:Int))) (rdF na i)))=upd H x (.ins (A.c .Reader) dx (rdF na (i+m))):=by
   have:((i+m:Nat):Int)=(i:Int)+(m:Int):=by omega
   unfold rdF;rw [this];rfl
  rw [e1]
  revert n1
  generalize upd H x (.ins (A.c .Reader) dx (rdF na (i+m)))=H1
  intro n1
  have h1:=n1.1
  walk_at "w";walk_at "w";walk_at "v";walk_at "i";walk_at "v";walk_at "w";walk_at "v"
  refine ⟨_,_,rfl,sqN hn hx n1,fun y hy=>?_⟩
  have ecut:kI (ns.map V.int) (some (((i+m:Nat):Int) - (m:Int))) (some ((i+m:Nat):Int))=((ns.drop i).take m).map V.int:=by
   have e1:((i+m:Nat):Int) - (m:Int)=((i:Nat):Int):=by omega
   unfold kI
   rw [List.length_map,e1,HT.iX,HT.iX,List.map_take,List.map_drop]
   congr 1
   ·omega
   ·congr 1;omega
  rw [ecut]
  obtain ⟨n2,xy,hy0⟩:=n1.lay (o':=.lst (((ns.drop i).take m).map V.int)) hy
  exact k _ y n2 (hy0.resolve_right (Ne.symm xy)) (Ne.symm xy) aj
inductive RR (ns:List Int):Nat->Nat->List (List Int)->Nat->Prop
 | nil (i:Nat):RR ns i 0 [] i
 | cons {i m k j:Nat} {rows:List (List Int)}:ns[i]? = some (m:Int)->i+1+m<=ns.length->RR ns (i+1+m) k rows j->RR ns i (k+1) ((ns.drop (i+1)).take m::rows) j
structure Parse (ns:List Int) (i:Nat) (n:Int) (pl:List Int) (rows:List (List Int)) (j:Nat):Prop where
 num:ns[i]? = some n
 n0:0<=n
 n17:n<=17
 pl:pl=(ns.drop (i+1)).take (Mi.cj n).length
 le:i+1+(Mi.cj n).length<=ns.length
 rows:RR ns (i+1+(Mi.cj n).length) (Mi.gk n).length rows j
noncomputable def Nw (H H':Hp):Hp:=fun b=>match H b with
 | some _=>none
 | none=>H' b
theorem uP {H H':Hp} {b:Addr} {u:HO} (h:H b=none) (h':H' b=some u):Nw H H' b=some u:=by unfold Nw;rw [h];exact h'
theorem AL {H H':Hp} {b:Addr} {u:HO} (h:Nw H H' b=some u):H b=none/\H' b=some u:=by
 unfold Nw at h
 cases e:H b with
 | none=>rw [e] at h;exact ⟨rfl,h⟩
 | some o=>rw [e] at h;cases h
noncomputable def zm (K:PySem.W.Frag) (A:Ad):Sp:=fun vs H Q _=>∃ (x dx na:Addr) (i j:Nat) (ns:List Int) (n:Int) (pl:List Int) (rows:List (List Int)),vs=[.ref x]/\H x=some (.ins (A.c .Reader) dx (rdF na i))/\SqL K H na (ns.map V.int)/\Parse ns i n pl rows j/\
 ∀ (H':Hp) (ca ra:Addr) (ras:List Addr),New H H' x (.ins (A.c .Reader) dx (rdF na j))->jR A (Nw H H') ca (n,pl) rows ra ras->Q (.ref ca) H'
theorem rU (n:Int):(Mi.cj n).length<=4/\(Mi.gk n).length<=5:=by
 constructor
 ·unfold Mi.cj;split<;>decide
 ·unfold Mi.gk;split<;>decide
theorem New.trans {H H1 H2:Hp} {x:Addr} {o o':HO} (a:New H H1 x o) (b:New H1 H2 x o'):New H H2 x o':=⟨b.1,fun c u e hc=>b.2 c u (a.2 c u e hc) hc⟩
theorem qM (T:Txt K mg A):cD P w K mg base CX0 3 (A.f .dm) (A.fd .dm) (ps .dm) (zm K A):=by
 refine (T.F .dm).ok gF (fun vs H Q E h=>?_) (fun cdv Ar outer s H vs Q E hr h=>?_)
 ·obtain ⟨x,dx,na,i,j,ns,n,pl,rows,rfl,_⟩:=h
  rfl
 ·obtain ⟨x,dx,na,i,j,ns,n,pl,rows,rfl,hx,hn,pr,k⟩:=h
  refine ⟨_,(ab (bC (i:=1) gF.nd rfl (Or.inl rfl) (ox (pv 0) (T.cl .Reader) T.dP (pX T) (hr.mono (by decide)) (T.b .dP) .nil mf))
   (ab (bC (i:=2) gF.nd rfl (Or.inl rfl) (uJ (pv 0) (T.cl .Reader) T.aW (kn T) (hr.mono (by decide)) (T.b .aW) .nil mf (ah (aP aD rfl T.dX PySem.boot_len (ah (rW (jH rfl T.iP) (pv 1) (fun _ _=>rfl)) af)) af)))
   (ab (bC (i:=3) gF.nd rfl (Or.inl rfl) (bM af))
   (ab (fh PassesOwn.never rfl (kP rfl T.kQ (ah (aP aD rfl T.dX PySem.boot_len (ah (wU (jH rfl T.jz) (pv 1) (ki af)) af)) af)) (bW (i:=4) gF.nd rfl (Or.inl rfl))
   (ag (cH (jI PySem.F.plainAttrs_list PySem.F.slot_list_append PySem.F.type_list_append gB (pv 3) (ah (uJ (pv 0) (T.cl .Reader) T.aW (kn T) (hr.mono (by decide)) (T.b .aW) .nil mf (ah (ox (pv 0) (T.cl .Reader) T.dP (pX T) (hr.mono (by decide)) (T.b .dP) .nil mf) af)) af)))))
   (ag (aG (j9 (T.mak .Call) (vO T) hr rfl (T.gc .Call) (T.b .eO) (ah (pv 1) (ah (pv 2) (ah (pv 3) af)))))))))),?_⟩
  obtain ⟨tb,htb,hP⟩:=T.qQ
  obtain ⟨a,as,hlk,hta,hal,hae⟩:=hP n pr.n0 pr.n17
  obtain ⟨tr,htr,hR⟩:=T.xk
  have sm:=rU n
  walk_at "v"
  refine ⟨_,_,_,rfl,hx,rfl,?_⟩
  refine ⟨x,dx,na,i,ns,n,rfl,hx,hn,pr.num,fun H1 n1=>?_⟩
  have hn1:=sqN hn hx n1
  walk_at "v"
  refine ⟨_,_,_,rfl,n1.1,rfl,?_⟩
  walk_at "v"
  refine ⟨_,_,n,_,rfl,htb,rfl,hlk,?_⟩
  refine ⟨_,_,rfl,.inr (hta H1),?_⟩
  rw [List.length_map,hal]
  refine ⟨x,dx,na,i+1,(Mi.cj n).length,ns,rfl,n1.1,hn1,pr.le,fun H2 pa n2 hpa pax hpa2=>?_⟩
  have n12:=n1.trans n2
  rw [<-pr.pl] at hpa2
  have hpa0:H pa=none:=by
   cases q:H pa with
   | none=>rfl
   | some u=>rw [n1.2 pa u q pax] at hpa;cases hpa
  refine ⟨Nat.zero_le _,fun ra hra=>?_⟩
  obtain ⟨n3,xra,hra0⟩:=n12.lay (o':=.lst []) hra
  have hra0:=hra0.resolve_right (Ne.symm xra)
  have pra:pa≠ra:=fun z=>by rw [<-z,hpa2] at hra;cases hra
  have hpa3:(upd H2 ra (.lst [])) pa=some (.lst (pl.map V.int)):=by rw [ax pra];exact hpa2
  have hra3:(upd H2 ra (.lst [])) ra=some (.lst []):=aj
  revert n3 hpa3 hra3
  generalize upd H2 ra (.lst [])=H3
  intro n3 hpa3 hra3
  refine ⟨_,_,rfl,htr,?_⟩
  walk_at "v"
  refine ⟨Nat.zero_le _,fun q hq=>?_⟩
  refine ⟨n,rfl,?_⟩
  obtain ⟨n4,xq,hq0⟩:=n3.lay (o':=.tup []) hq
  have hpa4:(upd H3 q (.tup [])) pa=some (.lst (pl.map V.int)):=(aM hq) _ _ hpa3
  have hra4:(upd H3 q (.tup [])) ra=some (.lst []):=(aM hq) _ _ hra3
  have hq4:(upd H3 q (.tup [])) q=some (.tup []):=aj
  revert n4 hpa4 hra4 hq4
  generalize upd H3 q (.tup [])=H4
  intro n4 hpa4 hra4 hq4
  obtain ⟨bb,bs,ebb,hbt,hbl⟩:∃ (bb:Addr) (bs:List Addr),(tr.lookup n).getD (.ref q)=.ref bb/\SqT K H4 bb (bs.map V.ref)/\bs.length=(Mi.gk n).length:=by
   rcases hR n pr.n0 pr.n17 with ⟨l1,l2⟩ | ⟨bb,bs,l1,l2,l3,l4⟩
   ·exact ⟨q,[],by rw [l1];rfl,SqT.of hq4,by rw [l2];rfl⟩
   ·exact ⟨bb,bs,by rw [l1];rfl,l2 H4,l3⟩
  rw [ebb]
  refine ⟨_,_,rfl,.inr hbt,?_⟩
  rw [List.length_map,hbl]
  refine ⟨_,rfl,by omega,by omega,?_⟩
  have en:(((Mi.gk n).length:Nat):Int).toNat=(Mi.gk n).length:=by omega
  rw [en]
  refine kT (lo:=0) (n:=(Mi.gk n).length) (fun t σ H'=>∃ (v:Option V) (it:Nat) (rs rest:List (List Int)) (ras:List Addr),σ=[some (.ref x),some (.int n),some (.ref pa),some (.ref ra),v]/\New H H' x (.ins (A.c .Reader) dx (rdF na it))/\RR ns it ((Mi.gk n).length - t) rest j/\rows=rs++rest/\
   H' pa=some (.lst (pl.map V.int))/\H' ra=some (.lst (ras.map V.ref))/\ras.length=rs.length/\rs.length=t/\∀ (d:Nat) (b:Addr) (l:List Int),ras[d]? = some b->rs[d]? = some l->H b=none/\H' b=some (.lst (l.map V.int))/\b≠x/\b≠ra)
   ⟨none,_,[],rows,[],rfl,n4,pr.rows,rfl,hpa4,hra4,rfl,rfl,fun d b l h1 _=>absurd h1 (by simp)⟩ ?_ ?_
  ·rintro t σ H5 ht ⟨v,it,rs,rest,ras,rfl,n5,rr,er,hpa5,hra5,l1,l2,hrow⟩
   have ek:(Mi.gk n).length - t=((Mi.gk n).length - (t+1))+1:=by omega
   rw [ek] at rr
   cases rr with
   | @cons _ m _ _ rest' hm hle rr'=>
   have hn5:=sqN hn hx n5
   walk_at "v"
   refine ⟨.inl ⟨rfl,_,SqL.of hra5⟩,?_⟩
   walk_at "v"
   refine ⟨_,_,_,rfl,n5.1,rfl,?_⟩
   walk_at "v"
   refine ⟨_,_,_,rfl,n5.1,rfl,?_⟩
   refine ⟨x,dx,na,it,ns,_,rfl,n5.1,hn5,hm,fun H6 n6=>?_⟩
   have hn6:=sqN hn5 n5.1 n6
   refine ⟨x,dx,na,it+1,m,ns,rfl,n6.1,hn6,hle,fun H7 y n7 hy yx hy7=>?_⟩
   have n57:=n6.trans n7
   have n07:=n5.trans n57
   have pax5:pa≠x:=pax
   have hpa7:=n57.2 pa _ hpa5 pax5
   have hra7:=n57.2 ra _ hra5 (Ne.symm xra)
   have hy5:H5 y=none:=by
    cases q2:H5 y with
    | none=>rfl
    | some u=>rw [n6.2 y u q2 yx] at hy;cases hy
   have hy0:H y=none:=by
    cases q2:H y with
    | none=>rfl
    | some u=>rw [n5.2 y u q2 yx] at hy5;cases hy5
   have yra:y≠ra:=fun z=>by rw [z,hra5] at hy5;cases hy5
   refine ⟨_,_,_,rfl,rfl,hra7,by rw [List.length_map,l1,l2];exact cG (by omega),?_⟩
   refine ⟨_,it+1+m,rs++[(ns.drop (it+1)).take m],rest',ras++[y],rfl,⟨?_,fun b u e hb=>?_⟩,rr',by rw [er];simp,?_,?_,by simp [l1],by simp [l2],fun d b l h1 h2=>?_⟩
   ·rw [ax xra];exact n07.1
   ·have e1:=n07.2 b u e hb
    rw [ax (fun z=>by rw [z,hra0] at e;cases e)];exact e1
   ·rw [ax pra];exact hpa7
   ·rw [aj,List.map_append];rfl
   ·by_cases hd:d=ras.length
    ·subst hd
     rw [jt] at h1
     rw [l1,jt] at h2
     cases h1;cases h2
     exact ⟨hy0,by rw [ax yra];exact hy7,yx,yra⟩
    ·obtain ⟨g1,g2,g3,g4⟩:=hrow d b l (iJ hd h1) (iJ (by rw [<-l1];exact hd) h2)
     exact ⟨g1,by rw [ax g4];exact n57.2 b _ g2 g3,g3,g4⟩
  ·rintro σ H5 ⟨v,it,rs,rest,ras,rfl,n5,rr,er,hpa5,hra5,l1,l2,hrow⟩
   rw [Nat.sub_self] at rr
   cases rr
   rw [List.append_nil] at er
   subst er
   walk_at "u";walk_at "v"
   intro ca cdx hca hcdx hne
   refine ⟨n,pa,ra,ca,cdx,rfl,aj,fun H6 hca6 keep=>⟨rfl,?_⟩⟩
   have s6:aV H5 H6:=aV.made hca hcdx keep
   have cax:ca≠x:=fun z=>by rw [z,n5.1] at hca;cases hca
   have hca0:H ca=none:=by
    cases q2:H ca with
    | none=>rfl
    | some u=>rw [n5.2 ca u q2 cax] at hca;cases hca
   refine k H6 ca ra ras ⟨s6 _ _ n5.1,fun b u e hb=>s6 _ _ (n5.2 b u e hb)⟩ ⟨⟨cdx,pa,uP hca0 hca6,uP hpa0 (s6 _ _ hpa5)⟩,uP hra0 (s6 _ _ hra5),l1,fun d b l h1 h2=>?_⟩
   obtain ⟨g1,g2,_⟩:=hrow d b l h1 h2
   exact uP g1 (s6 _ _ g2)
end
section
variable {P:Program} {w:World} {K:PySem.W.Frag} {mg:Str->Option Value} {base:Heap} {A:Ad}
section
variable {p:Pl} {f:Mi.Flt} {B B2 H:Hp} {y:Addr} {o:HO}
theorem Ex.less {C dy:Addr} {fs:List (Str×V)} (e:Ex A p f B2) (hy:B2 y=some (.ins C dy fs)) (hf:∀ n pa ra,kM n pa ra≠fs) (sub:∀ b u,B2 b=some u->b≠y->B b=some u):Ex A p f B:=by
 have l:∀ {b:Addr} {xs:List V},B2 b=some (.lst xs)->B b=some (.lst xs):=fun {b xs} h=>sub b _ h (mj h hy (by intro z;cases z))
 refine ⟨l e.rows,l e.h0,l e.h1,l e.h2,l e.h3,l e.h4,e.cl,fun k a c h1 h2=>?_⟩
 obtain ⟨dx,pa,ra,g1,g2⟩:=e.call k a c h1 h2
 exact ⟨dx,pa,ra,sub a _ g1 (mj g1 hy (by intro z;injection z with _ _ z;exact hf _ _ _ z)),l g2⟩
theorem Rep.less (R:Rep A p f B2 H) (sub:∀ b u,B b=some u->B2 b=some u) (ex:Ex A p f B):Rep A p f B H:=
 ⟨R.own,R.inj,fun b u e=>R.frame b u (sub b u e),fun r hr=>(by
  cases q:B (p.a r) with
  | none=>rfl
  | some u=>
    have:=R.iT r hr
    rw [sub _ _ q] at this;cases this),ex⟩
theorem Rep.off (R:Rep A p f B H) (hy:∀ q,(obj A p f q).isSome=true->p.a q≠y) (hB:B y=none):Rep A p f B (upd H y o):=
 ⟨fun r u h=>by rw [ax (hy r (by rw [h];rfl))];exact R.own r u h,R.inj,fun b u e=>by rw [ax (fun z=>by rw [z,hB] at e;cases e)];exact R.frame b u e,R.iT,R.ex⟩
noncomputable def plus (B:Hp) (y:Addr) (o:HO):Hp:=upd B y o
theorem kf (hB:B y=none):∀ b u,B b=some u->plus B y o b=some u:=fun b u e=>by
 unfold plus;rw [ax (fun z=>by rw [z,hB] at e;cases e)];exact e
theorem Rep.more (R:Rep A p f B H) (hy:∀ q,(obj A p f q).isSome=true->p.a q≠y) (hB:B y=none) (ho:H y=some o):Rep A p f (plus B y o) H:=
 ⟨R.own,R.inj,fun b u e=>by
  unfold plus at e
  by_cases q:b=y
  ·subst q;rw [aj] at e;cases e;exact ho
  ·rw [ax q] at e;exact R.frame b u e,fun r hr=>by unfold plus;rw [ax (hy r hr)];exact R.iT r hr,R.ex.same fun b u e=>kf hB b u e⟩
theorem vH:∀ b u,plus B y o b=some u->b≠y->B b=some u:=fun b u e h=>by unfold plus at e;rw [ax h] at e;exact e
theorem Rep.v8 {C dy:Addr} {fs:List (Str×V)} (R:Rep A p f (plus B y (.ins C dy fs)) H) (hB:B y=none) (hf:∀ n pa ra,kM n pa ra≠fs):Rep A p f B H/\H y=some (.ins C dy fs)/\∀ q,(obj A p f q).isSome=true->p.a q≠y:=by
 have hy:plus B y (.ins C dy fs) y=some (.ins C dy fs):=aj
 refine ⟨R.less (kf hB) (R.ex.less hy hf vH),R.frame _ _ hy,fun q hq z=>?_⟩
 have:=R.iT q hq
 rw [z,hy] at this;cases this
end
theorem su (v:V):∀ n pa ra,kM n pa ra≠mnF v:=fun n pa ra h=>by
 have:=congrArg List.length h
 simp [kM,mnF] at this
noncomputable def ig (A:Ad) (o:Option Mi.Flt) (B H:Hp) (y dy:Addr):Prop:=B y=none/\aV B H/\match o with
 | none=>H y=some (.ins (A.c .iE) dy (mnF .non))
 | some f=>∃ p,Rep A p f B H/\H y=some (.ins (A.c .iE) dy (mnF (.ref (p.a .fl))))/\(∀ q,(obj A p f q).isSome=true->p.a q≠y)/\Mi.WI f/\Mi.RI f
theorem ig.same {o:Option Mi.Flt} {B H H':Hp} {y dy:Addr} (m:ig A o B H y dy) (s:aV H H'):ig A o B H' y dy:=by
 obtain ⟨h1,h2,h3⟩:=m
 refine ⟨h1,h2.trans s,?_⟩
 cases o with
 | none=>exact s _ _ h3
 | some f=>
   obtain ⟨p,R,g1,g2,g3,g4⟩:=h3
   exact ⟨p,R.same s,s _ _ g1,g2,g3,g4⟩
theorem ig.at_ {o:Option Mi.Flt} {B H:Hp} {y dy:Addr} (m:ig A o B H y dy):∃ v,H y=some (.ins (A.c .iE) dy (mnF v)):=by
 obtain ⟨h1,h2,h3⟩:=m
 cases o with
 | none=>exact ⟨_,h3⟩
 | some f=>
   obtain ⟨p,R,g1,_⟩:=h3
   exact ⟨_,g1⟩
noncomputable def nG (A:Ad) (o:Option Mi.Flt) (l:List Int) (B:Hp) (y dy:Addr) (Q:VK):Prop:=∀ (H':Hp) (x:Addr),ig A o B H' y dy->H' x=some (.lst (l.map V.int))->B x=none->x≠y->Q (.ref x) H'
theorem nG.lay {o:Option Mi.Flt} {l:List Int} {B H:Hp} {y dy:Addr} {Q:VK} (k:nG A o l B y dy Q) (m:ig A o B H y dy) {x:Addr} (hx:H x=none):Q (.ref x) (upd H x (.lst (l.map V.int))):=by
 obtain ⟨v,hv⟩:=m.at_
 exact k _ x (m.same (aM hx)) aj (m.2.1.free hx) (fun z=>by rw [z,hv] at hx;cases hx)
noncomputable def rG (A:Ad):Sp:=fun vs H Q _=>∃ (o:Option Mi.Flt) (B:Hp) (y dy ca ra:Addr) (ras:List Addr) (n c r:Int) (l0 l1 l2 l3 l4:List Int),vs=[.ref y,.ref ca]/\ig A o B H y dy/\jR A B ca (0,[n,c,r]) [l0,l1,l2,l3,l4] ra ras/\
 1<=n/\n<=8/\1<=c/\c<=1000000/\1<=l0.length/\l0.length<=3/\1<=l1.length/\l1.length<=3/\(∀ z ∈ l0,1<=z/\z<=60)/\nG A (Mi.iF o [n,c,r] [l0,l1,l2,l3,l4]).1 (Mi.iF o [n,c,r] [l0,l1,l2,l3,l4]).2 B y dy Q
theorem B1 {α:Type} {l:List α} (h:l.length=5):∃ a b c d e,l=[a,b,c,d,e]:=by
 match l,h with
 | [a,b,c,d,e],_=>exact ⟨a,b,c,d,e,rfl⟩
theorem pY {a b:Nat}:(!decide (V.int (a:Int)=V.int (b:Int)))=decide (a≠b):=by
 by_cases h:a=b
 ·subst h;simp
 ·have:¬V.int (a:Int)=V.int (b:Int):=fun z=>by injection z with z;omega
  simp [h,this]
theorem pE (T:Txt K mg A):cD P w K mg base CX0 5 (A.f .cK) (A.fd .cK) (ps .cK) (rG A):=by
 refine (T.F .cK).ok gY (fun vs H Q E h=>?_) (fun cdv Ar outer s H vs Q E hr h=>?_)
 ·obtain ⟨o,B,y,dy,ca,ra,ras,n,c,r,l0,l1,l2,l3,l4,rfl,_⟩:=h
  rfl
 ·obtain ⟨o,B,y,dy,ca,ra,ras,n,c,r,l0,l1,l2,l3,l4,rfl,M,hc,n1,n8,c1,c2,a1,a2,b1,b2,ht,k⟩:=h
  refine ⟨_,(ab (bC (i:=2) gY.nd rfl (Or.inl rfl) (ae (pv 1) rfl))
   (ab (bC (i:=3) gY.nd rfl (Or.inl rfl) (aP aD rfl T.dX PySem.boot_len (ah (cB bo (pv 2) aB (fun _ _=>rfl)) af)))
   (ab (bC (i:=4) gY.nd rfl (Or.inl rfl) (cS mL (pv 3) (aP aD rfl T.dX PySem.boot_len (ah (cB bo (pv 2) aB (fun _ _=>rfl)) af))))
   (ab (cR (PW.pt (rT (bB uL (aP aD rfl T.dX PySem.boot_len (ah (cB bo (pv 2) aB (fun _ _=>rfl)) af)) (pv 3) (cn _)) (rT (bB uL (aP aD rfl T.dX PySem.boot_len (ah (cB bo (pv 2) aB (fun _ _=>rfl)) af)) (pv 4) (cn _)) (qB (bB uL (aP aD rfl T.dX PySem.boot_len (ah (cB bo (pv 2) aB (fun _ _=>rfl)) af)) (pv 4) (cn _)))))) (ag (aG (bM (ah (bD rfl T.jb) af)))) bE)
   (ab (bA (pv 0) (j9 (T.mak .Fleet) (oF T) hr rfl (T.gc .Fleet) (T.b .dv) (ah (cB bo (ae (pv 1) rfl) aB (fun _ _=>rfl)) (ah (cB bo (ae (pv 1) rfl) aB (fun _ _=>rfl)) (ah (cB bo (ae (pv 1) rfl) aB (fun _ _=>rfl)) (ah (pv 2) af))))) rfl)
   (ag (aG (bM (ah (bD rfl T.fj) af))))))))),?_⟩
  obtain ⟨b0,b1',b2',b3,b4,rfl⟩:=B1 hc.len
  have BH:=M.2.1
  have hy:=M.1
  have hcH:=hc.same BH
  obtain ⟨cdx,pa,g1,g2⟩:=hcH.at_
  obtain ⟨cdx',pa',g1',g2'⟩:=hc.at_
  have grw:=hcH.rw_
  have r0:=hcH.row 0 b0 l0 rfl rfl
  have r1:=hcH.row 1 b1' l1 rfl rfl
  have r2:=hcH.row 2 b2' l2 rfl rfl
  have r3:=hcH.row 3 b3 l3 rfl rfl
  have r4:=hcH.row 4 b4 l4 rfl rfl
  have k:nG A (if l2.length≠l0.length\/l3.length≠l0.length*l1.length\/l4.length≠l0.length*l1.length then (o,[-7]) else (some (Mi.dq n c r l0 l1 l2 l3 l4),[0])).1 (if l2.length≠l0.length\/l3.length≠l0.length*l1.length\/l4.length≠l0.length*l1.length then (o,[-7]) else (some (Mi.dq n c r l0 l1 l2 l3 l4),[0])).2 B y dy Q:=k
  have no:(l2.length≠l0.length\/l3.length≠l0.length*l1.length\/l4.length≠l0.length*l1.length)->∀ σ,zd (jX (tC (.int (-7))) pB) σ H Q:=fun e σ=>by
   rw [if_pos e] at k
   exact ⟨by show 1<=sizeLine;decide,fun x hx=>nG.lay (l:=[-7]) k M hx⟩
  have em:((l0.length:Nat):Int)*((l1.length:Nat):Int)=((l0.length*l1.length:Nat):Int):=by rw [Int.natCast_mul]
  walk_at "w"
  walk_at "v"
  refine ⟨_,_,_,_,rfl,rfl,SqL.of grw,bF (j:=0) (v:=V.ref b0) rfl,?_⟩
  refine ⟨_,_,rfl,.inl (SqL.of r0),?_⟩
  rw [List.length_map]
  walk_at "u"
  refine ⟨_,_,_,_,rfl,rfl,SqL.of grw,bF (j:=1) (v:=V.ref b1') rfl,?_⟩
  refine ⟨_,_,rfl,.inl (SqL.of r1),?_⟩
  rw [List.length_map]
  refine ⟨_,_,rfl,rfl,.inl ⟨by omega,by omega⟩,?_⟩
  walk_at "v"
  refine ⟨_,_,_,_,rfl,rfl,SqL.of grw,bF (j:=2) (v:=V.ref b2') rfl,?_⟩
  refine ⟨_,_,rfl,.inl (SqL.of r2),?_⟩
  rw [List.length_map]
  walk_at "v"
  refine ⟨rfl,?_⟩
  walk_at "v"
  refine dG (fun e1=>?_) (fun e1=>?_)
  ·have e1:(!decide (V.int ((l2.length:Nat):Int)=V.int ((l0.length:Nat):Int)))=true:=e1
   rw [pY] at e1
   exact no (.inl (of_decide_eq_true e1)) []
  ·have e1:¬(!decide (V.int ((l2.length:Nat):Int)=V.int ((l0.length:Nat):Int)))=true:=e1
   rw [pY] at e1
   have e1:=fun z=>e1 (decide_eq_true z)
   walk_at "v"
   refine ⟨_,_,_,_,rfl,rfl,SqL.of grw,bF (j:=3) (v:=V.ref b3) rfl,?_⟩
   refine ⟨_,_,rfl,.inl (SqL.of r3),?_⟩
   rw [List.length_map]
   walk_at "v"
   refine ⟨rfl,?_⟩
   walk_at "v"
   refine dG (fun e2=>?_) (fun e2=>?_)
   ·have e2:(!decide (V.int ((l3.length:Nat):Int)=V.int (((l0.length:Nat):Int)*((l1.length:Nat):Int))))=true:=e2
    rw [em,pY] at e2
    exact no (.inr (.inl (of_decide_eq_true e2))) []
   ·have e2:¬(!decide (V.int ((l3.length:Nat):Int)=V.int (((l0.length:Nat):Int)*((l1.length:Nat):Int))))=true:=e2
    rw [em,pY] at e2
    have e2:=fun z=>e2 (decide_eq_true z)
    walk_at "v"
    refine ⟨_,_,_,_,rfl,rfl,SqL.of grw,bF (j:=4) (v:=V.ref b4) rfl,?_⟩
    refine ⟨_,_,rfl,.inl (SqL.of r4),?_⟩
    rw [List.length_map]
    walk_at "v"
    refine ⟨rfl,?_⟩
    walk_at "v"
    refine dG (fun e3=>?_) (fun e3=>?_)
    ·have e3:(!decide (V.int ((l4.length:Nat):Int)=V.int (((l0.length:Nat):Int)*((l1.length:Nat):Int))))=true:=e3
     rw [em,pY] at e3
     exact no (.inr (.inr (of_decide_eq_true e3))) []
    ·have e3:¬(!decide (V.int ((l4.length:Nat):Int)=V.int (((l0.length:Nat):Int)*((l1.length:Nat):Int))))=true:=e3
     rw [em,pY] at e3
     have e3:=fun z=>e3 (decide_eq_true z)
     clear no
     rw [if_neg (fun z=>z.elim e1 fun z=>z.elim e2 e3)] at k
     have k:nG A (some (Mi.dq n c r l0 l1 l2 l3 l4)) [0] B y dy Q:=k
     obtain ⟨v,hv⟩:=M.at_
     walk_at "w"
     refine ⟨_,_,_,_,rfl,rfl,SqL.of g2,bF (j:=0) rfl,?_⟩
     walk_at "w"
     refine ⟨_,_,_,_,rfl,rfl,SqL.of g2,bF (j:=1) rfl,?_⟩
     walk_at "w"
     refine ⟨_,_,_,_,rfl,rfl,SqL.of g2,bF (j:=2) rfl,?_⟩
     walk_at "v"
     intro x dx hx hdx hne
     have s1:aV H (upd (upd H dx (.own x)) x (.ins (A.c .Fleet) dx [])):=fun b u e=>by
      rw [ax (cC e hx),ax (cC e hdx)];exact e
     have sP:aV (plus B y (.ins (A.c .iE) dy (mnF v))) H:=fun b u e=>by
      unfold plus at e
      by_cases q:b=y
      ·subst q;rw [aj] at e;cases e;exact hv
      ·rw [ax q] at e;exact BH b u e
     have pl:=fun b u e=>kf (o:=.ins (A.c .iE) dy (mnF v)) hy b u e
     refine ⟨plus B y (.ins (A.c .iE) dy (mnF v)),n,c,r,ra,b0,b1',b2',b3,b4,l0,l1,l2,l3,l4,x,dx,rfl,aj,sP.trans s1,?_,⟨pl _ _ hc.rw_,pl _ _ (hc.row 0 b0 l0 rfl rfl),pl _ _ (hc.row 1 b1' l1 rfl rfl),pl _ _ (hc.row 2 b2' l2 rfl rfl),pl _ _ (hc.row 3 b3 l3 rfl rfl),pl _ _ (hc.row 4 b4 l4 rfl rfl)⟩,by omega,n8,by omega,by omega,fun p1 H1 R1 e1'=>⟨rfl,?_⟩⟩
     ·exact sP.free hx
     ·obtain ⟨R2,hy2,ro2⟩:=R1.v8 hy (su v)
      walk_at "v"
      refine iK (fs':=mnF (.ref x)) ?_ hy2
      have R3:=R2.off (o:=.ins (A.c .iE) dy (mnF (.ref x))) ro2 hy
      have d1:l2.length=l0.length:=by
       by_cases q:l2.length=l0.length
       ·exact q
       ·exact absurd q e1
      have d2:l3.length=l0.length*l1.length:=by
       by_cases q:l3.length=l0.length*l1.length
       ·exact q
       ·exact absurd q e2
      have d3:l4.length=l0.length*l1.length:=by
       by_cases q:l4.length=l0.length*l1.length
       ·exact q
       ·exact absurd q e3
      have M3:ig A (some (Mi.dq n c r l0 l1 l2 l3 l4)) B (upd H1 y (.ins (A.c .iE) dy (mnF (.ref x)))) y dy:=
       ⟨hy,R3.frame,p1,R3,by rw [aj,e1'],ro2,Mi.xh n1 n8 c1 c2 a1 a2 b1 b2 d1 d2 d3 ht,⟨c1,c2,a1,a2,b1,b2,d1,d2,d3,ht⟩⟩
      exact ⟨by show 1<=sizeLine;decide,fun z hz=>nG.lay (l:=[0]) k M3 hz⟩
end
section
variable {P:Program} {w:World} {K:PySem.W.Frag} {mg:Str->Option Value} {base:Heap} {A:Ad}
theorem len0 {α:Type} {l:List α} (h:l.length=0):l=[]:=List.eq_nil_of_length_eq_zero h
theorem oS {α:Type} {l:List α} (h:l.length=1):∃ a,l=[a]:=by
 match l,h with
 | [a],_=>exact ⟨a,rfl⟩
theorem BC {α:Type} {l:List α} (h:l.length=2):∃ a b,l=[a,b]:=by
 match l,h with
 | [a,b],_=>exact ⟨a,b,rfl⟩
theorem BB {α:Type} {l:List α} (h:l.length=3):∃ a b c,l=[a,b,c]:=by
 match l,h with
 | [a,b,c],_=>exact ⟨a,b,c,rfl⟩
theorem AR {α:Type} {l:List α} (h:l.length=4):∃ a b c d,l=[a,b,c,d]:=by
 match l,h with
 | [a,b,c,d],_=>exact ⟨a,b,c,d,rfl⟩
theorem sJ {pl:List Int} {rows:List (List Int)} (h:Mi.cX 0 pl rows=true) (h1:pl.length=(Mi.cj 0).length) (h2:rows.length=(Mi.gk 0).length) :
  ∃ (n c r:Int) (l0 l1 l2 l3 l4:List Int),pl=[n,c,r]/\rows=[l0,l1,l2,l3,l4]/\1<=n/\n<=8/\1<=c/\c<=1000000/\1<=l0.length/\l0.length<=3/\1<=l1.length/\l1.length<=3/\∀ z ∈ l0,1<=z/\z<=60:=by
 obtain ⟨n,c,r,rfl⟩:=BB h1
 obtain ⟨l0,l1,l2,l3,l4,rfl⟩:=B1 h2
 simp [Mi.cX,Mi.dB,Mi.cj,Mi.gk,Mi.kq] at h
 refine ⟨n,c,r,l0,l1,l2,l3,l4,rfl,rfl,?_⟩
 obtain ⟨h1,⟨⟨h2,h3⟩,h4⟩,⟨⟨h5,h6⟩,_⟩,_⟩:=h
 refine ⟨by omega,by omega,by omega,by omega,by omega,by omega,by omega,by omega,fun z hz=>h4 z hz⟩
theorem nU {n:Int} {pl:List Int} {rows:List (List Int)} (h:Mi.cX n pl rows=true) (h1:pl.length=(Mi.cj n).length) (hn:n=1\/n=2\/n=3):Mi.COk (n,pl):=by
 rcases hn with rfl | rfl | rfl
 ·obtain ⟨a,b,c,d,rfl⟩:=AR h1
  simp [Mi.cX,Mi.dB,Mi.cj] at h
  exact .inl ⟨a,b,c,d,rfl,by omega,by omega,by omega,by omega,by omega,by omega,by omega,by omega⟩
 ·obtain ⟨a,b,c,d,rfl⟩:=AR h1
  simp [Mi.cX,Mi.dB,Mi.cj] at h
  exact .inr (.inl ⟨a,b,c,d,rfl,by omega,by omega,by omega,by omega,by omega,by omega,by omega,by omega⟩)
 ·obtain ⟨a,rfl⟩:=oS h1
  simp [Mi.cX,Mi.dB,Mi.cj] at h
  exact .inr (.inr ⟨a,rfl,by omega,by omega⟩)
theorem qz {n:Int} {pl:List Int} {rows:List (List Int)} (h:Mi.cX n pl rows=true) (h1:pl.length=(Mi.cj n).length) (hn:n=14\/n=15\/n=16):oH (n,pl):=by
 rcases hn with rfl | rfl | rfl
 ·obtain ⟨a,b,rfl⟩:=BC h1
  simp [Mi.cX,Mi.dB,Mi.cj] at h
  exact .inl ⟨a,b,rfl,by omega,by omega⟩
 ·obtain ⟨a,rfl⟩:=oS h1
  exact .inr (.inl ⟨a,rfl⟩)
 ·obtain ⟨a,rfl⟩:=oS h1
  simp [Mi.cX,Mi.dB,Mi.cj] at h
  exact .inr (.inr ⟨a,rfl,by omega,by omega⟩)
theorem tO {n:Int} {pl:List Int} {rows:List (List Int)} (h:Mi.cX n pl rows=true) (h1:pl.length=(Mi.cj n).length) (h2:rows.length=(Mi.gk n).length) (n0:4<=n) (n17:n<=17) (hn:¬(n=14\/n=15\/n=16)):ua (n,pl) rows:=by
 have cs:n=4\/n=5\/n=6\/n=7\/n=8\/n=9\/n=10\/n=11\/n=12\/n=13\/n=17:=by omega
 unfold ua
 rcases cs with rfl | rfl | rfl | rfl | rfl | rfl | rfl | rfl | rfl | rfl | rfl
 ·obtain ⟨a,rfl⟩:=oS h1
  simp [Mi.cX,Mi.dB,Mi.cj] at h
  exact .inl ⟨a,rfl,by omega⟩
 ·obtain ⟨a,rfl⟩:=oS h1
  simp [Mi.cX,Mi.dB,Mi.cj] at h
  exact .inr (.inl ⟨a,rfl,by omega⟩)
 ·obtain ⟨a,rfl⟩:=oS h1
  simp [Mi.cX,Mi.dB,Mi.cj] at h
  exact .inr (.inr (.inl ⟨a,rfl,by omega⟩))
 ·obtain ⟨a,rfl⟩:=oS h1
  simp [Mi.cX,Mi.dB,Mi.cj] at h
  exact .inr (.inr (.inr (.inl ⟨a,rfl,by omega⟩)))
 ·obtain ⟨a,rfl⟩:=oS h1
  simp [Mi.cX,Mi.dB,Mi.cj] at h
  exact .inr (.inr (.inr (.inr (.inl ⟨a,rfl,by omega⟩))))
 ·obtain ⟨a,rfl⟩:=oS h1
  simp [Mi.cX,Mi.dB,Mi.cj] at h
  exact .inr (.inr (.inr (.inr (.inr (.inl ⟨a,rfl,by omega⟩)))))
 ·rw [len0 h1]
  exact .inr (.inr (.inr (.inr (.inr (.inr (.inl rfl))))))
 ·rw [len0 h1]
  exact .inr (.inr (.inr (.inr (.inr (.inr (.inr (.inl rfl)))))))
 ·obtain ⟨a,rfl⟩:=oS h1
  simp [Mi.cX,Mi.dB,Mi.cj] at h
  exact .inr (.inr (.inr (.inr (.inr (.inr (.inr (.inr (.inl ⟨a,rfl,by omega⟩))))))))
 ·obtain ⟨l,rfl⟩:=oS h2
  rw [len0 h1] at h ⊢
  simp [Mi.cX,Mi.dB,Mi.cj,Mi.gk,Mi.kq] at h
  exact .inr (.inr (.inr (.inr (.inr (.inr (.inr (.inr (.inr (.inl ⟨rfl,l,rfl,by omega⟩)))))))))
 ·rw [len0 h1]
  exact .inr (.inr (.inr (.inr (.inr (.inr (.inr (.inr (.inr (.inr rfl)))))))))
theorem rR {f:Mi.Flt} {c:Int×List Int} {rows:List (List Int)} (h:oH c):Mi.fI f c rows=Mi.fI f c []:=by
 rcases h with ⟨r,n,rfl,_⟩ | ⟨m,rfl⟩ | ⟨n,rfl,_⟩<;>rfl
noncomputable def wF (A:Ad):Sp:=fun vs H Q _=>∃ (o:Option Mi.Flt) (B:Hp) (y dy ca ra:Addr) (ras:List Addr) (n:Int) (pl:List Int) (rows:List (List Int)),vs=[.ref y,.ref ca]/\ig A o B H y dy/\jR A B ca (n,pl) rows ra ras/\0<=n/\n<=17/\
 pl.length=(Mi.cj n).length/\rows.length=(Mi.gk n).length/\(∀ l ∈ rows,l.length<=20000)/\(∀ f,o=some f->f.told.length<=999)/\nG A (Mi.answer o n pl rows).1 (Mi.answer o n pl rows).2 B y dy Q
theorem in3 {d a b c:Int}:([a,b,c]:List Int).contains d=true ↔ (d=a\/d=b\/d=c):=by
 simp
theorem oG (T:Txt K mg A):cD P w K mg base CX0 12 (A.f .cA) (A.fd .cA) (ps .cA) (wF A):=by
 refine (T.F .cA).ok om (fun vs H Q E h=>?_) (fun cdv Ar outer s H vs Q E hr h=>?_)
 ·obtain ⟨o,B,y,dy,ca,ra,ras,n,pl,rows,rfl,_⟩:=h
  rfl
 ·obtain ⟨o,B,y,dy,ca,ra,ras,n,pl,rows,rfl,M,hc,n0,n17,lp,lr,hz,ht,k⟩:=h
  refine ⟨_,(ab (cR (jw (gT (aO (lx T) (hr.mono (by decide)) rfl (T.g .aU rfl) (T.F .aU).kp (T.b .aU) (ah (pv 1) af)))) (ag (aG (bM (ah (bD rfl T.kE) af)))) bE)
   (ab (cR (bB gd (ae (pv 1) rfl) (bD rfl T.mv) (cn _)) (ag (aG (aO (pE T) (hr.mono (by decide)) rfl (T.g .cK rfl) (T.F .cK).kp (T.b .cK) (ah (pv 0) (ah (pv 1) af))))) bE)
   (ab (cR (mK (tZ (ae (pv 0) rfl))) (ag (aG (bM (ah (bD rfl T.oZ) af)))) bE)
   (ab (cR (bB jf (ae (pv 1) rfl) (jH rfl T.jM) (by with_unfolding_all rfl)) (ag (aG (aO (uO T) (hr.mono (by decide)) rfl (T.g .tell rfl) (T.F .tell).kp (T.b .tell) (ah (ae (pv 0) rfl) (ah (pv 1) af))))) bE)
   (ab (cR (bB jf (ae (pv 1) rfl) (jH rfl T.j0) (by with_unfolding_all rfl)) (ag (aG (aO (vK T) hr rfl (T.g .replay rfl) (T.F .replay).kp (T.b .replay) (ah (ae (pv 0) rfl) (ah (pv 1) af))))) bE)
   (ag (aG (aO (yy T) (hr.mono (by decide)) rfl (T.g .show rfl) (T.F .show).kp (T.b .show) (ah (ae (pv 0) rfl) (ah (pv 1) af)))))))))),?_⟩
  unfold Mi.answer at k
  have hcH:=hc.same M.2.1
  walk_at "v"
  refine ⟨ca,ra,ras,n,pl,rows,rfl,hcH,n0,n17,hz,lp,lr,fun H1 s1=>?_⟩
  have M1:=M.same s1
  have hc1:=hcH.same s1
  obtain ⟨cdx,pa,g1,g2⟩:=hc1.at_
  walk_at "v"
  cases e0:Mi.cX n pl rows with
  | false=>
    rw [if_pos e0] at k
    exact ⟨by show 1<=sizeLine;decide,fun x hx=>nG.lay (l:=[-1]) k M1 hx⟩
  | true=>
    rw [if_neg (by rw [e0];decide)] at k
    walk_at "w"
    refine ⟨rfl,?_⟩
    walk_at "v"
    refine dG (fun e1=>?_) (fun e1=>?_)
    ·have e1:n=0:=eqI e1
     rw [if_pos e1] at k
     subst e1
     obtain ⟨m,c,r,l0,l1,l2,l3,l4,rfl,rfl,q⟩:=sJ e0 lp lr
     obtain ⟨q1,q2,q3,q4,q5,q6,q7,q8,q9⟩:=q
     walk_at "u"
     exact ⟨o,B,y,dy,ca,ra,ras,m,c,r,l0,l1,l2,l3,l4,rfl,M1,hc,q1,q2,q3,q4,q5,q6,q7,q8,q9,k⟩
    ·have e1:¬n=0:=neI e1
     rw [if_neg e1] at k
     cases o with
     | none=>
       have hy:=M1.2.2
       walk_at "w";walk_at "v"
       exact ⟨by show 1<=sizeLine;decide,fun x hx=>nG.lay (l:=[-8]) k M1 hx⟩
     | some f=>
       have Mk:=M1
       obtain ⟨By,BH,p,R,hy,ro,W,RI⟩:=M1
       walk_at "w";walk_at "v"
       walk_at "w"
       refine ⟨_,[.int 1,.int 2,.int 3],rfl,.inr (T.jG H1),rfl,rfl,?_⟩
       walk_at "v"
       have e2':(if false=true then !inV (V.int n) [.int 1,.int 2,.int 3] else inV (V.int n) [.int 1,.int 2,.int 3])=([1,2,3]:List Int).contains n:=by
        rw [if_neg (by decide)];exact kx _ [1,2,3]
       have tf:=ht f rfl
       refine dG (fun e2=>?_) (fun e2=>?_)
       ·have e2:=in3.mp (e2'.symm.trans e2)
        have k:nG A (some (Mi.tell f (n,pl)).1) (Mi.tell f (n,pl)).2 B y dy Q:=by
         have:=k
         simp only [if_pos e2] at this
         exact this
        have cok:=nU e0 lp e2
        walk_at "w";walk_at "v"
        refine ⟨plus B y (.ins (A.c .iE) dy (mnF (.ref (p.a .fl)))),p,f,ca,(n,pl),rfl,R.more ro By hy,W,by omega,(hc.same fun b u e=>kf By b u e).call,cok,fun p2 H2 x R2 e3 a2=>?_⟩
        obtain ⟨R3,hy3,ro3⟩:=R2.v8 By (su _)
        have W2:=(Mi.m5 W cok).1
        have RI2:=(Mi.qk W cok).ri RI
        refine k H2 x ⟨By,R3.frame,p2,R3,by rw [e3];exact hy3,ro3,W2,RI2⟩ a2.at_ ?_ ?_
        ·cases q:B x with
         | none=>rfl
         | some u=>have:=a2.B;rw [kf By x u q] at this;cases this
        ·intro z
         have:=a2.B
         unfold plus at this
         rw [z,aj] at this;cases this
       ·have e2:¬(n=1\/n=2\/n=3):=fun z=>e2 (e2'.trans (in3.mpr z))
        have k:nG A (some f) (Mi.fI f (n,pl) rows) B y dy Q:=by
         have:=k
         simp only [if_neg e2] at this
         exact this
        have fin:ie H1 (Mi.fI f (n,pl) rows) Q:=fun H2 x hx hx2 s2=>k H2 x (Mk.same s2) hx2 (BH.free hx) (fun z=>by rw [z,hy] at hx;cases hx)
        walk_at "w"
        refine ⟨_,[.int 14,.int 15,.int 16],rfl,.inr (T.iW H1),rfl,rfl,?_⟩
        walk_at "v"
        have e3':(if false=true then !inV (V.int n) [.int 14,.int 15,.int 16] else inV (V.int n) [.int 14,.int 15,.int 16])=([14,15,16]:List Int).contains n:=by
         rw [if_neg (by decide)];exact kx _ [14,15,16]
        refine dG (fun e3=>?_) (fun e3=>?_)
        ·have e3:=in3.mp (e3'.symm.trans e3)
         have rok:=qz e0 lp e3
         rw [rR rok] at fin
         walk_at "w";walk_at "v"
         exact ⟨p,f,ca,(n,pl),rfl,R.sees,W,RI,by omega,hc1.call,rok,fin⟩
        ·have e3:=fun z=>e3 (e3'.trans (in3.mpr z))
         have sok:=tO e0 lp lr (by omega) n17 e3
         walk_at "w";walk_at "v"
         exact ⟨p,f,ca,ra,ras,(n,pl),rows,rfl,R.sees,W,RI,by omega,hc1,sok,fin⟩
end
section
variable {P:Program} {w:World} {K:PySem.W.Frag} {mg:Str->Option Value} {base:Heap} {A:Ad}
inductive sY (ns:List Int):Nat->List (Int×List Int×List (List Int))->Prop
 | nil:sY ns ns.length []
 | cons {i j:Nat} {n:Int} {pl:List Int} {rows:List (List Int)} {cs:List (Int×List Int×List (List Int))}:Parse ns i n pl rows j->sY ns j cs->sY ns i ((n,pl,rows)::cs)
noncomputable def gI (o:Option Mi.Flt):List (Int×List Int×List (List Int))->List Int
 | []=>[]
 | (n,pl,rows)::cs=>((Mi.answer o n pl rows).2.length:Int)::(Mi.answer o n pl rows).2++gI (Mi.answer o n pl rows).1 cs
theorem RR.facts {ns:List Int} {i k j:Nat} {rows:List (List Int)} (h:RR ns i k rows j):rows.length=k/\i<=j/\∀ l ∈ rows,l.length<=ns.length:=by
 induction h with
 | nil i=>exact ⟨rfl,Nat.le_refl _,fun l hl=>absurd hl (by simp)⟩
 | cons h1 h2 h3 ih=>
   obtain ⟨a,b,c⟩:=ih
   refine ⟨by simp [a],by omega,fun l hl=>?_⟩
   rcases List.mem_cons.mp hl with rfl | hl
   ·rw [List.length_take,List.length_drop];omega
   ·exact c l hl
theorem Parse.lt {ns:List Int} {i j:Nat} {n:Int} {pl:List Int} {rows:List (List Int)} (h:Parse ns i n pl rows j):i < j:=by
 have:=h.rows.facts.2.1;omega
theorem RR.le {ns:List Int} {i k j:Nat} {rows:List (List Int)} (h:RR ns i k rows j):i<=ns.length->j<=ns.length:=by
 induction h with
 | nil i=>exact id
 | cons h1 h2 h3 ih=>exact fun _=>ih h2
theorem Parse.zI {ns:List Int} {i j:Nat} {n:Int} {pl:List Int} {rows:List (List Int)} (h:Parse ns i n pl rows j):pl.length=(Mi.cj n).length:=by
 rw [h.pl,List.length_take,List.length_drop]
 have:=h.le
 omega
theorem sW {o:Option Mi.Flt} {n:Int} {pl:List Int} {rows:List (List Int)} {m:Nat} (hp:pl.length=(Mi.cj n).length) (hw:∀ f,o=some f->Mi.WI f) (h:∀ f,o=some f->f.told.length<=m):∀ f,(Mi.answer o n pl rows).1=some f->f.told.length<=m+1:=by
 intro g hg
 unfold Mi.answer at hg
 by_cases e0:Mi.cX n pl rows=false
 ·rw [if_pos e0] at hg;have:=h g hg;omega
 ·rw [if_neg e0] at hg
  have e0:Mi.cX n pl rows=true:=by cases q:Mi.cX n pl rows with
   | true=>rfl
   | false=>exact absurd q e0
  by_cases e1:n=0
  ·rw [if_pos e1] at hg
   unfold Mi.iF at hg
   split at hg
   ·split at hg
    ·have:=h g hg;omega
    ·cases hg;exact Nat.zero_le _
   ·have:=h g hg;omega
  ·rw [if_neg e1] at hg
   cases o with
   | none=>cases hg
   | some f=>
     simp only at hg
     have hf:=h f rfl
     by_cases e2:n=1\/n=2\/n=3
     ·rw [if_pos e2] at hg
      cases hg
      have:=Mi.rA (hw f rfl) (nU e0 hp e2)
      omega
     ·rw [if_neg e2] at hg
      cases hg;omega
noncomputable def jP (A:Ad) (o:Option Mi.Flt) (B H:Hp) (y dy x g:Addr):Prop:=B y=none/\B x=none/\B g=none/\x≠y/\g≠y/\aV B H/\match o with
 | none=>H y=some (.ins (A.c .iE) dy (mnF .non))
 | some f=>∃ p,Rep A p f B H/\H y=some (.ins (A.c .iE) dy (mnF (.ref (p.a .fl))))/\(∀ q,(obj A p f q).isSome=true->p.a q≠y/\p.a q≠x/\p.a q≠g)/\Mi.WI f/\Mi.RI f
open Classical in
theorem jP.enter {o:Option Mi.Flt} {B H H1:Hp} {y dy x g:Addr} (m:jP A o B H y dy x g) (st:∀ b u,H b=some u->b≠x->b≠g->H1 b=some u) :
  ∃ B',ig A o B' H1 y dy/\aV B B'/\∀ b u,H1 b=some u->(H b=none\/b=x\/b=g)->B' b=some u:=by
 obtain ⟨By,Bx,Bg,xy,gy,BH,m⟩:=m
 have stB:∀ b u,B b=some u->H1 b=some u:=fun b u e=>st b u (BH b u e) (fun z=>by rw [z,Bx] at e;cases e) (fun z=>by rw [z,Bg] at e;cases e)
 cases o with
 | none=>
   refine ⟨fun b=>if b=y then none else H1 b,⟨if_pos rfl,fun b u e=>?_,st _ _ m (Ne.symm xy) (Ne.symm gy)⟩,fun b u e=>?_,fun b u e h=>?_⟩
   ·by_cases q:b=y
    ·simp only [if_pos q] at e;cases e
    ·simp only [if_neg q] at e;exact e
   ·have q:b≠y:=fun z=>by rw [z,By] at e;cases e
    simp only [if_neg q];exact stB b u e
   ·have q:b≠y:=fun z=>by
     rcases h with h | h | h
     ·rw [z,m] at h;cases h
     ·exact xy (h.symm.trans z)
     ·exact gy (h.symm.trans z)
    simp only [if_neg q];exact e
 | some f=>
   obtain ⟨p,R,hy,ro,W,RI⟩:=m
   have sub:aV B (fun b=>if b=y\/∃ q,(obj A p f q).isSome=true/\p.a q=b then none else H1 b):=fun b u e=>by
    have q:¬(b=y\/∃ q,(obj A p f q).isSome=true/\p.a q=b):=fun z=>by
     rcases z with z | ⟨q,hq,z⟩
     ·rw [z,By] at e;cases e
     ·rw [<-z,R.iT q hq] at e;cases e
    simp only [if_neg q];exact stB b u e
   have fr:aV (fun b=>if b=y\/∃ q,(obj A p f q).isSome=true/\p.a q=b then none else H1 b) H1:=fun b u e=>by
    by_cases q:b=y\/∃ q,(obj A p f q).isSome=true/\p.a q=b
    ·simp only [if_pos q] at e;cases e
    ·simp only [if_neg q] at e;exact e
   refine ⟨_,⟨if_pos (.inl rfl),fr,p,⟨fun r u h=>?_,R.inj,fr,fun r hr=>if_pos (.inr ⟨r,hr,rfl⟩),R.ex.same sub⟩,st _ _ hy (Ne.symm xy) (Ne.symm gy),fun q hq=>(ro q hq).1,W,RI⟩,sub,fun b u e h=>?_⟩
   ·have:=ro r (by rw [h];rfl)
    exact st _ _ (R.own r u h) this.2.1 this.2.2
   ·have q:¬(b=y\/∃ q,(obj A p f q).isSome=true/\p.a q=b):=fun z=>by
     rcases h with h | h | h
     ·rcases z with z | ⟨q,hq,z⟩
      ·rw [z,hy] at h;cases h
      ·obtain ⟨v,hv⟩:=Option.isSome_iff_exists.mp hq
       rw [<-z,R.own q v hv] at h;cases h
     ·rcases z with z | ⟨q,hq,z⟩
      ·exact xy (h.symm.trans z)
      ·exact (ro q hq).2.1 (z.trans h)
     ·rcases z with z | ⟨q,hq,z⟩
      ·exact gy (h.symm.trans z)
      ·exact (ro q hq).2.2 (z.trans h)
    simp only [if_neg q];exact e
theorem Ex.Bt {p:Pl} {f:Mi.Flt} {B B2:Hp} {x g C dx:Addr} {fs:List (Str×V)} {g0:Bool} {u:HO} (e:Ex A p f B2) (hx:B2 x=some (.ins C dx fs)) (hf:∀ n pa ra,kM n pa ra≠fs) (hg:B2 g=some u) (gl:∀ xs,u≠.lst xs) (gi:∀ C d fs,u≠.ins C d fs) (sub:∀ b v,B2 b=some v->b≠x->b≠g->B b=some v):Ex A p f B:=by
 have l:∀ {b:Addr} {xs:List V},B2 b=some (.lst xs)->B b=some (.lst xs):=fun {b xs} h=>sub b _ h (mj h hx (by intro z;cases z)) (mj h hg (fun z=>gl _ z.symm))
 refine ⟨l e.rows,l e.h0,l e.h1,l e.h2,l e.h3,l e.h4,e.cl,fun k a c h1 h2=>?_⟩
 obtain ⟨dx',pa,ra,g1,g2⟩:=e.call k a c h1 h2
 exact ⟨dx',pa,ra,sub a _ g1 (mj g1 hx (by intro z;injection z with _ _ z;exact hf _ _ _ z)) (mj g1 hg (fun z=>gi _ _ _ z.symm)),l g2⟩
theorem wK (na:Addr) (i:Nat):∀ n pa ra,kM n pa ra≠rdF na i:=fun n pa ra h=>by
 have:=congrArg List.length h
 simp [kM,rdF] at this
open Classical in
theorem jP.leave {o:Option Mi.Flt} {B B' H:Hp} {y dy x g C dx:Addr} {fs:List (Str×V)} {u:HO} (m:ig A o B' H y dy) (hx:B' x=some (.ins C dx fs)) (hf:∀ n pa ra,kM n pa ra≠fs) (hg:B' g=some u) (gl:∀ xs,u≠.lst xs) (gi:∀ C d fs,u≠.ins C d fs) (s:aV B B') (Bx:B x=none) (Bg:B g=none) :
  ∃ B2,jP A o B2 H y dy x g/\aV B B2:=by
 obtain ⟨By,BH,m⟩:=m
 have q1:(fun b=>if b=x\/b=g then none else B' b) x=none:=if_pos (.inl rfl)
 have q2:(fun b=>if b=x\/b=g then none else B' b) g=none:=if_pos (.inr rfl)
 have q3:x≠y:=fun z=>by rw [z,By] at hx;cases hx
 have q4:g≠y:=fun z=>by rw [z,By] at hg;cases hg
 refine ⟨fun b=>if b=x\/b=g then none else B' b,⟨?_,q1,q2,q3,q4,?_,?_⟩,fun b v e=>?_⟩
 ·show (if y=x\/y=g then none else B' y)=none
  split
  ·rfl
  ·exact By
 ·intro b v e
  by_cases q:b=x\/b=g
  ·simp only [if_pos q] at e;cases e
  ·simp only [if_neg q] at e;exact BH b v e
 ·have fr:aV (fun b=>if b=x\/b=g then none else B' b) B':=fun b v e=>by
   by_cases q:b=x\/b=g
   ·simp only [if_pos q] at e;cases e
   ·simp only [if_neg q] at e;exact e
  cases o with
  | none=>exact m
  | some f=>
    obtain ⟨p,R,h1,h2,h3,h4⟩:=m
    refine ⟨p,R.less (fun b v e=>fr b v e) (R.ex.Bt (g0:=true) hx hf hg gl gi fun b v e q1 q2=>?_),h1,fun q hq=>⟨h2 q hq,fun z=>?_,fun z=>?_⟩,h3,h4⟩
    ·have:¬(b=x\/b=g):=fun z=>z.elim q1 q2
     simp only [if_neg this];exact e
    ·have:=R.iT q hq;rw [z,hx] at this;cases this
    ·have:=R.iT q hq;rw [z,hg] at this;cases this
 ·have q:¬(b=x\/b=g):=fun z=>by
   rcases z with z | z
   ·rw [z,Bx] at e;cases e
   ·rw [z,Bg] at e;cases e
  simp only [if_neg q];exact s b v e
theorem jP.step {o:Option Mi.Flt} {B H H3:Hp} {y dy x g:Addr} (m:jP A o B H y dy x g) (st:∀ b,b≠g->H3 b=H b):jP A o B H3 y dy x g:=by
 obtain ⟨By,Bx,Bg,xy,gy,BH,m⟩:=m
 have fr:aV B H3:=fun b u e=>by rw [st b (fun z=>by rw [z,Bg] at e;cases e)];exact BH b u e
 refine ⟨By,Bx,Bg,xy,gy,fr,?_⟩
 cases o with
 | none=>exact (st y (Ne.symm gy)).trans m
 | some f=>
   obtain ⟨p,R,h1,h2,h3,h4⟩:=m
   exact ⟨p,⟨fun r u h=>by rw [st _ (h2 r (by rw [h];rfl)).2.2];exact R.own r u h,R.inj,fr,R.iT,R.ex⟩,(st y (Ne.symm gy)).trans h1,h2,h3,h4⟩
theorem jP.wi {o:Option Mi.Flt} {B H:Hp} {y dy x g:Addr} (m:jP A o B H y dy x g):∀ f,o=some f->Mi.WI f:=fun f e=>by
 subst e
 obtain ⟨By,Bx,Bg,xy,gy,BH,p,R,h1,h2,h3,h4⟩:=m
 exact h3
theorem sqB {B H:Hp} {na:Addr} {xs:List V} (h:SqL K B na xs) (s:aV B H):SqL K H na xs:=by
 rcases h with (h | ⟨u,h⟩) | h
 ·exact .inl (.inl (s na _ h))
 ·exact .inl (.inr ⟨u,s na _ h⟩)
 ·exact .inr h
noncomputable def mH (K:PySem.W.Frag):Sp:=fun vs H Q _=>∃ (na:Addr) (ns:List Int) (cs:List (Int×List Int×List (List Int))),vs=[.ref na]/\SqL K H na (ns.map V.int)/\ns.length<=20000/\sY ns 0 cs/\cs.length<=900/\(gI none cs).length < sizeLine/\
 ∀ (H':Hp) (g:Addr),H' g=some (.lst ((gI none cs).map V.int))->Q (.ref g) H'
theorem u9 (T:Txt K mg A):cD P w K mg base CX0 13 (A.f .answers) (A.fd .answers) (ps .answers) (mH K):=by
 refine (T.F .answers).ok iM (fun vs H Q E h=>?_) (fun cdv Ar outer s H vs Q E hr h=>?_)
 ·obtain ⟨na,ns,cs,rfl,_⟩:=h
  rfl
 ·obtain ⟨na,ns,cs,rfl,hn,nl,pa,cl,tl,k⟩:=h
  refine ⟨_,(ab (bC (i:=1) iM.nd rfl (Or.inl rfl) (wV (T.mak .iE) (vM T) (hr.mono (by decide)) rfl (T.gc .iE) (T.b .eK) .nil mf))
   (ab (bC (i:=2) iM.nd rfl (Or.inl rfl) (j9 (T.mak .Reader) (sj T) (hr.mono (by decide)) rfl (T.gc .Reader) (T.b .cW) (ah (pv 0) af)))
   (ab (bC (i:=3) iM.nd rfl (Or.inl rfl) (bM af))
   (ab (wO PassesOwn.never (gT (ox (pv 2) (T.cl .Reader) T.bJ (pI T) (hr.mono (by decide)) (T.b .bJ) .nil mf))
   (ab (yn (bC (i:=4) iM.nd rfl (Or.inl rfl) (aO (oG T) hr rfl (T.g .cA rfl) (T.F .cA).kp (T.b .cA) (ah (pv 1) (ah (aO (qM T) (hr.mono (by decide)) rfl (T.g .dm rfl) (T.F .dm).kp (T.b .dm) (ah (pv 2) af)) af)))))
   (ab (cH (jI PySem.F.plainAttrs_list PySem.F.slot_list_append PySem.F.type_list_append gB (pv 3) (ah (aP aD rfl T.dX PySem.boot_len (ah (pv 4) af)) af)))
   (ag (cH (jI PySem.F.plainAttrs_list PySem.F.slot_list_extend PySem.F.type_list_extend mR (pv 3) (ah (pv 4) af)))))))
   (ag (aG (pv 3))))))),?_⟩
  intro y dy hy hdy hne
  refine ⟨y,dy,rfl,aj,fun H1 hy1 keep1=>⟨rfl,?_⟩⟩
  have s1:aV H H1:=aV.made hy hdy keep1
  walk_at "v"
  intro x dx hx hdx hne2
  refine ⟨na,x,dx,rfl,aj,fun H2 hx2 keep2=>⟨rfl,?_⟩⟩
  have s2:aV H1 H2:=aV.made hx hdx keep2
  refine ⟨Nat.zero_le _,fun g hg=>?_⟩
  have hy2:=s2 _ _ hy1
  have hy3:(upd H2 g (.lst [])) y=some (.ins (A.c .iE) dy (mnF .non)):=(aM hg) _ _ hy2
  have hx3:(upd H2 g (.lst [])) x=some (.ins (A.c .Reader) dx (rdF na 0)):=(aM hg) _ _ hx2
  have s3:aV H (upd H2 g (.lst [])):=(s1.trans s2).trans (aM hg)
  have hg3:(upd H2 g (.lst [])) g=some (.lst []):=aj
  have xy:x≠y:=fun z=>by rw [z,hy1] at hx;cases hx
  have gy:g≠y:=fun z=>by rw [z,hy2] at hg;cases hg
  have gx:g≠x:=fun z=>by rw [z,hx2] at hg;cases hg
  have M0:jP A none H (upd H2 g (.lst [])) y dy x g:=⟨hy,s1.free hx,(s1.trans s2).free hg,xy,gy,s3,hy3⟩
  revert hx3 hg3 M0
  generalize upd H2 g (.lst [])=H3
  intro hx3 hg3 M0
  clear s3 hy3
  refine wo (fun σ H'=>∃ (v:Option V) (i:Nat) (o:Option Mi.Flt) (B:Hp) (acc:List Int) (ct:List (Int×List Int×List (List Int))),σ=[some (.ref na),some (.ref y),some (.ref x),some (.ref g),v]/\H' x=some (.ins (A.c .Reader) dx (rdF na i))/\H' g=some (.lst (acc.map V.int))/\jP A o B H' y dy x g/\SqL K B na (ns.map V.int)/\
    sY ns i ct/\acc++gI o ct=gI none cs/\ct.length<=900/\∀ f,o=some f->f.told.length+ct.length<=900)
   (fun σ H'=>match H' x with
    | some (.ins _ _ [_,(_,.int z)])=>ns.length - z.toNat
    | _=>0) ⟨none,0,none,H,[],cs,rfl,hx3,hg3,M0,hn,pa,rfl,cl,fun f e=>by cases e⟩ ?_ ?_
  ·rintro σ H4 ⟨v,i,o,B,acc,ct,rfl,hx4,hg4,M4,hB,pr,ea,hl,ht⟩
   have mu:(match H4 x with
    | some (.ins _ _ [_,(_,.int z)])=>ns.length - z.toNat
    | _=>0)=ns.length - i:=by rw [hx4];simp [rdF]
   have hn4:=sqB hB M4.2.2.2.2.2.1
   walk_at "v"
   refine ⟨_,_,_,rfl,hx4,rfl,?_⟩
   refine ⟨x,dx,na,i,ns,rfl,hx4,hn4,?_⟩
   cases pr with
   | nil=>
     rw [show gI o []=[] from rfl,List.append_nil] at ea
     rw [ea] at hg4
     walk_at "v"
     refine dG (fun e=>absurd (of_decide_eq_true e) (by omega)) (fun _=>?_)
     walk_at "v"
     exact k H4 g hg4
   | @cons _ j n pl rows ct' h1 h2=>
     have lt:=h1.lt
     have le:=h1.le
     have jl:=h1.rows.le (by omega)
     have fa:=h1.rows.facts
     walk_at "v"
     refine dG (fun _=>?_) (fun e=>absurd (decide_eq_true (by omega)) e)
     refine ⟨g,_,hg4,?_,fun od=>?_⟩
     ·exact trivial
     have xg:x≠g:=Ne.symm gx
     have hx5:(upd H4 g (.frz od (.lst (acc.map V.int)))) x=some (.ins (A.c .Reader) dx (rdF na i)):=by rw [ax xg];exact hx4
     have hg5:(upd H4 g (.frz od (.lst (acc.map V.int)))) g=some (.frz od (.lst (acc.map V.int))):=aj
     have s5:∀ b,b≠g->(upd H4 g (.frz od (.lst (acc.map V.int)))) b=H4 b:=fun b hb=>ax hb
     revert hx5 hg5 s5
     generalize upd H4 g (.frz od (.lst (acc.map V.int)))=H5
     intro hx5 hg5 s5
     have Bg:=M4.2.2.1
     have BH4:=M4.2.2.2.2.2.1
     have hn5:SqL K H5 na (ns.map V.int):=sqB hB fun b u e=>by rw [s5 b (fun z=>by rw [z,Bg] at e;cases e)];exact BH4 b u e
     walk_at "u"
     refine ⟨x,dx,na,i,j,ns,n,pl,rows,rfl,hx5,hn5,h1,fun H6 ca ra ras n6 hc=>?_⟩
     obtain ⟨B',M6,sB,hB'⟩:=M4.enter (H1:=H6) fun b u e q1 q2=>n6.2 b u (by rw [s5 b q2];exact e) q1
     have hg6:H6 g=some (.frz od (.lst (acc.map V.int))):=n6.2 g _ hg5 gx
     have Bx':=hB' x _ n6.1 (.inr (.inl rfl))
     have Bg':=hB' g _ hg6 (.inr (.inr rfl))
     have hc':jR A B' ca (n,pl) rows ra ras:=hc.same fun b u e=>by
      obtain ⟨q1,q2⟩:=AL e
      refine hB' b u q2 ?_
      by_cases q:b=g
      ·exact .inr (.inr q)
      ·exact .inl (by rw [<-s5 b q];exact q1)
     have wi:=M4.wi
     refine ⟨o,B',y,dy,ca,ra,ras,n,pl,rows,rfl,M6,hc',h1.n0,h1.n17,h1.zI,fa.1,fun l hl=>Nat.le_trans (fa.2.2 l hl) nl,fun f e=>by have:=ht f e;rw [List.length_cons] at this;omega,fun H7 z M7 hz Bz zy=>?_⟩
     obtain ⟨B2,M8,sB2⟩:=jP.leave M7 Bx' (wK na j) Bg' (fun xs q=>by cases q) (fun C d fs q=>by cases q) sB M4.2.1 Bg
     have hg7:=M7.2.1 g _ Bg'
     have hx7:=M7.2.1 x _ Bx'
     have zg:z≠g:=fun q=>by rw [q,Bg'] at Bz;cases Bz
     have zx:z≠x:=fun q=>by rw [q,Bx'] at Bz;cases Bz
     refine ⟨hg7,?_⟩
     have ea':(acc++[((Mi.answer o n pl rows).2.length:Int)]++(Mi.answer o n pl rows).2)++gI (Mi.answer o n pl rows).1 ct'=gI none cs:=by
      rw [<-ea]
      show _=acc++(((Mi.answer o n pl rows).2.length:Int)::(Mi.answer o n pl rows).2++gI (Mi.answer o n pl rows).1 ct')
      simp
     have el:=congrArg List.length ea'
     simp only [List.length_append,List.length_cons,List.length_nil] at el
     have ht':=sW (rows:=rows) h1.zI wi (m:=900 - ct'.length - 1) fun f e=>by have:=ht f e;rw [List.length_cons] at this;omega
     generalize (Mi.answer o n pl rows).2=ans at *
     generalize (Mi.answer o n pl rows).1=o' at *
     have M9:=M8.step (H3:=upd H7 g (.lst (acc.map V.int))) fun b hb=>ax hb
     walk_at "v"
     refine ⟨.inl ⟨rfl,_,SqL.of aj⟩,?_⟩
     walk_at "v"
     refine ⟨_,_,rfl,.inl (SqL.of (by rw [ax zg];exact hz)),?_⟩
     rw [List.length_map]
     refine ⟨_,_,_,rfl,rfl,aj,by rw [List.length_map];omega,?_⟩
     walk_at "v"
     refine ⟨.inl ⟨rfl,_,SqL.of aj⟩,?_⟩
     walk_at "v"
     refine ⟨_,_,_,_,rfl,rfl,aj,by rw [ax zg,ax zg];exact hz,by simp only [List.length_append,List.length_map,List.length_cons,List.length_nil];omega,?_⟩
     refine ⟨⟨_,j,o',B2,acc++[(ans.length:Int)]++ans,ct',rfl,?_,?_,?_,sqB hB sB2,h2,ea',by rw [List.length_cons] at hl;omega,fun f e=>?_⟩,?_⟩
     ·rw [ax xg,ax xg,ax xg];exact hx7
     ·rw [aj,List.map_append,List.map_append];rfl
     ·exact (M9.step fun b hb=>ax hb).step fun b hb=>ax hb
     ·have:=ht' f e;rw [List.length_cons] at hl;omega
     ·show _ < (match H4 x with | some (.ins _ _ [_,(_,.int z)])=>ns.length - z.toNat | _=>0)
      rw [mu,ax xg,ax xg,ax xg,hx7]
      simp [rdF];omega
  ·intro σ H Q Q' hq h
   obtain ⟨v,h0,a,C,fs,r1,r2,r3,x',dx',na',i',ns',e1,e2,e3,b,e4,e5⟩:=h
   exact ⟨v,h0,a,C,fs,r1,r2,r3,x',dx',na',i',ns',e1,e2,e3,b,e4,hq _ _ e5⟩
end
end Ms
namespace Si
open Vbmiaj (Fleet Shift Truck Block Stop Entry Told)
open Mi (Flt Trk Shv Plc Blk Stp WF aa ai bz ak)
theorem dz {α:Type} (l:List α) (i j:Nat) (a d:α):(l.set i a).getD j d=if j=i/\i < l.length then a else l.getD j d:=by
 simp only [List.getD,List.getElem?_set]
 by_cases h:i=j
 ·subst h
  by_cases h2:i < l.length
  ·simp [h2]
  ·simp [h2,List.getElem?_eq_none (Nat.le_of_not_lt h2)]
 ·have:¬(j=i/\i < l.length):=fun z=>h z.1.symm
  simp [h,this]
noncomputable def iN (l:List Nat):List Int:=l.map fun n=>Int.ofNat n
noncomputable def ev (e:Entry):List Int:=[(e.minute:Int),e.truck,e.what,e.at_,e.block,e.load]
noncomputable def zv (z:Stop):Stp:=⟨z.kind,z.which,z.from_,z.from_+z.long⟩
noncomputable def bv (b:Block):Int×Int×Int:=(b.number,b.left,b.place)
noncomputable def bm (f:Flt) (j:Nat):Int×Int×Int:=((ak f j).number,(ak f j).left,(ak f j).place)
theorem qs (l:List Nat):((Vbmiaj.sum l:Nat):Int)=(l.map fun n:Nat=>(n:Int)).sum:=by
 unfold Vbmiaj.sum
 induction l with
 | nil=>rfl
 | cons a l ih=>simp only [List.foldr_cons,List.map_cons,List.sum_cons,Int.natCast_add,ih]
structure TR (f:Flt) (t:Trk) (k:Truck):Prop where
 d:t.does=(k.does:Int)
 a:t.at_=(k.at_:Int)
 g:t.go=(k.more:Int)
 s:t.does=2\/t.does=5->t.since=(k.since:Int)
 p:t.does=3->∀ l,t.load=some l->(ak f l.1).place=(k.since:Int)
 l:Mi.dr f t=[(k.block:Int),(k.load:Int)]
 n:t.does=0\/t.does=1\/t.does=2\/t.does=7->t.load=none
theorem TR.at_ {f g:Flt} {t:Trk} {k:Truck} (h:TR f t k) (hb:∀ j,t.load.isSome=true->(∀ l,t.load=some l->l.1=j->(ak g j).number=(ak f j).number/\(ak g j).place=(ak f j).place)):TR g t k:=by
 refine ⟨h.d,h.a,h.g,h.s,fun h3 l hl=>?_,?_,h.n⟩
 ·rw [(hb l.1 (by rw [hl];rfl) l hl rfl).2];exact h.p h3 l hl
 ·rw [<-h.l]
  unfold Mi.dr
  cases e:t.load with
  | none=>rfl
  | some l=>
    obtain ⟨j,kg⟩:=l
    simp only
    rw [(hb j (by rw [e];rfl) (j,kg) e rfl).1]
structure FC (F:Fleet) (f:Flt):Prop where
 c:f.carries=(F.carries:Int)
 r:f.rule=(F.rule:Int)
 nt:f.aq.length=F.trucks
 ns:f.au.length=F.loads.length
 np:f.br.length=F.tips.length
 lt:∀ i,i < F.loads.length->(ai f i).time=(Vbmiaj.loadTime F (i+1):Int)
 tt:∀ i,i < F.tips.length->(bz f i).time=(Vbmiaj.tipTime F (i+1):Int)
 ws:∀ p s:Nat,p<=F.tips.length->1<=s->s<=F.loads.length->Mi.gC f p s=(Vbmiaj.wayTo F p s:Int)
 wp:∀ s p:Nat,1<=s->s<=F.loads.length->1<=p->p<=F.tips.length->Mi.iV f s p=(Vbmiaj.wayOut F s p:Int)
theorem FC.sh {F:Fleet} {f g:Flt} (h:FC F f) (s:Mi.Sh f g) (t1:∀ i,(ai g i).time=(ai f i).time) (t2:∀ i,(bz g i).time=(bz f i).time):FC F g:=by
 refine ⟨s.c.trans h.c,s.r.trans h.r,s.t.trans h.nt,s.s.trans h.ns,s.p.trans h.np,fun i hi=>(t1 i).trans (h.lt i hi),fun i hi=>(t2 i).trans (h.tt i hi),fun p q a b c=>?_,fun p q a b c d=>?_⟩
 ·rw [<-h.ws p q a b c];unfold Mi.gC;rw [s.r2,s.r4,s.s]
 ·rw [<-h.wp p q a b c d];unfold Mi.iV;rw [s.r3,s.p]
structure Sim (b:Bool) (F:Fleet) (f:Flt) (x:Shift):Prop where
 fc:FC F f
 m:f.minute=(x.minute:Int)
 xl:x.trucks.length=F.trucks
 tr:∀ i,i < F.trucks->TR f (aa f i) (Vbmiaj.truckOf x (i+1))
 xf:x.faces.length=F.loads.length
 fa:∀ i,i < F.loads.length->(Vbmiaj.faceOf x (i+1)).map bv=(ai f i).row.map (bm f)
 st:f.cI=x.stops.reverse.map zv
 bk:f.book=x.book.reverse.map ev
 ml:x.minutes.length=F.trucks
 mi:∀ i,i < F.trucks->(aa f i).cnt=iN (x.minutes.getD i [])
 sl:x.shovels.length=F.loads.length
 sh:∀ i,i < F.loads.length->(ai f i).cnt=iN (x.shovels.getD i [])
 tp:∀ i,i < F.tips.length->(bz f i).loads=(((x.tipped.filter fun z=>z.2.1==i+1).length:Nat):Int)/\(bz f i).bU=((Vbmiaj.sum ((x.tipped.filter fun z=>z.2.1==i+1).map fun z=>z.2.2):Nat):Int)
 tl:Mi.cf f=(x.tipped.length:Int)
 tk:Mi.dt f=((Vbmiaj.done x:Nat):Int)
 bt:∀ j,j < f.aA.length->∃ n:Nat,(ak f j).number=(n:Int)/\(ak f j).tipped=((Vbmiaj.tippedOf x n:Nat):Int)
 bn:∀ i j,i < f.aA.length->j < f.aA.length->(ak f i).number=(ak f j).number->i=j
 tb:∀ z ∈ x.tipped,∃ j,j < f.aA.length/\(ak f j).number=(z.1:Int)
 nd:∀ i,i < F.loads.length->(ai f i).row.Nodup
 dj:∀ i i' j,i < F.loads.length->i' < F.loads.length->j ∈ (ai f i).row->j ∈ (ai f i').row->i=i'
 sm:b=true->(∀ i,i < F.trucks->(aa f i).stop=Vbmiaj.stopped x 0 (i+1))/\∀ i,i < F.loads.length->(ai f i).stop=Vbmiaj.stopped x 1 (i+1)
theorem Sim.goes {b:Bool} {F:Fleet} {f:Flt} {x:Shift} (h:Sim b F f x) {i:Nat} (hi:i < F.trucks) {t:Trk} {k:Truck} {es:List Entry} (ht:TR f t k) (hc:t.cnt=(aa f i).cnt) (hs:t.stop=(aa f i).stop) :
  Sim b F {f with aq:=f.aq.set i t,book:=f.book++es.reverse.map ev} {x with trucks:=x.trucks.set i k,book:=es++x.book}:=by
 have nt:=h.fc.nt
 have e1:∀ j,aa {f with aq:=f.aq.set i t,book:=f.book++es.reverse.map ev} j=if j=i/\i < f.aq.length then t else aa f j:=fun j=>dz ..
 have e2:∀ j,Vbmiaj.truckOf {x with trucks:=x.trucks.set i k,book:=es++x.book} (j+1)=if j=i/\i < x.trucks.length then k else Vbmiaj.truckOf x (j+1):=fun j=>dz ..
 have xl:=h.xl
 refine {h with fc:=?_,xl:=by simp [xl],tr:=fun j hj=>?_,bk:=?_,mi:=fun j hj=>?_,sm:=fun e=>⟨fun j hj=>?_,(h.sm e).2⟩}
 ·refine h.fc.sh ⟨by simp,rfl,rfl,rfl,rfl,rfl,rfl,rfl,rfl,rfl,rfl,rfl,rfl,rfl⟩ (fun _=>rfl) fun _=>rfl
 ·rw [e1,e2]
  by_cases q:j=i
  ·rw [if_pos ⟨q,by omega⟩,if_pos ⟨q,by omega⟩]
   exact ⟨ht.d,ht.a,ht.g,ht.s,ht.p,ht.l,ht.n⟩
  ·rw [if_neg (fun z=>q z.1),if_neg (fun z=>q z.1)]
   have:=h.tr j hj
   exact ⟨this.d,this.a,this.g,this.s,this.p,this.l,this.n⟩
 ·show f.book++es.reverse.map ev=(es++x.book).reverse.map ev
  rw [List.reverse_append,List.map_append,h.bk]
 ·rw [e1]
  by_cases q:j=i
  ·rw [if_pos ⟨q,by omega⟩,hc,<-q];exact h.mi j hj
  ·rw [if_neg (fun z=>q z.1)];exact h.mi j hj
 ·rw [e1]
  by_cases q:j=i
  ·rw [if_pos ⟨q,by omega⟩,hs,<-q];exact (h.sm e).1 j hj
  ·rw [if_neg (fun z=>q z.1)];exact (h.sm e).1 j hj
end Si
namespace Si
open Vbmiaj (Fleet Shift Truck Block Stop Entry Told)
open Mi (Flt Trk Shv Plc Blk Stp WF aa ai bz ak)
section
variable {b:Bool} {F:Fleet} {f:Flt} {x:Shift}
theorem nat_eq (a c:Nat):((a:Int)=(c:Int)) ↔ a=c:=by omega
theorem A0 {α β:Type} (p:α->Bool) (q:β->Bool):∀ (l:List α) (m:List β),l.length=m.length->(∀ (i:Nat) (a:α) (c:β),l[i]? = some a->m[i]? = some c->p a=q c)->(l.filter p).length=(m.filter q).length
 | [],[],_,_=>rfl
 | [],_::_,h,_=>by simp at h
 | _::_,[],h,_=>by simp at h
 | a::l,c::m,h,hp=>by
   have h0:=hp 0 a c rfl rfl
   have ih:=A0 p q l m (by simpa using h) fun i a c h1 h2=>hp (i+1) a c (by simpa using h1) (by simpa using h2)
   rw [List.filter_cons,List.filter_cons,h0]
   by_cases e:q c=true
   ·rw [if_pos e,if_pos e,List.length_cons,List.length_cons,ih]
   ·rw [if_neg e,if_neg e,ih]
theorem Sim.wu (h:Sim b F f x) {i:Nat} {t:Trk} {k:Truck} (h1:f.aq[i]? = some t) (h2:x.trucks[i]? = some k):TR f t k:=by
 have hi:=(List.getElem?_eq_some_iff.mp h1).1
 have:=h.tr i (by rw [<-h.fc.nt];exact hi)
 have e1:aa f i=t:=by unfold aa;rw [List.getD,h1];rfl
 have e2:Vbmiaj.truckOf x (i+1)=k:=by unfold Vbmiaj.truckOf;rw [Nat.add_sub_cancel,List.getD,h2];rfl
 rwa [e1,e2] at this
theorem Sim.how (h:Sim b F f x) (ds:List Int) (w:Nat) (q:Truck->Bool) (hq:∀ k:Truck,q k=(ds.contains (k.does:Int)&&k.at_==w)):Mi.cE f ds (w:Int)=((x.trucks.filter q).length:Int):=by
 unfold Mi.cE
 rw [A0 (Mi.isAt ds (w:Int)) q f.aq x.trucks (by rw [h.fc.nt,h.xl]) fun i t k h1 h2=>?_]
 have r:=h.wu h1 h2
 rw [hq];unfold Mi.isAt
 rw [r.d,r.a]
 congr 1
 by_cases e:k.at_=w
 ·rw [e];simp
 ·have:¬(k.at_:Int)=(w:Int):=by omega
  rw [beq_eq_false_iff_ne.mpr this,beq_eq_false_iff_ne.mpr e]
theorem Sim.coming (h:Sim b F f x) (s:Nat):Mi.cE f [1,2] (s:Int)=(Vbmiaj.coming x s:Int):=h.how _ _ _ fun k=>by
 congr 1
 rw [Bool.eq_iff_iff];simp;omega
theorem Sim.busy (h:Sim b F f x) (s:Nat):Mi.cE f [1,2,3] (s:Int)=(Vbmiaj.busy x s:Int):=h.how _ _ _ fun k=>by
 congr 1
 rw [Bool.eq_iff_iff];simp;omega
theorem Sim.isBusy (h:Sim b F f x) (d s:Nat):(Mi.cE f [(d:Int)] (s:Int)=0) ↔ Vbmiaj.isBusy x d s=false:=by
 rw [h.how [(d:Int)] s (fun k=>k.does==d&&k.at_==s) fun k=>by
  congr 1
  rw [Bool.eq_iff_iff];simp;omega]
 unfold Vbmiaj.isBusy
 constructor
 ·intro e
  have e:(x.trucks.filter fun k=>k.does==d&&k.at_==s).length=0:=by omega
  have e:=List.eq_nil_of_length_eq_zero e
  rw [List.filter_eq_nil_iff] at e
  cases q:x.trucks.any fun k=>k.does==d&&k.at_==s with
  | false=>rfl
  | true=>
    obtain ⟨k,hk,hq⟩:=List.any_eq_true.mp q
    exact absurd hq (e k hk)
 ·intro e
  have:(x.trucks.filter fun k=>k.does==d&&k.at_==s)=[]:=List.filter_eq_nil_iff.mpr fun k hk hq=>by
   have:x.trucks.any (fun k=>k.does==d&&k.at_==s)=true:=List.any_eq_true.mpr ⟨k,hk,hq⟩
   rw [e] at this;cases this
  rw [this];rfl
theorem nW (c:Int) (g:Int×Int×Int->Int) (h:Block->Nat) (hg:∀ z,(h z:Int)=g (bv z)) (l:List Block):((Vbmiaj.sum (l.map h):Nat):Int)=((l.map bv).map g).sum:=by
 rw [qs,List.map_map,List.map_map]
 congr 1
 apply List.map_congr_left
 intro z _
 exact hg z
theorem Sim.loads (h:Sim b F f x) (w1:1<=F.carries) {i:Nat} (hi:i < F.loads.length):Mi.fF f (ai f i).row=(Vbmiaj.loadsLeft F x (i+1):Int):=by
 unfold Mi.fF Vbmiaj.loadsLeft
 rw [nW 0 (fun z=>(z.2.1+f.carries - 1) / f.carries) _ fun z=>?_,h.fa i hi,List.map_map]
 ·rfl
 ·show (((z.left+F.carries - 1) / F.carries:Nat):Int)=((z.left:Int)+f.carries - 1) / f.carries
  rw [h.fc.c]
  have:(z.left:Int)+(F.carries:Int) - 1=((z.left+F.carries - 1:Nat):Int):=by omega
  rw [this];rfl
theorem Sim.bU (h:Sim b F f x) {i:Nat} (hi:i < F.loads.length):Mi.fw f (ai f i).row=((Vbmiaj.sum ((Vbmiaj.faceOf x (i+1)).map fun z=>z.left):Nat):Int):=by
 unfold Mi.fw
 rw [nW 0 (fun z=>z.2.1) _ fun z=>rfl,h.fa i hi,List.map_map]
 rfl
noncomputable def kv (a:Nat×Nat×Nat):Int×Int×Int:=(a.1,a.2.1,a.2.2)
theorem AO (a c:Nat×Nat×Nat):Mi.ltT (kv a) (kv c)=Vbmiaj.less a c:=by
 obtain ⟨a1,a2,a3⟩:=a
 obtain ⟨c1,c2,c3⟩:=c
 unfold Mi.ltT Vbmiaj.less kv
 rw [Bool.eq_iff_iff];simp;omega
theorem Sim.three (h:Sim b F f x) {p i:Nat} (hp:p<=F.tips.length) (hi:i < F.loads.length):Mi.three f (p:Int) i=kv (Vbmiaj.key F x p (i+1)):=by
 have e1:((i:Int)+1)=((i+1:Nat):Int):=by omega
 unfold Mi.three Vbmiaj.key
 simp only
 rw [e1,h.busy,h.fc.ws p (i+1) hp (by omega) (by omega),h.fc.r,h.fc.lt i hi]
 by_cases r0:F.rule=0
 ·rw [if_pos (by omega),if_pos r0];rfl
 ·rw [if_neg (by omega),if_neg r0]
  by_cases r1:F.rule=1
  ·rw [if_pos (by omega),if_pos r1];rfl
  ·rw [if_neg (by omega),if_neg r1];unfold kv;simp
noncomputable def pick (F:Fleet) (x:Shift) (p:Nat) (o:Option Nat) (s:Nat):Option Nat:=match o with
 | none=>some s
 | some t=>if Vbmiaj.less (Vbmiaj.key F x p s) (Vbmiaj.key F x p t)=true then some s else some t
theorem jv (w:Int) (n:Nat):Mi.eE f w (n+1)=Mi.eE f w n++(if Mi.cE f [1,2] ((n:Int)+1) < Mi.fF f (ai f n).row then [Mi.three f w n] else []):=by
 unfold Mi.eE
 rw [List.range_succ,List.filter_append,List.map_append,List.filter_cons]
 by_cases e:Mi.cE f [1,2] ((n:Int)+1) < Mi.fF f (ai f n).row
 ·rw [if_pos (decide_eq_true e),if_pos e];rfl
 ·rw [if_neg (by simpa using e),if_neg e];rfl
theorem vS (a y:Int×Int×Int) (l:List (Int×Int×Int)):Mi.ic a (l++[y])=if Mi.ltT y (Mi.ic a l) then y else Mi.ic a l:=by
 unfold Mi.ic;rw [List.foldl_append];rfl
theorem Sim.yp (h:Sim b F f x) (w1:1<=F.carries) {p:Nat} (hp:p<=F.tips.length):∀ n,n<=F.loads.length->
  match Mi.eE f (p:Int) n with
  | []=>((((List.range n).map fun i=>i+1).filter fun s=>decide (Vbmiaj.coming x s < Vbmiaj.loadsLeft F x s)).foldl (pick F x p) none)=none
  | y::l=>∃ s,1<=s/\s<=n/\((((List.range n).map fun i=>i+1).filter fun s=>decide (Vbmiaj.coming x s < Vbmiaj.loadsLeft F x s)).foldl (pick F x p) none)=some s/\Mi.ic y l=kv (Vbmiaj.key F x p s):=by
 intro n
 induction n with
 | zero=>intro _;rfl
 | succ n ih=>
   intro hn
   have ih:=ih (by omega)
   have e1:((n:Int)+1)=((n+1:Nat):Int):=by omega
   have cd:(Mi.cE f [1,2] ((n:Int)+1) < Mi.fF f (ai f n).row) ↔ Vbmiaj.coming x (n+1) < Vbmiaj.loadsLeft F x (n+1):=by
    rw [e1,h.coming,h.loads w1 (by omega)];omega
   rw [jv,List.range_succ,List.map_append,List.filter_append,List.foldl_append]
   by_cases e:Vbmiaj.coming x (n+1) < Vbmiaj.loadsLeft F x (n+1)
   ·rw [if_pos (cd.mpr e)]
    have ef:(([n].map fun i=>i+1).filter fun s=>decide (Vbmiaj.coming x s < Vbmiaj.loadsLeft F x s))=[n+1]:=by
     show List.filter _ [n+1]=_
     rw [List.filter_cons,if_pos (decide_eq_true e)];rfl
    rw [ef]
    cases hr:Mi.eE f (p:Int) n with
    | nil=>
      rw [hr] at ih
      simp only at ih
      rw [ih]
      exact ⟨n+1,by omega,by omega,rfl,h.three hp (by omega)⟩
    | cons y l=>
      rw [hr] at ih
      obtain ⟨s,s1,s2,s3,s4⟩:=ih
      rw [s3]
      show ∃ s',1<=s'/\s'<=n+1/\pick F x p (some s) (n+1)=some s'/\Mi.ic y (l++[Mi.three f (p:Int) n])=_
      rw [vS,s4,h.three hp (by omega),AO]
      unfold pick
      simp only
      by_cases q:Vbmiaj.less (Vbmiaj.key F x p (n+1)) (Vbmiaj.key F x p s)=true
      ·rw [if_pos q,if_pos q];exact ⟨n+1,by omega,by omega,rfl,rfl⟩
      ·rw [if_neg q,if_neg q];exact ⟨s,s1,by omega,rfl,rfl⟩
   ·rw [if_neg (fun z=>e (cd.mp z)),List.append_nil]
    have ef:(([n].map fun i=>i+1).filter fun s=>decide (Vbmiaj.coming x s < Vbmiaj.loadsLeft F x s))=[]:=by
     show List.filter _ [n+1]=_
     rw [List.filter_cons,if_neg (by simpa using e)];rfl
    rw [ef]
    cases hr:Mi.eE f (p:Int) n with
    | nil=>rw [hr] at ih;exact ih
    | cons y l=>
      rw [hr] at ih
      obtain ⟨s,s1,s2,s3,s4⟩:=ih
      exact ⟨s,s1,by omega,s3,s4⟩
theorem yI (p s:Nat):(Vbmiaj.key F x p s).2.2=s:=by
 unfold Vbmiaj.key;split
 ·rfl
 ·split<;>rfl
theorem Sim.chosen (h:Sim b F f x) (w1:1<=F.carries) {p:Nat} (hp:p<=F.tips.length):(Vbmiaj.chosen F x p=none/\Mi.chosen f (p:Int)=0)\/∃ s,1<=s/\s<=F.loads.length/\Vbmiaj.chosen F x p=some s/\Mi.chosen f (p:Int)=(s:Int):=by
 have hk:=h.yp w1 hp F.loads.length (Nat.le_refl _)
 have e:Vbmiaj.chosen F x p=((((List.range F.loads.length).map fun i=>i+1).filter fun s=>decide (Vbmiaj.coming x s < Vbmiaj.loadsLeft F x s)).foldl (pick F x p) none):=rfl
 rw [<-e] at hk
 unfold Mi.chosen
 rw [h.fc.ns]
 cases hr:Mi.eE f (p:Int) F.loads.length with
 | nil=>rw [hr] at hk;exact .inl ⟨hk,rfl⟩
 | cons y l=>
   rw [hr] at hk
   obtain ⟨s,s1,s2,s3,s4⟩:=hk
   refine .inr ⟨s,s1,s2,s3,?_⟩
   show (Mi.ic y l).2.2=_
   rw [s4];unfold kv;rw [yI]
noncomputable def early (x:Shift) (o:Option Nat) (t:Nat):Option Nat:=match o with
 | none=>some t
 | some u=>if (Vbmiaj.truckOf x t).since < (Vbmiaj.truckOf x u).since then some t else some u
theorem Sim.xC (h:Sim true F f x) {d a:Nat} (hd:d=2\/d=5):∀ n,n<=F.trucks->
  ((((List.range n).map fun i=>i+1).filter fun t=>(Vbmiaj.truckOf x t).does==d&&((Vbmiaj.truckOf x t).at_==a&&!Vbmiaj.stopped x 0 t)).foldl (early x) none)=(Mi.eQ f (d:Int) (a:Int) n).map fun i=>i+1:=by
 intro n
 induction n with
 | zero=>intro _;rfl
 | succ n ih=>
   intro hn
   have ih:=ih (by omega)
   have r:=h.tr n (by omega)
   have sm:=(h.sm rfl).1 n (by omega)
   rw [Mi.mz,List.range_succ,List.map_append,List.filter_append,List.foldl_append,ih]
   have cd:((aa f n).does=(d:Int)/\(aa f n).at_=(a:Int)/\(aa f n).stop=false) ↔ ((Vbmiaj.truckOf x (n+1)).does==d&&((Vbmiaj.truckOf x (n+1)).at_==a&&!Vbmiaj.stopped x 0 (n+1)))=true:=by
    rw [r.d,r.a,sm,nat_eq,nat_eq];simp
   have ef:(([n].map fun i=>i+1).filter fun t=>(Vbmiaj.truckOf x t).does==d&&((Vbmiaj.truckOf x t).at_==a&&!Vbmiaj.stopped x 0 t))=if ((Vbmiaj.truckOf x (n+1)).does==d&&((Vbmiaj.truckOf x (n+1)).at_==a&&!Vbmiaj.stopped x 0 (n+1)))=true then [n+1] else []:=by
    show List.filter _ [n+1]=_
    rw [List.filter_cons];rfl
   rw [ef]
   by_cases e:((Vbmiaj.truckOf x (n+1)).does==d&&((Vbmiaj.truckOf x (n+1)).at_==a&&!Vbmiaj.stopped x 0 (n+1)))=true
   ·rw [if_pos e,if_pos (cd.mpr e)]
    have c1:=cd.mpr e
    cases hf:Mi.eQ f (d:Int) (a:Int) n with
    | none=>rfl
    | some u=>
      obtain ⟨u1,u2,u3,u4⟩:=Mi.dY _ _ _ hf
      have ru:=h.tr u (by omega)
      have s1:=r.s (by have:=c1.1;omega)
      have s2:=ru.s (by omega)
      show early x (some (u+1)) (n+1)=_
      unfold early
      simp only
      rw [s1,s2]
      by_cases q:(Vbmiaj.truckOf x (n+1)).since < (Vbmiaj.truckOf x (u+1)).since
      ·rw [if_pos q,if_pos (by omega)];rfl
      ·rw [if_neg q,if_neg (by omega)];rfl
   ·rw [if_neg e,if_neg (fun z=>e (cd.mp z))];rfl
theorem Sim.first (h:Sim true F f x) {d a:Nat} (hd:d=2\/d=5):Vbmiaj.firstOf F x d a=(Mi.first f (d:Int) (a:Int)).map fun i=>i+1:=by
 unfold Mi.first;rw [h.fc.nt]
 exact h.xC hd F.trucks (Nat.le_refl _)
end
end Si
namespace Si
open Vbmiaj (Fleet Shift Truck Block Stop Entry Told)
open Mi (Flt Trk Shv Plc Blk Stp WF aa ai bz ak)
section
variable {b:Bool} {F:Fleet} {f:Flt} {x:Shift} {n:Nat}
theorem Sim.comes (h:Sim b F f x) {i:Nat} (hi:i < F.trucks) {m d a g:Int} {k:Truck} {e:Entry} (ht:TR f {aa f i with does:=d,at_:=a,go:=g,since:=m} k) (he:[m,(i:Int)+1,d,a]++Mi.dr f (aa f i)=ev e) :
  Sim b F (Mi.comes f m i d a g) {x with trucks:=x.trucks.set i k,book:=e::x.book}:=by
 have z:=h.goes hi (es:=[e]) ht rfl rfl
 have e2:Mi.comes f m i d a g = {f with aq:=f.aq.set i {aa f i with does:=d,at_:=a,go:=g,since:=m},book:=f.book++[e].reverse.map ev}:=by
  unfold Mi.comes;rw [he];rfl
 rw [e2];exact z
theorem fK {t:Trk} (h:t.load=none):Mi.dr f t=[0,0]:=by unfold Mi.dr;rw [h]
theorem Sim.sent (h:Sim true F f x) (W:WF n f) {i:Nat} (hi:i < F.trucks):Sim true F (Mi.cY f i) (Vbmiaj.sent F x (i+1)):=by
 have r:=h.tr i hi
 have sm:=(h.sm rfl).1 i hi
 have ok:=W.aa (i:=i) (by rw [h.fc.nt];exact hi)
 have c1:1<=F.carries:=by have:=W.c1;have:=h.fc.c;omega
 unfold Mi.cY Vbmiaj.sent
 simp only
 by_cases q:(aa f i).does=0/\(aa f i).stop=false
 ·have q':(Vbmiaj.truckOf x (i+1)).does=0/\Vbmiaj.stopped x 0 (i+1)=false:=⟨by have:=r.d;omega,by rw [<-sm];exact q.2⟩
  rw [if_pos q,if_pos q']
  have ln:=r.n (.inl q.1)
  have wa:=ok.w0 (.inl q.1)
  have hp:(Vbmiaj.truckOf x (i+1)).at_<=F.tips.length:=by have:=r.a;have:=h.fc.np;omega
  have ea:=r.a
  rw [ea]
  rcases h.chosen c1 hp with ⟨e1,e2⟩ | ⟨s,s1,s2,e1,e2⟩
  ·rw [e1,e2,if_pos rfl]
   refine h.comes hi (e:=⟨x.minute,i+1,7,(Vbmiaj.truckOf x (i+1)).at_,0,0⟩) ⟨rfl,rfl,rfl,fun z=>?_,fun z=>?_,fK ln,fun _=>ln⟩ ?_
   ·rcases z with z | z<;>exact absurd z (by show ¬((7:Int)=_);decide)
   ·exact absurd z (by show ¬((7:Int)=_);decide)
   ·rw [fK ln,h.m];rfl
  ·rw [e1,e2,if_neg (by omega),h.fc.ws _ s hp s1 s2]
   refine h.comes hi (e:=⟨x.minute,i+1,1,s,0,0⟩) ⟨rfl,rfl,rfl,fun z=>?_,fun z=>?_,fK ln,fun _=>ln⟩ ?_
   ·rcases z with z | z<;>exact absurd z (by show ¬((1:Int)=_);decide)
   ·exact absurd z (by show ¬((1:Int)=_);decide)
   ·rw [fK ln,h.m];rfl
 ·have q':¬((Vbmiaj.truckOf x (i+1)).does=0/\Vbmiaj.stopped x 0 (i+1)=false):=fun z=>q ⟨by have:=r.d;omega,by rw [sm];exact z.2⟩
  rw [if_neg q,if_neg q'];exact h
theorem Sim.tips (h:Sim true F f x) (W:WF n f) {p:Nat} (hp:p < F.tips.length):Sim true F (Mi.eA f p) (Vbmiaj.tips F x (p+1)):=by
 have e1:((p:Int)+1)=((p+1:Nat):Int):=by omega
 unfold Mi.eA Vbmiaj.tips
 rw [e1,show (5:Int)=((5:Nat):Int) from rfl,show (6:Int)=((6:Nat):Int) from rfl]
 have hf:=h.first (d:=5) (a:=p+1) (.inr rfl)
 have hb:=h.isBusy 6 (p+1)
 rw [hf]
 cases hq:Mi.first f ((5:Nat):Int) ((p+1:Nat):Int) with
 | none=>
   simp only [Option.map_none]
   split<;>exact h
 | some i=>
   simp only [Option.map_some]
   obtain ⟨i1,i2,i3,i4⟩:=Mi.dY _ _ _ hq
   rw [h.fc.nt] at i1
   cases hc:Vbmiaj.isBusy x 6 (p+1) with
   | true=>
     rw [if_neg (fun z=>by rw [hb.mp z] at hc;cases hc),if_pos rfl];exact h
   | false=>
     rw [if_pos (hb.mpr hc),if_neg (by decide),h.fc.tt p hp]
     have r:=h.tr i i1
     have ln:=r.l
     refine h.comes i1 (e:=⟨x.minute,i+1,6,(Vbmiaj.truckOf x (i+1)).at_,(Vbmiaj.truckOf x (i+1)).block,(Vbmiaj.truckOf x (i+1)).load⟩) ⟨rfl,?_,rfl,fun z=>?_,fun z=>?_,ln,fun z=>?_⟩ ?_
     ·exact i3.symm.trans r.a
     ·rcases z with z | z<;>exact absurd z (by show ¬((6:Int)=_);decide)
     ·exact absurd z (by show ¬((6:Int)=_);decide)
     ·rcases z with z | z | z | z<;>exact absurd z (by show ¬((6:Int)=_);decide)
     ·rw [ln,h.m,<-i3,r.a];rfl
end
end Si
namespace Si
open Vbmiaj (Fleet Shift Truck Block Stop Entry Told)
open Mi (Flt Trk Shv Plc Blk Stp WF aa ai bz ak)
section
variable {b:Bool} {F:Fleet} {f:Flt} {x:Shift} {n:Nat}
theorem Sim.row (h:Sim b F f x) {s j:Nat} (hs:s < F.loads.length) (hj:j < f.aA.length) (jr:j ∈ (ai f s).row) {b':Blk} {row':List Nat} {face':List Block}
  (h1:b'.number=(ak f j).number) (h2:b'.place=(ak f j).place) (h3:b'.tipped=(ak f j).tipped) (sub:∀ i ∈ row',i ∈ (ai f s).row) (nd:row'.Nodup)
  (hf:face'.map bv=row'.map fun i=>if i=j then (b'.number,b'.left,b'.place) else bm f i) :
  Sim b F {f with aA:=f.aA.set j b',au:=f.au.set s {ai f s with row:=row'}} {x with faces:=x.faces.set s face'}:=by
 have ns:=h.fc.ns
 have eb:∀ i,ak {f with aA:=f.aA.set j b',au:=f.au.set s {ai f s with row:=row'}} i=if i=j then b' else ak f i:=fun i=>by
  unfold ak;show (f.aA.set j b').getD i _=_
  rw [dz]
  by_cases e:i=j
  ·rw [if_pos ⟨e,hj⟩,if_pos e]
  ·rw [if_neg (fun z=>e z.1),if_neg e]
 have es:∀ i,ai {f with aA:=f.aA.set j b',au:=f.au.set s {ai f s with row:=row'}} i=if i=s then {ai f s with row:=row'} else ai f i:=fun i=>by
  unfold ai;show (f.au.set s _).getD i _=_
  rw [dz]
  by_cases e:i=s
  ·rw [if_pos ⟨e,by omega⟩,if_pos e]
  ·rw [if_neg (fun z=>e z.1),if_neg e]
 have exf:∀ i,Vbmiaj.faceOf {x with faces:=x.faces.set s face'} (i+1)=if i=s then face' else Vbmiaj.faceOf x (i+1):=fun i=>by
  unfold Vbmiaj.faceOf;show (x.faces.set s face').getD (i+1 - 1) _=_
  rw [Nat.add_sub_cancel,dz]
  by_cases e:i=s
  ·rw [if_pos ⟨e,by rw [h.xf];exact hs⟩,if_pos e]
  ·rw [if_neg (fun z=>e z.1),if_neg e]
 have en:∀ i,(ak {f with aA:=f.aA.set j b',au:=f.au.set s {ai f s with row:=row'}} i).number=(ak f i).number/\(ak {f with aA:=f.aA.set j b',au:=f.au.set s {ai f s with row:=row'}} i).place=(ak f i).place/\
   (ak {f with aA:=f.aA.set j b',au:=f.au.set s {ai f s with row:=row'}} i).tipped=(ak f i).tipped:=fun i=>by
  rw [eb]
  by_cases e:i=j
  ·rw [if_pos e,e];exact ⟨h1,h2,h3⟩
  ·rw [if_neg e];exact ⟨rfl,rfl,rfl⟩
 have em:∀ i,bm {f with aA:=f.aA.set j b',au:=f.au.set s {ai f s with row:=row'}} i=if i=j then (b'.number,b'.left,b'.place) else bm f i:=fun i=>by
  unfold bm;rw [eb]
  by_cases e:i=j
  ·rw [if_pos e,if_pos e]
  ·rw [if_neg e,if_neg e]
 refine {h with fc:=?_,tr:=fun i hi=>?_,xf:=by simp [h.xf],fa:=fun i hi=>?_,sh:=fun i hi=>?_,bt:=fun i hi=>?_,bn:=fun i k hi hk e=>?_,tb:=fun z hz=>?_,nd:=fun i hi=>?_,dj:=fun i i' k hi hi' a1 a2=>?_,sm:=fun e=>⟨(h.sm e).1,fun i hi=>?_⟩}
 ·refine h.fc.sh ⟨rfl,by simp,rfl,by simp,rfl,rfl,rfl,rfl,rfl,rfl,rfl,rfl,rfl,rfl⟩ (fun i=>?_) fun _=>rfl
  rw [es]
  by_cases e:i=s
  ·rw [if_pos e,e]
  ·rw [if_neg e]
 ·exact (h.tr i hi).at_ fun k _ l _ _=>⟨(en k).1,(en k).2.1⟩
 ·rw [es,exf]
  by_cases e:i=s
  ·rw [if_pos e,if_pos e,hf]
   apply List.map_congr_left
   intro k _;exact (em k).symm
  ·rw [if_neg e,if_neg e,h.fa i hi]
   apply List.map_congr_left
   intro k hk
   have kj:k≠j:=fun z=>by subst z;exact e (h.dj i s k hi hs hk jr)
   rw [em,if_neg kj]
 ·rw [es]
  by_cases e:i=s
  ·rw [if_pos e];subst e;exact h.sh i hi
  ·rw [if_neg e];exact h.sh i hi
 ·have hi':i < f.aA.length:=by simpa using hi
  obtain ⟨m,q1,q2⟩:=h.bt i hi'
  exact ⟨m,(en i).1.trans q1,(en i).2.2.trans q2⟩
 ·rw [(en i).1,(en k).1] at e
  exact h.bn i k (by simpa using hi) (by simpa using hk) e
 ·obtain ⟨k,q1,q2⟩:=h.tb z hz
  exact ⟨k,by simpa using q1,(en k).1.trans q2⟩
 ·rw [es]
  by_cases e:i=s
  ·rw [if_pos e];exact nd
  ·rw [if_neg e];exact h.nd i hi
 ·rw [es] at a1 a2
  have g1:k ∈ (ai f i).row:=by
   by_cases e:i=s
   ·rw [if_pos e] at a1;rw [e];exact sub k a1
   ·rw [if_neg e] at a1;exact a1
  have g2:k ∈ (ai f i').row:=by
   by_cases e:i'=s
   ·rw [if_pos e] at a2;rw [e];exact sub k a2
   ·rw [if_neg e] at a2;exact a2
  exact h.dj i i' k hi hi' g1 g2
 ·rw [es]
  by_cases e':i=s
  ·rw [if_pos e'];subst e';exact (h.sm e).2 i hi
  ·rw [if_neg e'];exact (h.sm e).2 i hi
theorem rL {α:Type} (l:List α) (i:Nat) (d:α):l.set i (l.getD i d)=l:=by
 apply List.ext_getElem?
 intro j
 rw [List.getElem?_set]
 by_cases e:i=j
 ·subst e
  by_cases q:i < l.length
  ·simp [q]
  ·simp [q,List.getElem?_eq_none (Nat.le_of_not_lt q)]
 ·rw [if_neg e]
theorem Sim.take (h:Sim b F f x) (W:WF n f) {s j:Nat} {r:List Nat} (hs:s < F.loads.length) (hr:(ai f s).row=j::r) :
  ∃ b0 fr,Vbmiaj.faceOf x (s+1)=b0::fr/\bv b0=bm f j/\j < f.aA.length/\Sim b F (Mi.take f s j) {x with faces:=x.faces.set s (Vbmiaj.taken F (Vbmiaj.faceOf x (s+1))).1}/\
   (Vbmiaj.taken F (Vbmiaj.faceOf x (s+1))).2.number=b0.number/\(Vbmiaj.taken F (Vbmiaj.faceOf x (s+1))).2.place=b0.place/\((Vbmiaj.taken F (Vbmiaj.faceOf x (s+1))).2.left:Int)=Mi.bS f j:=by
 have fa:=h.fa s hs
 rw [hr] at fa
 cases hq:Vbmiaj.faceOf x (s+1) with
 | nil=>rw [hq] at fa;simp at fa
 | cons b0 fr=>
   rw [hq] at fa
   simp only [List.map_cons] at fa
   injection fa with f1 f2
   have hj:=(W.ai (i:=s) (by rw [h.fc.ns];exact hs)).row j (by rw [hr];simp)
   have nd:=h.nd s hs
   rw [hr] at nd
   have nj:j ∉ r:=(List.nodup_cons.mp nd).1
   have c:=h.fc.c
   have l0:(b0.left:Int)=(ak f j).left:=congrArg (fun z:Int×Int×Int=>z.2.1) f1
   have n0:(b0.number:Int)=(ak f j).number:=congrArg (fun z:Int×Int×Int=>z.1) f1
   have p0:(b0.place:Int)=(ak f j).place:=congrArg (fun z:Int×Int×Int=>z.2.2) f1
   have rest:fr.map bv=r.map fun i=>if i=j then ((ak f j).number,(ak f j).left - Mi.bS f j,(ak f j).place) else bm f i:=by
    rw [f2];apply List.map_congr_left
    intro i hi
    have ij:i≠j:=fun z=>by subst z;exact nj hi
    rw [if_neg ij]
   refine ⟨b0,fr,rfl,f1,hj,?_⟩
   unfold Vbmiaj.taken
   by_cases e:b0.left<=F.carries
   ·have ek:Mi.bS f j=(ak f j).left:=by
     unfold Mi.bS
     by_cases q:(ak f j).left < f.carries
     ·rw [if_pos q]
     ·rw [if_neg q];omega
    simp only [if_pos e]
    refine ⟨?_,trivial,trivial,by rw [ek];exact l0⟩
    have z:=h.row hs hj (by rw [hr];simp) (b':={ak f j with left:=(ak f j).left - Mi.bS f j}) (row':=r) (face':=fr) rfl rfl rfl (fun i hi=>by rw [hr];simp [hi]) (List.nodup_cons.mp nd).2 rest
    have e2:Mi.take f s j = {f with aA:=f.aA.set j {ak f j with left:=(ak f j).left - Mi.bS f j},au:=f.au.set s {ai f s with row:=r}}:=by
     unfold Mi.take
     simp only
     rw [if_pos (by rw [ek];omega),hr];rfl
    rw [e2];exact z
   ·have ek:Mi.bS f j=f.carries:=by
     unfold Mi.bS
     rw [if_neg (by omega)]
    simp only [if_neg e]
    refine ⟨?_,trivial,trivial,by rw [ek];exact c.symm⟩
    have z:=h.row hs hj (by rw [hr];simp) (b':={ak f j with left:=(ak f j).left - Mi.bS f j}) (row':=j::r) (face':={b0 with left:=b0.left - F.carries}::fr) rfl rfl rfl (fun i hi=>by rw [hr];exact hi) nd (by
     rw [List.map_cons,List.map_cons,if_pos rfl,rest]
     congr 1
     show ((b0.number:Int),((b0.left - F.carries:Nat):Int),(b0.place:Int))=_
     rw [n0,p0,ek,<-l0,c]
     have:((b0.left - F.carries:Nat):Int)=(b0.left:Int) - (F.carries:Int):=by omega
     rw [this])
    have e2:Mi.take f s j = {f with aA:=f.aA.set j {ak f j with left:=(ak f j).left - Mi.bS f j},au:=f.au.set s {ai f s with row:=j::r}}:=by
     unfold Mi.take
     simp only
     rw [if_neg (by rw [ek];omega),<-hr]
     have:f.au.set s (ai f s)=f.au:=rL f.au s _
     show _=({f with aA:=f.aA.set j _,au:=f.au.set s (ai f s)}:Flt)
     rw [this];rfl
    rw [e2];exact z
theorem Sim.loaded (h:Sim true F f x) (W:WF n f) {s:Nat} (hs:s < F.loads.length):Sim true F (Mi.cU f s) (Vbmiaj.loaded F x (s+1)):=by
 have e1:((s:Int)+1)=((s+1:Nat):Int):=by omega
 have sm:=(h.sm rfl).2 s hs
 have fa:=h.fa s hs
 unfold Mi.cU Vbmiaj.loaded
 have hf:=h.first (d:=2) (a:=s+1) (.inl rfl)
 have hb:=h.isBusy 3 (s+1)
 have hn:Mi.fe f s=Vbmiaj.isBusy x 3 (s+1):=by
  unfold Mi.fe
  rw [e1]
  cases q:Vbmiaj.isBusy x 3 (s+1) with
  | false=>
    have:=hb.mpr q
    rw [show ((3:Nat):Int)=3 from rfl] at this
    rw [this];rfl
  | true=>
    refine decide_eq_true ?_
    have:¬Mi.cE f [((3:Nat):Int)] ((s+1:Nat):Int)=0:=fun z=>by rw [hb.mp z] at q;cases q
    have h0:0<=Mi.cE f [3] ((s+1:Nat):Int):=by unfold Mi.cE;omega
    rw [show ((3:Nat):Int)=3 from rfl] at this
    omega
 have hl:0 < (ai f s).row.length ↔ (Vbmiaj.faceOf x (s+1)).isEmpty=false:=by
  have:=congrArg List.length fa
  rw [List.length_map,List.length_map] at this
  rw [<-this]
  cases Vbmiaj.faceOf x (s+1) with
  | nil=>simp
  | cons=>simp
 have cd:((ai f s).stop=false/\0 < (ai f s).row.length/\Mi.fe f s=false) ↔ ¬(Vbmiaj.isBusy x 3 (s+1)||(Vbmiaj.stopped x 1 (s+1)||(Vbmiaj.faceOf x (s+1)).isEmpty))=true:=by
  rw [hl,hn,sm]
  cases Vbmiaj.isBusy x 3 (s+1)<;>cases Vbmiaj.stopped x 1 (s+1)<;>cases (Vbmiaj.faceOf x (s+1)).isEmpty<;>simp
 by_cases e:(Vbmiaj.isBusy x 3 (s+1)||(Vbmiaj.stopped x 1 (s+1)||(Vbmiaj.faceOf x (s+1)).isEmpty))=true
 ·rw [if_pos e,if_neg (fun z=>cd.mp z e)];exact h
 ·have cq:=cd.mpr e
  rw [if_neg e,if_pos cq,e1,show (2:Int)=((2:Nat):Int) from rfl,hf]
  cases hr:(ai f s).row with
  | nil=>rw [hr] at cq;exact absurd cq.2.1 (by simp)
  | cons j r=>
    cases hq:Mi.first f ((2:Nat):Int) ((s+1:Nat):Int) with
    | none=>simp only [Option.map_none];exact h
    | some i=>
      simp only [Option.map_some]
      obtain ⟨i1,i2,i3,i4⟩:=Mi.dY _ _ _ hq
      rw [h.fc.nt] at i1
      obtain ⟨b0,fr,q1,q2,hj,q3,q4,q5,q6⟩:=h.take W hs hr
      generalize Vbmiaj.taken F (Vbmiaj.faceOf x (s+1))=z at *
      have tt:=(Mi.je f s j).1
      have tb:=(Mi.je f s j).2.2.2.2
      have n0:(b0.number:Int)=(ak f j).number:=congrArg (fun z:Int×Int×Int=>z.1) q2
      have p0:(b0.place:Int)=(ak f j).place:=congrArg (fun z:Int×Int×Int=>z.2.2) q2
      have bj:(ak (Mi.take f s j) j).number=(ak f j).number/\(ak (Mi.take f s j) j).place=(ak f j).place:=by
       have:ak (Mi.take f s j) j = {ak f j with left:=(ak f j).left - Mi.bS f j}:=by
        have e2:(Mi.take f s j).aA=f.aA.set j {ak f j with left:=(ak f j).left - Mi.bS f j}:=by
         unfold Mi.take;simp only;split<;>rfl
        show (Mi.take f s j).aA.getD j _=_
        rw [e2,dz,if_pos ⟨rfl,hj⟩]
       rw [this];exact ⟨rfl,rfl⟩
      have eT:∀ y,aa (Mi.take f s j) y=aa f y:=fun y=>by unfold aa;rw [tt]
      have gi:=q3.goes (i:=i) i1 (t:={aa f i with load:=some (j,Mi.bS f j),does:=3,at_:=((s+1:Nat):Int),go:=(ai f s).time,since:=f.minute}) (k:=⟨3,s+1,Vbmiaj.loadTime F (s+1),z.2.place,z.2.number,z.2.left⟩) (es:=[⟨x.minute,i+1,3,s+1,z.2.number,z.2.left⟩])
       ⟨rfl,rfl,h.fc.lt s hs,fun w=>by rcases w with w | w<;>exact absurd w (by show ¬((3:Int)=_);decide),fun _ l hl=>by
         cases hl
         show (ak (Mi.take f s j) j).place=(z.2.place:Int)
         rw [bj.2,<-p0,q5],by
         show [(ak (Mi.take f s j) j).number,Mi.bS f j]=_
         rw [bj.1,<-n0,<-q6,q4],fun w=>by rcases w with w | w | w | w<;>exact absurd w (by show ¬((3:Int)=_);decide)⟩ (by rw [eT]) (by rw [eT])
      have e3:Mi.comes (Mi.aX (Mi.take f s j) i {aa (Mi.take f s j) i with load:=some (j,Mi.bS f j)}) f.minute i 3 ((s+1:Nat):Int) (ai f s).time =
        {Mi.take f s j with aq:=(Mi.take f s j).aq.set i {aa f i with load:=some (j,Mi.bS f j),does:=3,at_:=((s+1:Nat):Int),go:=(ai f s).time,since:=f.minute},book:=(Mi.take f s j).book++([⟨x.minute,i+1,3,s+1,z.2.number,z.2.left⟩]:List Entry).reverse.map ev}:=by
       have ea:aa (Mi.aX (Mi.take f s j) i {aa (Mi.take f s j) i with load:=some (j,Mi.bS f j)}) i = {aa f i with load:=some (j,Mi.bS f j)}:=by
        show ((Mi.take f s j).aq.set i _).getD i _=_
        rw [dz,if_pos ⟨rfl,by rw [tt,h.fc.nt];exact i1⟩,eT]
       unfold Mi.comes
       rw [ea]
       have el:Mi.dr (Mi.aX (Mi.take f s j) i {aa (Mi.take f s j) i with load:=some (j,Mi.bS f j)}) {aa f i with load:=some (j,Mi.bS f j)} = [(z.2.number:Int),(z.2.left:Int)]:=by
        show [(ak (Mi.take f s j) j).number,Mi.bS f j]=_
        rw [bj.1,<-n0,<-q6,q4]
       rw [el,h.m]
       show ({Mi.take f s j with aq:=((Mi.take f s j).aq.set i _).set i _,book:=_}:Flt)=_
       rw [List.set_set];rfl
      rw [e3];exact gi
end
end Si
namespace Si
open Vbmiaj (Fleet Shift Truck Block Stop Entry Told)
open Mi (Flt Trk Shv Plc Blk Stp WF aa ai bz ak)
section
variable {b:Bool} {F:Fleet} {f:Flt} {x:Shift} {n:Nat}
theorem qc (l:List Nat) (k:Nat):Mi.bump (iN l) k=iN (Vbmiaj.addAt l k):=by
 unfold Mi.bump Vbmiaj.addAt iN
 rw [List.map_set]
 congr 1
 simp only [List.getD,List.getElem?_map]
 cases l[k]?<;>simp
noncomputable def cT (t:Trk):Trk:={t with cnt:=Mi.bump t.cnt (if t.stop then 8 else t.does.toNat)}
theorem BG:∀ k,k<=f.aq.length->∃ L:List Trk,(List.range k).foldl Mi.dR f = {f with aq:=L}/\L.length=f.aq.length/\∀ i,L.getD i Mi.fq=if i < k then cT (aa f i) else aa f i:=by
 intro k
 induction k with
 | zero=>intro _;exact ⟨f.aq,rfl,rfl,fun i=>by rw [if_neg (Nat.not_lt_zero _)];rfl⟩
 | succ k ih=>
   intro hk
   obtain ⟨L,h1,h2,h3⟩:=ih (by omega)
   rw [Mi.fold_succ,h1]
   refine ⟨L.set k (cT (aa f k)),?_,by simp [h2],fun i=>?_⟩
   ·unfold Mi.dR
    have:aa {f with aq:=L} k=aa f k:=by
     show L.getD k _=_
     rw [h3,if_neg (Nat.lt_irrefl _)]
    simp only [this];rfl
   ·rw [dz,h3]
    by_cases e:i=k
    ·rw [if_pos ⟨e,by omega⟩,if_pos (by omega),e]
    ·rw [if_neg (fun z=>e z.1)]
     by_cases q:i < k
     ·rw [if_pos q,if_pos (by omega)]
     ·rw [if_neg q,if_neg (by omega)]
theorem BI:∀ k,k<=f.au.length->∃ L:List Shv,(List.range k).foldl Mi.eY f = {f with au:=L}/\L.length=f.au.length/\∀ i,L.getD i Mi.fO=if i < k then {ai f i with cnt:=Mi.bump (ai f i).cnt (Mi.eH f i)} else ai f i:=by
 intro k
 induction k with
 | zero=>intro _;exact ⟨f.au,rfl,rfl,fun i=>by rw [if_neg (Nat.not_lt_zero _)];rfl⟩
 | succ k ih=>
   intro hk
   obtain ⟨L,h1,h2,h3⟩:=ih (by omega)
   rw [Mi.fold_succ,h1]
   refine ⟨L.set k {ai f k with cnt:=Mi.bump (ai f k).cnt (Mi.eH f k)},?_,by simp [h2],fun i=>?_⟩
   ·have e:ai {f with au:=L} k=ai f k:=by
     show L.getD k _=_
     rw [h3,if_neg (Nat.lt_irrefl _)]
    have e2:Mi.eH {f with au:=L} k=Mi.eH f k:=by
     unfold Mi.eH;rw [e];rfl
    unfold Mi.eY
    simp only [e,e2];rfl
   ·rw [dz,h3]
    by_cases e:i=k
    ·rw [if_pos ⟨e,by omega⟩,if_pos (by omega),e]
    ·rw [if_neg (fun z=>e z.1)]
     by_cases q:i < k
     ·rw [if_pos q,if_pos (by omega)]
     ·rw [if_neg q,if_neg (by omega)]
theorem oX {α:Type} (n i:Nat) (g:Nat->α) (d:α) (h:i < n):(((List.range n).map fun i=>i+1).map g).getD i d=g (i+1):=by
 rw [List.map_map,List.getD,List.getElem?_map,List.getElem?_range h];rfl
theorem Sim.fe (h:Sim b F f x) (s:Nat):Mi.fe f s=Vbmiaj.isBusy x 3 (s+1):=by
 have e1:((s:Int)+1)=((s+1:Nat):Int):=by omega
 have hb:=h.isBusy 3 (s+1)
 unfold Mi.fe
 rw [e1]
 cases q:Vbmiaj.isBusy x 3 (s+1) with
 | false=>
   have:=hb.mpr q
   rw [show ((3:Nat):Int)=3 from rfl] at this
   rw [this];rfl
 | true=>
   refine decide_eq_true ?_
   have:¬Mi.cE f [((3:Nat):Int)] ((s+1:Nat):Int)=0:=fun z=>by rw [hb.mp z] at q;cases q
   have h0:0<=Mi.cE f [3] ((s+1:Nat):Int):=by unfold Mi.cE;omega
   rw [show ((3:Nat):Int)=3 from rfl] at this
   omega
theorem Sim.counted (h:Sim true F f x):Sim true F (Mi.count f) (Vbmiaj.counted F x):=by
 unfold Mi.count
 obtain ⟨L,h1,h2,h3⟩:=BG (f:=f) f.aq.length (Nat.le_refl _)
 rw [h1]
 obtain ⟨M,g1,g2,g3⟩:=BI (f:={f with aq:=L}) f.au.length (Nat.le_refl _)
 rw [g1]
 have nt:=h.fc.nt
 have ns:=h.fc.ns
 have eT:∀ i,i < F.trucks->aa {f with aq:=L,au:=M} i=cT (aa f i):=fun i hi=>by
  show L.getD i _=_
  rw [h3,if_pos (by omega)]
 have eS:∀ i,i < F.loads.length->ai {f with aq:=L,au:=M} i = {ai f i with cnt:=Mi.bump (ai f i).cnt (Mi.eH {f with aq:=L} i)}:=fun i hi=>by
  show M.getD i _=_
  rw [g3,if_pos (by omega)];rfl
 have eS2:∀ i,(ai {f with aq:=L,au:=M} i).row=(ai f i).row/\(ai {f with aq:=L,au:=M} i).time=(ai f i).time/\(ai {f with aq:=L,au:=M} i).stop=(ai f i).stop:=fun i=>by
  have:ai {f with aq:=L,au:=M} i=M.getD i Mi.fO:=rfl
  rw [this,g3]
  split<;>exact ⟨rfl,rfl,rfl⟩
 have eN:∀ i,Mi.fe {f with aq:=L} i=Mi.fe f i:=fun i=>by
  unfold Mi.fe Mi.cE
  rw [A0 (Mi.isAt [3] ((i:Int)+1)) (Mi.isAt [3] ((i:Int)+1)) L f.aq h2 fun j t u q1 q2=>?_]
  have z:=h3 j
  rw [List.getD,q1] at z
  have lj:=(List.getElem?_eq_some_iff.mp q2).1
  rw [if_pos lj] at z
  have:aa f j=u:=by unfold aa;rw [List.getD,q2];rfl
  rw [this] at z
  have z:t=cT u:=z
  rw [z];rfl
 have kS:∀ i,i < F.loads.length->Mi.eH {f with aq:=L} i=Vbmiaj.shovelKind x (i+1):=fun i hi=>by
  unfold Mi.eH Vbmiaj.shovelKind
  have sm:=(h.sm rfl).2 i hi
  have fa:=congrArg List.length (h.fa i hi)
  rw [List.length_map,List.length_map] at fa
  rw [eN,h.fe]
  have e1:(ai {f with aq:=L} i).stop=Vbmiaj.stopped x 1 (i+1):=sm
  have e2:((ai {f with aq:=L} i).row.length=0) ↔ (Vbmiaj.faceOf x (i+1)).isEmpty=true:=by
   show (ai f i).row.length=0 ↔ _
   rw [<-fa];simp
  rw [e1]
  simp only [e2]
 refine {h with fc:=?_,tr:=fun i hi=>?_,fa:=fun i hi=>?_,ml:=?_,mi:=fun i hi=>?_,sl:=?_,sh:=fun i hi=>?_,nd:=fun i hi=>?_,dj:=fun i i' j hi hi'=>?_,sm:=fun e=>⟨fun i hi=>?_,fun i hi=>?_⟩}
 ·exact h.fc.sh ⟨h2,g2,rfl,rfl,rfl,rfl,rfl,rfl,rfl,rfl,rfl,rfl,rfl,rfl⟩ (fun i=>(eS2 i).2.1) fun _=>rfl
 ·have r:=h.tr i hi
  rw [eT i hi]
  exact ⟨r.d,r.a,r.g,r.s,r.p,r.l,r.n⟩
 ·rw [(eS2 i).1];exact h.fa i hi
 ·simp [Vbmiaj.counted,Vbmiaj.trucks]
 ·rw [eT i hi]
  show Mi.bump (aa f i).cnt _=iN (((Vbmiaj.trucks F).map fun t=>Vbmiaj.addAt (x.minutes.getD (t - 1) []) (Vbmiaj.kindOf x t)).getD i [])
  unfold Vbmiaj.trucks
  rw [oX _ _ _ _ hi,Nat.add_sub_cancel,h.mi i hi,qc]
  congr 2
  unfold Vbmiaj.kindOf
  have sm:=(h.sm rfl).1 i hi
  have r:=h.tr i hi
  rw [sm,r.d];rfl
 ·simp [Vbmiaj.counted,Vbmiaj.shovels,Vbmiaj.shovelCount]
 ·rw [eS i hi]
  show Mi.bump (ai f i).cnt _=iN (((Vbmiaj.shovels F).map fun s=>Vbmiaj.addAt (x.shovels.getD (s - 1) []) (Vbmiaj.shovelKind x s)).getD i [])
  unfold Vbmiaj.shovels Vbmiaj.shovelCount
  rw [oX _ _ _ _ hi,Nat.add_sub_cancel,h.sh i hi,qc,kS i hi]
 ·rw [(eS2 i).1];exact h.nd i hi
 ·rw [(eS2 i).1,(eS2 i').1];exact h.dj i i' j hi hi'
 ·rw [eT i hi];exact (h.sm rfl).1 i hi
 ·rw [(eS2 i).2.2];exact (h.sm rfl).2 i hi
end
end Si
namespace Si
open Vbmiaj (Fleet Shift Truck Block Stop Entry Told)
open Mi (Flt Trk Shv Plc Blk Stp WF aa ai bz ak)
section
variable {b:Bool} {F:Fleet} {f:Flt} {x:Shift} {n:Nat}
theorem sum_set (g:Plc->Int):∀ (l:List Plc) (i:Nat) (a:Plc),i < l.length->((l.set i a).map g).sum=(l.map g).sum+(g a - g (l.getD i Mi.qC))
 | [],_,_,h=>by simp at h
 | c::l,0,a,_=>by simp [List.getD];omega
 | c::l,i+1,a,h=>by
   have ih:=sum_set g l i a (by simpa using h)
   simp only [List.set_cons_succ,List.map_cons,List.sum_cons,ih]
   simp [List.getD]
   omega
theorem Sim.tipped (h:Sim b F f x) (W:WF n f) {i:Nat} (hi:i < F.trucks) (h6:(aa f i).does=6) :
  Sim b F (Mi.tip f i) {x with trucks:=x.trucks.set i ⟨0,(Vbmiaj.truckOf x (i+1)).at_,0,0,0,0⟩,tipped:=((Vbmiaj.truckOf x (i+1)).block,(Vbmiaj.truckOf x (i+1)).at_,(Vbmiaj.truckOf x (i+1)).load)::x.tipped}:=by
 have r:=h.tr i hi
 have ok:=W.aa (i:=i) (by rw [h.fc.nt];exact hi)
 obtain ⟨l,hl⟩:=Option.isSome_iff_exists.mp (ok.l3 (.inr (.inr (.inr h6))))
 obtain ⟨j,kg⟩:=l
 have hj:j < f.aA.length:=ok.l _ hl
 have wa:=ok.w4 (.inr (.inr h6))
 have rl:=r.l
 unfold Mi.dr at rl
 rw [hl] at rl
 simp only at rl
 have rb:(ak f j).number=((Vbmiaj.truckOf x (i+1)).block:Int):=by injection rl
 have rk:kg=((Vbmiaj.truckOf x (i+1)).load:Int):=by injection rl with _ rl;injection rl
 have ra:=r.a
 generalize Vbmiaj.truckOf x (i+1)=k at *
 have np:=h.fc.np
 have hp:(aa f i).at_=(((aa f i).at_ - 1).toNat:Int)+1:=by omega
 have hpl:((aa f i).at_ - 1).toNat < f.br.length:=by omega
 have pk:k.at_=((aa f i).at_ - 1).toNat+1:=by omega
 generalize ((aa f i).at_ - 1).toNat=p at *
 have eq:Mi.tip f i = {f with br:=f.br.set p {bz f p with loads:=(bz f p).loads+1,bU:=(bz f p).bU+kg},aA:=f.aA.set j {ak f j with tipped:=(ak f j).tipped+kg},aq:=f.aq.set i {aa f i with load:=none,does:=0,go:=0}}:=by
  have q:((aa f i).at_ - 1).toNat=p:=by omega
  unfold Mi.tip
  simp only [hl,q];rfl
 rw [eq]
 generalize hg:({f with br:=f.br.set p {bz f p with loads:=(bz f p).loads+1,bU:=(bz f p).bU+kg},aA:=f.aA.set j {ak f j with tipped:=(ak f j).tipped+kg},aq:=f.aq.set i {aa f i with load:=none,does:=0,go:=0}}:Flt)=g
 have eT:∀ y,y < F.trucks->aa g y=if y=i then {aa f i with load:=none,does:=0,go:=0} else aa f y:=fun y hy=>by
  rw [<-hg];show (f.aq.set i _).getD y _=_
  rw [dz]
  by_cases e:y=i
  ·rw [if_pos ⟨e,by rw [h.fc.nt];exact hi⟩,if_pos e]
  ·rw [if_neg (fun z=>e z.1),if_neg e];rfl
 have eX:∀ y,Vbmiaj.truckOf {x with trucks:=x.trucks.set i ⟨0,k.at_,0,0,0,0⟩,tipped:=(k.block,k.at_,k.load)::x.tipped} (y+1)=if y=i then ⟨0,k.at_,0,0,0,0⟩ else Vbmiaj.truckOf x (y+1):=fun y=>by
  show (x.trucks.set i _).getD (y+1 - 1) _=_
  rw [Nat.add_sub_cancel,dz]
  by_cases e:y=i
  ·rw [if_pos ⟨e,by rw [h.xl];exact hi⟩,if_pos e]
  ·rw [if_neg (fun z=>e z.1),if_neg e];rfl
 have eB:∀ y,ak g y=if y=j then {ak f j with tipped:=(ak f j).tipped+kg} else ak f y:=fun y=>by
  rw [<-hg];show (f.aA.set j _).getD y _=_
  rw [dz]
  by_cases e:y=j
  ·rw [if_pos ⟨e,hj⟩,if_pos e]
  ·rw [if_neg (fun z=>e z.1),if_neg e];rfl
 have eP:∀ y,bz g y=if y=p then {bz f p with loads:=(bz f p).loads+1,bU:=(bz f p).bU+kg} else bz f y:=fun y=>by
  rw [<-hg];show (f.br.set p _).getD y _=_
  rw [dz]
  by_cases e:y=p
  ·rw [if_pos ⟨e,hpl⟩,if_pos e]
  ·rw [if_neg (fun z=>e z.1),if_neg e];rfl
 have bN:∀ y,(ak g y).number=(ak f y).number/\(ak g y).left=(ak f y).left/\(ak g y).place=(ak f y).place:=fun y=>by
  rw [eB]
  by_cases e:y=j
  ·rw [if_pos e,e];exact ⟨rfl,rfl,rfl⟩
  ·rw [if_neg e];exact ⟨rfl,rfl,rfl⟩
 have lenB:g.aA.length=f.aA.length:=by rw [<-hg];simp
 have eS:∀ y,ai g y=ai f y:=fun y=>by rw [<-hg];rfl
 have bmE:∀ y,bm g y=bm f y:=fun y=>by unfold bm;rw [(bN y).1,(bN y).2.1,(bN y).2.2]
 refine ⟨?_,?_,by simp [h.xl],fun y hy=>?_,h.xf,fun y hy=>?_,?_,?_,h.ml,fun y hy=>?_,h.sl,fun y hy=>?_,fun y hy=>?_,?_,?_,fun y hy=>?_,fun y z hy hz e=>?_,fun z hz=>?_,fun y hy=>?_,fun y y' z hy hy'=>?_,fun e=>⟨fun y hy=>?_,fun y hy=>?_⟩⟩
 ·refine h.fc.sh (by rw [<-hg];exact ⟨by simp,rfl,by simp,by simp,rfl,rfl,rfl,rfl,rfl,rfl,rfl,rfl,rfl,rfl⟩) (fun y=>by rw [eS]) fun y=>?_
  rw [eP]
  by_cases e:y=p
  ·rw [if_pos e,e]
  ·rw [if_neg e]
 ·rw [<-hg];exact h.m
 ·rw [eT y hy,eX]
  by_cases e:y=i
  ·rw [if_pos e,if_pos e]
   exact ⟨rfl,ra,rfl,fun z=>by rcases z with z | z<;>exact absurd z (by show ¬((0:Int)=_);decide),fun z=>absurd z (by show ¬((0:Int)=_);decide),rfl,fun _=>rfl⟩
  ·rw [if_neg e,if_neg e]
   exact (h.tr y hy).at_ fun u _ l _ _=>⟨(bN u).1,(bN u).2.2⟩
 ·rw [eS,funext bmE];exact h.fa y hy
 ·rw [<-hg];exact h.st
 ·rw [<-hg];exact h.bk
 ·rw [eT y hy]
  by_cases e:y=i
  ·rw [if_pos e];subst e;exact h.mi y hy
  ·rw [if_neg e];exact h.mi y hy
 ·rw [eS];exact h.sh y hy
 ·rw [eP]
  show _=(((((k.block,k.at_,k.load)::x.tipped).filter fun z=>z.2.1==y+1).length:Nat):Int)/\_=((Vbmiaj.sum ((((k.block,k.at_,k.load)::x.tipped).filter fun z=>z.2.1==y+1).map fun z=>z.2.2):Nat):Int)
  rw [List.filter_cons]
  obtain ⟨t1,t2⟩:=h.tp y hy
  by_cases e:y=p
  ·subst e
   rw [if_pos rfl,if_pos (by rw [pk];simp)]
   rw [List.map_cons,List.length_cons]
   refine ⟨by show (bz f y).loads+1=_;rw [t1];omega,?_⟩
   show (bz f y).bU+kg=((k.load+Vbmiaj.sum _:Nat):Int)
   rw [t2,rk];omega
  ·rw [if_neg e,if_neg (by rw [pk];simp;omega)]
   exact ⟨t1,t2⟩
 ·show Mi.cf g=((x.tipped.length+1:Nat):Int)
  have z:=h.tl
  unfold Mi.cf at z ⊢
  rw [<-hg]
  show ((f.br.set p _).map (·.loads)).sum=_
  rw [sum_set (·.loads) f.br p _ hpl,z]
  show _+((bz f p).loads+1 - (bz f p).loads)=_
  omega
 ·show Mi.dt g=((k.load+Vbmiaj.done x:Nat):Int)
  have z:=h.tk
  unfold Mi.dt at z ⊢
  rw [<-hg]
  show ((f.br.set p _).map (·.bU)).sum=_
  rw [sum_set (·.bU) f.br p _ hpl,z]
  show _+((bz f p).bU+kg - (bz f p).bU)=_
  omega
 ·rw [lenB] at hy
  obtain ⟨m,q1,q2⟩:=h.bt y hy
  refine ⟨m,(bN y).1.trans q1,?_⟩
  show _=((Vbmiaj.sum ((((k.block,k.at_,k.load)::x.tipped).filter fun z=>z.1==m).map fun z=>z.2.2):Nat):Int)
  rw [List.filter_cons,eB]
  by_cases e:y=j
  ·subst e
   rw [if_pos rfl,if_pos (by simp;omega)]
   show (ak f y).tipped+kg=((k.load+Vbmiaj.tippedOf x m:Nat):Int)
   rw [q2,rk];omega
  ·have:¬k.block=m:=fun z=>e (h.bn y j hy hj (by rw [q1,rb,z]))
   rw [if_neg e,if_neg (by simpa using this)]
   exact q2
 ·rw [lenB] at hy hz
  rw [(bN y).1,(bN z).1] at e
  exact h.bn y z hy hz e
 ·rcases List.mem_cons.mp hz with rfl | hz
  ·exact ⟨j,by rw [lenB];exact hj,(bN j).1.trans rb⟩
  ·obtain ⟨y,q1,q2⟩:=h.tb z hz
   exact ⟨y,by rw [lenB];exact q1,(bN y).1.trans q2⟩
 ·rw [eS];exact h.nd y hy
 ·rw [eS,eS];exact h.dj y y' z hy hy'
 ·rw [eT y hy]
  by_cases q:y=i
  ·rw [if_pos q];subst q;exact (h.sm e).1 y hy
  ·rw [if_neg q];exact (h.sm e).1 y hy
 ·rw [eS];exact (h.sm e).2 y hy
theorem Sim.passes (h:Sim true F f x) (W:WF n f) {i:Nat} (hi:i < F.trucks):Sim true F (Mi.eG f i) (Vbmiaj.passes F x (i+1)):=by
 have r:=h.tr i hi
 have ok:=W.aa (i:=i) (by rw [h.fc.nt];exact hi)
 have sm:=(h.sm rfl).1 i hi
 have rd:=r.d
 have ra:=r.a
 have rg:=r.g
 unfold Mi.eG Vbmiaj.passes
 simp only
 have hh:Mi.held f (aa f i)=(Vbmiaj.stopped x 0 (i+1)||((Vbmiaj.truckOf x (i+1)).does==3&&Vbmiaj.stopped x 1 (Vbmiaj.truckOf x (i+1)).at_)):=by
  unfold Mi.held
  rw [sm]
  congr 1
  by_cases e:(Vbmiaj.truckOf x (i+1)).does=3
  ·have w:=ok.w1 (.inr (.inr (by omega)))
   have ns:=h.fc.ns
   have s2:=(h.sm rfl).2 ((aa f i).at_ - 1).toNat (by omega)
   rw [s2,decide_eq_true (show (aa f i).does=3 by omega),beq_iff_eq.mpr e]
   congr 2
   omega
  ·rw [decide_eq_false (show ¬(aa f i).does=3 by omega),beq_eq_false_iff_ne.mpr e];rfl
 rw [hh]
 by_cases st:(Vbmiaj.stopped x 0 (i+1)||((Vbmiaj.truckOf x (i+1)).does==3&&Vbmiaj.stopped x 1 (Vbmiaj.truckOf x (i+1)).at_))=true
 ·rw [if_pos st,if_neg (fun z=>by rw [st] at z;cases z.2)];exact h
 ·rw [if_neg st]
  have st:(Vbmiaj.stopped x 0 (i+1)||((Vbmiaj.truckOf x (i+1)).does==3&&Vbmiaj.stopped x 1 (Vbmiaj.truckOf x (i+1)).at_))=false:=by simpa using st
  by_cases dd:(Vbmiaj.truckOf x (i+1)).does=1\/(Vbmiaj.truckOf x (i+1)).does=3\/(Vbmiaj.truckOf x (i+1)).does=4\/(Vbmiaj.truckOf x (i+1)).does=6
  ·rw [if_pos dd,if_pos ⟨by omega,st⟩]
   have em:f.minute+1=((x.minute+1:Nat):Int):=by rw [h.m];omega
   by_cases gg:1 < (Vbmiaj.truckOf x (i+1)).more
   ·rw [if_pos gg,if_pos (by omega)]
    have z:=h.goes hi (t:={aa f i with go:=(aa f i).go - 1}) (k:={Vbmiaj.truckOf x (i+1) with more:=(Vbmiaj.truckOf x (i+1)).more - 1}) (es:=[]) ⟨rd,ra,by show (aa f i).go - 1=_;rw [rg];show _=(((Vbmiaj.truckOf x (i+1)).more - 1:Nat):Int);omega,r.s,r.p,r.l,r.n⟩ rfl rfl
    have e2:Mi.aX f i {aa f i with go:=(aa f i).go - 1} = {f with aq:=f.aq.set i {aa f i with go:=(aa f i).go - 1},book:=f.book++([]:List Entry).reverse.map ev}:=by
     show _=({f with aq:=_,book:=f.book++[]}:Flt)
     rw [List.append_nil];rfl
    rw [e2];exact z
   ·rw [if_neg gg,if_neg (by omega)]
    unfold Mi.ly
    simp only
    by_cases d1:(Vbmiaj.truckOf x (i+1)).does=1
    ·rw [if_pos d1,if_pos (by omega)]
     have ln:=r.n (.inr (.inl (by omega)))
     refine h.comes hi (k:=⟨2,(Vbmiaj.truckOf x (i+1)).at_,0,x.minute+1,0,0⟩) (e:=⟨x.minute+1,i+1,2,(Vbmiaj.truckOf x (i+1)).at_,0,0⟩) ⟨rfl,ra,rfl,fun _=>em,fun z=>absurd z (by show ¬((2:Int)=_);decide),fK ln,fun _=>ln⟩ ?_
     rw [fK ln,em,ra];rfl
    ·rw [if_neg d1,if_neg (by omega)]
     by_cases d3:(Vbmiaj.truckOf x (i+1)).does=3
     ·rw [if_pos d3,if_pos (by omega)]
      obtain ⟨l,hl⟩:=Option.isSome_iff_exists.mp (ok.l3 (.inl (by omega)))
      obtain ⟨j,kg⟩:=l
      have hj:j < f.aA.length:=ok.l _ hl
      have bp:=W.ak hj
      have rp:=r.p (by omega) _ hl
      have np:=h.fc.np
      have ns:=h.fc.ns
      have w1:=ok.w1 (.inr (.inr (by omega)))
      simp only [hl]
      have rp:(ak f j).place=((Vbmiaj.truckOf x (i+1)).since:Int):=rp
      rw [rp,ra,h.fc.wp _ _ (by omega) (by omega) (by omega) (by omega)]
      refine h.comes hi (k:=⟨4,(Vbmiaj.truckOf x (i+1)).since,Vbmiaj.wayOut F (Vbmiaj.truckOf x (i+1)).at_ (Vbmiaj.truckOf x (i+1)).since,0,(Vbmiaj.truckOf x (i+1)).block,(Vbmiaj.truckOf x (i+1)).load⟩) (e:=⟨x.minute+1,i+1,4,(Vbmiaj.truckOf x (i+1)).since,(Vbmiaj.truckOf x (i+1)).block,(Vbmiaj.truckOf x (i+1)).load⟩)
       ⟨rfl,rfl,rfl,fun z=>by rcases z with z | z<;>exact absurd z (by show ¬((4:Int)=_);decide),fun z=>absurd z (by show ¬((4:Int)=_);decide),r.l,fun z=>by rcases z with z | z | z | z<;>exact absurd z (by show ¬((4:Int)=_);decide)⟩ ?_
      rw [r.l,em];rfl
     ·rw [if_neg d3,if_neg (by omega)]
      by_cases d4:(Vbmiaj.truckOf x (i+1)).does=4
      ·rw [if_pos d4,if_pos (by omega)]
       refine h.comes hi (k:=⟨5,(Vbmiaj.truckOf x (i+1)).at_,0,x.minute+1,(Vbmiaj.truckOf x (i+1)).block,(Vbmiaj.truckOf x (i+1)).load⟩) (e:=⟨x.minute+1,i+1,5,(Vbmiaj.truckOf x (i+1)).at_,(Vbmiaj.truckOf x (i+1)).block,(Vbmiaj.truckOf x (i+1)).load⟩)
        ⟨rfl,ra,rfl,fun _=>em,fun z=>absurd z (by show ¬((5:Int)=_);decide),r.l,fun z=>by rcases z with z | z | z | z<;>exact absurd z (by show ¬((5:Int)=_);decide)⟩ ?_
       rw [r.l,em,ra];rfl
      ·rw [if_neg d4,if_neg (by omega)]
       exact h.tipped W hi (by omega)
  ·rw [if_neg dd,if_neg (fun z=>dd (by omega))];exact h
end
end Si
namespace Si
open Vbmiaj (Fleet Shift Truck Block Stop Entry Told)
open Mi (Flt Trk Shv Plc Blk Stp WF aa ai bz ak)
section
variable {b:Bool} {F:Fleet} {f:Flt} {x:Shift} {n:Nat}
structure Mk (f g:Flt) (p q:Nat->Bool):Prop where
 e:∃ L M,g = {f with aq:=L,au:=M}
 lt:g.aq.length=f.aq.length
 ls:g.au.length=f.au.length
 t:∀ i,i < f.aq.length->aa g i = {aa f i with stop:=p i}
 s:∀ i,i < f.au.length->ai g i = {ai f i with stop:=q i}
theorem Mk.one {g:Flt} {p q:Nat->Bool} (h:Mk f g p q) {z:Stp} (hz:Mi.ZOk f.aq.length f.au.length z) :
  Mk f (Mi.dO g z) (fun i=>p i||(decide (z.kind=0)&&(decide (z.which=(i:Int)+1)&&(decide (z.since<=f.minute)&&decide (f.minute < z.until_))))) (fun i=>q i||(decide (z.kind=1)&&(decide (z.which=(i:Int)+1)&&(decide (z.since<=f.minute)&&decide (f.minute < z.until_))))):=by
 obtain ⟨L,M,hg⟩:=h.e
 have hm:g.minute=f.minute:=by rw [hg]
 unfold Mi.dO
 rw [hm]
 by_cases c:z.since<=f.minute/\f.minute < z.until_
 ·rw [if_pos c]
  have c1:decide (z.since<=f.minute)=true:=decide_eq_true c.1
  have c2:decide (f.minute < z.until_)=true:=decide_eq_true c.2
  rcases hz.k with ⟨k,w1,w2⟩ | ⟨k,w1,w2⟩
  ·rw [if_pos k]
   have hw:(z.which - 1).toNat < f.aq.length:=by omega
   refine ⟨⟨(Mi.aX g (z.which - 1).toNat {aa g (z.which - 1).toNat with stop:=true}).aq,M,by rw [hg];rfl⟩,by simp [Mi.aX,h.lt],h.ls,fun i hi=>?_,fun i hi=>?_⟩
   ·show (g.aq.set _ _).getD i _=_
    rw [dz]
    by_cases e:i=(z.which - 1).toNat
    ·rw [if_pos ⟨e,by rw [h.lt];exact hw⟩,<-e,h.t i hi]
     have:decide (z.which=(i:Int)+1)=true:=decide_eq_true (by omega)
     rw [c1,c2,this,decide_eq_true k];simp
    ·rw [if_neg (fun z=>e z.1)]
     have:decide (z.which=(i:Int)+1)=false:=decide_eq_false (by omega)
     rw [this]
     show aa g i=_
     rw [h.t i hi];simp
   ·show ai g i=_
    rw [h.s i hi,decide_eq_false (show ¬z.kind=1 by omega)];simp
  ·rw [if_neg (by omega)]
   have hw:(z.which - 1).toNat < f.au.length:=by omega
   refine ⟨⟨L,(Mi.cZ g (z.which - 1).toNat {ai g (z.which - 1).toNat with stop:=true}).au,by rw [hg];rfl⟩,h.lt,by simp [Mi.cZ,h.ls],fun i hi=>?_,fun i hi=>?_⟩
   ·show aa g i=_
    rw [h.t i hi,decide_eq_false (show ¬z.kind=0 by omega)];simp
   ·show (g.au.set _ _).getD i _=_
    rw [dz]
    by_cases e:i=(z.which - 1).toNat
    ·rw [if_pos ⟨e,by rw [h.ls];exact hw⟩,<-e,h.s i hi]
     have:decide (z.which=(i:Int)+1)=true:=decide_eq_true (by omega)
     rw [c1,c2,this,decide_eq_true k];simp
    ·rw [if_neg (fun z=>e z.1)]
     have:decide (z.which=(i:Int)+1)=false:=decide_eq_false (by omega)
     rw [this]
     show ai g i=_
     rw [h.s i hi];simp
 ·rw [if_neg c]
  have e:(decide (z.since<=f.minute)&&decide (f.minute < z.until_))=false:=by
   cases q:(decide (z.since<=f.minute)&&decide (f.minute < z.until_)) with
   | false=>rfl
   | true=>
     rw [Bool.and_eq_true] at q
     exact absurd ⟨of_decide_eq_true q.1,of_decide_eq_true q.2⟩ c
  refine ⟨h.e,h.lt,h.ls,fun i hi=>?_,fun i hi=>?_⟩
  ·rw [h.t i hi,e];simp
  ·rw [h.s i hi,e];simp
noncomputable def hit (k:Int) (m:Int) (i:Nat) (z:Stp):Bool:=decide (z.kind=k)&&(decide (z.which=(i:Int)+1)&&(decide (z.since<=m)&&decide (m < z.until_)))
theorem Mk.all:∀ (l:List Stp) {g:Flt} {p q:Nat->Bool},Mk f g p q->(∀ z ∈ l,Mi.ZOk f.aq.length f.au.length z)->Mk f (l.foldl Mi.dO g) (fun i=>p i||l.any (hit 0 f.minute i)) (fun i=>q i||l.any (hit 1 f.minute i))
 | [],g,p,q,h,_=>by simpa using h
 | z::l,g,p,q,h,hz=>by
   have z1:=h.one (hz z (by simp))
   have z2:=Mk.all l z1 fun y hy=>hz y (by simp [hy])
   have e1:(fun i=>(p i||(decide (z.kind=0)&&(decide (z.which=(i:Int)+1)&&(decide (z.since<=f.minute)&&decide (f.minute < z.until_)))))||l.any (hit 0 f.minute i))=fun i=>p i||(z::l).any (hit 0 f.minute i):=by
    funext i;rw [List.any_cons,<-Bool.or_assoc];rfl
   have e2:(fun i=>(q i||(decide (z.kind=1)&&(decide (z.which=(i:Int)+1)&&(decide (z.since<=f.minute)&&decide (f.minute < z.until_)))))||l.any (hit 1 f.minute i))=fun i=>q i||(z::l).any (hit 1 f.minute i):=by
    funext i;rw [List.any_cons,<-Bool.or_assoc];rfl
   rw [e1,e2] at z2
   exact z2
theorem z9:∀ k,k<=f.aq.length->∃ L:List Trk,(List.range k).foldl Mi.iq f = {f with aq:=L}/\L.length=f.aq.length/\∀ i,L.getD i Mi.fq=if i < k then {aa f i with stop:=false} else aa f i:=by
 intro k
 induction k with
 | zero=>intro _;exact ⟨f.aq,rfl,rfl,fun i=>by rw [if_neg (Nat.not_lt_zero _)];rfl⟩
 | succ k ih=>
   intro hk
   obtain ⟨L,h1,h2,h3⟩:=ih (by omega)
   rw [Mi.fold_succ,h1]
   refine ⟨L.set k {aa f k with stop:=false},?_,by simp [h2],fun i=>?_⟩
   ·unfold Mi.iq
    have:aa {f with aq:=L} k=aa f k:=by
     show L.getD k _=_
     rw [h3,if_neg (Nat.lt_irrefl _)]
    rw [this];rfl
   ·rw [dz,h3]
    by_cases e:i=k
    ·rw [if_pos ⟨e,by omega⟩,if_pos (by omega),e]
    ·rw [if_neg (fun z=>e z.1)]
     by_cases q:i < k
     ·rw [if_pos q,if_pos (by omega)]
     ·rw [if_neg q,if_neg (by omega)]
theorem za:∀ k,k<=f.au.length->∃ L:List Shv,(List.range k).foldl Mi.ir f = {f with au:=L}/\L.length=f.au.length/\∀ i,L.getD i Mi.fO=if i < k then {ai f i with stop:=false} else ai f i:=by
 intro k
 induction k with
 | zero=>intro _;exact ⟨f.au,rfl,rfl,fun i=>by rw [if_neg (Nat.not_lt_zero _)];rfl⟩
 | succ k ih=>
   intro hk
   obtain ⟨L,h1,h2,h3⟩:=ih (by omega)
   rw [Mi.fold_succ,h1]
   refine ⟨L.set k {ai f k with stop:=false},?_,by simp [h2],fun i=>?_⟩
   ·unfold Mi.ir
    have:ai {f with au:=L} k=ai f k:=by
     show L.getD k _=_
     rw [h3,if_neg (Nat.lt_irrefl _)]
    rw [this];rfl
   ·rw [dz,h3]
    by_cases e:i=k
    ·rw [if_pos ⟨e,by omega⟩,if_pos (by omega),e]
    ·rw [if_neg (fun z=>e z.1)]
     by_cases q:i < k
     ·rw [if_pos q,if_pos (by omega)]
     ·rw [if_neg q,if_neg (by omega)]
theorem yD (W:WF n f):Mk f (Mi.mark f) (fun i=>f.cI.any (hit 0 f.minute i)) (fun i=>f.cI.any (hit 1 f.minute i)):=by
 unfold Mi.mark
 simp only
 obtain ⟨L,h1,h2,h3⟩:=z9 (f:=f) f.aq.length (Nat.le_refl _)
 rw [h1]
 obtain ⟨M,g1,g2,g3⟩:=za (f:={f with aq:=L}) f.au.length (Nat.le_refl _)
 rw [g1]
 have m0:Mk f {f with aq:=L,au:=M} (fun _=>false) fun _=>false:=by
  refine ⟨⟨L,M,rfl⟩,h2,g2,fun i hi=>?_,fun i hi=>?_⟩
  ·show L.getD i _=_
   rw [h3,if_pos hi]
  ·show M.getD i _=_
   rw [g3,if_pos hi];rfl
 have:=m0.all f.cI W.stp
 simpa using this
theorem Sim.stopped (h:Sim b F f x) (k i:Nat):f.cI.any (hit (k:Int) f.minute i)=Vbmiaj.stopped x k (i+1):=by
 rw [h.st,List.any_map,List.any_reverse]
 unfold Vbmiaj.stopped
 congr 1
 funext z
 show hit (k:Int) f.minute i (zv z)=_
 unfold hit zv
 rw [h.m,Bool.eq_iff_iff]
 simp
 omega
theorem Sim.mark (h:Sim b F f x) (W:WF n f):Sim true F (Mi.mark f) x:=by
 have m:=yD W
 have nt:=h.fc.nt
 have ns:=h.fc.ns
 obtain ⟨L,M,hg⟩:=m.e
 have eT:=m.t
 have eS:=m.s
 have lt:=m.lt
 have ls:=m.ls
 generalize Mi.mark f=g at *
 have eB:∀ j,ak g j=ak f j:=fun j=>by rw [hg];rfl
 have eP:∀ j,bz g j=bz f j:=fun j=>by rw [hg];rfl
 have bmE:bm g=bm f:=funext fun j=>by unfold bm;rw [eB]
 have e1:g.cI=f.cI:=by rw [hg]
 have e2:g.book=f.book:=by rw [hg]
 have e3:g.minute=f.minute:=by rw [hg]
 have e4:g.aA=f.aA:=by rw [hg]
 have e5:g.br=f.br:=by rw [hg]
 refine ⟨?_,e3.trans h.m,h.xl,fun y hy=>?_,h.xf,fun y hy=>?_,e1.trans h.st,e2.trans h.bk,h.ml,fun y hy=>?_,h.sl,fun y hy=>?_,fun y hy=>by rw [eP];exact h.tp y hy,?_,?_,fun y hy=>?_,fun y z hy hz e=>?_,fun z hz=>?_,fun y hy=>?_,fun y y' z hy hy'=>?_,fun e=>⟨fun y hy=>?_,fun y hy=>?_⟩⟩
 ·have c:=h.fc
  refine ⟨by rw [hg];exact c.c,by rw [hg];exact c.r,lt.trans c.nt,ls.trans c.ns,by rw [e5];exact c.np,fun i hi=>?_,fun i hi=>by rw [eP];exact c.tt i hi,fun p s a1 a2 a3=>?_,fun s p a1 a2 a3 a4=>?_⟩
  ·rw [eS i (by omega)];exact c.lt i hi
  ·rw [<-c.ws p s a1 a2 a3];unfold Mi.gC;rw [ls,hg]
  ·rw [<-c.wp s p a1 a2 a3 a4];unfold Mi.iV;rw [e5,hg]
 ·rw [eT y (by omega)]
  have r:=h.tr y hy
  refine ⟨r.d,r.a,r.g,r.s,fun q l hl=>by rw [eB];exact r.p q l hl,?_,r.n⟩
  rw [<-r.l];unfold Mi.dr;simp only [eB]
 ·rw [eS y (by omega),bmE];exact h.fa y hy
 ·rw [eT y (by omega)];exact h.mi y hy
 ·rw [eS y (by omega)];exact h.sh y hy
 ·unfold Mi.cf;rw [e5];exact h.tl
 ·unfold Mi.dt;rw [e5];exact h.tk
 ·rw [e4] at hy
  rw [eB];exact h.bt y hy
 ·rw [e4] at hy hz
  rw [eB,eB] at e;exact h.bn y z hy hz e
 ·obtain ⟨j,q1,q2⟩:=h.tb z hz
  exact ⟨j,by rw [e4];exact q1,by rw [eB];exact q2⟩
 ·rw [eS y (by omega)];exact h.nd y hy
 ·rw [eS y (by omega),eS y' (by omega)];exact h.dj y y' z hy hy'
 ·rw [eT y (by omega)];exact h.stopped 0 y
 ·rw [eS y (by omega)];exact h.stopped 1 y
theorem mx {N:Nat} {st:Flt->Nat->Flt} {sx:Shift->Nat->Shift} (hsh:∀ g j,Mi.Sh g (st g j)) (d:Nat) (hw:∀ m g j,WF m g->Mi.Sh f g->j < N->WF (m+d) (st g j)) (hs:∀ m g y j,WF m g->Sim true F g y->Mi.Sh f g->j < N->Sim true F (st g j) (sx y (j+1))) (W:WF n f) (h:Sim true F f x) :
  ∀ k,k<=N->Sim true F ((List.range k).foldl st f) (((List.range k).map fun i=>i+1).foldl sx x):=by
 have base:=fun k hk=>Mi.gH (d:=d) (N:=N) hsh hw W k hk
 intro k
 induction k with
 | zero=>intro _;exact h
 | succ k ih=>
   intro hk
   have ih:=ih (by omega)
   obtain ⟨w1,s1⟩:=base k (by omega)
   rw [Mi.fold_succ,List.range_succ,List.map_append,List.foldl_append]
   exact hs _ _ _ _ w1 ih s1 (by omega)
end
end Si
namespace Si
open Vbmiaj (Fleet Shift Truck Block Stop Entry Told)
open Mi (Flt Trk Shv Plc Blk Stp WF aa ai bz ak)
section
variable {b:Bool} {F:Fleet} {f:Flt} {x:Shift} {n:Nat}
theorem Sim.tP (h:Sim b F f x) (m:Nat):Sim false F {f with minute:=(m:Int)} {x with minute:=m}:=
 ⟨⟨h.fc.c,h.fc.r,h.fc.nt,h.fc.ns,h.fc.np,h.fc.lt,h.fc.tt,h.fc.ws,h.fc.wp⟩,rfl,h.xl,fun i hi=>(h.tr i hi).at_ fun _ _ _ _ _=>⟨rfl,rfl⟩,h.xf,h.fa,h.st,h.bk,h.ml,h.mi,h.sl,h.sh,h.tp,h.tl,h.tk,h.bt,h.bn,h.tb,h.nd,h.dj,fun e=>by cases e⟩
theorem Sim.minute (h:Sim b F f x) (W:WF n f):Sim false F (Mi.minute f) (Vbmiaj.minute F x):=by
 have hm:=h.mark W
 obtain ⟨w0,s0⟩:=Mi.qP W
 have h1:=mx (sx:=Vbmiaj.sent F) Mi.Sh.cY 1 (N:=F.trucks) (fun m g j w s hj=>w.cY (by rw [s.t,hm.fc.nt];exact hj)) (fun m g y j w h s hj=>h.sent w hj) w0 hm F.trucks (Nat.le_refl _)
 have ea:(List.range F.trucks).foldl Mi.cY (Mi.mark f)=Mi.sendAll (Mi.mark f):=by unfold Mi.sendAll;rw [hm.fc.nt]
 rw [ea] at h1
 obtain ⟨w1,s1⟩:=Mi.lK w0
 have h2:=mx (sx:=Vbmiaj.tips F) Mi.Sh.eA 1 (N:=F.tips.length) (fun m g j w s hj=>w.eA (by rw [s.p,h1.fc.np];exact hj)) (fun m g y j w h s hj=>h.tips w hj) w1 h1 F.tips.length (Nat.le_refl _)
 have eb:(List.range F.tips.length).foldl Mi.eA (Mi.sendAll (Mi.mark f))=Mi.gD (Mi.sendAll (Mi.mark f)):=by unfold Mi.gD;rw [h1.fc.np]
 rw [eb] at h2
 obtain ⟨w2,s2⟩:=Mi.mG w1
 have h3:=mx (sx:=Vbmiaj.loaded F) Mi.Sh.cU 1 (N:=F.loads.length) (fun m g j w s hj=>w.cU (by rw [s.s,h2.fc.ns];exact hj)) (fun m g y j w h s hj=>h.loaded w hj) w2 h2 F.loads.length (Nat.le_refl _)
 have ec:(List.range F.loads.length).foldl Mi.cU (Mi.gD (Mi.sendAll (Mi.mark f)))=Mi.gp (Mi.gD (Mi.sendAll (Mi.mark f))):=by unfold Mi.gp;rw [h2.fc.ns]
 rw [ec] at h3
 obtain ⟨w3,s3⟩:=Mi.lO w2
 have h4:=h3.counted
 obtain ⟨w4,s4⟩:=Mi.pj w3
 have h5:=mx (sx:=Vbmiaj.passes F) Mi.Sh.eG 1 (N:=F.trucks) (fun m g j w s hj=>w.eG (by rw [s.t,h4.fc.nt];exact hj)) (fun m g y j w h s hj=>h.passes w hj) w4 h4 F.trucks (Nat.le_refl _)
 have ed:(List.range F.trucks).foldl Mi.eG (Mi.count (Mi.gp (Mi.gD (Mi.sendAll (Mi.mark f)))))=Mi.mid f:=by unfold Mi.mid Mi.hC;rw [h4.fc.nt]
 rw [ed] at h5
 obtain ⟨w5,s5⟩:=Mi.ub W
 have z:=h5.tP (x.minute+1)
 have em:Mi.minute f = {Mi.mid f with minute:=((x.minute+1:Nat):Int)}:=by
  rw [Mi.jj,s5.m,h.m]
  congr 1
 rw [em];exact z
theorem mq (F:Fleet):∀ (k:Nat) (x:Shift),Vbmiaj.minutes F (k+1) x=Vbmiaj.minute F (Vbmiaj.minutes F k x)
 | 0,x=>rfl
 | k+1,x=>by
   show Vbmiaj.minutes F (k+1) (Vbmiaj.minute F x)=_
   rw [mq F k];rfl
theorem Sim.minutes (h:Sim false F f x) (W:WF n f):∀ k,Sim false F (Mi.minutes f k) (Vbmiaj.minutes F k x)
 | 0=>h
 | k+1=>by
   rw [mq]
   exact (Sim.minutes h W k).minute (Mi.gv W k)
theorem sH:∀ k,k<=f.aq.length->∃ L:List Trk,(List.range k).foldl Mi.fz f = {f with aq:=L}/\L.length=f.aq.length/\∀ i,L.getD i Mi.fq=if i < k/\(aa f i).does=7 then {aa f i with does:=0} else aa f i:=by
 intro k
 induction k with
 | zero=>intro _;exact ⟨f.aq,rfl,rfl,fun i=>by rw [if_neg (fun z=>absurd z.1 (Nat.not_lt_zero _))];rfl⟩
 | succ k ih=>
   intro hk
   obtain ⟨L,h1,h2,h3⟩:=ih (by omega)
   rw [Mi.fold_succ,h1]
   have e0:aa {f with aq:=L} k=aa f k:=by
    show L.getD k _=_
    rw [h3,if_neg (fun z=>Nat.lt_irrefl _ z.1)]
   unfold Mi.fz
   rw [e0]
   by_cases c:(aa f k).does=7
   ·rw [if_pos c]
    refine ⟨L.set k {aa f k with does:=0},rfl,by simp [h2],fun i=>?_⟩
    rw [dz,h3]
    by_cases e:i=k
    ·subst e;rw [if_pos ⟨rfl,by omega⟩,if_pos ⟨by omega,c⟩]
    ·rw [if_neg (fun z=>e z.1)]
     by_cases q:i < k/\(aa f i).does=7
     ·rw [if_pos q,if_pos ⟨by omega,q.2⟩]
     ·rw [if_neg q,if_neg (fun z=>q ⟨by omega,z.2⟩)]
   ·rw [if_neg c]
    refine ⟨L,rfl,h2,fun i=>?_⟩
    rw [h3]
    by_cases q:i < k/\(aa f i).does=7
    ·rw [if_pos q,if_pos ⟨by omega,q.2⟩]
    ·rw [if_neg q,if_neg (fun z=>q ⟨by
      have:=z.1
      by_cases e:i=k
      ·subst e;exact absurd z.2 c
      ·omega,z.2⟩)]
theorem getD_snoc {α:Type} (l:List α) (a d:α) (j:Nat):(l++[a]).getD j d=if j < l.length then l.getD j d else if j=l.length then a else d:=by
 simp only [List.getD]
 by_cases h:j < l.length
 ·rw [if_pos h,List.getElem?_append_left h]
 ·rw [if_neg h,List.getElem?_append_right (by omega)]
  by_cases e:j=l.length
  ·subst e;simp
  ·rw [if_neg e]
   rw [List.getElem?_eq_none (by simp;omega)];rfl
theorem Sim.block (h:Sim b F f x) (W:WF n f) {s:Nat} (hs:s < F.loads.length) {num k p:Nat} (fresh:∀ j,j < f.aA.length->(ak f j).number≠(num:Int)) :
  Sim false F (Mi.dF (Mi.ej f s ⟨num,k,k,0,p⟩)) (Vbmiaj.tell F x (.block (s+1) ⟨num,k,p⟩)):=by
 have nt:=h.fc.nt
 have ns:=h.fc.ns
 obtain ⟨L,h1,h2,h3⟩:=sH (f:=Mi.ej f s ⟨num,k,k,0,p⟩) f.aq.length (Nat.le_refl _)
 have eq:Mi.dF (Mi.ej f s ⟨num,k,k,0,p⟩) = {f with aq:=L,aA:=f.aA++[⟨num,k,k,0,p⟩],au:=f.au.set s {ai f s with row:=(ai f s).row++[f.aA.length]}}:=h1
 have h3:∀ i,L.getD i Mi.fq=if i < f.aq.length/\(aa f i).does=7 then {aa f i with does:=0} else aa f i:=h3
 rw [eq]
 generalize hg:({f with aq:=L,aA:=f.aA++[⟨num,k,k,0,p⟩],au:=f.au.set s {ai f s with row:=(ai f s).row++[f.aA.length]}}:Flt)=g
 have eT:∀ i,i < F.trucks->aa g i=if (aa f i).does=7 then {aa f i with does:=0} else aa f i:=fun i hi=>by
  rw [<-hg];show L.getD i _=_
  rw [h3]
  by_cases q:(aa f i).does=7
  ·rw [if_pos ⟨by omega,q⟩,if_pos q]
  ·rw [if_neg (fun z=>q z.2),if_neg q]
 have eB:∀ j,j < f.aA.length->ak g j=ak f j:=fun j hj=>by
  rw [<-hg];show (f.aA++[_]).getD j _=_
  rw [getD_snoc,if_pos hj];rfl
 have eB1:ak g f.aA.length=⟨num,k,k,0,p⟩:=by
  rw [<-hg];show (f.aA++[_]).getD _ _=_
  rw [getD_snoc,if_neg (Nat.lt_irrefl _),if_pos rfl]
 have eS:∀ i,ai g i=if i=s then {ai f s with row:=(ai f s).row++[f.aA.length]} else ai f i:=fun i=>by
  rw [<-hg];show (f.au.set s _).getD i _=_
  rw [dz]
  by_cases e:i=s
  ·rw [if_pos ⟨e,by omega⟩,if_pos e]
  ·rw [if_neg (fun z=>e z.1),if_neg e];rfl
 have eX:∀ i,i < F.trucks->Vbmiaj.truckOf (Vbmiaj.tell F x (.block (s+1) ⟨num,k,p⟩)) (i+1)=if (Vbmiaj.truckOf x (i+1)).does=7 then {Vbmiaj.truckOf x (i+1) with does:=0} else Vbmiaj.truckOf x (i+1):=fun i hi=>by
  have xl:=h.xl
  show (x.trucks.map _).getD (i+1 - 1) _=_
  have:i < x.trucks.length:=by omega
  unfold Vbmiaj.truckOf
  rw [Nat.add_sub_cancel]
  simp [List.getD,this]
 have eF:∀ i,Vbmiaj.faceOf (Vbmiaj.tell F x (.block (s+1) ⟨num,k,p⟩)) (i+1)=if i=s then Vbmiaj.faceOf x (s+1)++[⟨num,k,p⟩] else Vbmiaj.faceOf x (i+1):=fun i=>by
  show (x.faces.set (s+1 - 1) _).getD (i+1 - 1) _=_
  rw [Nat.add_sub_cancel,Nat.add_sub_cancel,dz]
  by_cases e:i=s
  ·rw [if_pos ⟨e,by rw [h.xf];exact hs⟩,if_pos e]
  ·rw [if_neg (fun z=>e z.1),if_neg e];rfl
 have bl:g.aA.length=f.aA.length+1:=by rw [<-hg];simp
 have ok:=fun i hi=>W.ai (i:=i) hi
 have rowlt:∀ i,i < F.loads.length->∀ j ∈ (ai f i).row,j < f.aA.length:=fun i hi=>(ok i (by omega)).row
 have eM:∀ i,i < F.loads.length->(ai f i).row.map (bm g)=(ai f i).row.map (bm f):=fun i hi=>by
  apply List.map_congr_left
  intro j hj
  unfold bm;rw [eB j (rowlt i hi j hj)]
 refine ⟨?_,by rw [<-hg];exact h.m,by show (x.trucks.map _).length=_;rw [List.length_map];exact h.xl,fun i hi=>?_,by show (x.faces.set _ _).length=_;rw [List.length_set];exact h.xf,fun i hi=>?_,by rw [<-hg];exact h.st,by rw [<-hg];exact h.bk,h.ml,fun i hi=>?_,h.sl,fun i hi=>?_,fun i hi=>?_,?_,?_,fun j hj=>?_,fun i j hi hj e=>?_,fun z hz=>?_,fun i hi=>?_,fun i i' j hi hi' a1 a2=>?_,fun e=>by cases e⟩
 ·have c:=h.fc
  refine ⟨by rw [<-hg];exact c.c,by rw [<-hg];exact c.r,by rw [<-hg];exact h2.trans c.nt,by rw [<-hg];simp [c.ns],by rw [<-hg];exact c.np,fun i hi=>?_,fun i hi=>by rw [<-hg];exact c.tt i hi,fun p s a1 a2 a3=>?_,fun s p a1 a2 a3 a4=>?_⟩
  ·rw [eS]
   by_cases e:i=s
   ·rw [if_pos e];subst e;exact c.lt i hi
   ·rw [if_neg e];exact c.lt i hi
  ·rw [<-c.ws p s a1 a2 a3];unfold Mi.gC;rw [<-hg];simp
  ·rw [<-c.wp s p a1 a2 a3 a4];unfold Mi.iV;rw [<-hg]
 ·rw [eT i hi,eX i hi]
  have r:=h.tr i hi
  have tok:=W.aa (i:=i) (by omega)
  have r':TR g (aa f i) (Vbmiaj.truckOf x (i+1)):=r.at_ fun j _ l hl e=>by
   subst e
   have:=tok.l l hl
   rw [eB _ this];exact ⟨rfl,rfl⟩
  by_cases q:(aa f i).does=7
  ·rw [if_pos q,if_pos (by have:=r.d;omega)]
   exact ⟨rfl,r.a,r.g,fun z=>by rcases z with z | z<;>exact absurd z (by show ¬((0:Int)=_);decide),fun z=>absurd z (by show ¬((0:Int)=_);decide),r'.l,fun _=>r.n (.inr (.inr (.inr q)))⟩
  ·rw [if_neg q,if_neg (by have:=r.d;omega)];exact r'
 ·rw [eS,eF]
  by_cases e:i=s
  ·rw [if_pos e,if_pos e]
   subst e
   show (Vbmiaj.faceOf x (i+1)++[_]).map bv=((ai f i).row++[f.aA.length]).map (bm g)
   rw [List.map_append,List.map_append,h.fa i hi,eM i hi]
   congr 1
   show [bv _]=[bm g _]
   unfold bm;rw [eB1];rfl
  ·rw [if_neg e,if_neg e,eM i hi];exact h.fa i hi
 ·rw [eT i hi]
  have:=h.mi i hi
  by_cases q:(aa f i).does=7
  ·rw [if_pos q];exact this
  ·rw [if_neg q];exact this
 ·rw [eS]
  by_cases e:i=s
  ·rw [if_pos e];subst e;exact h.sh i hi
  ·rw [if_neg e];exact h.sh i hi
 ·have:bz g i=bz f i:=by rw [<-hg];rfl
  rw [this];exact h.tp i hi
 ·have:Mi.cf g=Mi.cf f:=by rw [<-hg];rfl
  rw [this];exact h.tl
 ·have:Mi.dt g=Mi.dt f:=by rw [<-hg];rfl
  rw [this];exact h.tk
 ·rw [bl] at hj
  by_cases e:j < f.aA.length
  ·rw [eB j e];exact h.bt j e
  ·obtain rfl:j=f.aA.length:=by omega
   rw [eB1]
   refine ⟨num,rfl,?_⟩
   show (0:Int)=((Vbmiaj.tippedOf x num:Nat):Int)
   have:x.tipped.filter (fun z=>z.1==num)=[]:=List.filter_eq_nil_iff.mpr fun z hz hq=>by
    obtain ⟨j,q1,q2⟩:=h.tb z hz
    have:z.1=num:=by simpa using hq
    rw [this] at q2
    exact fresh j q1 q2
   unfold Vbmiaj.tippedOf;rw [this];rfl
 ·rw [bl] at hi hj
  by_cases e1:i < f.aA.length
  ·by_cases e2:j < f.aA.length
   ·rw [eB i e1,eB j e2] at e;exact h.bn i j e1 e2 e
   ·obtain rfl:j=f.aA.length:=by omega
    rw [eB i e1,eB1] at e
    exact absurd e (fresh i e1)
  ·obtain rfl:i=f.aA.length:=by omega
   by_cases e2:j < f.aA.length
   ·rw [eB j e2,eB1] at e
    exact absurd e.symm (fresh j e2)
   ·omega
 ·obtain ⟨j,q1,q2⟩:=h.tb z hz
  exact ⟨j,by rw [bl];omega,by rw [eB j q1];exact q2⟩
 ·rw [eS]
  by_cases e:i=s
  ·rw [if_pos e];subst e
   show ((ai f i).row++[f.aA.length]).Nodup
   rw [List.nodup_append]
   refine ⟨h.nd i hi,by simp,fun a ha c hc=>?_⟩
   have:=rowlt i hi a ha
   have:c=f.aA.length:=by simpa using hc
   omega
  ·rw [if_neg e];exact h.nd i hi
 ·rw [eS] at a1 a2
  have g1:j ∈ (ai f i).row\/(j=f.aA.length/\i=s):=by
   by_cases e:i=s
   ·rw [if_pos e] at a1
    have a1:j ∈ (ai f s).row++[f.aA.length]:=a1
    rcases List.mem_append.mp a1 with q | q
    ·rw [e];exact .inl q
    ·exact .inr ⟨by simpa using q,e⟩
   ·rw [if_neg e] at a1;exact .inl a1
  have g2:j ∈ (ai f i').row\/(j=f.aA.length/\i'=s):=by
   by_cases e:i'=s
   ·rw [if_pos e] at a2
    have a2:j ∈ (ai f s).row++[f.aA.length]:=a2
    rcases List.mem_append.mp a2 with q | q
    ·rw [e];exact .inl q
    ·exact .inr ⟨by simpa using q,e⟩
   ·rw [if_neg e] at a2;exact .inl a2
  rcases g1 with g1 | ⟨g1,g1'⟩<;>rcases g2 with g2 | ⟨g2,g2'⟩
  ·exact h.dj i i' j hi hi' g1 g2
  ·have:=rowlt i hi j g1;omega
  ·have:=rowlt i' hi' j g2;omega
  ·omega
theorem Sim.halt (h:Sim false F f x) (z:Stop):Sim false F {f with cI:=f.cI++[zv z]} (Vbmiaj.tell F x (.halt_ z)):=
 ⟨⟨h.fc.c,h.fc.r,h.fc.nt,h.fc.ns,h.fc.np,h.fc.lt,h.fc.tt,h.fc.ws,h.fc.wp⟩,h.m,h.xl,fun i hi=>(h.tr i hi).at_ fun _ _ _ _ _=>⟨rfl,rfl⟩,h.xf,h.fa,by
  show f.cI++[zv z]=(z::x.stops).reverse.map zv
  rw [List.reverse_cons,List.map_append,h.st];rfl,h.bk,h.ml,h.mi,h.sl,h.sh,h.tp,h.tl,h.tk,h.bt,h.bn,h.tb,h.nd,h.dj,fun e=>by cases e⟩
theorem Sim.m8 (h:Sim b F f x) (l:List (Int×List Int)):Sim b F {f with told:=l} x:=
 ⟨⟨h.fc.c,h.fc.r,h.fc.nt,h.fc.ns,h.fc.np,h.fc.lt,h.fc.tt,h.fc.ws,h.fc.wp⟩,h.m,h.xl,fun i hi=>(h.tr i hi).at_ fun _ _ _ _ _=>⟨rfl,rfl⟩,h.xf,h.fa,h.st,h.bk,h.ml,h.mi,h.sl,h.sh,h.tp,h.tl,h.tk,h.bt,h.bn,h.tb,h.nd,h.dj,h.sm⟩
end
end Si
namespace Si
open Vbmiaj (Fleet Shift Truck Block Stop Entry Told)
open Mi (Flt Trk Shv Plc Blk Stp WF aa ai bz ak)
theorem getD_ints (l:List Nat) (i:Nat) (h:i < l.length) (d:Int) (e:Nat):(iN l).getD i d=((l.getD i e:Nat):Int):=by
 unfold iN
 simp [List.getD,h]
theorem sE {α:Type} (n i:Nat) (a:α):(List.replicate n a).getD i a=a:=by
 simp only [List.getD,List.getElem?_replicate]
 split<;>rfl
theorem kl (k:Nat):∀ (m:Nat) (l:List Nat) (i j d:Nat),i < m->j < k->k*m<=l.length->((Vbmiaj.parted k m l).getD i []).getD j d=l.getD (i*k+j) d
 | 0,l,i,j,d,h,_,_=>by omega
 | m+1,l,0,j,d,_,hj,hl=>by
   show (l.take k).getD j d=_
   simp only [List.getD]
   rw [List.getElem?_take_of_lt hj];simp
 | m+1,l,i+1,j,d,hi,hj,hl=>by
   show ((Vbmiaj.parted k m (l.drop k)).getD i []).getD j d=_
   rw [kl k m (l.drop k) i j d (by omega) hj (by rw [List.length_drop];rw [Nat.mul_succ] at hl;omega)]
   simp only [List.getD,List.getElem?_drop]
   congr 2
   rw [Nat.succ_mul];omega
structure Base (F:Fleet) (r0 r1 r2 r3 r4:List Int):Prop where
 l:r0=iN F.loads
 t:r1=iN F.tips
 ws:∀ p s:Nat,p<=F.tips.length->1<=s->s<=F.loads.length->(if (p:Int)=0 then r2.getD ((s:Int) - 1).toNat 0 else r4.getD (((p:Int) - 1)*(F.loads.length:Int)+(s:Int) - 1).toNat 0)=(Vbmiaj.wayTo F p s:Int)
 wp:∀ s p:Nat,1<=s->s<=F.loads.length->1<=p->p<=F.tips.length->r3.getD (((s:Int) - 1)*(F.tips.length:Int)+(p:Int) - 1).toNat 0=(Vbmiaj.wayOut F s p:Int)
 c1:1<=F.carries
 c2:F.carries<=1000000
 a1:1<=F.loads.length
 a2:F.loads.length<=3
 b1:1<=F.tips.length
 b2:F.tips.length<=3
 e2:r2.length=F.loads.length
 e3:r3.length=F.loads.length*F.tips.length
 e4:r4.length=F.loads.length*F.tips.length
 tm:∀ z ∈ r0,1<=z/\z<=60
section
variable {F:Fleet} {r0 r1 r2 r3 r4:List Int}
theorem Base.made {n c r:Nat} {l t p o b:List Nat} (c1:1<=c) (c2:c<=1000000) (a1:1<=l.length) (a2:l.length<=3) (b1:1<=t.length) (b2:t.length<=3) (e2:p.length=l.length) (e3:o.length=l.length*t.length) (e4:b.length=l.length*t.length) (tm:∀ z ∈ iN l,1<=z/\z<=60) :
  Base ⟨n,c,r,l,t,p,Vbmiaj.parted t.length l.length o,Vbmiaj.parted l.length t.length b⟩ (iN l) (iN t) (iN p) (iN o) (iN b):=by
 refine ⟨rfl,rfl,fun q s h1 h2 h3=>?_,fun s q h1 h2 h3 h4=>?_,c1,c2,a1,a2,b1,b2,by simp [iN,e2],by simp [iN,e3],by simp [iN,e4],tm⟩
 ·have h1:q<=t.length:=h1
  have h3:s<=l.length:=h3
  unfold Vbmiaj.wayTo
  by_cases e:q=0
  ·rw [if_pos (by omega),if_pos e]
   have:((s:Int) - 1).toNat=s - 1:=by omega
   rw [this]
   exact getD_ints p (s - 1) (by omega) 0 1
  ·rw [if_neg (by omega),if_neg e]
   show (iN b).getD (((q:Int) - 1)*(l.length:Int)+(s:Int) - 1).toNat 0=((((Vbmiaj.parted l.length t.length b).getD (q - 1) []).getD (s - 1) 1:Nat):Int)
   have hm:(q - 1)*l.length+l.length<=l.length*t.length:=by
    rw [<-Nat.succ_mul,Nat.mul_comm]
    exact Nat.mul_le_mul_left _ (by omega)
   rw [kl l.length t.length b (q - 1) (s - 1) 1 (by omega) (by omega) (by omega)]
   have:(((q:Int) - 1)*(l.length:Int)+(s:Int) - 1).toNat=(q - 1)*l.length+(s - 1):=by
    have e1:(q:Int) - 1=((q - 1:Nat):Int):=by omega
    rw [e1,<-Int.natCast_mul];omega
   rw [this]
   exact getD_ints b _ (by omega) 0 1
 ·have h2:s<=l.length:=h2
  have h4:q<=t.length:=h4
  unfold Vbmiaj.wayOut
  show (iN o).getD (((s:Int) - 1)*(t.length:Int)+(q:Int) - 1).toNat 0=((((Vbmiaj.parted t.length l.length o).getD (s - 1) []).getD (q - 1) 1:Nat):Int)
  have hm:(s - 1)*t.length+t.length<=t.length*l.length:=by
   rw [<-Nat.succ_mul,Nat.mul_comm]
   exact Nat.mul_le_mul_left _ (by omega)
  have cm:=Nat.mul_comm t.length l.length
  rw [kl t.length l.length o (s - 1) (q - 1) 1 (by omega) (by omega) (by omega)]
  have:(((s:Int) - 1)*(t.length:Int)+(q:Int) - 1).toNat=(s - 1)*t.length+(q - 1):=by
   have e1:(s:Int) - 1=((s - 1:Nat):Int):=by omega
   rw [e1,<-Int.natCast_mul];omega
  rw [this]
  exact getD_ints o _ (by omega) 0 1
noncomputable def eU (F:Fleet) (r n:Nat):Fleet:={F with rule:=r,trucks:=n}
theorem Base.wi (B:Base F r0 r1 r2 r3 r4) {r n:Nat} (n1:1<=n) (n2:n<=8):Mi.WI (Mi.dq n F.carries r r0 r1 r2 r3 r4):=
 Mi.xh (by omega) (by omega) (by have:=B.c1;omega) (by have:=B.c2;omega) (by rw [B.l];simpa [iN] using B.a1) (by rw [B.l];simpa [iN] using B.a2) (by rw [B.t];simpa [iN] using B.b1) (by rw [B.t];simpa [iN] using B.b2)
  (by rw [B.l,B.e2];simp [iN]) (by rw [B.l,B.t,B.e3];simp [iN]) (by rw [B.l,B.t,B.e4];simp [iN]) B.tm
theorem Ae (l:List Plc) (g:Plc->Int) (h:∀ p ∈ l,g p=0):(l.map g).sum=0:=by
 induction l with
 | nil=>rfl
 | cons a l ih=>rw [List.map_cons,List.sum_cons,h a (by simp),ih fun p hp=>h p (by simp [hp])];rfl
theorem Base.sim (B:Base F r0 r1 r2 r3 r4) (r n:Nat):Sim false (eU F r n) (Mi.dq n F.carries r r0 r1 r2 r3 r4) (Vbmiaj.begun (eU F r n)):=by
 have l0:r0.length=F.loads.length:=by rw [B.l];simp [iN]
 have l1:r1.length=F.tips.length:=by rw [B.t];simp [iN]
 have eT:∀ i,aa (Mi.dq n F.carries r r0 r1 r2 r3 r4) i=Mi.fq:=fun i=>sE _ _ _
 have eX:∀ i,i < n->Vbmiaj.truckOf (Vbmiaj.begun (eU F r n)) (i+1)=⟨0,0,0,0,0,0⟩:=fun i hi=>by
  show (List.replicate n _).getD (i+1 - 1) _=_
  simp [List.getD,hi]
 have eS:∀ i,i < F.loads.length->ai (Mi.dq n F.carries r r0 r1 r2 r3 r4) i = {Mi.fO with time:=r0.getD i 0}:=fun i hi=>by
  show (r0.map _).getD i _=_
  have:i < r0.length:=by omega
  simp [List.getD,this]
 have eP:∀ i,i < F.tips.length->bz (Mi.dq n F.carries r r0 r1 r2 r3 r4) i=⟨r1.getD i 0,0,0⟩:=fun i hi=>by
  show (r1.map _).getD i _=_
  have:i < r1.length:=by omega
  simp [List.getD,this]
 refine ⟨⟨rfl,rfl,by show (List.replicate _ _).length=n;simp,by show (r0.map _).length=F.loads.length;rw [List.length_map];exact l0,by show (r1.map _).length=F.tips.length;rw [List.length_map];exact l1,fun i hi=>?_,fun i hi=>?_,fun p s h1 h2 h3=>?_,fun s p h1 h2 h3 h4=>?_⟩,rfl,by show (List.replicate _ _).length=n;simp [eU],fun i hi=>?_,
  by show (List.replicate _ _).length=F.loads.length;simp [Vbmiaj.shovelCount,eU],fun i hi=>?_,rfl,rfl,by show (List.replicate _ _).length=n;simp [eU],fun i hi=>?_,by show (List.replicate _ _).length=F.loads.length;simp [Vbmiaj.shovelCount,eU],fun i hi=>?_,fun i hi=>?_,?_,?_,fun j hj=>?_,fun i j hi=>?_,fun z hz=>?_,fun i hi=>?_,fun i i' j hi hi' a1=>?_,fun e=>by cases e⟩
 ·rw [eS i hi]
  show r0.getD i 0=((F.loads.getD (i+1 - 1) 1:Nat):Int)
  rw [Nat.add_sub_cancel,B.l];exact getD_ints _ _ hi _ _
 ·rw [eP i hi]
  show r1.getD i 0=((F.tips.getD (i+1 - 1) 1:Nat):Int)
  rw [Nat.add_sub_cancel,B.t];exact getD_ints _ _ hi _ _
 ·rw [show Vbmiaj.wayTo (eU F r n) p s=Vbmiaj.wayTo F p s from rfl,<-B.ws p s h1 h2 h3]
  show (if (p:Int)=0 then r2.getD _ 0 else r4.getD (((p:Int) - 1)*((r0.map _).length:Int)+(s:Int) - 1).toNat 0)=_
  rw [List.length_map,l0]
 ·rw [show Vbmiaj.wayOut (eU F r n) s p=Vbmiaj.wayOut F s p from rfl,<-B.wp s p h1 h2 h3 h4]
  show r3.getD (((s:Int) - 1)*((r1.map _).length:Int)+(p:Int) - 1).toNat 0=_
  rw [List.length_map,l1]
 ·rw [eT,eX i hi]
  exact ⟨rfl,rfl,rfl,fun z=>by rcases z with z | z<;>exact absurd z (by show ¬((0:Int)=_);decide),fun z=>absurd z (by show ¬((0:Int)=_);decide),rfl,fun _=>rfl⟩
 ·rw [eS i hi]
  show ((List.replicate _ []).getD (i+1 - 1) []).map bv=_
  rw [sE];rfl
 ·rw [eT]
  show _=iN ((List.replicate n (List.replicate 9 0)).getD i [])
  have:i < n:=hi
  simp [List.getD,this];rfl
 ·rw [eS i hi]
  show _=iN ((List.replicate F.loads.length (List.replicate 4 0)).getD i [])
  have:i < F.loads.length:=hi
  simp [List.getD,this];rfl
 ·rw [eP i hi];exact ⟨rfl,rfl⟩
 ·show ((r1.map _).map _).sum=_
  refine Ae _ _ fun p hp=>?_
  obtain ⟨l,_,rfl⟩:=List.mem_map.mp hp;rfl
 ·show ((r1.map _).map _).sum=_
  refine Ae _ _ fun p hp=>?_
  obtain ⟨l,_,rfl⟩:=List.mem_map.mp hp;rfl
 ·exact absurd hj (Nat.not_lt_zero _)
 ·exact absurd hi (Nat.not_lt_zero _)
 ·exact absurd hz (by show ¬z ∈ [];simp)
 ·rw [eS i hi];exact List.nodup_nil
 ·rw [eS i hi] at a1;exact absurd a1 (by show ¬j ∈ [];simp)
end
end Si
namespace Si
open Vbmiaj (Fleet Shift Truck Block Stop Entry Told)
open Mi (Flt Trk Shv Plc Blk Stp WF WI aa ai bz ak)
noncomputable def nk (c:Blk):Int×Int×Int:=(c.number,c.bU,c.place)
noncomputable def Nk (f g:Flt):Prop:=g.aA.map nk=f.aA.map nk
section
variable {f g:Flt}
theorem Nk.of (h:g.aA=f.aA):Nk f g:=by unfold Nk;rw [h]
theorem Nk.trans {k:Flt} (a:Nk f g) (c:Nk g k):Nk f k:=Eq.trans c a
theorem Nk.fold {α:Type} {st:Flt->α->Flt} (h:∀ g j,Nk g (st g j)):∀ (l:List α) (f:Flt),Nk f (l.foldl st f)
 | [],f=>rfl
 | a::l,f=>(h f a).trans (Nk.fold h l _)
theorem Nk.put (f:Flt) (j:Nat) {c:Blk} (h:nk c=nk (ak f j)):Nk f (Mi.dS f j c):=by
 show (f.aA.set j c).map nk=f.aA.map nk
 rw [List.map_set,h]
 have:nk (ak f j)=(f.aA.map nk).getD j (nk Mi.uq):=by
  unfold ak;simp only [List.getD,List.getElem?_map]
  cases f.aA[j]?<;>rfl
 rw [this];exact rL _ _ _
theorem Nk.ite {a c:Flt} {p:Prop} [Decidable p] (h1:Nk f a) (h2:Nk f c):Nk f (if p then a else c):=by
 split
 ·exact h1
 ·exact h2
theorem Nk.take (s j:Nat):Nk f (Mi.take f s j):=by
 have a:Nk f (Mi.dS f j {ak f j with left:=(ak f j).left - Mi.bS f j}):=Nk.put f j rfl
 unfold Mi.take
 exact Nk.ite (a.trans (Nk.of rfl)) a
theorem Nk.tip (i:Nat):Nk f (Mi.tip f i):=by
 unfold Mi.tip
 simp only
 split
 ·exact Nk.of rfl
 ·rename_i j k _
  have a:Nk f (Mi.fA f ((aa f i).at_ - 1).toNat {bz f ((aa f i).at_ - 1).toNat with loads:=(bz f ((aa f i).at_ - 1).toNat).loads+1,bU:=(bz f ((aa f i).at_ - 1).toNat).bU+k}):=Nk.of rfl
  refine a.trans (Nk.trans (g:=Mi.dS (Mi.fA f ((aa f i).at_ - 1).toNat {bz f ((aa f i).at_ - 1).toNat with loads:=(bz f ((aa f i).at_ - 1).toNat).loads+1,bU:=(bz f ((aa f i).at_ - 1).toNat).bU+k}) j {ak f j with tipped:=(ak f j).tipped+k}) (Nk.put _ j rfl) (Nk.of rfl))
theorem Nk.comes (m:Int) (i:Nat) (d a g:Int):Nk f (Mi.comes f m i d a g):=rfl
theorem Nk.refl (f:Flt):Nk f f:=rfl
theorem Nk.aX (i:Nat) (t:Trk):Nk f (Mi.aX f i t):=rfl
theorem Nk.cZ (i:Nat) (t:Shv):Nk f (Mi.cZ f i t):=rfl
theorem Nk.dO (f:Flt) (z:Stp):Nk f (Mi.dO f z):=Nk.ite (Nk.ite (Nk.aX _ _) (Nk.cZ _ _)) (Nk.refl f)
theorem Nk.mark (f:Flt):Nk f (Mi.mark f):=
 ((Nk.fold (st:=Mi.iq) (fun g j=>Nk.aX _ _) (List.range f.aq.length) f).trans (Nk.fold (st:=Mi.ir) (fun g j=>Nk.cZ _ _) (List.range f.au.length) _)).trans (Nk.fold Nk.dO f.cI _)
theorem Nk.sendAll (f:Flt):Nk f (Mi.sendAll f):=Nk.fold (fun g j=>by unfold Mi.cY;exact Nk.ite (Nk.ite (Nk.comes _ _ _ _ _) (Nk.comes _ _ _ _ _)) (Nk.refl _)) _ _
theorem Nk.gD (f:Flt):Nk f (Mi.gD f):=Nk.fold (fun g j=>by
  unfold Mi.eA
  split
  ·exact Nk.refl _
  ·exact Nk.ite (Nk.comes _ _ _ _ _) (Nk.refl _)) _ _
theorem Nk.gp (f:Flt):Nk f (Mi.gp f):=Nk.fold (fun g s=>by
  unfold Mi.cU
  split
  ·split
   ·exact ((Nk.take _ _).trans (Nk.aX _ _)).trans (Nk.comes _ _ _ _ _)
   ·exact Nk.refl _
  ·exact Nk.refl _) _ _
theorem Nk.count (f:Flt):Nk f (Mi.count f):=(Nk.fold (st:=Mi.dR) (fun g j=>Nk.aX _ _) (List.range f.aq.length) f).trans (Nk.fold (st:=Mi.eY) (fun g j=>Nk.cZ _ _) _ _)
theorem Nk.ly (f:Flt) (i:Nat):Nk f (Mi.ly f i):=by
 unfold Mi.ly
 refine Nk.ite (Nk.comes _ _ _ _ _) (Nk.ite ?_ (Nk.ite (Nk.comes _ _ _ _ _) (Nk.tip i)))
 split
 ·exact Nk.refl _
 ·exact Nk.comes _ _ _ _ _
theorem Nk.hC (f:Flt):Nk f (Mi.hC f):=Nk.fold (fun g i=>by
  unfold Mi.eG
  exact Nk.ite (Nk.ite (Nk.aX _ _) (Nk.ly _ _)) (Nk.refl _)) _ _
theorem Nk.minute (f:Flt):Nk f (Mi.minute f):=by
 have h:Nk f (Mi.mid f):=(((((Nk.mark f).trans (Nk.sendAll _)).trans (Nk.gD _)).trans (Nk.gp _)).trans (Nk.count _)).trans (Nk.hC _)
 rw [Mi.jj]
 revert h
 generalize Mi.mid f=g
 intro h
 exact h.trans (Nk.of rfl)
theorem Nk.minutes (f:Flt):∀ k,Nk f (Mi.minutes f k)
 | 0=>rfl
 | k+1=>(Nk.minutes f k).trans (Nk.minute _)
end
noncomputable def enc:Told->Int×List Int
 | .block s c=>(1,[(s:Int),c.number,c.left,c.place])
 | .halt_ z=>(2,[(z.kind:Int),z.which,z.from_,z.long])
 | .run n=>(3,[(n:Int)])
noncomputable def bk (c:Block):Int×Int×Int:=(c.number,c.left,c.place)
noncomputable def Acc (F:Fleet) (f:Flt):Told->Prop
 | .block s c=>1<=s/\s<=F.loads.length/\1<=c.place/\c.place<=F.tips.length/\(∀ z ∈ f.aA.map nk,z.1≠(c.number:Int))/\f.aA.length < 20
 | .halt_ z=>((z.kind=0/\z.which<=F.trucks)\/(z.kind=1/\z.which<=F.loads.length))/\1<=z.which/\f.minute<=(z.from_:Int)/\f.cI.length < 20
 | .run n=>f.minute+(n:Int)<=1440
noncomputable def AF (F:Fleet) (y:Shift):Told->List Int
 | .block s _=>[0,(Vbmiaj.loadsLeft F y s:Int)]
 | .halt_ _=>[0]
 | .run _=>[0,(y.minute:Int),(y.tipped.length:Int)]
section
variable {F:Fleet} {f:Flt} {x:Shift}
theorem qm {c:Int×List Int} {g:Flt} {l:List Int} (h:Mi.dU f c=(g,0::l)):Mi.tell f c=({g with told:=g.told++[c]},0::l):=by
 unfold Mi.tell;rw [h];rfl
theorem nH {c:Int×List Int} {g:Flt} {e:Int} {l:List Int} (h:Mi.dU f c=(g,e::l)) (he:e≠0):Mi.tell f c=(g,e::l):=by
 unfold Mi.tell;rw [h]
 simp [he]
noncomputable def stN:Told->Nat
 | .halt_ _=>1
 | _=>0
noncomputable def mnN:Told->Int
 | .run n=>(n:Int)
 | _=>0
structure After (F:Fleet) (f:Flt) (x:Shift) (z:Told) (r:Flt×List Int):Prop where
 sim:Sim false F r.1 (Vbmiaj.tell F x z)
 ans:r.2=AF F (Vbmiaj.tell F x z) z
 told:r.1.told=f.told++[enc z]
 blk:r.1.aA.map nk=f.aA.map nk++(Vbmiaj.blocksTold [z]).map bk
 stp:r.1.cI.length=f.cI.length+stN z
 min:r.1.minute=f.minute+mnN z
theorem m4 (W:WI f) (h:Sim false F f x) {z:Told} (a:Acc F f z):After F f x z (Mi.tell f (enc z)):=by
 have ns:=h.fc.ns
 have np:=h.fc.np
 have nt:=h.fc.nt
 cases z with
 | block s c=>
   obtain ⟨s1,s2,p1,p2,fr,l20⟩:=a
   obtain ⟨num,k,p⟩:=c
   have es:((s:Int) - 1).toNat=s - 1:=by omega
   have hs:s - 1 < F.loads.length:=by omega
   have e0:Mi.dU f (enc (.block s ⟨num,k,p⟩))=(Mi.dF (Mi.ej f (s - 1) ⟨num,k,k,0,p⟩),[0,Mi.fF (Mi.dF (Mi.ej f (s - 1) ⟨num,k,k,0,p⟩)) (ai (Mi.dF (Mi.ej f (s - 1) ⟨num,k,k,0,p⟩)) (s - 1)).row]):=by
    show Mi.du f (s:Int) (num:Int) (k:Int) (p:Int)=_
    unfold Mi.du
    have p2:p<=F.tips.length:=p2
    have c1:(f.aA.map (·.number)).contains (num:Int)=false:=by
     cases q:(f.aA.map (·.number)).contains (num:Int) with
     | false=>rfl
     | true=>
       have q:(num:Int) ∈ f.aA.map (·.number):=by simpa using q
       obtain ⟨c,hc,e⟩:=List.mem_map.mp q
       exact absurd e (fr (nk c) (List.mem_map.mpr ⟨c,hc,rfl⟩))
    rw [if_neg (by omega),c1,if_neg (by decide),if_neg (by omega),es]
   have sim:=h.block W.w hs (num:=num) (k:=k) (p:=p) fun j hj e=>fr (nk (ak f j)) (List.mem_map.mpr ⟨ak f j,by unfold ak;simp [List.getD,hj],rfl⟩) e
   have e1:s - 1+1=s:=by omega
   rw [e1] at sim
   have c1:1<=F.carries:=by have:=W.w.c1;have:=h.fc.c;omega
   have ld:=sim.loads c1 hs
   rw [e1] at ld
   have fb:(Mi.dF (Mi.ej f (s - 1) ⟨num,k,k,0,p⟩)).told=f.told/\(Mi.dF (Mi.ej f (s - 1) ⟨num,k,k,0,p⟩)).aA=f.aA++[⟨num,k,k,0,p⟩]/\(Mi.dF (Mi.ej f (s - 1) ⟨num,k,k,0,p⟩)).cI=f.cI/\(Mi.dF (Mi.ej f (s - 1) ⟨num,k,k,0,p⟩)).minute=f.minute:=by
    obtain ⟨L,h1,_,_⟩:=sH (f:=Mi.ej f (s - 1) ⟨num,k,k,0,p⟩) f.aq.length (Nat.le_refl _)
    have h1:Mi.dF (Mi.ej f (s - 1) ⟨num,k,k,0,p⟩)=_:=h1
    rw [h1];exact ⟨rfl,rfl,rfl,rfl⟩
   rw [qm e0]
   refine ⟨sim.m8 _,?_,?_,?_,?_,?_⟩
   ·show [0,_]=[0,_]
    rw [ld]
   ·show (Mi.dF _).told++_=_
    rw [fb.1]
   ·show (Mi.dF _).aA.map nk=_
    rw [fb.2.1,List.map_append];rfl
   ·show (Mi.dF _).cI.length=_
    rw [fb.2.2.1];rfl
   ·show (Mi.dF _).minute=_
    rw [fb.2.2.2];show _=f.minute+0;omega
 | halt_ z=>
   obtain ⟨kd,wh,fm,lg⟩:=z
   obtain ⟨k1,w1,m1,l20⟩:=a
   have k1:(kd=0/\wh<=F.trucks)\/(kd=1/\wh<=F.loads.length):=k1
   have m1:f.minute<=(fm:Int):=m1
   have e0:Mi.dU f (enc (.halt_ ⟨kd,wh,fm,lg⟩))=({f with cI:=f.cI++[zv ⟨kd,wh,fm,lg⟩]},[0]):=by
    show Mi.dJ f (kd:Int) (wh:Int) (fm:Int) (lg:Int)=_
    unfold Mi.dJ
    have t1:¬Mi.things f (kd:Int) < (wh:Int):=by
     unfold Mi.things
     rcases k1 with ⟨k,q⟩ | ⟨k,q⟩
     ·rw [if_pos (by omega)];omega
     ·rw [if_neg (by omega)];omega
    rw [if_neg t1,if_neg (by omega),if_neg (by omega)];rfl
   rw [qm e0]
   refine ⟨(h.halt _).m8 _,rfl,rfl,?_,by show (f.cI++[_]).length=f.cI.length+1;simp,by show f.minute=f.minute+0;omega⟩
   show f.aA.map nk=f.aA.map nk++[]
   rw [List.append_nil]
 | run n=>
   have a:f.minute+(n:Int)<=1440:=a
   have sim:=h.minutes W.w n
   obtain ⟨sk,hm⟩:=Mi.jx W.w n
   have e0:Mi.dU f (enc (.run n))=(Mi.minutes f n,[0,(Mi.minutes f n).minute,Mi.cf (Mi.minutes f n)]):=by
    show Mi.fD f (n:Int)=_
    unfold Mi.fD
    rw [if_neg (by omega),show ((n:Int)).toNat=n by omega]
   rw [qm e0]
   refine ⟨sim.m8 _,?_,?_,?_,?_,?_⟩
   ·show [0,(Mi.minutes f n).minute,Mi.cf (Mi.minutes f n)]=_
    rw [sim.m,sim.tl];rfl
   ·show (Mi.minutes f n).told++_=_
    rw [sk.to]
   ·show (Mi.minutes f n).aA.map nk=f.aA.map nk++[]
    rw [List.append_nil];exact Nk.minutes f n
   ·show (Mi.minutes f n).cI.length=_
    rw [sk.z];rfl
   ·exact hm
end
end Si
namespace Si
open Vbmiaj (Fleet Shift Truck Block Stop Entry Told)
open Mi (Flt Trk Shv Plc Blk Stp WF WI aa ai bz ak)
inductive jc (F:Fleet) (r0 r1 r2 r3 r4:List Int):Flt->List Told->Shift->Prop
 | nil:jc F r0 r1 r2 r3 r4 (Mi.dq F.trucks F.carries F.rule r0 r1 r2 r3 r4) [] (Vbmiaj.begun F)
 | snoc {f:Flt} {T:List Told} {x:Shift} {z:Told}:jc F r0 r1 r2 r3 r4 f T x->Acc F f z->Mi.COk (enc z)->jc F r0 r1 r2 r3 r4 (Mi.tell f (enc z)).1 (T++[z]) (Vbmiaj.tell F x z)
structure Facts (F:Fleet) (r0 r1 r2 r3 r4:List Int) (f:Flt) (T:List Told) (x:Shift):Prop where
 wi:WI f
 sim:Sim false F f x
 told:f.told=T.map enc
 blk:f.aA.map nk=(Vbmiaj.blocksTold T).map bk
 x:x=Vbmiaj.played F T
 rs:Mi.RS (Mi.dq F.trucks F.carries F.rule r0 r1 r2 r3 r4) f
section
variable {F:Fleet} {r0 r1 r2 r3 r4:List Int} {f:Flt} {T:List Told} {x:Shift}
theorem sT (T:List Told) (z:Told):Vbmiaj.blocksTold (T++[z])=Vbmiaj.blocksTold T++Vbmiaj.blocksTold [z]:=by
 unfold Vbmiaj.blocksTold;rw [List.filterMap_append]
theorem jc.facts (B:Base F r0 r1 r2 r3 r4) (t1:1<=F.trucks) (t2:F.trucks<=8) (h:jc F r0 r1 r2 r3 r4 f T x):Facts F r0 r1 r2 r3 r4 f T x:=by
 induction h with
 | nil=>exact ⟨B.wi t1 t2,B.sim F.rule F.trucks,rfl,rfl,rfl,Mi.RS.refl _⟩
 | @snoc f T x z _ a c ih=>
   have k:=m4 ih.wi ih.sim a
   refine ⟨(Mi.m5 ih.wi c).1,k.sim,?_,?_,?_,ih.rs.trans (Mi.qk ih.wi c)⟩
   ·rw [k.told,ih.told,List.map_append];rfl
   ·rw [k.blk,ih.blk,sT,List.map_append]
   ·rw [ih.x];unfold Vbmiaj.played;rw [List.foldl_append];rfl
noncomputable def mT (n:Nat) (z:Told):Bool:=match z with
 | .halt_ y=>y.kind==1||decide (y.which<=n)
 | _=>true
theorem lJ (G:Fleet) (T:List Told) (z:Told):Vbmiaj.stopsFor G (T++[z])=if mT G.trucks z=true then Vbmiaj.stopsFor G T++[z] else Vbmiaj.stopsFor G T:=by
 unfold Vbmiaj.stopsFor
 rw [List.filter_append,List.filter_cons]
 cases z<;>simp [mT]<;>split<;>simp_all
structure Aa (F:Fleet) (r0 r1 r2 r3 r4:List Int) (r n:Nat) (f:Flt) (T:List Told) (g:Flt):Prop where
 wi:WI g
 sim:Sim false (eU F r n) g (Vbmiaj.replayed F T r n)
 blk:g.aA.map nk=f.aA.map nk
 stp:g.cI.length<=f.cI.length
 min:g.minute=f.minute
theorem jc.again (B:Base F r0 r1 r2 r3 r4) (t1:1<=F.trucks) (t2:F.trucks<=8) (h:jc F r0 r1 r2 r3 r4 f T x) {r n:Nat} (n1:1<=n) (n2:n<=8) :
  Aa F r0 r1 r2 r3 r4 r n f T ((T.map enc).foldl (fun g c=>(Mi.tell g c).1) (Mi.dq n F.carries r r0 r1 r2 r3 r4)):=by
 induction h with
 | nil=>exact ⟨B.wi n1 n2,B.sim r n,rfl,Nat.le_refl _,rfl⟩
 | @snoc f T x z h a c ih=>
   have fx:=h.facts B t1 t2
   have k0:=m4 fx.wi fx.sim a
   rw [List.map_append,List.foldl_append]
   generalize (T.map enc).foldl (fun g c=>(Mi.tell g c).1) (Mi.dq n F.carries r r0 r1 r2 r3 r4)=g at ih
   show Aa F r0 r1 r2 r3 r4 r n (Mi.tell f (enc z)).1 (T++[z]) (Mi.tell g (enc z)).1
   have bl:g.aA.length=f.aA.length:=by
    have:=congrArg List.length ih.blk
    rwa [List.length_map,List.length_map] at this
   have wi2:=(Mi.m5 ih.wi c).1
   have yes:Acc (eU F r n) g z->mT n z=true->Aa F r0 r1 r2 r3 r4 r n (Mi.tell f (enc z)).1 (T++[z]) (Mi.tell g (enc z)).1:=fun a2 kz=>by
    have k:=m4 ih.wi ih.sim a2
    refine ⟨wi2,?_,by rw [k.blk,k0.blk,ih.blk],by rw [k.stp,k0.stp];have:=ih.stp;omega,by rw [k.min,k0.min,ih.min]⟩
    have e:Vbmiaj.replayed F (T++[z]) r n=Vbmiaj.tell (eU F r n) (Vbmiaj.replayed F T r n) z:=by
     show Vbmiaj.played (eU F r n) (Vbmiaj.stopsFor (eU F r n) (T++[z]))=Vbmiaj.tell (eU F r n) (Vbmiaj.played (eU F r n) (Vbmiaj.stopsFor (eU F r n) T)) z
     rw [lJ,if_pos (show mT (eU F r n).trucks z=true from kz)]
     unfold Vbmiaj.played;rw [List.foldl_append];rfl
    rw [e];exact k.sim
   cases z with
   | block s c=>
     obtain ⟨a1,a2,a3,a4,a5,a6⟩:=a
     exact yes ⟨a1,a2,a3,a4,by rw [ih.blk];exact a5,by omega⟩ rfl
   | run m=>
     have a:f.minute+(m:Int)<=1440:=a
     exact yes (show g.minute+(m:Int)<=1440 by rw [ih.min];exact a) rfl
   | halt_ y=>
     obtain ⟨a1,a2,a3,a4⟩:=a
     have st:=ih.stp
     by_cases kz:mT n (.halt_ y)=true
     ·refine yes ⟨?_,a2,by rw [ih.min];exact a3,by omega⟩ kz
      rcases a1 with ⟨q1,q2⟩ | ⟨q1,q2⟩
      ·have kz:(y.kind==1||decide (y.which<=n))=true:=kz
       rw [q1] at kz
       have kz:y.which<=n:=by simpa using kz
       exact .inl ⟨q1,kz⟩
      ·exact .inr ⟨q1,q2⟩
     ·have kz':¬(y.kind==1||decide (y.which<=n))=true:=kz
      have q0:y.kind=0:=by
       rcases a1 with ⟨q1,q2⟩ | ⟨q1,q2⟩
       ·exact q1
       ·exact absurd (by rw [q1];rfl) kz'
      rw [q0] at kz'
      have qn:n < y.which:=by
       have:¬y.which<=n:=fun z=>kz' (by simp [z])
       omega
      have nt:g.aq.length=n:=ih.sim.fc.nt
      have e0:Mi.dU g (enc (.halt_ y))=(g,[-2]):=by
       show Mi.dJ g (y.kind:Int) (y.which:Int) (y.from_:Int) (y.long:Int)=_
       unfold Mi.dJ Mi.things
       rw [q0]
       rw [if_pos (show (if ((0:Nat):Int)=0 then (g.aq.length:Int) else (g.au.length:Int)) < (y.which:Int) by rw [if_pos (by omega)];omega)]
      rw [nH e0 (by decide)]
      refine ⟨ih.wi,?_,by rw [k0.blk,ih.blk];show _=_++[];rw [List.append_nil],by rw [k0.stp];show g.cI.length<=_;omega,by rw [k0.min];show g.minute=f.minute+0;rw [ih.min];omega⟩
      have e:Vbmiaj.replayed F (T++[.halt_ y]) r n=Vbmiaj.replayed F T r n:=by
       show Vbmiaj.played (eU F r n) (Vbmiaj.stopsFor (eU F r n) (T++[.halt_ y]))=Vbmiaj.played (eU F r n) (Vbmiaj.stopsFor (eU F r n) T)
       rw [lJ,if_neg (show ¬mT (eU F r n).trucks (.halt_ y)=true from kz)]
      rw [e];exact ih.sim
theorem jc.all (h:jc F r0 r1 r2 r3 r4 f T x):Vbmiaj.stopsFor F T=T:=by
 induction h with
 | nil=>rfl
 | @snoc f T x z h a c ih=>
   rw [lJ,ih,if_pos]
   cases z with
   | block=>rfl
   | run=>rfl
   | halt_ y=>
     obtain ⟨a1,_⟩:=a
     show (y.kind==1||decide (y.which<=F.trucks))=true
     rcases a1 with ⟨q1,q2⟩ | ⟨q1,q2⟩
     ·rw [decide_eq_true q2];simp
     ·rw [q1];rfl
theorem jo (fx:Facts F r0 r1 r2 r3 r4 f T x) (r n:Int):Mi.again f r n=(T.map enc).foldl (fun g c=>(Mi.tell g c).1) (Mi.dq n F.carries r r0 r1 r2 r3 r4):=by
 unfold Mi.again
 have a:=fx.rs
 rw [fx.told,a.c,a.r0,a.r1,a.r2,a.r3,a.r4];rfl
end
end Si
namespace Si
open Vbmiaj (Fleet Shift Truck Block Stop Entry Told State)
open Mi (Flt Trk Shv Plc Blk Stp WF WI aa ai bz ak)
section
variable {F:Fleet} {r0 r1 r2 r3 r4:List Int} {f:Flt} {T:List Told} {x:Shift} {b:Bool}
theorem Sim.without (h:Sim b F f x):Mi.without f=((Vbmiaj.idle x:Nat):Int):=by
 unfold Mi.without Vbmiaj.idle
 rw [qs,List.map_map]
 congr 1
 apply List.ext_getElem?
 intro i
 rw [List.getElem?_map,List.getElem?_map]
 by_cases hi:i < F.loads.length
 ·have l1:i < f.au.length:=by rw [h.fc.ns];exact hi
  have l2:i < x.shovels.length:=by rw [h.sl];exact hi
  have e:=h.sh i hi
  have e1:ai f i=f.au[i]:=by unfold ai;simp [List.getD,l1]
  have e2:x.shovels.getD i []=x.shovels[i]:=by simp [List.getD,l2]
  rw [e1,e2] at e
  rw [List.getElem?_eq_getElem l1,List.getElem?_eq_getElem l2]
  show some ((f.au[i]).cnt.getD 2 0)=some (((x.shovels[i]).getD 2 0:Nat):Int)
  rw [e]
  congr 1
  unfold iN
  simp only [List.getD,List.getElem?_map]
  cases (x.shovels[i])[2]?<;>rfl
 ·have l1:f.au.length<=i:=by rw [h.fc.ns];omega
  have l2:x.shovels.length<=i:=by rw [h.sl];omega
  rw [List.getElem?_eq_none l1,List.getElem?_eq_none l2];rfl
theorem Sim.outcome (h:Sim b F f x):Mi.outcome f=0::Vbmiaj.ints [x.tipped.length,Vbmiaj.done x,Vbmiaj.idle x]:=by
 unfold Mi.outcome
 rw [h.tl,h.tk,h.without];rfl
theorem Sim.truck (h:Sim b F f x) {t:Nat} (t1:1<=t):(if (f.aq.length:Int) < (t:Int) then [-2] else let k:=aa f ((t:Int) - 1).toNat;[0,k.does,k.at_,k.go]++Mi.dr f k) =
  if F.trucks < t then [-2] else 0::Vbmiaj.ints [(Vbmiaj.truckOf x t).does,(Vbmiaj.truckOf x t).at_,(Vbmiaj.truckOf x t).more,(Vbmiaj.truckOf x t).block,(Vbmiaj.truckOf x t).load]:=by
 have nt:=h.fc.nt
 by_cases q:F.trucks < t
 ·rw [if_pos (by omega),if_pos q]
 ·rw [if_neg (by omega),if_neg q]
  have e:((t:Int) - 1).toNat=t - 1:=by omega
  have r:=h.tr (t - 1) (by omega)
  have e1:t - 1+1=t:=by omega
  rw [e1] at r
  rw [e]
  show [0,(aa f (t - 1)).does,(aa f (t - 1)).at_,(aa f (t - 1)).go]++Mi.dr f (aa f (t - 1))=_
  rw [r.l,r.d,r.a,r.g];rfl
theorem Sim.shovel (h:Sim b F f x) (c1:1<=F.carries) {s:Nat} (s1:1<=s):(if (f.au.length:Int) < (s:Int) then [-2] else let k:=ai f ((s:Int) - 1).toNat;[0,Mi.fF f k.row,Mi.cE f [1,2] (s:Int),Mi.fw f k.row]++k.row.map fun j=>(ak f j).number) =
  if Vbmiaj.shovelCount F < s then [-2] else 0::(Vbmiaj.ints [Vbmiaj.loadsLeft F x s,Vbmiaj.coming x s,Vbmiaj.sum ((Vbmiaj.faceOf x s).map fun c=>c.left)]++Vbmiaj.ints ((Vbmiaj.faceOf x s).map fun c=>c.number)):=by
 have ns:=h.fc.ns
 have sc:Vbmiaj.shovelCount F=F.loads.length:=rfl
 by_cases q:Vbmiaj.shovelCount F < s
 ·rw [if_pos (by omega),if_pos q]
 ·rw [if_neg (by omega),if_neg q]
  have e:((s:Int) - 1).toNat=s - 1:=by omega
  have hi:s - 1 < F.loads.length:=by omega
  have e1:s - 1+1=s:=by omega
  have l:=h.loads c1 hi
  have k:=h.bU hi
  have fa:=h.fa (s - 1) hi
  rw [e1] at l k fa
  rw [e]
  simp only
  rw [l,k,h.coming]
  have:(ai f (s - 1)).row.map (fun j=>(ak f j).number)=Vbmiaj.ints ((Vbmiaj.faceOf x s).map fun c=>c.number):=by
   have:=congrArg (List.map fun z:Int×Int×Int=>z.1) fa
   rw [List.map_map,List.map_map] at this
   unfold Vbmiaj.ints
   rw [List.map_map]
   exact this.symm
  rw [this];rfl
theorem Sim.place (h:Sim b F f x) {p:Nat} (p1:1<=p):(if (f.br.length:Int) < (p:Int) then [-2] else let k:=bz f ((p:Int) - 1).toNat;[0,k.loads,k.bU,Mi.cE f [5] (p:Int)]) =
  if Vbmiaj.placeCount F < p then [-2] else 0::Vbmiaj.ints [(x.tipped.filter fun z=>z.2.1==p).length,Vbmiaj.sum ((x.tipped.filter fun z=>z.2.1==p).map fun z=>z.2.2),(x.trucks.filter fun k=>k.does==5&&k.at_==p).length]:=by
 have np:=h.fc.np
 have sc:Vbmiaj.placeCount F=F.tips.length:=rfl
 by_cases q:Vbmiaj.placeCount F < p
 ·rw [if_pos (by omega),if_pos q]
 ·rw [if_neg (by omega),if_neg q]
  have e:((p:Int) - 1).toNat=p - 1:=by omega
  have hi:p - 1 < F.tips.length:=by omega
  have e1:p - 1+1=p:=by omega
  have t:=h.tp (p - 1) hi
  rw [e1] at t
  rw [e]
  simp only
  rw [t.1,t.2,h.how [5] p (fun k=>k.does==5&&k.at_==p) fun k=>by
   congr 1
   rw [Bool.eq_iff_iff];simp;omega]
  rfl
theorem Sim.lines (h:Sim b F f x) (k:Nat):0::((f.book.drop k).take 50).flatten=0::Vbmiaj.ints (((x.book.reverse.drop k).take 50).flatMap Vbmiaj.entryRow):=by
 rw [h.bk,<-List.map_drop,<-List.map_take]
 congr 1
 generalize (x.book.reverse.drop k).take 50=l
 induction l with
 | nil=>rfl
 | cons e l ih=>
   rw [List.map_cons,List.flatten_cons,List.flatMap_cons,ih]
   unfold Vbmiaj.ints
   rw [List.map_append];rfl
theorem Sim.Bw (h:Sim b F f x) {t:Nat} (t1:1<=t):(if (f.aq.length:Int) < (t:Int) then [-2] else 0::(aa f ((t:Int) - 1).toNat).cnt)=if F.trucks < t then [-2] else 0::Vbmiaj.ints (x.minutes.getD (t - 1) []):=by
 have nt:=h.fc.nt
 by_cases q:F.trucks < t
 ·rw [if_pos (by omega),if_pos q]
 ·rw [if_neg (by omega),if_neg q]
  have e:((t:Int) - 1).toNat=t - 1:=by omega
  rw [e,h.mi (t - 1) (by omega)];rfl
theorem Sim.work (h:Sim b F f x) {s:Nat} (s1:1<=s):(if (f.au.length:Int) < (s:Int) then [-2] else 0::(ai f ((s:Int) - 1).toNat).cnt)=if Vbmiaj.shovelCount F < s then [-2] else 0::Vbmiaj.ints (x.shovels.getD (s - 1) []):=by
 have ns:=h.fc.ns
 have sc:Vbmiaj.shovelCount F=F.loads.length:=rfl
 by_cases q:Vbmiaj.shovelCount F < s
 ·rw [if_pos (by omega),if_pos q]
 ·rw [if_neg (by omega),if_neg q]
  have e:((s:Int) - 1).toNat=s - 1:=by omega
  rw [e,h.sh (s - 1) (by omega)];rfl
theorem rh (t:Trk) (l:List Trk):((t::l).filterMap fun t=>t.load.map (·.2)).sum=(match t.load with | none=>0 | some k=>k.2)+(l.filterMap fun t=>t.load.map (·.2)).sum:=by
 rw [List.filterMap_cons]
 cases t.load<;>simp
theorem pV:∀ (l:List Trk) (m:List Truck),l.length=m.length->(∀ (i:Nat) (t:Trk) (k:Truck),l[i]? = some t->m[i]? = some k->(match t.load with | none=>0 | some k=>k.2)=(k.load:Int))->(l.filterMap fun t=>t.load.map (·.2)).sum=((Vbmiaj.sum (m.map fun k=>k.load):Nat):Int)
 | [],[],_,_=>rfl
 | [],_::_,h,_=>by simp at h
 | _::_,[],h,_=>by simp at h
 | t::l,k::m,h,hp=>by
   have h0:=hp 0 t k rfl rfl
   have ih:=pV l m (by simpa using h) fun i t k h1 h2=>hp (i+1) t k (by simpa using h1) (by simpa using h2)
   rw [rh,h0,ih]
   show _=((k.load+Vbmiaj.sum (m.map fun k=>k.load):Nat):Int)
   omega
theorem Sim.riding (h:Sim b F f x):Mi.carried f=((Vbmiaj.riding x:Nat):Int):=by
 unfold Mi.carried Vbmiaj.riding
 refine pV _ _ (by rw [h.fc.nt,h.xl]) fun i t k h1 h2=>?_
 have r:=(h.wu h1 h2).l
 unfold Mi.dr at r
 cases e:t.load with
 | none=>
   rw [e] at r
   simp only at r ⊢
   injection r with _ r;injection r with r _
 | some l=>
   obtain ⟨j,kg⟩:=l
   rw [e] at r
   simp only at r ⊢
   injection r with _ r;injection r with r _
theorem Sim.lying (h:Sim b F f x):(f.au.map fun s=>Mi.fw f s.row).sum=((Vbmiaj.lying x:Nat):Int):=by
 unfold Vbmiaj.lying
 rw [qs,List.map_map]
 congr 1
 apply List.ext_getElem?
 intro i
 rw [List.getElem?_map,List.getElem?_map]
 by_cases hi:i < F.loads.length
 ·have l1:i < f.au.length:=by rw [h.fc.ns];exact hi
  have l2:i < x.faces.length:=by rw [h.xf];exact hi
  have e:=h.bU hi
  have e1:ai f i=f.au[i]:=by unfold ai;simp [List.getD,l1]
  have e2:Vbmiaj.faceOf x (i+1)=x.faces[i]:=by unfold Vbmiaj.faceOf;rw [Nat.add_sub_cancel];simp [List.getD,l2]
  rw [e1,e2] at e
  rw [List.getElem?_eq_getElem l1,List.getElem?_eq_getElem l2]
  exact congrArg some e
 ·have l1:f.au.length<=i:=by rw [h.fc.ns];omega
  have l2:x.faces.length<=i:=by rw [h.xf];omega
  rw [List.getElem?_eq_none l1,List.getElem?_eq_none l2];rfl
theorem y0 (T:List Told):((Vbmiaj.toldIn T:Nat):Int)=((Vbmiaj.blocksTold T).map fun c=>(c.left:Int)).sum:=by
 unfold Vbmiaj.toldIn
 induction T with
 | nil=>rfl
 | cons z T ih=>
   cases z with
   | block s c=>
     show ((c.left+Vbmiaj.sum _:Nat):Int)=(((c::Vbmiaj.blocksTold T).map fun c=>(c.left:Int))).sum
     rw [List.map_cons,List.sum_cons,<-ih];omega
   | halt_ y=>
     show ((0+Vbmiaj.sum _:Nat):Int)=_
     rw [Nat.zero_add];exact ih
   | run m=>
     show ((0+Vbmiaj.sum _:Nat):Int)=_
     rw [Nat.zero_add];exact ih
theorem Facts.balance (h:Facts F r0 r1 r2 r3 r4 f T x):[0,(f.aA.map (·.bU)).sum,(f.au.map fun s=>Mi.fw f s.row).sum,Mi.carried f,Mi.dt f]=0::Vbmiaj.ints [Vbmiaj.toldIn T,Vbmiaj.lying x,Vbmiaj.riding x,Vbmiaj.done x]:=by
 have e:(f.aA.map (·.bU)).sum=((Vbmiaj.toldIn T:Nat):Int):=by
  rw [y0]
  have:=congrArg (List.map fun z:Int×Int×Int=>z.2.1) h.blk
  rw [List.map_map,List.map_map] at this
  exact congrArg List.sum this
 rw [e,h.sim.lying,h.sim.riding,h.sim.tk];rfl
theorem v7:∀ (l:List Blk) (m:List Block) (tp:Nat->Nat),l.map nk=m.map bk->(∀ c ∈ l,∃ n:Nat,c.number=(n:Int)/\c.tipped=(tp n:Int))->l.flatMap (fun c=>[c.number,c.bU,c.tipped,c.place])=Vbmiaj.ints (m.flatMap fun c=>[c.number,c.left,tp c.number,c.place])
 | [],[],_,_,_=>rfl
 | [],_::_,_,h,_=>by simp at h
 | _::_,[],_,h,_=>by simp at h
 | c::l,d::m,tp,h,ht=>by
   simp only [List.map_cons] at h
   injection h with h1 h2
   have ih:=v7 l m tp h2 fun c hc=>ht c (by simp [hc])
   obtain ⟨n,q1,q2⟩:=ht c (by simp)
   have a1:c.number=(d.number:Int):=congrArg (fun z:Int×Int×Int=>z.1) h1
   have a2:c.bU=(d.left:Int):=congrArg (fun z:Int×Int×Int=>z.2.1) h1
   have a3:c.place=(d.place:Int):=congrArg (fun z:Int×Int×Int=>z.2.2) h1
   have en:n=d.number:=by omega
   subst en
   rw [List.flatMap_cons,List.flatMap_cons,ih,a1,a2,a3,q2]
   unfold Vbmiaj.ints
   rw [List.map_append];rfl
theorem Facts.blocks (h:Facts F r0 r1 r2 r3 r4 f T x):0::f.aA.flatMap (fun c=>[c.number,c.bU,c.tipped,c.place])=0::Vbmiaj.ints ((Vbmiaj.blocksTold T).flatMap fun c=>[c.number,c.left,Vbmiaj.tippedOf x c.number,c.place]):=by
 rw [v7 f.aA (Vbmiaj.blocksTold T) (Vbmiaj.tippedOf x) h.blk fun c hc=>?_]
 obtain ⟨j,hj,e⟩:=List.getElem_of_mem hc
 have:=h.sim.bt j hj
 have e2:ak f j=c:=by unfold ak;simp [List.getD,hj,e]
 rw [e2] at this;exact this
theorem Sim.next (h:Sim b F f x) (c1:1<=F.carries) (p:Nat):(if (f.br.length:Int) < (p:Int) then [-2] else [0,Mi.chosen f (p:Int)])=if Vbmiaj.placeCount F < p then [-2] else [0,Int.ofNat ((Vbmiaj.chosen F x p).getD 0)]:=by
 have np:=h.fc.np
 have sc:Vbmiaj.placeCount F=F.tips.length:=rfl
 by_cases q:Vbmiaj.placeCount F < p
 ·rw [if_pos (by omega),if_pos q]
 ·rw [if_neg (by omega),if_neg q]
  rcases h.chosen c1 (p:=p) (by omega) with ⟨e1,e2⟩ | ⟨s,_,_,e1,e2⟩
  ·rw [e1,e2];rfl
  ·rw [e1,e2];rfl
theorem Sim.now (h:Sim b F f x):[0,f.minute,(f.aq.length:Int),(f.au.length:Int),(f.br.length:Int),f.rule,(f.book.length:Int),Mi.cf f,Mi.without f]=0::Vbmiaj.ints [x.minute,F.trucks,Vbmiaj.shovelCount F,Vbmiaj.placeCount F,F.rule,x.book.length,x.tipped.length,Vbmiaj.idle x]:=by
 have c:=h.fc
 rw [h.m,c.nt,c.ns,c.np,c.r,h.bk,h.tl,h.without,List.length_map,List.length_reverse];rfl
end
end Si
namespace Si
open Vbmiaj (Fleet Shift Truck Block Stop Entry Told State)
open Mi (Flt Trk Shv Plc Blk Stp WF WI aa ai bz ak)
section
variable {F:Fleet} {r0 r1 r2 r3 r4:List Int} {f:Flt} {T:List Told} {x:Shift} {b:Bool}
noncomputable def dif:Option Nat->List Int
 | none=>[0,1]
 | some i=>[0,0,Int.ofNat i]
theorem xG (e:Entry) (a c d p q r:Nat):([(a:Int),c,d,p,q,r]=ev e) ↔ e=⟨a,c,d,p,q,r⟩:=by
 obtain ⟨e1,e2,e3,e4,e5,e6⟩:=e
 unfold ev
 simp only [List.cons.injEq,Entry.mk.injEq,and_true]
 omega
theorem six (l:List Nat) (h:6<=l.length):∃ a c d p q r t,l=a::c::d::p::q::r::t:=by
 match l,h with
 | a::c::d::p::q::r::t,_=>exact ⟨a,c,d,p,q,r,t,rfl⟩
theorem Sim.check (h:Sim b F f x) (l:List Nat):∀ n k,6*(k+n)<=l.length->l.length < 6*(k+n)+6->Mi.fH f (iN l) n k=dif (Vbmiaj.differ k ((x.book.reverse.drop k).take n) (Vbmiaj.entriesOf (l.drop (k*6)))):=by
 intro n
 induction n with
 | zero=>
   intro k h1 h2
   have:(l.drop (k*6)).length < 6:=by rw [List.length_drop];omega
   generalize l.drop (k*6)=m at this
   have em:Vbmiaj.entriesOf m=[]:=by
    unfold Vbmiaj.entriesOf
    split
    ·simp at this;omega
    ·rfl
   rw [em];rfl
 | succ n ih=>
   intro k h1 h2
   have hl:6<=(l.drop (k*6)).length:=by rw [List.length_drop];omega
   obtain ⟨a,c,d,p,q,r,t,e⟩:=six _ hl
   have et:l.drop ((k+1)*6)=t:=by
    have:l.drop ((k+1)*6)=(l.drop (k*6)).drop 6:=by rw [List.drop_drop];congr 1;omega
    rw [this,e];rfl
   have ih:=ih (k+1) (by omega) (by omega)
   rw [et] at ih
   have ei:((iN l).drop (k*6)).take 6=[(a:Int),c,d,p,q,r]:=by
    unfold iN;rw [<-List.map_drop,e];rfl
   unfold Mi.fH
   rw [ei,e]
   have ee:Vbmiaj.entriesOf (a::c::d::p::q::r::t)=⟨a,c,d,p,q,r⟩::Vbmiaj.entriesOf t:=rfl
   rw [ee]
   by_cases hk:x.book.length<=k
   ·have b1:f.book.length<=k:=by rw [h.bk];simpa using hk
    rw [if_pos (.inl b1)]
    have:x.book.reverse.drop k=[]:=List.drop_eq_nil_of_le (by simpa using hk)
    rw [this];rfl
   ·have b1:¬f.book.length<=k:=by rw [h.bk];simpa using hk
    have lk:k < x.book.reverse.length:=by simp;omega
    have hd:x.book.reverse.drop k=x.book.reverse[k]::x.book.reverse.drop (k+1):=by rw [List.drop_eq_getElem_cons lk]
    have hb:f.book.getD k []=ev x.book.reverse[k]:=by
     rw [h.bk];simp only [List.getD,List.getElem?_map,List.getElem?_eq_getElem lk];rfl
    rw [hb,hd]
    generalize x.book.reverse[k]=u
    show _=dif (if u=⟨a,c,d,p,q,r⟩ then Vbmiaj.differ (k+1) ((x.book.reverse.drop (k+1)).take n) (Vbmiaj.entriesOf t) else some k)
    by_cases hu:u=⟨a,c,d,p,q,r⟩
    ·have:=(xG u a c d p q r).mpr hu
     rw [if_neg (fun z=>z.elim b1 (fun z=>z this)),if_pos hu];exact ih
    ·have:¬[(a:Int),c,d,p,q,r]=ev u:=fun z=>hu ((xG u a c d p q r).mp z)
     rw [if_pos (.inr this),if_neg hu];rfl
theorem Sim.checked (h:Sim b F f x) (l:List Nat):(if (iN l).length % 6≠0 then [-7] else Mi.fH f (iN l) ((iN l).length / 6) 0)=if l.length % 6≠0 then [-7] else dif (Vbmiaj.differ 0 (x.book.reverse.take (l.length / 6)) (Vbmiaj.entriesOf l)):=by
 have e:(iN l).length=l.length:=by simp [iN]
 rw [e]
 by_cases q:l.length % 6≠0
 ·rw [if_pos q,if_pos q]
 ·rw [if_neg q,if_neg q]
  exact h.check l (l.length / 6) 0 (by omega) (by omega)
theorem jc.other (B:Base F r0 r1 r2 r3 r4) (t1:1<=F.trucks) (t2:F.trucks<=8) (h:jc F r0 r1 r2 r3 r4 f T x) {r n:Nat} (n1:1<=n) (n2:n<=8):WI (Mi.again f (r:Int) (n:Int))/\Sim false (eU F r n) (Mi.again f (r:Int) (n:Int)) (Vbmiaj.replayed F T r n):=by
 rw [jo (h.facts B t1 t2)]
 have z:=h.again B t1 t2 (r:=r) n1 n2
 exact ⟨z.wi,z.sim⟩
noncomputable def v8 (F:Fleet) (T:List Told):Option Nat->List Int
 | some n=>[0,Int.ofNat n,Int.ofNat (Vbmiaj.idle (Vbmiaj.replayed F T F.rule n))]
 | none=>[0,0]
theorem jc.fewest (B:Base F r0 r1 r2 r3 r4) (t1:1<=F.trucks) (t2:F.trucks<=8) (h:jc F r0 r1 r2 r3 r4 f T x) (m:Nat):∀ k n,1<=n->n+k<=9->Mi.dQ f (m:Int) k n=v8 F T ((List.range' n k).find? fun n=>decide (Vbmiaj.idle (Vbmiaj.replayed F T F.rule n)<=m))
 | 0,n,_,_=>rfl
 | k+1,n,n1,hn=>by
   have ih:=jc.fewest B t1 t2 h m k (n+1) (by omega) (by omega)
   have fx:=h.facts B t1 t2
   obtain ⟨_,s⟩:=h.other B t1 t2 (r:=F.rule) (n:=n) n1 (by omega)
   have w:=s.without
   unfold Mi.dQ
   simp only
   rw [fx.sim.fc.r,w,ih,List.range'_succ,List.find?_cons]
   by_cases q:Vbmiaj.idle (Vbmiaj.replayed F T F.rule n)<=m
   ·rw [if_pos (by omega),decide_eq_true q];rfl
   ·rw [if_neg (by omega),decide_eq_false q]
theorem jc.ahead (B:Base F r0 r1 r2 r3 r4) (t1:1<=F.trucks) (t2:F.trucks<=8) (h:jc F r0 r1 r2 r3 r4 f T x) (n:Nat):Mi.ahead f (n:Int)=if 1440 < x.minute+n then [-6] else 0::Vbmiaj.ints [(Vbmiaj.minutes F n x).tipped.length,Vbmiaj.done (Vbmiaj.minutes F n x),Vbmiaj.idle (Vbmiaj.minutes F n x)]:=by
 have fx:=h.facts B t1 t2
 have m:=fx.sim.m
 unfold Mi.ahead
 by_cases q:1440 < x.minute+n
 ·rw [if_pos (by omega),if_pos q]
 ·rw [if_neg (by omega),if_neg q,fx.sim.fc.r,fx.sim.fc.nt]
  obtain ⟨w,s⟩:=h.other B t1 t2 (r:=F.rule) (n:=F.trucks) t1 t2
  have e:Vbmiaj.replayed F T F.rule F.trucks=x:=by
   show Vbmiaj.played F (Vbmiaj.stopsFor F T)=x
   rw [h.all];exact fx.x.symm
  rw [e] at s
  have s:Sim false F (Mi.again f (F.rule:Int) (F.trucks:Int)) x:=s
  have:=(s.minutes w.w n).outcome
  rw [show ((n:Int)).toNat=n by omega]
  exact this
end
noncomputable def St (o:Option Flt) (s:State):Prop:=match o with
 | none=>s.fleet=none
 | some f=>∃ F r0 r1 r2 r3 r4,s.fleet=some F/\Base F r0 r1 r2 r3 r4/\1<=F.trucks/\F.trucks<=8/\jc F r0 r1 r2 r3 r4 f s.told s.shift
noncomputable def Ok (s:State) (c:List (List Int)) (r:Option Flt×List Int):Prop:=St r.1 (Vbmiaj.stepRows s c).1/\r.2=(Vbmiaj.stepRows s c).2
section
variable {o:Option Flt} {s:State} {n:Int} {pl:List Int} {rows:List (List Int)} {ok:Bool} {c:Vbmiaj.Call}
theorem Ok.gen (hs:St o s) (hc:Vbmiaj.callOf ((n::pl)::rows)=Vbmiaj.ranged ok c) (hk:Mi.cX n pl rows=ok) (h0:n≠0) (hst:Vbmiaj.step s c=match s.fleet with | none=>(s,[-8]) | some F=>Vbmiaj.ofFleet s F c)
  (hf:ok=true->∀ f F r0 r1 r2 r3 r4,o=some f->s.fleet=some F->Base F r0 r1 r2 r3 r4->1<=F.trucks->F.trucks<=8->jc F r0 r1 r2 r3 r4 f s.told s.shift->
   St (if n=1\/n=2\/n=3 then some (Mi.tell f (n,pl)).1 else some f) (Vbmiaj.ofFleet s F c).1/\(if n=1\/n=2\/n=3 then (Mi.tell f (n,pl)).2 else Mi.fI f (n,pl) rows)=(Vbmiaj.ofFleet s F c).2):Ok s ((n::pl)::rows) (Mi.answer o n pl rows):=by
 unfold Ok Vbmiaj.stepRows Mi.answer
 rw [hc,hk]
 cases ok with
 | false=>exact ⟨hs,rfl⟩
 | true=>
   show St _ (Vbmiaj.step s c).1/\_=(Vbmiaj.step s c).2
   rw [if_neg (by decide),if_neg h0,hst]
   cases o with
   | none=>
     have hs:s.fleet=none:=hs
     rw [hs];exact ⟨hs,rfl⟩
   | some f=>
     obtain ⟨F,r0,r1,r2,r3,r4,e,B,t1,t2,h⟩:=hs
     have z:=hf rfl f F r0 r1 r2 r3 r4 rfl e B t1 t2 h
     rw [e]
     simp only
     by_cases q:n=1\/n=2\/n=3
     ·rw [if_pos q,if_pos q] at z
      rw [if_pos q];exact z
     ·rw [if_neg q,if_neg q] at z
      rw [if_neg q];exact z
end
end Si
namespace Si
open Vbmiaj (Fleet Shift Truck Block Stop Entry Told State)
open Mi (Flt Trk Shv Plc Blk Stp WF WI aa ai bz ak)
theorem gX:∀ (l:List Int),(∀ z ∈ l,0<=z)->iN (Vbmiaj.nats l)=l
 | [],_=>rfl
 | a::l,h=>by
   have ih:=gX l fun z hz=>h z (by simp [hz])
   have:=h a (by simp)
   show Int.ofNat a.toNat::iN (Vbmiaj.nats l)=_
   rw [ih]
   congr 1
   exact Int.toNat_of_nonneg this
theorem f9 (l:List Int):(Vbmiaj.nats l).length=l.length:=by simp [Vbmiaj.nats]
theorem oo (l:List Int) (lo hi most:Nat):Mi.kq l (lo,hi,1,most)=Vbmiaj.isTimes l lo hi most:=by
 unfold Mi.kq Vbmiaj.isTimes
 have e1:decide ((lo:Int)<=(l.length:Int))=decide (lo<=l.length):=by rw [Bool.eq_iff_iff];simp
 have e2:decide ((l.length:Int)<=(hi:Int))=decide (l.length<=hi):=by rw [Bool.eq_iff_iff];simp
 simp only [e1,e2,Bool.and_assoc];rfl
theorem iO {α β:Type} {p:Prop} [Decidable p] (s:α) (a c:β):(if p then (s,a) else (s,c))=(s,if p then a else c):=by split<;>rfl
section
variable {o:Option Flt} {s:State} {n:Int} {pl:List Int} {rows:List (List Int)}
theorem Ok.fleet (hs:St o s) {n c r:Int} {l t p w k:List Int}:Ok s [[0,n,c,r],l,t,p,w,k] (Mi.answer o 0 [n,c,r] [l,t,p,w,k]):=by
 have hk:Mi.cX 0 [n,c,r] [l,t,p,w,k]=(Vbmiaj.within n 1 8&&(Vbmiaj.within c 1 1000000&&(Vbmiaj.within r 0 2&&(Vbmiaj.isTimes l 1 3 60&&(Vbmiaj.isTimes t 1 3 60&&(Vbmiaj.isTimes p 1 3 60&&(Vbmiaj.isTimes w 1 9 60&&Vbmiaj.isTimes k 1 9 60))))))):=by
  rw [<-oo,<-oo,<-oo,<-oo,<-oo]
  unfold Mi.cX Mi.dB Mi.cj Mi.gk Vbmiaj.within
  simp [Bool.and_assoc]
 unfold Ok Vbmiaj.stepRows Mi.answer
 rw [hk]
 show St _ (match Vbmiaj.ranged _ _ with | none=>(s,[-1]) | some c=>Vbmiaj.step s c).1/\_=(match Vbmiaj.ranged _ _ with | none=>(s,[-1]) | some c=>Vbmiaj.step s c).2
 cases q:(Vbmiaj.within n 1 8&&(Vbmiaj.within c 1 1000000&&(Vbmiaj.within r 0 2&&(Vbmiaj.isTimes l 1 3 60&&(Vbmiaj.isTimes t 1 3 60&&(Vbmiaj.isTimes p 1 3 60&&(Vbmiaj.isTimes w 1 9 60&&Vbmiaj.isTimes k 1 9 60))))))) with
 | false=>exact ⟨hs,rfl⟩
 | true=>
   unfold Vbmiaj.ranged
   rw [if_neg (by decide),if_pos rfl,if_pos rfl]
   unfold Vbmiaj.within Vbmiaj.isTimes Vbmiaj.within at q
   simp only [Bool.and_eq_true,decide_eq_true_eq,List.all_eq_true] at q
   obtain ⟨⟨n1,n2⟩,⟨c1,c2⟩,⟨q1,q2⟩,⟨l1,l2,l3⟩,⟨t1,t2,t3⟩,⟨p1,p2,p3⟩,⟨w1,w2,w3⟩,⟨k1,k2,k3⟩⟩:=q
   have il:=gX l fun z hz=>by have:=l3 z hz;omega
   have it:=gX t fun z hz=>by have:=t3 z hz;omega
   have ip:=gX p fun z hz=>by have:=p3 z hz;omega
   have iw:=gX w fun z hz=>by have:=w3 z hz;omega
   have ik:=gX k fun z hz=>by have:=k3 z hz;omega
   unfold Mi.iF Vbmiaj.step
   simp only [f9]
   by_cases e:p.length≠l.length\/w.length≠l.length*t.length\/k.length≠l.length*t.length
   ·have e':(p.length==l.length&&(w.length==l.length*t.length&&k.length==l.length*t.length))=false:=by
     cases z:(p.length==l.length&&(w.length==l.length*t.length&&k.length==l.length*t.length)) with
     | false=>rfl
     | true=>
       simp only [Bool.and_eq_true,beq_iff_eq] at z
       omega
    rw [if_pos e,if_pos e']
    exact ⟨hs,rfl⟩
   ·have e':¬(p.length==l.length&&(w.length==l.length*t.length&&k.length==l.length*t.length))=false:=by
     have:(p.length==l.length&&(w.length==l.length*t.length&&k.length==l.length*t.length))=true:=by
      simp only [Bool.and_eq_true,beq_iff_eq]
      omega
     rw [this];decide
    rw [if_neg e,if_neg e']
    refine ⟨⟨_,l,t,p,w,k,rfl,?_,?_,?_,?_⟩,rfl⟩
    ·have B:=Base.made (n:=n.toNat) (c:=c.toNat) (r:=r.toNat) (l:=Vbmiaj.nats l) (t:=Vbmiaj.nats t) (p:=Vbmiaj.nats p) (o:=Vbmiaj.nats w) (b:=Vbmiaj.nats k) (by omega) (by omega) (by rw [f9];exact l1) (by rw [f9];exact l2) (by rw [f9];exact t1) (by rw [f9];exact t2) (by rw [f9,f9];omega) (by rw [f9,f9,f9];omega) (by rw [f9,f9,f9];omega) (by rw [il];exact fun z hz=>l3 z hz)
     rw [il,it,ip,iw,ik] at B
     simp only [f9] at B
     exact B
    ·show 1<=n.toNat;omega
    ·show n.toNat<=8;omega
    ·have:Mi.dq n c r l t p w k=Mi.dq ((n.toNat:Nat):Int) ((c.toNat:Nat):Int) ((r.toNat:Nat):Int) l t p w k:=by
      rw [Int.toNat_of_nonneg (by omega),Int.toNat_of_nonneg (by omega),Int.toNat_of_nonneg (by omega)]
     show jc _ l t p w k (Mi.dq n c r l t p w k) [] (Vbmiaj.begun _)
     rw [this]
     exact .nil (F:=⟨n.toNat,c.toNat,r.toNat,Vbmiaj.nats l,Vbmiaj.nats t,Vbmiaj.nats p,Vbmiaj.parted t.length l.length (Vbmiaj.nats w),Vbmiaj.parted l.length t.length (Vbmiaj.nats k)⟩)
theorem cF {a lo hi:Int} (h:Vbmiaj.within a lo hi=true) (h0:0<=lo):∃ i:Nat,a=(i:Int)/\lo<=(i:Int)/\(i:Int)<=hi:=by
 unfold Vbmiaj.within at h
 rw [Bool.and_eq_true] at h
 have h1:=of_decide_eq_true h.1
 have h2:=of_decide_eq_true h.2
 exact ⟨a.toNat,by omega,by omega,by omega⟩
theorem Ok.view (hs:St o s) {ok:Bool} {c:Vbmiaj.Call} (hc:Vbmiaj.callOf ((n::pl)::rows)=Vbmiaj.ranged ok c) (hk:Mi.cX n pl rows=ok) (h0:n≠0) (h1:¬(n=1\/n=2\/n=3)) (hst:Vbmiaj.step s c=match s.fleet with | none=>(s,[-8]) | some F=>Vbmiaj.ofFleet s F c)
  (hf:ok=true->∀ f F r0 r1 r2 r3 r4,s.fleet=some F->Base F r0 r1 r2 r3 r4->1<=F.trucks->F.trucks<=8->jc F r0 r1 r2 r3 r4 f s.told s.shift->Facts F r0 r1 r2 r3 r4 f s.told s.shift->Vbmiaj.ofFleet s F c=(s,Mi.fI f (n,pl) rows)):Ok s ((n::pl)::rows) (Mi.answer o n pl rows):=
 Ok.gen hs hc hk h0 hst fun hok f F r0 r1 r2 r3 r4 e1 e2 B t1 t2 h=>by
  rw [if_neg h1,if_neg h1,hf hok f F r0 r1 r2 r3 r4 e2 B t1 t2 h (h.facts B t1 t2)]
  exact ⟨⟨F,r0,r1,r2,r3,r4,e2,B,t1,t2,h⟩,rfl⟩
theorem k1 (n a lo hi:Int) (h:Mi.cj n=[(lo,hi)]):Mi.cX n [a] []=Vbmiaj.within a lo hi:=by
 unfold Mi.cX Mi.dB;rw [h]
 simp [Vbmiaj.within]
theorem Ok.c4 (hs:St o s) (a:Int):Ok s [[4,a]] (Mi.answer o 4 [a] []):=Ok.view hs rfl (k1 _ _ _ _ rfl) (by decide) (by decide) rfl fun hok f F r0 r1 r2 r3 r4 e B t1 t2 h fx=>by
 obtain ⟨i,rfl,i1,i2⟩:=cF hok (by decide)
 show (if F.trucks < ((i:Int)).toNat then (s,[-2]) else (s,_))=(s,if (f.aq.length:Int) < (i:Int) then [-2] else _)
 rw [iO,fx.sim.truck (by omega)];rfl
theorem Ok.c5 (hs:St o s) (a:Int):Ok s [[5,a]] (Mi.answer o 5 [a] []):=Ok.view hs rfl (k1 _ _ _ _ rfl) (by decide) (by decide) rfl fun hok f F r0 r1 r2 r3 r4 e B t1 t2 h fx=>by
 obtain ⟨i,rfl,i1,i2⟩:=cF hok (by decide)
 show (if Vbmiaj.shovelCount F < ((i:Int)).toNat then (s,[-2]) else (s,_))=(s,if (f.au.length:Int) < (i:Int) then [-2] else _)
 rw [iO,fx.sim.shovel B.c1 (by omega)];rfl
theorem Ok.c6 (hs:St o s) (a:Int):Ok s [[6,a]] (Mi.answer o 6 [a] []):=Ok.view hs rfl (k1 _ _ _ _ rfl) (by decide) (by decide) rfl fun hok f F r0 r1 r2 r3 r4 e B t1 t2 h fx=>by
 obtain ⟨i,rfl,i1,i2⟩:=cF hok (by decide)
 show (if Vbmiaj.placeCount F < ((i:Int)).toNat then (s,[-2]) else (s,_))=(s,if (f.br.length:Int) < (i:Int) then [-2] else _)
 rw [iO,fx.sim.place (by omega)];rfl
theorem Ok.c7 (hs:St o s) (a:Int):Ok s [[7,a]] (Mi.answer o 7 [a] []):=Ok.view hs rfl (k1 _ _ _ _ rfl) (by decide) (by decide) rfl fun hok f F r0 r1 r2 r3 r4 e B t1 t2 h fx=>by
 obtain ⟨i,rfl,i1,i2⟩:=cF hok (by decide)
 show (s,_)=(s,0::((f.book.drop ((i:Int)).toNat).take 50).flatten)
 rw [fx.sim.lines]
theorem Ok.c8 (hs:St o s) (a:Int):Ok s [[8,a]] (Mi.answer o 8 [a] []):=Ok.view hs rfl (k1 _ _ _ _ rfl) (by decide) (by decide) rfl fun hok f F r0 r1 r2 r3 r4 e B t1 t2 h fx=>by
 obtain ⟨i,rfl,i1,i2⟩:=cF hok (by decide)
 show (if F.trucks < ((i:Int)).toNat then (s,[-2]) else (s,_))=(s,if (f.aq.length:Int) < (i:Int) then [-2] else _)
 rw [iO,fx.sim.Bw (by omega)];rfl
theorem Ok.c9 (hs:St o s) (a:Int):Ok s [[9,a]] (Mi.answer o 9 [a] []):=Ok.view hs rfl (k1 _ _ _ _ rfl) (by decide) (by decide) rfl fun hok f F r0 r1 r2 r3 r4 e B t1 t2 h fx=>by
 obtain ⟨i,rfl,i1,i2⟩:=cF hok (by decide)
 show (if Vbmiaj.shovelCount F < ((i:Int)).toNat then (s,[-2]) else (s,_))=(s,if (f.au.length:Int) < (i:Int) then [-2] else _)
 rw [iO,fx.sim.work (by omega)];rfl
theorem Ok.c10 (hs:St o s):Ok s [[10]] (Mi.answer o 10 [] []):=Ok.view (ok:=true) hs rfl rfl (by decide) (by decide) rfl fun hok f F r0 r1 r2 r3 r4 e B t1 t2 h fx=>by
 show (s,_)=(s,[0,(f.aA.map (·.bU)).sum,(f.au.map fun s=>Mi.fw f s.row).sum,Mi.carried f,Mi.dt f])
 rw [fx.balance]
theorem Ok.c11 (hs:St o s):Ok s [[11]] (Mi.answer o 11 [] []):=Ok.view (ok:=true) hs rfl rfl (by decide) (by decide) rfl fun hok f F r0 r1 r2 r3 r4 e B t1 t2 h fx=>by
 show (s,_)=(s,0::f.aA.flatMap (fun c=>[c.number,c.bU,c.tipped,c.place]))
 rw [fx.blocks]
theorem Ok.c12 (hs:St o s) (a:Int):Ok s [[12,a]] (Mi.answer o 12 [a] []):=Ok.view hs rfl (k1 _ _ _ _ rfl) (by decide) (by decide) rfl fun hok f F r0 r1 r2 r3 r4 e B t1 t2 h fx=>by
 obtain ⟨i,rfl,i1,i2⟩:=cF hok (by decide)
 show (if Vbmiaj.placeCount F < ((i:Int)).toNat then (s,[-2]) else (s,_))=(s,if (f.br.length:Int) < (i:Int) then [-2] else _)
 rw [iO,fx.sim.next B.c1 i];rfl
theorem Ok.c13 (hs:St o s) (l:List Int):Ok s [[13],l] (Mi.answer o 13 [] [l]):=Ok.view (c:=.check (Vbmiaj.nats l)) (ok:=decide (l.length<=600)&&l.all fun z=>Vbmiaj.within z 0 100000000) hs rfl (by
  unfold Mi.cX Mi.dB Mi.cj Mi.gk Mi.kq Vbmiaj.within
  have e2:decide ((l.length:Int)<=(600:Int))=decide (l.length<=600):=by rw [Bool.eq_iff_iff];simp;omega
  have e1:decide ((0:Int)<=(l.length:Int))=true:=decide_eq_true (by omega)
  simp only [List.zip_cons_cons,List.zip_nil_right,List.zip_nil_left,List.all_cons,List.all_nil,e1,e2,Bool.true_and,Bool.and_true]) (by decide) (by decide) rfl fun hok f F r0 r1 r2 r3 r4 e B t1 t2 h fx=>by
 rw [Bool.and_eq_true] at hok
 have il:=gX l fun z hz=>by
  have:=List.all_eq_true.mp hok.2 z hz
  unfold Vbmiaj.within at this
  rw [Bool.and_eq_true] at this
  exact of_decide_eq_true this.1
 show _=(s,if l.length % 6≠0 then [-7] else Mi.fH f l (l.length / 6) 0)
 have z:=fx.sim.checked (Vbmiaj.nats l)
 rw [il] at z
 rw [z]
 show (if (Vbmiaj.nats l).length % 6≠0 then (s,[-7]) else (match Vbmiaj.differ 0 (s.shift.book.reverse.take ((Vbmiaj.nats l).length / 6)) (Vbmiaj.entriesOf (Vbmiaj.nats l)) with | none=>(s,[0,1]) | some i=>(s,[0,0,Int.ofNat i])))=_
 by_cases q:(Vbmiaj.nats l).length % 6≠0
 ·rw [if_pos q,if_pos q]
 ·rw [if_neg q,if_neg q]
  cases Vbmiaj.differ 0 (s.shift.book.reverse.take ((Vbmiaj.nats l).length / 6)) (Vbmiaj.entriesOf (Vbmiaj.nats l))<;>rfl
theorem k2 (n a c lo hi lo2 hi2:Int) (h:Mi.cj n=[(lo,hi),(lo2,hi2)]):Mi.cX n [a,c] []=(Vbmiaj.within a lo hi&&Vbmiaj.within c lo2 hi2):=by
 unfold Mi.cX Mi.dB;rw [h]
 simp [Vbmiaj.within]
theorem Ok.c14 (hs:St o s) (a c:Int):Ok s [[14,a,c]] (Mi.answer o 14 [a,c] []):=Ok.view hs rfl (k2 _ _ _ _ _ _ _ rfl) (by decide) (by decide) rfl fun hok f F r0 r1 r2 r3 r4 e B t1 t2 h fx=>by
 rw [Bool.and_eq_true] at hok
 obtain ⟨i,rfl,i1,i2⟩:=cF hok.1 (by decide)
 obtain ⟨j,rfl,j1,j2⟩:=cF hok.2 (by decide)
 show (s,_)=(s,Mi.outcome (Mi.again f (i:Int) (j:Int)))
 rw [(h.other B t1 t2 (r:=i) (n:=j) (by omega) (by omega)).2.outcome];rfl
theorem Ok.c15 (hs:St o s) (a:Int):Ok s [[15,a]] (Mi.answer o 15 [a] []):=Ok.view hs rfl (k1 _ _ _ _ rfl) (by decide) (by decide) rfl fun hok f F r0 r1 r2 r3 r4 e B t1 t2 h fx=>by
 obtain ⟨i,rfl,i1,i2⟩:=cF hok (by decide)
 show (s,_)=(s,Mi.dQ f (i:Int) 8 1)
 rw [h.fewest B t1 t2 i 8 1 (by decide) (by decide)]
 show (s,match Vbmiaj.fewest F s.told ((i:Int)).toNat with | some n=>_ | none=>_)=_
 have e2:Vbmiaj.fewest F s.told ((i:Int)).toNat=(List.range' 1 8).find? fun n=>decide (Vbmiaj.idle (Vbmiaj.replayed F s.told F.rule n)<=i):=rfl
 rw [e2]
 cases (List.range' 1 8).find? fun n=>decide (Vbmiaj.idle (Vbmiaj.replayed F s.told F.rule n)<=i)<;>rfl
theorem Ok.c16 (hs:St o s) (a:Int):Ok s [[16,a]] (Mi.answer o 16 [a] []):=Ok.view hs rfl (k1 _ _ _ _ rfl) (by decide) (by decide) rfl fun hok f F r0 r1 r2 r3 r4 e B t1 t2 h fx=>by
 obtain ⟨i,rfl,i1,i2⟩:=cF hok (by decide)
 show (if 1440 < s.shift.minute+((i:Int)).toNat then (s,[-6]) else (s,_))=(s,Mi.ahead f (i:Int))
 rw [iO,h.ahead B t1 t2 i];rfl
theorem Ok.c17 (hs:St o s):Ok s [[17]] (Mi.answer o 17 [] []):=Ok.view (ok:=true) hs rfl rfl (by decide) (by decide) rfl fun hok f F r0 r1 r2 r3 r4 e B t1 t2 h fx=>by
 show (s,_)=(s,[0,f.minute,(f.aq.length:Int),(f.au.length:Int),(f.br.length:Int),f.rule,(f.book.length:Int),Mi.cf f,Mi.without f])
 rw [fx.sim.now]
end
end Si
namespace Si
open Vbmiaj (Fleet Shift Truck Block Stop Entry Told State)
open Mi (Flt Trk Shv Plc Blk Stp WF WI aa ai bz ak)
section
variable {o:Option Flt} {s:State}
theorem St.next {F:Fleet} {r0 r1 r2 r3 r4:List Int} {f:Flt} {z:Told} {a:Shift->List Int} (e:s.fleet=some F) (B:Base F r0 r1 r2 r3 r4) (t1:1<=F.trucks) (t2:F.trucks<=8) (h:jc F r0 r1 r2 r3 r4 f s.told s.shift) (ac:Acc F f z) (c:Mi.COk (enc z)) (ha:a (Vbmiaj.tell F s.shift z)=AF F (Vbmiaj.tell F s.shift z) z) :
  St (some (Mi.tell f (enc z)).1) (Vbmiaj.onward s F z a).1/\(Mi.tell f (enc z)).2=(Vbmiaj.onward s F z a).2:=by
 have fx:=h.facts B t1 t2
 have k:=m4 fx.wi fx.sim ac
 refine ⟨⟨F,r0,r1,r2,r3,r4,e,B,t1,t2,.snoc h ac c⟩,?_⟩
 show _=a (Vbmiaj.tell F s.shift z)
 rw [ha,k.ans]
theorem Ok.c1 (hs:St o s) (a m k p:Int):Ok s [[1,a,m,k,p]] (Mi.answer o 1 [a,m,k,p] []):=by
 refine Ok.gen (ok:=Vbmiaj.within a 1 3&&(Vbmiaj.within m 1 1000000&&(Vbmiaj.within k 1 100000000&&Vbmiaj.within p 1 3))) hs rfl ?_ (by decide) rfl fun hok f F r0 r1 r2 r3 r4 _ e B t1 t2 h=>?_
 ·unfold Mi.cX Mi.dB Mi.cj Vbmiaj.within
  simp [Bool.and_assoc]
 ·rw [if_pos (.inl rfl),if_pos (.inl rfl)]
  simp only [Bool.and_eq_true] at hok
  obtain ⟨i,rfl,i1,i2⟩:=cF hok.1 (by decide)
  obtain ⟨m,rfl,m1,m2⟩:=cF hok.2.1 (by decide)
  obtain ⟨k,rfl,k1,k2⟩:=cF hok.2.2.1 (by decide)
  obtain ⟨p,rfl,p1,p2⟩:=cF hok.2.2.2 (by decide)
  have fx:=h.facts B t1 t2
  have ns:=fx.sim.fc.ns
  have np:=fx.sim.fc.np
  have js:∀ {v:Int},v≠0->Mi.du f (i:Int) (m:Int) (k:Int) (p:Int)=(f,[v])->St (some (Mi.tell f (1,[(i:Int),m,k,p])).1) s/\(Mi.tell f (1,[(i:Int),m,k,p])).2=[v]:=fun hv q=>by
   rw [nH (show Mi.dU f (1,[(i:Int),m,k,p])=(f,[_]) from q) hv]
   exact ⟨⟨F,r0,r1,r2,r3,r4,e,B,t1,t2,h⟩,rfl⟩
  show St _ (if Vbmiaj.shovelCount F < i then (s,[-2]) else if Vbmiaj.placeCount F < p then (s,[-2]) else if (Vbmiaj.blocksTold s.told).any (fun b=>b.number==m)=true then (s,[-3]) else if 20<=(Vbmiaj.blocksTold s.told).length then (s,[-4]) else Vbmiaj.onward s F (.block i ⟨m,k,p⟩) fun y=>[0,Int.ofNat (Vbmiaj.loadsLeft F y i)]).1/\
   _=(if Vbmiaj.shovelCount F < i then (s,[-2]) else if Vbmiaj.placeCount F < p then (s,[-2]) else if (Vbmiaj.blocksTold s.told).any (fun b=>b.number==m)=true then (s,[-3]) else if 20<=(Vbmiaj.blocksTold s.told).length then (s,[-4]) else Vbmiaj.onward s F (.block i ⟨m,k,p⟩) fun y=>[0,Int.ofNat (Vbmiaj.loadsLeft F y i)]).2
  have sc:Vbmiaj.shovelCount F=F.loads.length:=rfl
  have pc:Vbmiaj.placeCount F=F.tips.length:=rfl
  have bl:f.aA.length=(Vbmiaj.blocksTold s.told).length:=by
   have:=congrArg List.length fx.blk
   rwa [List.length_map,List.length_map] at this
  have nm:f.aA.map (·.number)=(Vbmiaj.blocksTold s.told).map fun c=>(c.number:Int):=by
   have:=congrArg (List.map fun z:Int×Int×Int=>z.1) fx.blk
   rw [List.map_map,List.map_map] at this
   exact this
  have b20:=fx.wi.w.b20
  by_cases q1:Vbmiaj.shovelCount F < i
  ·rw [if_pos q1]
   exact js (by decide) (by unfold Mi.du;rw [if_pos (by omega)])
  ·rw [if_neg q1]
   by_cases q2:Vbmiaj.placeCount F < p
   ·rw [if_pos q2]
    exact js (by decide) (by unfold Mi.du;rw [if_pos (by omega)])
   ·rw [if_neg q2]
    have cq:(f.aA.map (·.number)).contains (m:Int)=(Vbmiaj.blocksTold s.told).any (fun b=>b.number==m):=by
     rw [nm,Bool.eq_iff_iff]
     simp only [List.contains_iff_mem,List.mem_map,List.any_eq_true,beq_iff_eq]
     constructor
     ·rintro ⟨c,h1,h2⟩;exact ⟨c,h1,by omega⟩
     ·rintro ⟨c,h1,h2⟩;exact ⟨c,h1,by omega⟩
    cases q3:(Vbmiaj.blocksTold s.told).any (fun b=>b.number==m) with
    | true=>
      rw [if_pos rfl]
      exact js (by decide) (by unfold Mi.du;rw [if_neg (by omega),cq,q3,if_pos rfl])
    | false=>
      rw [if_neg (by decide)]
      by_cases q4:20<=(Vbmiaj.blocksTold s.told).length
      ·rw [if_pos q4]
       exact js (by decide) (by unfold Mi.du;rw [if_neg (by omega),cq,q3,if_neg (by decide),if_pos (by omega)])
      ·rw [if_neg q4]
       refine St.next (z:=.block i ⟨m,k,p⟩) e B t1 t2 h ⟨by omega,by omega,by show 1<=p;omega,by show p<=_;omega,fun z hz=>?_,by omega⟩ (.inl ⟨i,m,k,p,rfl,by omega,by omega,by omega,by omega,by omega,by omega,by omega,by omega⟩) rfl
       intro ez
       obtain ⟨c,hc,rfl⟩:=List.mem_map.mp hz
       have:(f.aA.map (·.number)).contains (m:Int)=true:=by
        rw [List.contains_iff_mem]
        exact List.mem_map.mpr ⟨c,hc,ez⟩
       rw [cq,q3] at this;cases this
theorem Ok.c2 (hs:St o s) (a m k p:Int):Ok s [[2,a,m,k,p]] (Mi.answer o 2 [a,m,k,p] []):=by
 refine Ok.gen (ok:=Vbmiaj.within a 0 1&&(Vbmiaj.within m 1 8&&(Vbmiaj.within k 0 1440&&Vbmiaj.within p 1 1440))) hs rfl ?_ (by decide) rfl fun hok f F r0 r1 r2 r3 r4 _ e B t1 t2 h=>?_
 ·unfold Mi.cX Mi.dB Mi.cj Vbmiaj.within
  simp [Bool.and_assoc]
 ·rw [if_pos (.inr (.inl rfl)),if_pos (.inr (.inl rfl))]
  simp only [Bool.and_eq_true] at hok
  obtain ⟨i,rfl,i1,i2⟩:=cF hok.1 (by decide)
  obtain ⟨m,rfl,m1,m2⟩:=cF hok.2.1 (by decide)
  obtain ⟨k,rfl,k1,k2⟩:=cF hok.2.2.1 (by decide)
  obtain ⟨p,rfl,p1,p2⟩:=cF hok.2.2.2 (by decide)
  have fx:=h.facts B t1 t2
  have ns:=fx.sim.fc.ns
  have nt:=fx.sim.fc.nt
  have mn:=fx.sim.m
  have sl:f.cI.length=s.shift.stops.length:=by rw [fx.sim.st];simp
  have z20:=fx.wi.w.z20
  have th:Mi.things f (i:Int)=((if i=0 then F.trucks else Vbmiaj.shovelCount F:Nat):Int):=by
   unfold Mi.things
   by_cases q:i=0
   ·rw [if_pos (by omega),if_pos q];omega
   ·rw [if_neg (by omega),if_neg q]
    show _=((F.loads.length:Nat):Int)
    omega
  have js:∀ {v:Int},v≠0->Mi.dJ f (i:Int) (m:Int) (k:Int) (p:Int)=(f,[v])->St (some (Mi.tell f (2,[(i:Int),m,k,p])).1) s/\(Mi.tell f (2,[(i:Int),m,k,p])).2=[v]:=fun hv q=>by
   rw [nH (show Mi.dU f (2,[(i:Int),m,k,p])=(f,[_]) from q) hv]
   exact ⟨⟨F,r0,r1,r2,r3,r4,e,B,t1,t2,h⟩,rfl⟩
  show St _ (if (if i=0 then F.trucks else Vbmiaj.shovelCount F) < m then (s,[-2]) else if k < s.shift.minute then (s,[-5]) else if 20<=s.shift.stops.length then (s,[-4]) else Vbmiaj.onward s F (.halt_ ⟨i,m,k,p⟩) fun _=>[0]).1/\
   _=(if (if i=0 then F.trucks else Vbmiaj.shovelCount F) < m then (s,[-2]) else if k < s.shift.minute then (s,[-5]) else if 20<=s.shift.stops.length then (s,[-4]) else Vbmiaj.onward s F (.halt_ ⟨i,m,k,p⟩) fun _=>[0]).2
  by_cases q1:(if i=0 then F.trucks else Vbmiaj.shovelCount F) < m
  ·rw [if_pos q1]
   exact js (by decide) (by unfold Mi.dJ;rw [if_pos (by rw [th];omega)])
  ·rw [if_neg q1]
   by_cases q2:k < s.shift.minute
   ·rw [if_pos q2]
    exact js (by decide) (by unfold Mi.dJ;rw [if_neg (by rw [th];omega),if_pos (by omega)])
   ·rw [if_neg q2]
    by_cases q3:20<=s.shift.stops.length
    ·rw [if_pos q3]
     exact js (by decide) (by unfold Mi.dJ;rw [if_neg (by rw [th];omega),if_neg (by omega),if_pos (by omega)])
    ·rw [if_neg q3]
     refine St.next (z:=.halt_ ⟨i,m,k,p⟩) e B t1 t2 h ⟨?_,by show 1<=m;omega,by show f.minute<=(k:Int);omega,by omega⟩ (.inr (.inl ⟨i,m,k,p,rfl,by omega,by omega,by omega,by omega,by omega,by omega,by omega,by omega⟩)) rfl
     by_cases q:i=0
     ·rw [if_pos q] at q1
      exact .inl ⟨q,by show m<=_;omega⟩
     ·rw [if_neg q] at q1
      exact .inr ⟨by show i=1;omega,by show m<=F.loads.length;have:Vbmiaj.shovelCount F=F.loads.length:=rfl;omega⟩
theorem Ok.c3 (hs:St o s) (a:Int):Ok s [[3,a]] (Mi.answer o 3 [a] []):=by
 refine Ok.gen hs rfl (k1 _ _ _ _ rfl) (by decide) rfl fun hok f F r0 r1 r2 r3 r4 _ e B t1 t2 h=>?_
 rw [if_pos (.inr (.inr rfl)),if_pos (.inr (.inr rfl))]
 obtain ⟨i,rfl,i1,i2⟩:=cF hok (by decide)
 have fx:=h.facts B t1 t2
 have mn:=fx.sim.m
 show St _ (if 1440 < s.shift.minute+i then (s,[-6]) else Vbmiaj.onward s F (.run i) fun y=>[0,Int.ofNat y.minute,Int.ofNat y.tipped.length]).1/\_=(if 1440 < s.shift.minute+i then (s,[-6]) else Vbmiaj.onward s F (.run i) fun y=>[0,Int.ofNat y.minute,Int.ofNat y.tipped.length]).2
 by_cases q:1440 < s.shift.minute+i
 ·rw [if_pos q,nH (f:=f) (c:=(3,[(i:Int)])) (g:=f) (e:=-6) (l:=[]) (by show Mi.fD f (i:Int)=_;unfold Mi.fD;rw [if_pos (by omega)]) (by decide)]
  exact ⟨⟨F,r0,r1,r2,r3,r4,e,B,t1,t2,h⟩,rfl⟩
 ·rw [if_neg q]
  exact St.next (z:=.run i) e B t1 t2 h (show f.minute+(i:Int)<=1440 by omega) (.inr (.inr ⟨i,rfl,by omega,by omega⟩)) rfl
theorem l1 {α:Type} {l:List α} (h:l.length=1):∃ a,l=[a]:=by
 match l,h with
 | [a],_=>exact ⟨a,rfl⟩
theorem l2 {α:Type} {l:List α} (h:l.length=2):∃ a c,l=[a,c]:=by
 match l,h with
 | [a,c],_=>exact ⟨a,c,rfl⟩
theorem l3 {α:Type} {l:List α} (h:l.length=3):∃ a c d,l=[a,c,d]:=by
 match l,h with
 | [a,c,d],_=>exact ⟨a,c,d,rfl⟩
theorem l4 {α:Type} {l:List α} (h:l.length=4):∃ a c d e,l=[a,c,d,e]:=by
 match l,h with
 | [a,c,d,e],_=>exact ⟨a,c,d,e,rfl⟩
theorem l5 {α:Type} {l:List α} (h:l.length=5):∃ a c d e g,l=[a,c,d,e,g]:=by
 match l,h with
 | [a,c,d,e,g],_=>exact ⟨a,c,d,e,g,rfl⟩
theorem l0 {α:Type} {l:List α} (h:l.length=0):l=[]:=List.eq_nil_of_length_eq_zero h
theorem Ok.all (hs:St o s) {n:Int} {pl:List Int} {rows:List (List Int)} (n0:0<=n) (n17:n<=17) (hp:pl.length=(Mi.cj n).length) (hr:rows.length=(Mi.gk n).length):Ok s ((n::pl)::rows) (Mi.answer o n pl rows):=by
 have cs:n=0\/n=1\/n=2\/n=3\/n=4\/n=5\/n=6\/n=7\/n=8\/n=9\/n=10\/n=11\/n=12\/n=13\/n=14\/n=15\/n=16\/n=17:=by omega
 rcases cs with rfl | rfl | rfl | rfl | rfl | rfl | rfl | rfl | rfl | rfl | rfl | rfl | rfl | rfl | rfl | rfl | rfl | rfl
 ·obtain ⟨a,c,d,rfl⟩:=l3 hp
  obtain ⟨a',c',d',e',g',rfl⟩:=l5 hr
  exact Ok.fleet hs
 ·obtain ⟨a,c,d,e,rfl⟩:=l4 hp;rw [l0 hr];exact Ok.c1 hs a c d e
 ·obtain ⟨a,c,d,e,rfl⟩:=l4 hp;rw [l0 hr];exact Ok.c2 hs a c d e
 ·obtain ⟨a,rfl⟩:=l1 hp;rw [l0 hr];exact Ok.c3 hs a
 ·obtain ⟨a,rfl⟩:=l1 hp;rw [l0 hr];exact Ok.c4 hs a
 ·obtain ⟨a,rfl⟩:=l1 hp;rw [l0 hr];exact Ok.c5 hs a
 ·obtain ⟨a,rfl⟩:=l1 hp;rw [l0 hr];exact Ok.c6 hs a
 ·obtain ⟨a,rfl⟩:=l1 hp;rw [l0 hr];exact Ok.c7 hs a
 ·obtain ⟨a,rfl⟩:=l1 hp;rw [l0 hr];exact Ok.c8 hs a
 ·obtain ⟨a,rfl⟩:=l1 hp;rw [l0 hr];exact Ok.c9 hs a
 ·rw [l0 hp,l0 hr];exact Ok.c10 hs
 ·rw [l0 hp,l0 hr];exact Ok.c11 hs
 ·obtain ⟨a,rfl⟩:=l1 hp;rw [l0 hr];exact Ok.c12 hs a
 ·obtain ⟨l,rfl⟩:=l1 hr;rw [l0 hp];exact Ok.c13 hs l
 ·obtain ⟨a,c,rfl⟩:=l2 hp;rw [l0 hr];exact Ok.c14 hs a c
 ·obtain ⟨a,rfl⟩:=l1 hp;rw [l0 hr];exact Ok.c15 hs a
 ·obtain ⟨a,rfl⟩:=l1 hp;rw [l0 hr];exact Ok.c16 hs a
 ·rw [l0 hp,l0 hr];exact Ok.c17 hs
end
end Si
namespace Si
open Vbmiaj (State)
open Mi (Flt WF WI aa ai bz ak)
section
variable {f:Flt} {m:Nat}
theorem ve (l:List Int):∀ n k,(Mi.fH f l n k).length<=3
 | 0,_=>by simp [Mi.fH]
 | n+1,k=>by
   unfold Mi.fH
   split
   ·simp
   ·exact ve l n (k+1)
theorem v9 (w:Int):∀ k n,(Mi.dQ f w k n).length<=3
 | 0,_=>by simp [Mi.dQ]
 | k+1,n=>by
   unfold Mi.dQ
   simp only
   split
   ·simp
   ·exact v9 w k (n+1)
theorem sM:∀ (l:List (List Int)),(∀ u ∈ l,u.length=6)->l.flatten.length=6*l.length
 | [],_=>rfl
 | a::l,h=>by
   rw [List.flatten_cons,List.length_append,sM l (fun u hu=>h u (by simp [hu])),h a (by simp),List.length_cons];omega
theorem z7:∀ (l:List Mi.Blk),(l.flatMap fun c=>[c.number,c.bU,c.tipped,c.place]).length=4*l.length
 | []=>rfl
 | a::l=>by
   rw [List.flatMap_cons,List.length_append,z7 l,List.length_cons];simp;omega
theorem fm {P:List Int->Prop} {c:Int×List Int} {a1 a2 a3 a4 a5 a6:Int->List Int} {a7 a8:Unit->List Int} {a9:Int->List Int} {a10:Unit->List Int} {b1:Int->Int->List Int} {b2 b3:Int->List Int} {b4:Unit->List Int} {b5:Int×List Int->List Int}
  (p1:∀ t,P (a1 t)) (p2:∀ t,P (a2 t)) (p3:∀ t,P (a3 t)) (p4:∀ t,P (a4 t)) (p5:∀ t,P (a5 t)) (p6:∀ t,P (a6 t)) (p7:∀ t,P (a7 t)) (p8:∀ t,P (a8 t)) (p9:∀ t,P (a9 t)) (q0:∀ t,P (a10 t)) (q1:∀ t u,P (b1 t u)) (q2:∀ t,P (b2 t)) (q3:∀ t,P (b3 t)) (q4:∀ t,P (b4 t)) (q5:∀ t,P (b5 t)):
  P (Mi.fI.match_2 (fun _=>List Int) c a1 a2 a3 a4 a5 a6 a7 a8 a9 a10 b1 b2 b3 b4 b5):=by
 rcases c with ⟨n,l⟩
 by_cases h:4<=n/\n<=17
 ·obtain ⟨k,rfl⟩:=Int.eq_ofNat_of_zero_le (Int.le_trans (by decide) h.1)
  iterate 18 (rcases k with _|k;focus (first | omega | rcases l with _|⟨_,_|⟨_,_|⟨_,l⟩⟩⟩<;>first | exact q5 _ | exact p1 _ | exact p2 _ | exact p3 _ | exact p4 _ | exact p5 _ | exact p6 _ | exact p7 _ | exact p8 _ | exact p9 _ | exact q0 _ | exact q1 _ _ | exact q2 _ | exact q3 _ | exact q4 _))
  omega
 ·delta Mi.fI.match_2
  iterate 14 refine Eq.mpr (congrArg P (dif_neg (by omega))) ?_
  exact q5 _
theorem wG (W:WF m f) (c:Int×List Int) (rows:List (List Int)):(Mi.fI f c rows).length<=400:=by
 unfold Mi.fI
 refine fm (P:=fun l=>l.length<=400) (fun _=>?_) (fun s=>?_) (fun _=>?_) (fun kk=>?_) (fun t=>?_) (fun s=>?_) (fun _=>?_) (fun _=>?_) (fun _=>?_) (fun _=>?_) (fun _ _=>?_) (fun _=>?_) (fun _=>?_) (fun _=>?_) (fun _=>?_)
 ·split
  ·simp
  ·simp only [List.length_append,List.length_cons,List.length_nil,Mi.iD];omega
 ·split
  ·simp
  ·have s1:=W.s1
   have b20:=W.b20
   have:=(W.ai (i:=(s - 1).toNat) (by omega)).len
   simp only [List.length_append,List.length_cons,List.length_nil,List.length_map];omega
 ·split<;>simp
 ·have:=sM ((f.book.drop kk.toNat).take 50) (fun u hu=>W.ln u (List.mem_of_mem_drop (List.mem_of_mem_take hu)))
  rw [List.length_cons,this,List.length_take];omega
 ·split
  ·simp
  ·have t1:=W.t1
   have:=(W.aa (i:=(t - 1).toNat) (by omega)).cnt
   rw [List.length_cons,this];omega
 ·split
  ·simp
  ·have s1:=W.s1
   have:=(W.ai (i:=(s - 1).toNat) (by omega)).cnt
   rw [List.length_cons,this];omega
 ·simp
 ·have b20:=W.b20
  rw [List.length_cons,z7];omega
 ·split<;>simp
 ·split
  ·split
   ·simp
   ·exact Nat.le_trans (ve _ _ _) (by decide)
  ·simp
 ·simp [Mi.outcome]
 ·exact Nat.le_trans (v9 _ _ _) (by decide)
 ·unfold Mi.ahead
  split<;>simp [Mi.outcome]
 ·simp
 ·simp
theorem vn (c:Int×List Int):(Mi.tell f c).2.length<=400:=by
 show (Mi.dU f c).2.length<=400
 unfold Mi.dU
 split
 ·unfold Mi.du
  split
  ·simp
  ·split
   ·simp
   ·split<;>simp
 ·unfold Mi.dJ
  split
  ·simp
  ·split
   ·simp
   ·split<;>simp
 ·unfold Mi.fD
  split<;>simp
 ·simp
theorem yO {o:Option Flt} (h:∀ f,o=some f->∃ m,WF m f) (n:Int) (pl:List Int) (rows:List (List Int)):(Mi.answer o n pl rows).2.length<=400:=by
 unfold Mi.answer
 split
 ·simp
 ·split
  ·unfold Mi.iF
   split
   ·split<;>simp
   ·simp
  ·split
   ·simp
   ·rename_i f
    obtain ⟨m,W⟩:=h f rfl
    split
    ·exact vn _
    ·exact wG W _ _
end
theorem St.wf {o:Option Flt} {s:State} (h:St o s):∀ f,o=some f->∃ m,WF m f:=fun f e=>by
 subst e
 obtain ⟨F,r0,r1,r2,r3,r4,_,B,t1,t2,hh⟩:=h
 exact ⟨_,(hh.facts B t1 t2).wi.w⟩
theorem wH {n:Int} {a c:Nat} (h:PyVbmiaj.shape n=some (a,c)):0<=n/\n<=17/\a=(Mi.cj n).length/\c=(Mi.gk n).length:=by
 have key:∀ k:Int,0<=k->k<=17->PyVbmiaj.shape k=some ((Mi.cj k).length,(Mi.gk k).length):=fun k k0 k1=>by
  have cs:k=0\/k=1\/k=2\/k=3\/k=4\/k=5\/k=6\/k=7\/k=8\/k=9\/k=10\/k=11\/k=12\/k=13\/k=14\/k=15\/k=16\/k=17:=by omega
  rcases cs with rfl | rfl | rfl | rfl | rfl | rfl | rfl | rfl | rfl | rfl | rfl | rfl | rfl | rfl | rfl | rfl | rfl | rfl<;>rfl
 by_cases r:0<=n/\n<=17
 ·rw [key n r.1 r.2] at h
  injection h with h;injection h with h1 h2
  exact ⟨r.1,r.2,h1.symm,h2.symm⟩
 ·exfalso
  unfold PyVbmiaj.shape at h
  iterate 18 rw [if_neg (by omega)] at h
  cases h
theorem drop_cons {ns:List Int} {i:Nat} {p:Int} {r:List Int} (h:ns.drop i=p::r):ns[i]? = some p/\r=ns.drop (i+1)/\i < ns.length:=by
 have hi:i < ns.length:=by
  have:=congrArg List.length h
  rw [List.length_drop,List.length_cons] at this;omega
 rw [List.drop_eq_getElem_cons hi] at h
 injection h with h1 h2
 exact ⟨by rw [List.getElem?_eq_getElem hi,h1],h2.symm,hi⟩
theorem uB {ns:List Int}:∀ (k i:Nat) (xs:List (List Int)) (t:List Int),PyFlat.rows k (ns.drop i)=some (xs,t)->∃ j,Ms.RR ns i k xs j/\t=ns.drop j
 | 0,i,xs,t,h=>by
   cases h
   exact ⟨i,.nil i,rfl⟩
 | k+1,i,xs,t,h=>by
   unfold PyFlat.rows at h
   cases hr:PyFlat.row (ns.drop i) with
   | none=>rw [hr] at h;cases h
   | some y=>
     obtain ⟨x,s⟩:=y
     rw [hr] at h
     simp only at h
     cases hq:PyFlat.rows k s with
     | none=>rw [hq] at h;cases h
     | some z=>
       obtain ⟨ys,u⟩:=z
       rw [hq] at h
       cases h
       cases hd:ns.drop i with
       | nil=>rw [hd] at hr;cases hr
       | cons p r=>
         obtain ⟨d1,d2,d3⟩:=drop_cons hd
         rw [hd] at hr
         unfold PyFlat.row at hr
         simp only at hr
         by_cases c:0<=p/\p.toNat<=r.length
         ·rw [if_pos c] at hr
          cases hr
          have e:r.drop p.toNat=ns.drop (i+1+p.toNat):=by rw [d2,List.drop_drop]
          rw [e] at hq
          obtain ⟨j,j1,j2⟩:=uB k _ _ _ hq
          refine ⟨j,?_,j2⟩
          rw [d2]
          have le:i+1+p.toNat<=ns.length:=by
           have:=c.2
           rw [d2,List.length_drop] at this;omega
          exact .cons (by rw [d1,Int.toNat_of_nonneg c.1]) le j1
         ·rw [if_neg c] at hr;cases hr
noncomputable def toC (c:Int×List Int×List (List Int)):List (List Int):=(c.1::c.2.1)::c.2.2
theorem call_of {ns:List Int} {i:Nat} {c:List (List Int)} {t:List Int} (h:PyFlat.call PyVbmiaj.shape (ns.drop i)=some (c,t)):∃ n pl rows j,c=toC (n,pl,rows)/\Ms.Parse ns i n pl rows j/\t=ns.drop j:=by
 cases hd:ns.drop i with
 | nil=>rw [hd] at h;cases h
 | cons p r=>
   obtain ⟨d1,d2,d3⟩:=drop_cons hd
   rw [hd] at h
   unfold PyFlat.call at h
   simp only at h
   cases hs:PyVbmiaj.shape p with
   | none=>rw [hs] at h;cases h
   | some y=>
     obtain ⟨a,k⟩:=y
     rw [hs] at h
     simp only at h
     obtain ⟨p0,p17,ea,ek⟩:=wH hs
     by_cases l:r.length < a
     ·rw [if_pos l] at h;cases h
     ·rw [if_neg l] at h
      cases hr:PyFlat.rows k (r.drop a) with
      | none=>rw [hr] at h;cases h
      | some z=>
        obtain ⟨xs,u⟩:=z
        rw [hr] at h
        cases h
        have e:r.drop a=ns.drop (i+1+a):=by rw [d2,List.drop_drop]
        rw [e] at hr
        obtain ⟨j,j1,j2⟩:=uB k _ _ _ hr
        rw [ek] at j1
        refine ⟨p,r.take a,xs,j,rfl,⟨d1,p0,p17,by rw [d2,ea],?_,by rw [<-ea];exact j1⟩,j2⟩
        rw [d2,List.length_drop] at l
        rw [<-ea];omega
theorem xP {ns:List Int}:∀ (fu i:Nat) (cs:List (List (List Int))),i<=ns.length->PyFlat.calls PyVbmiaj.shape fu (ns.drop i)=some cs->∃ ps,Ms.sY ns i ps/\cs=ps.map toC:=by
 intro fu
 induction fu with
 | zero=>
   intro i cs hi h
   cases hd:ns.drop i with
   | nil=>
     rw [hd] at h
     have:i=ns.length:=by
      have:=congrArg List.length hd
      rw [List.length_drop,List.length_nil] at this;omega
     subst this
     cases h
     exact ⟨[],.nil,rfl⟩
   | cons p r=>rw [hd] at h;cases h
 | succ fu ih=>
   intro i cs hi h
   cases hd:ns.drop i with
   | nil=>
     rw [hd] at h
     have:i=ns.length:=by
      have:=congrArg List.length hd
      rw [List.length_drop,List.length_nil] at this;omega
     subst this
     cases h
     exact ⟨[],.nil,rfl⟩
   | cons p r=>
     rw [hd] at h
     unfold PyFlat.calls at h
     rw [<-hd] at h
     cases hc:PyFlat.call PyVbmiaj.shape (ns.drop i) with
     | none=>rw [hc] at h;cases h
     | some y=>
       obtain ⟨c,t⟩:=y
       rw [hc] at h
       simp only at h
       obtain ⟨n,pl,rows,j,e1,e2,e3⟩:=call_of hc
       cases hq:PyFlat.calls PyVbmiaj.shape fu t with
       | none=>rw [hq] at h;cases h
       | some ds=>
         rw [hq] at h
         cases h
         rw [e3] at hq
         have jl:j<=ns.length:=e2.rows.le e2.le
         obtain ⟨ps,q1,q2⟩:=ih j ds jl hq
         exact ⟨(n,pl,rows)::ps,.cons e2 q1,by rw [List.map_cons,<-q2,e1]⟩
theorem wm (c:List (List Int)):PyVbmiaj.whole c=c:=by
 rcases c with _|⟨_|⟨n,l⟩,t⟩
 ·rfl
 ·rfl
 by_cases h:0<=n/\n<=17
 ·obtain ⟨k,rfl⟩:=Int.eq_ofNat_of_zero_le h.1
  have:k < 18:=by omega
  clear h
  iterate 18 (rcases k with _|k;focus (clear this;repeat' first | rfl | (rcases l with _|⟨_,l⟩) | (rcases t with _|⟨_,t⟩)))
  omega
 ·delta PyVbmiaj.whole PyVbmiaj.whole.match_1
  iterate 18 refine (dif_neg (by omega)).trans ?_
  rfl
theorem uy {ns:List Int}:∀ (ps:List (Int×List Int×List (List Int))) (i:Nat) (o:Option Flt) (s:State),Ms.sY ns i ps->St o s->
  PyFlat.told (PyFlat.played VbmiajNeutral.step s (ps.map toC))=Ms.gI o ps/\(Ms.gI o ps).length<=401*ps.length
 | [],_,_,_,_,_=>⟨rfl,Nat.le_refl _⟩
 | (n,pl,rows)::ps,i,o,s,hp,hs=>by
   cases hp with
   | @cons _ j _ _ _ _ h1 h2=>
     obtain ⟨k1,k2⟩:=Ok.all hs h1.n0 h1.n17 h1.zI h1.rows.facts.1
     obtain ⟨ih1,ih2⟩:=uy ps j _ _ h2 k1
     have ln:=yO hs.wf n pl rows
     constructor
     ·show (((VbmiajNeutral.step s (toC (n,pl,rows))).2.length:Int)::(VbmiajNeutral.step s (toC (n,pl,rows))).2)++PyFlat.told (PyFlat.played VbmiajNeutral.step (VbmiajNeutral.step s (toC (n,pl,rows))).1 (ps.map toC))=_
      have e:VbmiajNeutral.step s (toC (n,pl,rows))=Vbmiaj.stepRows s ((n::pl)::rows):=rfl
      rw [e,<-k2,ih1];rfl
     ·show (((Mi.answer o n pl rows).2.length:Int)::(Mi.answer o n pl rows).2++Ms.gI (Mi.answer o n pl rows).1 ps).length<=_
      rw [List.length_append,List.length_cons,List.length_cons,Nat.mul_succ];omega
theorem yG {ns:List Int} (h:PyVbmiaj.answers_asked ns=true):∃ ps,Ms.sY ns 0 ps/\ps.length<=400/\PyVbmiaj.answers ns=Ms.gI none ps/\(Ms.gI none ps).length<=160400:=by
 unfold PyVbmiaj.answers_asked at h
 unfold PyVbmiaj.answers
 unfold PyVbmiaj.calls at h ⊢
 cases hc:PyFlat.calls PyVbmiaj.shape ns.length ns with
 | none=>rw [hc] at h;cases h
 | some cs=>
   rw [hc] at h
   simp only at h ⊢
   have e:cs.map PyVbmiaj.whole=cs:=by
    have:PyVbmiaj.whole=id:=funext wm
    rw [this,List.map_id]
   rw [e] at h ⊢
   rw [Bool.and_eq_true] at h
   have l:cs.length<=400:=of_decide_eq_true h.1
   obtain ⟨ps,p1,p2⟩:=xP ns.length 0 cs (Nat.zero_le _) hc
   subst p2
   rw [List.length_map] at l
   obtain ⟨q1,q2⟩:=uy ps 0 none Vbmiaj.start p1 rfl
   exact ⟨ps,p1,l,q1,by omega⟩
end Si
namespace Ms
open PySem PySem.Spec PyProof.Rows L2
section
variable {K:PySem.W.Frag} {hp:Heap}
theorem Ba (X0:K.In hp) {x qual:Str} {st:Stmt} {a:Addr} {oc:Value} {od an:Option Addr} {osl:Array (Option Value)} {kV doc pm cdv ct:Value} (h:PySem.W.nsIn K mainGlobals x=some (some (.ref a))) (l:K.lookup a=some ⟨oc,od,.func (PySem.W.fnOf x qual (eR st) (eu st) (ao st) .none kV doc pm an cdv ct),osl⟩)
  (c:PySem.W.codeIn K cdv qual=true) (k:PySem.W.keepIn K (.ref a)=true):∃ a fd,PySem.W.nsIn K mainGlobals x=some (some (.ref a))/\Fun K x qual st a fd:=⟨a,_,h,gw l c k⟩
theorem tf (X0:K.In hp) {x:Str} {st:Stmt} {a:Addr} {oc:Value} {od an:Option Addr} {osl:Array (Option Value)} {kV doc pm cdv ct:Value} (h:PySem.W.nsIn K mainGlobals x=some (some (.ref a))) (l:K.lookup a=some ⟨oc,od,.func (PySem.W.fnOf x x (eR st) (eu st) (ao st) .none kV doc pm an cdv ct),osl⟩)
  (c:PySem.W.codeIn K cdv x=true) (k:PySem.W.keepIn K (.ref a)=true):∃ a fd,PySem.W.nsIn K mainGlobals x=some (some (.ref a))/\Fun K x x st a fd:=⟨a,_,h,gw l c k⟩
theorem dw {h:Heap} {mg:Str->Option Value} {x:Str} {v:Int} {t:Tok} (X:K.In h) (G:h.Ns mainGlobals mg) (e:PySem.W.nsIn K mainGlobals x=some (some (.int v t))):∃ t,mg x=some (.int v t):=⟨t,PySem.W.mg_of X G e⟩
theorem na0 {C:Addr}:∀ f:Str,([]:List Str).contains f=true->dW K C f:=fun f h=>by simp at h
theorem na1 {C:Addr} {x:Str} {l:List Str} (h:PySem.W.findIn K (.ref C) x=some none) (hs:∀ f:Str,l.contains f=true->dW K C f):∀ f:Str,(x::l).contains f=true->dW K C f:=fun f hf=>by
 by_cases e:f=x
 ·subst e;exact h
 ·refine hs f ?_
  simp only [List.contains_cons,Bool.or_eq_true,beq_iff_eq] at hf
  exact hf.resolve_left e
theorem vV:∀ (l:List Int) (us:List Value),Paired (fun (i:Int) (u:Value)=>∃ t,u=.int i t) l us->Vals (l.map V.int) us
 | _,_,.nil=>.nil
 | _,_,.cons h r=>.cons h (vV _ _ r)
theorem jq {a:Addr} {o:Option Addr} {its:Array Value} {n:Nat} {sl:Array (Option Value)} {xs:List V} (l:K.lookup a=some ⟨.type "tuple",o,.seq its n,sl⟩) (z:its.size<=sizeLine) (v:Vals xs its.toList):fC K a xs:=fun H=>.inr ⟨_,its,n,l,rfl,rfl,z,v⟩
theorem xZ {a:Addr} {o:Option Addr} {n:Nat} {sl:Array (Option Value)} (l:K.lookup a=some ⟨.type "tuple",o,.seq #[] n,sl⟩):fC K a []:=jq l (by decide) .nil
theorem jV {a b0:Addr} {o:Option Addr} {n:Nat} {sl:Array (Option Value)} (l:K.lookup a=some ⟨.type "tuple",o,.seq #[.ref b0] n,sl⟩):fC K a ([b0].map V.ref):=jq l (by show 1<=sizeLine;decide) (.cons rfl .nil)
theorem Aj {a b0 b1:Addr} {o:Option Addr} {n:Nat} {sl:Array (Option Value)} (l:K.lookup a=some ⟨.type "tuple",o,.seq #[.ref b0,.ref b1] n,sl⟩):fC K a ([b0,b1].map V.ref):=jq l (by show 2<=sizeLine;decide) (.cons rfl (.cons rfl .nil))
theorem Ai {a b0 b1 b2:Addr} {o:Option Addr} {n:Nat} {sl:Array (Option Value)} (l:K.lookup a=some ⟨.type "tuple",o,.seq #[.ref b0,.ref b1,.ref b2] n,sl⟩):fC K a ([b0,b1,b2].map V.ref):=jq l (by show 3<=sizeLine;decide) (.cons rfl (.cons rfl (.cons rfl .nil)))
theorem yR {a b0 b1 b2 b3:Addr} {o:Option Addr} {n:Nat} {sl:Array (Option Value)} (l:K.lookup a=some ⟨.type "tuple",o,.seq #[.ref b0,.ref b1,.ref b2,.ref b3] n,sl⟩):fC K a ([b0,b1,b2,b3].map V.ref):=jq l (by show 4<=sizeLine;decide) (.cons rfl (.cons rfl (.cons rfl (.cons rfl .nil))))
theorem Ah {a b0 b1 b2 b3 b4:Addr} {o:Option Addr} {n:Nat} {sl:Array (Option Value)} (l:K.lookup a=some ⟨.type "tuple",o,.seq #[.ref b0,.ref b1,.ref b2,.ref b3,.ref b4] n,sl⟩):fC K a ([b0,b1,b2,b3,b4].map V.ref):=jq l (by show 5<=sizeLine;decide) (.cons rfl (.cons rfl (.cons rfl (.cons rfl (.cons rfl .nil)))))
theorem fL {a:Addr} {b0 b1:Int} {t0 t1:Tok} {o:Option Addr} {n:Nat} {sl:Array (Option Value)} (l:K.lookup a=some ⟨.type "tuple",o,.seq #[.int b0 t0,.int b1 t1] n,sl⟩):fC K a [.int b0,.int b1]:=jq l (by show 2<=sizeLine;decide) (.cons ⟨_,rfl⟩ (.cons ⟨_,rfl⟩ .nil))
theorem Ag (X0:K.In hp) {x:Str} {a:Addr} {b0 b1:Int} {t0 t1:Tok} {o:Option Addr} {n:Nat} {sl:Array (Option Value)} (h:PySem.W.nsIn K mainGlobals x=some (some (.ref a))) (l:K.lookup a=some ⟨.type "tuple",o,.seq #[.int b0 t0,.int b1 t1] n,sl⟩):∃ a,PySem.W.nsIn K mainGlobals x=some (some (.ref a))/\fC K a [.int b0,.int b1]:=⟨a,h,fL l⟩
theorem Ak {a:Addr} {b0 b1 b2:Int} {t0 t1 t2:Tok} {o:Option Addr} {n:Nat} {sl:Array (Option Value)} (l:K.lookup a=some ⟨.type "tuple",o,.seq #[.int b0 t0,.int b1 t1,.int b2 t2] n,sl⟩):fC K a [.int b0,.int b1,.int b2]:=jq l (by show 3<=sizeLine;decide) (.cons ⟨_,rfl⟩ (.cons ⟨_,rfl⟩ (.cons ⟨_,rfl⟩ .nil)))
theorem wt (X0:K.In hp) {x:Str} {a:Addr} {b0 b1 b2:Int} {t0 t1 t2:Tok} {o:Option Addr} {n:Nat} {sl:Array (Option Value)} (h:PySem.W.nsIn K mainGlobals x=some (some (.ref a))) (l:K.lookup a=some ⟨.type "tuple",o,.seq #[.int b0 t0,.int b1 t1,.int b2 t2] n,sl⟩):∃ a,PySem.W.nsIn K mainGlobals x=some (some (.ref a))/\fC K a [.int b0,.int b1,.int b2]:=⟨a,h,Ak l⟩
theorem nT {a:Addr} {b0 b1 b2 b3:Int} {t0 t1 t2 t3:Tok} {o:Option Addr} {n:Nat} {sl:Array (Option Value)} (l:K.lookup a=some ⟨.type "tuple",o,.seq #[.int b0 t0,.int b1 t1,.int b2 t2,.int b3 t3] n,sl⟩):fC K a [.int b0,.int b1,.int b2,.int b3]:=jq l (by show 4<=sizeLine;decide) (.cons ⟨_,rfl⟩ (.cons ⟨_,rfl⟩ (.cons ⟨_,rfl⟩ (.cons ⟨_,rfl⟩ .nil))))
theorem Af (X0:K.In hp) {x:Str} {a:Addr} {b0 b1 b2 b3:Int} {t0 t1 t2 t3:Tok} {o:Option Addr} {n:Nat} {sl:Array (Option Value)} (h:PySem.W.nsIn K mainGlobals x=some (some (.ref a))) (l:K.lookup a=some ⟨.type "tuple",o,.seq #[.int b0 t0,.int b1 t1,.int b2 t2,.int b3 t3] n,sl⟩):∃ a,PySem.W.nsIn K mainGlobals x=some (some (.ref a))/\fC K a [.int b0,.int b1,.int b2,.int b3]:=⟨a,h,nT l⟩
theorem sy {a:Addr} {es:Array DictEntry} {n:Nat} {tb:List (Int×V)} (l:K.lookup a=some ⟨.type "dict",none,.dict es n,#[]⟩) (s:(a==sysModules)=false) (p:Paired (fun (p:Int×V) (q:DictEntry)=>q.hash=hashInt p.1/\(∃ t,q.key=.int p.1 t)/\RelV p.2 q.val) tb es.toList) (d:(tb.map (·.1)).Nodup):iS K a tb:=⟨_,es,n,l,⟨rfl,rfl,rfl⟩,rfl,s,p,d⟩
theorem pN (X0:K.In hp) {a b0 b1 b2:Addr} {t0 t1 t2:Tok} {n:Nat} (h:PySem.W.nsIn K mainGlobals "TELLINGS" = some (some (.ref a))) (l:K.lookup a=some ⟨.type "dict",none,.dict #[⟨hashInt 1,.int 1 t0,.ref b0⟩,⟨hashInt 2,.int 2 t1,.ref b1⟩,⟨hashInt 3,.int 3 t2,.ref b2⟩] n,#[]⟩) (s:(a==sysModules)=false)
  (h0:PySem.W.nsIn K mainGlobals "tell_block" = some (some (.ref b0))) (h1:PySem.W.nsIn K mainGlobals "tell_stop" = some (some (.ref b1))) (h2:PySem.W.nsIn K mainGlobals "run_minutes" = some (some (.ref b2))) :
  ∃ a,PySem.W.nsIn K mainGlobals "TELLINGS" = some (some (.ref a))/\∀ c0 c1 c2:Addr,PySem.W.nsIn K mainGlobals "tell_block" = some (some (.ref c0))->PySem.W.nsIn K mainGlobals "tell_stop" = some (some (.ref c1))->PySem.W.nsIn K mainGlobals "run_minutes" = some (some (.ref c2))->iS K a [(1,.ref c0),(2,.ref c1),(3,.ref c2)]:=by
 refine ⟨a,h,fun c0 c1 c2 g0 g1 g2=>?_⟩
 cases h0.symm.trans g0
 cases h1.symm.trans g1
 cases h2.symm.trans g2
 exact sy l s (.cons ⟨rfl,⟨_,rfl⟩,rfl⟩ (.cons ⟨rfl,⟨_,rfl⟩,rfl⟩ (.cons ⟨rfl,⟨_,rfl⟩,rfl⟩ .nil))) (by show ([1,2,3]:List Int).Nodup;decide)
theorem r6 (X0:K.In hp) {a b0 b1 b2:Addr} {t0 t1 t2:Tok} {n:Nat} (h:PySem.W.nsIn K mainGlobals "REPLAYS" = some (some (.ref a))) (l:K.lookup a=some ⟨.type "dict",none,.dict #[⟨hashInt 14,.int 14 t0,.ref b0⟩,⟨hashInt 15,.int 15 t1,.ref b1⟩,⟨hashInt 16,.int 16 t2,.ref b2⟩] n,#[]⟩) (s:(a==sysModules)=false)
  (h0:PySem.W.nsIn K mainGlobals "other_shift" = some (some (.ref b0))) (h1:PySem.W.nsIn K mainGlobals "fewest_trucks" = some (some (.ref b1))) (h2:PySem.W.nsIn K mainGlobals "look_ahead" = some (some (.ref b2))) :
  ∃ a,PySem.W.nsIn K mainGlobals "REPLAYS" = some (some (.ref a))/\∀ c0 c1 c2:Addr,PySem.W.nsIn K mainGlobals "other_shift" = some (some (.ref c0))->PySem.W.nsIn K mainGlobals "fewest_trucks" = some (some (.ref c1))->PySem.W.nsIn K mainGlobals "look_ahead" = some (some (.ref c2))->iS K a [(14,.ref c0),(15,.ref c1),(16,.ref c2)]:=by
 refine ⟨a,h,fun c0 c1 c2 g0 g1 g2=>?_⟩
 cases h0.symm.trans g0
 cases h1.symm.trans g1
 cases h2.symm.trans g2
 exact sy l s (.cons ⟨rfl,⟨_,rfl⟩,rfl⟩ (.cons ⟨rfl,⟨_,rfl⟩,rfl⟩ (.cons ⟨rfl,⟨_,rfl⟩,rfl⟩ .nil))) (by show ([14,15,16]:List Int).Nodup;decide)
theorem uj (X0:K.In hp) {a b0 b1 b2 b3 b4 b5 b6 b7 b8 b9 b10:Addr} {t0 t1 t2 t3 t4 t5 t6 t7 t8 t9 t10:Tok} {n:Nat} (h:PySem.W.nsIn K mainGlobals "VIEWS" = some (some (.ref a))) (l:K.lookup a=some ⟨.type "dict",none,.dict #[⟨hashInt 4,.int 4 t0,.ref b0⟩,⟨hashInt 5,.int 5 t1,.ref b1⟩,⟨hashInt 6,.int 6 t2,.ref b2⟩,⟨hashInt 7,.int 7 t3,.ref b3⟩,⟨hashInt 8,.int 8 t4,.ref b4⟩,⟨hashInt 9,.int 9 t5,.ref b5⟩,⟨hashInt 10,.int 10 t6,.ref b6⟩,⟨hashInt 11,.int 11 t7,.ref b7⟩,⟨hashInt 12,.int 12 t8,.ref b8⟩,⟨hashInt 13,.int 13 t9,.ref b9⟩,⟨hashInt 17,.int 17 t10,.ref b10⟩] n,#[]⟩) (s:(a==sysModules)=false)
  (h0:PySem.W.nsIn K mainGlobals "show_truck" = some (some (.ref b0))) (h1:PySem.W.nsIn K mainGlobals "show_shovel" = some (some (.ref b1))) (h2:PySem.W.nsIn K mainGlobals "show_place" = some (some (.ref b2))) (h3:PySem.W.nsIn K mainGlobals "show_book" = some (some (.ref b3))) (h4:PySem.W.nsIn K mainGlobals "show_minutes" = some (some (.ref b4))) (h5:PySem.W.nsIn K mainGlobals "show_work" = some (some (.ref b5))) (h6:PySem.W.nsIn K mainGlobals "show_balance" = some (some (.ref b6))) (h7:PySem.W.nsIn K mainGlobals "show_blocks" = some (some (.ref b7))) (h8:PySem.W.nsIn K mainGlobals "show_next" = some (some (.ref b8))) (h9:PySem.W.nsIn K mainGlobals "check_book" = some (some (.ref b9))) (h10:PySem.W.nsIn K mainGlobals "show_now" = some (some (.ref b10))) :
  ∃ a,PySem.W.nsIn K mainGlobals "VIEWS" = some (some (.ref a))/\∀ c0 c1 c2 c3 c4 c5 c6 c7 c8 c9 c10:Addr,PySem.W.nsIn K mainGlobals "show_truck" = some (some (.ref c0))->PySem.W.nsIn K mainGlobals "show_shovel" = some (some (.ref c1))->PySem.W.nsIn K mainGlobals "show_place" = some (some (.ref c2))->PySem.W.nsIn K mainGlobals "show_book" = some (some (.ref c3))->PySem.W.nsIn K mainGlobals "show_minutes" = some (some (.ref c4))->PySem.W.nsIn K mainGlobals "show_work" = some (some (.ref c5))->PySem.W.nsIn K mainGlobals "show_balance" = some (some (.ref c6))->PySem.W.nsIn K mainGlobals "show_blocks" = some (some (.ref c7))->PySem.W.nsIn K mainGlobals "show_next" = some (some (.ref c8))->PySem.W.nsIn K mainGlobals "check_book" = some (some (.ref c9))->PySem.W.nsIn K mainGlobals "show_now" = some (some (.ref c10))->iS K a [(4,.ref c0),(5,.ref c1),(6,.ref c2),(7,.ref c3),(8,.ref c4),(9,.ref c5),(10,.ref c6),(11,.ref c7),(12,.ref c8),(13,.ref c9),(17,.ref c10)]:=by
 refine ⟨a,h,fun c0 c1 c2 c3 c4 c5 c6 c7 c8 c9 c10 g0 g1 g2 g3 g4 g5 g6 g7 g8 g9 g10=>?_⟩
 cases h0.symm.trans g0
 cases h1.symm.trans g1
 cases h2.symm.trans g2
 cases h3.symm.trans g3
 cases h4.symm.trans g4
 cases h5.symm.trans g5
 cases h6.symm.trans g6
 cases h7.symm.trans g7
 cases h8.symm.trans g8
 cases h9.symm.trans g9
 cases h10.symm.trans g10
 exact sy l s (.cons ⟨rfl,⟨_,rfl⟩,rfl⟩ (.cons ⟨rfl,⟨_,rfl⟩,rfl⟩ (.cons ⟨rfl,⟨_,rfl⟩,rfl⟩ (.cons ⟨rfl,⟨_,rfl⟩,rfl⟩ (.cons ⟨rfl,⟨_,rfl⟩,rfl⟩ (.cons ⟨rfl,⟨_,rfl⟩,rfl⟩ (.cons ⟨rfl,⟨_,rfl⟩,rfl⟩ (.cons ⟨rfl,⟨_,rfl⟩,rfl⟩ (.cons ⟨rfl,⟨_,rfl⟩,rfl⟩ (.cons ⟨rfl,⟨_,rfl⟩,rfl⟩ (.cons ⟨rfl,⟨_,rfl⟩,rfl⟩ .nil))))))))))) (by show ([4,5,6,7,8,9,10,11,12,13,17]:List Int).Nodup;decide)
theorem mB (X0:K.In hp) {a b0 b1 b2 b3 b4 b5 b6 b7 b8 b9 b10 b11 b12 b13 b14 b15 b16 b17 c0_0 c0_1 c0_2 c1_0 c1_1 c1_2 c1_3 c2_0 c2_1 c2_2 c2_3 c3_0 c4_0 c5_0 c6_0 c7_0 c8_0 c9_0 c12_0 c14_0 c14_1 c15_0 c16_0:Addr} {t0 t1 t2 t3 t4 t5 t6 t7 t8 t9 t10 t11 t12 t13 t14 t15 t16 t17 u0_0_0 u0_0_1 u0_1_0 u0_1_1 u0_2_0 u0_2_1 u1_0_0 u1_0_1 u1_1_0 u1_1_1 u1_2_0 u1_2_1 u1_3_0 u1_3_1 u2_0_0 u2_0_1 u2_1_0 u2_1_1 u2_2_0 u2_2_1 u2_3_0 u2_3_1 u3_0_0 u3_0_1 u4_0_0 u4_0_1 u5_0_0 u5_0_1 u6_0_0 u6_0_1 u7_0_0 u7_0_1 u8_0_0 u8_0_1 u9_0_0 u9_0_1 u12_0_0 u12_0_1 u14_0_0 u14_0_1 u14_1_0 u14_1_1 u15_0_0 u15_0_1 u16_0_0 u16_0_1:Tok} {n:Nat} {o0 o1 o2 o3 o4 o5 o6 o7 o8 o9 o10 o11 o12 o13 o14 o15 o16 o17 p0_0 p0_1 p0_2 p1_0 p1_1 p1_2 p1_3 p2_0 p2_1 p2_2 p2_3 p3_0 p4_0 p5_0 p6_0 p7_0 p8_0 p9_0 p12_0 p14_0 p14_1 p15_0 p16_0:Option Addr} {n0 n1 n2 n3 n4 n5 n6 n7 n8 n9 n10 n11 n12 n13 n14 n15 n16 n17 m0_0 m0_1 m0_2 m1_0 m1_1 m1_2 m1_3 m2_0 m2_1 m2_2 m2_3 m3_0 m4_0 m5_0 m6_0 m7_0 m8_0 m9_0 m12_0 m14_0 m14_1 m15_0 m16_0:Nat} {s0 s1 s2 s3 s4 s5 s6 s7 s8 s9 s10 s11 s12 s13 s14 s15 s16 s17 r0_0 r0_1 r0_2 r1_0 r1_1 r1_2 r1_3 r2_0 r2_1 r2_2 r2_3 r3_0 r4_0 r5_0 r6_0 r7_0 r8_0 r9_0 r12_0 r14_0 r14_1 r15_0 r16_0:Array (Option Value)} (h:PySem.W.nsIn K mainGlobals "PLAIN_RANGES" = some (some (.ref a))) (l:K.lookup a=some ⟨.type "dict",none,.dict #[⟨hashInt 0,.int 0 t0,.ref b0⟩,⟨hashInt 1,.int 1 t1,.ref b1⟩,⟨hashInt 2,.int 2 t2,.ref b2⟩,⟨hashInt 3,.int 3 t3,.ref b3⟩,⟨hashInt 4,.int 4 t4,.ref b4⟩,⟨hashInt 5,.int 5 t5,.ref b5⟩,⟨hashInt 6,.int 6 t6,.ref b6⟩,⟨hashInt 7,.int 7 t7,.ref b7⟩,⟨hashInt 8,.int 8 t8,.ref b8⟩,⟨hashInt 9,.int 9 t9,.ref b9⟩,⟨hashInt 10,.int 10 t10,.ref b10⟩,⟨hashInt 11,.int 11 t11,.ref b11⟩,⟨hashInt 12,.int 12 t12,.ref b12⟩,⟨hashInt 13,.int 13 t13,.ref b13⟩,⟨hashInt 14,.int 14 t14,.ref b14⟩,⟨hashInt 15,.int 15 t15,.ref b15⟩,⟨hashInt 16,.int 16 t16,.ref b16⟩,⟨hashInt 17,.int 17 t17,.ref b17⟩] n,#[]⟩) (s:(a==sysModules)=false)
  (l0:K.lookup b0=some ⟨.type "tuple",o0,.seq #[.ref c0_0,.ref c0_1,.ref c0_2] n0,s0⟩)
  (l1:K.lookup b1=some ⟨.type "tuple",o1,.seq #[.ref c1_0,.ref c1_1,.ref c1_2,.ref c1_3] n1,s1⟩)
  (l2:K.lookup b2=some ⟨.type "tuple",o2,.seq #[.ref c2_0,.ref c2_1,.ref c2_2,.ref c2_3] n2,s2⟩)
  (l3:K.lookup b3=some ⟨.type "tuple",o3,.seq #[.ref c3_0] n3,s3⟩)
  (l4:K.lookup b4=some ⟨.type "tuple",o4,.seq #[.ref c4_0] n4,s4⟩)
  (l5:K.lookup b5=some ⟨.type "tuple",o5,.seq #[.ref c5_0] n5,s5⟩)
  (l6:K.lookup b6=some ⟨.type "tuple",o6,.seq #[.ref c6_0] n6,s6⟩)
  (l7:K.lookup b7=some ⟨.type "tuple",o7,.seq #[.ref c7_0] n7,s7⟩)
  (l8:K.lookup b8=some ⟨.type "tuple",o8,.seq #[.ref c8_0] n8,s8⟩)
  (l9:K.lookup b9=some ⟨.type "tuple",o9,.seq #[.ref c9_0] n9,s9⟩)
  (l10:K.lookup b10=some ⟨.type "tuple",o10,.seq #[] n10,s10⟩)
  (l11:K.lookup b11=some ⟨.type "tuple",o11,.seq #[] n11,s11⟩)
  (l12:K.lookup b12=some ⟨.type "tuple",o12,.seq #[.ref c12_0] n12,s12⟩)
  (l13:K.lookup b13=some ⟨.type "tuple",o13,.seq #[] n13,s13⟩)
  (l14:K.lookup b14=some ⟨.type "tuple",o14,.seq #[.ref c14_0,.ref c14_1] n14,s14⟩)
  (l15:K.lookup b15=some ⟨.type "tuple",o15,.seq #[.ref c15_0] n15,s15⟩)
  (l16:K.lookup b16=some ⟨.type "tuple",o16,.seq #[.ref c16_0] n16,s16⟩)
  (l17:K.lookup b17=some ⟨.type "tuple",o17,.seq #[] n17,s17⟩)
  (l0_0:K.lookup c0_0=some ⟨.type "tuple",p0_0,.seq #[.int 1 u0_0_0,.int 8 u0_0_1] m0_0,r0_0⟩)
  (l0_1:K.lookup c0_1=some ⟨.type "tuple",p0_1,.seq #[.int 1 u0_1_0,.int 1000000 u0_1_1] m0_1,r0_1⟩)
  (l0_2:K.lookup c0_2=some ⟨.type "tuple",p0_2,.seq #[.int 0 u0_2_0,.int 2 u0_2_1] m0_2,r0_2⟩)
  (l1_0:K.lookup c1_0=some ⟨.type "tuple",p1_0,.seq #[.int 1 u1_0_0,.int 3 u1_0_1] m1_0,r1_0⟩)
  (l1_1:K.lookup c1_1=some ⟨.type "tuple",p1_1,.seq #[.int 1 u1_1_0,.int 1000000 u1_1_1] m1_1,r1_1⟩)
  (l1_2:K.lookup c1_2=some ⟨.type "tuple",p1_2,.seq #[.int 1 u1_2_0,.int 100000000 u1_2_1] m1_2,r1_2⟩)
  (l1_3:K.lookup c1_3=some ⟨.type "tuple",p1_3,.seq #[.int 1 u1_3_0,.int 3 u1_3_1] m1_3,r1_3⟩)
  (l2_0:K.lookup c2_0=some ⟨.type "tuple",p2_0,.seq #[.int 0 u2_0_0,.int 1 u2_0_1] m2_0,r2_0⟩)
  (l2_1:K.lookup c2_1=some ⟨.type "tuple",p2_1,.seq #[.int 1 u2_1_0,.int 8 u2_1_1] m2_1,r2_1⟩)
  (l2_2:K.lookup c2_2=some ⟨.type "tuple",p2_2,.seq #[.int 0 u2_2_0,.int 1440 u2_2_1] m2_2,r2_2⟩)
  (l2_3:K.lookup c2_3=some ⟨.type "tuple",p2_3,.seq #[.int 1 u2_3_0,.int 1440 u2_3_1] m2_3,r2_3⟩)
  (l3_0:K.lookup c3_0=some ⟨.type "tuple",p3_0,.seq #[.int 1 u3_0_0,.int 1440 u3_0_1] m3_0,r3_0⟩)
  (l4_0:K.lookup c4_0=some ⟨.type "tuple",p4_0,.seq #[.int 1 u4_0_0,.int 8 u4_0_1] m4_0,r4_0⟩)
  (l5_0:K.lookup c5_0=some ⟨.type "tuple",p5_0,.seq #[.int 1 u5_0_0,.int 3 u5_0_1] m5_0,r5_0⟩)
  (l6_0:K.lookup c6_0=some ⟨.type "tuple",p6_0,.seq #[.int 1 u6_0_0,.int 3 u6_0_1] m6_0,r6_0⟩)
  (l7_0:K.lookup c7_0=some ⟨.type "tuple",p7_0,.seq #[.int 0 u7_0_0,.int 1000000 u7_0_1] m7_0,r7_0⟩)
  (l8_0:K.lookup c8_0=some ⟨.type "tuple",p8_0,.seq #[.int 1 u8_0_0,.int 8 u8_0_1] m8_0,r8_0⟩)
  (l9_0:K.lookup c9_0=some ⟨.type "tuple",p9_0,.seq #[.int 1 u9_0_0,.int 3 u9_0_1] m9_0,r9_0⟩)
  (l12_0:K.lookup c12_0=some ⟨.type "tuple",p12_0,.seq #[.int 0 u12_0_0,.int 3 u12_0_1] m12_0,r12_0⟩)
  (l14_0:K.lookup c14_0=some ⟨.type "tuple",p14_0,.seq #[.int 0 u14_0_0,.int 2 u14_0_1] m14_0,r14_0⟩)
  (l14_1:K.lookup c14_1=some ⟨.type "tuple",p14_1,.seq #[.int 1 u14_1_0,.int 8 u14_1_1] m14_1,r14_1⟩)
  (l15_0:K.lookup c15_0=some ⟨.type "tuple",p15_0,.seq #[.int 0 u15_0_0,.int 10000 u15_0_1] m15_0,r15_0⟩)
  (l16_0:K.lookup c16_0=some ⟨.type "tuple",p16_0,.seq #[.int 1 u16_0_0,.int 1440 u16_0_1] m16_0,r16_0⟩)
  : ∃ a,PySem.W.nsIn K mainGlobals "PLAIN_RANGES" = some (some (.ref a))/\∃ tb,iS K a tb/\∀ n:Int,0<=n->n<=17->∃ (a:Addr) (as:List Addr),tb.lookup n=some (.ref a)/\fC K a (as.map V.ref)/\as.length=(Mi.cj n).length/\∀ (j:Nat) (b:Addr) (e:Int×Int),as[j]? = some b->(Mi.cj n)[j]? = some e->fC K b [.int e.1,.int e.2]:=by
 refine ⟨a,h,[(0,.ref b0),(1,.ref b1),(2,.ref b2),(3,.ref b3),(4,.ref b4),(5,.ref b5),(6,.ref b6),(7,.ref b7),(8,.ref b8),(9,.ref b9),(10,.ref b10),(11,.ref b11),(12,.ref b12),(13,.ref b13),(14,.ref b14),(15,.ref b15),(16,.ref b16),(17,.ref b17)],sy l s (.cons ⟨rfl,⟨_,rfl⟩,rfl⟩ (.cons ⟨rfl,⟨_,rfl⟩,rfl⟩ (.cons ⟨rfl,⟨_,rfl⟩,rfl⟩ (.cons ⟨rfl,⟨_,rfl⟩,rfl⟩ (.cons ⟨rfl,⟨_,rfl⟩,rfl⟩ (.cons ⟨rfl,⟨_,rfl⟩,rfl⟩ (.cons ⟨rfl,⟨_,rfl⟩,rfl⟩ (.cons ⟨rfl,⟨_,rfl⟩,rfl⟩ (.cons ⟨rfl,⟨_,rfl⟩,rfl⟩ (.cons ⟨rfl,⟨_,rfl⟩,rfl⟩ (.cons ⟨rfl,⟨_,rfl⟩,rfl⟩ (.cons ⟨rfl,⟨_,rfl⟩,rfl⟩ (.cons ⟨rfl,⟨_,rfl⟩,rfl⟩ (.cons ⟨rfl,⟨_,rfl⟩,rfl⟩ (.cons ⟨rfl,⟨_,rfl⟩,rfl⟩ (.cons ⟨rfl,⟨_,rfl⟩,rfl⟩ (.cons ⟨rfl,⟨_,rfl⟩,rfl⟩ (.cons ⟨rfl,⟨_,rfl⟩,rfl⟩ .nil)))))))))))))))))) (by show ([0,1,2,3,4,5,6,7,8,9,10,11,12,13,14,15,16,17]:List Int).Nodup;decide),fun n n0 n1=>?_⟩
 have cs:n=0\/n=1\/n=2\/n=3\/n=4\/n=5\/n=6\/n=7\/n=8\/n=9\/n=10\/n=11\/n=12\/n=13\/n=14\/n=15\/n=16\/n=17:=by omega
 rcases cs with rfl | rfl | rfl | rfl | rfl | rfl | rfl | rfl | rfl | rfl | rfl | rfl | rfl | rfl | rfl | rfl | rfl | rfl
 ·refine ⟨b0,[c0_0,c0_1,c0_2],rfl,Ai l0,rfl,fun j b e h1 h2=>?_⟩
  match j,h1,h2 with
  | 0,h1,h2=>cases h1;cases h2;exact fL l0_0
  | 1,h1,h2=>cases h1;cases h2;exact fL l0_1
  | 2,h1,h2=>cases h1;cases h2;exact fL l0_2
  | j+3,h1,_=>exact absurd h1 (by simp)
 ·refine ⟨b1,[c1_0,c1_1,c1_2,c1_3],rfl,yR l1,rfl,fun j b e h1 h2=>?_⟩
  match j,h1,h2 with
  | 0,h1,h2=>cases h1;cases h2;exact fL l1_0
  | 1,h1,h2=>cases h1;cases h2;exact fL l1_1
  | 2,h1,h2=>cases h1;cases h2;exact fL l1_2
  | 3,h1,h2=>cases h1;cases h2;exact fL l1_3
  | j+4,h1,_=>exact absurd h1 (by simp)
 ·refine ⟨b2,[c2_0,c2_1,c2_2,c2_3],rfl,yR l2,rfl,fun j b e h1 h2=>?_⟩
  match j,h1,h2 with
  | 0,h1,h2=>cases h1;cases h2;exact fL l2_0
  | 1,h1,h2=>cases h1;cases h2;exact fL l2_1
  | 2,h1,h2=>cases h1;cases h2;exact fL l2_2
  | 3,h1,h2=>cases h1;cases h2;exact fL l2_3
  | j+4,h1,_=>exact absurd h1 (by simp)
 ·refine ⟨b3,[c3_0],rfl,jV l3,rfl,fun j b e h1 h2=>?_⟩
  match j,h1,h2 with
  | 0,h1,h2=>cases h1;cases h2;exact fL l3_0
  | j+1,h1,_=>exact absurd h1 (by simp)
 ·refine ⟨b4,[c4_0],rfl,jV l4,rfl,fun j b e h1 h2=>?_⟩
  match j,h1,h2 with
  | 0,h1,h2=>cases h1;cases h2;exact fL l4_0
  | j+1,h1,_=>exact absurd h1 (by simp)
 ·refine ⟨b5,[c5_0],rfl,jV l5,rfl,fun j b e h1 h2=>?_⟩
  match j,h1,h2 with
  | 0,h1,h2=>cases h1;cases h2;exact fL l5_0
  | j+1,h1,_=>exact absurd h1 (by simp)
 ·refine ⟨b6,[c6_0],rfl,jV l6,rfl,fun j b e h1 h2=>?_⟩
  match j,h1,h2 with
  | 0,h1,h2=>cases h1;cases h2;exact fL l6_0
  | j+1,h1,_=>exact absurd h1 (by simp)
 ·refine ⟨b7,[c7_0],rfl,jV l7,rfl,fun j b e h1 h2=>?_⟩
  match j,h1,h2 with
  | 0,h1,h2=>cases h1;cases h2;exact fL l7_0
  | j+1,h1,_=>exact absurd h1 (by simp)
 ·refine ⟨b8,[c8_0],rfl,jV l8,rfl,fun j b e h1 h2=>?_⟩
  match j,h1,h2 with
  | 0,h1,h2=>cases h1;cases h2;exact fL l8_0
  | j+1,h1,_=>exact absurd h1 (by simp)
 ·refine ⟨b9,[c9_0],rfl,jV l9,rfl,fun j b e h1 h2=>?_⟩
  match j,h1,h2 with
  | 0,h1,h2=>cases h1;cases h2;exact fL l9_0
  | j+1,h1,_=>exact absurd h1 (by simp)
 ·refine ⟨b10,[],rfl,xZ l10,rfl,fun j b e h1 h2=>?_⟩
  match j,h1,h2 with
  | j,h1,_=>exact absurd h1 (by simp)
 ·refine ⟨b11,[],rfl,xZ l11,rfl,fun j b e h1 h2=>?_⟩
  match j,h1,h2 with
  | j,h1,_=>exact absurd h1 (by simp)
 ·refine ⟨b12,[c12_0],rfl,jV l12,rfl,fun j b e h1 h2=>?_⟩
  match j,h1,h2 with
  | 0,h1,h2=>cases h1;cases h2;exact fL l12_0
  | j+1,h1,_=>exact absurd h1 (by simp)
 ·refine ⟨b13,[],rfl,xZ l13,rfl,fun j b e h1 h2=>?_⟩
  match j,h1,h2 with
  | j,h1,_=>exact absurd h1 (by simp)
 ·refine ⟨b14,[c14_0,c14_1],rfl,Aj l14,rfl,fun j b e h1 h2=>?_⟩
  match j,h1,h2 with
  | 0,h1,h2=>cases h1;cases h2;exact fL l14_0
  | 1,h1,h2=>cases h1;cases h2;exact fL l14_1
  | j+2,h1,_=>exact absurd h1 (by simp)
 ·refine ⟨b15,[c15_0],rfl,jV l15,rfl,fun j b e h1 h2=>?_⟩
  match j,h1,h2 with
  | 0,h1,h2=>cases h1;cases h2;exact fL l15_0
  | j+1,h1,_=>exact absurd h1 (by simp)
 ·refine ⟨b16,[c16_0],rfl,jV l16,rfl,fun j b e h1 h2=>?_⟩
  match j,h1,h2 with
  | 0,h1,h2=>cases h1;cases h2;exact fL l16_0
  | j+1,h1,_=>exact absurd h1 (by simp)
 ·refine ⟨b17,[],rfl,xZ l17,rfl,fun j b e h1 h2=>?_⟩
  match j,h1,h2 with
  | j,h1,_=>exact absurd h1 (by simp)
theorem nE (X0:K.In hp) {a b0 b13 c0_0 c0_1 c0_2 c0_3 c0_4 c13_0:Addr} {t0 t13 u0_0_0 u0_0_1 u0_0_2 u0_0_3 u0_1_0 u0_1_1 u0_1_2 u0_1_3 u0_2_0 u0_2_1 u0_2_2 u0_2_3 u0_3_0 u0_3_1 u0_3_2 u0_3_3 u0_4_0 u0_4_1 u0_4_2 u0_4_3 u13_0_0 u13_0_1 u13_0_2 u13_0_3:Tok} {n:Nat} {o0 o13 p0_0 p0_1 p0_2 p0_3 p0_4 p13_0:Option Addr} {n0 n13 m0_0 m0_1 m0_2 m0_3 m0_4 m13_0:Nat} {s0 s13 r0_0 r0_1 r0_2 r0_3 r0_4 r13_0:Array (Option Value)} (h:PySem.W.nsIn K mainGlobals "ROW_RANGES" = some (some (.ref a))) (l:K.lookup a=some ⟨.type "dict",none,.dict #[⟨hashInt 0,.int 0 t0,.ref b0⟩,⟨hashInt 13,.int 13 t13,.ref b13⟩] n,#[]⟩) (s:(a==sysModules)=false)
  (l0:K.lookup b0=some ⟨.type "tuple",o0,.seq #[.ref c0_0,.ref c0_1,.ref c0_2,.ref c0_3,.ref c0_4] n0,s0⟩)
  (l13:K.lookup b13=some ⟨.type "tuple",o13,.seq #[.ref c13_0] n13,s13⟩)
  (l0_0:K.lookup c0_0=some ⟨.type "tuple",p0_0,.seq #[.int 1 u0_0_0,.int 3 u0_0_1,.int 1 u0_0_2,.int 60 u0_0_3] m0_0,r0_0⟩)
  (l0_1:K.lookup c0_1=some ⟨.type "tuple",p0_1,.seq #[.int 1 u0_1_0,.int 3 u0_1_1,.int 1 u0_1_2,.int 60 u0_1_3] m0_1,r0_1⟩)
  (l0_2:K.lookup c0_2=some ⟨.type "tuple",p0_2,.seq #[.int 1 u0_2_0,.int 3 u0_2_1,.int 1 u0_2_2,.int 60 u0_2_3] m0_2,r0_2⟩)
  (l0_3:K.lookup c0_3=some ⟨.type "tuple",p0_3,.seq #[.int 1 u0_3_0,.int 9 u0_3_1,.int 1 u0_3_2,.int 60 u0_3_3] m0_3,r0_3⟩)
  (l0_4:K.lookup c0_4=some ⟨.type "tuple",p0_4,.seq #[.int 1 u0_4_0,.int 9 u0_4_1,.int 1 u0_4_2,.int 60 u0_4_3] m0_4,r0_4⟩)
  (l13_0:K.lookup c13_0=some ⟨.type "tuple",p13_0,.seq #[.int 0 u13_0_0,.int 600 u13_0_1,.int 0 u13_0_2,.int 100000000 u13_0_3] m13_0,r13_0⟩)
  : ∃ a,PySem.W.nsIn K mainGlobals "ROW_RANGES" = some (some (.ref a))/\∃ tb,iS K a tb/\∀ n:Int,0<=n->n<=17->(tb.lookup n=none/\Mi.gk n=[])\/∃ (a:Addr) (as:List Addr),tb.lookup n=some (.ref a)/\fC K a (as.map V.ref)/\as.length=(Mi.gk n).length/\∀ (j:Nat) (b:Addr) (e:Int×Int×Int×Int),as[j]? = some b->(Mi.gk n)[j]? = some e->fC K b [.int e.1,.int e.2.1,.int e.2.2.1,.int e.2.2.2]:=by
 refine ⟨a,h,[(0,.ref b0),(13,.ref b13)],sy l s (.cons ⟨rfl,⟨_,rfl⟩,rfl⟩ (.cons ⟨rfl,⟨_,rfl⟩,rfl⟩ .nil)) (by show ([0,13]:List Int).Nodup;decide),fun n n0 n1=>?_⟩
 have cs:n=0\/n=1\/n=2\/n=3\/n=4\/n=5\/n=6\/n=7\/n=8\/n=9\/n=10\/n=11\/n=12\/n=13\/n=14\/n=15\/n=16\/n=17:=by omega
 rcases cs with rfl | rfl | rfl | rfl | rfl | rfl | rfl | rfl | rfl | rfl | rfl | rfl | rfl | rfl | rfl | rfl | rfl | rfl
 ·refine .inr ⟨b0,[c0_0,c0_1,c0_2,c0_3,c0_4],rfl,Ah l0,rfl,fun j b e h1 h2=>?_⟩
  match j,h1,h2 with
  | 0,h1,h2=>cases h1;cases h2;exact nT l0_0
  | 1,h1,h2=>cases h1;cases h2;exact nT l0_1
  | 2,h1,h2=>cases h1;cases h2;exact nT l0_2
  | 3,h1,h2=>cases h1;cases h2;exact nT l0_3
  | 4,h1,h2=>cases h1;cases h2;exact nT l0_4
  | j+5,h1,_=>exact absurd h1 (by simp)
 ·exact .inl ⟨rfl,rfl⟩
 ·exact .inl ⟨rfl,rfl⟩
 ·exact .inl ⟨rfl,rfl⟩
 ·exact .inl ⟨rfl,rfl⟩
 ·exact .inl ⟨rfl,rfl⟩
 ·exact .inl ⟨rfl,rfl⟩
 ·exact .inl ⟨rfl,rfl⟩
 ·exact .inl ⟨rfl,rfl⟩
 ·exact .inl ⟨rfl,rfl⟩
 ·exact .inl ⟨rfl,rfl⟩
 ·exact .inl ⟨rfl,rfl⟩
 ·exact .inl ⟨rfl,rfl⟩
 ·refine .inr ⟨b13,[c13_0],rfl,jV l13,rfl,fun j b e h1 h2=>?_⟩
  match j,h1,h2 with
  | 0,h1,h2=>cases h1;cases h2;exact nT l13_0
  | j+1,h1,_=>exact absurd h1 (by simp)
 ·exact .inl ⟨rfl,rfl⟩
 ·exact .inl ⟨rfl,rfl⟩
 ·exact .inl ⟨rfl,rfl⟩
 ·exact .inl ⟨rfl,rfl⟩
theorem wc (X0:K.In hp) {C:Addr} {f0:Addr} {oc0 kV0 dc0 pm0 cd0 ct0:Value} {od0 an0:Option Addr} {sl0:Array (Option Value)} (h:PySem.W.nsIn K mainGlobals "Block" = some (some (.ref C)))
  (pg:PySem.W.plainGet K C Str.empty=true) (hd:PySem.W.hasDictIn K C=true) (po:PySem.W.plainOver K C=true) (sa:PySem.W.findIn K (.ref C) "__setattr__" = some (some (.builtin "object.__setattr__"))) (mk:PySem.W.makesIn K C=true) (kc:PySem.W.keepIn K (.ref C)=true)
  (a0:PySem.W.findIn K (.ref C) "__init__" = some (some (.ref f0))) (i0:PySem.W.isFn K (.ref f0)=true) (l0:K.lookup f0=some ⟨oc0,od0,.func (PySem.W.fnOf "__init__" "Block.__init__" (eR (sm .dE)) (eu (sm .dE)) (ao (sm .dE)) .none kV0 dc0 pm0 an0 cd0 ct0),sl0⟩) (c0:PySem.W.codeIn K cd0 "Block.__init__" = true) (k0:PySem.W.keepIn K (.ref f0)=true)
  (n0:PySem.W.findIn K (.ref C) "number" = some none) (n1:PySem.W.findIn K (.ref C) "kilograms" = some none) (n2:PySem.W.findIn K (.ref C) "left" = some none) (n3:PySem.W.findIn K (.ref C) "tipped" = some none) (n4:PySem.W.findIn K (.ref C) "place" = some none)
  : ∃ C f0 d0,PySem.W.nsIn K mainGlobals "Block" = some (some (.ref C))/\Cls K C/\Mk K C f0/\(∀ f:Str,(kH .Block).contains f=true->dW K C f)/\Fun K (nm .dE) (ql .dE) (sm .dE) f0 d0:=
 ⟨C,f0,_,h,⟨pg,hd,po,sa⟩,⟨mk,a0,i0,kc⟩,(na1 n0 (na1 n1 (na1 n2 (na1 n3 (na1 n4 na0))))),gw l0 c0 k0⟩
theorem xN (X0:K.In hp) {C:Addr} {f0:Addr} {oc0 kV0 dc0 pm0 cd0 ct0:Value} {od0 an0:Option Addr} {sl0:Array (Option Value)} (h:PySem.W.nsIn K mainGlobals "Load" = some (some (.ref C)))
  (pg:PySem.W.plainGet K C Str.empty=true) (hd:PySem.W.hasDictIn K C=true) (po:PySem.W.plainOver K C=true) (sa:PySem.W.findIn K (.ref C) "__setattr__" = some (some (.builtin "object.__setattr__"))) (mk:PySem.W.makesIn K C=true) (kc:PySem.W.keepIn K (.ref C)=true)
  (a0:PySem.W.findIn K (.ref C) "__init__" = some (some (.ref f0))) (i0:PySem.W.isFn K (.ref f0)=true) (l0:K.lookup f0=some ⟨oc0,od0,.func (PySem.W.fnOf "__init__" "Load.__init__" (eR (sm .eL)) (eu (sm .eL)) (ao (sm .eL)) .none kV0 dc0 pm0 an0 cd0 ct0),sl0⟩) (c0:PySem.W.codeIn K cd0 "Load.__init__" = true) (k0:PySem.W.keepIn K (.ref f0)=true)
  (n0:PySem.W.findIn K (.ref C) "block" = some none) (n1:PySem.W.findIn K (.ref C) "kilograms" = some none)
  : ∃ C f0 d0,PySem.W.nsIn K mainGlobals "Load" = some (some (.ref C))/\Cls K C/\Mk K C f0/\(∀ f:Str,(kH .Load).contains f=true->dW K C f)/\Fun K (nm .eL) (ql .eL) (sm .eL) f0 d0:=
 ⟨C,f0,_,h,⟨pg,hd,po,sa⟩,⟨mk,a0,i0,kc⟩,(na1 n0 (na1 n1 na0)),gw l0 c0 k0⟩
theorem vZ (X0:K.In hp) {C:Addr} {f0:Addr} {oc0 kV0 dc0 pm0 cd0 ct0:Value} {od0 an0:Option Addr} {sl0:Array (Option Value)} (h:PySem.W.nsIn K mainGlobals "Truck" = some (some (.ref C)))
  (pg:PySem.W.plainGet K C Str.empty=true) (hd:PySem.W.hasDictIn K C=true) (po:PySem.W.plainOver K C=true) (sa:PySem.W.findIn K (.ref C) "__setattr__" = some (some (.builtin "object.__setattr__"))) (mk:PySem.W.makesIn K C=true) (kc:PySem.W.keepIn K (.ref C)=true)
  (a0:PySem.W.findIn K (.ref C) "__init__" = some (some (.ref f0))) (i0:PySem.W.isFn K (.ref f0)=true) (l0:K.lookup f0=some ⟨oc0,od0,.func (PySem.W.fnOf "__init__" "Truck.__init__" (eR (sm .dC)) (eu (sm .dC)) (ao (sm .dC)) .none kV0 dc0 pm0 an0 cd0 ct0),sl0⟩) (c0:PySem.W.codeIn K cd0 "Truck.__init__" = true) (k0:PySem.W.keepIn K (.ref f0)=true)
  (n0:PySem.W.findIn K (.ref C) "number" = some none) (n1:PySem.W.findIn K (.ref C) "does" = some none) (n2:PySem.W.findIn K (.ref C) "where" = some none) (n3:PySem.W.findIn K (.ref C) "to_go" = some none) (n4:PySem.W.findIn K (.ref C) "since" = some none) (n5:PySem.W.findIn K (.ref C) "load" = some none) (n6:PySem.W.findIn K (.ref C) "stopped" = some none) (n7:PySem.W.findIn K (.ref C) "counted" = some none)
  : ∃ C f0 d0,PySem.W.nsIn K mainGlobals "Truck" = some (some (.ref C))/\Cls K C/\Mk K C f0/\(∀ f:Str,(kH .Truck).contains f=true->dW K C f)/\Fun K (nm .dC) (ql .dC) (sm .dC) f0 d0:=
 ⟨C,f0,_,h,⟨pg,hd,po,sa⟩,⟨mk,a0,i0,kc⟩,(na1 n0 (na1 n1 (na1 n2 (na1 n3 (na1 n4 (na1 n5 (na1 n6 (na1 n7 na0)))))))),gw l0 c0 k0⟩
theorem uk (X0:K.In hp) {C:Addr} {f0:Addr} {oc0 kV0 dc0 pm0 cd0 ct0:Value} {od0 an0:Option Addr} {sl0:Array (Option Value)} (h:PySem.W.nsIn K mainGlobals "Shovel" = some (some (.ref C)))
  (pg:PySem.W.plainGet K C Str.empty=true) (hd:PySem.W.hasDictIn K C=true) (po:PySem.W.plainOver K C=true) (sa:PySem.W.findIn K (.ref C) "__setattr__" = some (some (.builtin "object.__setattr__"))) (mk:PySem.W.makesIn K C=true) (kc:PySem.W.keepIn K (.ref C)=true)
  (a0:PySem.W.findIn K (.ref C) "__init__" = some (some (.ref f0))) (i0:PySem.W.isFn K (.ref f0)=true) (l0:K.lookup f0=some ⟨oc0,od0,.func (PySem.W.fnOf "__init__" "Shovel.__init__" (eR (sm .cV)) (eu (sm .cV)) (ao (sm .cV)) .none kV0 dc0 pm0 an0 cd0 ct0),sl0⟩) (c0:PySem.W.codeIn K cd0 "Shovel.__init__" = true) (k0:PySem.W.keepIn K (.ref f0)=true)
  (n0:PySem.W.findIn K (.ref C) "number" = some none) (n1:PySem.W.findIn K (.ref C) "loading" = some none) (n2:PySem.W.findIn K (.ref C) "row" = some none) (n3:PySem.W.findIn K (.ref C) "stopped" = some none) (n4:PySem.W.findIn K (.ref C) "counted" = some none)
  : ∃ C f0 d0,PySem.W.nsIn K mainGlobals "Shovel" = some (some (.ref C))/\Cls K C/\Mk K C f0/\(∀ f:Str,(kH .fk).contains f=true->dW K C f)/\Fun K (nm .cV) (ql .cV) (sm .cV) f0 d0:=
 ⟨C,f0,_,h,⟨pg,hd,po,sa⟩,⟨mk,a0,i0,kc⟩,(na1 n0 (na1 n1 (na1 n2 (na1 n3 (na1 n4 na0))))),gw l0 c0 k0⟩
theorem w9 (X0:K.In hp) {C:Addr} {f0:Addr} {oc0 kV0 dc0 pm0 cd0 ct0:Value} {od0 an0:Option Addr} {sl0:Array (Option Value)} (h:PySem.W.nsIn K mainGlobals "Place" = some (some (.ref C)))
  (pg:PySem.W.plainGet K C Str.empty=true) (hd:PySem.W.hasDictIn K C=true) (po:PySem.W.plainOver K C=true) (sa:PySem.W.findIn K (.ref C) "__setattr__" = some (some (.builtin "object.__setattr__"))) (mk:PySem.W.makesIn K C=true) (kc:PySem.W.keepIn K (.ref C)=true)
  (a0:PySem.W.findIn K (.ref C) "__init__" = some (some (.ref f0))) (i0:PySem.W.isFn K (.ref f0)=true) (l0:K.lookup f0=some ⟨oc0,od0,.func (PySem.W.fnOf "__init__" "Place.__init__" (eR (sm .dD)) (eu (sm .dD)) (ao (sm .dD)) .none kV0 dc0 pm0 an0 cd0 ct0),sl0⟩) (c0:PySem.W.codeIn K cd0 "Place.__init__" = true) (k0:PySem.W.keepIn K (.ref f0)=true)
  (n0:PySem.W.findIn K (.ref C) "number" = some none) (n1:PySem.W.findIn K (.ref C) "tipping" = some none) (n2:PySem.W.findIn K (.ref C) "loads" = some none) (n3:PySem.W.findIn K (.ref C) "kilograms" = some none)
  : ∃ C f0 d0,PySem.W.nsIn K mainGlobals "Place" = some (some (.ref C))/\Cls K C/\Mk K C f0/\(∀ f:Str,(kH .Place).contains f=true->dW K C f)/\Fun K (nm .dD) (ql .dD) (sm .dD) f0 d0:=
 ⟨C,f0,_,h,⟨pg,hd,po,sa⟩,⟨mk,a0,i0,kc⟩,(na1 n0 (na1 n1 (na1 n2 (na1 n3 na0)))),gw l0 c0 k0⟩
theorem xK (X0:K.In hp) {C:Addr} {f0:Addr} {oc0 kV0 dc0 pm0 cd0 ct0:Value} {od0 an0:Option Addr} {sl0:Array (Option Value)} (h:PySem.W.nsIn K mainGlobals "Stop" = some (some (.ref C)))
  (pg:PySem.W.plainGet K C Str.empty=true) (hd:PySem.W.hasDictIn K C=true) (po:PySem.W.plainOver K C=true) (sa:PySem.W.findIn K (.ref C) "__setattr__" = some (some (.builtin "object.__setattr__"))) (mk:PySem.W.makesIn K C=true) (kc:PySem.W.keepIn K (.ref C)=true)
  (a0:PySem.W.findIn K (.ref C) "__init__" = some (some (.ref f0))) (i0:PySem.W.isFn K (.ref f0)=true) (l0:K.lookup f0=some ⟨oc0,od0,.func (PySem.W.fnOf "__init__" "Stop.__init__" (eR (sm .eJ)) (eu (sm .eJ)) (ao (sm .eJ)) .none kV0 dc0 pm0 an0 cd0 ct0),sl0⟩) (c0:PySem.W.codeIn K cd0 "Stop.__init__" = true) (k0:PySem.W.keepIn K (.ref f0)=true)
  (n0:PySem.W.findIn K (.ref C) "kind" = some none) (n1:PySem.W.findIn K (.ref C) "which" = some none) (n2:PySem.W.findIn K (.ref C) "since" = some none) (n3:PySem.W.findIn K (.ref C) "until" = some none)
  : ∃ C f0 d0,PySem.W.nsIn K mainGlobals "Stop" = some (some (.ref C))/\Cls K C/\Mk K C f0/\(∀ f:Str,(kH .Stop).contains f=true->dW K C f)/\Fun K (nm .eJ) (ql .eJ) (sm .eJ) f0 d0:=
 ⟨C,f0,_,h,⟨pg,hd,po,sa⟩,⟨mk,a0,i0,kc⟩,(na1 n0 (na1 n1 (na1 n2 (na1 n3 na0)))),gw l0 c0 k0⟩
theorem wb (X0:K.In hp) {C:Addr} {f0:Addr} {oc0 kV0 dc0 pm0 cd0 ct0:Value} {od0 an0:Option Addr} {sl0:Array (Option Value)} (h:PySem.W.nsIn K mainGlobals "Fleet" = some (some (.ref C)))
  (pg:PySem.W.plainGet K C Str.empty=true) (hd:PySem.W.hasDictIn K C=true) (po:PySem.W.plainOver K C=true) (sa:PySem.W.findIn K (.ref C) "__setattr__" = some (some (.builtin "object.__setattr__"))) (mk:PySem.W.makesIn K C=true) (kc:PySem.W.keepIn K (.ref C)=true)
  (a0:PySem.W.findIn K (.ref C) "__init__" = some (some (.ref f0))) (i0:PySem.W.isFn K (.ref f0)=true) (l0:K.lookup f0=some ⟨oc0,od0,.func (PySem.W.fnOf "__init__" "Fleet.__init__" (eR (sm .dv)) (eu (sm .dv)) (ao (sm .dv)) .none kV0 dc0 pm0 an0 cd0 ct0),sl0⟩) (c0:PySem.W.codeIn K cd0 "Fleet.__init__" = true) (k0:PySem.W.keepIn K (.ref f0)=true)
  (n0:PySem.W.findIn K (.ref C) "carries" = some none) (n1:PySem.W.findIn K (.ref C) "rule" = some none) (n2:PySem.W.findIn K (.ref C) "rows" = some none) (n3:PySem.W.findIn K (.ref C) "trucks" = some none) (n4:PySem.W.findIn K (.ref C) "shovels" = some none) (n5:PySem.W.findIn K (.ref C) "places" = some none) (n6:PySem.W.findIn K (.ref C) "park" = some none) (n7:PySem.W.findIn K (.ref C) "onward" = some none) (n8:PySem.W.findIn K (.ref C) "back" = some none) (n9:PySem.W.findIn K (.ref C) "told" = some none) (n10:PySem.W.findIn K (.ref C) "blocks" = some none) (n11:PySem.W.findIn K (.ref C) "stops" = some none) (n12:PySem.W.findIn K (.ref C) "book" = some none) (n13:PySem.W.findIn K (.ref C) "minute" = some none)
  : ∃ C f0 d0,PySem.W.nsIn K mainGlobals "Fleet" = some (some (.ref C))/\Cls K C/\Mk K C f0/\(∀ f:Str,(kH .Fleet).contains f=true->dW K C f)/\Fun K (nm .dv) (ql .dv) (sm .dv) f0 d0:=
 ⟨C,f0,_,h,⟨pg,hd,po,sa⟩,⟨mk,a0,i0,kc⟩,(na1 n0 (na1 n1 (na1 n2 (na1 n3 (na1 n4 (na1 n5 (na1 n6 (na1 n7 (na1 n8 (na1 n9 (na1 n10 (na1 n11 (na1 n12 (na1 n13 na0)))))))))))))),gw l0 c0 k0⟩
theorem xO (X0:K.In hp) {C:Addr} {f0:Addr} {oc0 kV0 dc0 pm0 cd0 ct0:Value} {od0 an0:Option Addr} {sl0:Array (Option Value)} (h:PySem.W.nsIn K mainGlobals "Call" = some (some (.ref C)))
  (pg:PySem.W.plainGet K C Str.empty=true) (hd:PySem.W.hasDictIn K C=true) (po:PySem.W.plainOver K C=true) (sa:PySem.W.findIn K (.ref C) "__setattr__" = some (some (.builtin "object.__setattr__"))) (mk:PySem.W.makesIn K C=true) (kc:PySem.W.keepIn K (.ref C)=true)
  (a0:PySem.W.findIn K (.ref C) "__init__" = some (some (.ref f0))) (i0:PySem.W.isFn K (.ref f0)=true) (l0:K.lookup f0=some ⟨oc0,od0,.func (PySem.W.fnOf "__init__" "Call.__init__" (eR (sm .eO)) (eu (sm .eO)) (ao (sm .eO)) .none kV0 dc0 pm0 an0 cd0 ct0),sl0⟩) (c0:PySem.W.codeIn K cd0 "Call.__init__" = true) (k0:PySem.W.keepIn K (.ref f0)=true)
  (n0:PySem.W.findIn K (.ref C) "number" = some none) (n1:PySem.W.findIn K (.ref C) "plain" = some none) (n2:PySem.W.findIn K (.ref C) "rows" = some none)
  : ∃ C f0 d0,PySem.W.nsIn K mainGlobals "Call" = some (some (.ref C))/\Cls K C/\Mk K C f0/\(∀ f:Str,(kH .Call).contains f=true->dW K C f)/\Fun K (nm .eO) (ql .eO) (sm .eO) f0 d0:=
 ⟨C,f0,_,h,⟨pg,hd,po,sa⟩,⟨mk,a0,i0,kc⟩,(na1 n0 (na1 n1 (na1 n2 na0))),gw l0 c0 k0⟩
theorem um (X0:K.In hp) {C:Addr} {f0:Addr} {oc0 kV0 dc0 pm0 cd0 ct0:Value} {od0 an0:Option Addr} {sl0:Array (Option Value)} {f1:Addr} {oc1 kV1 dc1 pm1 cd1 ct1:Value} {od1 an1:Option Addr} {sl1:Array (Option Value)} {f2:Addr} {oc2 kV2 dc2 pm2 cd2 ct2:Value} {od2 an2:Option Addr} {sl2:Array (Option Value)} {f3:Addr} {oc3 kV3 dc3 pm3 cd3 ct3:Value} {od3 an3:Option Addr} {sl3:Array (Option Value)} (h:PySem.W.nsIn K mainGlobals "Reader" = some (some (.ref C)))
  (pg:PySem.W.plainGet K C Str.empty=true) (hd:PySem.W.hasDictIn K C=true) (po:PySem.W.plainOver K C=true) (sa:PySem.W.findIn K (.ref C) "__setattr__" = some (some (.builtin "object.__setattr__"))) (mk:PySem.W.makesIn K C=true) (kc:PySem.W.keepIn K (.ref C)=true)
  (a0:PySem.W.findIn K (.ref C) "__init__" = some (some (.ref f0))) (i0:PySem.W.isFn K (.ref f0)=true) (l0:K.lookup f0=some ⟨oc0,od0,.func (PySem.W.fnOf "__init__" "Reader.__init__" (eR (sm .cW)) (eu (sm .cW)) (ao (sm .cW)) .none kV0 dc0 pm0 an0 cd0 ct0),sl0⟩) (c0:PySem.W.codeIn K cd0 "Reader.__init__" = true) (k0:PySem.W.keepIn K (.ref f0)=true)
  (a1:PySem.W.findIn K (.ref C) "has_more" = some (some (.ref f1))) (i1:PySem.W.isFn K (.ref f1)=true) (l1:K.lookup f1=some ⟨oc1,od1,.func (PySem.W.fnOf "has_more" "Reader.has_more" (eR (sm .bJ)) (eu (sm .bJ)) (ao (sm .bJ)) .none kV1 dc1 pm1 an1 cd1 ct1),sl1⟩) (c1:PySem.W.codeIn K cd1 "Reader.has_more" = true) (k1:PySem.W.keepIn K (.ref f1)=true)
  (a2:PySem.W.findIn K (.ref C) "take" = some (some (.ref f2))) (i2:PySem.W.isFn K (.ref f2)=true) (l2:K.lookup f2=some ⟨oc2,od2,.func (PySem.W.fnOf "take" "Reader.take" (eR (sm .dP)) (eu (sm .dP)) (ao (sm .dP)) .none kV2 dc2 pm2 an2 cd2 ct2),sl2⟩) (c2:PySem.W.codeIn K cd2 "Reader.take" = true) (k2:PySem.W.keepIn K (.ref f2)=true)
  (a3:PySem.W.findIn K (.ref C) "take_many" = some (some (.ref f3))) (i3:PySem.W.isFn K (.ref f3)=true) (l3:K.lookup f3=some ⟨oc3,od3,.func (PySem.W.fnOf "take_many" "Reader.take_many" (eR (sm .aW)) (eu (sm .aW)) (ao (sm .aW)) .none kV3 dc3 pm3 an3 cd3 ct3),sl3⟩) (c3:PySem.W.codeIn K cd3 "Reader.take_many" = true) (k3:PySem.W.keepIn K (.ref f3)=true)
  (n0:PySem.W.findIn K (.ref C) "numbers" = some none) (n1:PySem.W.findIn K (.ref C) "at" = some none)
  : ∃ C f0 f1 f2 f3 d0 d1 d2 d3,PySem.W.nsIn K mainGlobals "Reader" = some (some (.ref C))/\Cls K C/\Mk K C f0/\(∀ f:Str,(kH .Reader).contains f=true->dW K C f)/\Fun K (nm .cW) (ql .cW) (sm .cW) f0 d0/\Fun K (nm .bJ) (ql .bJ) (sm .bJ) f1 d1/\Meth K C "has_more" f1/\Fun K (nm .dP) (ql .dP) (sm .dP) f2 d2/\Meth K C "take" f2/\Fun K (nm .aW) (ql .aW) (sm .aW) f3 d3/\Meth K C "take_many" f3:=
 ⟨C,f0,f1,f2,f3,_,_,_,_,h,⟨pg,hd,po,sa⟩,⟨mk,a0,i0,kc⟩,(na1 n0 (na1 n1 na0)),gw l0 c0 k0,gw l1 c1 k1,⟨a1,i1,k1⟩,gw l2 c2 k2,⟨a2,i2,k2⟩,gw l3 c3 k3,⟨a3,i3,k3⟩⟩
theorem xM (X0:K.In hp) {C:Addr} {f0:Addr} {oc0 kV0 dc0 pm0 cd0 ct0:Value} {od0 an0:Option Addr} {sl0:Array (Option Value)} (h:PySem.W.nsIn K mainGlobals "Mine" = some (some (.ref C)))
  (pg:PySem.W.plainGet K C Str.empty=true) (hd:PySem.W.hasDictIn K C=true) (po:PySem.W.plainOver K C=true) (sa:PySem.W.findIn K (.ref C) "__setattr__" = some (some (.builtin "object.__setattr__"))) (mk:PySem.W.makesIn K C=true) (kc:PySem.W.keepIn K (.ref C)=true)
  (a0:PySem.W.findIn K (.ref C) "__init__" = some (some (.ref f0))) (i0:PySem.W.isFn K (.ref f0)=true) (l0:K.lookup f0=some ⟨oc0,od0,.func (PySem.W.fnOf "__init__" "Mine.__init__" (eR (sm .eK)) (eu (sm .eK)) (ao (sm .eK)) .none kV0 dc0 pm0 an0 cd0 ct0),sl0⟩) (c0:PySem.W.codeIn K cd0 "Mine.__init__" = true) (k0:PySem.W.keepIn K (.ref f0)=true)
  (n0:PySem.W.findIn K (.ref C) "fleet" = some none)
  : ∃ C f0 d0,PySem.W.nsIn K mainGlobals "Mine" = some (some (.ref C))/\Cls K C/\Mk K C f0/\(∀ f:Str,(kH .iE).contains f=true->dW K C f)/\Fun K (nm .eK) (ql .eK) (sm .eK) f0 d0:=
 ⟨C,f0,_,h,⟨pg,hd,po,sa⟩,⟨mk,a0,i0,kc⟩,(na1 n0 na0),gw l0 c0 k0⟩
end
end Ms
namespace Ms
open PySem PySem.Spec PyProof.Rows L2
theorem req {K:PySem.W.Frag} {H:Hp} {na:Addr} {ns:List Int} (hs:SqL K H na (ns.map V.int)) (hl:ns.length<=16000) (ha:PyVbmiaj.answers_asked ns=true) {Q:VK} {E:XK} (q:∀ (H':Hp) (g:Addr),SqL K H' g ((PyVbmiaj.answers ns).map V.int)->Q (.ref g) H'):mH K [.ref na] H Q E:=by
 obtain ⟨cs,h1,h2,h3,h4⟩:=Si.yG ha
 refine ⟨na,ns,cs,rfl,hs,by omega,h1,by omega,Nat.lt_of_le_of_lt h4 (by decide),fun H' g hg=>q H' g (SqL.of ?_)⟩
 rw [h3];exact hg
end Ms
open PySem PySem.W PyProof.Rows
set_option maxRecDepth 100000 in
set_option maxHeartbeats 0 in
theorem PySem.Challenge.cw_mineshift_s01_answers_holds : PySem.Challenge.rw_mineshift_s01_answers.Holds := by
 w_on;k_headS;(case hw=>exact ⟨[.list [.int 17]],by decide +kernel,by decide +kernel⟩)
 k_fillS
 refine L2.tq (r:=PySem.Challenge.rw_mineshift_s01_answers) (k:=13) (CX:=L2.CX0) (ps:=["calls"]) (sp:=Ms.mH) (by decide +kernel) rfl rfl ⟨rfl,by decide,by decide⟩ (fun w h Y=>PySem.W.kIn_of Y) ?F ?S (fun _ _ _ _ z=>z)
 case F=>
  intro w mg fa h Y KX G hmg
  have u:=by refine' Ms.tf KX (x:="stoppable_things") (st:=Ms.sm .aJ) ?h ?l ?c ?k;(case h=>k_is);(case l=>k_is);(case c=>k_is);(case k=>k_is)
  obtain ⟨a7,d7,g7,F7⟩:=u
  have u:=by refine' Ms.tf KX (x:="minutes_to_shovel") (st:=Ms.sm .aE) ?h ?l ?c ?k;(case h=>k_is);(case l=>k_is);(case c=>k_is);(case k=>k_is)
  obtain ⟨a8,d8,g8,F8⟩:=u
  have u:=by refine' Ms.tf KX (x:="minutes_to_place") (st:=Ms.sm .aS) ?h ?l ?c ?k;(case h=>k_is);(case l=>k_is);(case c=>k_is);(case k=>k_is)
  obtain ⟨a9,d9,g9,F9⟩:=u
  have u:=by refine' Ms.tf KX (x:="loads_left") (st:=Ms.sm .bV) ?h ?l ?c ?k;(case h=>k_is);(case l=>k_is);(case c=>k_is);(case k=>k_is)
  obtain ⟨a10,d10,g10,F10⟩:=u
  have u:=by refine' Ms.tf KX (x:="loads_tipped") (st:=Ms.sm .aZ) ?h ?l ?c ?k;(case h=>k_is);(case l=>k_is);(case c=>k_is);(case k=>k_is)
  obtain ⟨a11,d11,g11,F11⟩:=u
  have u:=by refine' Ms.tf KX (x:="kilograms_tipped") (st:=Ms.sm .aK) ?h ?l ?c ?k;(case h=>k_is);(case l=>k_is);(case c=>k_is);(case k=>k_is)
  obtain ⟨a12,d12,g12,F12⟩:=u
  have u:=by refine' Ms.tf KX (x:="minutes_without_truck") (st:=Ms.sm .az) ?h ?l ?c ?k;(case h=>k_is);(case l=>k_is);(case c=>k_is);(case k=>k_is)
  obtain ⟨a13,d13,g13,F13⟩:=u
  have u:=by refine' Ms.tf KX (x:="how_many") (st:=Ms.sm .cg) ?h ?l ?c ?k;(case h=>k_is);(case l=>k_is);(case c=>k_is);(case k=>k_is)
  obtain ⟨a14,d14,g14,F14⟩:=u
  have u:=by refine' Ms.tf KX (x:="load_numbers") (st:=Ms.sm .bG) ?h ?l ?c ?k;(case h=>k_is);(case l=>k_is);(case c=>k_is);(case k=>k_is)
  obtain ⟨a15,d15,g15,F15⟩:=u
  have u:=by refine' Ms.tf KX (x:="read_call") (st:=Ms.sm .dm) ?h ?l ?c ?k;(case h=>k_is);(case l=>k_is);(case c=>k_is);(case k=>k_is)
  obtain ⟨a21,d21,g21,F21⟩:=u
  have u:=by refine' Ms.tf KX (x:="is_within_ranges") (st:=Ms.sm .aU) ?h ?l ?c ?k;(case h=>k_is);(case l=>k_is);(case c=>k_is);(case k=>k_is)
  obtain ⟨a22,d22,g22,F22⟩:=u
  have u:=by refine' Ms.tf KX (x:="is_row_within") (st:=Ms.sm .bO) ?h ?l ?c ?k;(case h=>k_is);(case l=>k_is);(case c=>k_is);(case k=>k_is)
  obtain ⟨a23,d23,g23,F23⟩:=u
  have u:=by refine' Ms.tf KX (x:="trucks_coming") (st:=Ms.sm .bu) ?h ?l ?c ?k;(case h=>k_is);(case l=>k_is);(case c=>k_is);(case k=>k_is)
  obtain ⟨a24,d24,g24,F24⟩:=u
  have u:=by refine' Ms.tf KX (x:="three_numbers") (st:=Ms.sm .bK) ?h ?l ?c ?k;(case h=>k_is);(case l=>k_is);(case c=>k_is);(case k=>k_is)
  obtain ⟨a25,d25,g25,F25⟩:=u
  have u:=by refine' Ms.tf KX (x:="chosen_shovel") (st:=Ms.sm .bx) ?h ?l ?c ?k;(case h=>k_is);(case l=>k_is);(case c=>k_is);(case k=>k_is)
  obtain ⟨a26,d26,g26,F26⟩:=u
  have u:=by refine' Ms.tf KX (x:="let_minute_go_by") (st:=Ms.sm .aT) ?h ?l ?c ?k;(case h=>k_is);(case l=>k_is);(case c=>k_is);(case k=>k_is)
  obtain ⟨a27,d27,g27,F27⟩:=u
  have u:=by refine' Ms.tf KX (x:="mark_stopped") (st:=Ms.sm .bZ) ?h ?l ?c ?k;(case h=>k_is);(case l=>k_is);(case c=>k_is);(case k=>k_is)
  obtain ⟨a28,d28,g28,F28⟩:=u
  have u:=by refine' Ms.tf KX (x:="comes_to") (st:=Ms.sm .bI) ?h ?l ?c ?k;(case h=>k_is);(case l=>k_is);(case c=>k_is);(case k=>k_is)
  obtain ⟨a29,d29,g29,F29⟩:=u
  have u:=by refine' Ms.tf KX (x:="send_free_trucks") (st:=Ms.sm .aR) ?h ?l ?c ?k;(case h=>k_is);(case l=>k_is);(case c=>k_is);(case k=>k_is)
  obtain ⟨a30,d30,g30,F30⟩:=u
  have u:=by refine' Ms.tf KX (x:="first_waiting") (st:=Ms.sm .bw) ?h ?l ?c ?k;(case h=>k_is);(case l=>k_is);(case c=>k_is);(case k=>k_is)
  obtain ⟨a31,d31,g31,F31⟩:=u
  have u:=by refine' Ms.tf KX (x:="begin_tipping") (st:=Ms.sm .bQ) ?h ?l ?c ?k;(case h=>k_is);(case l=>k_is);(case c=>k_is);(case k=>k_is)
  obtain ⟨a32,d32,g32,F32⟩:=u
  have u:=by refine' Ms.tf KX (x:="begin_loading") (st:=Ms.sm .bR) ?h ?l ?c ?k;(case h=>k_is);(case l=>k_is);(case c=>k_is);(case k=>k_is)
  obtain ⟨a33,d33,g33,F33⟩:=u
  have u:=by refine' Ms.tf KX (x:="loads_now") (st:=Ms.sm .cJ) ?h ?l ?c ?k;(case h=>k_is);(case l=>k_is);(case c=>k_is);(case k=>k_is)
  obtain ⟨a34,d34,g34,F34⟩:=u
  have u:=by refine' Ms.tf KX (x:="take_load") (st:=Ms.sm .df) ?h ?l ?c ?k;(case h=>k_is);(case l=>k_is);(case c=>k_is);(case k=>k_is)
  obtain ⟨a35,d35,g35,F35⟩:=u
  have u:=by refine' Ms.tf KX (x:="count_minute") (st:=Ms.sm .cb) ?h ?l ?c ?k;(case h=>k_is);(case l=>k_is);(case c=>k_is);(case k=>k_is)
  obtain ⟨a36,d36,g36,F36⟩:=u
  have u:=by refine' Ms.tf KX (x:="shovel_counts_as") (st:=Ms.sm .aQ) ?h ?l ?c ?k;(case h=>k_is);(case l=>k_is);(case c=>k_is);(case k=>k_is)
  obtain ⟨a37,d37,g37,F37⟩:=u
  have u:=by refine' Ms.tf KX (x:="move_trucks") (st:=Ms.sm .cz) ?h ?l ?c ?k;(case h=>k_is);(case l=>k_is);(case c=>k_is);(case k=>k_is)
  obtain ⟨a38,d38,g38,F38⟩:=u
  have u:=by refine' Ms.tf KX (x:="is_held") (st:=Ms.sm .eI) ?h ?l ?c ?k;(case h=>k_is);(case l=>k_is);(case c=>k_is);(case k=>k_is)
  obtain ⟨a39,d39,g39,F39⟩:=u
  have u:=by refine' Ms.tf KX (x:="go_on") (st:=Ms.sm .gG) ?h ?l ?c ?k;(case h=>k_is);(case l=>k_is);(case c=>k_is);(case k=>k_is)
  obtain ⟨a40,d40,g40,F40⟩:=u
  have u:=by refine' Ms.tf KX (x:="tip_load") (st:=Ms.sm .dI) ?h ?l ?c ?k;(case h=>k_is);(case l=>k_is);(case c=>k_is);(case k=>k_is)
  obtain ⟨a41,d41,g41,F41⟩:=u
  have u:=by refine' Ms.tf KX (x:="tell_block") (st:=Ms.sm .cM) ?h ?l ?c ?k;(case h=>k_is);(case l=>k_is);(case c=>k_is);(case k=>k_is)
  obtain ⟨a42,d42,g42,F42⟩:=u
  have u:=by refine' Ms.tf KX (x:="free_ended_trucks") (st:=Ms.sm .aN) ?h ?l ?c ?k;(case h=>k_is);(case l=>k_is);(case c=>k_is);(case k=>k_is)
  obtain ⟨a43,d43,g43,F43⟩:=u
  have u:=by refine' Ms.tf KX (x:="tell_stop") (st:=Ms.sm .de) ?h ?l ?c ?k;(case h=>k_is);(case l=>k_is);(case c=>k_is);(case k=>k_is)
  obtain ⟨a44,d44,g44,F44⟩:=u
  have u:=by refine' Ms.tf KX (x:="goes_too_far") (st:=Ms.sm .bH) ?h ?l ?c ?k;(case h=>k_is);(case l=>k_is);(case c=>k_is);(case k=>k_is)
  obtain ⟨a45,d45,g45,F45⟩:=u
  have u:=by refine' Ms.tf KX (x:="run_minutes") (st:=Ms.sm .cw) ?h ?l ?c ?k;(case h=>k_is);(case l=>k_is);(case c=>k_is);(case k=>k_is)
  obtain ⟨a46,d46,g46,F46⟩:=u
  have u:=by refine' Ms.tf KX (x:="let_minutes_go_by") (st:=Ms.sm .aF) ?h ?l ?c ?k;(case h=>k_is);(case l=>k_is);(case c=>k_is);(case k=>k_is)
  obtain ⟨a47,d47,g47,F47⟩:=u
  have u:=by refine' Ms.tf KX (x:="tell") (st:=Ms.sm .tell) ?h ?l ?c ?k;(case h=>k_is);(case l=>k_is);(case c=>k_is);(case k=>k_is)
  obtain ⟨a48,d48,g48,F48⟩:=u
  have u:=by refine' Ms.tf KX (x:="played_again") (st:=Ms.sm .aY) ?h ?l ?c ?k;(case h=>k_is);(case l=>k_is);(case c=>k_is);(case k=>k_is)
  obtain ⟨a49,d49,g49,F49⟩:=u
  have u:=by refine' Ms.tf KX (x:="outcome") (st:=Ms.sm .outcome) ?h ?l ?c ?k;(case h=>k_is);(case l=>k_is);(case c=>k_is);(case k=>k_is)
  obtain ⟨a50,d50,g50,F50⟩:=u
  have u:=by refine' Ms.tf KX (x:="other_shift") (st:=Ms.sm .cx) ?h ?l ?c ?k;(case h=>k_is);(case l=>k_is);(case c=>k_is);(case k=>k_is)
  obtain ⟨a51,d51,g51,F51⟩:=u
  have u:=by refine' Ms.tf KX (x:="fewest_trucks") (st:=Ms.sm .bP) ?h ?l ?c ?k;(case h=>k_is);(case l=>k_is);(case c=>k_is);(case k=>k_is)
  obtain ⟨a52,d52,g52,F52⟩:=u
  have u:=by refine' Ms.tf KX (x:="look_ahead") (st:=Ms.sm .cP) ?h ?l ?c ?k;(case h=>k_is);(case l=>k_is);(case c=>k_is);(case k=>k_is)
  obtain ⟨a53,d53,g53,F53⟩:=u
  have u:=by refine' Ms.tf KX (x:="replay") (st:=Ms.sm .replay) ?h ?l ?c ?k;(case h=>k_is);(case l=>k_is);(case c=>k_is);(case k=>k_is)
  obtain ⟨a54,d54,g54,F54⟩:=u
  have u:=by refine' Ms.tf KX (x:="show_truck") (st:=Ms.sm .cN) ?h ?l ?c ?k;(case h=>k_is);(case l=>k_is);(case c=>k_is);(case k=>k_is)
  obtain ⟨a55,d55,g55,F55⟩:=u
  have u:=by refine' Ms.tf KX (x:="show_shovel") (st:=Ms.sm .cu) ?h ?l ?c ?k;(case h=>k_is);(case l=>k_is);(case c=>k_is);(case k=>k_is)
  obtain ⟨a56,d56,g56,F56⟩:=u
  have u:=by refine' Ms.tf KX (x:="kilograms_before") (st:=Ms.sm .aL) ?h ?l ?c ?k;(case h=>k_is);(case l=>k_is);(case c=>k_is);(case k=>k_is)
  obtain ⟨a57,d57,g57,F57⟩:=u
  have u:=by refine' Ms.tf KX (x:="show_place") (st:=Ms.sm .cO) ?h ?l ?c ?k;(case h=>k_is);(case l=>k_is);(case c=>k_is);(case k=>k_is)
  obtain ⟨a58,d58,g58,F58⟩:=u
  have u:=by refine' Ms.tf KX (x:="show_book") (st:=Ms.sm .di) ?h ?l ?c ?k;(case h=>k_is);(case l=>k_is);(case c=>k_is);(case k=>k_is)
  obtain ⟨a59,d59,g59,F59⟩:=u
  have u:=by refine' Ms.tf KX (x:="show_minutes") (st:=Ms.sm .bX) ?h ?l ?c ?k;(case h=>k_is);(case l=>k_is);(case c=>k_is);(case k=>k_is)
  obtain ⟨a60,d60,g60,F60⟩:=u
  have u:=by refine' Ms.tf KX (x:="show_work") (st:=Ms.sm .dg) ?h ?l ?c ?k;(case h=>k_is);(case l=>k_is);(case c=>k_is);(case k=>k_is)
  obtain ⟨a61,d61,g61,F61⟩:=u
  have u:=by refine' Ms.tf KX (x:="show_balance") (st:=Ms.sm .bY) ?h ?l ?c ?k;(case h=>k_is);(case l=>k_is);(case c=>k_is);(case k=>k_is)
  obtain ⟨a62,d62,g62,F62⟩:=u
  have u:=by refine' Ms.tf KX (x:="show_blocks") (st:=Ms.sm .cv) ?h ?l ?c ?k;(case h=>k_is);(case l=>k_is);(case c=>k_is);(case k=>k_is)
  obtain ⟨a63,d63,g63,F63⟩:=u
  have u:=by refine' Ms.tf KX (x:="show_next") (st:=Ms.sm .dh) ?h ?l ?c ?k;(case h=>k_is);(case l=>k_is);(case c=>k_is);(case k=>k_is)
  obtain ⟨a64,d64,g64,F64⟩:=u
  have u:=by refine' Ms.tf KX (x:="check_book") (st:=Ms.sm .cQ) ?h ?l ?c ?k;(case h=>k_is);(case l=>k_is);(case c=>k_is);(case k=>k_is)
  obtain ⟨a65,d65,g65,F65⟩:=u
  have u:=by refine' Ms.tf KX (x:="show_now") (st:=Ms.sm .dN) ?h ?l ?c ?k;(case h=>k_is);(case l=>k_is);(case c=>k_is);(case k=>k_is)
  obtain ⟨a66,d66,g66,F66⟩:=u
  have u:=by refine' Ms.tf KX (x:="show") (st:=Ms.sm .show) ?h ?l ?c ?k;(case h=>k_is);(case l=>k_is);(case c=>k_is);(case k=>k_is)
  obtain ⟨a67,d67,g67,F67⟩:=u
  have u:=by refine' Ms.tf KX (x:="tell_fleet") (st:=Ms.sm .cK) ?h ?l ?c ?k;(case h=>k_is);(case l=>k_is);(case c=>k_is);(case k=>k_is)
  obtain ⟨a69,d69,g69,F69⟩:=u
  have u:=by refine' Ms.tf KX (x:="answer_call") (st:=Ms.sm .cA) ?h ?l ?c ?k;(case h=>k_is);(case l=>k_is);(case c=>k_is);(case k=>k_is)
  obtain ⟨a70,d70,g70,F70⟩:=u
  have u:=by refine' Ms.tf KX (x:="answers") (st:=Ms.sm .answers) ?h ?l ?c ?k;(case h=>k_is);(case l=>k_is);(case c=>k_is);(case k=>k_is)
  obtain ⟨a71,d71,g71,F71⟩:=u
  have u:=by refine' Ms.wc KX ?h ?pg ?hd ?po ?sa ?mk ?kc ?a0 ?i0 ?l0 ?c0 ?k0 ?n0 ?n1 ?n2 ?n3 ?n4;(case h=>k_is);(case pg=>k_is);(case hd=>k_is);(case po=>k_is);(case sa=>k_is);(case mk=>k_is);(case kc=>k_is);(case a0=>k_is);(case i0=>k_is);(case l0=>k_is);(case c0=>k_is);(case k0=>k_is);(case n0=>k_is);(case n1=>k_is);(case n2=>k_is);(case n3=>k_is);(case n4=>k_is)
  obtain ⟨C72,a0,d0,G72,L72,M72,N72,F0⟩:=u
  have u:=by refine' Ms.xN KX ?h ?pg ?hd ?po ?sa ?mk ?kc ?a0 ?i0 ?l0 ?c0 ?k0 ?n0 ?n1;(case h=>k_is);(case pg=>k_is);(case hd=>k_is);(case po=>k_is);(case sa=>k_is);(case mk=>k_is);(case kc=>k_is);(case a0=>k_is);(case i0=>k_is);(case l0=>k_is);(case c0=>k_is);(case k0=>k_is);(case n0=>k_is);(case n1=>k_is)
  obtain ⟨C73,a1,d1,G73,L73,M73,N73,F1⟩:=u
  have u:=by refine' Ms.vZ KX ?h ?pg ?hd ?po ?sa ?mk ?kc ?a0 ?i0 ?l0 ?c0 ?k0 ?n0 ?n1 ?n2 ?n3 ?n4 ?n5 ?n6 ?n7;(case h=>k_is);(case pg=>k_is);(case hd=>k_is);(case po=>k_is);(case sa=>k_is);(case mk=>k_is);(case kc=>k_is);(case a0=>k_is);(case i0=>k_is);(case l0=>k_is);(case c0=>k_is);(case k0=>k_is);(case n0=>k_is);(case n1=>k_is);(case n2=>k_is);(case n3=>k_is);(case n4=>k_is);(case n5=>k_is);(case n6=>k_is);(case n7=>k_is)
  obtain ⟨C74,a2,d2,G74,L74,M74,N74,F2⟩:=u
  have u:=by refine' Ms.uk KX ?h ?pg ?hd ?po ?sa ?mk ?kc ?a0 ?i0 ?l0 ?c0 ?k0 ?n0 ?n1 ?n2 ?n3 ?n4;(case h=>k_is);(case pg=>k_is);(case hd=>k_is);(case po=>k_is);(case sa=>k_is);(case mk=>k_is);(case kc=>k_is);(case a0=>k_is);(case i0=>k_is);(case l0=>k_is);(case c0=>k_is);(case k0=>k_is);(case n0=>k_is);(case n1=>k_is);(case n2=>k_is);(case n3=>k_is);(case n4=>k_is)
  obtain ⟨C75,a3,d3,G75,L75,M75,N75,F3⟩:=u
  have u:=by refine' Ms.w9 KX ?h ?pg ?hd ?po ?sa ?mk ?kc ?a0 ?i0 ?l0 ?c0 ?k0 ?n0 ?n1 ?n2 ?n3;(case h=>k_is);(case pg=>k_is);(case hd=>k_is);(case po=>k_is);(case sa=>k_is);(case mk=>k_is);(case kc=>k_is);(case a0=>k_is);(case i0=>k_is);(case l0=>k_is);(case c0=>k_is);(case k0=>k_is);(case n0=>k_is);(case n1=>k_is);(case n2=>k_is);(case n3=>k_is)
  obtain ⟨C76,a4,d4,G76,L76,M76,N76,F4⟩:=u
  have u:=by refine' Ms.xK KX ?h ?pg ?hd ?po ?sa ?mk ?kc ?a0 ?i0 ?l0 ?c0 ?k0 ?n0 ?n1 ?n2 ?n3;(case h=>k_is);(case pg=>k_is);(case hd=>k_is);(case po=>k_is);(case sa=>k_is);(case mk=>k_is);(case kc=>k_is);(case a0=>k_is);(case i0=>k_is);(case l0=>k_is);(case c0=>k_is);(case k0=>k_is);(case n0=>k_is);(case n1=>k_is);(case n2=>k_is);(case n3=>k_is)
  obtain ⟨C77,a5,d5,G77,L77,M77,N77,F5⟩:=u
  have u:=by refine' Ms.wb KX ?h ?pg ?hd ?po ?sa ?mk ?kc ?a0 ?i0 ?l0 ?c0 ?k0 ?n0 ?n1 ?n2 ?n3 ?n4 ?n5 ?n6 ?n7 ?n8 ?n9 ?n10 ?n11 ?n12 ?n13;(case h=>k_is);(case pg=>k_is);(case hd=>k_is);(case po=>k_is);(case sa=>k_is);(case mk=>k_is);(case kc=>k_is);(case a0=>k_is);(case i0=>k_is);(case l0=>k_is);(case c0=>k_is);(case k0=>k_is);(case n0=>k_is);(case n1=>k_is);(case n2=>k_is);(case n3=>k_is);(case n4=>k_is);(case n5=>k_is);(case n6=>k_is);(case n7=>k_is);(case n8=>k_is);(case n9=>k_is);(case n10=>k_is);(case n11=>k_is);(case n12=>k_is);(case n13=>k_is)
  obtain ⟨C78,a6,d6,G78,L78,M78,N78,F6⟩:=u
  have u:=by refine' Ms.xO KX ?h ?pg ?hd ?po ?sa ?mk ?kc ?a0 ?i0 ?l0 ?c0 ?k0 ?n0 ?n1 ?n2;(case h=>k_is);(case pg=>k_is);(case hd=>k_is);(case po=>k_is);(case sa=>k_is);(case mk=>k_is);(case kc=>k_is);(case a0=>k_is);(case i0=>k_is);(case l0=>k_is);(case c0=>k_is);(case k0=>k_is);(case n0=>k_is);(case n1=>k_is);(case n2=>k_is)
  obtain ⟨C79,a16,d16,G79,L79,M79,N79,F16⟩:=u
  have u:=by refine' Ms.um KX ?h ?pg ?hd ?po ?sa ?mk ?kc ?a0 ?i0 ?l0 ?c0 ?k0 ?a1 ?i1 ?l1 ?c1 ?k1 ?a2 ?i2 ?l2 ?c2 ?k2 ?a3 ?i3 ?l3 ?c3 ?k3 ?n0 ?n1;(case h=>k_is);(case pg=>k_is);(case hd=>k_is);(case po=>k_is);(case sa=>k_is);(case mk=>k_is);(case kc=>k_is);(case a0=>k_is);(case i0=>k_is);(case l0=>k_is);(case c0=>k_is);(case k0=>k_is);(case a1=>k_is);(case i1=>k_is);(case l1=>k_is);(case c1=>k_is);(case k1=>k_is);(case a2=>k_is);(case i2=>k_is);(case l2=>k_is);(case c2=>k_is);(case k2=>k_is);(case a3=>k_is);(case i3=>k_is);(case l3=>k_is);(case c3=>k_is);(case k3=>k_is);(case n0=>k_is);(case n1=>k_is)
  obtain ⟨C80,a17,a18,a19,a20,d17,d18,d19,d20,G80,L80,M80,N80,F17,F18,M18,F19,M19,F20,M20⟩:=u
  have u:=by refine' Ms.xM KX ?h ?pg ?hd ?po ?sa ?mk ?kc ?a0 ?i0 ?l0 ?c0 ?k0 ?n0;(case h=>k_is);(case pg=>k_is);(case hd=>k_is);(case po=>k_is);(case sa=>k_is);(case mk=>k_is);(case kc=>k_is);(case a0=>k_is);(case i0=>k_is);(case l0=>k_is);(case c0=>k_is);(case k0=>k_is);(case n0=>k_is)
  obtain ⟨C81,a68,d68,G81,L81,M81,N81,F68⟩:=u
  have u:=by refine' Ms.wt KX (x:="TELLING_CALLS") (b0:=1) (b1:=2) (b2:=3) ?h ?l;(case h=>k_is);(case l=>k_is)
  obtain ⟨a82,g82,F82⟩:=u
  have u:=by refine' Ms.wt KX (x:="REPLAYING_CALLS") (b0:=14) (b1:=15) (b2:=16) ?h ?l;(case h=>k_is);(case l=>k_is)
  obtain ⟨a83,g83,F83⟩:=u
  have u:=by refine' Ms.Ag KX (x:="COMING") (b0:=1) (b1:=2) ?h ?l;(case h=>k_is);(case l=>k_is)
  obtain ⟨a84,g84,F84⟩:=u
  have u:=by refine' Ms.wt KX (x:="WITH_SHOVEL") (b0:=1) (b1:=2) (b2:=3) ?h ?l;(case h=>k_is);(case l=>k_is)
  obtain ⟨a85,g85,F85⟩:=u
  have u:=by refine' Ms.Af KX (x:="WITH_MINUTES_TO_GO") (b0:=1) (b1:=3) (b2:=4) (b3:=6) ?h ?l;(case h=>k_is);(case l=>k_is)
  obtain ⟨a86,g86,F86⟩:=u
  have u:=by refine' Ms.pN KX ?h ?l ?s ?h0 ?h1 ?h2;(case h=>k_is);(case h0=>k_is);(case h1=>k_is);(case h2=>k_is);(case l=>k_is);(case s=>rfl)
  obtain ⟨a89,g89,F89⟩:=u
  have u:=by refine' Ms.r6 KX ?h ?l ?s ?h0 ?h1 ?h2;(case h=>k_is);(case h0=>k_is);(case h1=>k_is);(case h2=>k_is);(case l=>k_is);(case s=>rfl)
  obtain ⟨a90,g90,F90⟩:=u
  have u:=by refine' Ms.uj KX ?h ?l ?s ?h0 ?h1 ?h2 ?h3 ?h4 ?h5 ?h6 ?h7 ?h8 ?h9 ?h10;(case h=>k_is);(case h0=>k_is);(case h1=>k_is);(case h2=>k_is);(case h3=>k_is);(case h4=>k_is);(case h5=>k_is);(case h6=>k_is);(case h7=>k_is);(case h8=>k_is);(case h9=>k_is);(case h10=>k_is);(case l=>k_is);(case s=>rfl)
  obtain ⟨a91,g91,F91⟩:=u
  have u:=by refine' Ms.mB KX ?h ?l ?s ?l0 ?l1 ?l2 ?l3 ?l4 ?l5 ?l6 ?l7 ?l8 ?l9 ?l10 ?l11 ?l12 ?l13 ?l14 ?l15 ?l16 ?l17 ?l0_0 ?l0_1 ?l0_2 ?l1_0 ?l1_1 ?l1_2 ?l1_3 ?l2_0 ?l2_1 ?l2_2 ?l2_3 ?l3_0 ?l4_0 ?l5_0 ?l6_0 ?l7_0 ?l8_0 ?l9_0 ?l12_0 ?l14_0 ?l14_1 ?l15_0 ?l16_0;(case h=>k_is);(case l=>k_is);(case s=>rfl);(case l0=>k_is);(case l1=>k_is);(case l2=>k_is);(case l3=>k_is);(case l4=>k_is);(case l5=>k_is);(case l6=>k_is);(case l7=>k_is);(case l8=>k_is);(case l9=>k_is);(case l10=>k_is);(case l11=>k_is);(case l12=>k_is);(case l13=>k_is);(case l14=>k_is);(case l15=>k_is);(case l16=>k_is);(case l17=>k_is);(case l0_0=>k_is);(case l0_1=>k_is);(case l0_2=>k_is);(case l1_0=>k_is);(case l1_1=>k_is);(case l1_2=>k_is);(case l1_3=>k_is);(case l2_0=>k_is);(case l2_1=>k_is);(case l2_2=>k_is);(case l2_3=>k_is);(case l3_0=>k_is);(case l4_0=>k_is);(case l5_0=>k_is);(case l6_0=>k_is);(case l7_0=>k_is);(case l8_0=>k_is);(case l9_0=>k_is);(case l12_0=>k_is);(case l14_0=>k_is);(case l14_1=>k_is);(case l15_0=>k_is);(case l16_0=>k_is)
  obtain ⟨a87,g87,F87⟩:=u
  have u:=by refine' Ms.nE KX ?h ?l ?s ?l0 ?l13 ?l0_0 ?l0_1 ?l0_2 ?l0_3 ?l0_4 ?l13_0;(case h=>k_is);(case l=>k_is);(case s=>rfl);(case l0=>k_is);(case l13=>k_is);(case l0_0=>k_is);(case l0_1=>k_is);(case l0_2=>k_is);(case l0_3=>k_is);(case l0_4=>k_is);(case l13_0=>k_is)
  obtain ⟨a88,g88,F88⟩:=u
  have g92:∃ t,mg "FLEET_CALL"=some (.int (0) t):=by refine' Ms.dw KX G ?h;(case h=>k_is)
  have g93:∃ t,mg "PARK"=some (.int (0) t):=by refine' Ms.dw KX G ?h;(case h=>k_is)
  have g94:∃ t,mg "FREE"=some (.int (0) t):=by refine' Ms.dw KX G ?h;(case h=>k_is)
  have g95:∃ t,mg "TO_SHOVEL"=some (.int (1) t):=by refine' Ms.dw KX G ?h;(case h=>k_is)
  have g96:∃ t,mg "AT_SHOVEL"=some (.int (2) t):=by refine' Ms.dw KX G ?h;(case h=>k_is)
  have g97:∃ t,mg "LOADED"=some (.int (3) t):=by refine' Ms.dw KX G ?h;(case h=>k_is)
  have g98:∃ t,mg "TO_PLACE"=some (.int (4) t):=by refine' Ms.dw KX G ?h;(case h=>k_is)
  have g99:∃ t,mg "AT_PLACE"=some (.int (5) t):=by refine' Ms.dw KX G ?h;(case h=>k_is)
  have g100:∃ t,mg "TIPS"=some (.int (6) t):=by refine' Ms.dw KX G ?h;(case h=>k_is)
  have g101:∃ t,mg "ENDED"=some (.int (7) t):=by refine' Ms.dw KX G ?h;(case h=>k_is)
  have g102:∃ t,mg "TRUCK_STOPPED"=some (.int (8) t):=by refine' Ms.dw KX G ?h;(case h=>k_is)
  have g103:∃ t,mg "SHOVEL_LOADS"=some (.int (0) t):=by refine' Ms.dw KX G ?h;(case h=>k_is)
  have g104:∃ t,mg "SHOVEL_STOPPED"=some (.int (1) t):=by refine' Ms.dw KX G ?h;(case h=>k_is)
  have g105:∃ t,mg "SHOVEL_WITHOUT_TRUCK"=some (.int (2) t):=by refine' Ms.dw KX G ?h;(case h=>k_is)
  have g106:∃ t,mg "SHOVEL_NOTHING_LEFT"=some (.int (3) t):=by refine' Ms.dw KX G ?h;(case h=>k_is)
  have g107:∃ t,mg "STOP_OF_TRUCK"=some (.int (0) t):=by refine' Ms.dw KX G ?h;(case h=>k_is)
  have g108:∃ t,mg "LAST_MINUTE"=some (.int (1440) t):=by refine' Ms.dw KX G ?h;(case h=>k_is)
  have g109:∃ t,mg "MOST_TRUCKS"=some (.int (8) t):=by refine' Ms.dw KX G ?h;(case h=>k_is)
  have g110:∃ t,mg "MOST_BLOCKS"=some (.int (20) t):=by refine' Ms.dw KX G ?h;(case h=>k_is)
  have g111:∃ t,mg "MOST_STOPS"=some (.int (20) t):=by refine' Ms.dw KX G ?h;(case h=>k_is)
  have g112:∃ t,mg "LINES_AT_ONCE"=some (.int (50) t):=by refine' Ms.dw KX G ?h;(case h=>k_is)
  have g113:∃ t,mg "NUMBERS_A_LINE"=some (.int (6) t):=by refine' Ms.dw KX G ?h;(case h=>k_is)
  have g114:∃ t,mg "DONE"=some (.int (0) t):=by refine' Ms.dw KX G ?h;(case h=>k_is)
  have g115:∃ t,mg "OUT_OF_RANGE"=some (.int (-1) t):=by refine' Ms.dw KX G ?h;(case h=>k_is)
  have g116:∃ t,mg "NO_SUCH"=some (.int (-2) t):=by refine' Ms.dw KX G ?h;(case h=>k_is)
  have g117:∃ t,mg "BLOCK_TOLD"=some (.int (-3) t):=by refine' Ms.dw KX G ?h;(case h=>k_is)
  have g118:∃ t,mg "TOO_MANY"=some (.int (-4) t):=by refine' Ms.dw KX G ?h;(case h=>k_is)
  have g119:∃ t,mg "TOO_EARLY"=some (.int (-5) t):=by refine' Ms.dw KX G ?h;(case h=>k_is)
  have g120:∃ t,mg "TOO_LATE"=some (.int (-6) t):=by refine' Ms.dw KX G ?h;(case h=>k_is)
  have g121:∃ t,mg "LISTS_UNFIT"=some (.int (-7) t):=by refine' Ms.dw KX G ?h;(case h=>k_is)
  have g122:∃ t,mg "NO_FLEET"=some (.int (-8) t):=by refine' Ms.dw KX G ?h;(case h=>k_is)
  have g123:mg "all"=none:=by refine' PySem.W.mg_none_of KX G ?h;(case h=>k_is)
  have g124:mg "enumerate"=none:=by refine' PySem.W.mg_none_of KX G ?h;(case h=>k_is)
  have g125:mg "len"=none:=by refine' PySem.W.mg_none_of KX G ?h;(case h=>k_is)
  have g126:mg "min"=none:=by refine' PySem.W.mg_none_of KX G ?h;(case h=>k_is)
  have g127:mg "range"=none:=by refine' PySem.W.mg_none_of KX G ?h;(case h=>k_is)
  have g128:mg "sum"=none:=by refine' PySem.W.mg_none_of KX G ?h;(case h=>k_is)
  have g129:mg "zip"=none:=by refine' PySem.W.mg_none_of KX G ?h;(case h=>k_is)
  have T:Ms.Txt (PySem.Challenge.cw_mineshift_s01_answers_holds.heap_1 w.params) mg {f:=fun x=>match x with | .dE=>a0 | .eL=>a1 | .dC=>a2 | .cV=>a3 | .dD=>a4 | .eJ=>a5 | .dv=>a6 | .aJ=>a7 | .aE=>a8 | .aS=>a9 | .bV=>a10 | .aZ=>a11 | .aK=>a12 | .az=>a13 | .cg=>a14 | .bG=>a15 | .eO=>a16 | .cW=>a17 | .bJ=>a18 | .dP=>a19 | .aW=>a20 | .dm=>a21 | .aU=>a22 | .bO=>a23 | .bu=>a24 | .bK=>a25 | .bx=>a26 | .aT=>a27 | .bZ=>a28 | .bI=>a29 | .aR=>a30 | .bw=>a31 | .bQ=>a32 | .bR=>a33 | .cJ=>a34 | .df=>a35 | .cb=>a36 | .aQ=>a37 | .cz=>a38 | .eI=>a39 | .gG=>a40 | .dI=>a41 | .cM=>a42 | .aN=>a43 | .de=>a44 | .bH=>a45 | .cw=>a46 | .aF=>a47 | .tell=>a48 | .aY=>a49 | .outcome=>a50 | .cx=>a51 | .bP=>a52 | .cP=>a53 | .replay=>a54 | .cN=>a55 | .cu=>a56 | .aL=>a57 | .cO=>a58 | .di=>a59 | .bX=>a60 | .dg=>a61 | .bY=>a62 | .cv=>a63 | .dh=>a64 | .cQ=>a65 | .dN=>a66 | .show=>a67 | .eK=>a68 | .cK=>a69 | .cA=>a70 | .answers=>a71,fd:=fun x=>match x with | .dE=>d0 | .eL=>d1 | .dC=>d2 | .cV=>d3 | .dD=>d4 | .eJ=>d5 | .dv=>d6 | .aJ=>d7 | .aE=>d8 | .aS=>d9 | .bV=>d10 | .aZ=>d11 | .aK=>d12 | .az=>d13 | .cg=>d14 | .bG=>d15 | .eO=>d16 | .cW=>d17 | .bJ=>d18 | .dP=>d19 | .aW=>d20 | .dm=>d21 | .aU=>d22 | .bO=>d23 | .bu=>d24 | .bK=>d25 | .bx=>d26 | .aT=>d27 | .bZ=>d28 | .bI=>d29 | .aR=>d30 | .bw=>d31 | .bQ=>d32 | .bR=>d33 | .cJ=>d34 | .df=>d35 | .cb=>d36 | .aQ=>d37 | .cz=>d38 | .eI=>d39 | .gG=>d40 | .dI=>d41 | .cM=>d42 | .aN=>d43 | .de=>d44 | .bH=>d45 | .cw=>d46 | .aF=>d47 | .tell=>d48 | .aY=>d49 | .outcome=>d50 | .cx=>d51 | .bP=>d52 | .cP=>d53 | .replay=>d54 | .cN=>d55 | .cu=>d56 | .aL=>d57 | .cO=>d58 | .di=>d59 | .bX=>d60 | .dg=>d61 | .bY=>d62 | .cv=>d63 | .dh=>d64 | .cQ=>d65 | .dN=>d66 | .show=>d67 | .eK=>d68 | .cK=>d69 | .cA=>d70 | .answers=>d71,c:=fun x=>match x with | .Block=>C72 | .Load=>C73 | .Truck=>C74 | .fk=>C75 | .Place=>C76 | .Stop=>C77 | .Fleet=>C78 | .Call=>C79 | .Reader=>C80 | .iE=>C81,i6:=a82,gE:=a83,nV:=a84,j4:=a85,fN:=a86,iQ:=a87,jB:=a88,lV:=a89,mV:=a90,r8:=a91}:={
   F:=fun x=>match x with | .dE=>F0 | .eL=>F1 | .dC=>F2 | .cV=>F3 | .dD=>F4 | .eJ=>F5 | .dv=>F6 | .aJ=>F7 | .aE=>F8 | .aS=>F9 | .bV=>F10 | .aZ=>F11 | .aK=>F12 | .az=>F13 | .cg=>F14 | .bG=>F15 | .eO=>F16 | .cW=>F17 | .bJ=>F18 | .dP=>F19 | .aW=>F20 | .dm=>F21 | .aU=>F22 | .bO=>F23 | .bu=>F24 | .bK=>F25 | .bx=>F26 | .aT=>F27 | .bZ=>F28 | .bI=>F29 | .aR=>F30 | .bw=>F31 | .bQ=>F32 | .bR=>F33 | .cJ=>F34 | .df=>F35 | .cb=>F36 | .aQ=>F37 | .cz=>F38 | .eI=>F39 | .gG=>F40 | .dI=>F41 | .cM=>F42 | .aN=>F43 | .de=>F44 | .bH=>F45 | .cw=>F46 | .aF=>F47 | .tell=>F48 | .aY=>F49 | .outcome=>F50 | .cx=>F51 | .bP=>F52 | .cP=>F53 | .replay=>F54 | .cN=>F55 | .cu=>F56 | .aL=>F57 | .cO=>F58 | .di=>F59 | .bX=>F60 | .dg=>F61 | .bY=>F62 | .cv=>F63 | .dh=>F64 | .cQ=>F65 | .dN=>F66 | .show=>F67 | .eK=>F68 | .cK=>F69 | .cA=>F70 | .answers=>F71
   g:=fun x hx=>match x,hx with
    | .dE,hx=>by cases hx
    | .eL,hx=>by cases hx
    | .dC,hx=>by cases hx
    | .cV,hx=>by cases hx
    | .dD,hx=>by cases hx
    | .eJ,hx=>by cases hx
    | .dv,hx=>by cases hx
    | .aJ,_=>PySem.W.mg_of KX G g7
    | .aE,_=>PySem.W.mg_of KX G g8
    | .aS,_=>PySem.W.mg_of KX G g9
    | .bV,_=>PySem.W.mg_of KX G g10
    | .aZ,_=>PySem.W.mg_of KX G g11
    | .aK,_=>PySem.W.mg_of KX G g12
    | .az,_=>PySem.W.mg_of KX G g13
    | .cg,_=>PySem.W.mg_of KX G g14
    | .bG,_=>PySem.W.mg_of KX G g15
    | .eO,hx=>by cases hx
    | .cW,hx=>by cases hx
    | .bJ,hx=>by cases hx
    | .dP,hx=>by cases hx
    | .aW,hx=>by cases hx
    | .dm,_=>PySem.W.mg_of KX G g21
    | .aU,_=>PySem.W.mg_of KX G g22
    | .bO,_=>PySem.W.mg_of KX G g23
    | .bu,_=>PySem.W.mg_of KX G g24
    | .bK,_=>PySem.W.mg_of KX G g25
    | .bx,_=>PySem.W.mg_of KX G g26
    | .aT,_=>PySem.W.mg_of KX G g27
    | .bZ,_=>PySem.W.mg_of KX G g28
    | .bI,_=>PySem.W.mg_of KX G g29
    | .aR,_=>PySem.W.mg_of KX G g30
    | .bw,_=>PySem.W.mg_of KX G g31
    | .bQ,_=>PySem.W.mg_of KX G g32
    | .bR,_=>PySem.W.mg_of KX G g33
    | .cJ,_=>PySem.W.mg_of KX G g34
    | .df,_=>PySem.W.mg_of KX G g35
    | .cb,_=>PySem.W.mg_of KX G g36
    | .aQ,_=>PySem.W.mg_of KX G g37
    | .cz,_=>PySem.W.mg_of KX G g38
    | .eI,_=>PySem.W.mg_of KX G g39
    | .gG,_=>PySem.W.mg_of KX G g40
    | .dI,_=>PySem.W.mg_of KX G g41
    | .cM,_=>PySem.W.mg_of KX G g42
    | .aN,_=>PySem.W.mg_of KX G g43
    | .de,_=>PySem.W.mg_of KX G g44
    | .bH,_=>PySem.W.mg_of KX G g45
    | .cw,_=>PySem.W.mg_of KX G g46
    | .aF,_=>PySem.W.mg_of KX G g47
    | .tell,_=>PySem.W.mg_of KX G g48
    | .aY,_=>PySem.W.mg_of KX G g49
    | .outcome,_=>PySem.W.mg_of KX G g50
    | .cx,_=>PySem.W.mg_of KX G g51
    | .bP,_=>PySem.W.mg_of KX G g52
    | .cP,_=>PySem.W.mg_of KX G g53
    | .replay,_=>PySem.W.mg_of KX G g54
    | .cN,_=>PySem.W.mg_of KX G g55
    | .cu,_=>PySem.W.mg_of KX G g56
    | .aL,_=>PySem.W.mg_of KX G g57
    | .cO,_=>PySem.W.mg_of KX G g58
    | .di,_=>PySem.W.mg_of KX G g59
    | .bX,_=>PySem.W.mg_of KX G g60
    | .dg,_=>PySem.W.mg_of KX G g61
    | .bY,_=>PySem.W.mg_of KX G g62
    | .cv,_=>PySem.W.mg_of KX G g63
    | .dh,_=>PySem.W.mg_of KX G g64
    | .cQ,_=>PySem.W.mg_of KX G g65
    | .dN,_=>PySem.W.mg_of KX G g66
    | .show,_=>PySem.W.mg_of KX G g67
    | .eK,hx=>by cases hx
    | .cK,_=>PySem.W.mg_of KX G g69
    | .cA,_=>PySem.W.mg_of KX G g70
    | .answers,_=>PySem.W.mg_of KX G g71
   mak:=fun c=>match c with | .Block=>M72 | .Load=>M73 | .Truck=>M74 | .fk=>M75 | .Place=>M76 | .Stop=>M77 | .Fleet=>M78 | .Call=>M79 | .Reader=>M80 | .iE=>M81
   gc:=fun c=>match c with | .Block=>PySem.W.mg_of KX G G72 | .Load=>PySem.W.mg_of KX G G73 | .Truck=>PySem.W.mg_of KX G G74 | .fk=>PySem.W.mg_of KX G G75 | .Place=>PySem.W.mg_of KX G G76 | .Stop=>PySem.W.mg_of KX G G77 | .Fleet=>PySem.W.mg_of KX G G78 | .Call=>PySem.W.mg_of KX G G79 | .Reader=>PySem.W.mg_of KX G G80 | .iE=>PySem.W.mg_of KX G G81
   cl:=fun c=>match c with | .Block=>L72 | .Load=>L73 | .Truck=>L74 | .fk=>L75 | .Place=>L76 | .Stop=>L77 | .Fleet=>L78 | .Call=>L79 | .Reader=>L80 | .iE=>L81
   na:=fun c=>match c with | .Block=>N72 | .Load=>N73 | .Truck=>N74 | .fk=>N75 | .Place=>N76 | .Stop=>N77 | .Fleet=>N78 | .Call=>N79 | .Reader=>N80 | .iE=>N81
   bJ:=M18
   dP:=M19
   aW:=M20
   z4:=g123
   kr:=g124
   dX:=g125
   x9:=g126
   kQ:=g127
   mm:=g128
   x8:=g129
   mv:=g92
   ui:=g93
   p7:=g94
   kC:=g95
   kG:=g96
   kF:=g97
   lQ:=g98
   jA:=g99
   uh:=g100
   qV:=g101
   jL:=g102
   kD:=g103
   jk:=g104
   fG:=g105
   gL:=g106
   jN:=g107
   lF:=g108
   lD:=g109
   lE:=g110
   mr:=g111
   jO:=g112
   fB:=g113
   fj:=g114
   kE:=g115
   fZ:=g116
   mw:=g117
   lR:=g118
   ni:=g119
   lT:=g120
   jb:=g121
   oZ:=g122
   jM:=PySem.W.mg_of KX G g82
   jG:=F82
   j0:=PySem.W.mg_of KX G g83
   iW:=F83
   sF:=PySem.W.mg_of KX G g84
   rP:=F84
   lC:=PySem.W.mg_of KX G g85
   lA:=F85
   i5:=PySem.W.mg_of KX G g86
   hJ:=F86
   iP:=PySem.W.mg_of KX G g87
   jz:=PySem.W.mg_of KX G g88
   oY:=PySem.W.mg_of KX G g89
   qa:=PySem.W.mg_of KX G g90
   v5:=PySem.W.mg_of KX G g91
   jy:=F89 _ _ _ g42 g44 g46
   kR:=F90 _ _ _ g51 g52 g53
   gn:=F91 _ _ _ _ _ _ _ _ _ _ _ g55 g56 g58 g59 g60 g61 g62 g63 g64 g65 g66
   qQ:=F87
   xk:=F88}
  cases hmg.symm.trans (PySem.W.mg_of KX G g71)
  obtain ⟨oc,od,kV,doc,pm,an,cdv,ct,osl,rfl,lk,hcd⟩:=F71.ex
  exact⟨_,fun s us hu=>match us,hu with | [_],_=>.of_eq rfl,fun base _ _=>Ms.u9 T⟩
 case S=>
  intro K H xs a hO hwi hask hx
  cases hx with
  | cons h1 h2=>
    cases h2
    cases h1 with
    | lst hs ha=>
      have e:=L2.uZ a.1 _ ha
      subst e
      have q:((Codec.inLen 0 16000 a.1&&a.1.all (Codec.inInt (-1000000000000000000) 1000000000000000000))&&true)=true:=hwi
      rw [Bool.and_eq_true,Bool.and_eq_true] at q
      exact Ms.req hs (Codec.inNat_iff.mp q.1.1).2 hask fun H' p hp=>.lst hp (L2.va _)
