import PyProof.Rows.All
import Wide.All
import OpenK.AllK
import Wide.FinOn
import Lean
import PyProof.EqAt
import PyProof.EqKinds
import PyProof.TupleCall
import PySem.Challenge.RW_oathduel_k86_papers_written_down
set_option Elab.async false
set_option linter.all false
set_option maxRecDepth 100000
namespace L2
open PySem PySem.Spec PyProof.Rows
abbrev bD:=Sum Int Str
def fe:bD->Value->Bool
 |.inl k,v=>Value.isInt k v
 |.inr x,v=>Value.isStrOf x v
def rg (w:World):bD->Int
 |.inl k=>hashInt k
 |.inr x=>hashStr w x
theorem aT:∀ {k:bD} {v:Value},fe k v=true->(∃ i t,k=Sum.inl i/\v=Value.int i t)\/(∃ x t,k=Sum.inr x/\v=Value.str x t)
 |.inl i,v,h=>by
  obtain⟨t,e⟩:=Value.isInt_shape (k:=i) (v:=v) h
  exact .inl ⟨i,t,rfl,e⟩
 |.inr x,v,h=>by
  obtain⟨t,e⟩:=Value.isStrOf_shape (x:=x) (v:=v) h
  exact .inr ⟨x,t,rfl,e⟩
theorem jn (i:Int)(t:Tok):fe (.inl i) (.int i t)=true:=by simp [fe,Value.isInt]
theorem jo (x:Str)(t:Tok):fe (.inr x) (.str x t)=true:=by simp [fe,Value.isStrOf]
theorem nY (a b:Int):decide ((Sum.inl a:bD)=Sum.inl b)=(a == b):=by
 by_cases e:a=b
 ·subst e;simp
 ·have h:¬ (Sum.inl a:bD)=Sum.inl b:=fun q=>e (Sum.inl.inj q)
  rw[decide_eq_false h]
  exact (beq_eq_false_iff_ne.mpr e).symm
theorem nZ (a b:Str):decide ((Sum.inr a:bD)=Sum.inr b)=decide (a=b):=by
 by_cases e:a=b
 ·subst e;simp
 ·have h:¬ (Sum.inr a:bD)=Sum.inr b:=fun q=>e (Sum.inr.inj q)
  rw[decide_eq_false h,decide_eq_false e]
theorem n6 (a:Int)(b:Str):decide ((Sum.inl a:bD)=Sum.inr b)=false:=decide_eq_false (fun q=>nomatch q)
theorem n9 (a:Str)(b:Int):decide ((Sum.inr a:bD)=Sum.inl b)=false:=decide_eq_false (fun q=>nomatch q)
def aX (prog:Program)(w:World):PySem.KeyKind prog w bD where
 is:=fe
 hash:=rg w
 inj:=fun v a b ha hb=>by
  rcases aT ha with⟨i,t,rfl,rfl⟩|⟨x,t,rfl,rfl⟩
  ·rcases aT hb with⟨j,u,rfl,e⟩|⟨y,u,rfl,e⟩
   ·injection e with e1 _;rw[e1]
   ·exact nomatch e
  ·rcases aT hb with⟨j,u,rfl,e⟩|⟨y,u,rfl,e⟩
   ·exact nomatch e
   ·injection e with e1 _;rw[e1]
 byValue:=fun k v h=>by
  rcases aT h with⟨i,t,rfl,rfl⟩|⟨x,t,rfl,rfl⟩<;>rfl
 pyHash:=fun hv h=>by
  rcases aT hv with⟨i,t,rfl,rfl⟩|⟨x,t,rfl,rfl⟩
  ·exact wpAny_pyHash_int h
  ·exact wpAny_pyHash_str h
 eqBool:=fun hu hv h=>by
  rcases aT hu with⟨i,t,rfl,rfl⟩|⟨x,t,rfl,rfl⟩
  ·rcases aT hv with⟨j,u,rfl,rfl⟩|⟨y,u,rfl,rfl⟩
   ·rw[nY] at h;exact wpAny_eqBool_int h
   ·rw[n6] at h;exact SeqAt.EqAt.int_str i t y u _ _ _ _ h
  ·rcases aT hv with⟨j,u,rfl,rfl⟩|⟨y,u,rfl,rfl⟩
   ·rw[n9] at h;exact SeqAt.EqAt.str_int x t j u _ _ _ _ h
   ·rw[nZ] at h;exact wpAny_eqBool_str h
 «strs»:=fun k x t v h=>by
  rcases aT h with⟨i,u,rfl,e⟩|⟨y,u,rfl,e⟩
  ·exact nomatch e
  ·injection e with e1 _
   subst e1
   cases v<;>rfl
theorem gi (prog:Program)(w:World)(i:Int)(t:Tok):(aX prog w).is (.inl i) (.int i t)=true:=jn i t
theorem gj (prog:Program)(w:World)(x:Str)(t:Tok):(aX prog w).is (.inr x) (.str x t)=true:=jo x t
end L2
namespace L2
open PySem PySem.Spec PyProof.Rows
inductive V where
 |non|bl (b:Bool)|int (i:Int)|str (x:Str)|byt (b:Array UInt8)|flt (b:UInt64)|ref (a:Addr)|ty (n:String)
 deriving DecidableEq
def RelV:V->Value->Prop
 |.non,u=>u=Value.none
 |.bl b,u=>u=Value.bool b
 |.int i,u=>∃ t,u=Value.int i t
 |.str x,u=>∃ t,u=Value.str x t
 |.byt b,u=>∃ t,u=Value.bytes b t
 |.flt b,u=>∃ t,u=Value.float b t
 |.ref a,u=>u=Value.ref a
 |.ty n,u=>u=Value.type n
abbrev Vals:List V->List Value->Prop:=Paired RelV
theorem Vals.length {xs:List V}{us:List Value}(r:Vals xs us):xs.length=us.length:=Paired.length r
theorem Vals.get:∀ {xs:List V} {us:List Value} {i:Nat} {x:V},Vals xs us->xs[i]? =some x->∃ u,us[i]? =some u/\RelV x u
 |_,_,_,_,.nil,e=>by simp at e
 |_,_,0,_,.cons r _,e=>by simp at e;subst e;exact⟨_,rfl,r⟩
 |_,_,i+1,x,.cons _ t,e=>by
  obtain⟨u,h1,h2⟩:=Vals.get (i:=i) (x:=x) t (by simpa using e)
  exact⟨u,by simpa using h1,h2⟩
theorem Vals.set {x:V}{u:Value}(r:RelV x u):∀ {xs:List V} {us:List Value} (i:Nat),Vals xs us->Vals (xs.set i x) (us.set i u)
 |_,_,_,.nil=>.nil
 |_,_,0,.cons _ t=>.cons r t
 |_,_,i+1,.cons q t=>.cons q (Vals.set r i t)
theorem Vals.append:∀ {xs ys:List V} {us ws:List Value},Vals xs us->Vals ys ws->Vals (xs++ys) (us++ws)
 |_,_,_,_,.nil,s=>s
 |_,_,_,_,.cons r t,s=>.cons r (Vals.append t s)
theorem Vals.take:∀ {xs:List V} {us:List Value} (n:Nat),Vals xs us->Vals (xs.take n) (us.take n)
 |_,_,0,_=>.nil
 |_,_,_+1,.nil=>.nil
 |_,_,n+1,.cons r t=>.cons r (Vals.take n t)
theorem Vals.drop:∀ {xs:List V} {us:List Value} (n:Nat),Vals xs us->Vals (xs.drop n) (us.drop n)
 |_,_,0,r=>r
 |_,_,_+1,.nil=>.nil
 |_,_,n+1,.cons _ t=>Vals.drop n t
theorem Vals.none_of:∀ {xs:List V} {us:List Value} {i:Nat},Vals xs us->xs[i]? =none->us[i]? =none:=fun {xs us i} r e=>by
 have h1:=r.length
 have h2:xs.length<=i:=List.getElem?_eq_none_iff.mp e
 exact List.getElem?_eq_none_iff.mpr (by omega)
def RelO:Option V->Option Value->Prop
 |some v,some u=>RelV v u
 |none,none=>True
 |_,_=>False
def KV {κ:Type}:List (κ×V)->List (κ×Value)->Prop:=Paired fun (p:κ×V) (q:κ×Value)=>p.1=q.1/\RelV p.2 q.2
def kV:bD->V
 |.inl i=>.int i
 |.inr x=>.str x
inductive HO where
 |lst (xs:List V)
 |tup (xs:List V)
 |dK (kvs:List (bD×V))|dT (kvs:List (List bD×V))
 |set (S:Int->Bool) (n:Nat)
 |ins (C dx:Addr) (fs:List (Str×V))
 |own (x:Addr)
 |xd (fs:List (Str×V))
 |met (f x:Addr)
 |rng (lo hi:Int)
 |frz (o:Obj) (u:HO)
 |tbl (ps:Array Value)
 |ext (φ:Heap->Prop)
abbrev Hp:=Addr->Option HO
def upd (H:Hp)(a:Addr)(o:HO):Hp:=fun b=>if b=a then some o else H b
theorem ad {H:Hp}{a:Addr}{o:HO}:upd H a o a=some o:=by unfold upd;rw[if_pos rfl]
theorem ay {H:Hp}{a b:Addr}{o:HO}(h:b≠a):upd H a o b=H b:=by unfold upd;rw[if_neg h]
theorem cn {H:Hp}{a:Addr}{o u:HO}:upd (upd H a o) a u=upd H a u:=by
 funext b;unfold upd;split<;>rfl
theorem pQ {H:Hp}{a b:Addr}{o u:HO}(h:H a=some o)(h':H b=some u)(d:o≠u):a≠b:=by
 intro e;subst e;rw[h] at h';exact d (Option.some.inj h')
theorem av {H:Hp}{a b:Addr}{o:HO}(h:H a=some o)(h':H b=none):a≠b:=by
 intro e;subst e;rw[h] at h';cases h'
section
variable (P:Program)(w:World)
def ObjOk (H:Hp)(h:Heap)(a:Addr):HO->Prop
 |.lst xs=>xs.length<=sizeLine/\∃ (its:List Value) (n:Nat),Vals xs its/\h.get? a=some {cls:=.type "list",data:=.seq its.toArray n}
 |.tup xs=>xs.length<=sizeLine/\∃ its:List Value,Vals xs its/\IsTup h a its.toArray
 |.dK kvs=>kvs.length<=sizeLine/\(a == sysModules)=false/\∃ vs,KV kvs vs/\h.DictOf (aX P w) a vs
 |.dT kvs=>kvs.length<=sizeLine/\(a == sysModules)=false/\∃ xs:List (List bD×Addr×Value),
   Paired (fun (p:List bD×V) (q:List bD×Addr×Value)=>p.1=q.1/\H q.2.1=some (.tup (p.1.map kV))/\RelV p.2 q.2.2) kvs xs/\
   ∃ o es ep,h.get? a=some o/\o.ExactDict/\o.data=.dict es ep/\es.toList=xs.map (entryOfKey (tupleKind (aX P w)))/\(xs.map (·.1)).Nodup
 |.set S n=>h.SetOf (intKind P w) a S n
 |.ins C dx fs=>H dx=some (.own a)/\fs.length<=1000/\dx≠a/\h.get? a=some (PySem.W.instObj C dx)/\
   ∃ mA,h.Ns1 dx mA/\(∀ f,RelO (fs.lookup f) (mA f))/\PySem.Within mA (fs.map (·.1))
 |.own _=>∃ o,h.get? a=some o
 |.xd fs=>∃ mA,h.Ns1 a mA/\∀ f,RelO (fs.lookup f) (mA f)
 |.rng lo hi=>∃ t u v,h.get? a=some {cls:=.type "range",data:=.fields #[.int lo t,.int hi u,.int 1 v]}
 |.frz o u=>h.get? a=some o/\ObjOk H h a u
 |.tbl ps=>h.get? a=some {cls:=.none,data:=.fields ps}
 |.met f x=>h.get? a=some (PySem.W.methodObj (.ref f) (.ref x))
 |.ext φ=>φ h/\(∃ o,h.get? a=some o)/\∀ h1 h2:Heap,φ h1->(∀ o,h1.get? a=some o->h2.get? a=some o)->φ h2
def HOk (H:Hp)(h:Heap):Prop:=∀ a o,H a=some o->ObjOk P w H h a o
end
section
variable {P:Program}{w:World}{H H':Hp}{h h':Heap}{a:Addr}{o:HO}
theorem ObjOk.lt (x:ObjOk P w H h a o):a < h.objs.size:=by
 cases o with
 |lst xs=>obtain⟨_,_,_,_,e⟩:=x;exact Heap.lt_size e
 |tup xs=>obtain⟨_,_,_,p⟩:=x;exact p.lt
 |dK kvs=>obtain⟨_,_,_,_,o,_,_,e,_⟩:=x;exact Heap.lt_size e
 |dT kvs=>obtain⟨_,_,_,_,o,_,_,e,_⟩:=x;exact Heap.lt_size e
 |set S n=>obtain⟨o,_,_,_,e,_⟩:=x;exact Heap.lt_size e
 |ins C dx fs=>obtain⟨_,_,_,e,_⟩:=x;exact Heap.lt_size e
 |own y=>obtain⟨_,e⟩:=x;exact Heap.lt_size e
 |xd fs=>obtain⟨_,⟨_,_,_,e,_⟩,_⟩:=x;exact Heap.lt_size e
 |rng lo hi=>obtain⟨_,_,_,e⟩:=x;exact Heap.lt_size e
 |frz ob u=>obtain⟨e,_⟩:=x;exact Heap.lt_size e
 |tbl ps=>exact Heap.lt_size (show h.get? a=some _ from x)
 |met f y=>exact Heap.lt_size (show h.get? a=some _ from x)
 |ext φ=>obtain⟨_,⟨_,e⟩,_⟩:=x;exact Heap.lt_size e
theorem Paired.mapP {α β:Type}{F G:α->β->Prop}:∀ {l₁:List α} {l₂:List β},Paired F l₁ l₂->(∀ a b,F a b->G a b)->Paired G l₁ l₂
 |_,_,.nil,_=>.nil
 |_,_,.cons r t,f=>.cons (f _ _ r) (Paired.mapP t f)
theorem ObjOk.stay (x:ObjOk P w H h a o)(k:∀ b u,(b=a\/H b=some (.own a))->h.get? b=some u->h'.get? b=some u)
  (ho:∀ b,H b=some (.own a)->H' b=some (.own a)) (ht:∀ b xs,H b=some (.tup xs)->H' b=some (.tup xs)):ObjOk P w H' h' a o:=by
 induction o with
 |lst xs=>obtain⟨z,its,n,r,e⟩:=x;exact⟨z,its,n,r,k _ _ (.inl rfl) e⟩
 |tup xs=>obtain⟨z,its,r,ob,e,c⟩:=x;exact⟨z,its,r,ob,k _ _ (.inl rfl) e,c⟩
 |dK kvs=>obtain⟨z,y,vs,r,ob,es,ep,e,c⟩:=x;exact⟨z,y,vs,r,ob,es,ep,k _ _ (.inl rfl) e,c⟩
 |dT kvs=>
  obtain⟨z,y,xs,r,ob,es,ep,e,c⟩:=x
  exact⟨z,y,xs,Paired.mapP r fun p q z=>⟨z.1,ht _ _ z.2.1,z.2.2⟩,ob,es,ep,k _ _ (.inl rfl) e,c⟩
 |set S n=>obtain⟨ob,es,ep,t,e,c⟩:=x;exact⟨ob,es,ep,t,k _ _ (.inl rfl) e,c⟩
 |ins C dx fs=>
  obtain⟨d,z,ne,e,mA,⟨od,es,ep,e2,c⟩,r⟩:=x
  exact⟨ho _ d,z,ne,k _ _ (.inl rfl) e,mA,⟨od,es,ep,k _ _ (.inr d) e2,c⟩,r⟩
 |own y=>obtain⟨ob,e⟩:=x;exact⟨ob,k _ _ (.inl rfl) e⟩
 |xd fs=>obtain⟨mA,⟨od,es,ep,e,c⟩,r⟩:=x;exact⟨mA,⟨od,es,ep,k _ _ (.inl rfl) e,c⟩,r⟩
 |rng lo hi=>obtain⟨t,u,v,e⟩:=x;exact⟨t,u,v,k _ _ (.inl rfl) e⟩
 |frz ob u ih=>obtain⟨e,q⟩:=x;exact⟨k _ _ (.inl rfl) e,ih q⟩
 |tbl ps=>
  have e:h.get? a=some {cls:=.none,data:=.fields ps}:=x
  show h'.get? a=some {cls:=.none,data:=.fields ps}
  exact k a _ (.inl rfl) e
 |met f y=>
  have e:h.get? a=some (PySem.W.methodObj (.ref f) (.ref y)):=x
  show h'.get? a=some (PySem.W.methodObj (.ref f) (.ref y))
  exact k a _ (.inl rfl) e
 |ext φ=>obtain⟨p,⟨o,e⟩,st⟩:=x;exact⟨st _ _ p fun o q=>k _ _ (.inl rfl) q,⟨o,k _ _ (.inl rfl) e⟩,st⟩
theorem HOk.lt (x:HOk P w H h)(e:H a=some o):a < h.objs.size:=(x a o e).lt
theorem HOk.fresh (x:HOk P w H h)(e:h.objs.size<=a):H a=none:=by
 cases q:H a with
 |none=>rfl
 |some u=>exact absurd (Nat.lt_of_lt_of_le (x.lt q) e) (Nat.lt_irrefl _)
theorem HOk.kept (x:HOk P w H h)(k:∀ b u,h.get? b=some u->h'.get? b=some u):HOk P w H h':=fun a o e=>
 (x a o e).stay (fun b u _ q=>k b u q) (fun _ q=>q) fun _ _ q=>q
theorem HOk.laid (x:HOk P w H h)(k:∀ b u,h.get? b=some u->h'.get? b=some u)(hp:h.objs.size<=a)(new:ObjOk P w (upd H a o) h' a o):HOk P w (upd H a o) h':=fun b u e=>by
 have hn:=x.fresh hp
 by_cases hb:b=a
 ·subst hb;rw[ad] at e;cases e;exact new
 ·rw[ay hb] at e
  exact (x b u e).stay (fun c v _ q=>k c v q) (fun c q=>by rw[ay (av q hn)];exact q) fun c xs q=>by rw[ay (av q hn)];exact q
end
def Rd (H:Hp)(a:Addr)(u:HO):Prop:=H a=some u\/∃ o,H a=some (.frz o u)
theorem Rd.ok {P:Program}{w:World}{H:Hp}{h:Heap}{a:Addr}{u:HO}(r:Rd H a u)(x:HOk P w H h):ObjOk P w H h a u:=by
 rcases r with r|⟨o,r⟩
 ·exact x a u r
 ·obtain⟨_,q⟩:=x a _ r
  exact q
def pR:Option HO->Prop
 |some (.lst _)=>True
 |some (.dK _)=>True
 |some (.dT _)=>True
 |some (.set _ _)=>True
 |some (.ins _ _ _)=>True
 |some (.ext _)=>True
 |_=>False
section
variable {P:Program}{w:World}{H:Hp}{h h':Heap}{x e:Addr}{o':HO}
theorem HOk.write (ok:HOk P w H h)(mu:pR (H x))(he:e=x\/H e=some (.own x))(k:∀ b u,b≠e->h.get? b=some u->h'.get? b=some u)(heo:∃ u,h'.get? e=some u)
  (new:ObjOk P w (upd H x o') h' x o'):HOk P w (upd H x o') h':=fun b u q=>by
 have nown:∀ c y,H c=some (.own y)->c≠x:=fun c y r z=>by subst z;rw[r] at mu;exact mu
 have ntup:∀ c xs,H c=some (.tup xs)->c≠x:=fun c xs r z=>by subst z;rw[r] at mu;exact mu
 by_cases hb:b=x
 ·subst hb;rw[ad] at q;cases q;exact new
 ·rw[ay hb] at q
  by_cases hbe:b=e
  ·have q':H b=some (.own x):=by
    rcases he with z|z
    ·exact absurd (hbe.trans z) hb
    ·rw[hbe];exact z
   rw[q] at q';cases q'
   obtain⟨v,hv⟩:=heo
   exact⟨v,by rw[hbe];exact hv⟩
  ·refine (ok b u q).stay (fun c v hc r=>k c v ?_ r) (fun c r=>by rw[ay (nown c b r)];exact r) fun c xs r=>by rw[ay (ntup c xs r)];exact r
   rcases hc with rfl|hc
   ·exact hbe
   ·rintro rfl
    rcases he with z|z
    ·exact nown c b hc z
    ·rw[hc] at z;cases z;exact hb rfl
end
structure Un (fs ex:List Addr)(H H':Hp)(h h':Heap):Prop where
 keep:∀ b o,h.get? b=some o->H b=none->b∉fs->b∉ex->h'.get? b=some o
 slot:∀ b o,h.get? b=some o->H b=none->b∈fs->b∉ex->∃ sl,h'.get? b=some {o with slots:=sl}
 free:∀ b o,h.get? b=some o->H b=none->b∉ex->H' b=none
 there:∀ b o,h.get? b=some o->b∉ex->∃ o',h'.get? b=some o'
 tups:∀ b xs,H b=some (.tup xs)->H' b=some (.tup xs)
 frzs:∀ b o u,H b=some (.frz o u)->H' b=some (.frz o u)
 tbls:∀ b ps,H b=some (.tbl ps)->∃ more,H' b=some (.tbl (ps++more))
section
variable {fs fs' ex ex':List Addr}{H H1 H2:Hp}{h h1 h2 h':Heap}{a x e:Addr}{o:HO}
theorem Un.any (u:Un fs ex H H1 h h1){b:Addr}{ob:Obj}(q:h.get? b=some ob)(n:H b=none)(hx:b∉ex):∃ sl,h1.get? b=some {ob with slots:=sl}:=by
 by_cases hb:b∈fs
 ·exact u.slot b ob q n hb hx
 ·exact⟨ob.slots,u.keep b ob q n hb hx⟩
theorem Un.kept (k:∀ b u,h.get? b=some u->h'.get? b=some u):Un fs ex H H h h':=
 ⟨fun b ob q _ _ _=>k b ob q,fun b ob q _ _ _=>⟨ob.slots,k b ob q⟩,fun _ _ _ n _=>n,fun b ob q _=>⟨ob,k b ob q⟩,fun _ _ q=>q,fun _ _ _ q=>q,fun _ ps q=>⟨#[],by rw[q];simp⟩⟩
theorem Un.refl:Un fs ex H H h h:=Un.kept fun _ _ q=>q
theorem Un.laid (k:∀ b u,h.get? b=some u->h'.get? b=some u)(hp:h.objs.size<=a)(hn:H a=none):Un fs ex H (upd H a o) h h' where
 keep:=fun b u q _ _ _=>k b u q
 slot:=fun b u q _ _ _=>⟨u.slots,k b u q⟩
 free:=fun b u q n _=>by rw[ay (Nat.ne_of_lt (Nat.lt_of_lt_of_le (Heap.lt_size q) hp))];exact n
 there:=fun b u q _=>⟨u,k b u q⟩
 tups:=fun b xs q=>by rw[ay (av q hn)];exact q
 frzs:=fun b u xs q=>by rw[ay (av q hn)];exact q
 tbls:=fun b ps q=>⟨#[],by rw[ay (av q hn),q];simp⟩
theorem Un.write (mu:pR (H x))(he:e=x\/H e=some (.own x))(k:∀ b u,b≠e->h.get? b=some u->h'.get? b=some u)(heo:∃ u,h'.get? e=some u):Un fs ex H (upd H x o) h h':=by
 have hx:∀ b,H b=none->b≠x:=fun b n z=>by subst z;rw[n] at mu;exact mu
 have hb:∀ b,H b=none->b≠e:=fun b n z=>by
  subst z
  rcases he with r|r
  ·exact hx b n r
  ·rw[n] at r;cases r
 have hm:∀ b u,H b=some u->¬ pR (some u)->b≠x:=fun b u q nm z=>by subst z;rw[q] at mu;exact nm mu
 refine⟨fun b u q n _ _=>k b u (hb b n) q,fun b u q n _ _=>⟨u.slots,k b u (hb b n) q⟩,fun b u q n _=>by rw[ay (hx b n)];exact n,fun b u q _=>?_,
  fun b xs q=>by rw[ay (hm b _ q fun z=>z)];exact q,fun b u xs q=>by rw[ay (hm b _ q fun z=>z)];exact q,fun b ps q=>⟨#[],by rw[ay (hm b _ q fun z=>z),q];simp⟩⟩
 by_cases hbe:b=e
 ·subst hbe;exact heo
 ·exact⟨u,k b u hbe q⟩
end
def qW (h:Heap)(H:Hp):List Addr:=(List.range h.objs.size).filter fun a=>(H a).isSome
def fL (h:Heap)(H:Hp):Heap:=PySem.W.hideAll h (qW h H)
theorem jp (h:Heap)(H:Hp):(fL h H).objs.size=h.objs.size:=PySem.W.hideAll_size _ _
theorem j9 {h:Heap}{H:Hp}{b:Addr}{o:Obj}(e:h.get? b=some o)(n:H b=none):(fL h H).get? b=some o:=
 PySem.W.hideAll_get _ e fun hm=>by
  have q:(H b).isSome=true:=(List.mem_filter.mp hm).2
  rw[n] at q;simp at q
theorem mo {h:Heap}{H:Hp}{b:Addr}{o:Obj}(e:(fL h H).get? b=some o):h.get? b=some o/\H b=none:=by
 have e':h.get? b=some o:=PySem.W.of_hideAll (qW h H) e
 refine⟨e',?_⟩
 cases q:H b with
 |none=>rfl
 |some x=>
  have hm:b∈qW h H:=List.mem_filter.mpr ⟨List.mem_range.mpr (Heap.lt_size e'),by simp [q]⟩
  have z:(fL h H).get? b=none:=PySem.W.hideAll_none (qW h H) hm
  rw[z] at e;cases e
end L2
namespace L2
open PySem PySem.Spec PyProof.Rows
structure Mod (K:PySem.W.Frag)(mg:Str->Option Value)(base:Heap):Prop where
 kin:K.In base
 glob:base.Ns mainGlobals mg
 blt:∃ mb,base.Ns builtinsNs mb/\∀ x:Str,x≠"__name__"->mb x=bootBuiltins x
 nolimit:base.NoLimit
structure Cx where
 prog:Program
 w:World
 K:PySem.W.Frag
 mg:Str->Option Value
 base:Heap
 A:Around
 N:List Str
 s₀:Shared
 H₀:Hp
 env:Env
 outer:List Env
 stack:List Env
 ex:List Addr
 fn:Str->Bool
 calm:Bool
 pn:List (Addr×Obj)
 xe:Value->Shared->Prop
def cm (l:List Env):List Addr:=l.filterMap (·.frame)
abbrev Cx.fs (X:Cx):List Addr:=cm X.outer
def rh (sc:Scope)(x:Str):Prop:=sc.names.lookup x=some .local\/sc.names.lookup x=some .cell\/sc.names.lookup x=some .free
def pS (sc:Scope)(x:Str):Prop:=sc.names.lookup x=some .local\/sc.names.lookup x=some .cell
def rj (env:Env)(h:Heap)(m:Str->Option Value)(x:Str)(u:Value):Prop:=
 (env.kindOf x=some .local/\m x=some u)\/((env.kindOf x=some .cell\/env.kindOf x=some .free)/\∃ c,env.cells.lookup x=some c/\h.IsCell c (some u))
structure Cx.Ok (X:Cx):Prop where
 mod:Mod X.K X.mg X.base
 kind:X.env.scope.kind=.function
 glob:X.env.globals=mainGlobals
 blt:X.env.builtins=builtinsNs
 above:X.s₀.heap.objs.size<=X.env.locals
 inj:∀ x y c,X.env.cells.lookup x=some c->X.env.cells.lookup y=some c->x=y
 has:∀ x,(X.env.kindOf x=some .cell\/X.env.kindOf x=some .free)->∃ c,X.env.cells.lookup x=some c
 cab:∀ x c,X.fn x=true->X.env.cells.lookup x=some c->X.s₀.heap.objs.size<=c
 hd:X.calm=true->X.A.handled=none
 frames:X.A.frames=some X.stack
 stk:X.stack=X.outer\/(X.stack=X.env::X.outer/\X.env.frame=some X.env.locals)
 exf:∀ b∈X.ex,b≠X.env.locals/\∀ x c,X.env.cells.lookup x=some c->c≠b
 bs:∀ b o,X.base.get? b=some o->X.s₀.heap.get? b=some o/\X.H₀ b=none
 bsz:X.base.objs.size<=X.s₀.heap.objs.size
 noex:∀ b o,X.base.get? b=some o->b∉X.ex
 exfs:∀ b∈X.ex,b∉X.fs
 funs:X.s₀.heap.FunFrames X.base X.outer
 frf:∀ b∈X.fs,X.H₀ b=none
structure Inv (X:Cx)(pins:List (Addr×Obj))(σ:List (Option V))(H:Hp)(s:Shared):Prop where
 ok:X.Ok
 os:s.os=X.s₀.os
 bare:AllBare s.gens
 base:Un X.fs X.ex X.H₀ H X.s₀.heap s.heap
 loc:∃ m,s.heap.Ns X.env.locals m/\∀ (i:Nat) (x:Str) (v:V),X.N[i]? =some x->σ[i]? =some (some v)->rh X.env.scope x->∃ u,RelV v u/\rj X.env s.heap m x u
 cell:∀ x c,X.env.cells.lookup x=some c->∃ v,s.heap.IsCell c v
 free:H X.env.locals=none
 freeC:∀ x c,X.env.cells.lookup x=some c->H c=none
 pin:∀ p∈X.pn++pins,s.heap.get? p.1=some p.2/\H p.1=none/\p.1≠X.env.locals/\p.1∉X.fs/\∀ v,p.2.data≠.cell v
 hok:HOk X.prog X.w H s.heap
 len:σ.length=X.N.length
section
variable {X:Cx}{pins:List (Addr×Obj)}{σ:List (Option V)}{H H':Hp}{s:Shared}{h':Heap}
theorem Cx.Ok.nofr (ok:X.Ok){b:Addr}{o:Obj}(e:X.base.get? b=some o):b∉X.fs:=fun hb=>by
 have:=(ok.funs.mem hb).1
 rw[e] at this;cases this
theorem Inv.bs (I:Inv X pins σ H s):∀ b o,X.base.get? b=some o->s.heap.get? b=some o/\H b=none:=fun b o e=>
 ⟨I.base.keep b o (I.ok.bs b o e).1 (I.ok.bs b o e).2 (I.ok.nofr e) (I.ok.noex b o e),I.base.free b o (I.ok.bs b o e).1 (I.ok.bs b o e).2 (I.ok.noex b o e)⟩
theorem Inv.bk (I:Inv X pins σ H s):∀ b o,X.base.get? b=some o->s.heap.get? b=some o:=fun b o e=>(I.bs b o e).1
theorem Inv.mod (I:Inv X pins σ H s):Mod X.K X.mg X.base:=I.ok.mod
theorem Inv.kIn (I:Inv X pins σ H s):X.K.In s.heap:=I.ok.mod.kin.keeps I.bk
theorem Inv.lt (I:Inv X pins σ H s):X.env.locals < s.heap.objs.size:=let ⟨_,hn,_⟩:=I.loc;hn.lt
theorem Inv.sz (I:Inv X pins σ H s):X.s₀.heap.objs.size<=s.heap.objs.size:=Nat.le_trans I.ok.above (Nat.le_of_lt I.lt)
theorem Inv.nofs (I:Inv X pins σ H s){a:Addr}(h:s.heap.objs.size<=a):a∉X.fs:=fun hb=>by
 obtain⟨_,o,ho,_⟩:=I.ok.funs.mem hb
 exact absurd (Nat.lt_of_lt_of_le (Heap.lt_size ho) (Nat.le_trans I.sz h)) (Nat.lt_irrefl _)
theorem Inv.cne (I:Inv X pins σ H s):∀ x c,X.env.cells.lookup x=some c->c≠X.env.locals:=fun x c e z=>by
 obtain⟨v,o,ho,hd⟩:=I.cell x c e
 obtain⟨m,⟨o',es,ep,ho',hd',_⟩,_⟩:=I.loc
 rw[z,ho'] at ho;cases ho;rw[hd'] at hd;cases hd
theorem Inv.funs (I:Inv X pins σ H s):s.heap.FunFrames X.base X.outer:=by
 have all:∀ (l:List Env),(∀ b∈cm l,b∈X.fs)->X.s₀.heap.FunFrames X.base l->s.heap.FunFrames X.base l:=by
  intro l
  induction l with
  |nil=>intro _ _;trivial
  |cons env r ih=>
   intro hs hl
   obtain⟨hk,⟨L,o,hf,hn,ho,hd⟩,hr⟩:=hl
   have hL:L∈X.fs:=hs L (by unfold cm;rw[List.filterMap_cons,hf];exact List.mem_cons_self)
   obtain⟨sl,e⟩:=I.base.slot L o ho (I.ok.frf L hL) hL fun z=>I.ok.exfs L z hL
   exact⟨hk,⟨L,_,hf,hn,e,hd⟩,ih (fun b hb=>hs b (by unfold cm;rw[List.filterMap_cons,hf];exact List.mem_cons_of_mem _ hb)) hr⟩
 exact all X.outer (fun _ hb=>hb) I.ok.funs
theorem Inv.stack (I:Inv X pins σ H s):s.heap.FunFrames X.base X.stack:=by
 rcases I.ok.stk with e|⟨e,hf⟩
 ·rw[e];exact I.funs
 ·rw[e]
  obtain⟨m,hn,_⟩:=I.loc
  refine .cons (by rw[I.ok.kind];decide) hf hn ?_ I.funs
  exact Heap.get?_none_of_le (Nat.le_trans I.ok.bsz I.ok.above)
theorem Inv.stkSub (I:Inv X pins σ H s):∀ b∈cm X.stack,b∈X.env.locals::X.fs:=fun b hb=>by
 rcases I.ok.stk with e|⟨e,hf⟩
 ·rw[e] at hb;exact List.mem_cons_of_mem _ hb
 ·rw[e] at hb
  unfold cm at hb
  rw[List.filterMap_cons,hf] at hb
  exact hb
theorem Inv.stkFree (I:Inv X pins σ H s):∀ b∈cm X.stack,H b=none:=fun b hb=>by
 rcases List.mem_cons.mp (I.stkSub b hb) with e|hb
 ·rw[e];exact I.free
 ·obtain⟨_,o,ho,_⟩:=I.ok.funs.mem hb
  exact I.base.free b o ho (I.ok.frf b hb) fun z=>I.ok.exfs b z hb
theorem Inv.step {g':Array GenState}{t':Nat}{d':Drawn}{ch:List Addr}(I:Inv X pins σ H s)
  (hch:∀ b∈ch,(b∈X.ex\/X.s₀.heap.objs.size<=b)/\b≠X.env.locals/\(∀ x c,X.env.cells.lookup x=some c->c≠b)/\∀ p∈X.pn++pins,p.1≠b)
  (keep:∀ b o,b≠X.env.locals->b∉X.fs->b∉ch->s.heap.get? b=some o->H b=none->h'.get? b=some o)
  (slot:∀ b o,b≠X.env.locals->b∈X.fs->b∉ch->s.heap.get? b=some o->H b=none->∃ sl,h'.get? b=some {o with slots:=sl}) (free:∀ b o,b∉ch->s.heap.get? b=some o->H b=none->H' b=none)
  (there:∀ b o,b∉ch->s.heap.get? b=some o->∃ o',h'.get? b=some o')
  (tups:∀ b xs,H b=some (.tup xs)->H' b=some (.tup xs)) (frzs:∀ b o u,H b=some (.frz o u)->H' b=some (.frz o u)) (tbls:∀ b ps,H b=some (.tbl ps)->∃ more,H' b=some (.tbl (ps++more)))
  (ns:∀ m,s.heap.Ns X.env.locals m->h'.Ns X.env.locals m) (hok:HOk X.prog X.w H' h') (hg:AllBare g'):
  Inv X pins σ H' {s with heap:=h',gens:=g',drawn:=d',toks:=t'}:=by
 have neL:∀ b o,X.s₀.heap.get? b=some o->b≠X.env.locals:=fun b o e=>Nat.ne_of_lt (Nat.lt_of_lt_of_le (Heap.lt_size e) I.ok.above)
 have neC:∀ b o,X.s₀.heap.get? b=some o->b∉X.ex->b∉ch:=fun b o e hx hb=>by
  rcases (hch b hb).1 with z|z
  ·exact hx z
  ·exact absurd (Nat.lt_of_lt_of_le (Heap.lt_size e) z) (Nat.lt_irrefl _)
 have cellK:∀ x c,X.env.cells.lookup x=some c->∀ v,s.heap.IsCell c v->h'.IsCell c v:=fun x c e v ⟨o,ho,hd⟩=>by
  have nch:c∉ch:=fun z=>(hch c z).2.2.1 x c e rfl
  by_cases hc:c∈X.fs
  ·obtain⟨sl,q⟩:=slot c o (I.cne x c e) hc nch ho (I.freeC x c e)
   exact⟨_,q,hd⟩
  ·exact⟨o,keep c o (I.cne x c e) hc nch ho (I.freeC x c e),hd⟩
 refine⟨I.ok,I.os,hg,⟨fun b o e n hb hx=>?_,fun b o e n hb hx=>?_,fun b o e n hx=>?_,fun b o e hx=>?_,fun b xs e=>tups b xs (I.base.tups b xs e),fun b o xs e=>frzs b o xs (I.base.frzs b o xs e),fun b ps e=>?_⟩,?_,fun x c e=>?_,?_,fun x c e=>?_,fun p hp=>?_,hok,I.len⟩
 ·exact keep b o (neL b o e) hb (neC b o e hx) (I.base.keep b o e n hb hx) (I.base.free b o e n hx)
 ·obtain⟨sl,e1⟩:=I.base.slot b o e n hb hx
  obtain⟨sl',e2⟩:=slot b _ (neL b o e) hb (neC b o e hx) e1 (I.base.free b o e n hx)
  exact⟨sl',e2⟩
 ·obtain⟨o',e1⟩:=I.base.there b o e hx
  exact free b o' (neC b o e hx) e1 (I.base.free b o e n hx)
 ·obtain⟨o',e1⟩:=I.base.there b o e hx
  exact there b o' (neC b o e hx) e1
 ·obtain⟨m1,e1⟩:=I.base.tbls b ps e
  obtain⟨m2,e2⟩:=tbls b _ e1
  exact⟨m1++m2,by rw[e2,Array.append_assoc]⟩
 ·obtain⟨m,hn,hl⟩:=I.loc
  refine⟨m,ns m hn,fun i x v e1 e2 e3=>?_⟩
  obtain⟨u,r,l⟩:=hl i x v e1 e2 e3
  refine⟨u,r,?_⟩
  rcases l with l|⟨k,c,e,z⟩
  ·exact .inl l
  ·exact .inr ⟨k,c,e,cellK x c e _ z⟩
 ·obtain⟨v,z⟩:=I.cell x c e
  exact⟨v,cellK x c e v z⟩
 ·obtain⟨m,⟨o,_,_,ho,_⟩,_⟩:=I.loc
  exact free _ o (fun z=>(hch _ z).2.1 rfl) ho I.free
 ·obtain⟨v,o,ho,hd⟩:=I.cell x c e
  exact free c o (fun z=>(hch c z).2.2.1 x c e rfl) ho (I.freeC x c e)
 ·obtain⟨e,n,ne,nf,d⟩:=I.pin p hp
  have nch:p.1∉ch:=fun z=>(hch p.1 z).2.2.2 p hp rfl
  exact⟨keep p.1 p.2 ne nf nch e n,free p.1 p.2 nch e n,ne,nf,d⟩
theorem Inv.un {t':Nat}(I:Inv X pins σ H s)(u:Un X.fs [] H H' s.heap h')(hok:HOk X.prog X.w H' h'):Inv X pins σ H' {s with heap:=h',toks:=t'}:=by
 obtain⟨m,⟨o,es,ep,ho,r⟩,_⟩:=id I.loc
 obtain⟨sl,hL⟩:=u.any ho I.free (by simp)
 exact I.step (g':=s.gens) (d':=s.drawn) (ch:=[]) (fun _ z=>nomatch z) (fun b o _ hb _ e n=>u.keep b o e n hb (by simp)) (fun b o _ hb _ e n=>u.slot b o e n hb (by simp)) (fun b o _ e n=>u.free b o e n (by simp)) (fun b o _ e=>u.there b o e (by simp)) u.tups u.frzs u.tbls (fun m' hm=>by
  obtain⟨o',es',ep',ho',r'⟩:=hm
  rw[ho] at ho';cases ho'
  exact⟨_,es',ep',hL,r'⟩) hok I.bare
theorem Inv.call {g':Array GenState}{t':Nat}{d':Drawn}{ch:List Addr}(I:Inv X pins σ H s)(u:Un (cm X.stack) ch H H' s.heap h')(hok:HOk X.prog X.w H' h')(hg:AllBare g')
  (hch:∀ b∈ch,(b∈X.ex\/X.s₀.heap.objs.size<=b)/\b≠X.env.locals/\(∀ x c,X.env.cells.lookup x=some c->c≠b)/\∀ p∈X.pn++pins,p.1≠b):
  Inv X pins σ H' {s with heap:=h',gens:=g',drawn:=d',toks:=t'}:=by
 obtain⟨m,⟨o,es,ep,ho,r⟩,_⟩:=id I.loc
 obtain⟨sl,hL⟩:=u.any ho I.free fun z=>(hch _ z).2.1 rfl
 exact I.step (ch:=ch) hch (fun b o hL hb hc e n=>u.keep b o e n (fun z=>(List.mem_cons.mp (I.stkSub b z)).elim hL hb) hc) (fun b o _ _ hc e n=>u.any e n hc) (fun b o hc e n=>u.free b o e n hc) (fun b o hc e=>u.there b o e hc) u.tups u.frzs u.tbls (fun m' hm=>by
  obtain⟨o',es',ep',ho',r'⟩:=hm
  rw[ho] at ho';cases ho'
  exact⟨_,es',ep',hL,r'⟩) hok hg
theorem Inv.turned {t':Nat}{it:Addr}(I:Inv X pins σ H s)(k:∀ b o,b≠it->s.heap.get? b=some o->h'.get? b=some o)(hn:H it=none)(hL:it≠X.env.locals)
  (h1:it∈X.ex\/X.s₀.heap.objs.size<=it) (h2:∀ x c,X.env.cells.lookup x=some c->c≠it) (h3:∀ p∈X.pn++pins,p.1≠it):Inv X pins σ H {s with heap:=h',toks:=t'}:=by
 have nit:∀ b u,H b=some u->b≠it:=fun b u e z=>by rw[z,hn] at e;cases e
 refine I.step (g':=s.gens) (d':=s.drawn) (ch:=[it]) (fun b hb=>?_) (fun b o _ _ hc e _=>k b o (fun z=>hc (by simp [z])) e) (fun b o _ _ hc e _=>⟨o.slots,k b o (fun z=>hc (by simp [z])) e⟩) (fun _ _ _ _ n=>n)
  (fun b o hc e=>⟨o,k b o (fun z=>hc (by simp [z])) e⟩) (fun _ _ e=>e) (fun _ _ _ e=>e) (fun b ps e=>⟨#[],by rw[e];simp⟩) (fun m hm=>?_) (fun b u e=>?_) I.bare
 ·have e:b=it:=by simpa using hb
  subst e
  exact⟨h1,hL,h2,h3⟩
 ·obtain⟨o,es,ep,ho,r⟩:=hm
  exact⟨o,es,ep,k _ o (Ne.symm hL) ho,r⟩
 ·refine (I.hok b u e).stay (fun c v hc q=>k c v ?_ q) (fun _ q=>q) fun _ _ q=>q
  rcases hc with z|z
  ·rw[z];exact nit b u e
  ·exact nit c _ z
theorem Inv.tok (I:Inv X pins σ H s)(t:Nat):Inv X pins σ H {s with toks:=t}:=I.un (h':=s.heap) (t':=t) Un.refl I.hok
theorem Inv.kept {t':Nat}(I:Inv X pins σ H s)(k:∀ b u,s.heap.get? b=some u->h'.get? b=some u):Inv X pins σ H {s with heap:=h',toks:=t'}:=I.un (Un.kept k) (I.hok.kept k)
theorem Inv.laid {a:Addr}{o:HO}{t':Nat}(I:Inv X pins σ H s)(k:∀ b u,s.heap.get? b=some u->h'.get? b=some u)(hp:s.heap.objs.size<=a)(new:ObjOk X.prog X.w (upd H a o) h' a o):
  Inv X pins σ (upd H a o) {s with heap:=h',toks:=t'}:=I.un (Un.laid k hp (I.hok.fresh hp)) (I.hok.laid k hp new)
theorem Inv.write {x e:Addr}{o:HO}{t':Nat}(I:Inv X pins σ H s)(mu:pR (H x))(he:e=x\/H e=some (.own x))(k:∀ b u,b≠e->s.heap.get? b=some u->h'.get? b=some u)(heo:∃ u,h'.get? e=some u)
  (new:ObjOk X.prog X.w (upd H x o) h' x o):Inv X pins σ (upd H x o) {s with heap:=h',toks:=t'}:=I.un (Un.write mu he k heo) (I.hok.write mu he k heo new)
theorem Inv.pins_of {pins':List (Addr×Obj)}(I:Inv X pins σ H s)(h:∀ p∈pins',s.heap.get? p.1=some p.2/\H p.1=none/\p.1≠X.env.locals/\p.1∉X.fs/\∀ v,p.2.data≠.cell v):Inv X pins' σ H s:=
 ⟨I.ok,I.os,I.bare,I.base,I.loc,I.cell,I.free,I.freeC,fun p hp=>(List.mem_append.mp hp).elim (fun z=>I.pin p (List.mem_append_left _ z)) (h p),I.hok,I.len⟩
theorem d0 {N:List Str}(hN:N.Nodup){i j:Nat}{x:Str}(a:N[i]? =some x) (b:N[j]? =some x):i=j:=by
 obtain⟨h1,e1⟩:=List.getElem?_eq_some_iff.mp a
 obtain⟨h2,e2⟩:=List.getElem?_eq_some_iff.mp b
 exact (List.getElem_inj hN).mp (e1.trans e2.symm)
theorem fh {M:Model}{A:Around}{E:Value->Shared->Prop}{i:Nat}{x:Str}{v:V}{u:Value}{Q:Unit->Shared->Prop}(I:Inv X pins σ H s)(hN:X.N.Nodup)(hi:X.N[i]? =some x) (hx:pS X.env.scope x) (r:RelV v u)
  (h:∀ s',Inv X pins (σ.set i (some v)) H s'->(∃ a,Heap.SameBut a s.heap s'.heap/\(a=X.env.locals\/X.env.cells.lookup x=some a))->Q () s') (hf:X.fn x=true\/X.env.scope.names.lookup x=some .local:=by first|exact .inl rfl|exact .inr rfl|assumption):wpAny M A (storeName X.env x u) Q E s:=by
 obtain⟨m,hn,hl⟩:=id I.loc
 have hcls:(X.env.scope.kind == .class || (X.env.scope.kind == .module&&X.env.locals != X.env.globals))=false:=by rw[I.ok.kind];rfl
 have hiσ:i < σ.length:=by rw[I.len];exact (List.getElem?_eq_some_iff.mp hi).1
 have cne:=I.cne
 have tracked:∀ {a:Addr} {h':Heap},(∃ o,s.heap.get? a=some o/\H a=none)->Heap.SameBut a s.heap h'->HOk X.prog X.w H h':=fun {a h'} ha hs b ob e=>by
  obtain⟨_,_,hfree⟩:=ha
  refine (I.hok b ob e).stay (fun c w' hc q=>(hs.2 c ?_).trans q) (fun _ q=>q) fun _ _ q=>q
  rintro rfl
  rcases hc with rfl|hc
  ·rw[hfree] at e;cases e
  ·rw[hfree] at hc;cases hc
 rcases hx with hk|hk
 ·refine wpAny_storeName_local hk hn (fun h' hn' hs=>?_) hcls
  obtain⟨oL,_,_,hoL,_⟩:=id hn
  refine h _ ⟨I.ok,I.os,I.bare,⟨fun b o e n hb hx=>?_,fun b o e n hb hx=>?_,I.base.free,fun b o e hx=>?_,I.base.tups,I.base.frzs,I.base.tbls⟩,⟨_,hn',fun j y v' e1 e2 e3=>?_⟩,fun y c e=>?_,I.free,I.freeC,fun p hp=>?_,tracked ⟨oL,hoL,I.free⟩ hs,by simpa using I.len⟩ ⟨_,hs,.inl rfl⟩
  ·exact (hs.2 b (Nat.ne_of_lt (Nat.lt_of_lt_of_le (Heap.lt_size e) I.ok.above))).trans (I.base.keep b o e n hb hx)
  ·obtain⟨sl,e1⟩:=I.base.slot b o e n hb hx
   exact⟨sl,(hs.2 b (Nat.ne_of_lt (Nat.lt_of_lt_of_le (Heap.lt_size e) I.ok.above))).trans e1⟩
  ·obtain⟨o',e1⟩:=I.base.there b o e hx
   exact⟨o',(hs.2 b (Nat.ne_of_lt (Nat.lt_of_lt_of_le (Heap.lt_size e) I.ok.above))).trans e1⟩
  ·by_cases hj:j=i
   ·subst hj
    rw[hi] at e1;cases e1
    rw[List.getElem?_set_self hiσ] at e2
    cases e2
    exact⟨u,r,.inl ⟨hk,by simp⟩⟩
   ·rw[List.getElem?_set_ne (Ne.symm hj)] at e2
    obtain⟨u',r',q⟩:=hl j y v' e1 e2 e3
    refine⟨u',r',?_⟩
    rcases q with⟨k,e⟩|⟨k,c,e,z⟩
    ·refine .inl ⟨k,?_⟩
     have:y≠x:=fun e=>hj (d0 hN e1 (e▸hi))
     simp [this,e]
    ·exact .inr ⟨k,c,e,z.sameBut hs (cne y c e)⟩
  ·obtain⟨w',z⟩:=I.cell y c e
   exact⟨w',z.sameBut hs (cne y c e)⟩
  ·obtain⟨e,n,ne,nf,d⟩:=I.pin p hp
   exact⟨(hs.2 p.1 ne).trans e,n,ne,nf,d⟩
 ·have hfn:X.fn x=true:=by
   rcases hf with z|z
   ·exact z
   ·rw[z] at hk;cases hk
  obtain⟨c,hc⟩:=I.ok.has x (.inl hk)
  obtain⟨w',z⟩:=I.cell x c hc
  refine wpAny_storeName_cell I.ok.kind hk hc z (fun h' hc' hs=>?_)
  obtain⟨oc,hoc,hocd⟩:=id z
  refine h {s with heap:=h'} ⟨I.ok,I.os,I.bare,⟨fun b o e n hb hx=>?_,fun b o e n hb hx=>?_,I.base.free,fun b o e hx=>?_,I.base.tups,I.base.frzs,I.base.tbls⟩,⟨m,hn.sameBut hs (Ne.symm (cne x c hc)),fun j y v' e1 e2 e3=>?_⟩,fun y c' e=>?_,I.free,I.freeC,fun p hp=>?_,tracked ⟨oc,hoc,I.freeC x c hc⟩ hs,by simpa using I.len⟩ ⟨c,hs,.inr hc⟩
  ·exact (hs.2 b (Nat.ne_of_lt (Nat.lt_of_lt_of_le (Heap.lt_size e) (I.ok.cab x c hfn hc)))).trans (I.base.keep b o e n hb hx)
  ·obtain⟨sl,e1⟩:=I.base.slot b o e n hb hx
   exact⟨sl,(hs.2 b (Nat.ne_of_lt (Nat.lt_of_lt_of_le (Heap.lt_size e) (I.ok.cab x c hfn hc)))).trans e1⟩
  ·obtain⟨o',e1⟩:=I.base.there b o e hx
   exact⟨o',(hs.2 b (Nat.ne_of_lt (Nat.lt_of_lt_of_le (Heap.lt_size e) (I.ok.cab x c hfn hc)))).trans e1⟩
  ·by_cases hj:j=i
   ·subst hj
    rw[hi] at e1;cases e1
    rw[List.getElem?_set_self hiσ] at e2
    cases e2
    exact⟨u,r,.inr ⟨.inl hk,c,hc,hc'⟩⟩
   ·rw[List.getElem?_set_ne (Ne.symm hj)] at e2
    obtain⟨u',r',q⟩:=hl j y v' e1 e2 e3
    refine⟨u',r',?_⟩
    rcases q with q|⟨k,c',e,z'⟩
    ·exact .inl q
    ·refine .inr ⟨k,c',e,z'.sameBut hs ?_⟩
     rintro rfl
     exact hj (d0 hN e1 (I.ok.inj _ _ _ e hc▸hi))
  ·by_cases hcc:c'=c
   ·subst hcc;exact⟨_,hc'⟩
   ·obtain⟨w2,z2⟩:=I.cell y c' e
    exact⟨w2,z2.sameBut hs hcc⟩
  ·obtain⟨e,n,ne,nf,d⟩:=I.pin p hp
   refine⟨(hs.2 p.1 ?_).trans e,n,ne,nf,d⟩
   intro q
   rw[q,hoc] at e
   have q':oc=p.2:=Option.some.inj e
   exact d w' (by rw[← q'];exact hocd)
theorem cY {M:Model}{A:Around}{E:Value->Shared->Prop}{i:Nat}{x:Str}{v:V}{u:Value}{Q:Unit->Shared->Prop}(I:Inv X pins σ H s)(hN:X.N.Nodup)(hi:X.N[i]? =some x) (hx:pS X.env.scope x) (r:RelV v u)
  (h:∀ s',Inv X pins (σ.set i (some v)) H s'->Q () s') (hf:X.fn x=true\/X.env.scope.names.lookup x=some .local:=by first|exact .inl rfl|exact .inr rfl|assumption):wpAny M A (storeName X.env x u) Q E s:=
 fh I hN hi hx r (fun s' I' _=>h s' I') hf
theorem Inv.call' {s':Shared}{ch:List Addr}(I:Inv X pins σ H s)(ho:s'.os=s.os)(u:Un (cm X.stack) ch H H' s.heap s'.heap)(hok:HOk X.prog X.w H' s'.heap)(hg:AllBare s'.gens)
  (hch:∀ b∈ch,(b∈X.ex\/X.s₀.heap.objs.size<=b)/\b≠X.env.locals/\(∀ x c,X.env.cells.lookup x=some c->c≠b)/\∀ p∈X.pn++pins,p.1≠b):Inv X pins σ H' s':=by
 obtain⟨h',g',d',t',o'⟩:=s'
 have e:o'=s.os:=ho
 subst e
 exact I.call (g':=g') (t':=t') (d':=d') u hok hg hch
end
abbrev XK:=Value->Option Addr->Hp->Prop
abbrev St:=List (Option V)
abbrev VK:=V->Hp->Prop
abbrev TE:=St->Hp->VK->Prop
abbrev TT:=St->Hp->(Bool->Hp->Prop)->Prop
abbrev TA:=St->Hp->(List V->Hp->Prop)->Prop
structure dN where
 nx:St->Hp->Prop
 rt:VK
 bk:St->Hp->Prop:=fun _ _=>False
 ct:St->Hp->Prop:=fun _ _=>False
abbrev TS:=dN->St->Hp->Prop
def EP (X:Cx)(pins:List (Addr×Obj))(σ:St)(Q:VK)(u:Value)(s':Shared):Prop:=∃ v H',Inv X pins σ H' s'/\RelV v u/\Q v H'
def TP (X:Cx)(pins:List (Addr×Obj))(σ:St)(Q:Bool->Hp->Prop)(b:Bool)(s':Shared):Prop:=∃ H',Inv X pins σ H' s'/\Q b H'
def AP (X:Cx)(pins:List (Addr×Obj))(σ:St)(Q:List V->Hp->Prop)(us:List Value)(s':Shared):Prop:=∃ vs H',Inv X pins σ H' s'/\Vals vs us/\Q vs H'
def SP (X:Cx)(pins:List (Addr×Obj))(D:dN)(f:Flow)(s':Shared):Prop:=
 match f with
 |.next=>∃ σ' H',Inv X pins σ' H' s'/\D.nx σ' H'
 |.brk=>∃ σ' H',Inv X pins σ' H' s'/\D.bk σ' H'
 |.cont=>∃ σ' H',Inv X pins σ' H' s'/\D.ct σ' H'
 |.ret u=>∃ v σ' H',Inv X pins σ' H' s'/\RelV v u/\D.rt v H'
def PE (X:Cx)(e:Expr)(t:TE):Prop:=
 ∀ (pins:List (Addr×Obj)) (s:Shared) (σ:St) (H:Hp) (Q:VK),Inv X pins σ H s->t σ H Q->wpAny (model X.prog X.w) X.A (eval e X.env) (EP X pins σ Q) X.xe s
def PT (X:Cx)(e:Expr)(t:TT):Prop:=
 ∀ (pins:List (Addr×Obj)) (s:Shared) (σ:St) (H:Hp) (Q:Bool->Hp->Prop),Inv X pins σ H s->t σ H Q->wpAny (model X.prog X.w) X.A (isTrue e X.env (eval e X.env)) (TP X pins σ Q) X.xe s
def PW (X:Cx)(e:Expr)(t:TT):Prop:=
 ∀ (whole:Sem Value) (pins:List (Addr×Obj)) (s:Shared) (σ:St) (H:Hp) (Q:Bool->Hp->Prop),Inv X pins σ H s->t σ H Q->wpAny (model X.prog X.w) X.A (isTrue e X.env whole) (TP X pins σ Q) X.xe s
theorem PW.pt {X:Cx}{e:Expr}{t:TT}(h:PW X e t):PT X e t:=h _
def PA (X:Cx)(es:List Expr)(t:TA):Prop:=
 ∀ (pos:Pos) (pins:List (Addr×Obj)) (s:Shared) (σ:St) (H:Hp) (Q:List V->Hp->Prop),Inv X pins σ H s->t σ H Q->wpAny (model X.prog X.w) X.A (spliced (backTo pos (starEach es X.env))) (AP X pins σ Q) X.xe s
def PS (X:Cx)(st:Stmt)(t:TS):Prop:=
 ∀ (pins:List (Addr×Obj)) (s:Shared) (σ:St) (H:Hp) (D:dN),Inv X pins σ H s->t D σ H->wpAny (model X.prog X.w) X.A (exec st X.env) (SP X pins D) X.xe s
def PSs (X:Cx)(st:List Stmt)(t:TS):Prop:=
 ∀ (pins:List (Addr×Obj)) (s:Shared) (σ:St) (H:Hp) (D:dN),Inv X pins σ H s->t D σ H->wpAny (model X.prog X.w) X.A (execs st X.env) (SP X pins D) X.xe s
theorem aV {α:Type}{t:Sem α}{Q Q':α->Shared->Prop}{M:Model}{A:Around}{E:Value->Shared->Prop}{s:Shared}(h:wpAny M A t Q E s)(hQ:∀ a s,Q a s->Q' a s):wpAny M A t Q' E s:=wpAny_mono h hQ fun _ _ x=>x
end L2
namespace L2
open PySem PySem.Spec PyProof.Rows
section
variable {X:Cx}
inductive nw (i:Nat)(σ:St)(H:Hp)(Q:VK):Prop
 |mk (v:V)(h:σ[i]? =some (some v)) (q:Q v H):nw i σ H Q
def bU (i:Nat):TE:=fun σ H Q=>nw i σ H Q
def tC (v:V):TE:=fun _ H Q=>Q v H
theorem n_ {i:Nat}{x:Str}{pos:Pos}(hN:X.N[i]? =some x) (hv:rh X.env.scope x) (hd:(x == ("__debug__":Str))=false:=by decide) (hcd:(x == ("__classdict__":Str))=false:=by decide):PE X (.Name x pos) (bU i):=by
 intro pins s σ H Q I h
 obtain⟨v,e,h⟩:=h
 obtain⟨m,hn,hl⟩:=I.loc
 obtain⟨u,r,l⟩:=hl i x v hN e hv
 have fin:EP X pins σ Q u s:=⟨v,H,I,r,h⟩
 rcases l with⟨hk,hm⟩|⟨hk,c,hc,hcell⟩
 ·exact wpAny_Name (wpAny_loadName_local I.ok.kind hk hn hm fin) hd
 ·rcases hk with hk|hk
  ·exact wpAny_Name (wpAny_loadName_cell I.ok.kind hk hc hcell fin) hd
  ·exact wpAny_Name (wpAny_loadName_free I.ok.kind hk hc hcell fin hcd) hd
theorem ac {i j pos}:PE X (.Constant (.int i) j pos) (tC (.int i)):=fun _ _ _ H _ I h=>wpAny_Constant_int ⟨.int i,H,I.tok _,⟨_,rfl⟩,h⟩
theorem cz {b j pos}:PE X (.Constant (.bool b) j pos) (tC (.bl b)):=fun _ _ _ H _ I h=>Constant_bool ⟨.bl b,H,I,rfl,h⟩
theorem bx {j pos}:PE X (.Constant .none j pos) (tC .non):=fun _ _ _ H _ I h=>Constant_none ⟨.non,H,I,rfl,h⟩
theorem aj {x j pos}:PE X (.Constant (.str x) j pos) (tC (.str x)):=fun _ _ _ H _ I h=>Calls.Constant_str ⟨.str x,H,I.tok _,⟨_,rfl⟩,h⟩
def Gl (X:Cx)(x:Str):Prop:=X.env.kindOf x=some .globalImplicit
theorem cZ {E:Value->Shared->Prop}{pins:List (Addr×Obj)}{s:Shared}{σ:St}{H:Hp}{x:Str}{u:Value}{pos:Pos}{Q:Value->Shared->Prop}(I:Inv X pins σ H s)(hg:Gl X x)(hm:X.mg x=some u)(h:Q u s)
  (hd:(x == ("__debug__":Str))=false:=by decide):wpAny (model X.prog X.w) X.A (eval (.Name x pos) X.env) Q E s:=
 Calls.Name_function_global I.ok.kind hg (Calls.loadGlobal_global (by rw[I.ok.glob];exact I.mod.glob.keeps I.bk) hm h) hd
theorem d4 {E:Value->Shared->Prop}{pins:List (Addr×Obj)}{s:Shared}{σ:St}{H:Hp}{x:Str}{u:Value}{pos:Pos}{Q:Value->Shared->Prop}(I:Inv X pins σ H s)(hg:Gl X x)(hm:X.mg x=none)(hv:bootBuiltins x=some u)(h:Q u s)
  (hn:x≠"__name__":=by decide) (hd:(x == ("__debug__":Str))=false:=by decide):wpAny (model X.prog X.w) X.A (eval (.Name x pos) X.env) Q E s:=by
 obtain⟨mb,h1,h2⟩:=I.mod.blt
 exact Calls.Name_function_global I.ok.kind hg (Calls.loadGlobal_builtin (by rw[I.ok.glob];exact I.mod.glob.keeps I.bk) hm (by rw[I.ok.blt];exact h1.keeps I.bk) ((h2 x hn).trans hv) h) hd
theorem mq {x:Str}{v:V}{u:Value}{pos:Pos}(hg:Gl X x)(hm:X.mg x=some u)(r:RelV v u)(hd:(x == ("__debug__":Str))=false:=by decide):PE X (.Name x pos) (tC v):=
 fun _ _ _ H _ I h=>cZ I hg hm ⟨v,H,I,r,h⟩ hd
theorem bg {x:Str}{v:V}{u:Value}{pos:Pos}(hg:Gl X x)(hm:X.mg x=none)(hv:bootBuiltins x=some u)(r:RelV v u)(hn:x≠"__name__":=by decide)(hd:(x == ("__debug__":Str))=false:=by decide):PE X (.Name x pos) (tC v):=
 fun _ _ _ H _ I h=>d4 I hg hm hv ⟨v,H,I,r,h⟩ hn hd
variable {a b:Expr}{ta tb:TE}{pos:Pos}
inductive og (x:V)(Q:Bool->Hp->Prop)(H:Hp):Prop
 |mk (c:Bool)(h:x=.bl c)(q:Q c H):og x Q H
def tB (t:TE):TT:=fun σ H Q=>t σ H fun x H1=>og x Q H1
theorem aZ {e:Expr}{t:TE}(h:PE X e t)(he:∀ whole,isTrue e X.env whole=(do let v ← whole;standAt e.pos;holding [v] (truthy v)):=by intro _;rfl):PT X e (tB t):=by
 intro pins s σ H Q I hw
 refine isTrue_plain (aV (h pins s σ H _ I hw) fun v s1 ⟨x,H1,I1,r1,q1⟩=>?_) (he _)
 obtain⟨d,rfl,q⟩:=q1
 cases r1
 exact wpAny_truthy_bool ⟨H1,I1,q⟩
variable {tA tB':TT}{rest:List Expr}
def rk (t u:TT):TT:=fun σ H Q=>t σ H fun c H1=>if c=true then u σ H1 Q else Q false H1
def sv (t u:TT):TT:=fun σ H Q=>t σ H fun c H1=>if c=true then Q true H1 else u σ H1 Q
def rl (t:TT):TT:=fun σ H Q=>t σ H fun c H1=>Q (!c) H1
theorem b8 (ha:PT X a tA):PW X (.BoolOp .And [a] pos) tA:=by
 intro wh pins s σ H Q I h
 refine isTrue_and (aV (ha pins s σ H Q I h) fun c s1 e=>?_)
 cases c with
 |true=>exact isTrue_and_nil e
 |false=>exact e
theorem bR (ha:PT X a tA):PW X (.BoolOp .Or [a] pos) tA:=by
 intro wh pins s σ H Q I h
 refine isTrue_or (aV (ha pins s σ H Q I h) fun c s1 e=>?_)
 cases c with
 |false=>exact isTrue_or_nil e
 |true=>exact e
theorem cg (ha:PT X a tA)(hb:PW X (.BoolOp .And (b::rest) pos) tB'):PW X (.BoolOp .And (a::b::rest) pos) (rk tA tB'):=by
 intro wh pins s σ H Q I h
 refine isTrue_and (aV (ha pins s σ H _ I h) fun c s1 ⟨H1,I1,q1⟩=>?_)
 cases c with
 |true=>exact hb wh pins s1 σ H1 Q I1 q1
 |false=>exact⟨H1,I1,q1⟩
theorem bZ (ha:PT X a tA)(hb:PW X (.BoolOp .Or (b::rest) pos) tB'):PW X (.BoolOp .Or (a::b::rest) pos) (sv tA tB'):=by
 intro wh pins s σ H Q I h
 refine isTrue_or (aV (ha pins s σ H _ I h) fun c s1 ⟨H1,I1,q1⟩=>?_)
 cases c with
 |true=>exact⟨H1,I1,q1⟩
 |false=>exact hb wh pins s1 σ H1 Q I1 q1
theorem bj (ha:PT X a tA):PT X (.UnaryOp .Not a pos) (rl tA):=by
 intro pins s σ H Q I h
 exact isTrue_not (ha pins s σ H (fun c H1=>Q (!c) H1) I h)
def pT (ta tb:TE):TE:=fun σ H Q=>ta σ H fun x H1=>∃ c,x=.bl c/\if c=true then tb σ H1 Q else Q (.bl false) H1
def pU (ta:TE):TE:=fun σ H Q=>ta σ H fun x H1=>∃ c,x=.bl c/\Q (.bl (!c)) H1
theorem cp {op}{t:TE}(h:PE X a t):PE X (.BoolOp op [a] pos) t:=fun pins s σ H Q I hw=>BoolOp_one (h pins s σ H Q I hw)
theorem b4 (ha:PE X a ta)(hb:PE X (.BoolOp .And (b::rest) pos) tb):PE X (.BoolOp .And (a::b::rest) pos) (pT ta tb):=by
 intro pins s σ H Q I h
 refine BoolOp_and (aV (ha pins s σ H _ I h) fun v s1 ⟨x,H1,I1,r1,q1⟩=>?_)
 obtain⟨c,rfl,q1⟩:=q1
 cases r1
 refine wpAny_truthy_bool ?_
 cases c with
 |true=>exact hb pins s1 σ H1 Q I1 q1
 |false=>exact⟨.bl false,H1,I1,rfl,q1⟩
theorem j_ (ha:PE X a ta):PE X (.UnaryOp .Not a pos) (pU ta):=by
 intro pins s σ H Q I h
 refine UnaryOp_ (aV (ha pins s σ H _ I h) fun v s1 ⟨x,H1,I1,r1,q1⟩=>?_)
 obtain⟨c,rfl,q1⟩:=q1
 cases r1
 exact not_of (wpAny_truthy_bool ⟨.bl (!c),H1,I1,rfl,q1⟩)
def sw (t:TT)(ta tb:TE):TE:=fun σ H Q=>t σ H fun c H1=>if c=true then ta σ H1 Q else tb σ H1 Q
theorem gk {c:Expr}(hc:PT X c tA)(ha:PE X a ta)(hb:PE X b tb):PE X (.IfExp c a b pos) (sw tA ta tb):=by
 intro pins s σ H Q I h
 refine wpAny_IfExp (aV (hc pins s σ H _ I h) fun d s1 ⟨H1,I1,q1⟩=>?_)
 cases d with
 |true=>exact ha pins s1 σ H1 Q I1 q1
 |false=>exact hb pins s1 σ H1 Q I1 q1
end
end L2
namespace L2
open PySem PySem.Spec PyProof.Rows
def SqL (K:PySem.W.Frag)(H:Hp)(a:Addr)(xs:List V):Prop:=
 Rd H a (.lst xs)\/
  ∃ (o:Obj) (its:Array Value) (n:Nat),K.lookup a=some o/\o.cls=.type "list"/\o.dict=none/\o.data=.seq its n/\its.size<=sizeLine/\Vals xs its.toList
def SqT (K:PySem.W.Frag)(H:Hp)(a:Addr)(xs:List V):Prop:=
 Rd H a (.tup xs)\/
  ∃ (o:Obj) (its:Array Value) (n:Nat),K.lookup a=some o/\o.cls=.type "tuple"/\o.data=.seq its n/\its.size<=sizeLine/\Vals xs its.toList
def rm:Value->Option V
 |.none=>some .non
 |.bool b=>some (.bl b)
 |.int i _=>some (.int i)
 |.str x _=>some (.str x)
 |.bytes b _=>some (.byt b)
 |.float b _=>some (.flt b)
 |.ref a=>some (.ref a)
 |.type n=>some (.ty n)
 |_=>none
theorem RelV.abs {x:V}{u:Value}(r:RelV x u):rm u=some x:=by
 cases x with
 |non=>cases r;rfl
 |bl _=>cases r;rfl
 |int _=>obtain⟨t,rfl⟩:=r;rfl
 |str _=>obtain⟨t,rfl⟩:=r;rfl
 |byt _=>obtain⟨t,rfl⟩:=r;rfl
 |flt _=>obtain⟨t,rfl⟩:=r;rfl
 |ref _=>cases r;rfl
 |ty _=>cases r;rfl
theorem RelV.inj {x y:V}{u:Value}(r:RelV x u)(q:RelV y u):x=y:=Option.some.inj (r.abs.symm.trans q.abs)
theorem Vals.inj:∀ {xs ys:List V} {us:List Value},Vals xs us->Vals ys us->xs=ys
 |_,_,_,.nil,.nil=>rfl
 |_,_,_,.cons r t,.cons r' t'=>by rw[r.inj r',Vals.inj t t']
section
variable {X:Cx}{pins:List (Addr×Obj)}{σ:St}{H:Hp}{s:Shared}{a:Addr}{xs ys:List V}
theorem SqL.of {K:PySem.W.Frag}(h:H a=some (.lst xs)):SqL K H a xs:=.inl (.inl h)
theorem SqT.of {K:PySem.W.Frag}(h:H a=some (.tup xs)):SqT K H a xs:=.inl (.inl h)
theorem Inv.list (I:Inv X pins σ H s)(h:SqL X.K H a xs):∃ its:List Value,Vals xs its/\PlainL s.heap a its.toArray/\xs.length<=sizeLine:=by
 rcases h with h|⟨o,its,n,hk,hc,hd,hs,hz,r⟩
 ·obtain⟨z,its,n,r,e⟩:=h.ok I.hok
  exact⟨its,r,⟨_,n,e,rfl,rfl,rfl⟩,z⟩
 ·refine⟨its.toList,r,⟨o,n,I.kIn a o hk,hc,hd,by simpa using hs⟩,?_⟩
  have e:=r.length
  simp only [Array.length_toList] at e
  omega
theorem Inv.tuple (I:Inv X pins σ H s)(h:SqT X.K H a xs):∃ its:List Value,Vals xs its/\IsTup s.heap a its.toArray/\xs.length<=sizeLine:=by
 rcases h with h|⟨o,its,n,hk,hc,hs,hz,r⟩
 ·obtain⟨z,its,r,p⟩:=h.ok I.hok
  exact⟨its,r,p,z⟩
 ·refine⟨its.toList,r,⟨o,I.kIn a o hk,hc,n,by simpa using hs⟩,?_⟩
  have e:=r.length
  simp only [Array.length_toList] at e
  omega
theorem Inv.list_inj (I:Inv X pins σ H s)(h:SqL X.K H a xs)(h':SqL X.K H a ys):xs=ys:=by
 obtain⟨its,r,⟨o,n,e,_,_,d⟩,_⟩:=I.list h
 obtain⟨its',r',⟨o',n',e',_,_,d'⟩,_⟩:=I.list h'
 rw[e] at e';cases e'
 rw[d] at d'
 injection d' with d1 _
 have:its=its':=by simpa using congrArg Array.toList d1
 subst this
 exact r.inj r'
theorem Inv.tuple_inj (I:Inv X pins σ H s)(h:SqT X.K H a xs)(h':SqT X.K H a ys):xs=ys:=by
 obtain⟨its,r,⟨o,e,_,n,d⟩,_⟩:=I.tuple h
 obtain⟨its',r',⟨o',e',_,n',d'⟩,_⟩:=I.tuple h'
 rw[e] at e';cases e'
 rw[d] at d'
 injection d' with d1 _
 have:its=its':=by simpa using congrArg Array.toList d1
 subst this
 exact r.inj r'
end
abbrev Cx.wish (X:Cx)(E:Value->Shared->Prop):Cx:={X with xe:=E}
abbrev Cx.nox (X:Cx):Cx:=X.wish fun _ _=>False
theorem Cx.Ok.wish {X:Cx}(ok:X.Ok)(E:Value->Shared->Prop):(X.wish E).Ok:=
 ⟨ok.mod,ok.kind,ok.glob,ok.blt,ok.above,ok.inj,ok.has,ok.cab,ok.hd,ok.frames,ok.stk,ok.exf,ok.bs,ok.bsz,ok.noex,ok.exfs,ok.funs,ok.frf⟩
theorem Cx.Ok.unwish {X:Cx}{E:Value->Shared->Prop}(ok:(X.wish E).Ok):X.Ok:=
 ⟨ok.mod,ok.kind,ok.glob,ok.blt,ok.above,ok.inj,ok.has,ok.cab,ok.hd,ok.frames,ok.stk,ok.exf,ok.bs,ok.bsz,ok.noex,ok.exfs,ok.funs,ok.frf⟩
section
variable {X:Cx}{pins:List (Addr×Obj)}{σ:St}{H:Hp}{s:Shared}{E:Value->Shared->Prop}
theorem Inv.wish (I:Inv X pins σ H s)(E:Value->Shared->Prop):Inv (X.wish E) pins σ H s:=⟨I.ok.wish E,I.os,I.bare,I.base,I.loc,I.cell,I.free,I.freeC,I.pin,I.hok,I.len⟩
theorem Inv.unwish (I:Inv (X.wish E) pins σ H s):Inv X pins σ H s:=⟨I.ok.unwish,I.os,I.bare,I.base,I.loc,I.cell,I.free,I.freeC,I.pin,I.hok,I.len⟩
theorem SP.unwish {D:dN}{f:Flow}{s':Shared}(h:SP (X.wish E) pins D f s'):SP X pins D f s':=by
 cases f with
 |next=>obtain⟨σ',H',I,q⟩:=h;exact⟨σ',H',I.unwish,q⟩
 |brk=>obtain⟨σ',H',I,q⟩:=h;exact⟨σ',H',I.unwish,q⟩
 |cont=>obtain⟨σ',H',I,q⟩:=h;exact⟨σ',H',I.unwish,q⟩
 |ret u=>obtain⟨v,σ',H',I,r,q⟩:=h;exact⟨v,σ',H',I.unwish,r,q⟩
theorem PSs.nox {st:List Stmt}{t:TS}(h:PSs X.nox st t):PSs X st t:=fun pins s σ H D I hw=>
 wpAny_mono (h pins s σ H D (I.wish _) hw) (fun _ _ q=>q.unwish) fun _ _ z=>False.elim z
end
section
variable {X:Cx}{st:Stmt}{rest:List Stmt}{t u:TS}{e:Expr}{te:TE}{pos:Pos}
def fi:TS:=fun D σ H=>D.nx σ H
def gW (t u:TS):TS:=fun D σ H=>t {D with nx:=u D} σ H
theorem ar:PSs X [] fi:=fun _ _ σ H _ I h=>wpAny_execs_nil ⟨σ,H,I,h⟩
theorem af (h1:PS X st t)(h2:PSs X rest u):PSs X (st::rest) (gW t u):=by
 intro pins s σ H D I h
 refine wpAny_execs_cons (aV (h1 pins s σ H {D with nx:=u D} I h) fun f s1 q=>?_)
 cases f with
 |next=>
  obtain⟨σ',H',I',q⟩:=q
  exact h2 pins s1 σ' H' D I' q
 |ret v=>exact q
 |brk=>exact q
 |cont=>exact q
theorem ah (h1:PS X st t):PSs X [st] t:=by
 intro pins s σ H D I h
 refine wpAny_execs_cons (aV (h1 pins s σ H D I h) fun f s1 q=>?_)
 cases f with
 |next=>exact wpAny_execs_nil q
 |ret v=>exact q
 |brk=>exact q
 |cont=>exact q
theorem Inv.quiet {pins:List (Addr×Obj)}{σ:St}{H:Hp}{s:Shared}(I:Inv X pins σ H s):interactive X.env=false:=by simp [interactive,I.ok.kind]
def pV (te:TE):TS:=fun D σ H=>te σ H fun _ H1=>D.nx σ H1
theorem fM (he:PE X e te)(hs:swapsWith e none pos.line X.env=pure false:=by rfl):PS X (.Expr e pos) (pV te):=by
 intro pins s σ H D I h
 exact wpAny_Expr_any (aV (he pins s σ H _ I h) fun v s1 ⟨x,H1,I1,r1,q1⟩=>⟨σ,H1,I1,q1⟩) I.quiet hs
def jq (te:TE):TS:=fun D σ H=>te σ H D.rt
theorem aq (he:PE X e te):PS X (.Return (some e) pos) (jq te):=by
 intro pins s σ H D I h
 exact wpAny_Return_some (aV (he pins s σ H _ I h) fun v s1 ⟨x,H1,I1,r1,q1⟩=>⟨x,σ,H1,I1,r1,q1⟩)
def oh (c:TT)(t u:TS):TS:=fun D σ H=>c σ H fun b H1=>if b=true then t D σ H1 else u D σ H1
theorem aD {c:Expr}{a b:List Stmt}{tc:TT}(hc:PT X c tc)(ha:PSs X a t)(hb:PSs X b u):PS X (.If c a b pos) (oh tc t u):=by
 intro pins s σ H D I h
 refine wpAny_If (aV (hc pins s σ H _ I h) fun d s1 ⟨H1,I1,q1⟩=>?_)
 cases d with
 |true=>exact ha pins s1 σ H1 D I1 q1
 |false=>exact hb pins s1 σ H1 D I1 q1
end
abbrev TG:=V->St->Hp->(St->Hp->Prop)->Prop
abbrev mr:=List V->St->Hp->(St->Hp->Prop)->Prop
def PG (X:Cx)(target:Expr)(t:TG):Prop:=
 ∀ (pins:List (Addr×Obj)) (s:Shared) (σ:St) (H:Hp) (v:V) (u:Value) (Q:St->Hp->Prop),Inv X pins σ H s->RelV v u->t v σ H Q->
  wpAny (model X.prog X.w) X.A (assign target X.env u) (fun _ s'=>∃ σ' H',Inv X pins σ' H' s'/\Q σ' H') X.xe s
def pW (X:Cx)(ts:List Expr)(t:mr):Prop:=
 ∀ (pins:List (Addr×Obj)) (s:Shared) (σ:St) (H:Hp) (vs:List V) (us:List Value) (Q:St->Hp->Prop),Inv X pins σ H s->Vals vs us->t vs σ H Q->
  wpAny (model X.prog X.w) X.A (assignInOrder ((assignEach ts X.env).map (·.2)) us) (fun _ s'=>∃ σ' H',Inv X pins σ' H' s'/\Q σ' H') X.xe s
abbrev oj:=V->V->V->Hp->(Hp->Prop)->Prop
def pX (X:Cx)(t:oj):Prop:=
 ∀ (pins:List (Addr×Obj)) (s:Shared) (σ:St) (H:Hp) (o i v:V) (ov iv u:Value) (Q:Hp->Prop),Inv X pins σ H s->RelV o ov->RelV i iv->RelV v u->t o i v H Q->
  wpAny (model X.prog X.w) X.A (setItem ov iv u) (fun _ s'=>∃ H',Inv X pins σ H' s'/\Q H') X.xe s
section
variable {X:Cx}{pos:Pos}
def bF (i:Nat):TG:=fun v σ H Q=>Q (σ.set i (some v)) H
theorem aK {i:Nat}{x:Str}(hN:X.N.Nodup)(hi:X.N[i]? =some x) (hx:pS X.env.scope x) (hf:X.fn x=true\/X.env.scope.names.lookup x=some .local:=by first|exact .inl rfl|exact .inr rfl|assumption):PG X (.Name x pos) (bF i):=by
 intro pins s σ H v u Q I r h
 exact wpAny_assign_Name (cY I hN hi hx r (fun s' I'=>⟨_,H,I',h⟩) hf)
def rn:mr:=fun vs σ H Q=>vs=[]/\Q σ H
def pY (t:TG)(u:mr):mr:=fun vs σ H Q=>∃ v r,vs=v::r/\t v σ H fun σ' H'=>u r σ' H' Q
theorem iF:pW X [] rn:=by
 intro pins s σ H vs us Q I r h
 obtain⟨e,h⟩:=h
 subst e
 cases r
 exact assignInOrder_nil ⟨σ,H,I,h⟩
theorem c5 {e:Expr}{es:List Expr}{t:TG}{u:mr}(h1:PG X e t)(h2:pW X es u)
  (hs:(assignEach (e::es) X.env).map (·.2)=assign e X.env::(assignEach es X.env).map (·.2):=by rfl):pW X (e::es) (pY t u):=by
 intro pins s σ H vs us Q I r h
 obtain⟨v,vr,e1,h⟩:=h
 subst e1
 cases r with
 |cons r rr=>
  rw[hs]
  refine assignInOrder_cons (aV (h1 pins s σ H _ _ _ I r h) fun _ s1 ⟨σ1,H1,I1,q1⟩=>?_)
  exact h2 pins s1 σ1 H1 _ _ Q I1 rr q1
def rp (K:PySem.W.Frag)(n:Nat)(t:mr):TG:=fun v σ H Q=>∃ a xs,v=.ref a/\SqT K H a xs/\xs.length=n/\t xs σ H Q
theorem oo {es:List Expr}{k:Nat}{t:mr}{n:Nat}(hc:X.calm=true)(h:pW X es t)
  (hn:(assignEach es X.env).length=n:=by rfl) (hst:(assignEach es X.env).findIdx? (·.1)=none:=by rfl):PG X (.Tuple es k pos) (rp X.K n t):=by
 intro pins s σ H v u Q I r hw
 obtain⟨a,xs,e1,hq,hl,hw⟩:=hw
 subst e1
 cases r
 obtain⟨its,rv,ht,hz⟩:=I.tuple hq
 refine assign_Tuple_tuple (I.ok.hd hc) ht (by simp [hn,← hl,rv.length]) hst fun h' hx=>?_
 have I1:Inv X pins σ H {s with heap:=h'}:=I.kept (t':=s.toks) fun b o e=>hx b o (Nat.ne_of_lt (Heap.lt_size e)) e
 exact h pins _ σ H xs _ Q I1 (by simpa using rv) hw
def rq (to ti:TE)(t:oj):TG:=fun v σ H Q=>to σ H fun o H1=>ti σ H1 fun i H2=>t o i v H2 fun H3=>Q σ H3
theorem fN {o i:Expr}{to ti:TE}{t:oj}(ho:PE X o to)(hi:PE X i ti)(hs:pX X t)
  (ha:∀ v,assign (.Subscript o i pos) X.env v=(do
   let ov ← holding [v] (eval o X.env)
   let iv ← holding [v,ov] (eval i X.env)
   standAt pos
   holding [v,ov,iv] (setItem ov iv v)
   release [v,ov,iv] []):=by intro _;rfl):PG X (.Subscript o i pos) (rq to ti t):=by
 intro pins s σ H v u Q I r h
 rw[ha]
 refine wpAny_bind (wpAny_holding (aV (ho pins s σ H _ I h) fun ov s1 ⟨x,H1,I1,r1,q1⟩=>?_))
 refine wpAny_bind (wpAny_holding (aV (hi pins s1 σ H1 _ I1 q1) fun iv s2 ⟨y,H2,I2,r2,q2⟩=>?_))
 refine wpAny_bind (wpAny_standAt (wpAny_bind (wpAny_holding (aV (hs pins s2 σ H2 x y v ov iv u _ I2 r1 r2 r q2) fun _ s3 ⟨H3,I3,q3⟩=>?_))))
 exact wpAny_release ⟨σ,H3,I3,q3⟩
def mt (te:TE)(g:TG):TS:=fun D σ H=>te σ H fun x H1=>g x σ H1 D.nx
theorem d_ {tg e:Expr}{te:TE}{g:TG}(he:PE X e te)(hg:PG X tg g)(hs:swapsWithSole [tg] e pos.line X.env=pure false:=by rfl)(hw:swappedStores [tg] e X.env=pure none:=by rfl)
  (h1:(assignEach [tg] X.env).map (·.2)=[assign tg X.env]:=by rfl):PS X (.Assign [tg] e pos) (mt te g):=by
 intro pins s σ H D I h
 refine wpAny_Assign_stores (aV (he pins s σ H _ I h) fun v s1 ⟨x,H1,I1,r1,q1⟩=>?_) hs hw
 rw[h1]
 exact aV (hg pins s1 σ H1 x v _ I1 r1 q1) fun _ s2 q=>q
theorem au {i:Nat}{x:Str}{e:Expr}{te:TE}{pos':Pos}(hN:X.N.Nodup)(hi:X.N[i]? =some x) (hx:pS X.env.scope x) (he:PE X e te) (hs:swapsWith e (some (.Name x pos')) pos.line X.env=pure false:=by rfl) (hf:X.fn x=true\/X.env.scope.names.lookup x=some .local:=by first|exact .inl rfl|exact .inr rfl|assumption):
  PS X (.Assign [.Name x pos'] e pos) (mt te (bF i)):=by
 intro pins s σ H D I h
 refine wpAny_Assign_Name (aV (he pins s σ H _ I h) fun v s1 ⟨y,H1,I1,r1,q1⟩=>?_) hs
 exact cY I1 hN hi hx r1 (fun s2 I2=>⟨_,H1,I2,q1⟩) hf
end
section
variable {X:Cx}{pos:Pos}
end
structure It where
 go:Nat->Hp->Prop
 yld:Nat->Hp->V->Hp->Prop
 stop:Nat->Hp->Prop
def ee (X:Cx)(pins:List (Addr×Obj))(H:Hp)(b:Addr):Prop:=
 H b=none/\b≠X.env.locals/\b∉X.fs/\(b∈X.ex\/X.s₀.heap.objs.size<=b)/\(∀ x c,X.env.cells.lookup x=some c->c≠b)/\∀ p∈X.pn++pins,p.1≠b
theorem Inv.fpOk {X:Cx}{pins:List (Addr×Obj)}{σ:St}{H H':Hp}{s:Shared}{b:Addr}(I:Inv X pins σ H s)(hb:s.heap.objs.size<=b)(hn:H' b=none):ee X pins H' b:=by
 refine⟨hn,Nat.ne_of_gt (Nat.lt_of_lt_of_le I.lt hb),I.nofs hb,.inr (Nat.le_trans I.sz hb),fun x c e z=>?_,fun p hp z=>?_⟩
 ·obtain⟨v,q⟩:=I.cell x c e
  exact absurd (Nat.lt_of_lt_of_le q.lt (by rw[z];exact hb)) (Nat.lt_irrefl _)
 ·exact absurd (Nat.lt_of_lt_of_le (Heap.lt_size (I.pin p hp).1) (by rw[z];exact hb)) (Nat.lt_irrefl _)
structure ka (P:Program)(w:World)(K:PySem.W.Frag)(tg:Expr)(J:It)(fp:List Addr)(it:Addr)(tn:Nat->Heap->Prop):Prop where
 mem:it∈fp
 obj:∀ i h,tn i h->∀ b∈fp,∃ o,h.get? b=some o/\∀ v,o.data≠.cell v
 keep:∀ i h h',tn i h->(∀ b∈fp,∀ o,h.get? b=some o->h'.get? b=some o)->tn i h'
 item:∀ (X:Cx),X.prog=P->X.w=w->X.K=K->X.calm=true->∀ (i:Nat) (pins:List (Addr×Obj)) (s:Shared) (σ:St) (H:Hp) (E:Value->Shared->Prop),Inv X pins σ H s->(∀ b∈fp,ee X pins H b)->tn i s.heap->J.go i H->
  wpAny (model P w) X.A (pyNext (.ref it)) (fun r s1=>∃ u,r=some u/\
   wpAny (model P w) X.A (letOwnedTupleGo tg (.ref it) u) (fun _ s2=>∃ x H',Inv X pins σ H' s2/\RelV x u/\J.yld i H x H'/\tn (i+1) s2.heap/\∀ b∈fp,H' b=none) E s1) E s
 done:∀ (X:Cx),X.prog=P->X.w=w->X.K=K->X.calm=true->∀ (i:Nat) (pins:List (Addr×Obj)) (s:Shared) (σ:St) (H:Hp) (E:Value->Shared->Prop),Inv X pins σ H s->(∀ b∈fp,ee X pins H b)->tn i s.heap->J.stop i H->
  wpAny (model P w) X.A (pyNext (.ref it)) (fun r s1=>r=none/\Inv X pins σ H s1) E s
 self:∀ (A:Around) (i:Nat) (s:Shared) (Q:Value->Shared->Prop) (E:Value->Shared->Prop),tn i s.heap->Q (.ref it) s->wpAny (model P w) A (pyIter (.ref it)) Q E s
abbrev TI:=St->Hp->(It->Hp->Prop)->Prop
def r_ (X:Cx)(pins:List (Addr×Obj))(σ:St)(tg:Expr)(R:It->Hp->Prop)(itv:Value)(s2:Shared):Prop:=
 ∃ (it:Addr) (fp:List Addr) (tn:Nat->Heap->Prop) (J:It) (H':Hp),itv=.ref it/\Inv X pins σ H' s2/\ka X.prog X.w X.K tg J fp it tn/\tn 0 s2.heap/\(∀ b∈fp,ee X pins H' b)/\R J H'
def PI (X:Cx)(tg iter:Expr)(wi:TI):Prop:=
 ∀ (pins:List (Addr×Obj)) (s:Shared) (σ:St) (H:Hp) (R:It->Hp->Prop),Inv X pins σ H s->wi σ H R->
  wpAny (model X.prog X.w) X.A (eval iter X.env) (fun v s1=>wpAny (model X.prog X.w) X.A (pyIter v) (r_ X pins σ tg R) X.xe s1) X.xe s
theorem iG {M:Model}{A:Around}{E:Value->Shared->Prop}{s:Shared}{tg:Expr}{it:Addr}{u:Value}{o:Obj}{n:String}{vs:Array Value}{Q:Unit->Shared->Prop}(ho:s.heap.get? it=some o)(hc:o.cls=.type n)(hd:o.data=.fields vs)
  (hn:["enumerate","zip","dict_itemiterator","dict_reverseitemiterator","odict_iterator","itertools.zip_longest","itertools.pairwise"].contains n=false) (hQ:Q () s):wpAny M A (letOwnedTupleGo tg (.ref it) u) Q E s:=by
 unfold letOwnedTupleGo
 cases tg<;>first
  |exact wpAny_pure hQ
  |(cases u<;>first
    |exact wpAny_pure hQ
    |(refine wpAny_bind (wpAny_load ho ?_)
      rw[hc,hd]
      show wpAny M A (if (["enumerate","zip","dict_itemiterator","dict_reverseitemiterator","odict_iterator","itertools.zip_longest","itertools.pairwise"].contains n&&vs[0]? == some (rawInt _))=true then _ else _) Q E s
      rw[if_neg (by intro h;rw[hn,Bool.false_and] at h;cases h)]
      exact wpAny_pure hQ))
def mv (K:PySem.W.Frag)(a:Addr):It:=
 ⟨fun i H=>∃ xs x,SqL K H a xs/\xs[i]? =some x,fun i H x H'=>H'=H/\∀ xs,SqL K H a xs->xs[i]? =some x,fun i H=>∃ xs,SqL K H a xs/\xs.length<=i⟩
def oq (K:PySem.W.Frag)(a:Addr):It:=
 ⟨fun i H=>∃ xs x,SqT K H a xs/\xs[i]? =some x,fun i H x H'=>H'=H/\∀ xs,SqT K H a xs->xs[i]? =some x,fun i H=>∃ xs,SqT K H a xs/\xs.length<=i⟩
def ou (lo:Int)(n:Nat):It:=⟨fun i _=>i < n,fun i H x H'=>H'=H/\x=.int (lo+i),fun i _=>n<=i⟩
theorem jr {P:Program}{w:World}{K:PySem.W.Frag}{tg:Expr}(a it:Addr):ka P w K tg (mv K a) [it] it (fun i h=>h.IsListIter it a i) where
 mem:=by simp
 obj:=fun i h st b hb=>by
  have e:b=it:=by simpa using hb
  subst e
  obtain⟨o,e,c,d⟩:=st
  exact⟨o,e,fun v z=>by rw[d] at z;cases z⟩
 keep:=fun i h h' st k=>st.at fun o e=>k it (by simp) o e
 item:=by
  intro X hP hw hK hc i pins s σ H E I hf st hg
  subst hP hw hK
  obtain⟨xs,x,hq,hx⟩:=hg
  obtain⟨its,rv,p,hz⟩:=I.list hq
  obtain⟨u,hu,ru⟩:=rv.get hx
  obtain⟨f0,f1,f2,f3,f4,f5⟩:=hf it (by simp)
  refine wpAny_pyNext_list_item st p.isList (x:=u) (by simpa using hu) fun h' st' sb=>?_
  have I1:Inv X pins σ H {s with heap:=h'}:=I.turned (t':=s.toks) (fun b o hb e=>(sb.2 b hb).trans e) f0 f1 f3 f4 f5
  obtain⟨o,e,c,d⟩:=id st'
  exact⟨u,rfl,iG (s:={s with heap:=h'}) e c d (by decide) ⟨x,H,I1,ru,⟨rfl,fun ys hy=>by rw[I.list_inj hy hq];exact hx⟩,st',fun b hb=>(hf b hb).1⟩⟩
 done:=by
  intro X hP hw hK hc i pins s σ H E I hf st hg
  subst hP hw hK
  obtain⟨xs,hq,hx⟩:=hg
  obtain⟨its,rv,p,hz⟩:=I.list hq
  obtain⟨f0,f1,f2,f3,f4,f5⟩:=hf it (by simp)
  have hl:=rv.length
  exact wpAny_pyNext_list_end (I.ok.hd hc) st p.isList (by simp;omega) fun h' eb=>⟨rfl,I.turned (t':=s.toks) (fun b o hb e=>eb b o hb e) f0 f1 f3 f4 f5⟩
 self:=fun _ _ _ _ _ st h=>wpAny_pyIter_listiter st h
theorem gX {P:Program}{w:World}{K:PySem.W.Frag}{tg:Expr}(a it:Addr):ka P w K tg (oq K a) [it] it (fun i h=>h.IsTupleIter it a i) where
 mem:=by simp
 obj:=fun i h st b hb=>by
  have e:b=it:=by simpa using hb
  subst e
  obtain⟨o,e,c,d⟩:=st
  exact⟨o,e,fun v z=>by rw[d] at z;cases z⟩
 keep:=fun i h h' st k=>st.at fun o e=>k it (by simp) o e
 item:=by
  intro X hP hw hK hc i pins s σ H E I hf st hg
  subst hP hw hK
  obtain⟨xs,x,hq,hx⟩:=hg
  obtain⟨its,rv,p,hz⟩:=I.tuple hq
  obtain⟨u,hu,ru⟩:=rv.get hx
  obtain⟨f0,f1,f2,f3,f4,f5⟩:=hf it (by simp)
  refine wpAny_pyNext_tuple_item st (show s.heap.IsTuple a its.toArray from p) (x:=u) (by simpa using hu) fun h' st' sb=>?_
  have I1:Inv X pins σ H {s with heap:=h'}:=I.turned (t':=s.toks) (fun b o hb e=>(sb.2 b hb).trans e) f0 f1 f3 f4 f5
  obtain⟨o,e,c,d⟩:=id st'
  exact⟨u,rfl,iG (s:={s with heap:=h'}) e c d (by decide) ⟨x,H,I1,ru,⟨rfl,fun ys hy=>by rw[I.tuple_inj hy hq];exact hx⟩,st',fun b hb=>(hf b hb).1⟩⟩
 done:=by
  intro X hP hw hK hc i pins s σ H E I hf st hg
  subst hP hw hK
  obtain⟨xs,hq,hx⟩:=hg
  obtain⟨its,rv,p,hz⟩:=I.tuple hq
  obtain⟨f0,f1,f2,f3,f4,f5⟩:=hf it (by simp)
  have hl:=rv.length
  exact wpAny_pyNext_tuple_end (I.ok.hd hc) st (show s.heap.IsTuple a its.toArray from p) (by simp;omega) fun h' eb=>⟨rfl,I.turned (t':=s.toks) (fun b o hb e=>eb b o hb e) f0 f1 f3 f4 f5⟩
 self:=fun _ _ _ _ _ st h=>wpAny_pyIter_tupleiter st h
theorem gY {P:Program}{w:World}{K:PySem.W.Frag}{tg:Expr}(it:Addr)(lo:Int)(n:Nat):ka P w K tg (ou lo n) [it] it (fun i h=>IsRangeIter h it (lo+(i:Nat)*1) ((n:Int) - (i:Nat)) 1) where
 mem:=by simp
 obj:=fun i h st b hb=>by
  have e:b=it:=by simpa using hb
  subst e
  exact⟨_,st,fun v z=>by
   have z':Data.fields _=Data.cell v:=z
   cases z'⟩
 keep:=fun i h h' st k=>k it (by simp) _ st
 item:=by
  intro X hP hw hK hc i pins s σ H E I hf st hg
  subst hP hw hK
  obtain⟨f0,f1,f2,f3,f4,f5⟩:=hf it (by simp)
  have W:=Walks.range (prog:=X.prog) (w:=X.w) (I.ok.hd hc) it lo 1 n
  refine W.item i s _ _ hg st fun v h' tk hv st' kk=>?_
  obtain⟨t,rfl⟩:=hv
  have I1:Inv X pins σ H {s with heap:=h',toks:=tk}:=I.turned (fun b o hb e=>kk b o (by simpa using hb) e) f0 f1 f3 f4 f5
  refine⟨_,rfl,iG (s:={s with heap:=h',toks:=tk}) (n:="range_iterator") st' rfl rfl (by decide) ⟨.int (lo+i),H,I1,⟨t,?_⟩,⟨rfl,rfl⟩,st',fun b hb=>(hf b hb).1⟩⟩
  rw[Int.mul_one]
 done:=by
  intro X hP hw hK hc i pins s σ H E I hf st hg
  subst hP hw hK
  obtain⟨f0,f1,f2,f3,f4,f5⟩:=hf it (by simp)
  exact wpAny_pyNext_range_end (I.ok.hd hc) st (by have:n<=i:=hg;omega) fun h' eb=>⟨rfl,I.turned (t':=s.toks) (fun b o hb e=>eb b o hb e) f0 f1 f3 f4 f5⟩
 self:=fun _ _ _ _ _ st h=>wpAny_pyIter_rangeiter st h
end L2
namespace L2
open PySem PySem.Spec PyProof.Rows
section
variable {X:Cx}{tg:Expr}
inductive pZ (K:PySem.W.Frag)(x:V)(H:Hp)(R:It->Hp->Prop):Prop
 |mk (a:Addr)(h:x=.ref a)(e:∃ xs,SqL K H a xs)(r:R (mv K a) H):pZ K x H R
inductive p0 (K:PySem.W.Frag)(x:V)(H:Hp)(R:It->Hp->Prop):Prop
 |mk (a:Addr)(h:x=.ref a)(e:∃ xs,SqT K H a xs)(r:R (oq K a) H):p0 K x H R
def ny (K:PySem.W.Frag)(tl:TE):TI:=fun σ H R=>tl σ H fun x H1=>pZ K x H1 R
def rz (K:PySem.W.Frag)(tl:TE):TI:=fun σ H R=>tl σ H fun x H1=>p0 K x H1 R
theorem bv {l:Expr}{tl:TE}(hl:PE X l tl):PI X tg l (ny X.K tl):=by
 intro pins s σ H R I h
 refine aV (hl pins s σ H _ I h) fun v s1 ⟨x,H1,I1,r1,q1⟩=>?_
 obtain⟨a,e,⟨xs,hq⟩,q⟩:=q1
 subst e
 cases r1
 obtain⟨its,rv,p,hz⟩:=I1.list hq
 refine wpAny_pyIter_list p.isList ?_
 refine⟨s1.heap.objs.size,[s1.heap.objs.size],_,_,H1,rfl,I1.kept (t':=s1.toks) fun b o e=>Heap.get?_push_of_some _ e,jr a _,⟨_,Heap.get?_push_size _ rfl,rfl,rfl⟩,fun b hb=>?_,q⟩
 have e:b=s1.heap.objs.size:=by simpa using hb
 subst e
 exact I1.fpOk (Nat.le_refl _) (I1.hok.fresh (Nat.le_refl _))
theorem fO {l:Expr}{tl:TE}(hl:PE X l tl):PI X tg l (rz X.K tl):=by
 intro pins s σ H R I h
 refine aV (hl pins s σ H _ I h) fun v s1 ⟨x,H1,I1,r1,q1⟩=>?_
 obtain⟨a,e,⟨xs,hq⟩,q⟩:=q1
 subst e
 cases r1
 obtain⟨its,rv,p,hz⟩:=I1.tuple hq
 refine wpAny_pyIter_tuple (show s1.heap.IsTuple a its.toArray from p) ?_
 refine⟨s1.heap.objs.size,[s1.heap.objs.size],_,_,H1,rfl,I1.kept (t':=s1.toks) fun b o e=>Heap.get?_push_of_some _ e,gX a _,⟨_,Heap.get?_push_size _ rfl,rfl,rfl⟩,fun b hb=>?_,q⟩
 have e:b=s1.heap.objs.size:=by simpa using hb
 subst e
 exact I1.fpOk (Nat.le_refl _) (I1.hok.fresh (Nat.le_refl _))
theorem kb {pins:List (Addr×Obj)}{σ:St}{H:Hp}{s:Shared}{R:It->Hp->Prop}{E:Value->Shared->Prop}{lo hi:Int}{t u v:Tok}{tk:Nat}(I:Inv X pins σ H s)(h1:-(2 ^ 62)<=lo)(h2:lo < 2 ^ 62)(h3:-(2 ^ 62)<=hi)(h4:hi < 2 ^ 62)
  (q:R (ou lo (hi - lo).toNat) H):wpAny (model X.prog X.w) X.A (pyIter (.ref s.heap.objs.size)) (r_ X pins σ tg R) E {s with heap:=s.heap.push {cls:=.type "range",data:=.fields #[.int lo t,.int hi u,.int 1 v]},toks:=tk}:=by
 refine wpAny_pyIter_range (IsRange.new ..) (small_one h1 h2 h3 h4) ?_
 have I1:Inv X pins σ H {s with heap:=s.heap.push {cls:=.type "range",data:=.fields #[.int lo t,.int hi u,.int 1 v]},toks:=tk}:=I.kept fun b o e=>Heap.get?_push_of_some _ e
 refine⟨(s.heap.push {cls:=.type "range",data:=.fields #[.int lo t,.int hi u,.int 1 v]}).objs.size,[(s.heap.push {cls:=.type "range",data:=.fields #[.int lo t,.int hi u,.int 1 v]}).objs.size],_,_,H,rfl,
  I1.kept (t':=tk) fun b o e=>Heap.get?_push_of_some _ e,gY _ lo (hi - lo).toNat,?_,fun b hb=>?_,q⟩
 ·have e1:lo+((0:Nat):Int)*1=lo:=by simp
  have e2:(((hi - lo).toNat:Nat):Int) - ((0:Nat):Int)=Builtin.Range.rangeSize lo hi 1:=by rw[rangeSize_one];split<;>omega
  show IsRangeIter _ _ (lo+((0:Nat):Int)*1) ((((hi - lo).toNat:Nat):Int) - ((0:Nat):Int)) 1
  rw[e1,e2]
  exact Heap.get?_push_size _ rfl
 ·have e:b=(s.heap.push {cls:=.type "range",data:=.fields #[.int lo t,.int hi u,.int 1 v]}).objs.size:=by simpa using hb
  subst e
  exact I1.fpOk (Nat.le_refl _) (I1.hok.fresh (Nat.le_refl _))
def p8 (ta:TA):TI:=fun σ H R=>ta σ H fun vs H1=>∃ j:Int,vs=[.int j]/\ -(2 ^ 62)<=j/\j < 2 ^ 62/\R (ou 0 j.toNat) H1
theorem fj {a:Expr}{ta:TA}{p pos:Pos}(hg:Gl X "range")(hm:X.mg "range"=none)(ha:PA X [a] ta)(hs:starEach [a] X.env=[(false,eval a X.env)]:=by rfl):PI X tg (.Call (.Name "range" p) [a] [] pos) (p8 ta):=by
 intro pins s σ H R I h
 refine Call_ (d4 I hg hm boot_range (PyProof.Rows.callWith_type1 (aV (ha pos pins s σ H _ I h) fun us s1 ⟨vs,H1,I1,r1,q1⟩=>?_) hs rfl))
 obtain⟨j,e,q1,q2,q⟩:=q1
 subst e
 cases r1 with
 |cons r rr=>
  cases rr
  obtain⟨t,rfl⟩:=r
  exact call_range_1 (kb I1 (by omega) (by omega) q1 q2 (by simpa using q))
def rA (wi:TI)(g:TG)(tb:TS):TS:=fun D σ H=>wi σ H fun J H1=>∃ W:Nat->Nat->St->Hp->Prop,(∃ m,W 0 m σ H1)/\∀ i m σ H,W i m σ H->
 (J.stop i H/\D.nx σ H)\/(J.go i H/\∃ N:St->Hp->Prop,(∀ σ' H',N σ' H'->∃ m',m' < m/\W (i+1) m' σ' H')/\∀ x H',J.yld i H x H'->g x σ H' fun σ2 H2=>tb {D with nx:=N,ct:=N,bk:=D.nx} σ2 H2)
def dq (fp:List Addr)(h:Heap):List (Addr×Obj):=fp.filterMap fun b=>(h.get? b).map fun o=>(b,o)
theorem bH {fp:List Addr}{h:Heap}{b:Addr}{o:Obj}(hb:b∈fp)(e:h.get? b=some o):(b,o)∈dq fp h:=List.mem_filterMap.mpr ⟨b,hb,by rw[e];rfl⟩
theorem jt {fp:List Addr}{h:Heap}{p:Addr×Obj}(hp:p∈dq fp h):p.1∈fp/\h.get? p.1=some p.2:=by
 obtain⟨b,hb,e⟩:=List.mem_filterMap.mp hp
 cases q:h.get? b with
 |none=>rw[q] at e;cases e
 |some o=>
  rw[q] at e
  have e':(b,o)=p:=Option.some.inj e
  subst e'
  exact⟨hb,q⟩
theorem Inv.pinned {pins:List (Addr×Obj)}{σ:St}{H:Hp}{s:Shared}{fp:List Addr}(I:Inv X pins σ H s)(hf:∀ b∈fp,ee X pins H b)(ho:∀ b∈fp,∃ o,s.heap.get? b=some o/\∀ v,o.data≠.cell v):Inv X (pins++dq fp s.heap) σ H s:=
 I.pins_of fun p hp=>(List.mem_append.mp hp).elim (fun z=>I.pin p (List.mem_append_right _ z)) fun z=>by
  obtain⟨hb,e⟩:=jt z
  obtain⟨f0,f1,f2,_⟩:=hf p.1 hb
  obtain⟨o,e',d⟩:=ho p.1 hb
  rw[e] at e';cases e'
  exact⟨e,f0,f1,f2,d⟩
theorem Inv.unpinned {pins pl:List (Addr×Obj)}{σ:St}{H:Hp}{s:Shared}(I:Inv X (pins++pl) σ H s):Inv X pins σ H s:=I.pins_of fun p hp=>I.pin p (List.mem_append_right _ (List.mem_append_left _ hp))
theorem eg {iter:Expr}{body:List Stmt}{wi:TI}{g:TG}{tb:TS}{pos:Pos}(hp:PassesOwn (model X.prog X.w) X.A X.env X.xe)(hc:X.calm=true)(hi:PI X tg iter wi)(hg:PG X tg g)(hb:PSs X body tb)
  (hs:∀ x,foldedSetIterable iter X.env x=pure x:=by intro _;rfl):PS X (.For tg iter body [] pos) (rA wi g tb):=by
 intro pins s σ H D I h
 refine wpAny_For (aV (hi pins s σ H _ I h) fun v s1 h1=>aV h1 fun itv s2 h2=>?_) hs
 obtain⟨it,fp,tn,J,H2,e,I2,T,st2,f2,W,⟨m0,w0⟩,turn⟩:=h2
 subst e
 have stat:∀ {H':Hp},(∀ b∈fp,H' b=none)->∀ b∈fp,ee X pins H' b:=fun hn b hb=>⟨hn b hb,(f2 b hb).2⟩
 refine codeAny_forLoop_any (fun n s'=>∃ i σ' H',Inv X pins σ' H' s'/\tn i s'.heap/\(∀ b∈fp,H' b=none)/\W i n σ' H') ?_ m0 ⟨0,σ,H2,I2,st2,fun b hb=>(f2 b hb).1,w0⟩
 rintro n s3 ⟨i,σ3,H3,I3,st3,fr3,w3⟩
 rcases turn i n σ3 H3 w3 with⟨stop,qn⟩|⟨go,N,hN,step⟩
 ·refine wpAny_passesOwn hp (aV (T.done X rfl rfl rfl hc i pins s3 σ3 H3 X.xe I3 (stat fr3) st3 stop) fun r s4 ⟨hr,I4⟩=>?_)
  subst hr
  exact wpAny_execs_nil ⟨σ3,H3,I4,qn⟩
 ·refine wpAny_passesOwn hp (aV (T.item X rfl rfl rfl hc i pins s3 σ3 H3 X.xe I3 (stat fr3) st3 go) fun r s4 ⟨u,hr,h4⟩=>?_)
  subst hr
  refine wpAny_passesOwn hp (aV h4 fun _ s5 ⟨x,H5,I5,r5,y5,st5,fr5⟩=>?_)
  have I5':=I5.pinned (stat fr5) (T.obj _ _ st5)
  refine wpAny_passesOwn hp (aV (hg _ s5 σ3 H5 x u _ I5' r5 (step x H5 y5)) fun _ s6 ⟨σ6,H6,I6,q6⟩=>?_)
  refine wpAny_passesOwn hp (aV (hb _ s6 σ6 H6 _ I6 q6) fun f s7 q7=>?_)
  have again:∀ {σ7:St} {H7:Hp},Inv X (pins++dq fp s5.heap) σ7 H7 s7->N σ7 H7->∃ m,m < n/\∃ i σ' H',Inv X pins σ' H' s7/\tn i s7.heap/\(∀ b∈fp,H' b=none)/\W i m σ' H':=fun {σ7 H7} I7 n7=>by
   obtain⟨m',hm,w7⟩:=hN σ7 H7 n7
   refine⟨m',hm,i+1,σ7,H7,I7.unpinned,T.keep _ _ _ st5 fun b hb o e=>(I7.pin (b,o) (List.mem_append_right _ (List.mem_append_right _ (bH hb e)))).1,fun b hb=>?_,w7⟩
   obtain⟨o,e,d⟩:=T.obj _ _ st5 b hb
   exact (I7.pin (b,o) (List.mem_append_right _ (List.mem_append_right _ (bH hb e)))).2.1
  cases f with
  |next=>obtain⟨σ7,H7,I7,n7⟩:=q7;exact again I7 n7
  |cont=>obtain⟨σ7,H7,I7,n7⟩:=q7;exact again I7 n7
  |brk=>obtain⟨σ7,H7,I7,q7⟩:=q7;exact⟨σ7,H7,I7.unpinned,q7⟩
  |ret v=>obtain⟨x7,σ7,H7,I7,r7,q7⟩:=q7;exact⟨x7,σ7,H7,I7.unpinned,r7,q7⟩
end
theorem gl {K:PySem.W.Frag}{a:Addr}{xs:List V}{g:TG}{tb:TS}{D:dN}{σ:St}{H:Hp}(Pv:Nat->St->Hp->Prop)(h0:Pv 0 σ H)(hl:∀ i σ H,i<=xs.length->Pv i σ H->SqL K H a xs)
  (hs:∀ i x σ H,xs[i]? =some x->Pv i σ H->g x σ H fun σ2 H2=>tb {D with nx:=Pv (i+1),ct:=Pv (i+1),bk:=D.nx} σ2 H2) (hd:∀ σ H,Pv xs.length σ H->D.nx σ H):
  ∃ W:Nat->Nat->St->Hp->Prop,(∃ m,W 0 m σ H)/\∀ i m σ H,W i m σ H->
   ((mv K a).stop i H/\D.nx σ H)\/((mv K a).go i H/\∃ N:St->Hp->Prop,(∀ σ' H',N σ' H'->∃ m',m' < m/\W (i+1) m' σ' H')/\∀ x H',(mv K a).yld i H x H'->g x σ H' fun σ2 H2=>tb {D with nx:=N,ct:=N,bk:=D.nx} σ2 H2):=by
 refine⟨fun i m σ H=>m=xs.length - i/\i<=xs.length/\Pv i σ H,⟨xs.length,by simp,Nat.zero_le _,h0⟩,?_⟩
 rintro i m σ H ⟨rfl,hi,p⟩
 have q:=hl i σ H hi p
 by_cases hlt:i < xs.length
 ·refine .inr ⟨⟨xs,xs[i],q,by simp [hlt]⟩,Pv (i+1),fun σ' H' p'=>⟨xs.length - (i+1),by omega,rfl,hlt,p'⟩,fun x H' y=>?_⟩
  obtain⟨e,y⟩:=y
  subst e
  exact hs i x σ _ (y xs q) p
 ·have e:i=xs.length:=by omega
  subst e
  exact .inl ⟨⟨xs,q,Nat.le_refl _⟩,hd σ H p⟩
theorem mw {K:PySem.W.Frag}{a:Addr}{xs:List V}{g:TG}{tb:TS}{D:dN}{σ:St}{H:Hp}(Pv:Nat->St->Hp->Prop)(h0:Pv 0 σ H)(hl:∀ i σ H,i<=xs.length->Pv i σ H->SqT K H a xs)
  (hs:∀ i x σ H,xs[i]? =some x->Pv i σ H->g x σ H fun σ2 H2=>tb {D with nx:=Pv (i+1),ct:=Pv (i+1),bk:=D.nx} σ2 H2) (hd:∀ σ H,Pv xs.length σ H->D.nx σ H):
  ∃ W:Nat->Nat->St->Hp->Prop,(∃ m,W 0 m σ H)/\∀ i m σ H,W i m σ H->
   ((oq K a).stop i H/\D.nx σ H)\/((oq K a).go i H/\∃ N:St->Hp->Prop,(∀ σ' H',N σ' H'->∃ m',m' < m/\W (i+1) m' σ' H')/\∀ x H',(oq K a).yld i H x H'->g x σ H' fun σ2 H2=>tb {D with nx:=N,ct:=N,bk:=D.nx} σ2 H2):=by
 refine⟨fun i m σ H=>m=xs.length - i/\i<=xs.length/\Pv i σ H,⟨xs.length,by simp,Nat.zero_le _,h0⟩,?_⟩
 rintro i m σ H ⟨rfl,hi,p⟩
 have q:=hl i σ H hi p
 by_cases hlt:i < xs.length
 ·refine .inr ⟨⟨xs,xs[i],q,by simp [hlt]⟩,Pv (i+1),fun σ' H' p'=>⟨xs.length - (i+1),by omega,rfl,hlt,p'⟩,fun x H' y=>?_⟩
  obtain⟨e,y⟩:=y
  subst e
  exact hs i x σ _ (y xs q) p
 ·have e:i=xs.length:=by omega
  subst e
  exact .inl ⟨⟨xs,q,Nat.le_refl _⟩,hd σ H p⟩
theorem ju {lo:Int}{n:Nat}{g:TG}{tb:TS}{D:dN}{σ:St}{H:Hp}(Pv:Nat->St->Hp->Prop)(h0:Pv 0 σ H)
  (hs:∀ i σ H,i < n->Pv i σ H->g (.int (lo+i)) σ H fun σ2 H2=>tb {D with nx:=Pv (i+1),ct:=Pv (i+1),bk:=D.nx} σ2 H2) (hd:∀ σ H,Pv n σ H->D.nx σ H):
  ∃ W:Nat->Nat->St->Hp->Prop,(∃ m,W 0 m σ H)/\∀ i m σ H,W i m σ H->
   ((ou lo n).stop i H/\D.nx σ H)\/((ou lo n).go i H/\∃ N:St->Hp->Prop,(∀ σ' H',N σ' H'->∃ m',m' < m/\W (i+1) m' σ' H')/\∀ x H',(ou lo n).yld i H x H'->g x σ H' fun σ2 H2=>tb {D with nx:=N,ct:=N,bk:=D.nx} σ2 H2):=by
 refine⟨fun i m σ H=>m=n - i/\i<=n/\Pv i σ H,⟨n,by simp,Nat.zero_le _,h0⟩,?_⟩
 rintro i m σ H ⟨rfl,hi,p⟩
 by_cases hlt:i < n
 ·refine .inr ⟨hlt,Pv (i+1),fun σ' H' p'=>⟨n - (i+1),by omega,rfl,hlt,p'⟩,fun x H' y=>?_⟩
  obtain⟨e,y⟩:=y
  subst e y
  exact hs i σ _ hlt p
 ·have e:i=n:=by omega
  subst e
  exact .inl ⟨Nat.le_refl _,hd σ H p⟩
end L2
namespace L2
open PySem PySem.Spec PyProof.Rows
abbrev R2:=V->V->Hp->VK->Prop
def OpR (X:Cx)(f:Value->Value->Sem Value)(r:R2):Prop:=
 ∀ (pins:List (Addr×Obj)) (s:Shared) (σ:St) (H:Hp) (x y:V) (v u:Value) (Q:VK),Inv X pins σ H s->RelV x v->RelV y u->r x y H Q->
  wpAny (model X.prog X.w) X.A (f v u) (EP X pins σ Q) X.xe s
def rB (X:Cx)(f:Value->Sem Value)(r:V->Hp->VK->Prop):Prop:=
 ∀ (pins:List (Addr×Obj)) (s:Shared) (σ:St) (H:Hp) (x:V) (v:Value) (Q:VK),Inv X pins σ H s->RelV x v->r x H Q->
  wpAny (model X.prog X.w) X.A (f v) (EP X pins σ Q) X.xe s
def bN (X:Cx)(f:Value)(r:List V->Hp->VK->Prop):Prop:=
 ∀ (pins:List (Addr×Obj)) (s:Shared) (σ:St) (H:Hp) (xs:List V) (us:List Value) (Q:VK),Inv X pins σ H s->Vals xs us->r xs H Q->
  wpAny (model X.prog X.w) X.A (call f us) (EP X pins σ Q) X.xe s
def rD (X:Cx)(r:V->Hp->(Bool->Hp->Prop)->Prop):Prop:=
 ∀ (pins:List (Addr×Obj)) (s:Shared) (σ:St) (H:Hp) (x:V) (v:Value) (Q:Bool->Hp->Prop),Inv X pins σ H s->RelV x v->r x H Q->
  wpAny (model X.prog X.w) X.A (truthy v) (TP X pins σ Q) X.xe s
def jw (r:R2)(ta tb:TE):TE:=fun σ H Q=>ta σ H fun x H1=>tb σ H1 fun y H2=>r x y H2 Q
def sx (r:V->Hp->VK->Prop)(ta:TE):TE:=fun σ H Q=>ta σ H fun x H1=>r x H1 Q
inductive sd (C:Int->Int->Prop)(g:Int->Int->V)(x y:V)(H:Hp)(Q:VK):Prop
 |mk (i j:Int)(hx:x=.int i)(hy:y=.int j)(c:C i j)(q:Q (g i j) H):sd C g x y H Q
inductive se (g:Int->Int->V)(x y:V)(H:Hp)(Q:VK):Prop
 |mk (i j:Int)(hx:x=.int i)(hy:y=.int j)(q:Q (g i j) H):se g x y H Q
inductive sf (g:Int->V)(x:V)(H:Hp)(Q:VK):Prop
 |mk (i:Int)(hx:x=.int i)(q:Q (g i) H):sf g x H Q
def rI (C:Int->Int->Prop)(g:Int->Int->V):R2:=fun x y H Q=>sd C g x y H Q
def mx (g:Int->Int->V):R2:=fun x y H Q=>se g x y H Q
def rU (g:Int->V):V->Hp->VK->Prop:=fun x H Q=>sf g x H Q
section
variable {X:Cx}{a b c:Expr}{ta tb tc:TE}{pos:Pos}
theorem ow (ha:PE X a ta)(hb:PE X b tb){pins:List (Addr×Obj)}{s:Shared}{σ:St}{H:Hp}{R:V->V->Hp->Prop}(I:Inv X pins σ H s)
  (h:ta σ H fun x H1=>tb σ H1 fun y H2=>R x y H2) {Q:Value->Shared->Prop} {f:Value->Value->Sem Value}
  (hf:∀ v u s2 x y H2,Inv X pins σ H2 s2->RelV x v->RelV y u->R x y H2->wpAny (model X.prog X.w) X.A (f v u) Q X.xe s2):
  wpAny (model X.prog X.w) X.A (eval a X.env) (fun v s₁=>wpAny (model X.prog X.w) X.A (eval b X.env) (fun u s₂=>wpAny (model X.prog X.w) X.A (f v u) Q X.xe s₂) X.xe s₁) X.xe s:=by
 refine aV (ha pins s σ H _ I h) fun v s1 ⟨x,H1,I1,r1,q1⟩=>?_
 refine aV (hb pins s1 σ H1 _ I1 q1) fun u s2 ⟨y,H2,I2,r2,q2⟩=>?_
 exact hf v u s2 x y H2 I2 r1 r2 q2
theorem ao {op:Operator}{r:R2}(ho:OpR X (binaryOp op) r)(ha:PE X a ta)(hb:PE X b tb):PE X (.BinOp a op b pos) (jw r ta tb):=by
 intro pins s σ H Q I h
 exact wpAny_BinOp (ow ha hb I h fun v u s2 x y H2 I2 rx ry q=>ho pins s2 σ H2 x y v u Q I2 rx ry q)
theorem nz {op:UnaryOp}{r:V->Hp->VK->Prop}(ho:rB X (unaryOp op) r)(ha:PE X a ta):PE X (.UnaryOp op a pos) (sx r ta):=by
 intro pins s σ H Q I h
 exact UnaryOp_ (aV (ha pins s σ H _ I h) fun v s1 ⟨x,H1,I1,r1,q1⟩=>ho pins s1 σ H1 x v Q I1 r1 q1)
theorem qX {f:Value->Value->Sem Value}{C:Int->Int->Prop}{g:Int->Int->Int}
  (rule:∀ (i j:Int) (t u:Tok) (s:Shared) (Q:Value->Shared->Prop) (E:Value->Shared->Prop),C i j->Q (.int (g i j) s.toks) {s with toks:=s.toks+1}->wpAny (model X.prog X.w) X.A (f (.int i t) (.int j u)) Q E s):
  OpR X f (rI C fun i j=>.int (g i j)):=by
 intro pins s σ H x y v u Q I rx ry h
 obtain⟨i,j,rfl,rfl,hc,q⟩:=h
 obtain⟨t,rfl⟩:=rx
 obtain⟨t',rfl⟩:=ry
 exact rule i j t t' s _ _ hc ⟨.int (g i j),H,I.tok _,⟨_,rfl⟩,q⟩
theorem p9 {f:Value->Value->Sem Value}{g:Int->Int->Int}
  (rule:∀ (i j:Int) (t u:Tok) (s:Shared) (Q:Value->Shared->Prop) (E:Value->Shared->Prop),Q (.int (g i j) s.toks) {s with toks:=s.toks+1}->wpAny (model X.prog X.w) X.A (f (.int i t) (.int j u)) Q E s):
  OpR X f (mx fun i j=>.int (g i j)):=by
 intro pins s σ H x y v u Q I rx ry h
 obtain⟨i,j,rfl,rfl,q⟩:=h
 obtain⟨t,rfl⟩:=rx
 obtain⟨t',rfl⟩:=ry
 exact rule i j t t' s _ _ ⟨.int (g i j),H,I.tok _,⟨_,rfl⟩,q⟩
theorem my {f:Value->Value->Sem Value}{g:Int->Int->Bool}
  (rule:∀ (i j:Int) (t u:Tok) (s:Shared) (Q:Value->Shared->Prop) (E:Value->Shared->Prop),Q (.bool (g i j)) s->wpAny (model X.prog X.w) X.A (f (.int i t) (.int j u)) Q E s):
  OpR X f (mx fun i j=>.bl (g i j)):=by
 intro pins s σ H x y v u Q I rx ry h
 obtain⟨i,j,rfl,rfl,q⟩:=h
 obtain⟨t,rfl⟩:=rx
 obtain⟨t',rfl⟩:=ry
 exact rule i j t t' s _ _ ⟨.bl (g i j),H,I,rfl,q⟩
def rE (i j:Int):Prop:=0 < j/\j < 1073741824
def rF (i j:Int):Prop:=0<=j/\j<=1000000/\i.natAbs < 2 ^ 64
def CMul (i j:Int):Prop:=(-(2 ^ 64) < i/\i < 2 ^ 64)\/(-(2 ^ 64) < j/\j < 2 ^ 64)
theorem CMul.ok {i j:Int}(h:CMul i j):IntMulOk i j:=by
 rcases h with⟨h1,h2⟩|⟨h1,h2⟩
 ·exact .of_left (intBits_le_64 h1 h2)
 ·exact .of_right (intBits_le_64 h1 h2)
theorem bn:OpR X (binaryOp .Add) (mx fun i j=>.int (i+j)):=p9 fun _ _ _ _ _ _ _ q=>add_int q
theorem ox:OpR X (binaryOp .Sub) (mx fun i j=>.int (i - j)):=p9 fun _ _ _ _ _ _ _ q=>sub_int q
theorem cA:OpR X (binaryOp .Mult) (rI CMul fun i j=>.int (i*j)):=qX fun _ _ _ _ _ _ _ hc q=>mul_int q hc.ok
theorem b9:OpR X (binaryOp .FloorDiv) (rI rE fun i j=>.int (i / j)):=qX fun i j _ _ _ _ _ hc q=>by
 have h1:(0:Int) < j:=hc.1
 have h2:j < 1073741824:=hc.2
 exact floordiv_int (by omega) (by rw[Int.fdiv_eq_ediv_of_nonneg i (by omega)];exact q) (.inl (PyProof.noPylong_small (by omega)))
theorem aF:OpR X (binaryOp .Mod) (rI (fun _ j=>0 < j) fun i j=>.int (i % j)):=qX fun i j _ _ _ _ _ hc q=>by
 have h1:(0:Int) < j:=hc
 exact mod_int' (by omega) (by rw[Int.fmod_eq_emod_of_nonneg i (by omega)];exact q)
theorem oy:OpR X (binaryOp .Pow) (rI rF fun i j=>.int (i ^ j.toNat)):=qX fun _ _ _ _ _ _ _ hc q=>pow_int_small hc.1 hc.2.1 hc.2.2 q
theorem sy {f:Value->Sem Value}{g:Int->Int}
  (rule:∀ (i:Int) (t:Tok) (s:Shared) (Q:Value->Shared->Prop) (E:Value->Shared->Prop),Q (.int (g i) s.toks) {s with toks:=s.toks+1}->wpAny (model X.prog X.w) X.A (f (.int i t)) Q E s):
  rB X f (rU fun i=>.int (g i)):=by
 intro pins s σ H x v Q I rx h
 obtain⟨i,rfl,q⟩:=h
 obtain⟨t,rfl⟩:=rx
 exact rule i t s _ _ ⟨.int (g i),H,I.tok _,⟨_,rfl⟩,q⟩
theorem kc:rB X (unaryOp .USub) (rU fun i=>.int (-i)):=sy fun _ _ _ _ _ q=>neg_int q
end
def p_:V->V->Bool
 |.non,.non=>true|.non,.int _=>true|.int _,.non=>true|.non,.bl _=>true|.bl _,.non=>true|.non,.str _=>true|.str _,.non=>true
 |.int _,.int _=>true|.bl _,.bl _=>true|.str _,.str _=>true|.byt _,.byt _=>true
 |.int _,.str _=>true|.str _,.int _=>true|.bl _,.str _=>true|.str _,.bl _=>true
 |_,_=>false
def rG:R2:=fun x y H Q=>p_ x y=true/\Q (.bl (decide (x=y))) H
def rH:R2:=fun x y H Q=>p_ x y=true/\Q (.bl (!decide (x=y))) H
theorem iH {i j:Int}:decide (V.int i=V.int j)=(i == j):=by
 rw[Bool.eq_iff_iff]
 simp
theorem kd {i j:Bool}:decide (V.bl i=V.bl j)=(i == j):=by
 rw[Bool.eq_iff_iff]
 simp
theorem iI {i j:Str}:decide (V.str i=V.str j)=(i == j):=by
 rw[Bool.eq_iff_iff]
 simp
theorem iJ {i j:Array UInt8}:decide (V.byt i=V.byt j)=(i.toList == j.toList):=by
 rw[Bool.eq_iff_iff]
 cases i
 cases j
 simp
section
variable {X:Cx}{a b c:Expr}{ta tb tc:TE}{pos:Pos}
theorem aC {pins:List (Addr×Obj)}{σ:St}{H:Hp}{s:Shared}{Q:VK}{k k':Bool}(I:Inv X pins σ H s)(q:Q (.bl k) H)(e:k=k'):EP X pins σ Q (.bool k') s:=by
 subst e
 exact⟨.bl k,H,I,rfl,q⟩
theorem qc:OpR X (compareOp .Eq) rG:=by
 intro pins s σ H x y v u Q I rx ry h
 obtain⟨hs,q⟩:=h
 cases x with
 |non=>
  cases rx
  cases y with
  |non=>cases ry;exact PySem.EqNone.eq_none_none (aC I q (by simp))
  |bl j=>cases ry;exact PySem.EqNone.eq_none_bool (aC I q (by simp))
  |int j=>obtain⟨t',rfl⟩:=ry;exact PySem.EqNone.eq_none_int (aC I q (by simp))
  |str j=>obtain⟨t',rfl⟩:=ry;exact PySem.EqNone.eq_none_str (aC I q (by simp))
  |_=>exact absurd (show false=true from hs) Bool.false_ne_true
 |bl i=>
  cases rx
  cases y with
  |non=>cases ry;exact PySem.EqNone.eq_bool_none (aC I q (by simp))
  |bl j=>cases ry;exact eq_bool (aC I q kd)
  |str j=>obtain⟨t',rfl⟩:=ry;exact PySem.EqMixed.eq_bool_str (aC I q (by simp))
  |_=>exact absurd (show false=true from hs) Bool.false_ne_true
 |int i=>
  obtain⟨t,rfl⟩:=rx
  cases y with
  |non=>cases ry;exact PySem.EqNone.eq_int_none (aC I q (by simp))
  |int j=>obtain⟨t',rfl⟩:=ry;exact eq_int (aC I q iH)
  |str j=>obtain⟨t',rfl⟩:=ry;exact PySem.EqMixed.eq_int_str (aC I q (by simp))
  |_=>exact absurd (show false=true from hs) Bool.false_ne_true
 |str i=>
  obtain⟨t,rfl⟩:=rx
  cases y with
  |non=>cases ry;exact PySem.EqNone.eq_str_none (aC I q (by simp))
  |bl j=>cases ry;exact PySem.EqMixed.eq_str_bool (aC I q (by simp))
  |int j=>obtain⟨t',rfl⟩:=ry;exact PySem.EqMixed.eq_str_int (aC I q (by simp))
  |str j=>obtain⟨t',rfl⟩:=ry;exact eq_str (aC I q iI)
  |_=>exact absurd (show false=true from hs) Bool.false_ne_true
 |byt i=>
  obtain⟨t,rfl⟩:=rx
  cases y with
  |byt j=>obtain⟨t',rfl⟩:=ry;exact PySem.W.eq_bytes (aC I q iJ)
  |_=>exact absurd (show false=true from hs) Bool.false_ne_true
 |_=>cases y<;>exact absurd (show false=true from hs) Bool.false_ne_true
theorem qh:OpR X (compareOp .NotEq) rH:=by
 intro pins s σ H x y v u Q I rx ry h
 obtain⟨hs,q⟩:=h
 cases x with
 |non=>
  cases rx
  cases y with
  |non=>cases ry;exact PySem.EqNone.ne_none_none (aC I q (by simp))
  |bl j=>cases ry;exact PySem.EqNone.ne_none_bool (aC I q (by simp))
  |int j=>obtain⟨t',rfl⟩:=ry;exact PySem.EqNone.ne_none_int (aC I q (by simp))
  |str j=>obtain⟨t',rfl⟩:=ry;exact PySem.EqNone.ne_none_str (aC I q (by simp))
  |_=>exact absurd (show false=true from hs) Bool.false_ne_true
 |bl i=>
  cases rx
  cases y with
  |non=>cases ry;exact PySem.EqNone.ne_bool_none (aC I q (by simp))
  |bl j=>cases ry;exact ne_bool (aC I q (congrArg not kd))
  |str j=>obtain⟨t',rfl⟩:=ry;exact PySem.EqMixed.ne_bool_str (aC I q (by simp))
  |_=>exact absurd (show false=true from hs) Bool.false_ne_true
 |int i=>
  obtain⟨t,rfl⟩:=rx
  cases y with
  |non=>cases ry;exact PySem.EqNone.ne_int_none (aC I q (by simp))
  |int j=>obtain⟨t',rfl⟩:=ry;exact ne_int (aC I q (congrArg not iH))
  |str j=>obtain⟨t',rfl⟩:=ry;exact PySem.EqMixed.ne_int_str (aC I q (by simp))
  |_=>exact absurd (show false=true from hs) Bool.false_ne_true
 |str i=>
  obtain⟨t,rfl⟩:=rx
  cases y with
  |non=>cases ry;exact PySem.EqNone.ne_str_none (aC I q (by simp))
  |bl j=>cases ry;exact PySem.EqMixed.ne_str_bool (aC I q (by simp))
  |int j=>obtain⟨t',rfl⟩:=ry;exact PySem.EqMixed.ne_str_int (aC I q (by simp))
  |str j=>obtain⟨t',rfl⟩:=ry;exact ne_str (aC I q (congrArg not iI))
  |_=>exact absurd (show false=true from hs) Bool.false_ne_true
 |byt i=>
  obtain⟨t,rfl⟩:=rx
  cases y with
  |byt j=>obtain⟨t',rfl⟩:=ry;exact PySem.W.ne_bytes (aC I q (congrArg not iJ))
  |_=>exact absurd (show false=true from hs) Bool.false_ne_true
 |_=>cases y<;>exact absurd (show false=true from hs) Bool.false_ne_true
theorem fk:OpR X (compareOp .Lt) (mx fun i j=>.bl (decide (i < j))):=my fun _ _ _ _ _ _ _ q=>lt_int q
theorem nA:OpR X (compareOp .LtE) (mx fun i j=>.bl (decide (i<=j))):=my fun _ _ _ _ _ _ _ q=>le_int q
theorem fm:OpR X (compareOp .Gt) (mx fun i j=>.bl (decide (j < i))):=my fun _ _ _ _ _ _ _ q=>gt_int q
theorem gm:OpR X (compareOp .GtE) (mx fun i j=>.bl (decide (j<=i))):=my fun _ _ _ _ _ _ _ q=>ge_int q
theorem oz:OpR X (compareOp .Is) (fun x y H Q=>y=.non/\Q (.bl (decide (x=.non))) H):=by
 intro pins s σ H x y v u Q I rx ry h
 obtain⟨rfl,q⟩:=h
 cases ry
 refine is_none_gen (aC I q ?_)
 cases x<;>first
  |(cases rx;rfl)
  |(obtain⟨t,rfl⟩:=rx;rfl)
theorem mz:OpR X (compareOp .IsNot) (fun x y H Q=>y=.non/\Q (.bl (!decide (x=.non))) H):=by
 intro pins s σ H x y v u Q I rx ry h
 obtain⟨rfl,q⟩:=h
 cases ry
 refine isnot_none_gen (aC I q ?_)
 cases x<;>first
  |(cases rx;rfl)
  |(obtain⟨t,rfl⟩:=rx;rfl)
theorem fP:OpR X (compareOp .NotIn) (fun x y H Q=>∃ i j,x=.str i/\y=.str j/\Q (.bl (!(!(Builtin.Str.occurrences j i 0 j.length 1).isEmpty))) H):=by
 intro pins s σ H x y v u Q I rx ry h
 obtain⟨i,j,rfl,rfl,q⟩:=h
 obtain⟨t,rfl⟩:=rx
 obtain⟨t',rfl⟩:=ry
 exact notIn_str (aC I q rfl)
theorem OpR.or {f:Value->Value->Sem Value}{r r':R2}(h:OpR X f r)(h':OpR X f r'):OpR X f (fun x y H Q=>r x y H Q\/r' x y H Q):=by
 intro pins s σ H x y v u Q I rx ry q
 rcases q with q|q
 ·exact h pins s σ H x y v u Q I rx ry q
 ·exact h' pins s σ H x y v u Q I rx ry q
theorem al (b:Expr){op:CmpOp}(h:op≠.In:=by decide)(h2:op≠.NotIn:=by decide):behindInMarks op b=false:=by
 have e1:(op == CmpOp.In)=false:=by cases op<;>first|rfl|exact absurd rfl h
 have e2:(op == CmpOp.NotIn)=false:=by cases op<;>first|rfl|exact absurd rfl h2
 cases b<;>simp [behindInMarks,e1,e2]
theorem a_ {op:CmpOp}{r:R2}(ho:OpR X (compareOp op) r)(ha:PE X a ta)(hb:PE X b tb)(hm:behindInMarks op b=false):PE X (.Compare a [op] [b] pos) (jw r ta tb):=by
 intro pins s σ H Q I h
 exact wpAny_Compare1 (ow ha hb I h fun v u s2 x y H2 I2 rx ry q=>ho pins s2 σ H2 x y v u Q I2 rx ry q) hm
def ke (t:TE):TT:=fun σ H Q=>t σ H fun x H'=>og x Q H'
theorem ak {op:CmpOp}{r:R2}(ho:OpR X (compareOp op) r)(ha:PE X a ta)(hb:PE X b tb)(hm:behindInMarks op b=false):PT X (.Compare a [op] [b] pos) (ke (jw r ta tb)):=by
 intro pins s σ H Q I h
 refine wpAny_isTrue_Compare1 (aV (ha pins s σ H _ I h) fun v s1 ⟨x,H1,I1,r1,q1⟩=>aV (hb pins s1 σ H1 _ I1 q1) fun u s2 ⟨y,H2,I2,r2,q2⟩=>
  aV (ho pins s2 σ H2 x y v u _ I2 r1 r2 q2) fun c s3 ⟨z,H3,I3,r3,k,e,q3⟩=>?_) hm
 subst e
 cases r3
 exact wpAny_truthy_bool ⟨H3,I3,q3⟩
def oA (r r':R2)(ta tb tc:TE):TE:=fun σ H Q=>ta σ H fun x H1=>tb σ H1 fun y H2=>r x y H2 fun z H3=>∃ k,z=.bl k/\
 (if k=true then tc σ H3 fun w' H4=>r' y w' H4 Q else Q (.bl false) H3)
theorem kf {op op':CmpOp}{r r':R2}(ho:OpR X (compareOp op) r)(ho':OpR X (compareOp op') r')(ha:PE X a ta)(hb:PE X b tb)(hc:PE X c tc)
  (hm:lastMarks [op,op'] [b,c]=false:=by with_unfolding_all rfl):PT X (.Compare a [op,op'] [b,c] pos) (ke (oA r r' ta tb tc)):=by
 intro pins s σ H Q I h
 refine isTrue_chain (aV (ha pins s σ H _ I h) fun v s1 ⟨x,H1,I1,r1,q1⟩=>test_link (aV (hb pins s1 σ H1 _ I1 q1) fun u s2 ⟨y,H2,I2,r2,q2⟩=>
  aV (ho pins s2 σ H2 x y v u _ I2 r1 r2 q2) fun d s3 ⟨z,H3,I3,r3,k,e,q3⟩=>?_)) hm
 subst e
 cases r3
 refine wpAny_truthy_bool ?_
 cases k with
 |false=>
  obtain⟨k',e',q'⟩:=q3
  cases e'
  exact ite_ff ⟨H3,I3,q'⟩
 |true=>
  refine ite_tt (test_last (aV (hc pins s3 σ H3 _ I3 q3) fun w' s4 ⟨z',H4,I4,r4,q4⟩=>aV (ho' pins s4 σ H4 y z' u w' _ I4 r2 r4 q4) fun d' s5 ⟨z2,H5,I5,r5,k2,e2,q5⟩=>?_))
  subst e2
  cases r5
  exact wpAny_truthy_bool ⟨H5,I5,q5⟩
def qi (K:PySem.W.Frag)(x:V)(H:Hp)(k:Bool):Prop:=
 match x with
 |.non=>k=false
 |.bl b=>k=b
 |.int i=>k=(i != 0)
 |.str y=>y.length<=sizeLine/\k=((y.length:Int) != 0)
 |.byt y=>y.size<=sizeLine/\k=((y.size:Int) != 0)
 |.ref p=>(∃ xs,SqL K H p xs/\k=!xs.isEmpty)\/(∃ xs,SqT K H p xs/\k=!xs.isEmpty)\/∃ kvs,H p=some (.dK kvs)/\k=!kvs.isEmpty
 |_=>False
theorem gZ {κ:Type}{kvs:List (κ×V)}{vs:List (κ×Value)}(r:KV kvs vs):(!vs.isEmpty)=!kvs.isEmpty:=by
 cases r<;>rfl
theorem eh {xs:List V}{its:List Value}(r:Vals xs its):(!its.toArray.isEmpty)=!xs.isEmpty:=by
 cases r<;>simp
theorem dr:(sizeLine:Nat) < 2 ^ 63:=by rw[sizeLine_eq];decide
theorem oB:rD X (fun x H Q=>∃ k,qi X.K x H k/\Q k H):=by
 intro pins s σ H x v Q I rx h
 obtain⟨k,e,q⟩:=h
 have hl:=dr
 have hs:sizeLine=16777216:=sizeLine_eq
 cases x with
 |non=>
  cases rx
  have e':k=false:=e
  subst e'
  exact truthy_none ⟨H,I,q⟩
 |bl b=>
  cases rx
  have e':k=b:=e
  subst e'
  exact wpAny_truthy_bool ⟨H,I,q⟩
 |int i=>
  obtain⟨t,rfl⟩:=rx
  have e':k=(i != 0):=e
  subst e'
  exact PySem.P.truthy_int ⟨H,I,q⟩
 |str y=>
  obtain⟨t,rfl⟩:=rx
  obtain⟨hy,e'⟩:y.length<=sizeLine/\k=((y.length:Int) != 0):=e
  subst e'
  exact PySem.P.truthy_str (by omega) ⟨H,I.tok _,q⟩
 |byt y=>
  obtain⟨t,rfl⟩:=rx
  obtain⟨hy,e'⟩:y.size<=sizeLine/\k=((y.size:Int) != 0):=e
  subst e'
  exact PySem.W.truthy_bytes (by omega) ⟨H,I.tok _,q⟩
 |ref p=>
  cases rx
  have e':(∃ xs,SqL X.K H p xs/\k=!xs.isEmpty)\/(∃ xs,SqT X.K H p xs/\k=!xs.isEmpty)\/∃ kvs,H p=some (.dK kvs)/\k=!kvs.isEmpty:=e
  rcases e' with⟨xs,hx,e'⟩|⟨xs,hx,e'⟩|⟨kvs,hx,e'⟩
  ·subst e'
   obtain⟨its,r,pl,hz⟩:=I.list hx
   have hlen:=r.length
   exact wpAny_truthy_list pl.isList (by simp only [List.size_toArray];omega) ⟨H,I.tok _,by rw[eh r];exact q⟩
  ·subst e'
   obtain⟨its,r,pl,hz⟩:=I.tuple hx
   have hlen:=r.length
   exact truthy_tuple pl (by simp only [List.size_toArray];omega) ⟨H,I.tok _,by rw[eh r];exact q⟩
  ·subst e'
   obtain⟨hz,hS,vs,r,m⟩:kvs.length<=sizeLine/\(p == sysModules)=false/\∃ vs,KV kvs vs/\s.heap.DictOf (aX X.prog X.w) p vs:=I.hok p _ hx
   have hlen:kvs.length=vs.length:=Paired.length r
   exact wpAny_truthy_dict hS m (by omega) ⟨H,I.tok _,by rw[gZ r];exact q⟩
 |_=>exact (show False from e).elim
theorem kg (ha:PE X a ta)(he:∀ whole,isTrue a X.env whole=(do let v ← whole;standAt a.pos;holding [v] (truthy v))):
  PT X a (fun σ H Q=>ta σ H fun x H'=>∃ k,qi X.K x H' k/\Q k H'):=by
 intro pins s σ H Q I h
 exact isTrue_plain (aV (ha pins s σ H _ I h) fun v s1 ⟨x,H1,I1,r1,q1⟩=>oB pins s1 σ H1 x v Q I1 r1 q1) (he _)
theorem aU:OpR X (binaryOp .Add) (fun x y H Q=>∃ i j,x=.str i/\y=.str j/\i.length+j.length<=sizeLine/\Q (.str (i++j)) H):=by
 intro pins s σ H x y v u Q I rx ry h
 obtain⟨i,j,rfl,rfl,hz,q⟩:=h
 obtain⟨t,rfl⟩:=rx
 obtain⟨t',rfl⟩:=ry
 exact add_str (fun t' tk=>⟨.str (i++j),H,I.tok _,⟨_,rfl⟩,q⟩) hz
theorem bG {x:V}{us:List Value}(r:Vals [x] us):∃ u,us=[u]/\RelV x u:=by
 cases r with
 |cons r1 r2=>cases r2;exact⟨_,rfl,r1⟩
theorem iK {x y:V}{us:List Value}(r:Vals [x,y] us):∃ u w',us=[u,w']/\RelV x u/\RelV y w':=by
 cases r with
 |cons r1 r2=>
  cases r2 with
  |cons r3 r4=>cases r4;exact⟨_,_,rfl,r1,r3⟩
theorem ck:bN X (.builtin "abs") (fun xs H Q=>∃ i,xs=[.int i]/\Q (.int (if i < 0 then -i else i)) H):=by
 intro pins s σ H xs us Q I r h
 obtain⟨i,rfl,q⟩:=h
 obtain⟨u,rfl,t,rfl⟩:=bG r
 exact call_abs_int fun u tk=>⟨.int (if i < 0 then -i else i),H,I.tok _,⟨_,rfl⟩,q⟩
theorem jx (hc:X.calm=true):bN X (.builtin "min") (fun xs H Q=>∃ i j,xs=[.int i,.int j]/\Q (.int (if j < i then j else i)) H):=by
 intro pins s σ H xs us Q I r h
 obtain⟨i,j,rfl,q⟩:=h
 obtain⟨u,w',rfl,⟨t,rfl⟩,⟨t',rfl⟩⟩:=iK r
 refine min_two_ints (I.ok.hd hc) fun h' tk k=>⟨_,H,I.kept k,?_,q⟩
 by_cases hj:j < i
 ·rw[if_pos hj,if_pos hj];exact⟨_,rfl⟩
 ·rw[if_neg hj,if_neg hj];exact⟨_,rfl⟩
theorem jy:bN X (.type "int") (fun xs H Q=>(∃ i,xs=[.int i]/\Q (.int i) H)\/∃ k,xs=[.bl k]/\Q (.int (if k then 1 else 0)) H):=by
 intro pins s σ H xs us Q I r h
 rcases h with⟨i,rfl,q⟩|⟨k,rfl,q⟩
 ·obtain⟨u,rfl,t,rfl⟩:=bG r
  exact call_int_int ⟨.int i,H,I,⟨_,rfl⟩,q⟩
 ·obtain⟨u,rfl,r1⟩:=bG r
  cases r1
  exact call_int_bool ⟨.int (if k then 1 else 0),H,I.tok _,⟨_,rfl⟩,q⟩
theorem c8:bN X (.type "str") (fun xs H Q=>∃ i,xs=[.int i]/\i.natAbs.log2 < 1920/\Q (.str (toString i)) H):=by
 intro pins s σ H xs us Q I r h
 obtain⟨i,rfl,hz,q⟩:=h
 obtain⟨u,rfl,t,rfl⟩:=bG r
 exact PySem.P.str_of_int hz ⟨.str _,H,I.tok _,⟨_,rfl⟩,q⟩
def rJ (K:PySem.W.Frag)(x:V)(H:Hp)(n:Nat):Prop:=
 match x with
 |.str y=>y.length<=sizeLine/\n=y.length
 |.byt y=>y.size<=sizeLine/\n=y.size
 |.ref p=>(∃ xs,SqL K H p xs/\n=xs.length)\/∃ xs,SqT K H p xs/\n=xs.length
 |_=>False
inductive qj (K:PySem.W.Frag)(xs:List V)(H:Hp)(Q:VK):Prop
 |mk (x:V)(n:Nat)(h:xs=[x])(l:rJ K x H n)(q:Q (.int n) H):qj K xs H Q
theorem aN:bN X (.builtin "len") (qj X.K):=by
 intro pins s σ H xs us Q I r h
 obtain⟨x,n,rfl,e,q⟩:=h
 obtain⟨u,rfl,rx⟩:=bG r
 have hl:=dr
 have hs:sizeLine=16777216:=sizeLine_eq
 cases x with
 |str y=>
  obtain⟨t,rfl⟩:=rx
  obtain⟨hy,e'⟩:y.length<=sizeLine/\n=y.length:=e
  subst e'
  exact len_str (by omega) ⟨.int _,H,I.tok _,⟨_,rfl⟩,q⟩
 |byt y=>
  obtain⟨t,rfl⟩:=rx
  obtain⟨hy,e'⟩:y.size<=sizeLine/\n=y.size:=e
  subst e'
  exact PySem.W.len_bytes (by omega) ⟨.int _,H,I.tok _,⟨_,rfl⟩,q⟩
 |ref p=>
  cases rx
  have e':(∃ xs,SqL X.K H p xs/\n=xs.length)\/∃ xs,SqT X.K H p xs/\n=xs.length:=e
  rcases e' with⟨xs,hx,e'⟩|⟨xs,hx,e'⟩
  ·subst e'
   obtain⟨its,r',pl,hz⟩:=I.list hx
   have hlen:=r'.length
   exact Calls.call_len_list pl.isList (by simp only [List.size_toArray];omega) ⟨.int xs.length,H,I.tok _,⟨_,by simp only [List.size_toArray];rw[hlen]⟩,q⟩
  ·subst e'
   obtain⟨its,r',pl,hz⟩:=I.tuple hx
   have hlen:=r'.length
   exact len_tuple pl (by simp only [List.size_toArray];omega) ⟨.int xs.length,H,I.tok _,⟨_,by simp only [List.size_toArray];rw[hlen]⟩,q⟩
 |_=>exact (show False from e).elim
end
end L2
namespace L2
open PySem PySem.Spec PyProof.Rows
structure ObjM (h:Heap)(x dx C:Addr)(mA:Str->Option Value):Prop where
 obj:h.get? x=some (PySem.W.instObj C dx)
 ns:h.Ns1 dx mA
 ne:dx≠x
theorem jz {h:Heap}{dx:Addr}{mA:Str->Option Value}(n:h.Ns1 dx mA):∃ od,h.get? dx=some od/\∀ name,PySem.W.lookIn name od=some (mA name):=by
 obtain⟨o,es,ep,ho,hd,hk,_,hm⟩:=n
 refine⟨o,ho,fun name=>?_⟩
 have e:=hm name
 unfold nsFind findBy at e
 rw[← Array.find?_toList] at e
 unfold PySem.W.lookIn
 rw[hd]
 dsimp only
 split
 ·rename_i y q
  rw[q] at e
  exact congrArg some e
 ·rename_i q
  rw[q] at e
  have a:es.toList.any (·.refKey)=false:=by
   rw[List.any_eq_false]
   intro y hy
   obtain⟨z,t,hkey⟩:=hk y (Array.mem_toList_iff.mp hy)
   simp [DictEntry.refKey,hkey]
  have a':¬ es.toList.any (·.refKey)=true:=by rw[a];exact Bool.false_ne_true
  rw[if_neg a']
  exact congrArg some e
theorem ObjM.look {h:Heap}{x dx C:Addr}{mA:Str->Option Value}(I:ObjM h x dx C mA):∃ od,PySem.W.InstAt h x (PySem.W.instObj C dx) C (some od)/\∀ name,PySem.W.lookIn name od=some (mA name):=
 let ⟨od,ho,hl⟩:=jz I.ns
 ⟨od,⟨I.obj,rfl,rfl,ho⟩,hl⟩
section
variable {prog:Program}{w:World}{A:Around}{E:Value->Shared->Prop}{s:Shared}{K:PySem.W.Frag}{x dx C f:Addr}{mA:Str->Option Value}{name:Str}{v:Value}
end
theorem RelO.some_of {v:V}{o:Option Value}(r:RelO (some v) o):∃ u,o=some u/\RelV v u:=by
 cases o with
 |none=>exact (show False from r).elim
 |some u=>exact⟨u,rfl,r⟩
section
variable {P:Program}{w:World}{H H':Hp}{h h':Heap}{a C dx:Addr}{fs fs':List (Str×V)}
theorem mB (hok:HOk P w H h)(e:H a=some (.ins C dx fs)):∃ mA,ObjM h a dx C mA/\(∀ f,RelO (fs.lookup f) (mA f))/\PySem.Within mA (fs.map (·.1))/\fs.length<=1000/\H dx=some (.own a):=by
 obtain⟨d,z,ne,ob,mA,n,r,q⟩:=(show ObjOk P w H h a (.ins C dx fs) from hok a _ e)
 exact⟨mA,⟨ob,n,ne⟩,r,q,z,d⟩
end
structure Cls (K:PySem.W.Frag)(C:Addr):Prop where
 pg:PySem.W.plainGet K C Str.empty=true
 hd:PySem.W.hasDictIn K C=true
 po:PySem.W.plainOver K C=true
 sa:PySem.W.findIn K (.ref C) "__setattr__"=some (some (.builtin "object.__setattr__"))
theorem Cls.get {K:PySem.W.Frag}{C:Addr}(c:Cls K C)(f:Str):PySem.W.plainGet K C f=true:=c.pg
section
variable {X:Cx}{pins:List (Addr×Obj)}{σ:St}{H:Hp}{s:Shared}{a C dx:Addr}{fs:List (Str×V)}{f:Str}{v:V}{A:Around}{E:Value->Shared->Prop}
end
section
variable {X:Cx}{o e value:Expr}{f:Str}{pos pos' tpos:Pos}{ta tv:TE}
end
section
variable {X:Cx}{pins:List (Addr×Obj)}{σ:St}{H:Hp}{s:Shared}{A:Around}{E:Value->Shared->Prop}{Q:Value->Shared->Prop}{c:Value}{b:Bool}
inductive c9 (K:PySem.W.Frag)(H:Hp):V->Value->Prop where
 |non:c9 K H .non (.type "NoneType")
 |bl (x:Bool):c9 K H (.bl x) (.type "bool")
 |int (i:Int):c9 K H (.int i) (.type "int")
 |str (x:Str):c9 K H (.str x) (.type "str")
 |flt (x:UInt64):c9 K H (.flt x) (.type "float")
 |lst {a:Addr} {xs:List V} (e:H a=some (.lst xs)):c9 K H (.ref a) (.type "list")
 |frz {a:Addr} {o:Obj} {xs:List V} (e:H a=some (.frz o (.lst xs))):c9 K H (.ref a) (.type "list")
 |tup {a:Addr} {xs:List V} (e:H a=some (.tup xs)):c9 K H (.ref a) (.type "tuple")
 |dK {a:Addr} {kvs:List (bD×V)} (e:H a=some (.dK kvs)):c9 K H (.ref a) (.type "dict")
 |dT {a:Addr} {kvs:List (List bD×V)} (e:H a=some (.dT kvs)):c9 K H (.ref a) (.type "dict")
 |ins {a C dx:Addr} {fs:List (Str×V)} (e:H a=some (.ins C dx fs)) (cl:Cls K C) (ha:PySem.W.findIn K (.ref C) "__class__"=some (some (.builtin "object.__class__")))
   (hn:PySem.W.specialIn K (.builtin "object.__class__") "__get__"=some (some (.builtin "getset_descriptor.__get__"))) (htk:PySem.W.takesIn K (.builtin "object.__class__")=some true)
   (hm:PySem.W.mroIn K C (.type "object")=some true):c9 K H (.ref a) (.ref C)
theorem jA {x:V}{u t:Value}(I:Inv X pins σ H s)(rx:RelV x u)(ty:c9 X.K H x t)(e:PySem.W.kitOne X.K t c=some b)(h:∀ tk,Q (.bool b) {s with toks:=tk}):
  wpAny (model X.prog X.w) A (call (.builtin "isinstance") [u,c]) Q E s:=by
 cases ty with
 |non=>cases (show u=Value.none from rx);exact PySem.W.kia_one PySem.W.kitx_none I.kIn True.intro e (fun z=>nomatch z) h
 |bl y=>cases (show u=Value.bool y from rx);exact PySem.W.kia_one PySem.W.kitx_bool I.kIn True.intro e (fun z=>nomatch z) h
 |int i=>obtain⟨t,q⟩:=(show ∃ t,u=Value.int i t from rx);cases q;exact PySem.W.kia_one PySem.W.kitx_int I.kIn True.intro e (fun z=>nomatch z) h
 |str y=>obtain⟨t,q⟩:=(show ∃ t,u=Value.str y t from rx);cases q;exact PySem.W.kia_one PySem.W.kitx_str I.kIn True.intro e (fun z=>nomatch z) h
 |flt y=>obtain⟨t,q⟩:=(show ∃ t,u=Value.float y t from rx);cases q;exact PySem.W.kia_one PySem.W.kitx_float I.kIn True.intro e (fun z=>nomatch z) h
 |@lst a xs ea=>
  cases (show u=Value.ref a from rx)
  obtain⟨_,_,n,_,h1⟩:=(show ObjOk X.prog X.w H s.heap a (.lst xs) from I.hok a _ ea)
  exact PySem.W.kia_one PySem.W.kitx_list I.kIn ⟨_,h1,rfl⟩ e (fun z=>nomatch z) h
 |@frz a ob xs ea=>
  cases (show u=Value.ref a from rx)
  obtain⟨_,_,_,n,_,h1⟩:=(show ObjOk X.prog X.w H s.heap a (.frz ob (.lst xs)) from I.hok a _ ea)
  exact PySem.W.kia_one PySem.W.kitx_list I.kIn ⟨_,h1,rfl⟩ e (fun z=>nomatch z) h
 |@tup a xs ea=>
  cases (show u=Value.ref a from rx)
  obtain⟨_,_,_,p⟩:=(show ObjOk X.prog X.w H s.heap a (.tup xs) from I.hok a _ ea)
  obtain⟨o,h1,h2,_⟩:=p
  exact PySem.W.kia_one PySem.W.kitx_tuple I.kIn ⟨o,h1,h2⟩ e (fun z=>nomatch z) h
 |@dK a kvs ea=>
  cases (show u=Value.ref a from rx)
  obtain⟨_,_,vs,_,p⟩:=(show ObjOk X.prog X.w H s.heap a (.dK kvs) from I.hok a _ ea)
  obtain⟨o,es,ep,h1,h2,_⟩:=p
  exact PySem.W.kia_one PySem.W.kitx_dict I.kIn ⟨o,h1,h2.1⟩ e (fun z=>nomatch z) h
 |@dT a kvs ea=>
  cases (show u=Value.ref a from rx)
  obtain⟨_,_,xs,_,o,es,ep,h1,h2,_⟩:=(show ObjOk X.prog X.w H s.heap a (.dT kvs) from I.hok a _ ea)
  exact PySem.W.kia_one PySem.W.kitx_dict I.kIn ⟨o,h1,h2.1⟩ e (fun z=>nomatch z) h
 |@ins a C dx fs ea cl ha hn htk hm=>
  cases (show u=Value.ref a from rx)
  obtain⟨mA,O,_⟩:=mB I.hok ea
  obtain⟨od,J,_⟩:=O.look
  exact PySem.W.kia_one (PySem.W.kitx_own (cl.get _) cl.hd ha hn htk hm) I.kIn J e (fun z=>nomatch z) h
end
end L2
namespace L2
open PySem PySem.Spec PyProof.Rows
structure Room (k:Nat)(A:Around):Prop where
 hd:A.handled=none
 dp:A.depth+3*k+5 < recursionLimit
 un:A.units+16*k+200 < cLine
theorem Room.mono {j k:Nat}{A:Around}(r:Room k A)(h:j<=k):Room j A:=⟨r.hd,by have:=r.dp;omega,by have:=r.un;omega⟩
theorem Room.deeper {k:Nat}{A:Around}(r:Room (k+1) A)(env:Env):Room k (A.deeper env):=
 ⟨r.hd,by have:=r.dp;show A.depth+1+3*k+5 < _;omega,by have:=r.un;show A.units+3+16*k+200 < _;omega⟩
theorem Room.depth {k:Nat}{A:Around}(r:Room k A):A.depth < recursionLimit:=by have:=r.dp;omega
theorem Room.units {k:Nat}{A:Around}(r:Room k A):A.units+64 < cLine:=by have:=r.un;omega
def gn:TA:=fun _ H Q=>Q [] H
def cB (ta:TE)(tr:TA):TA:=fun σ H Q=>ta σ H fun x H1=>tr σ H1 fun xs H2=>Q (x::xs) H2
section
variable {X:Cx}{e:Expr}{es:List Expr}{te:TE}{t:TA}{pos:Pos}
theorem ae:PA X [] gn:=fun _ _ _ _ H Q I h=>Calls.spliced_nil ⟨[],H,I,.nil,h⟩
theorem aa (ha:PE X e te)(hr:PA X es t)(hs:starEach (e::es) X.env=(false,eval e X.env)::starEach es X.env:=by rfl):PA X (e::es) (cB te t):=by
 intro pos pins s σ H Q I h
 rw[hs]
 show wpAny _ _ (spliced ((false,eval e X.env)::backTo pos (starEach es X.env))) _ _ s
 refine Calls.spliced_cons (aV (ha pins s σ H _ I h) fun u s1 ⟨x,H1,I1,r1,q1⟩=>?_)
 exact aV (hr pos pins s1 σ H1 _ I1 q1) fun us s2 ⟨xs,H2,I2,r2,q2⟩=>⟨x::xs,H2,I2,.cons r1 r2,q2⟩
def oE (t:TA):TE:=fun σ H Q=>t σ H fun xs H1=>xs.length<=sizeLine/\∀ p,H1 p=none->Q (.ref p) (upd H1 p (.tup xs))
def qk (t:TA):TE:=fun σ H Q=>t σ H fun xs H1=>xs.length<=sizeLine/\∀ p,H1 p=none->Q (.ref p) (upd H1 p (.lst xs))
theorem bw {x1}(h:PA X es t):PE X (.Tuple es x1 pos) (oE t):=by
 intro pins s σ H Q I hq
 refine wpAny_Tuple_spliced (aV (h pos pins s σ H _ I hq) fun us s1 ⟨xs,H1,I1,r,z,q⟩=>⟨by rw[← r.length];exact z,?_⟩)
 have hf:H1 s1.heap.objs.size=none:=I1.hok.fresh (Nat.le_refl _)
 refine⟨.ref s1.heap.objs.size,upd H1 s1.heap.objs.size (.tup xs),I1.laid (t':=s1.toks) (fun b u e=>Heap.get?_push_of_some _ e) (Nat.le_refl _) ?_,rfl,q _ hf⟩
 exact⟨z,us,r,⟨_,Heap.get?_push_size _ rfl,rfl,_,rfl⟩⟩
theorem bI (h:PA X es t):PE X (.List es pos) (qk t):=by
 intro pins s σ H Q I hq
 refine wpAny_List_spliced (aV (h pos pins s σ H _ I hq) fun us s1 ⟨xs,H1,I1,r,z,q⟩=>⟨by rw[← r.length];exact z,?_⟩)
 have hf:H1 s1.heap.objs.size=none:=I1.hok.fresh (Nat.le_refl _)
 refine⟨.ref s1.heap.objs.size,upd H1 s1.heap.objs.size (.lst xs),I1.laid (t':=s1.toks) (fun b u e=>Heap.get?_push_of_some _ e) (Nat.le_refl _) ?_,rfl,q _ hf⟩
 exact⟨z,us,0,r,Heap.get?_push_size _ rfl⟩
end
abbrev Sp:=List V->Hp->VK->XK->Prop
abbrev j7:=List Env->Hp->Shared->XK->Value->Shared->Prop
structure mC (P:Program)(w:World)(K:PySem.W.Frag)(mg:Str->Option Value)(base:Heap)(A:Around)(outer:List Env)(s:Shared)(H:Hp):Prop where
 frames:A.frames=some outer
 mod:Mod K mg base
 bs:∀ b o,base.get? b=some o->s.heap.get? b=some o/\H b=none
 bsz:base.objs.size<=s.heap.objs.size
 funs:s.heap.FunFrames base outer
 frf:∀ b∈cm outer,H b=none
 hok:HOk P w H s.heap
 bare:AllBare s.gens
def CE (outer:List Env)(P:Program)(w:World)(H:Hp)(s:Shared)(Q:VK)(u:Value)(s':Shared):Prop:=
 ∃ v H',s'.os=s.os/\AllBare s'.gens/\Un (cm outer) [] H H' s.heap s'.heap/\HOk P w H' s'.heap/\RelV v u/\Q v H'
def CR (CX:j7)(outer:List Env)(P:Program)(w:World)(H:Hp)(s:Shared)(Q:VK)(E:XK)(r:Result)(s':Shared):Prop:=
 match r with
 |.ok (.ret u)=>CE outer P w H s Q u s'
 |.ok _=>False
 |.error e=>CX outer H s E e s'
structure aW (P:Program)(w:World)(K:PySem.W.Frag)(mg:Str->Option Value)(base:Heap)(CX:j7)(k:Nat)(f:Addr)(fd:FuncData)(ps:List Str)(sp:Sp):Prop where
 len:∀ vs H Q E,sp vs H Q E->vs.length=ps.length
 run:∀ (A:Around) (outer:List Env) (s:Shared) (H:Hp) (args:Args) (us:List Value) (vs:List V) (Q:VK) (E:XK),Room k A->mC P w K mg base A outer s H->BindsTo s fd args (ps.zip us)->Vals vs us->sp vs H Q E->
  codeAny (model P w) A (.call (.ref f) args) (CR CX outer P w H s Q E) s
section
variable {X:Cx}{pins:List (Addr×Obj)}{σ:St}{H:Hp}{s s':Shared}
theorem Inv.env0 (I:Inv X pins σ H s):mC X.prog X.w X.K X.mg X.base X.A X.stack s H:=
 ⟨I.ok.frames,I.ok.mod,I.bs,Nat.le_trans I.ok.bsz I.sz,I.stack,I.stkFree,I.hok,I.bare⟩
theorem Inv.after {Q:VK}{u:Value}(I:Inv X pins σ H s)(h:CE X.stack X.prog X.w H s Q u s'):EP X pins σ Q u s':=by
 obtain⟨v,H',os,bare,un,hok,r,q⟩:=h
 obtain⟨hh,g,d,t,os'⟩:=s'
 obtain rfl:os'=s.os:=os
 exact⟨v,H',I.call (h':=hh) (g':=g) (d':=d) (t':=t) (ch:=[]) un hok bare (fun b z=>absurd z (by simp)),r,q⟩
end
def gp (sp:Sp)(dvs:List V)(E:XK)(t:TA):TE:=fun σ H Q=>t σ H fun vs H1=>sp (vs++dvs) H1 Q E
def Binds (K:PySem.W.Frag)(fd:FuncData)(ps:List Str)(ds:List Value):Prop:=
 ∀ (s:Shared) (us:List Value),K.In s.heap->(us++ds).length=ps.length->BindsTo s fd ⟨us,[]⟩ (ps.zip (us++ds))
theorem Binds.all {K:PySem.W.Frag}{fd:FuncData}{ps:List Str}(h:∀ us:List Value,us.length=ps.length->bindArgs fd ⟨us,[]⟩=pure (ps.zip us)):Binds K fd ps []:=fun s us _ hl=>by
 rw[List.append_nil] at hl ⊢
 exact .of_eq (h us hl)
def ei (CX:j7)(X:Cx)(E:XK):Prop:=∀ (pins:List (Addr×Obj)) (σ:St) (H:Hp) (s:Shared) (e:Value) (s':Shared),Inv X pins σ H s->CX X.stack H s E e s'->X.xe e s'
section
variable {X:Cx}{CX:j7}{k:Nat}{f C:Addr}{fd:FuncData}{ps:List Str}{sp:Sp}{dvs:List V}{ds:List Value}{E:XK}{x m:Str}{p pos apos:Pos}{e o:Expr}{es:List Expr}{ta:TE}{t:TA}
theorem oF {pins:List (Addr×Obj)}{σ:St}{H:Hp}{s:Shared}{Q:VK}{us:List Value}{vs:List V}(F:aW X.prog X.w X.K X.mg X.base CX k f fd ps sp)(hr:Room k X.A)(hb:Binds X.K fd ps ds)(hd:Vals dvs ds)(hx:ei CX X E)
  (I:Inv X pins σ H s) (r:Vals vs us) (h:sp (vs++dvs) H Q E):wpAny (model X.prog X.w) X.A (call (.ref f) us) (EP X pins σ Q) X.xe s:=by
 have r2:Vals (vs++dvs) (us++ds):=r.append hd
 have hl:(us++ds).length=ps.length:=by rw[← r2.length];exact F.len _ _ _ _ h
 refine wpAny_call (codeAny_mono (F.run X.A X.stack s H ⟨us,[]⟩ (us++ds) (vs++dvs) Q E hr I.env0 (hb s us I.kIn hl) r2 h) fun r s' hq=>?_)
 cases r with
 |error e=>exact hx pins σ H s e s' I hq
 |ok fl=>
  cases fl with
  |ret u=>exact I.after hq
  |next=>exact False.elim hq
  |brk=>exact False.elim hq
  |cont=>exact False.elim hq
theorem fQ (F:aW X.prog X.w X.K X.mg X.base CX k f fd ps sp)(hr:Room k X.A)(hg:Gl X x)(hm:X.mg x=some (.ref f))(hk:PySem.W.keepIn X.K (.ref f)=true)(hb:Binds X.K fd ps ds)(hd:Vals dvs ds)(hx:ei CX X E)
  (ha:PA X (e::es) t) (hdb:(x == ("__debug__":Str))=false:=by decide) (he:starEach (e::es) X.env=(false,eval e X.env)::starEach es X.env:=by rfl) (hpl:(backTo pos (starEach es X.env)).any (·.1)=false:=by rfl):
  PE X (.Call (.Name x p) (e::es) [] pos) (gp sp dvs E t):=by
 intro pins s σ H Q I h
 refine wpAny_Call_Name_kw (cZ I hg hm ?_ hdb)
 refine PySem.W.callWith_K (h₀:=X.base) I.ok.mod.kin hk (aV (ha pos pins s σ H _ I h) fun us s1 ⟨vs,H1,I1,r,q⟩=>⟨I1.kIn,?_⟩) he hpl
 exact oF F hr hb hd hx I1 r q
end
section
variable {X:Cx}{CX:j7}{k:Nat}{f C:Addr}{fd:FuncData}{ps ks:List Str}{sp:Sp}{E:XK}{x m:Str}{p pos apos kpos:Pos}{e o:Expr}{es:List Expr}{kws:List Keyword}{te ta:TE}{t tk:TA}{nm:Option Str}
variable {g:List Value->List Value->List Value}{gV:List V->List V->List V}
end
structure az (N P:List Str)(sc:Scope):Prop where
 kind:sc.kind=.function
 co:sc.isCoroutine=false
 gen:sc.isGenerator=false
 nd:N.Nodup
 pre:N.take P.length=P
 par:∀ x∈P,sc.names.lookup x=some .local\/sc.names.lookup x=some .cell
 nofree:∀ y∈sc.names,y.2≠.free
theorem fo {kindOf:Str->Option NameKind}{x:Str}:∀ {binds:List (Str×Value)} {m:Str->Option Value},(∀ v,(x,v)∉binds)->bindL kindOf binds m x=m x
 |[],_,_=>rfl
 |(n,v)::r,m,h=>by
  unfold bindL
  rw[fo fun w hw=>h w (List.mem_cons_of_mem _ hw)]
  split
  ·have:x≠n:=by rintro rfl;exact h v List.mem_cons_self
   simp [this]
  ·rfl
theorem fq {kindOf:Str->Option NameKind}{x:Str}:∀ {binds:List (Str×Value)} {m:Str->Option Value},(∀ v,(x,v)∉binds)->bindC kindOf binds m x=m x
 |[],_,_=>rfl
 |(n,v)::r,m,h=>by
  unfold bindC
  rw[fq fun w hw=>h w (List.mem_cons_of_mem _ hw)]
  split
  ·rfl
  ·have:x≠n:=by rintro rfl;exact h v List.mem_cons_self
   simp [this]
theorem ft {kindOf:Str->Option NameKind}{x:Str}{v:Value}:∀ {P:List Str} {vs:List Value} {i:Nat} {m:Str->Option Value},P.Nodup->P[i]? =some x->vs[i]? =some v->kindOf x=some .local->
  bindL kindOf (P.zip vs) m x=some v
 |[],_,_,_,_,h,_,_=>by simp at h
 |_::_,[],_,_,_,_,h,_=>by simp at h
 |p::P,w::vs,0,m,nd,h1,h2,hk=>by
  simp at h1 h2;subst h1;subst h2
  show bindL kindOf ((p,w)::P.zip vs) m p=_
  unfold bindL
  rw[fo fun v hv=>(List.nodup_cons.mp nd).1 (List.of_mem_zip hv).1,if_pos hk]
  simp
 |p::P,w::vs,i+1,m,nd,h1,h2,hk=>by
  show bindL kindOf ((p,w)::P.zip vs) m x=_
  unfold bindL
  exact ft (i:=i) (List.nodup_cons.mp nd).2 (by simpa using h1) (by simpa using h2) hk
theorem fu {kindOf:Str->Option NameKind}{x:Str}{v:Value}:∀ {P:List Str} {vs:List Value} {i:Nat} {m:Str->Option Value},P.Nodup->P[i]? =some x->vs[i]? =some v->kindOf x≠some .local->
  bindC kindOf (P.zip vs) m x=some v
 |[],_,_,_,_,h,_,_=>by simp at h
 |_::_,[],_,_,_,_,h,_=>by simp at h
 |p::P,w::vs,0,m,nd,h1,h2,hk=>by
  simp at h1 h2;subst h1;subst h2
  show bindC kindOf ((p,w)::P.zip vs) m p=_
  unfold bindC
  rw[fq fun v hv=>(List.nodup_cons.mp nd).1 (List.of_mem_zip hv).1,if_neg hk]
  simp
 |p::P,w::vs,i+1,m,nd,h1,h2,hk=>by
  show bindC kindOf ((p,w)::P.zip vs) m x=_
  unfold bindC
  exact fu (i:=i) (List.nodup_cons.mp nd).2 (by simpa using h1) (by simpa using h2) hk
def c_ (N:List Str)(vs:List V):St:=vs.map some++List.replicate (N.length - vs.length) none
def bf (CX:j7)(P:Program)(w:World)(K:PySem.W.Frag)(mg:Str->Option Value)(base:Heap)(N:List Str)(qual:Str)(scope:Scope)(f:Addr)(cd:Value)(A:Around)(outer:List Env)(s:Shared)(H:Hp)(E:XK):Cx where
 prog:=P
 w:=w
 K:=K
 mg:=mg
 base:=base
 A:=A.deeper (envOfC qual scope s.heap.objs.size f cd)
 N:=N
 s₀:=s
 H₀:=H
 env:=envOfC qual scope s.heap.objs.size f cd
 outer:=outer
 stack:=envOfC qual scope s.heap.objs.size f cd::outer
 ex:=[]
 calm:=true
 fn:=fun _=>true
 pn:=[]
 xe:=fun e s'=>wpAny (model P w) (A.deeper (envOfC qual scope s.heap.objs.size f cd)) (leaving (envOfC qual scope s.heap.objs.size f cd) e) (fun _ s''=>CX outer H s E e s'') (fun e' s''=>CX outer H s E e' s'') s'
theorem gq {sc:Scope}{n:Nat}{x:Str}(h:sc.names.lookup x=some .cell):∃ c,(cellsFrom n sc.names []).lookup x=some c:=by
 have q:=PySem.W.cellsFrom_some sc.names n [] (.inl h)
 exact Option.isSome_iff_exists.mp q
theorem jB {CX:j7}{P:Program}{w:World}{K:PySem.W.Frag}{mg:Str->Option Value}{base:Heap}{N ps:List Str}{qual:Str}{scope:Scope}{f:Addr}{cd:Value}{A:Around}{outer:List Env}{s s1:Shared}{H:Hp}{E:XK}{us:List Value}{vs:List V}
  (S:az N ps scope) (hd:A.handled=none) (e0:mC P w K mg base A outer s H) (hl:vs.length=ps.length) (r:Vals vs us)
  (x:InCallC s s.heap.objs.size (bindL (envOfC qual scope s.heap.objs.size f cd).kindOf (ps.zip us) fun _=>none) (cellsFrom (s.heap.objs.size+1) scope.names []) (bindC (envOfC qual scope s.heap.objs.size f cd).kindOf (ps.zip us) fun _=>none) s1):
  Inv (bf CX P w K mg base N qual scope f cd A outer s H E) [] (c_ N vs) H s1:=by
 have hpl:ps.length<=N.length:=by have:=congrArg List.length S.pre;rw[List.length_take] at this;omega
 obtain⟨h1,tk,rfl,hk⟩:=x.done
 have noA:∀ b:Addr,b∉(bf CX P w K mg base N qual scope f cd A outer s H E).ex:=fun b z=>absurd (show b∈([]:List Addr) from z) (by simp)
 refine⟨⟨e0.mod,S.kind,rfl,rfl,Nat.le_refl _,fun y z c h1 h2=>?_,fun y hy=>?_,fun y c _ h=>?_,fun _=>hd,Around.frames_deeper e0.frames,.inr ⟨rfl,rfl⟩,fun b z=>absurd z (noA b),e0.bs,e0.bsz,fun b _ _=>noA b,fun b z=>absurd z (noA b),e0.funs,e0.frf⟩,
  rfl,e0.bare,Un.kept hk,⟨_,x.toInCall.ns,fun i y v h1 h2 h3=>?_⟩,fun y c h=>⟨_,x.cell y c h⟩,e0.hok.fresh (Nat.le_refl _),fun y c h=>?_,fun p hp=>absurd (show p∈([]:List (Addr×Obj)) from hp) (by simp),e0.hok.kept hk,?_⟩
 ·exact name_of_addr x.apart (PySem.mem_of_lookup h1) (PySem.mem_of_lookup h2)
 ·have hy:scope.names.lookup y=some .cell\/scope.names.lookup y=some .free:=hy
  rcases hy with hy|hy
  ·exact gq hy
  ·exact absurd rfl (S.nofree _ (PySem.mem_of_lookup hy))
 ·exact Nat.le_of_lt (x.above y c (PySem.mem_of_lookup h))
 ·have hi:i < vs.length:=by
   unfold c_ at h2
   by_cases hi:i < vs.length
   ·exact hi
   ·rw[List.getElem?_append_right (by simpa using hi)] at h2
    rw[List.getElem?_replicate] at h2
    split at h2<;>cases h2
  have ha:vs[i]? =some v:=by
   unfold c_ at h2
   rw[List.getElem?_append_left (by simpa using hi),List.getElem?_map] at h2
   cases e:vs[i]? with
   |none=>rw[e] at h2;cases h2
   |some a=>rw[e] at h2;cases h2;rfl
  obtain⟨u,hu,rv⟩:=r.get ha
  have hp:ps[i]? =some y:=by
   rw[← S.pre,List.getElem?_take_of_lt (by omega)];exact h1
  have ndP:ps.Nodup:=by rw[← S.pre];exact S.nd.sublist (List.take_sublist _ _)
  refine⟨u,rv,?_⟩
  rcases S.par y (List.mem_of_getElem? hp) with k|k
  ·exact .inl ⟨k,ft ndP hp hu k⟩
  ·obtain⟨c,e⟩:=gq (n:=s.heap.objs.size+1) k
   refine .inr ⟨.inl k,c,e,?_⟩
   have q:=x.cell y c e
   rw[fu ndP hp hu (by show scope.names.lookup y≠_;rw[k];decide)] at q
   exact q
 ·exact e0.hok.fresh (Nat.le_of_lt (x.above y c (PySem.mem_of_lookup h)))
 ·unfold c_
  show _=N.length
  rw[List.length_append,List.length_map,List.length_replicate]
  omega
theorem nB {CX:j7}{P:Program}{w:World}{K:PySem.W.Frag}{mg:Str->Option Value}{base:Heap}{k:Nat}{f:Addr}{name qual:Str}{params:Arguments}{body:List Stmt}{scope:Scope}{dV kV doc pm cdv ct oc:Value}{an od:Option Addr}
  {osl:Array (Option Value)} {N ps:List Str} {sp:Sp} (lk:K.lookup f=some ⟨oc,od,.func (PySem.W.fnOf name qual params body scope dV kV doc pm an cdv ct),osl⟩) (hcd:PySem.W.codeIn K cdv qual=true) (S:az N ps scope)
  (len:∀ vs H Q E,sp vs H Q E->vs.length=ps.length)
  (hbody:∀ (A:Around) (outer:List Env) (s:Shared) (H:Hp) (vs:List V) (Q:VK) (E:XK),Room k (A.deeper (envOfC qual scope s.heap.objs.size f cdv))->sp vs H Q E->
   ∃ t,PSs (bf CX P w K mg base N qual scope f cdv A outer s H E) body t/\t {nx:=fun _ H'=>Q .non H',rt:=Q} (c_ N vs) H):
  aW P w K mg base CX (k+1) f (PySem.W.fnOf name qual params body scope dV kV doc pm an cdv ct) ps sp:=by
 refine⟨len,fun A outer s H args us vs Q E hr e0 hb r hsp=>?_⟩
 have hl:=len _ _ _ _ hsp
 have KX:K.In s.heap:=e0.mod.kin.keeps fun b o e=>(e0.bs b o e).1
 have lim:s.heap.NoLimit:=e0.mod.nolimit.keeps fun b o e=>(e0.bs b o e).1
 have hkind:∀ y∈ps.zip us,scope.names.lookup y.1=some .local\/(scope.names.lookup y.1=some .cell/\((cellsFrom (s.heap.objs.size+1) scope.names []).lookup y.1).isSome=true):=fun⟨n,v⟩ hy=>by
  rcases S.par n (List.of_mem_zip hy).1 with q|q
  ·exact .inl q
  ·exact .inr ⟨q,PySem.W.cellsFrom_some _ _ _ (.inl q)⟩
 refine codeAny_call_function hr.depth (KX _ _ lk) rfl S.co S.gen rfl (PySem.W.codeRec_of KX hcd) (hb _ _ _ _ ?_)
 refine wpAny_newFunctionEnv_cells S.kind hkind fun env he s1 x=>?_
 subst he
 refine⟨lim.keeps x.toInCall.keep,codeAny_func ?_⟩
 obtain⟨t,ht,hq⟩:=hbody A outer s H vs Q E (hr.deeper _) hsp
 have I:Inv (bf CX P w K mg base N qual scope f cdv A outer s H E) [] (c_ N vs) H s1:=jB S hr.hd e0 hl r x
 refine wpAny_mono (ht [] s1 (c_ N vs) H _ I hq) (fun fl s' hs=>?_) fun e s' hs=>hs
 have fin:∀ {σ':St} {H':Hp} {v:V} {u:Value},Inv (bf CX P w K mg base N qual scope f cdv A outer s H E) [] σ' H' s'->RelV v u->Q v H'->CE outer P w H s Q u s':=
  fun {σ' H' v u} J rv q=>⟨v,H',J.os,J.bare,J.base,J.hok,rv,q⟩
 cases fl with
 |ret u=>
  obtain⟨v,σ',H',J,rv,q⟩:=hs
  exact fin J rv q
 |next=>
  obtain⟨σ',H',J,q⟩:=hs
  exact fin (v:=V.non) (u:=Value.none) J rfl q
 |brk=>
  obtain⟨_,_,_,q⟩:=hs
  exact False.elim q
 |cont=>
  obtain⟨_,_,_,q⟩:=hs
  exact False.elim q
end L2
namespace L2
open PySem PySem.Spec PyProof.Rows
section
variable {X:Cx}{x:Str}{p pos:Pos}{e:Expr}{es:List Expr}{t:TA}{id T:String}{r:List V->Hp->VK->Prop}
def ql (r:List V->Hp->VK->Prop)(t:TA):TE:=fun σ H Q=>t σ H fun vs H1=>r vs H1 Q
theorem ai (hc:bN X (.builtin id) r)(hg:Gl X x)(hm:X.mg x=none)(hv:bootBuiltins x=some (.builtin id))(ha:PA X (e::es) t)(hn:x≠"__name__":=by decide)(hdb:(x == ("__debug__":Str))=false:=by decide)
  (he:starEach (e::es) X.env=(false,eval e X.env)::starEach es X.env:=by rfl) (hpl:(backTo pos (starEach es X.env)).any (·.1)=false:=by rfl):PE X (.Call (.Name x p) (e::es) [] pos) (ql r t):=by
 intro pins s σ H Q I h
 refine wpAny_Call_Name_kw (d4 I hg hm hv ?_ hn hdb)
 exact PyProof.Rows.callWith_builtin1 (aV (ha pos pins s σ H _ I h) fun us s1 ⟨vs,H1,I1,r1,q1⟩=>hc pins s1 σ H1 vs us Q I1 r1 q1) he hpl
theorem aS (hc:bN X (.type T) r)(hg:Gl X x)(hm:X.mg x=none)(hv:bootBuiltins x=some (.type T))(ha:PA X (e::es) t)(hn:x≠"__name__":=by decide)(hdb:(x == ("__debug__":Str))=false:=by decide)
  (he:starEach (e::es) X.env=(false,eval e X.env)::starEach es X.env:=by rfl) (hpl:(backTo pos (starEach es X.env)).any (·.1)=false:=by rfl):PE X (.Call (.Name x p) (e::es) [] pos) (ql r t):=by
 intro pins s σ H Q I h
 refine wpAny_Call_Name_kw (d4 I hg hm hv ?_ hn hdb)
 exact PyProof.Rows.callWith_type1 (aV (ha pos pins s σ H _ I h) fun us s1 ⟨vs,H1,I1,r1,q1⟩=>hc pins s1 σ H1 vs us Q I1 r1 q1) he hpl
end
end L2
namespace HT
open PySem PyProof.Rows
section
open PySem.SeqAt
open PySem.AutoSeq1 (wpAny_loadPart')
open PySem.MeetsSeq PySem.MeetsSeq2 PySem.MeetsSeq3
end
section
variable {prog:Program}{w:World}{A:Around}{E:Value->Shared->Prop}{s:Shared}
theorem cat_tup {t b:Addr}{vs ws:List Value}{Q:Value->Shared->Prop}(ht:IsTup s.heap t vs.toArray)(hb:IsTup s.heap b ws.toArray)(hv:vs≠[])
  (h1:ws=[]->Q (.ref t) s) (h2:ws≠[]->Q (.ref s.heap.objs.size) {s with heap:=s.heap.push {cls:=.type "tuple",data:=.seq (vs++ws).toArray}})
  (hsz:vs.length+ws.length<=sizeLine):wpAny (model prog w) A (binaryOp .Add (.ref t) (.ref b)) Q E s:=by
 obtain⟨⟨cls,dd,data,sl⟩,ho,hc,n,hd⟩:=id ht
 obtain⟨⟨cls2,dd2,data2,sl2⟩,ho2,hc2,n2,hd2⟩:=id hb
 simp only at hc hd hc2 hd2
 subst hc hd hc2 hd2
 have e:vs.toArray++ws.toArray=(vs++ws).toArray:=by simp
 by_cases hw:ws=[]
 ·exact concat_meets ⟨_,ho,rfl⟩ ⟨_,ho2,rfl⟩ noFill_tuple_add seq_tuple_add PySem.F.slot_tuple_add PySem.F.entry_tuple_add (PySem.F.args_tuple_add_2 _ _)
   (tuple_addW1 t b vs.toArray ws.toArray n n2 dd dd2 sl sl2 (by simpa using hv) (by simp [hw])) ⟨ho,ho2,h1 hw⟩
 ·refine concat_meets ⟨_,ho,rfl⟩ ⟨_,ho2,rfl⟩ noFill_tuple_add seq_tuple_add PySem.F.slot_tuple_add PySem.F.entry_tuple_add (PySem.F.args_tuple_add_2 _ _)
   (tuple_addW2 t b vs.toArray ws.toArray n n2 dd dd2 sl sl2 (by simpa using hv) (by simpa using hw) (by rw[List.size_toArray,List.size_toArray];exact hsz)) ⟨ho,ho2,?_⟩
  rw[e]
  exact h2 hw
def sIx (n d:Nat):Option Int->Nat
 |none=>d
 |some v=>if v < 0 then (v+(n:Int)).toNat else min v.toNat n
theorem sIx_nat (n d k:Nat):sIx n d (some (k:Int))=min k n:=by
 show (if (k:Int) < 0 then ((k:Int)+(n:Int)).toNat else min (k:Int).toNat n)=min k n
 rw[if_neg (by omega),Int.toNat_natCast]
theorem oG (n d:Nat)(hd:d<=n)(o:Option Int):sIx n d o<=n:=by
 cases o with
 |none=>exact hd
 |some v=>
  show (if v < 0 then (v+(n:Int)).toNat else min v.toNat n)<=n
  by_cases hv:v < 0
  ·rw[if_pos hv];omega
  ·rw[if_neg hv];exact Nat.min_le_right _ _
theorem iL (v:Int)(n d:Nat):(if v < 0 then max (v+(n:Int)) 0 else min v (n:Int))=((sIx n d (some v):Nat):Int):=by
 show (if v < 0 then max (v+(n:Int)) 0 else min v (n:Int))=(((if v < 0 then (v+(n:Int)).toNat else min v.toNat n):Nat):Int)
 by_cases hv:v < 0
 ·simp only [if_pos hv];omega
 ·simp only [if_neg hv];omega
theorem g7 (lo hi:Option Int)(n:Nat):Builtin.Slice.sliceAdjust lo hi 1 (n:Int)=(((sIx n 0 lo:Nat):Int),((sIx n n hi:Nat):Int)):=by
 have h1:¬ ((1:Int) < 0):=by omega
 unfold Builtin.Slice.sliceAdjust
 simp only [h1,if_false]
 refine Prod.ext ?_ ?_
 ·cases lo with
  |none=>rfl
  |some v=>exact iL v n 0
 ·cases hi with
  |none=>rfl
  |some v=>exact iL v n n
theorem g9 (i j:Nat):Builtin.Slice.slicePlaces (i:Int) (j:Int) 1=j - i:=by
 unfold Builtin.Slice.slicePlaces
 have h1:(1:Int) > 0:=by omega
 simp only [h1,if_true,Int.ediv_one]
 split<;>omega
theorem el {v:Value}{o:Option Int}{Q:Option Int->Shared->Prop}(p:IsPart v o)(h:Q o s):wpAny (model prog w) A (Builtin.Slice.slicePartIndex v) Q E s:=by
 cases p with
 |none=>exact slicePart_none h
 |int i t=>exact slicePart_int h
theorem sliceApplied_gen {sl:Addr}{vl vu:Value}{lo hi:Option Int}{n:Nat}{Q:Int×Int×Nat->Shared->Prop}(hs:s.heap.IsSliceOf sl vl vu .none)(pl:IsPart vl lo)(pu:IsPart vu hi)
  (h:Q (((sIx n 0 lo:Nat):Int),1,sIx n n hi - sIx n 0 lo) s):wpAny (model prog w) A (Builtin.Slice.sliceApplied (.ref sl) (pure (n:Int))) Q E s:=by
 obtain⟨os,hos,hcs,hds⟩:=id hs
 unfold Builtin.Slice.sliceApplied Builtin.Slice.sliceFields
 refine wpAny_bind (wpAny_bind (wpAny_field hos hds (x:=vl) rfl (wpAny_bind (wpAny_field hos hds (x:=vu) rfl (wpAny_bind (wpAny_field hos hds (x:=.none) rfl (wpAny_pure ?_)))))))
 refine wpAny_bind (slicePart_none ?_)
 show wpAny _ _ (if ((1:Int) == 0)=true then _ else _) _ _ s
 rw[if_neg (by decide)]
 refine wpAny_bind (el pl (wpAny_bind (el pu (wpAny_bind (wpAny_pure ?_)))))
 show wpAny _ _ (match Builtin.Slice.sliceAdjust lo hi 1 (n:Int) with|(lo,hi)=>pure (lo,(1:Int),Builtin.Slice.slicePlaces lo hi 1)) _ _ s
 rw[g7 lo hi n]
 show wpAny _ _ (pure (((sIx n 0 lo:Nat):Int),(1:Int),Builtin.Slice.slicePlaces ((sIx n 0 lo:Nat):Int) ((sIx n n hi:Nat):Int) 1)) _ _ s
 rw[g9]
 exact wpAny_pure h
theorem kh (xs:Array Value)(i k:Nat):((List.range k).filterMap fun (m:Nat)=>xs[((i:Int)+(m:Int)*1).toNat]?).toArray=((xs.toList.drop i).take k).toArray:=by
 have e:(fun (m:Nat)=>xs[((i:Int)+(m:Int)*1).toNat]?)=fun m=>xs[i+m]?:=by
  funext m
  have:((i:Int)+(m:Int)*1).toNat=i+m:=by omega
  rw[this]
 rw[e]
 have:=pick_run xs i k
 rw[List.filterMap_map] at this
 have e2:((fun x=>xs[x]?)∘fun x=>i+x)=fun m=>xs[i+m]?:=rfl
 rw[e2] at this
 rw[this]
theorem getItem_tuple_cut {t sl:Addr}{items:Array Value}{vl vu:Value}{lo hi:Option Int}{Q:Value->Shared->Prop}(ht:IsTup s.heap t items)(hs:s.heap.IsSliceOf sl vl vu .none)(pl:IsPart vl lo)(pu:IsPart vu hi)
  (hw:¬ (sIx items.size 0 lo=0/\sIx items.size items.size hi=items.size))
  (h:Q (.ref s.heap.objs.size) {s with heap:=s.heap.push {cls:=.type "tuple",data:=.seq ((items.toList.drop (sIx items.size 0 lo)).take (sIx items.size items.size hi - sIx items.size 0 lo)).toArray}})
  (hsz:items.size<=sizeLine):wpAny (model prog w) A (getItem (.ref t) (.ref sl)) Q E s:=by
 have htake:sizeOk (.seq ((items.toList.drop (sIx items.size 0 lo)).take (sIx items.size items.size hi - sIx items.size 0 lo)).toArray):=by
  show ((items.toList.drop (sIx items.size 0 lo)).take (sIx items.size items.size hi - sIx items.size 0 lo)).toArray.size<=sizeLine
  rw[List.size_toArray,List.length_take,List.length_drop,Array.length_toList]
  omega
 have hj:sIx items.size items.size hi<=items.size:=oG _ _ (Nat.le_refl _) hi
 obtain⟨os,hos,hcs,hds⟩:=id hs
 have hTs:s.TypeIs (.ref sl) "slice":=⟨os,hos,hcs⟩
 unfold getItem
 try with_reducible refine wpAny_holding ?_
 first|refine wpAny_bind (wpAny_pure ?_)|skip
 refine wpAny_bind (wpAny_sequenceKey ht.typeIs (by decide) ?_)
 refine wpAny_bind (wpAny_callSpecial?_slot (name:=Str.ofString "__getitem__") ht.typeIs PyProof.Rows.slot_tuple_getitem
  (wpAny_call_entry PyProof.Rows.slot_tuple_getitem ht.typeIs entry_tuple_getitem ?_ (args_tuple_getitem _ _)))
 show wpAny _ _ (Builtin.Tuple.tupleItemsOf (.ref t) >>=_) _ _ s
 refine wpAny_bind (tupleItemsOf_ ht ?_)
 refine wpAny_bind (wpAny_typeOf hTs ?_)
 rw[if_pos (by decide)]
 refine wpAny_bind (sliceApplied_gen hs pl pu ?_)
 have hno:¬ ((((sIx items.size 0 lo:Nat):Int) == 0&&(1:Int) == 1&&(sIx items.size items.size hi - sIx items.size 0 lo) == items.size)=true):=by
  intro q
  rw[Bool.and_eq_true,Bool.and_eq_true] at q
  have q1:((sIx items.size 0 lo:Nat):Int)=0:=eq_of_beq q.1.1
  have q2:sIx items.size items.size hi - sIx items.size 0 lo=items.size:=eq_of_beq q.2
  exact hw ⟨by omega,by omega⟩
 show wpAny _ _ (if (((sIx items.size 0 lo:Nat):Int) == 0&&(1:Int) == 1&&(sIx items.size items.size hi - sIx items.size 0 lo) == items.size)=true then _ else _) _ _ s
 rw[if_neg hno,kh]
 first
  |exact wpAny_bind (m:=Builtin.Tuple.tupleExact _) (wpAny_newObj_type (wpAny_pure ⟨_,rfl,wpAny_pure h⟩) htake)
  |exact wpAny_bind (m:=Builtin.Tuple.tupleExact _) (wpAny_newObj_type (wpAny_bind (wpAny_pure (wpAny_pure ⟨_,rfl,wpAny_pure h⟩))) htake)
  |exact wpAny_bind (wpAny_bind (m:=Builtin.Tuple.tupleExact _) (wpAny_newObj_type (wpAny_pure (wpAny_pure ⟨_,rfl,wpAny_pure h⟩)) htake))
  |exact wpAny_bind (wpAny_bind (m:=Builtin.Tuple.tupleExact _) (wpAny_newObj_type (wpAny_pure ⟨_,rfl,wpAny_pure h⟩) htake))
end
end HT
namespace L2
open PySem PySem.Spec PyProof.Rows
abbrev TO:=St->Hp->(Option Int->Hp->Prop)->Prop
def PO (X:Cx)(e:Option Expr)(t:TO):Prop:=
 ∀ (pins:List (Addr×Obj)) (s:Shared) (σ:St) (H:Hp) (Q:Option Int->Hp->Prop),Inv X pins σ H s->t σ H Q->
  wpAny (model X.prog X.w) X.A (evalPart e X.env) (fun u s'=>∃ o H',Inv X pins σ H' s'/\IsPart u o/\Q o H') X.xe s
def cO:TO:=fun _ H Q=>Q none H
def fv (t:TE):TO:=fun σ H Q=>t σ H fun x H1=>∃ i,x=.int i/\Q (some i) H1
theorem cX {ns:List Int}:∀ {us:List Value},Vals (ns.map V.int) us->IntsAre us ns:=by
 induction ns with
 |nil=>intro us r;rw[List.map_nil] at r;cases r;exact .nil
 |cons n ns ih=>
  intro us r
  rw[List.map_cons] at r
  cases r with
  |cons r1 r2=>
   obtain⟨t,e⟩:=r1
   subst e
   exact .cons n t (ih r2)
section
variable {X:Cx}{e:Expr}{te:TE}{lo hi:Option Expr}{tl th:TO}{pos p2:Pos}
theorem aR:PO X none cO:=by
 intro pins s σ H Q I h
 rw[evalPart_none]
 exact wpAny_pure ⟨none,H,I,.none,h⟩
theorem aJ (h:PE X e te):PO X (some e) (fv te):=by
 intro pins s σ H Q I hw
 rw[evalPart_some]
 refine aV (h pins s σ H _ I hw) fun u s1 ⟨x,H1,I1,r1,q1⟩=>?_
 obtain⟨i,rfl,q⟩:=q1
 obtain⟨t,rfl⟩:=r1
 exact⟨some i,H1,I1,.int i t,q⟩
def qm (X:Cx)(r:V->Option Int->Option Int->Hp->VK->Prop):Prop:=
 ∀ (pins:List (Addr×Obj)) (s:Shared) (σ:St) (H:Hp) (x:V) (v vl vu:Value) (lo hi:Option Int) (sl:Addr) (Q:VK),Inv X pins σ H s->RelV x v->s.heap.IsSliceOf sl vl vu .none->IsPart vl lo->IsPart vu hi->r x lo hi H Q->
  ∃ T id,typeLookup (.type T) "__getitem__"=pure (some (.builtin id))/\s.TypeIs v T/\wpAny (model X.prog X.w) X.A (getItem v (.ref sl)) (EP X pins σ Q) X.xe s
def pN (r:V->Option Int->Option Int->Hp->VK->Prop)(te:TE)(tl th:TO):TE:=fun σ H Q=>te σ H fun x H1=>tl σ H1 fun l H2=>th σ H2 fun u H3=>r x l u H3 Q
theorem aH {r:V->Option Int->Option Int->Hp->VK->Prop}(hr:qm X r)(he:PE X e te)(hl:PO X lo tl)(hu:PO X hi th):PE X (.Subscript e (.Slice lo hi none p2) pos) (pN r te tl th):=by
 intro pins s σ H Q I h
 refine Subscript_ (aV (he pins s σ H _ I h) fun v s1 ⟨x,H1,I1,r1,q1⟩=>?_)
 refine wpAny_Slice (aV (hl pins s1 σ H1 _ I1 q1) fun vl s2 ⟨l,H2,I2,pl,q2⟩=>aV (hu pins s2 σ H2 _ I2 q2) fun vu s3 ⟨u,H3,I3,pu,q3⟩=>?_)
 rw[evalPart_none]
 refine wpAny_pure ?_
 have I4:Inv X pins σ H3 {s3 with heap:=s3.heap.push {cls:=.type "slice",data:=.fields #[vl,vu,.none]}}:=I3.kept (t':=s3.toks) fun b ob q=>Heap.get?_push_of_some _ q
 obtain⟨T,id,hT,ht,hg⟩:=hr pins {s3 with heap:=s3.heap.push {cls:=.type "slice",data:=.fields #[vl,vu,.none]}} σ H3 x v vl vu l u s3.heap.objs.size Q I4 r1 (Heap.IsSliceOf.new ..) pl pu q3
 show wpAny (model X.prog X.w) X.A (subscriptTail e (.Slice lo hi none p2) v (.ref s3.heap.objs.size)) (EP X pins σ Q) X.xe {s3 with heap:=s3.heap.push {cls:=.type "slice",data:=.fields #[vl,vu,.none]}}
 exact tail_any (ops:=[.ref s3.heap.objs.size,v]) ht hT hg (by with_unfolding_all rfl)
def cQ (xs:List V)(lo hi:Option Int):List V:=(xs.drop (HT.sIx xs.length 0 lo)).take (HT.sIx xs.length xs.length hi - HT.sIx xs.length 0 lo)
theorem dJ (xs:List V)(lo hi:Option Int):(cQ xs lo hi).length<=xs.length:=by
 unfold cQ
 rw[List.length_take,List.length_drop]
 omega
def rK (K:PySem.W.Frag):V->Option Int->Option Int->Hp->VK->Prop:=fun x lo hi H Q=>∃ a xs,x=.ref a/\SqT K H a xs/\
 ¬ (HT.sIx xs.length 0 lo=0/\HT.sIx xs.length xs.length hi=xs.length)/\∀ p,H p=none->Q (.ref p) (upd H p (.tup (cQ xs lo hi)))
theorem oH:qm X (rK X.K):=by
 intro pins s σ H x v vl vu lo hi sl Q I rx hs pl pu h
 obtain⟨a,xs,rfl,hx,hw,q⟩:=h
 cases rx
 obtain⟨its,r,ht,hz⟩:=I.tuple hx
 have hlen:its.toArray.size=xs.length:=by rw[List.size_toArray];exact r.length.symm
 refine⟨"tuple",_,PyProof.Rows.slot_tuple_getitem.lookup,ht.typeIs,?_⟩
 refine HT.getItem_tuple_cut ht hs pl pu (by rw[hlen];exact hw) ?_ (by rw[hlen];exact hz)
 rw[hlen]
 refine⟨.ref s.heap.objs.size,_,I.laid (t':=s.toks) (o:=.tup (cQ xs lo hi)) (fun b ob q=>Heap.get?_push_of_some _ q) (Nat.le_refl _) ?_,rfl,q _ (I.hok.fresh (Nat.le_refl _))⟩
 exact⟨Nat.le_trans (dJ xs lo hi) hz,_,(r.drop (HT.sIx xs.length 0 lo)).take (HT.sIx xs.length xs.length hi - HT.sIx xs.length 0 lo),IsTup.new _ _⟩
def qo (K:PySem.W.Frag):R2:=fun x y H Q=>∃ a b xs ys,x=.ref a/\y=.ref b/\SqT K H a xs/\SqT K H b ys/\xs≠[]/\xs.length+ys.length<=sizeLine/\
 (ys=[]->Q (.ref a) H)/\(ys≠[]->∀ p,H p=none->Q (.ref p) (upd H p (.tup (xs++ys))))
theorem Vals.nil_iff {xs:List V}{us:List Value}(r:Vals xs us):us=[]↔xs=[]:=by
 cases r with
 |nil=>simp
 |cons _ _=>simp
theorem mD:OpR X (binaryOp .Add) (qo X.K):=by
 intro pins s σ H x y v u Q I rx ry h
 obtain⟨a,b,xs,ys,rfl,rfl,ha,hb,hx,hz,q1,q2⟩:=h
 cases rx
 cases ry
 obtain⟨its,r1,p1,_⟩:=I.tuple ha
 obtain⟨its2,r2,p2,_⟩:=I.tuple hb
 refine HT.cat_tup p1 p2 (fun z=>hx (r1.nil_iff.mp z)) (fun z=>⟨.ref a,H,I,rfl,q1 (r2.nil_iff.mp z)⟩) (fun z=>?_) (by rw[← r1.length,← r2.length];exact hz)
 refine⟨.ref s.heap.objs.size,_,I.laid (t':=s.toks) (o:=.tup (xs++ys)) (fun b ob q=>Heap.get?_push_of_some _ q) (Nat.le_refl _) ?_,rfl,q2 (fun w=>z (r2.nil_iff.mpr w)) _ (I.hok.fresh (Nat.le_refl _))⟩
 exact⟨by rw[List.length_append];exact hz,_,r1.append r2,IsTup.new _ _⟩
end
end L2
namespace L2
open PySem PySem.Spec PyProof.Rows
def j8 (n:Nat)(i:Int):Option Nat:=if 0<=i then (if i < n then some i.toNat else none) else if -(n:Int)<=i then some (i+n).toNat else none
def gg {α:Type}(xs:List α)(i:Int):Option α:=(j8 xs.length i).bind fun j=>xs[j]?
theorem iM {n:Nat}{i:Int}{j:Nat}(h:j8 n i=some j):seqIndex? i n=some j/\j < n/\ -(n:Int)<=i/\i < n:=by
 unfold j8 at h
 by_cases h0:0<=i
 ·rw[if_pos h0] at h
  by_cases h1:i < n
  ·rw[if_pos h1] at h
   have e:i.toNat=j:=Option.some.inj h
   exact⟨by rw[seqIndex_of h0 h1,e],by omega,by omega,h1⟩
  ·rw[if_neg h1] at h;cases h
 ·rw[if_neg h0] at h
  by_cases h1:-(n:Int)<=i
  ·rw[if_pos h1] at h
   have e:(i+n).toNat=j:=Option.some.inj h
   exact⟨by rw[seqIndex_neg (by omega) h1,e],by omega,h1,by omega⟩
  ·rw[if_neg h1] at h;cases h
theorem fR {α:Type}{xs:List α}{i:Int}{v:α}(h:gg xs i=some v):∃ j,seqIndex? i xs.length=some j/\xs[j]? =some v/\j < xs.length/\ -(xs.length:Int)<=i/\i < xs.length:=by
 unfold gg at h
 cases e:j8 xs.length i with
 |none=>rw[e] at h;cases h
 |some j=>
  rw[e] at h
  obtain⟨h1,h2,h3,h4⟩:=iM e
  exact⟨j,h1,h,h2,h3,h4⟩
theorem mE {α:Type}{xs:List α}{j:Nat}{v:α}(h:xs[j]? =some v):gg xs (j:Int)=some v:=by
 have hj:j < xs.length:=(List.getElem?_eq_some_iff.mp h).1
 have e:j8 xs.length (j:Int)=some j:=by
  unfold j8
  rw[if_pos (by omega),if_pos (by omega)];simp
 unfold gg;rw[e];exact h
def mF (b:Expr):Prop:=∀ o i,subscripted b false o i=operate [o,i] (getItem o i)
def IxR (X:Cx)(r:R2):Prop:=
 ∀ (value slice:Expr) (pins:List (Addr×Obj)) (s:Shared) (σ:St) (H:Hp) (x y:V) (v u:Value) (Q:VK),Inv X pins σ H s->RelV x v->RelV y u->r x y H Q->
  subscripted slice false v u=operate [v,u] (getItem v u)->wpAny (model X.prog X.w) X.A (subscriptTail value slice v u) (EP X pins σ Q) X.xe s
def nE (X:Cx)(id:String)(r:V->List V->Hp->VK->Prop):Prop:=
 ∀ (pins:List (Addr×Obj)) (s:Shared) (σ:St) (H:Hp) (x:V) (xs:List V) (v:Value) (us:List Value) (Q:VK),Inv X pins σ H s->RelV x v->Vals xs us->r x xs H Q->
  wpAny (model X.prog X.w) X.A (call (.builtin id) (v::us)) (EP X pins σ Q) X.xe s
section
variable {X:Cx}{a b:Expr}{ta tb:TE}{pos:Pos}
theorem IxR.or {r r':R2}(h:IxR X r)(h':IxR X r'):IxR X (fun x y H Q=>r x y H Q\/r' x y H Q):=by
 intro value slice pins s σ H x y v u Q I rx ry q hs
 rcases q with q|q
 ·exact h value slice pins s σ H x y v u Q I rx ry q hs
 ·exact h' value slice pins s σ H x y v u Q I rx ry q hs
theorem ax {r:R2}(hr:IxR X r)(ha:PE X a ta)(hb:PE X b tb)(hs:mF b):PE X (.Subscript a b pos) (jw r ta tb):=by
 intro pins s σ H Q I h
 exact Subscript_ (ow ha hb I h fun v u s2 x y H2 I2 rx ry q=>hr a b pins s2 σ H2 x y v u Q I2 rx ry q (hs _ _))
inductive qp (K:PySem.W.Frag)(x y:V)(H:Hp)(Q:VK):Prop
 |mk (p:Addr)(xs:List V)(i:Int)(v:V)(hx:x=.ref p)(hy:y=.int i)(h:SqL K H p xs)(e:gg xs i=some v)(q:Q v H):qp K x y H Q
inductive qq (K:PySem.W.Frag)(x y:V)(H:Hp)(Q:VK):Prop
 |mk (p:Addr)(xs:List V)(i:Int)(v:V)(hx:x=.ref p)(hy:y=.int i)(h:SqT K H p xs)(e:gg xs i=some v)(q:Q v H):qq K x y H Q
inductive qr (x y:V)(H:Hp)(Q:VK):Prop
 |mk (z:Str)(i:Int)(c:Nat)(hx:x=.str z)(hy:y=.int i)(h:z.length<=sizeLine)(e:gg z.cps.toList i=some c)(q:Q (.str ⟨#[c]⟩) H):qr x y H Q
def qt (K:PySem.W.Frag):R2:=fun x y H Q=>qp K x y H Q
def qu (K:PySem.W.Frag):R2:=fun x y H Q=>qq K x y H Q
def qv:R2:=fun x y H Q=>qr x y H Q
theorem ix_list:IxR X (qt X.K):=by
 intro value slice pins s σ H x y v u Q I rx ry h hs
 obtain⟨p,xs,i,z,rfl,rfl,hq,he,q⟩:=h
 cases rx
 obtain⟨t,rfl⟩:=ry
 obtain⟨its,r,pl,hz⟩:=I.list hq
 obtain⟨j,h1,h2,h3,h4,h5⟩:=fR he
 obtain⟨w,ew,rw'⟩:=r.get h2
 have hl:=r.length
 have hn:=dr
 have fin:EP X pins σ Q w s:=⟨z,H,I,rw',q⟩
 by_cases h0:0<=i
 ·have hj:i.toNat=j:=by
   rw[seqIndex_of h0 h5] at h1
   exact Option.some.inj h1
  exact item_listR pl.isList h0 (by omega) (by rw[hj];simpa using ew) fin hs
 ·have hj:(i+(its.toArray.size:Int)).toNat=j:=by
   rw[seqIndex_neg (by omega) h4] at h1
   rw[List.size_toArray,← hl]
   exact Option.some.inj h1
  exact subscriptTail_builtinR (x:=w) pl.isList.typeIs slot_list_getitem.lookup
   (wpAny_getItem_list_neg (Q:=fun r s'=>r=w/\EP X pins σ Q r s') pl.isList (by omega) (by rw[List.size_toArray]<;>omega) (by omega) (by rw[hj];simpa using ew) ⟨rfl,fin⟩) hs
theorem ix_tup:IxR X (qu X.K):=by
 intro value slice pins s σ H x y v u Q I rx ry h hs
 obtain⟨p,xs,i,z,rfl,rfl,hq,he,q⟩:=h
 cases rx
 obtain⟨t,rfl⟩:=ry
 obtain⟨its,r,pl,hz⟩:=I.tuple hq
 obtain⟨j,h1,h2,h3,h4,h5⟩:=fR he
 obtain⟨w,ew,rw'⟩:=r.get h2
 have hl:=r.length
 have hn:=dr
 have fin:EP X pins σ Q w s:=⟨z,H,I,rw',q⟩
 exact subscriptTail_builtinR (x:=w) pl.typeIs slot_tuple_getitem.lookup
  (getItem_tuple (j:=j) (Q:=fun r s'=>r=w/\EP X pins σ Q r s') pl (by omega) (by omega) (by rw[List.size_toArray,← hl];exact h1) (by simpa using ew) ⟨rfl,fin⟩) hs
theorem oI:IxR X qv:=by
 intro value slice pins s σ H x y v u Q I rx ry h hs
 obtain⟨z,i,c,rfl,rfl,hz,he,q⟩:=h
 obtain⟨t,rfl⟩:=rx
 obtain⟨t',rfl⟩:=ry
 obtain⟨j,h1,h2,h3,h4,h5⟩:=fR he
 have hl:z.cps.toList.length=z.length:=by simp [Str.length]
 rw[hl] at h1 h4 h5
 have hn:=dr
 exact tail_any (typeIs_str s z t) slot_str_getitem.lookup (getItem_str (c:=c) (by
  have e1:decide (i < -(2 ^ 63:Int))=false:=decide_eq_false (by omega)
  have e2:decide (i>=2 ^ 63)=false:=decide_eq_false (by omega)
  rw[e1,e2,Bool.or_false]) (by rw[h1];simpa using h2) ⟨.str ⟨#[c]⟩,H,I.tok _,⟨_,rfl⟩,q⟩) hs
def pO (K:PySem.W.Frag):R2:=fun x y H Q=>qt K x y H Q\/qu K x y H Q\/qv x y H Q
theorem ap:IxR X (pO X.K):=ix_list.or (ix_tup.or oI)
theorem g_ (its:List Value)(n j:Nat)(u:Value):Obj.mapSeq (·.setIfInBounds j u) {cls:=.type "list",data:=.seq its.toArray n}={cls:=.type "list",data:=.seq (its.set j u).toArray n}:=by
 simp [Obj.mapSeq]
theorem Inv.lst {pins:List (Addr×Obj)}{σ:St}{H:Hp}{s:Shared}{p:Addr}{xs:List V}(I:Inv X pins σ H s)(h:H p=some (.lst xs)):
  ∃ (its:List Value) (n:Nat),Vals xs its/\s.heap.get? p=some {cls:=.type "list",data:=.seq its.toArray n}/\xs.length<=sizeLine:=by
 obtain⟨z,its,n,r,e⟩:=I.hok p _ h
 exact⟨its,n,r,e,z⟩
theorem Inv.lstUpd {pins:List (Addr×Obj)}{σ:St}{H:Hp}{s:Shared}{p:Addr}{xs ys:List V}{its its':List Value}{n n':Nat}{f:Obj->Obj}(I:Inv X pins σ H s)(h:H p=some (.lst xs))
  (ho:s.heap.get? p=some {cls:=.type "list",data:=.seq its.toArray n}) (hf:f {cls:=.type "list",data:=.seq its.toArray n}={cls:=.type "list",data:=.seq its'.toArray n'}) (r:Vals ys its') (hz:ys.length<=sizeLine) (t:Nat):
  Inv X pins σ (upd H p (.lst ys)) {s with heap:=s.heap.update p f,toks:=t}:=by
 have e:(s.heap.update p f).get? p=some {cls:=.type "list",data:=.seq its'.toArray n'}:=by
  rw[Heap.get?_update_self f ho (by rw[hf]<;>rfl),hf]
 refine I.write (x:=p) (e:=p) (by rw[h];trivial) (.inl rfl) (fun b u hb q=>(Heap.get?_update_other _ _ (Ne.symm hb)).trans q) ⟨_,e⟩ ?_
 exact⟨hz,its',n',r,e⟩
def qw:V->V->V->Hp->(Hp->Prop)->Prop:=fun o i v H Q=>∃ p xs k j,o=.ref p/\i=.int k/\H p=some (.lst xs)/\j8 xs.length k=some j/\Q (upd H p (.lst (xs.set j v)))
theorem de:pX X qw:=by
 intro pins s σ H o i v ov iv u Q I ro ri rv h
 obtain⟨p,xs,k,j,rfl,rfl,hp,hj,q⟩:=h
 cases ro
 obtain⟨t,rfl⟩:=ri
 obtain⟨its,n,r,ho,hz⟩:=I.lst hp
 obtain⟨h1,h2,h3,h4⟩:=iM hj
 have hl:=r.length
 have hn:=dr
 have I':Inv X pins σ (upd H p (.lst (xs.set j v))) {s with heap:=s.heap.update p (Obj.mapSeq (·.setIfInBounds j u))}:=
  I.lstUpd hp ho (g_ its n j u) (r.set rv j) (by rw[List.length_set];exact hz) s.toks
 by_cases h0:0<=k
 ·have hk:k.toNat=j:=by
   rw[seqIndex_of h0 h4] at h1
   exact Option.some.inj h1
  exact PySem.W.ki_setAt ho h0 (by omega) (by rw[List.size_toArray,← hl];exact h4) (by rw[hk];exact⟨_,I',q⟩)
 ·have hk:(k+(its.toArray.size:Int)).toNat=j:=by
   rw[seqIndex_neg (by omega) h3] at h1
   rw[List.size_toArray,← hl]
   exact Option.some.inj h1
  exact PySem.W.ki_setBack ho (by omega) (by rw[List.size_toArray,← hl];exact h3) (by omega) (by rw[hk];exact⟨_,I',q⟩)
theorem fS (lo hi:Option Int)(n:Nat):(sliceBounds lo hi none n).1=((HT.sIx n 0 lo:Nat):Int)/\(sliceBounds lo hi none n).2.1=((HT.sIx n n hi:Nat):Int)/\(sliceBounds lo hi none n).2.2=1:=by
 refine⟨?_,?_,rfl⟩
 ·cases lo with
  |none=>simp [sliceBounds,HT.sIx]
  |some i=>
   simp only [sliceBounds,HT.sIx,Option.getD_none,show (1:Int) > 0 by decide,if_true]
   by_cases h:i < 0
   ·simp only [h,if_true]<;>omega
   ·simp only [h,if_false]<;>omega
 ·cases hi with
  |none=>simp [sliceBounds,HT.sIx]
  |some i=>
   simp only [sliceBounds,HT.sIx,Option.getD_none,show (1:Int) > 0 by decide,if_true]
   by_cases h:i < 0
   ·simp only [h,if_true]<;>omega
   ·simp only [h,if_false]<;>omega
theorem fb (its:List Value)(lo hi:Option Int):slicePick its.toArray lo hi none=((its.drop (HT.sIx its.length 0 lo)).take (HT.sIx its.length its.length hi - HT.sIx its.length 0 lo)).toArray:=by
 obtain⟨h1,h2,h3⟩:=fS lo hi its.toArray.size
 unfold slicePick
 rw[h1,h2,h3]
 simp only [sliceRange_one,pick_run,List.size_toArray]<;>rfl
def qx (K:PySem.W.Frag):V->Option Int->Option Int->Hp->VK->Prop:=fun x lo hi H Q=>∃ a xs,x=.ref a/\SqL K H a xs/\∀ p,H p=none->Q (.ref p) (upd H p (.lst (cQ xs lo hi)))
theorem dR:qm X (qx X.K):=by
 intro pins s σ H x v vl vu lo hi sl Q I rx hs pl pu h
 obtain⟨a,xs,rfl,hx,q⟩:=h
 cases rx
 obtain⟨its,r,ht,hz⟩:=I.list hx
 have hlen:=r.length
 refine⟨"list",_,slot_list_getitem.lookup,ht.isList.typeIs,?_⟩
 refine wpAny_getItem_list_slice ht.isList hs pl pu .none (by simp) ?_ (by rw[List.size_toArray]<;>omega)
 rw[fb,← hlen]
 refine⟨.ref s.heap.objs.size,_,I.laid (t':=s.toks) (o:=.lst (cQ xs lo hi)) (fun b ob q=>Heap.get?_push_of_some _ q) (Nat.le_refl _) ?_,rfl,q _ (I.hok.fresh (Nat.le_refl _))⟩
 exact⟨Nat.le_trans (dJ xs lo hi) hz,_,0,(r.drop (HT.sIx xs.length 0 lo)).take (HT.sIx xs.length xs.length hi - HT.sIx xs.length 0 lo),Heap.get?_push_size _ rfl⟩
def cT:V->Bool
 |.non=>true
 |.bl _=>true
 |.int _=>true
 |.str _=>true
 |_=>false
def ki:V->V->Bool
 |.non,.non=>true
 |.bl a,.bl b=>a == b
 |.bl a,.int b=>(if a then 1 else 0) == b
 |.int a,.bl b=>a == (if b then 1 else 0)
 |.int a,.int b=>a == b
 |.str a,.str b=>a == b
 |_,_=>false
theorem oJ {A:Around}{s:Shared}{y x:V}{u v:Value}(ry:RelV y u)(rx:RelV x v)(fy:cT y=true)(fx:cT x=true):SeqAt.EqAt A s u v (ki y x):=by
 cases y with
 |non=>
  cases ry
  cases x with
  |non=>cases rx;exact SeqAt.EqAt.same _
  |bl b=>cases rx;exact SeqAt.EqAt.none_bool b
  |int b=>obtain⟨t,rfl⟩:=rx;exact SeqAt.EqAt.none_int b t
  |str b=>obtain⟨t,rfl⟩:=rx;exact SeqAt.EqAt.none_str b t
  |_=>exact absurd (show false=true from fx) Bool.false_ne_true
 |bl a=>
  cases ry
  cases x with
  |non=>cases rx;exact SeqAt.EqAt.bool_none a
  |bl b=>cases rx;exact SeqAt.EqAt.bool_bool a b
  |int b=>obtain⟨t,rfl⟩:=rx;exact SeqAt.EqAt.bool_int a b t
  |str b=>obtain⟨t,rfl⟩:=rx;exact SeqAt.EqAt.bool_str a b t
  |_=>exact absurd (show false=true from fx) Bool.false_ne_true
 |int a=>
  obtain⟨t',rfl⟩:=ry
  cases x with
  |non=>cases rx;exact SeqAt.EqAt.int_none a t'
  |bl b=>cases rx;exact SeqAt.EqAt.int_bool a t' b
  |int b=>obtain⟨t,rfl⟩:=rx;exact SeqAt.EqAt.int_int a t' b t
  |str b=>obtain⟨t,rfl⟩:=rx;exact SeqAt.EqAt.int_str a t' b t
  |_=>exact absurd (show false=true from fx) Bool.false_ne_true
 |str a=>
  obtain⟨t',rfl⟩:=ry
  cases x with
  |non=>cases rx;exact SeqAt.EqAt.str_none a t'
  |bl b=>cases rx;exact SeqAt.EqAt.str_bool a t' b
  |int b=>obtain⟨t,rfl⟩:=rx;exact SeqAt.EqAt.str_int a t' b t
  |str b=>obtain⟨t,rfl⟩:=rx;exact SeqAt.EqAt.str_str a t' b t
  |_=>exact absurd (show false=true from fx) Bool.false_ne_true
 |_=>exact absurd (show false=true from fy) Bool.false_ne_true
def hG (x:V)(u:Value):Bool:=match u with
 |.none=>ki .non x
 |.bool b=>ki (.bl b) x
 |.int i _=>ki (.int i) x
 |.str z _=>ki (.str z) x
 |_=>false
theorem kj {x y:V}{u:Value}(r:RelV y u)(f:cT y=true):hG x u=ki y x:=by
 cases y with
 |non=>cases r;rfl
 |bl b=>cases r;rfl
 |int i=>obtain⟨t,rfl⟩:=r;rfl
 |str z=>obtain⟨t,rfl⟩:=r;rfl
 |_=>exact absurd (show false=true from f) Bool.false_ne_true
theorem df {x:V}:∀ {xs:List V} {us:List Value},Vals xs us->xs.all cT=true->us.any (hG x)=xs.any fun y=>ki y x
 |_,_,.nil,_=>rfl
 |y::xs,u::us,.cons r t,f=>by
  rw[List.all_cons,Bool.and_eq_true] at f
  rw[List.any_cons,List.any_cons,kj r f.1,df t f.2]
theorem cD {A:Around}{s:Shared}{x:V}{v:Value}(rx:RelV x v)(fx:cT x=true):∀ {xs:List V} {us:List Value},Vals xs us->xs.all cT=true->∀ u∈us,SeqAt.EqAt A s u v (hG x u)
 |_,_,.nil,_=>fun u hu=>by cases hu
 |y::xs,u::us,.cons r t,f=>fun u' hu=>by
  rw[List.all_cons,Bool.and_eq_true] at f
  rcases List.mem_cons.mp hu with rfl|hu
  ·rw[kj r f.1];exact oJ r rx f.1 fx
  ·exact cD rx fx t f.2 u' hu
def kl (x:V)(xs:List V):Bool:=xs.any fun y=>ki y x
inductive si (K:PySem.W.Frag)(neg:Bool)(x y:V)(H:Hp)(Q:VK):Prop
 |mk (p:Addr)(xs:List V)(hy:y=.ref p)(h:SqL K H p xs\/SqT K H p xs)(fx:cT x=true)(fs:xs.all cT=true)(q:Q (.bl (if neg then !kl x xs else kl x xs)) H):si K neg x y H Q
def sj (K:PySem.W.Frag)(neg:Bool):R2:=fun x y H Q=>si K neg x y H Q
theorem jC:OpR X (compareOp .In) (sj X.K false):=by
 intro pins s σ H x y v u Q I rx ry h
 obtain⟨p,xs,rfl,hq,fx,fs,q⟩:=h
 cases ry
 rcases hq with hq|hq
 ·obtain⟨its,r,pl,hz⟩:=I.list hq
  refine SeqAt.in_listAt (hG x) pl.isList (fun w hw=>cD rx fx r fs w (by simpa using hw)) ⟨.bl _,H,I,rfl,?_⟩
  rw[show its.toArray.any (hG x)=its.any (hG x) by simp,df r fs]
  exact q
 ·obtain⟨its,r,pl,hz⟩:=I.tuple hq
  refine SeqAt.in_tupleAt (hG x) pl (fun w hw=>cD rx fx r fs w (by simpa using hw)) ⟨.bl _,H,I,rfl,?_⟩
  rw[show its.toArray.any (hG x)=its.any (hG x) by simp,df r fs]
  exact q
theorem fT:OpR X (compareOp .NotIn) (sj X.K true):=by
 intro pins s σ H x y v u Q I rx ry h
 obtain⟨p,xs,rfl,hq,fx,fs,q⟩:=h
 cases ry
 rcases hq with hq|hq
 ·obtain⟨its,r,pl,hz⟩:=I.list hq
  refine SeqAt.notIn_listAt (hG x) pl.isList (fun w hw=>cD rx fx r fs w (by simpa using hw)) ⟨.bl _,H,I,rfl,?_⟩
  rw[show its.toArray.any (hG x)=its.any (hG x) by simp,df r fs]
  exact q
 ·obtain⟨its,r,pl,hz⟩:=I.tuple hq
  refine SeqAt.notIn_tupleAt (hG x) pl (fun w hw=>cD rx fx r fs w (by simpa using hw)) ⟨.bl _,H,I,rfl,?_⟩
  rw[show its.toArray.any (hG x)=its.any (hG x) by simp,df r fs]
  exact q
theorem bV:bN X (.type "list") (fun xs H Q=>∃ p ys,xs=[.ref p]/\(SqL X.K H p ys\/SqT X.K H p ys)/\∀ l,H l=none->Q (.ref l) (upd H l (.lst ys))):=by
 intro pins s σ H xs us Q I r h
 obtain⟨p,ys,rfl,hq,q⟩:=h
 obtain⟨u,rfl,rx⟩:=bG r
 cases rx
 have fin:∀ (its:List Value),Vals ys its->ys.length<=sizeLine->∀ (h':Heap) (c':Nat),(∀ b o',s.heap.get? b=some o'->h'.get? b=some o')->
   h'.get? s.heap.objs.size=some {cls:=.type "list",dict:=none,data:=.seq its.toArray c',slots:=#[]}->EP X pins σ Q (.ref s.heap.objs.size) {s with heap:=h'}:=fun its r' hz h' c' kp e=>
  ⟨.ref s.heap.objs.size,_,I.laid (t':=s.toks) kp (Nat.le_refl _) (show ObjOk X.prog X.w _ h' _ (.lst ys) from ⟨hz,its,c',r',e⟩),rfl,q _ (I.hok.fresh (Nat.le_refl _))⟩
 rcases hq with hq|hq
 ·obtain⟨its,r',pl,hz⟩:=I.list hq
  have hlen:=r'.length
  obtain⟨o,ho,hc,n,hd⟩:=pl.isList
  exact call_list_seq p (.inl rfl) ho hc hd (fun h' c' kp e=>fin its r' hz h' c' kp e) (by simp only [List.size_toArray]<;>omega)
 ·obtain⟨its,r',pl,hz⟩:=I.tuple hq
  have hlen:=r'.length
  obtain⟨o,ho,hc,n,hd⟩:=pl
  exact call_list_seq p (.inr rfl) ho hc hd (fun h' c' kp e=>fin its r' hz h' c' kp e) (by simp only [List.size_toArray]<;>omega)
theorem bL:bN X (.type "tuple") (fun xs H Q=>∃ p ys,xs=[.ref p]/\((SqL X.K H p ys/\∀ l,H l=none->Q (.ref l) (upd H l (.tup ys)))\/(SqT X.K H p ys/\Q (.ref p) H))):=by
 intro pins s σ H xs us Q I r h
 obtain⟨p,ys,rfl,h⟩:=h
 obtain⟨u,rfl,rx⟩:=bG r
 cases rx
 rcases h with⟨hq,q⟩|⟨hq,q⟩
 ·obtain⟨its,r',pl,hz⟩:=I.list hq
  have hlen:=r'.length
  refine call_tuple_list pl.isList (fun h' kp=>?_) (by simp only [List.size_toArray]<;>omega)
  have I1:Inv X pins σ H {s with heap:=h'}:=I.kept (t':=s.toks) kp
  have I2:Inv X pins σ (upd H h'.objs.size (.tup ys)) {s with heap:=h'.push {cls:=.type "tuple",data:=.seq its.toArray}}:=
   I1.laid (t':=s.toks) (fun b o e=>Heap.get?_push_of_some _ e) (Nat.le_refl _) (show ObjOk X.prog X.w _ _ _ (.tup ys) from ⟨hz,its,r',IsTup.new _ _⟩)
  exact⟨.ref h'.objs.size,_,I2,rfl,q _ (I1.hok.fresh (Nat.le_refl _))⟩
 ·obtain⟨its,r',pl,hz⟩:=I.tuple hq
  exact call_tuple_same pl ⟨.ref p,H,I,rfl,q⟩
def rL (K:PySem.W.Frag)(T:String)(x:V)(H:Hp):Prop:=match x with
 |.str _=>T="str"
 |.int _=>T="int"
 |.ref p=>(T="list"/\∃ xs,SqL K H p xs)\/(T="tuple"/\∃ o,K.lookup p=some o/\o.cls=.type "tuple"/\o.dict=none)\/
   (T="dict"/\((∃ kvs,H p=some (.dK kvs))\/∃ kvs,H p=some (.dT kvs)))\/(T="set"/\∃ S n,H p=some (.set S n))
 |_=>False
theorem kn {pins:List (Addr×Obj)}{σ:St}{H:Hp}{s:Shared}{T:String}{x:V}{v:Value}(I:Inv X pins σ H s)(r:RelV x v)(ty:rL X.K T x H):
  s.TypeIs v T/\∀ a,v=.ref a->∃ ob,s.heap.get? a=some ob/\ob.dict=none:=by
 cases x with
 |str z=>
  obtain⟨t,rfl⟩:=r
  cases (show T="str" from ty)
  exact⟨typeIs_str s z t,fun _ e=>nomatch e⟩
 |int i=>
  obtain⟨t,rfl⟩:=r
  cases (show T="int" from ty)
  exact⟨typeIs_int s i t,fun _ e=>nomatch e⟩
 |ref p=>
  cases r
  rcases ty with⟨rfl,xs,hq⟩|⟨rfl,o,hk,hc,hd⟩|⟨rfl,hk⟩|⟨rfl,S,n,hk⟩
  ·obtain⟨its,_,pl,_⟩:=I.list hq
   refine⟨pl.isList.typeIs,fun a e=>?_⟩
   cases e
   obtain⟨o,n,e,c,hd,_⟩:=pl
   exact⟨o,e,hd⟩
  ·refine⟨⟨o,I.kIn p o hk,hc⟩,fun a e=>?_⟩
   cases e
   exact⟨o,I.kIn _ o hk,hd⟩
  ·have z:∃ o,s.heap.get? p=some o/\o.ExactDict:=by
    rcases hk with⟨kvs,hk⟩|⟨kvs,hk⟩
    ·obtain⟨_,_,_,_,o,_,_,e,ex,_⟩:=I.hok p _ hk
     exact⟨o,e,ex⟩
    ·obtain⟨_,_,_,_,o,_,_,e,ex,_⟩:=I.hok p _ hk
     exact⟨o,e,ex⟩
   obtain⟨o,e,ex⟩:=z
   refine⟨⟨o,e,ex.1⟩,fun a e2=>?_⟩
   cases e2
   exact⟨o,e,ex.2.1⟩
  ·obtain⟨o,_,_,_,e,ex,_⟩:=I.hok p _ hk
   refine⟨⟨o,e,ex.1⟩,fun a e2=>?_⟩
   cases e2
   exact⟨o,e,ex.2.1⟩
 |_=>exact False.elim ty
def rM (K:PySem.W.Frag)(T:String)(r:V->List V->Hp->VK->Prop)(to:TE):TE:=fun σ H Q=>to σ H fun x H1=>rL K T x H1/\r x [] H1 Q
def sA (K:PySem.W.Frag)(T:String)(r:V->List V->Hp->VK->Prop)(to:TE)(t:TA):TE:=fun σ H Q=>to σ H fun x H1=>rL K T x H1/\t σ H1 fun xs H2=>r x xs H2 Q
variable {o e:Expr}{es:List Expr}{to:TE}{t:TA}{name:Str}{apos cpos:Pos}{T id:String}{r:V->List V->Hp->VK->Prop}
theorem oK (pa:PlainAttrs T)(slot:Slot T name id)(hty:typeOf (.builtin id)=pure (.type "method_descriptor"))(hm:nE X id r)(ho:PE X o to)
  (hbase:attributeBase o name X.env (eval o X.env)=eval o X.env:=by rfl) (hline:(apos.endLine == cpos.line)=true:=by rfl):PE X (.Call (.Attribute o name apos) [] [] cpos) (rM X.K T r to):=by
 intro pins s σ H Q I h
 refine wpAny_Call_method0_late hbase hline (aV (ho pins s σ H _ I h) fun v s1 ⟨x,H1,I1,r1,ty,q1⟩=>?_)
 obtain⟨h1,h2⟩:=kn I1 r1 ty
 exact⟨T,id,pa,slot,hty,h1,h2,Calls.callWith_builtin rfl (PySem.evalArgs_none (hm pins s1 σ H1 x [] v [] Q I1 r1 .nil q1))⟩
theorem bS (pa:PlainAttrs T)(slot:Slot T name id)(hty:typeOf (.builtin id)=pure (.type "method_descriptor"))(hm:nE X id r)(ho:PE X o to)(ha:PA X (e::es) t)
  (hbase:attributeBase o name X.env (eval o X.env)=eval o X.env:=by rfl)
  (hfew:((backTo cpos (starEach (e::es) X.env)).all (fun x=>!x.1)&&(backToKw cpos (keywordEach [] X.env)).all (fun x=>x.1.isSome)
   &&decide ((e::es).length+([]:List Keyword).length+(if ([]:List Keyword).isEmpty then 0 else 1) < 30))=true:=by rfl)
  (hline:(apos.endLine == cpos.line)=true:=by rfl) (hs:starEach (e::es) X.env=(false,eval e X.env)::starEach es X.env:=by rfl) (hplain:(backTo cpos (starEach es X.env)).any (·.1)=false:=by rfl):
  PE X (.Call (.Attribute o name apos) (e::es) [] cpos) (sA X.K T r to t):=by
 intro pins s σ H Q I h
 refine wpAny_Call_method_late hbase hfew hline rfl (aV (ho pins s σ H _ I h) fun v s1 ⟨x,H1,I1,r1,ty,q1⟩=>?_)
 obtain⟨h1,h2⟩:=kn I1 r1 ty
 refine⟨T,id,pa,slot,hty,h1,h2,?_⟩
 have hA:=ha cpos pins s1 σ H1 _ I1 q1
 rw[hs] at hA ⊢
 refine Calls.callWith_builtin (by show (false || (backTo cpos (starEach es X.env)).any (·.1))=false;rw[hplain]<;>rfl) (Calls.evalArgs_plain ?_)
 exact aV hA fun us s2 ⟨vs,H2,I2,r2,q2⟩=>hm pins s2 σ H2 x vs v us Q I2 r1 r2 q2
end
end L2
namespace L2
open PySem PySem.Spec PyProof.Rows
def sk (X:Cx)(id:String)(r:V->List V->Hp->VK->Prop):Prop:=
 ∀ (pins:List (Addr×Obj)) (s:Shared) (σ:St) (H:Hp) (x:V) (xs:List V) (v:Value) (us:List Value) (Q:VK),Inv X pins σ H s->RelV x v->Vals xs us->r x xs H Q->
  wpAny (model X.prog X.w) X.A (call (.builtin id) (v::us)) (EP X pins σ Q) X.xe s
theorem Vals.one:∀ {x:V} {us:List Value},Vals [x] us->∃ u,us=[u]/\RelV x u
 |_,_,.cons r .nil=>⟨_,rfl,r⟩
theorem Vals.zero:∀ {us:List Value},Vals [] us->us=[]
 |_,.nil=>rfl
section
variable {X:Cx}{pins:List (Addr×Obj)}{σ:St}{H:Hp}{s:Shared}{l b:Addr}{xs ys zs:List V}
theorem Inv.lset {its its':List Value}{n:Nat}{f:Array Value->Array Value}{t':Nat}(I:Inv X pins σ H s)(hH:H l=some (.lst xs))
  (e:s.heap.get? l=some {cls:=.type "list",data:=.seq its.toArray n}) (hf:f its.toArray=its'.toArray) (hv:Vals ys its') (hz:ys.length<=sizeLine):
  Inv X pins σ (upd H l (.lst ys)) {s with heap:=s.heap.update l (Obj.mapSeq f),toks:=t'}:=by
 have q:=PySem.IsL.update e f
 rw[hf] at q
 refine I.write (x:=l) (e:=l) (by rw[hH];exact trivial) (.inl rfl) (fun b' u hb hu=>(Heap.get?_update_other s.heap (Obj.mapSeq f) (Ne.symm hb)).trans hu) ⟨_,q⟩ ?_
 exact⟨hz,its',_,hv,q⟩
theorem Inv.lnew {its:List Value}{t':Nat}(I:Inv X pins σ H s)(hv:Vals ys its)(hz:ys.length<=sizeLine):
  Inv X pins σ (upd H s.heap.objs.size (.lst ys)) {s with heap:=s.heap.push {cls:=.type "list",data:=.seq its.toArray},toks:=t'}:=
 I.laid (fun _ _ q=>Heap.get?_push_of_some _ q) (Nat.le_refl _) ⟨hz,its,0,hv,Heap.get?_push_size _ rfl⟩
theorem Inv.fresh (I:Inv X pins σ H s):H s.heap.objs.size=none:=I.hok.fresh (Nat.le_refl _)
theorem Inv.lstM (I:Inv X pins σ H s)(hH:H l=some (.lst xs)):xs.length<=sizeLine/\∃ (its:List Value) (n:Nat),Vals xs its/\xs.length=its.length/\s.heap.get? l=some {cls:=.type "list",data:=.seq its.toArray n}:=by
 obtain⟨z,its,n,r,e⟩:=I.hok l _ hH
 exact⟨z,its,n,r,r.length,e⟩
end
section
variable {X:Cx}
inductive qy (x:V)(vs:List V)(H:Hp)(Q:VK):Prop
 |mk (l:Addr)(xs:List V)(y:V)(hx:x=.ref l)(hv:vs=[y])(h:H l=some (.lst xs))(z:xs.length < sizeLine)(q:Q .non (upd H l (.lst (xs++[y])))):qy x vs H Q
def mG:V->List V->Hp->VK->Prop:=fun x vs H Q=>qy x vs H Q
theorem dt:sk X "list.append" mG:=by
 intro pins s σ H x vs v us Q I rx rv h
 obtain⟨l,xs,y,rfl,rfl,hH,hz,q⟩:=h
 cases rx
 obtain⟨u,rfl,ru⟩:=rv.one
 obtain⟨z,its,n,r,hl,e⟩:=I.lstM hH
 refine call_meets F.slot_list_append ⟨_,e,rfl⟩ F.entry_list_append (F.args_list_append_2 _ _) (PySem.list_append l its.toArray n u (by rw[List.size_toArray];omega)) ⟨e,?_⟩
 refine⟨.non,_,I.lset (its':=its++[u]) hH e (by simp) (r.append (.cons ru .nil)) ?_,rfl,q⟩
 rw[List.length_append,List.length_singleton]
 omega
def oM:V->List V->Hp->VK->Prop:=fun x vs H Q=>∃ l xs,x=.ref l/\vs=[]/\H l=some (.lst xs)/\Q .non (upd H l (.lst []))
theorem ko:sk X "list.clear" oM:=by
 intro pins s σ H x vs v us Q I rx rv h
 obtain⟨l,xs,rfl,rfl,hH,q⟩:=h
 cases rx
 have hus:=rv.zero
 subst hus
 obtain⟨z,its,n,r,hl,e⟩:=I.lstM hH
 refine call_meets F.slot_list_clear ⟨_,e,rfl⟩ F.entry_list_clear (F.args_list_clear_1 _) (AutoSeq1.list_clear_list_0 l its.toArray n (by rw[List.size_toArray];omega)) ⟨e,?_⟩
 exact⟨.non,_,I.lset (its':=[]) (ys:=[]) hH e rfl .nil (Nat.zero_le _),rfl,q⟩
def rN:R2:=fun x y H Q=>∃ l b xs zs,x=.ref l/\y=.ref b/\H l=some (.lst xs)/\H b=some (.lst zs)/\xs.length+zs.length<=sizeLine/\∀ p,H p=none->Q (.ref p) (upd H p (.lst (xs++zs)))
theorem eo:OpR X (binaryOp .Add) rN:=by
 intro pins s σ H x y v u Q I rx ry h
 obtain⟨l,b,xs,zs,rfl,rfl,hH,hB,hz,q⟩:=h
 cases rx
 cases ry
 obtain⟨z,its,n,r,hl,e⟩:=I.lstM hH
 obtain⟨z2,its2,n2,r2,hl2,e2⟩:=I.lstM hB
 refine PySem.P.add_list e e2 ?_ (by rw[List.size_toArray,List.size_toArray];omega)
 have ea:its.toArray++its2.toArray=(its++its2).toArray:=by simp
 rw[ea]
 exact⟨.ref _,_,I.lnew (t':=s.toks) (r.append r2) (by rw[List.length_append];omega),rfl,q _ I.fresh⟩
end
section
variable {prog:Program}{w:World}{A:Around}{E:Value->Shared->Prop}{s:Shared}
set_option maxRecDepth 100000 in
end
section
variable {X:Cx}
end
end L2
namespace L2
open PySem PySem.Spec PyProof.Rows
section
variable {κ:Type} [DecidableEq κ]
def du (kvs:List (κ×V))(k:κ):Option V:=(kvs.find? fun kv=>decide (kv.1=k)).map (·.2)
def dw (kvs:List (κ×V))(k:κ)(v:V):List (κ×V):=
 if (kvs.any fun kv=>decide (kv.1=k))=true then kvs.map (fun kv=>if kv.1=k then (kv.1,v) else kv) else kvs++[(k,v)]
theorem dg {p:κ×V}{r:List (κ×V)}{k:κ}(e:p.1=k):du (p::r) k=some p.2:=by simp [du,List.find?_cons,e]
theorem dh {p:κ×V}{r:List (κ×V)}{k:κ}(e:¬ p.1=k):du (p::r) k=du r k:=by simp [du,List.find?_cons,e]
theorem gr (k:κ):∀ kvs:List (κ×V),(kvs.any fun kv=>decide (kv.1=k))=(du kvs k).isSome
 |[]=>rfl
 |p::r=>by
  rw[List.any_cons]
  by_cases e:p.1=k
  ·simp only [dg e,decide_eq_true e,Bool.true_or,Option.isSome_some]
  ·rw[dh e,decide_eq_false e,Bool.false_or];exact gr k r
theorem dL (kvs:List (κ×V))(k:κ)(v:V):(dw kvs k v).length<=kvs.length+1:=by
 unfold dw
 split
 ·rw[List.length_map];omega
 ·rw[List.length_append,List.length_cons,List.length_nil];omega
theorem RelO.isSome_eq {o:Option V}{u:Option Value}(r:RelO o u):o.isSome=u.isSome:=by
 cases o with
 |none=>cases u with
  |none=>rfl
  |some _=>exact (show False from r).elim
 |some _=>cases u with
  |none=>exact (show False from r).elim
  |some _=>rfl
theorem KV.val {kvs:List (κ×V)}{vs:List (κ×Value)}(r:KV kvs vs)(k:κ):RelO (du kvs k) (valueAt vs k):=by
 unfold KV at r
 induction r with
 |nil=>exact True.intro
 |@cons p q ps qs h t ih=>
  obtain⟨h1,h2⟩:=h
  by_cases e:p.1=k
  ·have e':q.1=k:=h1.symm.trans e
   have b:valueAt (q::qs) k=some q.2:=by simp [valueAt,List.find?_cons,e']
   rw[dg e,b];exact h2
  ·have e':¬ q.1=k:=fun z=>e (h1.trans z)
   have b:valueAt (q::qs) k=valueAt qs k:=by simp [valueAt,List.find?_cons,e']
   rw[dh e,b];exact ih
theorem KV.any {kvs:List (κ×V)}{vs:List (κ×Value)}(r:KV kvs vs)(k:κ):(kvs.any fun kv=>decide (kv.1=k))=vs.any fun kv=>decide (kv.1=k):=by
 unfold KV at r
 induction r with
 |nil=>rfl
 |cons h t ih=>rw[List.any_cons,List.any_cons,ih,h.1]
theorem KV.repl {kvs:List (κ×V)}{vs:List (κ×Value)}(r:KV kvs vs)(k:κ){y:V}{u:Value}(ry:RelV y u):
  KV (kvs.map fun kv=>if kv.1=k then (kv.1,y) else kv) (vs.map fun kv=>if kv.1=k then (kv.1,u) else kv):=by
 unfold KV at r ⊢
 induction r with
 |nil=>exact .nil
 |@cons p q ps qs h t ih=>
  rw[List.map_cons,List.map_cons]
  refine .cons ?_ ih
  obtain⟨h1,h2⟩:=h
  by_cases e:p.1=k
  ·rw[if_pos e,if_pos (h1.symm.trans e)];exact⟨h1,ry⟩
  ·rw[if_neg e,if_neg (fun z=>e (h1.trans z))];exact⟨h1,h2⟩
theorem KV.put {kvs:List (κ×V)}{vs:List (κ×Value)}(r:KV kvs vs)(k:κ){y:V}{u:Value}(ry:RelV y u):KV (dw kvs k y) (stored vs k u):=by
 unfold dw stored
 rw[r.any k]
 by_cases e:(vs.any fun kv=>decide (kv.1=k))=true
 ·rw[if_pos e,if_pos e];exact r.repl k ry
 ·rw[if_neg e,if_neg e];exact Paired.snoc r ⟨rfl,ry⟩
theorem KV.length {kvs:List (κ×V)}{vs:List (κ×Value)}(r:KV kvs vs):kvs.length=vs.length:=Paired.length r
end
theorem kq {P:Program}{w:World}{k:bD}{u:Value}(r:RelV (kV k) u):(aX P w).is k u=true:=by
 cases k with
 |inl i=>obtain⟨t,e⟩:=(show ∃ t,u=Value.int i t from r);subst e;exact gi P w i t
 |inr x=>obtain⟨t,e⟩:=(show ∃ t,u=Value.str x t from r);subst e;exact gj P w x t
theorem fw {P:Program}{w:World}:∀ {ks:List bD} {us:List Value},Vals (ks.map kV) us->ItemsAre (aX P w) ks us
 |[],_,r=>by rw[List.map_nil] at r;cases r;exact .nil
 |k::ks,_,r=>by
  rw[List.map_cons] at r
  cases r with
  |cons h t=>exact .cons (kq h) (fw t)
abbrev KT (H:Hp):List (List bD×V)->List (List bD×Addr×Value)->Prop:=Paired fun p q=>p.1=q.1/\H q.2.1=some (.tup (p.1.map kV))/\RelV p.2 q.2.2
theorem KT.val {H:Hp}{kvs:List (List bD×V)}{xs:List (List bD×Addr×Value)}(r:KT H kvs xs)(k:List bD):RelO (du kvs k) ((atKey xs k).map (·.2)):=by
 induction r with
 |nil=>exact True.intro
 |@cons p q ps qs h t ih=>
  obtain⟨h1,_,h2⟩:=h
  by_cases e:p.1=k
  ·have e':q.1=k:=h1.symm.trans e
   have b:atKey (q::qs) k=some q.2:=by simp [atKey,List.find?_cons,e']
   rw[dg e,b];exact h2
  ·have e':¬ q.1=k:=fun z=>e (h1.trans z)
   have b:atKey (q::qs) k=atKey qs k:=by simp [atKey,List.find?_cons,e']
   rw[dh e,b];exact ih
theorem KT.repl {H:Hp}{kvs:List (List bD×V)}{xs:List (List bD×Addr×Value)}(r:KT H kvs xs)(k:List bD){y:V}{u:Value}(ry:RelV y u):
  KT H (kvs.map fun kv=>if kv.1=k then (kv.1,y) else kv) (xs.map (putAt k u)):=by
 induction r with
 |nil=>exact .nil
 |@cons p q ps qs h t ih=>
  rw[List.map_cons,List.map_cons]
  refine .cons ?_ ih
  obtain⟨h1,h2,h3⟩:=h
  unfold putAt
  by_cases e:p.1=k
  ·rw[if_pos e,if_pos (h1.symm.trans e)];exact⟨h1,h2,ry⟩
  ·rw[if_neg e,if_neg (fun z=>e (h1.trans z))];exact⟨h1,h2,h3⟩
theorem KT.put {H:Hp}{kvs:List (List bD×V)}{xs:List (List bD×Addr×Value)}(r:KT H kvs xs)(k:List bD){b:Addr}{y:V}{u:Value}(hb:H b=some (.tup (k.map kV)))(ry:RelV y u):
  KT H (dw kvs k y) (storedH xs k b u):=by
 have e:(kvs.any fun kv=>decide (kv.1=k))=(atKey xs k).isSome:=by
  rw[gr,(r.val k).isSome_eq,Option.isSome_map]
 unfold dw storedH
 rw[e]
 by_cases q:(atKey xs k).isSome=true
 ·rw[if_pos q,if_pos q];exact r.repl k ry
 ·rw[if_neg q,if_neg q];exact Paired.snoc r ⟨rfl,hb,ry⟩
theorem KT.keeps {H H':Hp}{kvs:List (List bD×V)}{xs:List (List bD×Addr×Value)}(r:KT H kvs xs)(ht:∀ b ys,H b=some (.tup ys)->H' b=some (.tup ys)):KT H' kvs xs:=
 Paired.mapP r fun _ _ z=>⟨z.1,ht _ _ z.2.1,z.2.2⟩
section
variable {P:Program}{w:World}{H:Hp}{h:Heap}{a:Addr}
theorem nF {u:HO}(ok:HOk P w H h)(e:Rd H a u):ObjOk P w H h a u:=e.ok ok
theorem kr {kvs:List (bD×V)}(ok:HOk P w H h)(e:Rd H a (.dK kvs)):kvs.length<=sizeLine/\(a == sysModules)=false/\∃ vs,KV kvs vs/\h.DictOf (aX P w) a vs:=
 show ObjOk P w H h a (.dK kvs) from nF ok e
theorem qz {kvs:List (bD×V)}(ok:HOk P w H h)(e:H a=some (.dK kvs)):kvs.length<=sizeLine/\(a == sysModules)=false/\∃ vs,KV kvs vs/\h.DictOf (aX P w) a vs:=kr ok (.inl e)
theorem hJ {ks:List bD}(ok:HOk P w H h)(e:H a=some (.tup (ks.map kV))):(tupleKind (aX P w)).is h ks a:=by
 obtain⟨_,its,r,o,h1,h2,n,h3⟩:=(show ObjOk P w H h a (.tup (ks.map kV)) from ok a _ e)
 exact⟨o,its.toArray,n,h1,h2,h3,by simpa using fw r⟩
theorem kt {kvs:List (List bD×V)}(ok:HOk P w H h)(e:Rd H a (.dT kvs)):kvs.length<=sizeLine/\(a == sysModules)=false/\
  ∃ xs,KT H kvs xs/\h.DictOfH (tupleKind (aX P w)) a xs:=by
 obtain⟨z,y,xs,r,o,es,ep,h1,h2,h3,h4,h5⟩:=(show ObjOk P w H h a (.dT kvs) from nF ok e)
 refine⟨z,y,xs,r,o,es,ep,h1,h2,h3,h4,fun x hx=>?_,h5⟩
 have all:∀ {l:List (List bD×V)} {m:List (List bD×Addr×Value)},KT H l m->∀ x∈m,(tupleKind (aX P w)).is h x.1 x.2.1:=by
  intro l m q
  induction q with
  |nil=>intro x hx;exact nomatch hx
  |@cons p q ps qs hq t ih=>
   intro x hx
   rcases List.mem_cons.mp hx with e|hx
   ·subst e
    exact hJ ok (by rw[← hq.1];exact hq.2.1)
   ·exact ih x hx
 exact all r x hx
theorem qA {kvs:List (List bD×V)}(ok:HOk P w H h)(e:H a=some (.dT kvs)):kvs.length<=sizeLine/\(a == sysModules)=false/\
  ∃ xs,KT H kvs xs/\h.DictOfH (tupleKind (aX P w)) a xs:=kt ok (.inl e)
end
def DGet (H:Hp)(a:Addr)(y:V)(r:Option V):Prop:=
 (∃ kvs k,Rd H a (.dK kvs)/\y=kV k/\r=du kvs k)\/∃ kvs k b,Rd H a (.dT kvs)/\y=.ref b/\H b=some (.tup (k.map kV))/\r=du kvs k
def DPut (H:Hp)(a:Addr)(y v:V)(H':Hp):Prop:=
 (∃ kvs k,H a=some (.dK kvs)/\y=kV k/\kvs.length < sizeLine/\H'=upd H a (.dK (dw kvs k v)))\/
 ∃ kvs k b,H a=some (.dT kvs)/\y=.ref b/\H b=some (.tup (k.map kV))/\kvs.length < sizeLine/\H'=upd H a (.dT (dw kvs k v))
theorem DGet.k {H:Hp}{a:Addr}{kvs:List (bD×V)}{k:bD}(e:H a=some (.dK kvs)):DGet H a (kV k) (du kvs k):=.inl ⟨kvs,k,.inl e,rfl,rfl⟩
theorem DPut.k {H:Hp}{a:Addr}{kvs:List (bD×V)}{k:bD}{v:V}(e:H a=some (.dK kvs))(hl:kvs.length < sizeLine):DPut H a (kV k) v (upd H a (.dK (dw kvs k v))):=.inl ⟨kvs,k,e,rfl,hl,rfl⟩
section
variable {X:Cx}{pins:List (Addr×Obj)}{σ:St}{H:Hp}{s:Shared}{a:Addr}{y v:V}{u r:Value}{o:Option V}{A:Around}{E:Value->Shared->Prop}
theorem Inv.big (I:Inv X pins σ H s):sysModules < s.heap.objs.size:=by
 have h:mainGlobals < s.heap.objs.size:=(I.mod.glob.keeps I.bk).lt
 exact Nat.lt_trans (by decide) h
theorem jD {Q:Value->Shared->Prop}(hu:A.units+1 < cLine)(I:Inv X pins σ H s)(g:DGet H a y (some v))(ry:RelV y u)(h:∀ w' s',Inv X pins σ H s'->RelV v w'->Q w' s'):
  wpAny (model X.prog X.w) A (getItem (.ref a) u) Q E s:=by
 rcases g with⟨kvs,k,e,ey,l⟩|⟨kvs,k,b,e,ey,eb,l⟩
 ·subst ey
  obtain⟨z,hd,vs,rel,dd⟩:=kr I.hok e
  obtain⟨w',hw,rw'⟩:=RelO.some_of (v:=v) (o:=valueAt vs k) (by rw[l];exact rel.val k)
  exact wpAny_getItem_of (kq ry) dd.mapOf hw (h w' _ (I.tok _) rw')
 ·subst ey
  cases (show u=Value.ref b from ry)
  obtain⟨z,hd,xs,rel,dd⟩:=kt I.hok e
  obtain⟨w',hw,rw'⟩:=RelO.some_of (v:=v) (o:=(atKey xs k).map (·.2)) (by rw[l];exact rel.val k)
  obtain⟨p,hp,hp2⟩:=Option.map_eq_some_iff.mp hw
  refine wpAny_getItem_heap (tupleKind_room_in1 hu) (hJ I.hok eb) dd hp ?_
  rw[hp2]
  exact h w' _ (I.tok _) rw'
theorem iN {h':Heap}{t':Nat}{ob:HO}(I:Inv X pins σ H s)(mu:pR (H a))(hs:Heap.SameBut a s.heap h')(he:∃ q,h'.get? a=some q)(new:ObjOk X.prog X.w (upd H a ob) h' a ob):
  Inv X pins σ (upd H a ob) {s with heap:=h',toks:=t'}:=
 I.write (x:=a) (e:=a) mu (.inl rfl) (fun b q hb z=>(hs.2 b hb).trans z) he new
theorem oN {P:Program}{w:World}{H':Hp}{h':Heap}{kvs:List (bD×V)}{vs:List (bD×Value)}(z:kvs.length<=sizeLine)(hd:(a == sysModules)=false)(rel:KV kvs vs)(dd:h'.DictOf (aX P w) a vs):
  ObjOk P w H' h' a (.dK kvs):=⟨z,hd,vs,rel,dd⟩
theorem jE {H':Hp}{Q:Unit->Shared->Prop}(hu:A.units+1 < cLine)(I:Inv X pins σ H s)(g:DPut H a y v H')(ry:RelV y u)(rv:RelV v r)(h:∀ s',Inv X pins σ H' s'->Q () s'):
  wpAny (model X.prog X.w) A (setItem (.ref a) u r) Q E s:=by
 rcases g with⟨kvs,k,e,ey,l,eH⟩|⟨kvs,k,b,e,ey,eb,l,eH⟩
 ·subst ey eH
  obtain⟨z,hd,vs,rel,dd⟩:=qz I.hok e
  have hz:vs.length<=sizeLine:=by rw[← rel.length];exact z
  have hl:(dw kvs k v).length<=sizeLine:=by have:=dL kvs k v;omega
  refine wpAny_setItem_pairs (hsz:=hz) (kq ry) dd fun h' dd' hs=>h _ ?_
  have he:∃ q,h'.get? a=some q:=let ⟨q,_,_,hq,_⟩:=dd';⟨q,hq⟩
  exact iN I (by rw[e];exact True.intro) hs he (oN hl hd (rel.put k rv) dd')
 ·subst ey eH
  cases (show u=Value.ref b from ry)
  obtain⟨z,hd,xs,rel,dd⟩:=qA I.hok e
  have hz:xs.length<=sizeLine:=by rw[← Paired.length rel];exact z
  have hl:(dw kvs k v).length<=sizeLine:=by have:=dL kvs k v;omega
  refine wpAny_setItem_heap (hsz:=hz) (tupleKind_room_in1 hu) (hJ I.hok eb) dd fun h' dd' hs=>h _ ?_
  obtain⟨q,es,ep,hq,h2,h3,h4,_,h5⟩:=dd'
  refine iN I (by rw[e];exact True.intro) hs ⟨q,hq⟩ ⟨hl,hd,_,(rel.put k eb rv).keeps fun c ys ec=>?_,q,es,ep,hq,h2,h3,h4,h5⟩
  rw[ay (pQ ec e (fun z=>nomatch z))]
  exact ec
end
section
variable {X:Cx}{pins:List (Addr×Obj)}{σ:St}{H:Hp}{s:Shared}{a:Addr}{kvs:List (bD×V)}{k:bD}{u:Value}{A:Around}{E:Value->Shared->Prop}
end
def qB (i:Expr):Prop:=∀ ov iv,subscripted i false ov iv=operate [ov,iv] (getItem ov iv)
theorem mH {prog:Program}{w:World}{A:Around}{E:Value->Shared->Prop}{s:Shared}{env:Env}{value slice:Expr}{pos:Pos}{T id:String}{Q:Value->Shared->Prop}
  (hl:typeLookup (.type T) "__getitem__"=pure (some (.builtin id))) (hs:qB slice)
  (h:wpAny (model prog w) A (eval value env) (fun o s₁=>wpAny (model prog w) A (eval slice env) (fun i s₂=>s₂.TypeIs o T/\wpAny (model prog w) A (getItem o i) Q E s₂) E s₁) E s):
  wpAny (model prog w) A (eval (.Subscript value slice pos) env) Q E s:=by
 refine Subscript_ (wpAny_mono h (fun o s₁ h₁=>wpAny_mono h₁ (fun i s₂ h₂=>?_) fun _ _ x=>x) fun _ _ x=>x)
 obtain⟨hT,h₂⟩:=h₂
 unfold subscriptTail
 refine wpAny_bind ?_
 rw[getitemInPython_of_ne hT.not_modules]
 refine wpAny_bind (wpAny_specialOf hT hl ?_)
 have fin:wpAny (model prog w) A (subscripted slice false o i) (fun r s₃=>wpAny (model prog w) A (letTemporaryGo value o r >>=fun _=>pure r) Q E s₃) E s₂:=by
  rw[hs o i]
  exact wpAny_operating (wpAny_mono h₂ (fun r s₃ h₃=>wpAny_bind (wpAny_letTemporaryGo (wpAny_pure h₃))) fun _ _ x=>x)
 first
  |exact wpAny_pure (wpAny_bind fin)
  |exact wpAny_bind (wpAny_pure (wpAny_bind fin))
  |exact wpAny_bind fin
theorem gu {X:Cx}{pins:List (Addr×Obj)}{σ:St}{H:Hp}{s:Shared}{a:Addr}{y:V}{o:Option V}(I:Inv X pins σ H s)(g:DGet H a y o):s.TypeIs (.ref a) "dict":=by
 rcases g with⟨kvs,k,e,_,_⟩|⟨kvs,k,b,e,_,_,_⟩
 ·obtain⟨_,_,vs,_,dd⟩:=kr I.hok e
  exact dd.typeIs
 ·obtain⟨_,_,xs,_,dd⟩:=kt I.hok e
  exact dd.typeIs
def nG (td ty:TE):TE:=fun σ H Q=>td σ H fun x H1=>ty σ H1 fun y H2=>∃ a v,x=.ref a/\DGet H2 a y (some v)/\Q v H2
def qC (td ty tv:TE):TS:=fun D σ H=>tv σ H fun v H1=>td σ H1 fun x H2=>ty σ H2 fun y H3=>∃ a H4,x=.ref a/\DPut H3 a y v H4/\D.nx σ H4
section
variable {X:Cx}{o i e value:Expr}{pos pos' tpos:Pos}{td ty tv:TE}
theorem mI (hu:X.A.units+1 < cLine)(ho:PE X o td)(hi:PE X i ty)(hs:qB i):PE X (.Subscript o i pos) (nG td ty):=by
 intro pins s σ H Q I h
 refine mH PySem.F.slot_dict_getitem.lookup hs (aV (ho pins s σ H _ I h) fun u s1 ⟨x,H1,I1,rx,q1⟩=>aV (hi pins s1 σ H1 _ I1 q1) fun iv s2 ⟨y,H2,I2,ry,a,v,ex,g,q2⟩=>?_)
 subst ex
 obtain rfl:u=Value.ref a:=rx
 exact⟨gu I2 g,jD hu I2 g ry fun w' s3 I3 rw'=>⟨v,H2,I3,rw',q2⟩⟩
theorem mJ (hu:X.A.units+1 < cLine)(ho:PE X o td)(hi:PE X i ty)(hv:PE X value tv)(hs:swapsWith value (some (.Subscript o i pos')) pos.line X.env=pure false):
  PS X (.Assign [.Subscript o i pos'] value pos) (qC td ty tv):=by
 intro pins s σ H D I h
 refine wpAny_Assign_Subscript (aV (hv pins s σ H _ I h) fun r s1 ⟨v,H1,I1,rv,q1⟩=>aV (ho pins s1 σ H1 _ I1 q1) fun u s2 ⟨x,H2,I2,rx,q2⟩=>aV (hi pins s2 σ H2 _ I2 q2) fun iv s3 ⟨y,H3,I3,ry,a,H4,ex,g,q3⟩=>?_) hs
 subst ex
 obtain rfl:u=Value.ref a:=rx
 exact jE hu I3 g ry rv fun s4 I4=>⟨σ,H4,I4,q3⟩
end
theorem ku {P:Program}{w:World}{H:Hp}(h:Heap)(hb:sysModules < h.objs.size):ObjOk P w H (h.push {cls:=.type "dict",data:=.dict #[]}) h.objs.size (.dK []):=
 ⟨Nat.zero_le _,beq_eq_false_iff_ne.mpr (Ne.symm (Nat.ne_of_lt hb)),[],.nil,Heap.DictOf.new h⟩
def oO:TE:=fun _ H Q=>∀ p,H p=none->Q (.ref p) (upd H p (.dK []))
section
variable {X:Cx}{pos:Pos}
theorem kx:PE X (.Dict [] [] pos) oO:=fun pins s σ H Q I h=>
 wpAny_Dict_empty ⟨.ref s.heap.objs.size,_,I.laid (a:=s.heap.objs.size) (o:=.dK []) (t':=s.toks) (fun _ _ q=>Heap.get?_push_of_some _ q) (Nat.le_refl _) (ku s.heap I.big),rfl,h _ (I.hok.fresh (Nat.le_refl _))⟩
end
section
variable {X:Cx}{pins:List (Addr×Obj)}{σ:St}{H:Hp}{s:Shared}{a:Addr}{y d:V}{u r:Value}{o:Option V}{A:Around}{E:Value->Shared->Prop}
end
section
variable {X:Cx}{o e f:Expr}{apos cpos:Pos}{td ty tx:TE}
end
section
variable {X:Cx}{pins:List (Addr×Obj)}{σ:St}{H:Hp}{s:Shared}{a:Addr}{kvs:List (bD×V)}{A:Around}{E:Value->Shared->Prop}
end
section
variable {X:Cx}{pins:List (Addr×Obj)}{σ:St}{H:Hp}{s:Shared}{a:Addr}{y:V}{u:Value}{A:Around}{E:Value->Shared->Prop}
end
end L2
namespace Att
open PySem PySem.W PySem.Calls PyProof.Rows
theorem dO {P:Params}{h:Heap}:∀ (ns:List Int) (vs:List Value),WellAll P h vs (ns.map WData.int)->IntsAre vs ns:=by
 intro ns
 induction ns with
 |nil=>
  intro vs w
  rw[List.map_nil] at w
  cases w
  exact .nil
 |cons n ns ih=>
  intro vs w
  rw[List.map_cons] at w
  cases w with
  |cons a b=>
   cases a
   exact .cons _ _ (ih _ b)
theorem jF {l:OpenLaw}{n:Nat}(hn:l.most=some n){P:Params}{h:Heap}{args:List WData}{vals:List Value}
  (hpre:l.row.toRowW.claim.pre args=true) (hwl:WellAll P h vals args):
  ∃ a vs ns,vals=[Value.ref a]/\args=[WData.list (ns.map WData.int)]/\h.get? a=some {cls:=.type "list",data:=.seq vs.toArray}/\IntsAre vs ns/\ns.length<=n:=by
 have hsh:WShape.hasAll [] args [.list .int]=true:=(pre_splitW hpre).1
 have hc:l.pre.holds [] {args:=args}=true:=(pre_splitW hpre).2
 obtain⟨d,r,rfl,h1,h2⟩:=hasAllW_cons hsh
 obtain rfl:=hasAllW_nil h2
 obtain⟨xs,rfl,h3⟩:=hasW_list h1
 obtain⟨ns,rfl⟩:=items_int h3
 have hlen:ns.length<=n:=by
  unfold OpenLaw.pre at hc
  have h4:(WTm.not (.lt (.lit (.int (n:Int))) (.len (.arg 0)))).holds [] {args:=[.list (ns.map .int)]}=true:=by
   have h4:=(holds_andW hc).1
   rw[hn] at h4
   exact h4
  have h5:=condW_of h4 (w_not (w_lt w_lit (w_len_list (w_arg rfl))))
  rw[List.length_map] at h5
  refine Nat.le_of_not_lt fun q=>?_
  have q':(n:Int) < ((ns.length:Nat):Int):=by omega
  first
   |(rw[decide_eq_true q'] at h5;exact absurd h5 (by decide))
   |(simp at h5;omega)
 cases hwl with
 |cons w1 w2=>
  cases w2
  cases w1 with
  |list ho hall=>exact⟨_,_,ns,rfl,rfl,ho,dO ns _ hall,hlen⟩
theorem jG (l:OpenLaw)(args:List WData):l.row.toRowW.claim.post args (.bool true) args=true:=
 postW_of (r:=l.row.toRowW) (X:=(true == true))
  (show WShape.has [] (.bool true) .bool=true by first|rfl|decide|simp [WShape.has,WShape.arms,WShape.armsAll])
  (show (WTm.eq .res (.lit (.bool true))).value [] {args:=args,res:=some (.bool true),after:=args}=some (.bool (true == true)) from w_eq_bool (w_res rfl) w_lit) rfl
theorem attach_call {l:OpenLaw}{n:Nat}{q:Program}{loose:List Str}{XP:(Str->Option Value)->Heap->Prop}{YP:World->Heap->Prop}{d:DefRec}
  (hn:l.most=some n) (hdf:d.params.defaults=[])
  (call:∀ (w:World) (s₀ s₁:Shared) (mg mb:Str->Option Value) (fa:Addr) (o:Obj) (pm cd doc:Value) (a:Addr) (vs:List Value) (ns:List Int),
   Ground q loose [] XP w s₀ mg mb s₁.heap->YP w s₁.heap->
   s₁.heap.get? fa=some o->o.data=.func (docDef d.name d.params d.body d.scope pm cd doc)->s₁.heap.CodeRec cd d.name->mg d.name=some (.ref fa)->
   s₁.heap.get? a=some {cls:=.type "list",data:=.seq vs.toArray}->IntsAre vs ns->ns.length<=n->s₁.gens=#[]->
   codeAny (model l.prog w) callerA (.call (.ref fa) ⟨[.ref a],[]⟩) (fun r s'=>r=.ok (.ret (.bool true))/\OldK s₁.heap s'.heap/\s'.os=s₁.os/\AllBare s'.gens) s₁):
  WalkO q loose XP YP l.row.toRowW d [] (fun f vs=>PySem.call f vs):=by
 intro w s₀ s₁ mg mb G Y fa o pm cd doc dV kV ho hd hcd hD hmg hg args vals as hpre hlay hrd hwl hlo
 obtain rfl:dV=.none:=Dflts.none hD hdf
 obtain rfl:kV=.none:=Dflts.noKw hD
 obtain⟨a,vs,ns,rfl,rfl,hobj,hints,hlen⟩:=jF hn hpre hwl
 refine enter_call (codeAny_mono (call w s₀ s₁ mg mb fa o pm cd doc a vs ns G Y ho (fd_plain hd) hcd hmg hobj hints hlen hg) fun r s' hq=>?_)
 obtain⟨rfl,h2,h3,h4⟩:=hq
 exact⟨.inl ⟨.bool true,.bool true,[],rfl,fun _=>rfl,.bool true,jG l _,fun _=>⟨List.Pairwise.nil,fun _ hm=>(nomatch hm)⟩⟩,h2,h3,h4⟩
section
variable {prog:Program}{w:World}{A:Around}{E:Value->Shared->Prop}{s:Shared}{K:Frag}
end
end Att
namespace L2
open PySem PySem.Spec PyProof.Rows
theorem dy:∀ {vs:List Value} {ns:List Int},IntsAre vs ns->Vals (ns.map V.int) vs
 |_,_,.nil=>.nil
 |_,_,.cons n t h=>.cons ⟨t,rfl⟩ (dy h)
def oP (H:Hp):Prop:=∀ b,H b=none\/∃ o xs,H b=some (.frz o (.lst xs))
theorem kA {P:Program}{w:World}{K:PySem.W.Frag}{mg mb:Str->Option Value}{CX:j7}{k:Nat}{fa a:Addr}{fd:FuncData}{x:Str}{sp:Sp}{s₁:Shared}{vs:List Value}{ns:List Int}
  (KX:K.In s₁.heap) (hns:s₁.heap.Ns mainGlobals mg) (hb:s₁.heap.Ns builtinsNs mb) (hbb:∀ x:Str,x≠"__name__"->mb x=bootBuiltins x) (hlim:s₁.heap.NoLimit) (hg:s₁.gens=#[])
  (ha:s₁.heap.get? a=some {cls:=.type "list",data:=.seq vs.toArray}) (hi:IntsAre vs ns) (hl:ns.length<=sizeLine) (hr:Room k callerA)
  (F:∀ base:Heap,K.In base->base.Ns mainGlobals mg->aW P w K mg base CX k fa fd [x] sp) (hbind:∀ (s:Shared) (u:Value),BindsTo s fd ⟨[u],[]⟩ [(x,u)])
  (hsp:∀ H:Hp,oP H->SqL K H a (ns.map V.int)->sp [.ref a] H (fun v _=>v=.bl true) fun _ _ _=>False)
  (hCX:∀ H e s',CX [] H s₁ (fun _ _ _=>False) e s'->False):
  codeAny (model P w) callerA (.call (.ref fa) ⟨[.ref a],[]⟩) (fun r s'=>r=.ok (.ret (.bool true))/\OldK s₁.heap s'.heap/\s'.os=s₁.os/\AllBare s'.gens) s₁:=by
 have rv:=dy hi
 have lenV:=hi.length
 have core:∀ H:Hp,oP H->SqL K H a (ns.map V.int)->HOk P w H s₁.heap->(∀ b,H b≠none->b=a)->(H a≠none->K.lookup a=none)->
   codeAny (model P w) callerA (.call (.ref fa) ⟨[.ref a],[]⟩) (fun r s'=>r=.ok (.ret (.bool true))/\OldK s₁.heap s'.heap/\s'.os=s₁.os/\AllBare s'.gens) s₁:=by
  intro H hO hS hok hA hK
  have base_of:∀ {b:Addr} {o:Obj},s₁.heap.get? b=some o->H b=none->(fL s₁.heap H).get? b=some o:=fun e n=>j9 e n
  have noA:∀ {b:Addr} {o:Obj} {es:Array DictEntry} {ep:Nat},s₁.heap.get? b=some o->o.data=.dict es ep->H b=none:=fun {b o es ep} e d=>by
   cases q:H b with
   |none=>rfl
   |some u=>
    have e':b=a:=hA b (by rw[q];simp)
    subst e'
    rw[ha] at e;cases e
    have d':Data.seq vs.toArray _=Data.dict es ep:=d
    cases d'
  have nsK:∀ {b:Addr} {m:Str->Option Value},s₁.heap.Ns b m->(fL s₁.heap H).Ns b m:=fun {b m} ⟨o,es,ep,e,d,r⟩=>⟨o,es,ep,base_of e (noA e d),d,r⟩
  have hKb:K.In (fL s₁.heap H):=fun b o e=>base_of (KX b o e) (by
   cases q:H b with
   |none=>rfl
   |some u=>
    have e':b=a:=hA b (by rw[q];simp)
    subst e'
    rw[hK (by rw[q];simp)] at e;cases e)
  have hM:Mod K mg (fL s₁.heap H):=⟨hKb,nsK hns,⟨mb,nsK hb,hbb⟩,let ⟨mc,h1,h2⟩:=hlim;⟨mc,nsK h1,h2⟩⟩
  have e0:mC P w K mg (fL s₁.heap H) callerA [] s₁ H:=⟨rfl,hM,fun b o e=>mo e,Nat.le_of_eq (jp _ _),trivial,fun b hb=>absurd (show b∈([]:List Addr) from hb) (by simp),hok,.of_eq hg⟩
  refine codeAny_mono ((F _ hKb (nsK hns)).run callerA [] s₁ H ⟨[.ref a],[]⟩ [.ref a] [.ref a] _ _ hr e0 (hbind s₁ (.ref a)) (.cons rfl .nil) (hsp H hO hS)) fun r s' h=>?_
  cases r with
  |error e=>exact (hCX H e s' h).elim
  |ok fl=>
   cases fl with
   |next=>exact False.elim h
   |brk=>exact False.elim h
   |cont=>exact False.elim h
   |ret u=>
    obtain⟨v,H',os,bare,un,hok',r',q⟩:=h
    have q':v=.bl true:=q
    subst q'
    obtain rfl:u=Value.bool true:=r'
    refine⟨rfl,OldK.of_keep fun b o e=>?_,os,bare⟩
    cases q:H b with
    |none=>exact un.keep b o e q (by intro z;exact absurd (show b∈([]:List Addr) from z) (by simp)) (by simp)
    |some u=>
     rcases hO b with z|⟨ob,xs,z⟩
     ·rw[q] at z;cases z
     ·have z2:=un.frzs b ob _ z
      obtain⟨e1,_⟩:=hok b _ z
      obtain⟨e2,_⟩:=hok' b _ z2
      rw[e] at e1;cases e1
      exact e2
 cases hk:K.lookup a with
 |some o=>
  have e:=KX a o hk
  rw[ha] at e
  cases e
  refine core (fun _=>none) (fun _=>.inl rfl) (.inr ⟨_,vs.toArray,_,hk,rfl,rfl,rfl,by rw[List.size_toArray,lenV];exact hl,by simpa using rv⟩) (fun b u z=>by have z':(none:Option HO)=some u:=z;cases z') (fun b z=>absurd rfl z) fun z=>absurd rfl z
 |none=>
  refine core (fun b=>if b=a then some (.frz {cls:=.type "list",data:=.seq vs.toArray} (.lst (ns.map V.int))) else none) (fun b=>?_) (.inl (.inr ⟨{cls:=.type "list",data:=.seq vs.toArray},if_pos rfl⟩)) (fun b u z=>?_) (fun b z=>?_) fun _=>hk
  ·by_cases hb:b=a
   ·exact .inr ⟨_,_,if_pos hb⟩
   ·exact .inl (if_neg hb)
  ·by_cases hb:b=a
   ·have z':=(if_pos hb).symm.trans z
    cases z'
    subst hb
    exact⟨ha,by rw[List.length_map];exact hl,vs,_,rv,ha⟩
   ·have z':=(if_neg hb).symm.trans z
    cases z'
  ·by_cases hb:b=a
   ·exact hb
   ·exact absurd (if_neg hb) z
end L2
namespace L2
open PySem PySem.Spec PyProof.Rows
theorem walk_of {l:PySem.W.OpenLaw}{n k:Nat}{q:Program}{loose:List Str}{XP:(Str->Option Value)->Heap->Prop}{YP:World->Heap->Prop}{d:DefRec}{K:Params->PySem.W.Frag}{CX:World->j7}{sp:World->Sp}{x:Str}
  (hn:l.most=some n) (hn2:n<=sizeLine) (hdf:d.params.defaults=[]) (hr:Room k callerA)
  (hY:∀ (w:World) (h:Heap),YP w h->(K w.params).In h)
  (F:∀ (w:World) (mg:Str->Option Value) (fa:Addr) (h:Heap),(K w.params).In h->h.Ns mainGlobals mg->mg d.name=some (.ref fa)->
   ∃ fd:FuncData,(∀ (s:Shared) (u:Value),BindsTo s fd ⟨[u],[]⟩ [(x,u)])/\
    ∀ base:Heap,(K w.params).In base->base.Ns mainGlobals mg->aW l.prog w (K w.params) mg base (CX w) k fa fd [x] (sp w))
  (hsp:∀ (w:World) (H:Hp) (a:Addr) (ns:List Int),ns.length<=n->oP H->SqL (K w.params) H a (ns.map V.int)->sp w [.ref a] H (fun v _=>v=.bl true) fun _ _ _=>False)
  (hCX:∀ (w:World) (H:Hp) (s:Shared) (e:Value) (s':Shared),CX w [] H s (fun _ _ _=>False) e s'->False):
  PySem.W.WalkO q loose XP YP l.row.toRowW d [] (fun f vs=>PySem.call f vs):=by
 refine Att.attach_call hn hdf fun w s₀ s₁ mg mb fa o pm cd doc a vs ns G Y ho hd hcd hmg hobj hints hlen hg=>?_
 have KX:=hY w _ Y
 obtain⟨fd,hb,hF⟩:=F w mg fa _ KX G.T.g hmg
 exact kA KX G.T.g G.T.b G.T.builtins G.T.nolimit hg hobj hints (Nat.le_trans hlen hn2) hr hF hb (fun H hO hS=>hsp w H a ns hlen hO hS) fun H e s'=>hCX w H s₁ e s'
end L2
namespace L2
open PySem PySem.Spec PyProof.Rows
def b_ (s:Stmt):Arguments:=match s with
 |.FunctionDef _ a _ _ _ _ _ _ _ _=>a
 |_=>{posonlyargs:=[],args:=[],vararg:=none,kwonlyargs:=[],kw_defaults:=[],kwarg:=none,defaults:=[]}
def bM (s:Stmt):List Stmt:=match s with
 |.FunctionDef _ _ b _ _ _ _ _ _ _=>b
 |_=>[]
def am (s:Stmt):Scope:=match s with
 |.FunctionDef _ _ _ _ _ _ sc _ _ _=>sc
 |_=>{kind:=.function,names:=[],isGenerator:=false,isCoroutine:=false}
abbrev cU:j7:=fun _ _ _ _ _ _=>False
abbrev E0:XK:=fun _ _ _=>False
theorem qD {X:Cx}:ei cU X E0:=fun _ _ _ _ _ _ _ h=>h.elim
structure Fun (K:PySem.W.Frag)(x qual:Str)(st:Stmt)(f:Addr)(fd:FuncData):Prop where
 ex:∃ (oc:Value) (od:Option Addr) (kV doc pm:Value) (an:Option Addr) (cdv ct:Value) (osl:Array (Option Value)),
  fd=PySem.W.fnOf x qual (b_ st) (bM st) (am st) .none kV doc pm an cdv ct/\K.lookup f=some ⟨oc,od,.func fd,osl⟩/\PySem.W.codeIn K cdv qual=true
 kp:PySem.W.keepIn K (.ref f)=true
section
variable {P:Program}{w:World}{K:PySem.W.Frag}{mg:Str->Option Value}{base:Heap}
theorem Fun.ok {x qual:Str}{st:Stmt}{f:Addr}{fd:FuncData}{N ps:List Str}{k:Nat}{sp:Sp}(F:Fun K x qual st f fd)(S:az N ps (am st))(len:∀ vs H Q E,sp vs H Q E->vs.length=ps.length)
  (hbody:∀ (cdv:Value) (A:Around) (outer:List Env) (s:Shared) (H:Hp) (vs:List V) (Q:VK) (E:XK),Room k (A.deeper (envOfC qual (am st) s.heap.objs.size f cdv))->sp vs H Q E->
   ∃ t,PSs (bf cU P w K mg base N qual (am st) f cdv A outer s H E).nox (bM st) t/\t {nx:=fun _ H'=>Q .non H',rt:=Q} (c_ N vs) H):aW P w K mg base cU (k+1) f fd ps sp:=by
 obtain⟨oc,od,kV,doc,pm,an,cdv,ct,osl,rfl,lk,hcd⟩:=F.ex
 refine nB lk hcd S len fun A outer s H vs Q E hr hsp=>?_
 obtain⟨t,h,q⟩:=hbody cdv A outer s H vs Q E hr hsp
 exact⟨t,h.nox,q⟩
theorem Fun.binds {x qual:Str}{st:Stmt}{f:Addr}{fd:FuncData}{ps:List Str}(F:Fun K x qual st f fd)
  (h:∀ (kV doc pm:Value) (an:Option Addr) (cdv ct:Value) (us:List Value),us.length=ps.length->bindArgs (PySem.W.fnOf x qual (b_ st) (bM st) (am st) .none kV doc pm an cdv ct) ⟨us,[]⟩=pure (ps.zip us)):Binds K fd ps []:=by
 obtain⟨oc,od,kV,doc,pm,an,cdv,ct,osl,rfl,lk,hcd⟩:=F.ex
 exact .all (h kV doc pm an cdv ct)
theorem fun_mk {x qual:Str}{st:Stmt}{f:Addr}{oc:Value}{od an:Option Addr}{osl:Array (Option Value)}{kV doc pm cdv ct:Value}(l:K.lookup f=some ⟨oc,od,.func (PySem.W.fnOf x qual (b_ st) (bM st) (am st) .none kV doc pm an cdv ct),osl⟩)
  (c:PySem.W.codeIn K cdv qual=true) (k:PySem.W.keepIn K (.ref f)=true):Fun K x qual st f (PySem.W.fnOf x qual (b_ st) (bM st) (am st) .none kV doc pm an cdv ct):=⟨⟨oc,od,kV,doc,pm,an,cdv,ct,osl,rfl,l,c⟩,k⟩
end
theorem qE {A:Around}{k:Nat}(hr:Room k A):A.units+1 < cLine:=Nat.lt_of_le_of_lt (Nat.add_le_add_left (by decide:1<=64) _) hr.units
theorem bY {n:Nat}(h:n<=1000):n < sizeLine:=Nat.lt_of_le_of_lt h (by decide)
section
variable {X:Cx}
theorem pv (i:Nat){x:Str}{pos:Pos}(hN:X.N[i]? =some x:=by rfl) (hv:rh X.env.scope x:=by first|exact Or.inl rfl|exact Or.inr (Or.inl rfl)|exact Or.inr (Or.inr rfl)) (hd:(x == ("__debug__":Str))=false:=by decide)
  (hcd:(x == ("__classdict__":Str))=false:=by decide):PE X (.Name x pos) (bU i):=n_ hN hv hd hcd
end
theorem aB {A B:Prop}(h:B):if false=true then A else B:=by
 rw[if_neg Bool.false_ne_true]
 exact h
theorem aL {A B:Prop}(h:A):if true=true then A else B:=by
 rw[if_pos rfl]
 exact h
theorem bE {c A B:Prop} [Decidable c] (h1:c->A)(h2:¬ c->B):if c then A else B:=by
 by_cases h:c
 ·rw[if_pos h]
  exact h1 h
 ·rw[if_neg h]
  exact h2 h
def Same (H H':Hp):Prop:=∀ b o,H b=some o->H' b=some o
theorem Same.refl (H:Hp):Same H H:=fun _ _ h=>h
theorem Same.trans {H H1 H2:Hp}(a:Same H H1)(b:Same H1 H2):Same H H2:=fun c o h=>b c o (a c o h)
theorem Same.free {H H':Hp}(e:Same H H'){l:Addr}(h:H' l=Option.none):H l=Option.none:=by
 cases q:H l with
 |none=>rfl
 |some o=>
  rw[e l o q] at h
  cases h
theorem Same.seq {K:PySem.W.Frag}{H H':Hp}{a:Addr}{xs:List V}(e:Same H H')(h:SqL K H a xs):SqL K H' a xs:=by
 rcases h with (h|⟨o,h⟩)|h
 ·exact .inl (.inl (e _ _ h))
 ·exact .inl (.inr ⟨o,e _ _ h⟩)
 ·exact .inr h
section
variable {κ:Type} [DecidableEq κ]
theorem iO:∀ {l:List κ} {k:κ},l.Nodup->¬ k∈l->(l++[k]).Nodup
 |[],k,_,_=>by simp
 |a::r,k,h,hk=>by
  obtain⟨h1,h2⟩:=List.nodup_cons.mp h
  show (a::(r++[k])).Nodup
  refine List.nodup_cons.mpr ⟨fun m=>?_,iO h2 fun m=>hk (List.mem_cons.mpr (Or.inr m))⟩
  rcases List.mem_append.mp m with q|q
  ·exact h1 q
  ·exact hk (List.mem_cons.mpr (Or.inl (List.mem_singleton.mp q).symm))
end
end L2
set_option maxHeartbeats 4000000
set_option maxHeartbeats 4000000
namespace L2
open PySem
end L2
namespace L2
open PySem PySem.Spec PyProof.Rows
mutual
def RD (H:Hp):PyData->V->Prop
 |.none,v=>v=.non
 |.bool b,v=>v=.bl b
 |.int i,v=>v=.int i
 |.str x,v=>v=.str x
 |.list ds,v=>∃ a xs,v=.ref a/\H a=some (.lst xs)/\dQ H ds xs
 |.tuple ds,v=>∃ a xs,v=.ref a/\H a=some (.tup xs)/\dQ H ds xs
 |.dict _,_=>False
def dQ (H:Hp):List PyData->List V->Prop
 |[],xs=>xs=[]
 |d::ds,xs=>∃ y ys,xs=y::ys/\RD H d y/\dQ H ds ys
end
theorem di {H:Hp}{ds:List PyData}{a:Addr}{xs:List V}(h:H a=some (.lst xs))(r:dQ H ds xs):RD H (.list ds) (.ref a):=by
 unfold RD
 exact⟨a,xs,rfl,h,r⟩
theorem dz {H:Hp}{ds:List PyData}{a:Addr}{xs:List V}(h:H a=some (.tup xs))(r:dQ H ds xs):RD H (.tuple ds) (.ref a):=by
 unfold RD
 exact⟨a,xs,rfl,h,r⟩
theorem cE {H:Hp}{ds:List PyData}{v:V}(h:RD H (.list ds) v):∃ a xs,v=.ref a/\H a=some (.lst xs)/\dQ H ds xs:=by
 unfold RD at h
 exact h
theorem cq {H:Hp}{ds:List PyData}{v:V}(h:RD H (.tuple ds) v):∃ a xs,v=.ref a/\H a=some (.tup xs)/\dQ H ds xs:=by
 unfold RD at h
 exact h
theorem iP {H:Hp}:RD H .none .non:=by unfold RD;rfl
theorem kB {H:Hp}(i:Int):RD H (.int i) (.int i):=by unfold RD;rfl
theorem hU {H:Hp}(x:Str):RD H (.str x) (.str x):=by unfold RD;rfl
theorem cr {H:Hp}:dQ H [] []:=by unfold dQ;rfl
theorem bp {H:Hp}{d:PyData}{ds:List PyData}{y:V}{ys:List V}(h:RD H d y)(t:dQ H ds ys):dQ H (d::ds) (y::ys):=by
 unfold dQ
 exact⟨y,ys,rfl,h,t⟩
theorem cb {H:Hp}{xs:List V}(h:dQ H [] xs):xs=[]:=by
 unfold dQ at h
 exact h
theorem bW {H:Hp}{d:PyData}{ds:List PyData}{xs:List V}(h:dQ H (d::ds) xs):∃ y ys,xs=y::ys/\RD H d y/\dQ H ds ys:=by
 unfold dQ at h
 exact h
theorem cF {H:Hp}:∀ ns:List Int,dQ H (ns.map PyData.int) (ns.map V.int)
 |[]=>cr
 |n::r=>bp (kB n) (cF r)
theorem iQ {H:Hp}:∀ {ds:List PyData} {xs:List V},dQ H ds xs->xs.length=ds.length
 |[],_,h=>by
  rw[cb h]
  rfl
 |d::ds,_,h=>by
  obtain⟨y,ys,rfl,_,t⟩:=bW h
  rw[List.length_cons,List.length_cons,iQ t]
theorem iR {H:Hp}:∀ {ds:List PyData} {xs:List V} {j:Nat} {v:V},dQ H ds xs->xs[j]? =some v->RD H (ds.getD j .none) v
 |[],_,_,_,h,e=>by rw[cb h] at e;cases e
 |d::ds,_,j,v,h,e=>by
  obtain⟨y,ys,rfl,h1,t⟩:=bW h
  cases j with
  |zero=>
   have e':y=v:=by simpa using e
   subst e'
   exact h1
  |succ j=>exact iR (ds:=ds) t (by simpa using e)
mutual
theorem iS {H H':Hp}(k:Same H H'):∀ (d:PyData) (v:V),RD H d v->RD H' d v
 |.none,v,h=>by unfold RD at h ⊢;exact h
 |.bool b,v,h=>by unfold RD at h ⊢;exact h
 |.int i,v,h=>by unfold RD at h ⊢;exact h
 |.str x,v,h=>by unfold RD at h ⊢;exact h
 |.list ds,v,h=>by
  obtain⟨a,xs,e,h1,h2⟩:=cE h
  subst e
  exact di (k _ _ h1) (er k ds xs h2)
 |.tuple ds,v,h=>by
  obtain⟨a,xs,e,h1,h2⟩:=cq h
  subst e
  exact dz (k _ _ h1) (er k ds xs h2)
 |.dict _,v,h=>by
  unfold RD at h
  exact h.elim
theorem er {H H':Hp}(k:Same H H'):∀ (ds:List PyData) (xs:List V),dQ H ds xs->dQ H' ds xs
 |[],xs,h=>by
  rw[cb h]
  exact cr
 |d::ds,xs,h=>by
  obtain⟨y,ys,e,h1,h2⟩:=bW h
  subst e
  exact bp (iS k d y h1) (er k ds ys h2)
end
section
variable {X:Cx}{pins:List (Addr×Obj)}{σ:St}{H:Hp}{s:Shared}
mutual
theorem b5 (I:Inv X pins σ H s):∀ (d:PyData) (x:V) (v:Value),RD H d x->RelV x v->∃ as,Reads s.heap v d as
 |.none,x,v,h,r=>by
  unfold RD at h
  subst h
  cases r
  exact⟨[],.none⟩
 |.bool b,x,v,h,r=>by
  unfold RD at h
  subst h
  cases r
  exact⟨[],.bool b⟩
 |.int i,x,v,h,r=>by
  unfold RD at h
  subst h
  obtain⟨t,rfl⟩:=r
  exact⟨[],.int i t⟩
 |.str y,x,v,h,r=>by
  unfold RD at h
  subst h
  obtain⟨t,rfl⟩:=r
  exact⟨[],.str y t⟩
 |.list ds,x,v,h,r=>by
  obtain⟨a,xs,e,h1,h2⟩:=cE h
  subst e
  cases r
  obtain⟨its,rv,⟨o,n,e1,e2,_,e4⟩,_⟩:=I.list (SqL.of h1)
  obtain⟨as,q⟩:=dA I ds xs its h2 rv
  exact⟨a::as,.list e1 e2 e4 (by simpa using q)⟩
 |.tuple ds,x,v,h,r=>by
  obtain⟨a,xs,e,h1,h2⟩:=cq h
  subst e
  cases r
  obtain⟨its,rv,⟨o,e1,e2,n,e4⟩,_⟩:=I.tuple (SqT.of h1)
  obtain⟨as,q⟩:=dA I ds xs its h2 rv
  exact⟨as,.tuple e1 e2 e4 (by simpa using q)⟩
 |.dict _,x,v,h,_=>by
  unfold RD at h
  exact h.elim
theorem dA (I:Inv X pins σ H s):∀ (ds:List PyData) (xs:List V) (vs:List Value),dQ H ds xs->Vals xs vs->∃ as,ReadsAll s.heap vs ds as
 |[],xs,vs,h,r=>by
  rw[cb h] at r
  cases r
  exact⟨[],.nil⟩
 |d::ds,xs,vs,h,r=>by
  obtain⟨y,ys,e,h1,h2⟩:=bW h
  subst e
  cases r with
  |cons r1 r2=>
   obtain⟨as,q1⟩:=b5 I d y _ h1 r1
   obtain⟨bs,q2⟩:=dA I ds ys _ h2 r2
   exact⟨as++bs,.cons q1 q2⟩
end
end
section
variable {X:Cx}
inductive qF (x y:V)(H:Hp)(Q:VK):Prop
 |mk (da db:PyData)(ra:RD H da x)(rb:RD H db y)(sa:SeqAt.shaped da=true)(sb:SeqAt.shaped db=true)(q:Q (.bl (PyData.eqv da db)) H):qF x y H Q
inductive qG (x y:V)(H:Hp)(Q:VK):Prop
 |mk (da db:PyData)(ra:RD H da x)(rb:RD H db y)(sa:SeqAt.shaped da=true)(sb:SeqAt.shaped db=true)(q:Q (.bl (!PyData.eqv da db)) H):qG x y H Q
def oQ:R2:=fun x y H Q=>qF x y H Q
def oR:R2:=fun x y H Q=>qG x y H Q
theorem oS (hu:X.A.units+64 < cLine):OpR X (compareOp .Eq) oQ:=by
 intro pins s σ H x y v u Q I rx ry h
 obtain⟨da,db,ra,rb,sa,sb,q⟩:=h
 obtain⟨as,qa⟩:=b5 I da x v ra rx
 obtain⟨bs,qb⟩:=b5 I db y u rb ry
 exact eq_dataH qa qb sa sb hu ⟨.bl _,H,I,rfl,q⟩
theorem oU (hu:X.A.units+64 < cLine):OpR X (compareOp .NotEq) oR:=by
 intro pins s σ H x y v u Q I rx ry h
 obtain⟨da,db,ra,rb,sa,sb,q⟩:=h
 obtain⟨as,qa⟩:=b5 I da x v ra rx
 obtain⟨bs,qb⟩:=b5 I db y u rb ry
 exact ne_dataH qa qb sa sb hu ⟨.bl _,H,I,rfl,q⟩
theorem aA (hu:X.A.units+64 < cLine):OpR X (compareOp .Eq) (fun x y H Q=>rG x y H Q\/oQ x y H Q):=OpR.or qc (oS hu)
theorem cu (hu:X.A.units+64 < cLine):OpR X (compareOp .NotEq) (fun x y H Q=>rH x y H Q\/oR x y H Q):=OpR.or qh (oU hu)
theorem aI:bN X (.builtin "isinstance") (fun xs H Q=>∃ x t c b,xs=[x,.ty c]/\c9 X.K H x t/\PySem.W.kitOne X.K t (.type c)=some b/\Q (.bl b) H):=by
 intro pins s σ H xs us Q I r h
 obtain⟨x,t,c,b,rfl,ty,e,q⟩:=h
 obtain⟨u,w',rfl,rx,ry⟩:=iK r
 obtain rfl:w'=Value.type c:=ry
 exact jA I rx ty e fun tk=>⟨.bl b,H,I.tok _,rfl,q⟩
def b7 (T c:String):Option Bool:=if (Value.type T == Value.type c)=true then some true else if PySem.W.kitMeta c=true then (fastBuiltinMro T).map (·.contains (Value.type c)) else none
theorem aE {K:PySem.W.Frag}{T c:String}{b:Bool}(h:b7 T c=some b):PySem.W.kitOne K (.type T) (.type c)=some b:=h
def fU:PyData->String
 |.none=>"NoneType"
 |.bool _=>"bool"
 |.int _=>"int"
 |.str _=>"str"
 |.list _=>"list"
 |.tuple _=>"tuple"
 |.dict _=>"dict"
theorem gv {K:PySem.W.Frag}{H:Hp}:∀ (d:PyData) (v:V),RD H d v->c9 K H v (.type (fU d))
 |.none,v,h=>by
  unfold RD at h
  subst h
  exact .non
 |.bool b,v,h=>by
  unfold RD at h
  subst h
  exact .bl b
 |.int i,v,h=>by
  unfold RD at h
  subst h
  exact .int i
 |.str x,v,h=>by
  unfold RD at h
  subst h
  exact .str x
 |.list ds,v,h=>by
  obtain⟨a,xs,e,h1,_⟩:=cE h
  subst e
  exact .lst h1
 |.tuple ds,v,h=>by
  obtain⟨a,xs,e,h1,_⟩:=cq h
  subst e
  exact .tup h1
 |.dict _,v,h=>by
  unfold RD at h
  exact h.elim
def oV:PyData->Bool
 |.tuple _=>true
 |_=>false
def eu:PyData->Bool
 |.int _=>true
 |.bool _=>true
 |_=>false
def fV:PyData->Bool
 |.bool _=>true
 |_=>false
def dS:PyData->Bool
 |.dict _=>true
 |_=>false
theorem kC:b7 "NoneType" "tuple"=some false/\b7 "bool" "tuple"=some false/\b7 "int" "tuple"=some false/\b7 "str" "tuple"=some false/\b7 "list" "tuple"=some false/\b7 "tuple" "tuple"=some true:=by
 refine⟨?_,?_,?_,?_,?_,?_⟩<;>decide+kernel
theorem oW:b7 "NoneType" "int"=some false/\b7 "bool" "int"=some true/\b7 "int" "int"=some true/\b7 "str" "int"=some false/\b7 "list" "int"=some false/\b7 "tuple" "int"=some false:=by
 refine⟨?_,?_,?_,?_,?_,?_⟩<;>decide+kernel
theorem mK:b7 "NoneType" "bool"=some false/\b7 "bool" "bool"=some true/\b7 "int" "bool"=some false/\b7 "str" "bool"=some false/\b7 "list" "bool"=some false/\b7 "tuple" "bool"=some false:=by
 refine⟨?_,?_,?_,?_,?_,?_⟩<;>decide+kernel
theorem jH {K:PySem.W.Frag}(d:PyData)(h:dS d=false):PySem.W.kitOne K (.type (fU d)) (.type "tuple")=some (oV d):=by
 obtain⟨h1,h2,h3,h4,h5,h6⟩:=kC
 cases d with
 |none=>exact aE h1
 |bool _=>exact aE h2
 |int _=>exact aE h3
 |str _=>exact aE h4
 |list _=>exact aE h5
 |tuple _=>exact aE h6
 |dict _=>cases h
theorem iT {K:PySem.W.Frag}(d:PyData)(h:dS d=false):PySem.W.kitOne K (.type (fU d)) (.type "int")=some (eu d):=by
 obtain⟨h1,h2,h3,h4,h5,h6⟩:=oW
 cases d with
 |none=>exact aE h1
 |bool _=>exact aE h2
 |int _=>exact aE h3
 |str _=>exact aE h4
 |list _=>exact aE h5
 |tuple _=>exact aE h6
 |dict _=>cases h
theorem gw {K:PySem.W.Frag}(d:PyData)(h:dS d=false):PySem.W.kitOne K (.type (fU d)) (.type "bool")=some (fV d):=by
 obtain⟨h1,h2,h3,h4,h5,h6⟩:=mK
 cases d with
 |none=>exact aE h1
 |bool _=>exact aE h2
 |int _=>exact aE h3
 |str _=>exact aE h4
 |list _=>exact aE h5
 |tuple _=>exact aE h6
 |dict _=>cases h
theorem dB {H:Hp}{d:PyData}{v:V}(h:RD H d v):dS d=false:=by
 cases d with
 |dict _=>
  unfold RD at h
  exact h.elim
 |_=>rfl
def mL:V->List V->Hp->VK->Prop:=fun x vs H Q=>∃ l xs i y,x=.ref l/\vs=[.int i,y]/\H l=some (.lst xs)/\0<=i/\i<=xs.length/\xs.length < sizeLine/\Q .non (upd H l (.lst (xs.take i.toNat++y::xs.drop i.toNat)))
theorem jI:nE X "list.insert" mL:=by
 intro pins s σ H x vs v us Q I rx rv h
 obtain⟨l,xs,i,y,rfl,rfl,hH,h0,h1,hz,q⟩:=h
 cases rx
 obtain⟨u1,u2,rfl,⟨t,rfl⟩,ry⟩:=iK rv
 obtain⟨z,its,n,r,hl,e⟩:=I.lstM hH
 have hs:(sizeLine:Nat)=16777216:=sizeLine_eq
 have hfit:¬ (!Builtin.List.listFitsIndex i)=true:=by
  rw[fitsIndex_both (by omega) (by omega)]
  exact Bool.false_ne_true
 refine call_meets F.slot_list_insert ⟨_,e,rfl⟩ F.entry_list_insert (F.args_list_insert_3 _ _ _) (AutoListH.list_insert_list_int_val_1 l its.toArray n i t u2 hfit (by rw[List.size_toArray];omega)) ⟨e,?_⟩
 refine⟨.non,_,I.lset (its':=its.take i.toNat++u2::its.drop i.toNat) hH e ?_ ((r.take _).append (.cons ry (r.drop _))) ?_,rfl,q⟩
 ·have h2:¬ i < 0:=by omega
  have h3:min i.toNat its.toArray.size=i.toNat:=by rw[List.size_toArray];omega
  show (its.toArray.extract 0 (if i < 0 then (i+((its.toArray.size:Nat):Int)).toNat else min i.toNat its.toArray.size)).push u2++its.toArray.extract (if i < 0 then (i+((its.toArray.size:Nat):Int)).toNat else min i.toNat its.toArray.size)=_
  rw[if_neg h2,h3]
  apply Array.toList_inj.mp
  simp
  exact List.take_of_length_le (by simp)
 ·rw[List.length_append,List.length_cons,List.length_take,List.length_drop]
  omega
end
structure Fn (P:Program)(w:World)(K:PySem.W.Frag)(mg:Str->Option Value)(base:Heap)(k:Nat)(x:Str)(f:Addr)(fd:FuncData)(ps:List Str)(sp:Sp):Prop where
 ok:aW P w K mg base cU k f fd ps sp
 b:Binds K fd ps []
 kp:PySem.W.keepIn K (.ref f)=true
 at_:mg x=some (.ref f)
section
variable {X:Cx}{j k:Nat}{f:Addr}{fd:FuncData}{ps:List Str}{sp:Sp}{x:Str}{p pos:Pos}{e:Expr}{es:List Expr}{t:TA}
theorem aO (G:Fn X.prog X.w X.K X.mg X.base j x f fd ps sp)(hr:Room k X.A)(hjk:j<=k)(hg:Gl X x)(ha:PA X (e::es) t)(hdb:(x == ("__debug__":Str))=false:=by decide)
  (he:starEach (e::es) X.env=(false,eval e X.env)::starEach es X.env:=by rfl) (hpl:(backTo pos (starEach es X.env)).any (·.1)=false:=by rfl):PE X (.Call (.Name x p) (e::es) [] pos) (gp sp [] E0 t):=
 fQ G.ok (hr.mono hjk) hg G.at_ G.kp G.b .nil qD ha hdb he hpl
end
theorem ag {H:Hp}{p:Addr}(h:H p=none)(o:HO):Same H (upd H p o):=fun b u q=>by rw[ay (av q h)];exact q
theorem Same.upd_new {H0 H:Hp}{p:Addr}(k:Same H0 H)(h:H0 p=none)(o:HO):Same H0 (upd H p o):=fun b u q=>by rw[ay (av q h)];exact k b u q
theorem oX {α:Type}{xs:List α}{i:Int}(h0:0<=i)(h1:i < xs.length):∃ v,xs[i.toNat]? =some v/\gg xs i=some v:=by
 have hk:i.toNat < xs.length:=by omega
 have ek:i=((i.toNat:Nat):Int):=by omega
 have q:gg xs ((i.toNat:Nat):Int)=some xs[i.toNat]:=mE (List.getElem?_eq_getElem hk)
 rw[← ek] at q
 exact⟨_,List.getElem?_eq_getElem hk,q⟩
theorem kE {ns:List Int}{i:Int}(h0:0<=i)(h1:i < ns.length):∃ v,ns[i.toNat]? =some v/\gg (ns.map V.int) i=some (.int v):=by
 obtain⟨v,h2,h3⟩:=oX (xs:=ns.map V.int) h0 (by rw[List.length_map];exact h1)
 rw[List.getElem?_map] at h2
 cases e:ns[i.toNat]? with
 |none=>rw[e] at h2;cases h2
 |some z=>
  rw[e] at h2
  have h2':V.int z=v:=by simpa using h2
  subst h2'
  exact⟨z,rfl,h3⟩
end L2
namespace L2
open PySem PySem.Spec PyProof.Rows
def AllIn (f:Str->Option Addr):List (Str×Addr)->Prop
 |[]=>True
 |p::r=>f p.1=some p.2/\AllIn f r
theorem AllIn.look {f:Str->Option Addr}:∀ {cl:List (Str×Addr)},AllIn f cl->∀ {y:Str} {c:Addr},cl.lookup y=some c->f y=some c
 |[],_,y,c,e=>by cases e
 |(n,a)::r,h,y,c,e=>by
  rw[List.lookup_cons] at e
  cases q:(y == n) with
  |true=>
   rw[q] at e
   have e1:y=n:=eq_of_beq q
   have e2:a=c:=Option.some.inj e
   rw[e1,← e2]
   exact h.1
  |false=>
   rw[q] at e
   exact AllIn.look h.2 e
def ba (X:Cx)(scope:Scope)(cl:List (Str×Addr))(NY:List Str)(C:Addr)(fp:List Addr)(s₀:Shared)(H₀:Hp):Cx where
 prog:=X.prog
 w:=X.w
 K:=X.K
 mg:=X.mg
 base:=X.base
 A:=X.A
 N:=NY
 s₀:=s₀
 H₀:=H₀
 env:=compEnvC scope (cellsFrom (C+1) scope.names cl) C X.env
 outer:=X.stack
 stack:=X.stack
 ex:=fp
 fn:=fun x=>(cl.lookup x).isNone
 calm:=X.calm
 pn:=[]
 xe:=fun _ _=>False
structure CompSc (X:Cx)(scope:Scope)(cl:List (Str×Addr))(NY:List Str)(idx:List (Option Nat)):Prop where
 clos:closureFor scope X.env=pure cl
 all:AllIn (fun y=>X.env.cells.lookup y) cl
 c2:∀ n,((relabel scope X.env).names.all fun q=>!(decide (q.2=.cell) || decide (q.2=.free)) || ((cellsFrom n scope.names cl).lookup q.1).isSome)=true
 ix:((NY.zip idx).all fun p=>match p.2 with
  |none=>true
  |some i=>decide (X.N[i]? =some p.1)&&(decide (X.env.kindOf p.1=some .cell) || decide (X.env.kindOf p.1=some .free))&&(decide ((relabel scope X.env).names.lookup p.1=some .cell) || decide ((relabel scope X.env).names.lookup p.1=some .free))&&(scope.names.all fun q=>!decide (q.2=.cell) || !decide (q.1=p.1)))=true
 len:idx.length=NY.length
 kind:scope.kind=.function
 names:∀ y∈scope.names,y.2=.local->scope.names.lookup y.1=some .local
theorem bc:∀ (names:List (Str×NameKind)) (n:Nat) (acc:List (Str×Addr)),cellsFrom n names acc=cellsFrom n names []++acc
 |[],_,_=>rfl
 |(x,k)::r,n,acc=>by
  unfold cellsFrom
  split
  ·rw[bc r (n+1) ((x,n)::acc),bc r (n+1) [(x,n)],List.append_assoc]
   rfl
  ·exact bc r n acc
theorem dD:∀ {names:List (Str×NameKind)} {n:Nat} {y:Str} {c:Addr},(y,c)∈cellsFrom n names []->(y,NameKind.cell)∈names
 |(x,k)::r,n,y,c,h=>by
  unfold cellsFrom at h
  split at h
  ·rename_i hk
   rw[bc] at h
   rcases List.mem_append.mp h with h|h
   ·exact List.mem_cons_of_mem _ (dD h)
   ·cases List.mem_singleton.mp h
    rw[eq_of_beq hk]
    exact List.mem_cons_self
  ·exact List.mem_cons_of_mem _ (dD h)
theorem eD {names:List (Str×NameKind)}{n:Nat}{cl:List (Str×Addr)}{y:Str}{c:Addr}(h:(cellsFrom n names cl).lookup y=some c):(y,c)∈cellsFrom n names []\/cl.lookup y=some c:=by
 rw[bc,List.lookup_append] at h
 cases e:(cellsFrom n names []).lookup y with
 |some d=>
  rw[e] at h
  cases h
  exact .inl (PySem.mem_of_lookup e)
 |none=>
  rw[e] at h
  exact .inr h
theorem kF {names:List (Str×NameKind)}{n:Nat}{cl:List (Str×Addr)}{y:Str}(hn:∀ q∈names,q.2=NameKind.cell->q.1≠y):(cellsFrom n names cl).lookup y=cl.lookup y:=by
 rw[bc,List.lookup_append]
 cases e:(cellsFrom n names []).lookup y with
 |some d=>exact absurd rfl (hn _ (dD (PySem.mem_of_lookup e)) rfl)
 |none=>rfl
theorem cV {M:Model}{A:Around}{E:Value->Shared->Prop}{s:Shared}{scope:Scope}{globals:Addr}{closure:List (Str×Addr)}{qual:Str}{outer:Env}{Q:Env->Shared->Prop}
  (hQ:∀ h',h'.Ns s.heap.objs.size (fun _=>none)->(∀ b o,s.heap.get? b=some o->h'.get? b=some o)->CellsOk h' (s.heap.objs.size+1) (cellsFrom (s.heap.objs.size+1) scope.names [])->
   Q (newEnv scope s.heap.objs.size globals (cellsFrom (s.heap.objs.size+1) scope.names closure) qual none .none (some outer) outer.builtins) {s with heap:=h'}):
  wpAny M A (newFunctionEnv scope globals closure [] qual none .none (some outer)) Q E s:=by
 simp only [newFunctionEnv,Option.isSome_some,if_true]
 refine wpAny_bind (wpAny_alloc ?_)
 refine wpAny_bind (wpAny_layCells _ (fun name kind cells=>by cases hkc:kind == NameKind.cell<;>simp [hkc]) _ _ _ _ ?_)
 have ok:=cellsFrom_ok scope.names (s.heap.push {cls:=.type "dict",data:=.dict #[]}) (s.heap.objs.size+1) [] ⟨fun _ _ hm=>(nomatch hm),List.Pairwise.nil⟩ (by rw[Heap.size_push];exact Nat.le_refl _)
 rw[Heap.size_push] at ok
 rw[show ({s with heap:=s.heap.push {cls:=.type "dict",data:=.dict #[]}}:Shared).heap.objs.size=s.heap.objs.size+1 from Heap.size_push ..]
 refine wpAny_bind ?_
 rw[List.forIn_nil]
 exact wpAny_pure (wpAny_pure (hQ _ ((Heap.Ns.new s.heap (.type "dict")).keeps (pushCells_keeps _ _)) (fun b o e=>pushCells_keeps _ _ b o (Heap.get?_push_of_some _ e)) ok))
def kG (idx:List (Option Nat))(σ:St):St:=idx.map fun o=>match o with
 |none=>none
 |some i=>(σ[i]?).getD none
section
variable {X:Cx}{scope:Scope}{cl:List (Str×Addr)}{NY:List Str}{idx:List (Option Nat)}
theorem CompSc.look (S:CompSc X scope cl NY idx){y:Str}(n:Nat)(h:(relabel scope X.env).names.lookup y=some .cell\/(relabel scope X.env).names.lookup y=some .free):∃ c,(cellsFrom n scope.names cl).lookup y=some c:=by
 have hm:∃ k,(y,k)∈(relabel scope X.env).names/\(k=.cell\/k=.free):=by
  rcases h with h|h
  ·exact⟨_,PySem.mem_of_lookup h,.inl rfl⟩
  ·exact⟨_,PySem.mem_of_lookup h,.inr rfl⟩
 obtain⟨k,hk,hkk⟩:=hm
 have q:=List.all_eq_true.mp (S.c2 n) _ hk
 have e:(decide (k=NameKind.cell) || decide (k=NameKind.free))=true:=by
  rcases hkk with rfl|rfl
  ·rfl
  ·rfl
 have q':(!(decide (k=NameKind.cell) || decide (k=NameKind.free)) || ((cellsFrom n scope.names cl).lookup y).isSome)=true:=q
 rw[e] at q'
 exact Option.isSome_iff_exists.mp q'
theorem gx {pins:List (Addr×Obj)}{σ:St}{H:Hp}{s:Shared}{fp:List Addr}{h₁:Heap}{m:Str->Option Value}{tk:Nat}(S:CompSc X scope cl NY idx)(I:Inv X pins σ H s)
  (f2:∀ b∈fp,ee X pins H b) (hfl:∀ b∈fp,b < s.heap.objs.size) (hns:h₁.Ns s.heap.objs.size m) (old:∀ b o,s.heap.get? b=some o->h₁.get? b=some o) (hcs:CellsOk h₁ (s.heap.objs.size+1) (cellsFrom (s.heap.objs.size+1) scope.names [])):
  Inv (ba X scope cl NY s.heap.objs.size fp s H) [] (kG idx σ) H {s with heap:=h₁,toks:=tk}:=by
 have hC:H s.heap.objs.size=none:=I.hok.fresh (Nat.le_refl _)
 have hcl:∀ {x:Str} {c:Addr},cl.lookup x=some c->X.env.cells.lookup x=some c:=fun e=>S.all.look e
 have cellLt:∀ {x:Str} {c:Addr},X.env.cells.lookup x=some c->c < s.heap.objs.size:=fun {x c} e=>by
  obtain⟨v,z⟩:=I.cell x c e
  exact z.lt
 have two:∀ {x:Str} {c:Addr},(cellsFrom (s.heap.objs.size+1) scope.names cl).lookup x=some c->((x,c)∈cellsFrom (s.heap.objs.size+1) scope.names []/\s.heap.objs.size < c/\h₁.IsCell c none)\/(X.env.cells.lookup x=some c/\c < s.heap.objs.size):=fun {x c} e=>by
  rcases eD e with h|h
  ·exact .inl ⟨h,(hcs.empty x c h).2,(hcs.empty x c h).1⟩
  ·exact .inr ⟨hcl h,cellLt (hcl h)⟩
 have inj:∀ x y c,(cellsFrom (s.heap.objs.size+1) scope.names cl).lookup x=some c->(cellsFrom (s.heap.objs.size+1) scope.names cl).lookup y=some c->x=y:=fun x y c h1 h2=>by
  rcases two h1 with a|a<;>rcases two h2 with b|b
  ·exact name_of_addr hcs.apart a.1 b.1
  ·exact absurd (Nat.lt_trans a.2.1 b.2) (Nat.lt_irrefl _)
  ·exact absurd (Nat.lt_trans b.2.1 a.2) (Nat.lt_irrefl _)
  ·exact I.ok.inj x y c a.1 b.1
 have ne:∀ b∈fp,∀ x c,(cellsFrom (s.heap.objs.size+1) scope.names cl).lookup x=some c->c≠b:=fun b hb x c e=>by
  rcases two e with a|a
  ·exact Nat.ne_of_gt (Nat.lt_trans (hfl b hb) a.2.1)
  ·exact (f2 b hb).2.2.2.2.1 x c a.1
 have fr:∀ x c,(cellsFrom (s.heap.objs.size+1) scope.names cl).lookup x=some c->H c=none:=fun x c e=>by
  rcases two e with a|a
  ·exact I.hok.fresh (Nat.le_of_lt a.2.1)
  ·exact I.freeC x c a.1
 have cab:∀ x c,(cl.lookup x).isNone=true->(cellsFrom (s.heap.objs.size+1) scope.names cl).lookup x=some c->s.heap.objs.size<=c:=fun x c hf e=>by
  rcases eD e with h|h
  ·exact Nat.le_of_succ_le (hcs.empty x c h).2
  ·rw[h] at hf
   cases hf
 refine⟨⟨I.ok.mod,?_,I.ok.glob,I.ok.blt,Nat.le_refl _,inj,fun x hx=>S.look _ hx,cab,I.ok.hd,I.ok.frames,.inl rfl,fun b hb=>⟨Nat.ne_of_lt (hfl b hb),ne b hb⟩,
  I.bs,Nat.le_trans I.ok.bsz I.sz,fun b o e hb=>?_,fun b hb hz=>?_,I.stack,I.stkFree⟩,rfl,I.bare,Un.kept old,⟨m,hns,fun j y v h1 h2 h3=>?_⟩,fun x c e=>?_,hC,fr,fun p hp=>absurd (show p∈([]:List (Addr×Obj)) from hp) (by simp),I.hok.kept old,?_⟩
 ·exact S.kind
 ·rcases (f2 b hb).2.2.2.1 with z|z
  ·exact I.ok.noex b o e z
  ·exact absurd (Nat.lt_of_lt_of_le (Heap.lt_size e) (Nat.le_trans I.ok.bsz z)) (Nat.lt_irrefl _)
 ·rcases List.mem_cons.mp (I.stkSub b hz) with e|e
  ·exact (f2 b hb).2.1 e
  ·exact (f2 b hb).2.2.1 e
 ·
  have h2':(kG idx σ)[j]? =some (some v):=h2
  unfold kG at h2'
  rw[List.getElem?_map] at h2'
  cases ej:idx[j]? with
  |none=>rw[ej] at h2';cases h2'
  |some o=>
   rw[ej] at h2'
   cases o with
   |none=>cases h2'
   |some i=>
    have e3:(σ[i]?).getD none=some v:=by simpa using h2'
    have e4:σ[i]? =some (some v):=by
     cases q:σ[i]? with
     |none=>rw[q] at e3;cases e3
     |some z=>
      rw[q] at e3
      exact congrArg some e3
    have hz:(NY.zip idx)[j]? =some (y,some i):=by
     rw[List.getElem?_zip_eq_some]
     exact⟨h1,ej⟩
    have q:=List.all_eq_true.mp S.ix _ (List.mem_of_getElem? hz)
    have q':(decide (X.N[i]? =some y)&&(decide (X.env.kindOf y=some .cell) || decide (X.env.kindOf y=some .free))&&(decide ((relabel scope X.env).names.lookup y=some .cell) || decide ((relabel scope X.env).names.lookup y=some .free))&&(scope.names.all fun q=>!decide (q.2=.cell) || !decide (q.1=y)))=true:=q
    rw[Bool.and_eq_true,Bool.and_eq_true,Bool.and_eq_true,Bool.or_eq_true,Bool.or_eq_true] at q'
    obtain⟨⟨⟨q1,q2⟩,q3⟩,q4⟩:=q'
    have q5:∀ q∈scope.names,q.2=NameKind.cell->q.1≠y:=fun q hq e1 e2=>by
     have:=List.all_eq_true.mp q4 q hq
     rw[decide_eq_true e1,decide_eq_true e2] at this
     cases this
    have q1':=of_decide_eq_true q1
    have q2':X.env.kindOf y=some .cell\/X.env.kindOf y=some .free:=q2.elim (fun z=>.inl (of_decide_eq_true z)) fun z=>.inr (of_decide_eq_true z)
    have q3':(relabel scope X.env).names.lookup y=some .cell\/(relabel scope X.env).names.lookup y=some .free:=q3.elim (fun z=>.inl (of_decide_eq_true z)) fun z=>.inr (of_decide_eq_true z)
    obtain⟨mX,_,hl⟩:=I.loc
    obtain⟨u,ru,lk⟩:=hl i y v q1' e4 (.inr q2')
    refine⟨u,ru,.inr ⟨q3',?_⟩⟩
    obtain⟨c,hc0⟩:=S.look (s.heap.objs.size+1) q3'
    have hc:=hc0
    rw[kF q5] at hc
    rcases lk with⟨hk,_⟩|⟨_,c',hc',hcell⟩
    ·rcases q2' with z|z
     ·rw[hk] at z;cases z
     ·rw[hk] at z;cases z
    ·have e5:=hcl hc
     rw[hc'] at e5
     cases e5
     obtain⟨oc,ho,hd⟩:=hcell
     exact⟨_,hc0,oc,old _ _ ho,hd⟩
 ·rcases two e with a|a
  ·exact⟨none,a.2.2⟩
  ·obtain⟨v,oc,ho,hd⟩:=I.cell x c a.1
   exact⟨v,oc,old _ _ ho,hd⟩
 ·unfold kG
  rw[List.length_map]
  exact S.len
end
def nH (Y:Cx)(ifs:List Expr)(t:TT):Prop:=
 ∀ (pins:List (Addr×Obj)) (s:Shared) (σ:St) (H:Hp) (Q:Bool->Hp->Prop),Inv Y pins σ H s->t σ H Q->
  wpAny (model Y.prog Y.w) Y.A (forIn ifs true fun c r=>if r=true then do let ok ← isTrue c Y.env (eval c Y.env);pure (ForInStep.yield ok) else pure (ForInStep.yield r)) (TP Y pins σ Q) Y.xe s
def pP:TT:=fun _ H Q=>Q true H
theorem bq {i:Nat}{x:V}{σ:St}{H:Hp}{A B:St->Hp->Prop}(h:A (σ.set i (some x)) H):bF i x σ H (fun σ3 H3=>pP σ3 H3 fun b H4=>if b=true then A σ3 H4 else B σ3 H4):=by
 show (if true=true then A (σ.set i (some x)) H else B (σ.set i (some x)) H)
 exact aL h
theorem bz {Y:Cx}:nH Y [] pP:=fun pins s σ H Q I h=>wpAny_tests_nil ⟨H,I,h⟩
theorem dU {Y:Cx}{c:Expr}{t:TT}(h:PT Y c t):nH Y [c] t:=fun pins s σ H Q I hw=>wpAny_tests_one (h pins s σ H Q I hw)
def dj (J:It)(D:Addr)(g:TG)(tt:TT)(te:TE)(σ0:St)(H1:Hp)(Q:VK):Prop:=
 ∃ W:Nat->Nat->St->List V->Hp->Prop,(∃ m,W 0 m σ0 [] (upd H1 D (.lst [])))/\∀ i m σ ys H,W i m σ ys H->H D=some (.lst ys)/\
  ((J.stop i H/\Q (.ref D) H)\/(J.go i H/\∃ N:St->List V->Hp->Prop,(∀ σ' ys' H',N σ' ys' H'->∃ m',m' < m/\W (i+1) m' σ' ys' H')/\
   ∀ x H2,J.yld i H x H2->g x σ H2 fun σ3 H3=>tt σ3 H3 fun b H4=>if b=true then te σ3 H4 fun y H5=>H5 D=some (.lst ys)/\ys.length < sizeLine/\N σ3 (ys++[y]) (upd H5 D (.lst (ys++[y]))) else N σ3 ys H4))
def fz (idx:List (Option Nat))(wi:TI)(g:TG)(tt:TT)(te:TE):TE:=fun σ H Q=>wi σ H fun J H1=>∀ D,H1 D=none->dj J D g tt te (kG idx σ) H1 Q
section
variable {prog:Program}{w:World}{A:Around}{R:Result->Shared->Prop}{s:Shared}
theorem cG {elt target iter:Expr}{ifs:List Expr}{scope:Scope}{pos:Pos}{it acc:Value}{env:Env}(I:Nat->Shared->Prop)
  (turn:∀ n s,I n s->wpAny (model prog w) A (pyNext it) (fun r s₁=>match r with
   |none=>R (.ok .next) s₁
   |some v=>wpAny (model prog w) A (letOwnedTupleGo target it v) (fun _ s₀=>wpAny (model prog w) A (assign target env v) (fun _ s₂=>
     wpAny (model prog w) A (forIn ifs true fun c r=>if r=true then do let ok ← isTrue c env (eval c env);pure (ForInStep.yield ok) else pure (ForInStep.yield r)) (fun ok s₃=>
      if ok=true then wpAny (model prog w) A (eval elt env) (fun x s₄=>
       wpAny (model prog w) A (call (.builtin "list.append") [acc,x]) (fun _ s₅=>∃ m,m < n/\I m s₅) (fun _ _=>False) s₄) (fun _ _=>False) s₃
      else ∃ m,m < n/\I m s₃) (fun _ _=>False) s₂) (fun _ _=>False) s₀) (fun _ _=>False) s₁) (fun _ _=>False) s)
  (n:Nat) (h:I n s):
  codeAny (model prog w) A (.compLoop (.ListComp elt [⟨target,iter,ifs,0⟩] scope pos) 0 it acc env) R s:=by
 refine codeAny_loop rfl I (fun n s hI=>?_) n h
 show wpAny _ A ((compTurn (.ListComp elt [⟨target,iter,ifs,0⟩] scope pos) 0 it acc env).onRaise (fun x=>do noteFrame x env;theTreesLotGoes x)) _ _ s
 refine wpAny_noted ?_
 rw[compTurn_list]
 have no:∀ {α:Type} {t:Sem α} {Q:α->Shared->Prop} {E:Value->Shared->Prop} {s:Shared},wpAny (model prog w) A t Q (fun _ _=>False) s->wpAny (model prog w) A t Q E s:=fun hq=>wpAny_mono hq (fun _ _ z=>z) fun _ _ z=>z.elim
 refine wpAny_bind (wpAny_standAt (wpAny_bind (wpAny_mono (turn n s hI) (fun r s₁ h₁=>?_) fun _ _ h'=>h'.elim)))
 cases r with
 |none=>exact wpAny_pure h₁
 |some v=>
  refine wpAny_bind (wpAny_mono h₁ (fun _ s₀ h₀=>?_) fun _ _ h'=>h'.elim)
  refine wpAny_bind (wpAny_mono h₀ (fun _ s₂ h₂=>wpAny_bind (wpAny_mono h₂ (fun ok s₃ h₃=>?_) fun _ _ h'=>h'.elim)) fun _ _ h'=>h'.elim)
  cases ok with
  |false=>exact wpAny_pure ⟨rfl,h₃⟩
  |true=>
   exact wpAny_bind (wpAny_bind (wpAny_mono h₃ (fun x s₄ h₄=>wpAny_bind (wpAny_mono h₄ (fun _ s₅ h₅=>wpAny_pure (wpAny_pure ⟨rfl,h₅⟩)) fun _ _ h'=>h'.elim)) fun _ _ h'=>h'.elim))
end
section
variable {X:Cx}{scope:Scope}{cl:List (Str×Addr)}{NY:List Str}{idx:List (Option Nat)}{elt iter target:Expr}{ifs:List Expr}{pos:Pos}{wi:TI}{g:TG}{tt:TT}{te:TE}
structure CompEnd (X:Cx)(pins:List (Addr×Obj))(σ:St)(H:Hp)(C:Addr)(s:Shared):Prop where
 inv:Inv X pins σ H s
 ns:∃ m,s.heap.Ns C m
 free:H C=none
 loc:C≠X.env.locals
 young:X.s₀.heap.objs.size<=C
 cells:∀ x c,X.env.cells.lookup x=some c->c≠C
 pin:∀ p∈X.pn++pins,p.1≠C
theorem CompEnd.gone {pins:List (Addr×Obj)}{σ:St}{H:Hp}{C:Addr}{s:Shared}{h':Heap}(e:CompEnd X pins σ H C s)(hs:Heap.SameBut C s.heap h'):Inv X pins σ H {s with heap:=h'}:=
 e.inv.turned (t':=s.toks) (fun b o hb q=>(hs.2 b hb).trans q) e.free e.loc (.inr e.young) e.cells e.pin
theorem gy {pins:List (Addr×Obj)}{σ:St}{H:Hp}{s:Shared}{Q:VK}{RR:Value->Addr->Result->Shared->Prop}(hcalm:X.calm=true)(S:CompSc X scope cl NY idx)(hi:PI X target iter wi)
  (hg:∀ C fp s₀ H₀,PG (ba X scope cl NY C fp s₀ H₀) target g) (ht:∀ C fp s₀ H₀,nH (ba X scope cl NY C fp s₀ H₀) ifs tt) (he:∀ C fp s₀ H₀,PE (ba X scope cl NY C fp s₀ H₀) elt te)
  (I:Inv X pins σ H s) (h:fz idx wi g tt te σ H Q)
  (hRR:∀ D C H' s',CompEnd X pins σ H' C s'->Q (.ref D) H'->RR (.ref D) C (.ok .next) s'):
  wpAny (model X.prog X.w) X.A (eval iter X.env) (fun x s₁=>wpAny (model X.prog X.w) X.A (pyIter x) (fun it s₂=>wpAny (model X.prog X.w) X.A (newList []) (fun acc s₃=>
   wpAny (model X.prog X.w) X.A (newFunctionEnv scope X.env.globals cl [] X.env.qual none .none (some X.env)) (fun cenv s₄=>
    codeAny (model X.prog X.w) X.A (.compStart (.ListComp elt [⟨target,iter,ifs,0⟩] scope pos) 0 it acc {cenv with scope:=relabel scope X.env}) (RR acc cenv.locals) s₄) X.xe s₃) X.xe s₂) X.xe s₁) X.xe s:=by
 refine aV (hi pins s σ H _ I h) fun v s1 h1=>aV h1 fun itv s2 h2=>?_
 obtain⟨it,fp,tn,J,H2,e,I2,T,st2,f2,r2⟩:=h2
 subst e
 have hD:H2 s2.heap.objs.size=none:=I2.hok.fresh (Nat.le_refl _)
 have r3:=r2 s2.heap.objs.size hD
 have I3:Inv X pins σ (upd H2 s2.heap.objs.size (.lst [])) {s2 with heap:=s2.heap.push {cls:=.type "list",data:=.seq ([]:List Value).toArray}}:=
  I2.laid (t':=s2.toks) (fun b u q=>Heap.get?_push_of_some _ q) (Nat.le_refl _) ⟨Nat.zero_le _,[],0,.nil,Heap.get?_push_size _ rfl⟩
 refine wpAny_newObj_type (cV fun h₁ hns hsb hcs=>?_)
 dsimp only at hns hsb hcs ⊢
 have hfl0:∀ b∈fp,b < s2.heap.objs.size:=fun b hb=>by
  obtain⟨o,q,_⟩:=T.obj 0 _ st2 b hb
  exact Heap.lt_size q
 have neD:∀ b∈fp,b≠s2.heap.objs.size:=fun b hb=>Nat.ne_of_lt (hfl0 b hb)
 have f3:∀ b∈fp,ee X pins (upd H2 s2.heap.objs.size (.lst [])) b:=fun b hb=>⟨by rw[ay (neD b hb)];exact (f2 b hb).1,(f2 b hb).2⟩
 generalize hs3:({s2 with heap:=s2.heap.push {cls:=.type "list",data:=.seq ([]:List Value).toArray}}:Shared)=s3 at I3
 have es3:s3.heap=s2.heap.push {cls:=.type "list",data:=.seq ([]:List Value).toArray}:=by rw[← hs3]
 have hfl:∀ b∈fp,b < s3.heap.objs.size:=fun b hb=>by
  rw[es3,Heap.size_push]
  exact Nat.lt_succ_of_lt (hfl0 b hb)
 have hns':h₁.Ns s3.heap.objs.size (fun _=>none):=by rw[es3];exact hns
 have old:∀ b o,s3.heap.get? b=some o->h₁.get? b=some o:=fun b o q=>by
  rw[es3] at q
  exact hsb b o q
 have hcs':CellsOk h₁ (s3.heap.objs.size+1) (cellsFrom (s3.heap.objs.size+1) scope.names []):=by rw[es3];exact hcs
 have st3:tn 0 h₁:=T.keep _ _ _ st2 fun b hb o q=>old b o (by rw[es3];exact Heap.get?_push_of_some _ q)
 have IY0:=gx (tk:=s2.toks) S I3 f3 hfl hns' old hcs'
 have e4:({s3 with heap:=h₁,toks:=s2.toks}:Shared)={s2 with heap:=h₁,toks:=s2.toks}:=by rw[← hs3]
 rw[e4] at IY0
 have eC:s3.heap.objs.size=(s2.heap.push {cls:=.type "list",data:=.seq ([]:List Value).toArray}).objs.size:=by rw[es3]
 have hC3:s3.heap.get? s3.heap.objs.size=none:=Heap.get?_none_of_le (Nat.le_refl _)
 obtain⟨W,⟨m0,w0⟩,turn⟩:=r3
 have loop:∀ s4:Shared,s4={s2 with heap:=h₁,toks:=s2.toks}->
   codeAny (model X.prog X.w) X.A (.compLoop (.ListComp elt [⟨target,iter,ifs,0⟩] scope pos) 0 (.ref it) (.ref s2.heap.objs.size) (compEnvC scope (cellsFrom (s3.heap.objs.size+1) scope.names cl) s3.heap.objs.size X.env)) (RR (.ref s2.heap.objs.size) s3.heap.objs.size) s4:=by
  rintro s4 rfl
  have stat:∀ {H':Hp},(∀ b∈fp,H' b=none)->∀ b∈fp,ee (ba X scope cl NY s3.heap.objs.size fp s3 (upd H2 s2.heap.objs.size (.lst []))) [] H' b:=fun {H'} hn b hb=>
   ⟨hn b hb,Nat.ne_of_lt (hfl b hb),(fun z=>(IY0.ok.exfs b hb) z),.inl hb,fun x c e=>(IY0.ok.exf b hb).2 x c e,fun p hp=>absurd (show p∈([]:List (Addr×Obj)) from hp) (by simp)⟩
  refine cG (fun n s'=>∃ i σ' ys H',Inv (ba X scope cl NY s3.heap.objs.size fp s3 (upd H2 s2.heap.objs.size (.lst []))) [] σ' H' s'/\tn i s'.heap/\(∀ b∈fp,H' b=none)/\W i n σ' ys H') ?_ m0
   ⟨0,_,[],_,IY0,st3,fun b hb=>(f3 b hb).1,w0⟩
  rintro n s5 ⟨i,σ5,ys,H5,I5,st5,fr5,w5⟩
  obtain⟨hacc,alt⟩:=turn i n σ5 ys H5 w5
  rcases alt with⟨stop,qn⟩|⟨go,N,hN,step⟩
  ·refine aV (T.done (ba X scope cl NY s3.heap.objs.size fp s3 (upd H2 s2.heap.objs.size (.lst []))) rfl rfl rfl hcalm i [] s5 σ5 H5 (fun _ _=>False) I5 (stat fr5) st5 stop) fun r s6 ⟨hr,I6⟩=>?_
   subst hr
   have I7:Inv X pins σ H5 s6:=I3.call' (s':=s6) (ch:=fp) I6.os I6.base I6.hok I6.bare fun b hb=>⟨(f3 b hb).2.2.2.1,(f3 b hb).2.1,(f3 b hb).2.2.2.2.1,(f3 b hb).2.2.2.2.2⟩
   refine hRR _ _ H5 s6 ⟨I7,?_,I6.free,Nat.ne_of_gt I3.lt,I3.sz,fun x c e=>?_,fun p hp z=>?_⟩ qn
   ·obtain⟨m,hn,_⟩:=I6.loc
    exact⟨m,hn⟩
   ·obtain⟨v,q⟩:=I3.cell x c e
    exact Nat.ne_of_lt q.lt
   ·have q:=(I3.pin p hp).1
    rw[z,hC3] at q
    cases q
  ·refine aV (T.item (ba X scope cl NY s3.heap.objs.size fp s3 (upd H2 s2.heap.objs.size (.lst []))) rfl rfl rfl hcalm i [] s5 σ5 H5 (fun _ _=>False) I5 (stat fr5) st5 go) fun r s6 ⟨u,hr,h6⟩=>?_
   subst hr
   refine aV h6 fun _ s7 ⟨x,H7,I7,r7,y7,st7,fr7⟩=>?_
   have I7':=I7.pinned (stat fr7) (T.obj _ _ st7)
   have back:∀ {σ8:St} {ys8:List V} {H8:Hp} {s8:Shared},Inv (ba X scope cl NY s3.heap.objs.size fp s3 (upd H2 s2.heap.objs.size (.lst []))) ([]++dq fp s7.heap) σ8 H8 s8->N σ8 ys8 H8->
     ∃ m,m < n/\∃ i σ' ys H',Inv (ba X scope cl NY s3.heap.objs.size fp s3 (upd H2 s2.heap.objs.size (.lst []))) [] σ' H' s8/\tn i s8.heap/\(∀ b∈fp,H' b=none)/\W i m σ' ys H':=fun {σ8 ys8 H8 s8} I8 n8=>by
    obtain⟨m',hm,w8⟩:=hN σ8 ys8 H8 n8
    refine⟨m',hm,i+1,σ8,ys8,H8,I8.unpinned,T.keep _ _ _ st7 fun b hb o e=>(I8.pin (b,o) (List.mem_append_right _ (List.mem_append_right _ (bH hb e)))).1,fun b hb=>?_,w8⟩
    obtain⟨o,e,d⟩:=T.obj _ _ st7 b hb
    exact (I8.pin (b,o) (List.mem_append_right _ (List.mem_append_right _ (bH hb e)))).2.1
   refine aV (hg _ _ _ _ _ s7 σ5 H7 x u _ I7' r7 (step x H7 y7)) fun _ s8 ⟨σ8,H8,I8,q8⟩=>?_
   refine aV (ht _ _ _ _ _ s8 σ8 H8 _ I8 q8) fun ok s9 ⟨H9,I9,q9⟩=>?_
   cases ok with
   |false=>exact aB (back I9 q9)
   |true=>
    refine aL ?_
    refine aV (he _ _ _ _ _ s9 σ8 H9 _ I9 q9) fun y s10 ⟨yv,H10,I10,r10,hD10,hz10,n10⟩=>?_
    refine aV (dt _ s10 σ8 H10 (.ref s2.heap.objs.size) [yv] (.ref s2.heap.objs.size) [y] (fun v H'=>v=.non/\H'=upd H10 s2.heap.objs.size (.lst (ys++[yv]))) I10 rfl (.cons r10 .nil) ⟨_,ys,yv,rfl,rfl,hD10,hz10,rfl,rfl⟩) fun _ s11 ⟨_,H11,I11,_,_,e11⟩=>?_
    subst e11
    exact back I11 n10
 have e5:(compEnvC scope (cellsFrom (s3.heap.objs.size+1) scope.names cl) s3.heap.objs.size X.env)={newEnv scope (s2.heap.push {cls:=.type "list",data:=.seq ([]:List Value).toArray}).objs.size X.env.globals (cellsFrom ((s2.heap.push {cls:=.type "list",data:=.seq ([]:List Value).toArray}).objs.size+1) scope.names cl) X.env.qual none .none (some X.env) X.env.builtins with scope:=relabel scope X.env}:=by
  rw[es3]
  rfl
 have L1:=loop _ rfl
 rw[eC] at L1
 exact codeAny_compStart_list L1 (T.self _ 0 _ _ _ st3 L1)
theorem bA (hcalm:X.calm=true)(S:CompSc X scope cl NY idx)(hi:PI X target iter wi)(hg:∀ C fp s₀ H₀,PG (ba X scope cl NY C fp s₀ H₀) target g)(ht:∀ C fp s₀ H₀,nH (ba X scope cl NY C fp s₀ H₀) ifs tt)
  (he:∀ C fp s₀ H₀,PE (ba X scope cl NY C fp s₀ H₀) elt te) (hs:∀ x,foldedSetIterable iter X.env x=pure x:=by intro _;rfl):PE X (.ListComp elt [⟨target,iter,ifs,0⟩] scope pos) (fz idx wi g tt te):=by
 intro pins s σ H Q I h
 rw[eval_ListComp]
 refine wpAny_comprehension_free (use:=none) rfl hs S.clos S.kind S.names ?_
 refine gy (RR:=fun acc C=>compPost (model X.prog X.w) X.A X.xe none (EP X pins σ Q) acc C) hcalm S hi hg ht he I h ?_
 intro D C H' s' e q
 obtain⟨m,hn⟩:=e.ns
 exact⟨m,hn,fun h' hs'=>⟨.ref D,H',e.gone hs',rfl,q⟩⟩
def gz (i:Nat)(te:TE):TS:=fun D σ H=>te σ H fun v H1=>D.nx (σ.set i (some v)) H1
theorem eF {i:Nat}{x:Str}{pos' spos:Pos}(hN:X.N.Nodup)(hx:X.N[i]? =some x) (hl:X.env.scope.names.lookup x=some .local) (hcalm:X.calm=true) (S:CompSc X scope cl NY idx) (hi:PI X target iter wi)
  (hg:∀ C fp s₀ H₀,PG (ba X scope cl NY C fp s₀ H₀) target g) (ht:∀ C fp s₀ H₀,nH (ba X scope cl NY C fp s₀ H₀) ifs tt) (he:∀ C fp s₀ H₀,PE (ba X scope cl NY C fp s₀ H₀) elt te)
  (hsw:swapsWith (.ListComp elt [⟨target,iter,ifs,0⟩] scope pos) (some (.Name x pos')) spos.line X.env=pure true) (hs:∀ x,foldedSetIterable iter X.env x=pure x:=by intro _;rfl):
  PS X (.Assign [.Name x pos'] (.ListComp elt [⟨target,iter,ifs,0⟩] scope pos) spos) (gz i (fz idx wi g tt te)):=by
 intro pins s σ H D I h
 rw[exec_Assign_Name_used _ _ _ _ hsw]
 refine wpAny_bind (wpAny_standAt (wpAny_bind ?_))
 show wpAny _ X.A (do let _ ← comprehension (.ListComp elt [⟨target,iter,ifs,0⟩] scope pos) scope X.env _ (newList []) false (eval iter X.env) (some (assign (.Name x pos') X.env))) _ _ s
 refine wpAny_bind (wpAny_mono (wpAny_comprehension_free (use:=some (assign (.Name x pos') X.env)) (Q:=fun _ s'=>∃ σ' H',Inv X pins σ' H' s'/\D.nx σ' H') rfl hs S.clos S.kind S.names ?_) (fun _ s' hq=>wpAny_pure (wpAny_pure hq)) fun _ _ e=>e)
 refine gy (RR:=fun acc C=>compPost (model X.prog X.w) X.A X.xe (some (assign (.Name x pos') X.env)) (fun _ s'=>∃ σ' H',Inv X pins σ' H' s'/\D.nx σ' H') acc C) hcalm S hi hg ht he I h ?_
 intro D' C H' s' e q
 refine wpAny_assign_Name (fh e.inv hN hx (.inl hl) (v:=.ref D') (u:=.ref D') rfl (fun s'' I'' sb=>?_) (.inr hl))
 obtain⟨a,hsb,ha⟩:=sb
 have neC:C≠a:=by
  rcases ha with rfl|ha
  ·exact e.loc
  ·exact fun z=>e.cells _ _ ha z.symm
 obtain⟨m,hn⟩:=e.ns
 have e2:CompEnd X pins (σ.set i (some (.ref D'))) H' C s'':=⟨I'',⟨m,hn.sameBut hsb neC⟩,e.free,e.loc,e.young,e.cells,e.pin⟩
 exact⟨m,hn.sameBut hsb neC,fun h' hs'=>⟨_,H',e2.gone hs',q⟩⟩
end
section
variable {K:PySem.W.Frag}{a D:Addr}{xs:List V}{g:TG}{tt:TT}{te:TE}{σ0:St}{H1:Hp}{Q:VK}
theorem bd (Pv:Nat->St->List V->Hp->Prop)(h0:Pv 0 σ0 [] (upd H1 D (.lst [])))(hd:∀ i σ ys H,i<=xs.length->Pv i σ ys H->H D=some (.lst ys)/\SqL K H a xs)
  (hs:∀ i x σ ys H,xs[i]? =some x->Pv i σ ys H->g x σ H fun σ3 H3=>tt σ3 H3 fun b H4=>if b=true then te σ3 H4 fun y H5=>H5 D=some (.lst ys)/\ys.length < sizeLine/\Pv (i+1) σ3 (ys++[y]) (upd H5 D (.lst (ys++[y]))) else Pv (i+1) σ3 ys H4)
  (hq:∀ σ ys H,Pv xs.length σ ys H->Q (.ref D) H):dj (mv K a) D g tt te σ0 H1 Q:=by
 refine⟨fun i m σ ys H=>m=xs.length - i/\i<=xs.length/\Pv i σ ys H,⟨xs.length,by simp,Nat.zero_le _,h0⟩,?_⟩
 rintro i m σ ys H ⟨rfl,hi,p⟩
 obtain⟨hD,q⟩:=hd i σ ys H hi p
 refine⟨hD,?_⟩
 by_cases hlt:i < xs.length
 ·refine .inr ⟨⟨xs,xs[i],q,by simp [hlt]⟩,Pv (i+1),fun σ' ys' H' p'=>⟨xs.length - (i+1),by omega,rfl,hlt,p'⟩,fun x H' y=>?_⟩
  obtain⟨e,y⟩:=y
  subst e
  exact hs i x σ ys _ (y xs q) p
 ·have e:i=xs.length:=by omega
  subst e
  exact .inl ⟨⟨xs,q,Nat.le_refl _⟩,hq σ ys H p⟩
theorem eG (Pv:Nat->St->List V->Hp->Prop)(h0:Pv 0 σ0 [] (upd H1 D (.lst [])))(hd:∀ i σ ys H,i<=xs.length->Pv i σ ys H->H D=some (.lst ys)/\SqT K H a xs)
  (hs:∀ i x σ ys H,xs[i]? =some x->Pv i σ ys H->g x σ H fun σ3 H3=>tt σ3 H3 fun b H4=>if b=true then te σ3 H4 fun y H5=>H5 D=some (.lst ys)/\ys.length < sizeLine/\Pv (i+1) σ3 (ys++[y]) (upd H5 D (.lst (ys++[y]))) else Pv (i+1) σ3 ys H4)
  (hq:∀ σ ys H,Pv xs.length σ ys H->Q (.ref D) H):dj (oq K a) D g tt te σ0 H1 Q:=by
 refine⟨fun i m σ ys H=>m=xs.length - i/\i<=xs.length/\Pv i σ ys H,⟨xs.length,by simp,Nat.zero_le _,h0⟩,?_⟩
 rintro i m σ ys H ⟨rfl,hi,p⟩
 obtain⟨hD,q⟩:=hd i σ ys H hi p
 refine⟨hD,?_⟩
 by_cases hlt:i < xs.length
 ·refine .inr ⟨⟨xs,xs[i],q,by simp [hlt]⟩,Pv (i+1),fun σ' ys' H' p'=>⟨xs.length - (i+1),by omega,rfl,hlt,p'⟩,fun x H' y=>?_⟩
  obtain⟨e,y⟩:=y
  subst e
  exact hs i x σ ys _ (y xs q) p
 ·have e:i=xs.length:=by omega
  subst e
  exact .inl ⟨⟨xs,q,Nat.le_refl _⟩,hq σ ys H p⟩
theorem hV {lo:Int}{n:Nat}(Pv:Nat->St->List V->Hp->Prop)(h0:Pv 0 σ0 [] (upd H1 D (.lst [])))(hd:∀ i σ ys H,i<=n->Pv i σ ys H->H D=some (.lst ys))
  (hs:∀ i σ ys H,i < n->Pv i σ ys H->g (.int (lo+i)) σ H fun σ3 H3=>tt σ3 H3 fun b H4=>if b=true then te σ3 H4 fun y H5=>H5 D=some (.lst ys)/\ys.length < sizeLine/\Pv (i+1) σ3 (ys++[y]) (upd H5 D (.lst (ys++[y]))) else Pv (i+1) σ3 ys H4)
  (hq:∀ σ ys H,Pv n σ ys H->Q (.ref D) H):dj (ou lo n) D g tt te σ0 H1 Q:=by
 refine⟨fun i m σ ys H=>m=n - i/\i<=n/\Pv i σ ys H,⟨n,by simp,Nat.zero_le _,h0⟩,?_⟩
 rintro i m σ ys H ⟨rfl,hi,p⟩
 refine⟨hd i σ ys H hi p,?_⟩
 by_cases hlt:i < n
 ·refine .inr ⟨hlt,Pv (i+1),fun σ' ys' H' p'=>⟨n - (i+1),by omega,rfl,hlt,p'⟩,fun x H' y=>?_⟩
  obtain⟨e,y⟩:=y
  subst e y
  exact hs i σ ys _ hlt p
 ·have e:i=n:=by omega
  subst e
  exact .inl ⟨Nat.le_refl _,hq σ ys H p⟩
end
end L2
namespace L2
open PySem PySem.Spec PyProof.Rows
section
variable {X:Cx}{pos:Pos}
def rO (K:PySem.W.Frag)(n:Nat)(t:mr):TG:=fun v σ H Q=>∃ a xs,v=.ref a/\SqL K H a xs/\xs.length=n/\t xs σ H Q
theorem oY {es:List Expr}{k:Nat}{t:mr}{n:Nat}(hc:X.calm=true)(h:pW X es t)
  (hn:(assignEach es X.env).length=n:=by rfl) (hst:(assignEach es X.env).findIdx? (·.1)=none:=by rfl):PG X (.Tuple es k pos) (rO X.K n t):=by
 intro pins s σ H v u Q I r hw
 obtain⟨a,xs,e1,hq,hl,hw⟩:=hw
 subst e1
 cases r
 obtain⟨its,rv,pl,hz⟩:=I.list hq
 rw[assign_Tuple]
 refine wpAny_bind (wpAny_standAt ?_)
 unfold unpack
 have hsz:(assignEach es X.env).length=its.toArray.size:=by
  rw[hn,List.size_toArray,← rv.length]
  exact hl.symm
 rw[hsz,hst]
 refine wpAny_bind (wpAny_holding (PySem.W.kun_itemsOf (I.ok.hd hc) pl.isList fun h' hx=>?_))
 have I1:Inv X pins σ H {s with heap:=h'}:=I.kept (t':=s.toks) fun b o e=>hx b o (Nat.ne_of_lt (Heap.lt_size e)) e
 exact h pins _ σ H xs _ Q I1 (by simpa using rv) hw
theorem kH (hc:X.calm=true):bN X (.builtin "sum") (fun xs H Q=>∃ (p:Addr) (ns:List Int),xs=[.ref p]/\SqL X.K H p (ns.map V.int)/\Q (.int ns.sum) H):=by
 intro pins s σ H xs us Q I r h
 obtain⟨p,ns,rfl,hq,q⟩:=h
 obtain⟨u,rfl,ru⟩:=bG r
 cases ru
 obtain⟨its,rv,pl,hz⟩:=I.list hq
 have hi:IntsAre its ns:=cX rv
 obtain⟨zs,ez⟩:=hi.allInts.items
 have hl:=pl.isList
 rw[ez] at hl
 refine sum_intListG (I.ok.hd hc) hl fun h' tk t' hk=>?_
 have e1:numsOf its=zs.toList.map (·.1):=by
  rw[← nums_intItems,← ez]
 have e2:preSum (numAt zs) zs.size=ns.sum:=by
  rw[preSum_eq,List.take_of_length_le (by simp),← e1,hi.numsOf]
 rw[e2]
 exact⟨.int ns.sum,H,I.kept hk,⟨_,rfl⟩,q⟩
theorem hW {ss:List Str}:∀ {us:List Value},Vals (ss.map V.str) us->StrsAre us ss:=by
 induction ss with
 |nil=>intro us r;rw[List.map_nil] at r;cases r;exact .nil
 |cons n ns ih=>
  intro us r
  rw[List.map_cons] at r
  cases r with
  |cons r1 r2=>
   obtain⟨t,e⟩:=r1
   subst e
   exact .cons n t (ih r2)
theorem cP:nE X "str.join" (fun x vs H Q=>∃ (sep:Str) (p:Addr) (ys:List Str),x=.str sep/\vs=[.ref p]/\SqL X.K H p (ys.map V.str)/\(ys.map (·.length)).sum+ys.length*sep.length<=16777216/\Q (.str (Txt.join sep ys)) H):=by
 intro pins s σ H x vs v us Q I rx rv h
 obtain⟨sep,p,ys,rfl,rfl,hq,hz,q⟩:=h
 obtain⟨t,rfl⟩:=rx
 obtain⟨u,rfl,ru⟩:=bG rv
 cases ru
 obtain⟨its,r,pl,_⟩:=I.list hq
 exact join_list pl.isList (by simpa using hW r) hz fun t' k=>⟨.str _,H,I.tok _,⟨_,rfl⟩,q⟩
def oZ:V->Bool
 |.bl _=>true
 |.non=>true
 |_=>false
def gA:V->Bool
 |.bl b=>b
 |_=>false
theorem mM {prog:Program}{w:World}{A:Around}{ys:List V}{its:List Value}(r:Vals ys its)(hb:ys.all oZ=true):TruthOf prog w A (fun i v=>its.toArray[i]? =some v) (fun i=>(ys[i]?).elim false gA):=by
 intro i v s Q E hv hq
 have hv':its[i]? =some v:=by simpa using hv
 cases e:ys[i]? with
 |none=>
  rw[r.none_of e] at hv'
  cases hv'
 |some y=>
  obtain⟨u,hu,ru⟩:=r.get e
  rw[hu] at hv'
  cases hv'
  have hq':Q ((ys[i]?).elim false gA) s:=hq
  rw[e] at hq'
  have hy:=List.all_eq_true.mp hb y (List.mem_of_getElem? e)
  cases y with
  |bl b=>
   cases ru
   exact wpAny_truthy_bool hq'
  |non=>
   cases ru
   exact truthy_none hq'
  |_=>cases hy
theorem jJ (ys:List V):(List.range ys.length).any (fun i=>(ys[i]?).elim false gA)=ys.any gA:=by
 rw[Bool.eq_iff_iff]
 simp only [List.any_eq_true,List.mem_range]
 constructor
 ·rintro⟨i,hi,h⟩
  refine⟨ys[i],List.getElem_mem hi,?_⟩
  simpa [hi] using h
 ·rintro⟨y,hy,h⟩
  obtain⟨i,hi,rfl⟩:=List.getElem_of_mem hy
  exact⟨i,hi,by simpa [hi] using h⟩
theorem kI (hc:X.calm=true):bN X (.builtin "any") (fun xs H Q=>∃ (p:Addr) (ys:List V),xs=[.ref p]/\SqL X.K H p ys/\ys.all oZ=true/\Q (.bl (ys.any gA)) H):=by
 intro pins s σ H xs us Q I r h
 obtain⟨p,ys,rfl,hq,hb,q⟩:=h
 obtain⟨u,rfl,ru⟩:=bG r
 cases ru
 obtain⟨its,rv,pl,hz⟩:=I.list hq
 have hl:=pl.isList
 obtain⟨o,ho,_⟩:=id hl
 have hlt:p < s.heap.objs.size:=Heap.lt_size ho
 refine call_any_walk (wpAny_pyIter_list hl ?_)
 refine⟨s.heap.objs.size,_,_,_,_,_,_,rfl,Walks.list (A:=X.A.in1) (I.ok.hd hc) s.heap.objs.size p (Nat.ne_of_lt hlt) its.toArray,⟨⟨_,Heap.get?_push_size _ rfl,rfl,rfl⟩,hl.push _⟩,mM rv hb,fun h' tk hk=>?_⟩
 have e:(List.range its.toArray.size).any (fun i=>(ys[i]?).elim false gA)=ys.any gA:=by
  rw[List.size_toArray,← rv.length]
  exact jJ ys
 rw[e]
 refine⟨.bl _,H,I.kept fun b o e=>hk b o ?_ (Heap.get?_push_of_some _ e),rfl,q⟩
 intro hm
 exact absurd (List.mem_singleton.mp hm) (Nat.ne_of_lt (Heap.lt_size e))
theorem fA {its:List Value}{ns:List Int}(hi:IntsAre its ns):∀ (js:List Nat),∃ ms:List Int,Vals (ms.map V.int) (js.filterMap (its.toArray[·]?))/\ms.length<=js.length
 |[]=>⟨[],.nil,Nat.le_refl _⟩
 |j::r=>by
  obtain⟨ms,h1,h2⟩:=fA hi r
  rw[List.filterMap_cons]
  cases e:its.toArray[j]? with
  |none=>exact⟨ms,h1,by rw[List.length_cons];omega⟩
  |some v=>
   have ev:its[j]? =some v:=by simpa using e
   obtain⟨a,t,rfl⟩:=hi.allInts v (by simpa using List.mem_of_getElem? ev)
   exact⟨a::ms,.cons ⟨t,rfl⟩ h1,by rw[List.length_cons,List.length_cons];omega⟩
def qH (K:PySem.W.Frag):V->Option Int->Option Int->Option Int->Hp->VK->Prop:=fun x lo hi st H Q=>∃ (a:Addr) (ns:List Int) (c:Int),x=.ref a/\SqL K H a (ns.map V.int)/\st=some c/\0 < c/\ns.length<=1000/\∀ (p:Addr) (ms:List Int),H p=none->ms.length<=1000->Q (.ref p) (upd H p (.lst (List.map V.int ms)))
theorem jK {lo hi c:Int}{n:Nat}(h0:0 < c)(h1:0<=lo)(h2:hi<=n):(sliceRange lo hi c).length<=n:=by
 unfold sliceRange
 rw[List.length_map,List.length_range,if_pos h0]
 by_cases h:lo < hi
 ·rw[if_pos h]
  have h3:(hi - lo)*1<=(hi - lo)*c:=Int.mul_le_mul_of_nonneg_left (by omega) (by omega)
  have h4:(hi - lo+c - 1) / c < hi - lo+1:=by
   refine Int.ediv_lt_of_lt_mul h0 ?_
   rw[Int.add_mul]
   omega
  omega
 ·rw[if_neg h]
  exact Nat.zero_le _
theorem jL {e:Expr}{te:TE}{lo hi:Option Expr}{est:Expr}{tl th ts:TO}{p2:Pos}(he:PE X e te)(hl:PO X lo tl)(hu:PO X hi th)(hst:PO X (some est) ts):
  PE X (.Subscript e (.Slice lo hi (some est) p2) pos) (fun σ H Q=>te σ H fun x H1=>tl σ H1 fun l H2=>th σ H2 fun u H3=>ts σ H3 fun c H4=>qH X.K x l u c H4 Q):=by
 intro pins s σ H Q I h
 refine Subscript_ (aV (he pins s σ H _ I h) fun v s1 ⟨x,H1,I1,r1,q1⟩=>?_)
 refine wpAny_Slice (aV (hl pins s1 σ H1 _ I1 q1) fun vl s2 ⟨l,H2,I2,pl,q2⟩=>aV (hu pins s2 σ H2 _ I2 q2) fun vu s3 ⟨u,H3,I3,pu,q3⟩=>aV (hst pins s3 σ H3 _ I3 q3) fun vs s4 ⟨c,H4,I4,ps,q4⟩=>?_)
 obtain⟨a,ns,c',rfl,hS,rfl,hc,hlen,q⟩:=q4
 cases r1
 have I5:Inv X pins σ H4 {s4 with heap:=s4.heap.push {cls:=.type "slice",data:=.fields #[vl,vu,vs]}}:=I4.kept (t':=s4.toks) fun b ob q=>Heap.get?_push_of_some _ q
 obtain⟨its,r,ht,hz⟩:=I5.list hS
 have hlen2:=r.length
 rw[List.length_map] at hlen2
 obtain⟨ms,hv,hm⟩:=fA (cX r) (sliceRange (sliceBounds l u (some c') its.toArray.size).1 (sliceBounds l u (some c') its.toArray.size).2.1 (sliceBounds l u (some c') its.toArray.size).2.2)
 have hms:ms.length<=1000:=by
  refine Nat.le_trans hm (Nat.le_trans (jK (n:=its.toArray.size) hc ?_ ?_) (by rw[List.size_toArray];omega))
  ·cases l with
   |none=>simp [sliceBounds,hc]
   |some i=>
    simp only [sliceBounds,Option.getD_some,if_pos hc]
    split<;>omega
  ·cases u with
   |none=>simp [sliceBounds,hc]
   |some i=>
    simp only [sliceBounds,Option.getD_some,if_pos hc]
    split<;>omega
 show wpAny (model X.prog X.w) X.A (subscriptTail e (.Slice lo hi (some est) p2) (.ref a) (.ref s4.heap.objs.size)) (EP X pins σ Q) X.xe {s4 with heap:=s4.heap.push {cls:=.type "slice",data:=.fields #[vl,vu,vs]}}
 refine tail_any (ops:=[.ref a,.ref s4.heap.objs.size]) ht.isList.typeIs slot_list_getitem.lookup ?_ (by with_unfolding_all rfl)
 refine wpAny_getItem_list_slice ht.isList (Heap.IsSliceOf.new ..) pl pu ps (by intro z;have:c'=0:=Option.some.inj z;omega) ?_ (by rw[List.size_toArray,sizeLine_eq];omega)
 refine⟨.ref _,_,I5.laid (t':=s4.toks) (o:=.lst (ms.map V.int)) (fun b ob q=>Heap.get?_push_of_some _ q) (Nat.le_refl _) ?_,rfl,q _ ms (I5.hok.fresh (Nat.le_refl _)) hms⟩
 refine⟨by rw[List.length_map];exact Nat.le_of_lt (bY hms),_,0,hv,?_⟩
 exact Heap.get?_push_size _ rfl
end
theorem eI:∀ (l:List Value) (ks:List Int),l.length=ks.length->(∀ (i:Nat) (v:Value),l[i]? =some v->∃ (k:Int) (t:Tok),ks[i]? =some k/\v=.int k t)->IntsAre l ks
 |[],[],_,_=>.nil
 |[],_::_,h,_=>by cases h
 |_::_,[],h,_=>by cases h
 |v::l,k::ks,h,f=>by
  obtain⟨k',t,e1,e2⟩:=f 0 v rfl
  have e1':k=k':=Option.some.inj e1
  subst e1' e2
  exact .cons k t (eI l ks (by simpa using h) fun i u hu=>f (i+1) u (by simpa using hu))
theorem gB {κ:Type}:∀ {kvs:List (κ×V)} {vs:List (κ×Value)} {i:Nat} {q:κ×Value},KV kvs vs->vs[i]? =some q->∃ p,kvs[i]? =some p/\p.1=q.1/\RelV p.2 q.2
 |_,_,_,_,.nil,e=>by cases e
 |_,_,0,_,.cons r _,e=>by
  have e':=Option.some.inj e
  subst e'
  exact⟨_,rfl,r.1,r.2⟩
 |_,_,i+1,q,.cons _ t,e=>by
  obtain⟨p,h1,h2⟩:=gB (i:=i) (q:=q) t (by simpa using e)
  exact⟨p,by simpa using h1,h2⟩
section
variable {X:Cx}
theorem gD (hc:X.calm=true):bN X (.builtin "sorted") (fun xs H Q=>∃ (p:Addr) (kvs:List (bD×V)) (ks:List Int),xs=[.ref p]/\H p=some (.dK kvs)/\kvs.map (·.1)=ks.map Sum.inl/\ks.length < 64/\
  ∀ (l:Addr) (ns':List Int),H l=none->List.Perm ns' ks->List.Pairwise (·<=·) ns'->Q (.ref l) (upd H l (.lst (List.map V.int ns')))):=by
 intro pins s σ H xs us Q I r h
 obtain⟨p,kvs,ks,rfl,hp,hk,h64,q⟩:=h
 obtain⟨u,rfl,ru⟩:=bG r
 cases ru
 obtain⟨z,hd,vs,rel,dd⟩:kvs.length<=sizeLine/\(p == sysModules)=false/\∃ vs,KV kvs vs/\s.heap.DictOf (aX X.prog X.w) p vs:=I.hok p _ hp
 obtain⟨ep,hat⟩:=dd.dictAt
 have hlen:kvs.length=vs.length:=Paired.length rel
 have hkl:ks.length=kvs.length:=by
  have e:=congrArg List.length hk
  rw[List.length_map,List.length_map] at e
  exact e.symm
 refine Calls.call_function_entry kind_sorted plain_sorted entry_sorted (args_sorted1 _) ?_
 unfold Builtin.«sorted»
 refine wpAny_bind (m:=checkCount "sorted" 1 1 _) (wpAny_pure ?_)
 refine wpAny_bind (PySem.W.kdu_collect (A:=X.A.in1) (PySem.W.kdl_dict (knd:=aX X.prog X.w) (kvs:=vs) (ep:=ep) hd) (I.ok.hd hc) hat (by omega) fun h' tk acc hkp hacc=>?_)
 have hl:acc.toList.length=vs.length:=by rw[Array.length_toList];exact hacc.1
 have hints:IntsAre acc.toList ks:=by
  refine eI _ _ (by rw[hl];omega) fun i v hv=>?_
  obtain⟨k,x,hx,hkv⟩:=hacc.2 i v (by rw[← Array.getElem?_toList];exact hv)
  obtain⟨q1,hq1,hq2,_⟩:=gB rel hx
  have e1:(kvs.map (·.1))[i]? =some k:=by rw[List.getElem?_map,hq1];exact congrArg some hq2
  rw[hk,List.getElem?_map] at e1
  cases e2:ks[i]? with
  |none=>rw[e2] at e1;cases e1
  |some n=>
   rw[e2] at e1
   have e3:(Sum.inl n:bD)=k:=Option.some.inj e1
   subst e3
   obtain⟨t,et⟩:=Value.isInt_shape (k:=n) (v:=v) hkv
   exact⟨n,t,rfl,et⟩
 refine wpAny_bind (wpAny_newList ?_ (by rw[hl];omega))
 have I1:Inv X pins σ H {s with heap:=h',toks:=tk}:=I.kept hkp
 have hoL:(h'.push (seqObj "list" acc.toList.toArray 0)).get? h'.objs.size=some (seqObj "list" acc.toList.toArray 0):=Heap.get?_push_size _ rfl
 refine wpAny_bind (wpAny_holding (wpAny_call_entry slot_list_sort ⟨_,hoL,rfl⟩ entry_list_sort (list_sort_tree hoL hints (by omega) fun out ns' a1 a2 a3=>⟨_,rfl,?_⟩) (args_list_sort _)))
 refine wpAny_pure ⟨_,rfl,?_⟩
 have hn:=I1.hok.fresh (a:=h'.objs.size) (Nat.le_refl _)
 obtain⟨e,he⟩:=sortedHeap_at (out:=out) hoL
 have I2:Inv X pins σ (upd H h'.objs.size (.lst (ns'.map V.int))) {s with heap:=sortedHeap (h'.push (seqObj "list" acc.toList.toArray 0)) h'.objs.size acc.toList out,toks:=tk}:=by
  refine I1.laid (t':=tk) (fun b o eb=>?_) (Nat.le_refl _) ?_
  ·have hb:b < h'.objs.size:=Heap.lt_size eb
   rw[sortedHeap_old (Nat.ne_of_lt hb) (by rw[size_push'];exact Nat.lt_succ_of_lt hb)]
   exact Heap.get?_push_of_some _ eb
  ·refine⟨?_,out.toList,e,?_,?_⟩
   ·rw[List.length_map,a2.length_eq]
    exact Nat.le_of_lt (bY (by omega))
   ·exact dy a1
   ·simpa using he
 exact⟨.ref h'.objs.size,_,I2,rfl,q _ ns' hn a2 a3⟩
end
end L2
namespace L2
open PySem PySem.Spec PyProof.Rows
def qI (f:V->Hp->Prop):List V->Hp->Prop
 |[x],H=>f x H
 |_,_=>False
theorem kJ {f:V->Hp->Prop}:∀ {vs:List V} {H:Hp},qI f vs H->∃ x,vs=[x]/\f x H
 |[x],_,h=>⟨x,rfl,h⟩
section
variable {X:Cx}
end
end L2
namespace L2
section
open PySem
variable {X:Cx}{K:PySem.W.Frag}
theorem iU (e:X.K=K):IxR X (pO K):=by subst e;exact ap
end
end L2
namespace OD
open PySem L2
def bb (i:Int):Int:=if i < 0 then -i else i
def qY:Int->List Int->Prop
 |_,[]=>True
 |b,l::r=>b < bb l/\qY (bb l) r
def rP (n:Int)(ls:List Int):Prop:=qY 0 ls/\∀ l∈ls,bb l<=n
def qJ (c:List Int):PyData:=.tuple (c.map .int)
def dP (ps:List (Int×Int)):List (bD×V):=ps.map fun q=>(Sum.inl q.1,V.int q.2)
def jM (ps:List (Int×Int))(k s:Int):List (Int×Int):=if (ps.any fun q=>decide (q.1=k))=true then ps.map (fun q=>if q.1=k then (q.1,s) else q) else ps++[(k,s)]
theorem o0 (ps:List (Int×Int))(k:Int):((dP ps).any fun kv=>decide (kv.1=(Sum.inl k:bD)))=ps.any fun q=>decide (q.1=k):=by
 unfold dP
 rw[List.any_map]
 congr 1
 funext q
 show decide ((Sum.inl q.1:bD)=Sum.inl k)=decide (q.1=k)
 by_cases e:q.1=k
 ·rw[decide_eq_true e,decide_eq_true (by rw[e])]
 ·rw[decide_eq_false e,decide_eq_false fun z=>e (Sum.inl.inj z)]
theorem o3 (ps:List (Int×Int))(k s:Int):dw (dP ps) (Sum.inl k) (V.int s)=dP (jM ps k s):=by
 unfold dw jM
 rw[o0]
 by_cases h:(ps.any fun q=>decide (q.1=k))=true
 ·rw[if_pos h,if_pos h]
  unfold dP
  rw[List.map_map,List.map_map]
  congr 1
  funext q
  show (if (Sum.inl q.1:bD)=Sum.inl k then ((Sum.inl q.1:bD),V.int s) else (Sum.inl q.1,V.int q.2))=(Sum.inl (if q.1=k then (q.1,s) else q).1,V.int (if q.1=k then (q.1,s) else q).2)
  by_cases e:q.1=k
  ·rw[if_pos (by rw[e]),if_pos e]
  ·rw[if_neg (fun z=>e (Sum.inl.inj z)),if_neg e]
 ·rw[if_neg h,if_neg h]
  unfold dP
  rw[List.map_append]
  rfl
theorem mO (ps:List (Int×Int)):(dP ps).map (·.1)=(ps.map (·.1)).map Sum.inl:=by
 unfold dP
 rw[List.map_map,List.map_map]
 rfl
def fB (ps:List (Int×Int))(k:Int):Option Int:=(ps.find? fun q=>decide (q.1=k)).map (·.2)
theorem o4 (ps:List (Int×Int))(k:Int):du (dP ps) (Sum.inl k:bD)=(fB ps k).map V.int:=by
 induction ps with
 |nil=>rfl
 |cons q r ih=>
  show du (((Sum.inl q.1:bD),V.int q.2)::dP r) (Sum.inl k)=_
  by_cases e:q.1=k
  ·rw[dg (by rw[e])]
   simp [fB,List.find?_cons,e]
  ·rw[dh (fun z=>e (Sum.inl.inj z)),ih]
   simp [fB,List.find?_cons,e]
structure DOk (n:Int)(ps:List (Int×Int)):Prop where
 nd:(ps.map (·.1)).Nodup
 rng:∀ q∈ps,1<=q.1/\q.1<=n
 sg:∀ q∈ps,q.2=1\/q.2=-1
theorem DOk.nil (n:Int):DOk n []:=⟨List.nodup_nil,(fun _ h=>nomatch h),(fun _ h=>nomatch h)⟩
theorem DOk.put {n k s:Int}{ps:List (Int×Int)}(h:DOk n ps)(h1:1<=k/\k<=n)(hs:s=1\/s=-1):DOk n (jM ps k s)/\(jM ps k s).length<=ps.length+1:=by
 unfold jM
 by_cases a:(ps.any fun q=>decide (q.1=k))=true
 ·rw[if_pos a]
  have e:(ps.map fun q=>if q.1=k then (q.1,s) else q).map (·.1)=ps.map (·.1):=by
   rw[List.map_map]
   congr 1
   funext q
   show (if q.1=k then (q.1,s) else q).1=q.1
   split<;>rfl
  refine⟨⟨by rw[e];exact h.nd,fun q hq=>?_,fun q hq=>?_⟩,by rw[List.length_map];omega⟩
  ·obtain⟨q',hq',rfl⟩:=List.mem_map.mp hq
   split
   ·exact h.rng q' hq'
   ·exact h.rng q' hq'
  ·obtain⟨q',hq',rfl⟩:=List.mem_map.mp hq
   split
   ·exact hs
   ·exact h.sg q' hq'
 ·rw[if_neg a]
  refine⟨⟨?_,fun q hq=>?_,fun q hq=>?_⟩,by rw[List.length_append];exact Nat.le_refl _⟩
  ·rw[List.map_append]
   refine iO h.nd fun m=>a ?_
   obtain⟨q,hq,e⟩:=List.mem_map.mp m
   exact List.any_eq_true.mpr ⟨q,hq,decide_eq_true e⟩
  ·rcases List.mem_append.mp hq with z|z
   ·exact h.rng q z
   ·rw[List.mem_singleton.mp z]
    exact h1
  ·rcases List.mem_append.mp hq with z|z
   ·exact h.sg q z
   ·rw[List.mem_singleton.mp z]
    exact hs
def kK (ps:List (Int×Int))(k:Int):Int:=(fB ps k).getD 1
theorem DOk.look {n k:Int}{ps:List (Int×Int)}(h:DOk n ps)(hk:k∈ps.map (·.1)):fB ps k=some (kK ps k)/\(kK ps k=1\/kK ps k=-1):=by
 obtain⟨q,hq,e⟩:=List.mem_map.mp hk
 unfold kK fB
 cases f:ps.find? fun q=>decide (q.1=k) with
 |none=>
  have:=List.find?_eq_none.mp f q hq
  exact absurd (decide_eq_true e) this
 |some z=>exact⟨rfl,h.sg z (List.mem_of_find?_eq_some f)⟩
theorem gE {k s:Int}(hk:1<=k)(hs:s=1\/s=-1):bb (k*s)=k:=by
 unfold bb
 rcases hs with rfl|rfl
 ·rw[Int.mul_one,if_neg (by omega)]
 ·rw[if_pos (by omega)]
  omega
theorem kL {f:Int->Int}:∀ (ks:List Int) (b:Int),0<=b->(∀ k∈ks,b < k)->ks.Pairwise (· < ·)->(∀ k∈ks,f k=1\/f k=-1)->qY b (ks.map fun k=>k*f k)
 |[],_,_,_,_,_=>trivial
 |k::r,b,h0,hb,hp,hf=>by
  have hk:=hb k List.mem_cons_self
  have e:=gE (s:=f k) (show 1<=k by omega) (hf k List.mem_cons_self)
  obtain⟨p1,p2⟩:=List.pairwise_cons.mp hp
  show b < bb (k*f k)/\qY (bb (k*f k)) (r.map fun k=>k*f k)
  rw[e]
  exact⟨hk,kL r k (by omega) p1 p2 fun z hz=>hf z (List.mem_cons_of_mem _ hz)⟩
theorem cH:∀ {ks:List Int},ks.Pairwise (·<=·)->ks.Nodup->ks.Pairwise (· < ·)
 |[],_,_=>List.Pairwise.nil
 |k::r,hp,hn=>by
  obtain⟨p1,p2⟩:=List.pairwise_cons.mp hp
  obtain⟨n1,n2⟩:=List.nodup_cons.mp hn
  refine List.pairwise_cons.mpr ⟨fun z hz=>?_,cH p2 n2⟩
  have:=p1 z hz
  have:k≠z:=fun e=>n1 (e▸hz)
  omega
theorem DOk.clause {n:Int}{ps:List (Int×Int)}{ks:List Int}(h:DOk n ps)(hp:ks.Perm (ps.map (·.1)))(hs:ks.Pairwise (·<=·)):rP n (ks.map fun k=>k*kK ps k):=by
 have hm:∀ k∈ks,k∈ps.map (·.1):=fun k hk=>hp.mem_iff.mp hk
 have hr:∀ k∈ks,1<=k/\k<=n:=fun k hk=>by
  obtain⟨q,hq,e⟩:=List.mem_map.mp (hm k hk)
  rw[← e]
  exact h.rng q hq
 refine⟨kL ks 0 (Int.le_refl 0) (fun k hk=>by have:=(hr k hk).1;omega) (cH hs (hp.nodup_iff.mpr h.nd)) fun k hk=>(h.look (hm k hk)).2,fun l hl=>?_⟩
 obtain⟨k,hk,rfl⟩:=List.mem_map.mp hl
 rw[gE (hr k hk).1 (h.look (hm k hk)).2]
 exact (hr k hk).2
theorem cI {ns:List Int}{i:Nat}{x:V}(h:(ns.map V.int)[i]? =some x):∃ z,x=.int z/\ns[i]? =some z:=by
 rw[List.getElem?_map] at h
 cases e:ns[i]? with
 |none=>rw[e] at h;cases h
 |some z=>
  rw[e] at h
  exact⟨z,(Option.some.inj h).symm,rfl⟩
end OD
namespace OD
open PySem L2
theorem jN {d:PyData}(h1:d.canLay0=true)(h2:d.depth<=64):SeqAt.shaped d=true:=by
 unfold SeqAt.shaped
 rw[h1,decide_eq_true h2]
 rfl
theorem gF:SeqAt.shaped (.list [])=true:=by decide+kernel
mutual
theorem eJ:∀ d:PyData,d.canLay0=true->PyData.eqv d d=true
 |.none,_=>rfl
 |.bool b,_=>by simp [PyData.eqv]
 |.int i,_=>by simp [PyData.eqv]
 |.str x,_=>by simp [PyData.eqv]
 |.list ds,h=>by
  show PyData.eqvAll ds ds=true
  exact cJ ds h
 |.tuple ds,h=>by
  show PyData.eqvAll ds ds=true
  exact cJ ds h
 |.dict _,h=>by cases h
theorem cJ:∀ ds:List PyData,PyData.canLayAll0 ds=true->PyData.eqvAll ds ds=true
 |[],_=>rfl
 |d::r,h=>by
  have h':d.canLay0=true/\PyData.canLayAll0 r=true:=by simpa [PyData.canLayAll0] using h
  show (PyData.eqv d d&&PyData.eqvAll r r)=true
  rw[eJ d h'.1,cJ r h'.2]
  rfl
end
abbrev rQ:R2:=fun x y H Q=>rG x y H Q\/oQ x y H Q
abbrev rR:R2:=fun x y H Q=>rH x y H Q\/oR x y H Q
end OD
namespace OD
open PySem L2
section
variable {K:PySem.W.Frag}{a D:Addr}{xs:List V}{tt:TT}{te:TE}{σ0:St}{H1:Hp}{Q:VK}
theorem hX (rest:St)(p:V->Bool)(f:V->V)(e0:σ0=none::rest)(ha:H1 a=some (.lst xs))(hD:H1 D=none)(hlen:xs.length<=900)
  (ht:∀ x∈xs,∀ (H':Hp) (R:Bool->Hp->Prop),Same H1 H'->R (p x) H'->tt (some x::rest) H' R)
  (he:∀ x∈xs,p x=true->∀ (H':Hp) (R:VK),Same H1 H'->R (f x) H'->te (some x::rest) H' R)
  (hq:Q (.ref D) (upd H1 D (.lst ((xs.filter p).map f)))):dj (mv K a) D (bF 0) tt te σ0 H1 Q:=by
 have na:a≠D:=av ha hD
 refine bd (K:=K) (a:=a) (xs:=xs) (fun i σ ys H2=>(∃ v0,σ=v0::rest)/\ys=((xs.take i).filter p).map f/\H2=upd H1 D (.lst ys)) ⟨⟨none,e0⟩,rfl,rfl⟩ ?_ ?_ ?_
 ·rintro i σ ys H2 _ ⟨_,_,rfl⟩
  exact⟨ad,SqL.of (by rw[ay na];exact ha)⟩
 ·rintro i x σ ys H2 hx ⟨⟨v0,rfl⟩,hys,rfl⟩
  have hm:=List.mem_of_getElem? hx
  have e:xs.take (i+1)=xs.take i++[x]:=by rw[List.take_add_one,hx];rfl
  refine ht x hm _ _ (ag hD _) ?_
  cases hp:p x with
  |true=>
   refine aL (he x hm hp _ _ (ag hD _) ⟨ad,?_,⟨_,rfl⟩,?_,cn⟩)
   ·have:ys.length<=xs.length:=by
     rw[hys,List.length_map]
     exact Nat.le_trans (List.length_filter_le _ _) (by rw[List.length_take];omega)
    exact bY (by omega)
   ·rw[e,List.filter_append,List.map_append,← hys]
    simp [hp]
  |false=>
   refine aB ⟨⟨_,rfl⟩,?_,rfl⟩
   rw[e,List.filter_append,List.map_append,← hys]
   simp [hp]
 ·rintro σ ys H2 ⟨_,hys,rfl⟩
  rw[List.take_of_length_le (Nat.le_refl _)] at hys
  rw[hys]
  exact hq
end
end OD
namespace OD
open PySem L2
theorem kM {d:PyData}(h:SeqAt.shaped d=true):d.canLay0=true:=by
 unfold SeqAt.shaped at h
 rw[Bool.and_eq_true] at h
 exact h.1
theorem kO {d:PyData}{x y:V}{H:Hp}{Q:VK}(hx:RD H d x)(hy:RD H d y)(hs:SeqAt.shaped d=true)(q:Q (.bl true) H):rQ x y H Q:=
 .inr ⟨d,d,hx,hy,hs,hs,by rw[eJ d (kM hs)];exact q⟩
theorem kP {d:PyData}{x y:V}{H:Hp}{Q:VK}(hx:RD H d x)(hy:RD H d y)(hs:SeqAt.shaped d=true)(q:Q (.bl false) H):rR x y H Q:=
 .inr ⟨d,d,hx,hy,hs,hs,by rw[eJ d (kM hs)];exact q⟩
theorem rS {x y:V}{A B:Prop}(h:x=y)(b:B):if (!decide (x=y))=true then A else B:=by
 rw[decide_eq_true h]
 exact aB b
theorem sC {i j:Int}{A B:Prop}(h:¬ i < j)(b:B):if decide (i < j)=true then A else B:=by
 rw[decide_eq_false h]
 exact aB b
theorem qZ:b7 "tuple" "tuple"=some true:=by decide+kernel
theorem sD:b7 "list" "list"=some true:=by decide+kernel
theorem rT:b7 "str" "str"=some true:=by decide+kernel
end OD
namespace L2
open PySem PySem.Spec PyProof.Rows
section
variable {X:Cx}
def qK:R2:=fun x y H Q=>∃ (dx:PyData) (ds:List PyData),RD H dx x/\RD H (.list ds) y/\dx.canLay0=true/\PyData.canLayAll0 ds=true/\dx.depth<=60/\Q (.bl (ds.any fun d=>PyData.eqv d dx)) H
theorem o5 (hu:X.A.units+64 < cLine):OpR X (compareOp .In) qK:=by
 intro pins s σ H x y v u Q I rx ry h
 obtain⟨dx,ds,ra,rb,sa,sb,dd,q⟩:=h
 obtain⟨as,qa⟩:=b5 I dx x v ra rx
 obtain⟨bs,qb⟩:=b5 I (.list ds) y u rb ry
 refine SeqAt.in_list_reads qb qa sb sa ?_ ⟨.bl _,H,I,rfl,q⟩
 have:min (PyData.depthAll ds) dx.depth<=dx.depth:=Nat.min_le_right _ _
 omega
def bO (mg:Str->Option Value)(x:Str)(v:V):Prop:=∃ u,mg x=some u/\RelV v u
theorem aQ {x:Str}{v:V}{pos:Pos}(hg:Gl X x)(hm:bO X.mg x v)(hd:(x == ("__debug__":Str))=false:=by decide):PE X (.Name x pos) (tC v):=by
 obtain⟨u,h1,h2⟩:=hm
 exact mq hg h1 h2 hd
end
end L2
namespace OD
open PySem L2
end OD
namespace L2
open PySem PySem.Spec PyProof.Rows
section
variable {X:Cx}{tg:Expr}
end
end L2
namespace OD
open PySem L2
end OD
namespace OD
open PySem L2
end OD
namespace OD
open PySem L2
section
variable {K:PySem.W.Frag}{a D:Addr}{xs:List V}{tt:TT}{te:TE}{σ0:St}{H1:Hp}{Q:VK}
end
end OD
namespace L2
open PySem PySem.Spec PyProof.Rows
structure Flies (P:Program)(w:World)(outer:List Env)(H:Hp)(s:Shared)(H':Hp)(B:Heap)(ea:Addr)(cls a0:Value)(s':Shared):Prop where
 os:s'.os=s.os
 bare:AllBare s'.gens
 fly:Heap.FlyingW B outer ea cls a0 s'.heap
 hok:HOk P w H' B
 keep:∀ b o,s.heap.get? b=some o->H b=none->b∉cm outer->B.get? b=some o
 thr:∀ b o,s.heap.get? b=some o->b∉cm outer->∃ o',B.get? b=some o'
 slot:∀ b o,s.heap.get? b=some o->H b=none->b∈cm outer->∃ sl,s'.heap.get? b=some {o with slots:=sl}
 free:∀ b o,s.heap.get? b=some o->H b=none->H' b=none
 tups:∀ b xs,H b=some (.tup xs)->H' b=some (.tup xs)
 frzs:∀ b o u,H b=some (.frz o u)->H' b=some (.frz o u)
 tbls:∀ b ps,H b=some (.tbl ps)->∃ more,H' b=some (.tbl (ps++more))
def cc (P:Program)(w:World):j7:=fun outer H s E e s'=>∃ (H':Hp) (B:Heap) (ea:Addr) (cls a0:Value),e=.ref ea/\Flies P w outer H s H' B ea cls a0 s'/\E cls none H'
section
variable {P:Program}{w:World}{outer:List Env}{H H':Hp}{s s':Shared}{B h':Heap}{ea:Addr}{cls a0:Value}
theorem Flies.slotted (f:Flies P w outer H s H' B ea cls a0 s')(up:s'.heap.UpToSlots h'){b:Addr}{o:Obj}(e:s.heap.get? b=some o)(n:H b=none)(hb:b∈cm outer):∃ sl,h'.get? b=some {o with slots:=sl}:=by
 obtain⟨sl,e1⟩:=f.slot b o e n hb
 obtain⟨_,o1,e2,nf⟩:=f.fly.2.2.1.mem (b:=b) hb
 rw[e1] at e2
 cases e2
 obtain⟨sl',e3⟩:=up b _ e1 nf
 exact⟨sl',e3⟩
theorem Flies.un (f:Flies P w outer H s H' B ea cls a0 s')(st:B.StaysIn h')(up:s'.heap.UpToSlots h')(frf:∀ b∈cm outer,H b=none):Un (cm outer) [] H H' s.heap h' where
 keep:=fun b o e n hb _=>st b o (f.keep b o e n hb)
 slot:=fun b o e n hb _=>f.slotted up e n hb
 free:=fun b o e n _=>f.free b o e n
 there:=fun b o e _=>by
  by_cases hb:b∈cm outer
  ·obtain⟨sl,q⟩:=f.slotted up e (frf b hb) hb
   exact⟨_,q⟩
  ·obtain⟨o',q⟩:=f.thr b o e hb
   exact⟨o',st b o' q⟩
 tups:=f.tups
 frzs:=f.frzs
 tbls:=f.tbls
end
theorem ObjOk.some {P:Program}{w:World}{H:Hp}{h:Heap}{a:Addr}{o:HO}(x:ObjOk P w H h a o):∃ u,h.get? a=Option.some u:=by
 cases o with
 |lst xs=>obtain⟨_,_,_,_,e⟩:=x;exact⟨_,e⟩
 |tup xs=>obtain⟨_,_,_,ob,e,_⟩:=x;exact⟨_,e⟩
 |dK kvs=>obtain⟨_,_,_,_,o,_,_,e,_⟩:=x;exact⟨_,e⟩
 |dT kvs=>obtain⟨_,_,_,_,o,_,_,e,_⟩:=x;exact⟨_,e⟩
 |set S n=>obtain⟨o,_,_,_,e,_⟩:=x;exact⟨_,e⟩
 |ins C dx fs=>obtain⟨_,_,_,e,_⟩:=x;exact⟨_,e⟩
 |own y=>obtain⟨_,e⟩:=x;exact⟨_,e⟩
 |xd fs=>obtain⟨_,⟨_,_,_,e,_⟩,_⟩:=x;exact⟨_,e⟩
 |rng lo hi=>obtain⟨_,_,_,e⟩:=x;exact⟨_,e⟩
 |frz ob u=>obtain⟨e,_⟩:=x;exact⟨_,e⟩
 |tbl ps=>exact⟨_,x⟩
 |met f y=>exact⟨_,x⟩
 |ext φ=>obtain⟨_,e,_⟩:=x;exact e
theorem HOk.hid {P:Program}{w:World}{H:Hp}{h:Heap}{l:List Addr}(x:HOk P w H h)(n:∀ b∈l,H b=none):HOk P w H (PySem.W.hideAll h l):=fun a o e=>
 (x a o e).stay (fun b u hb q=>PySem.W.hideAll_get _ q fun hm=>by
  rcases hb with rfl|hb
  ·rw[n b hm] at e;cases e
  ·rw[n b hm] at hb;cases hb) (fun _ q=>q) fun _ _ q=>q
section
variable {P:Program}{w:World}{K:PySem.W.Frag}{mg:Str->Option Value}{base:Heap}{N:List Str}{qual:Str}{scope:Scope}{f:Addr}{cd:Value}{A:Around}{outer:List Env}{s:Shared}{H:Hp}{E:XK}
theorem qL:ei (cc P w) (bf (cc P w) P w K mg base N qual scope f cd A outer s H E) E:=by
 intro pins σ H1 s1 e s2 I h
 obtain⟨H',B,ea,cls,a0,rfl,fl,hE⟩:=h
 have hlt:∀ b o,s.heap.get? b=some o->b∉cm outer->b∉cm (envOfC qual scope s.heap.objs.size f cd::outer):=fun b o e hb hm=>by
  rcases List.mem_filterMap.mp hm with⟨env,he,hf⟩
  rcases List.mem_cons.mp he with rfl|he
  ·have:s.heap.objs.size=b:=Option.some.inj hf
   exact absurd (Heap.lt_size e) (by rw[this];exact Nat.lt_irrefl b)
  ·exact hb (List.mem_filterMap.mpr ⟨env,he,hf⟩)
 have hsub:∀ b,b∈cm outer->b∈cm (envOfC qual scope s.heap.objs.size f cd::outer):=fun b hb=>by
  rcases List.mem_filterMap.mp hb with⟨env,he,hf⟩
  exact List.mem_filterMap.mpr ⟨env,List.mem_cons_of_mem _ he,hf⟩
 show wpAny (model P w) _ (leaving (envOfC qual scope s.heap.objs.size f cd) (.ref ea)) _ _ s2
 refine wpAny_leaves_onW (base:=B) (cls:=cls) (a0:=a0) (outer:=outer) (L:=s.heap.objs.size) I.ok.frames rfl fl.fly fun h' fly' up=>⟨H',B,ea,cls,a0,rfl,⟨?_,fl.bare,fly',fl.hok,fun b o e n hb=>?_,fun b o e hb=>?_,fun b o e n hb=>?_,fun b o e n=>?_,fun b xs e=>?_,fun b o u e=>?_,fun b ps e=>?_⟩,hE⟩
 ·exact fl.os.trans I.os
 ·exact fl.keep b o (I.base.keep b o e n hb (by intro z;cases z)) (I.base.free b o e n (by intro z;cases z)) (hlt b o e hb)
 ·obtain⟨o1,e1⟩:=I.base.there b o e (by intro z;cases z)
  exact fl.thr b o1 e1 (hlt b o e hb)
 ·obtain⟨sl,e1⟩:=I.base.slot b o e n hb (by intro z;cases z)
  obtain⟨sl2,e2⟩:=fl.slotted up e1 (I.base.free b o e n (by intro z;cases z)) (hsub b hb)
  exact⟨sl2,e2⟩
 ·obtain⟨o1,e1⟩:=I.base.there b o e (by intro z;cases z)
  exact fl.free b o1 e1 (I.base.free b o e n (by intro z;cases z))
 ·exact fl.tups b xs (I.base.tups b xs e)
 ·exact fl.frzs b o u (I.base.frzs b o u e)
 ·obtain⟨m1,e1⟩:=I.base.tbls b ps e
  obtain⟨m2,e2⟩:=fl.tbls b _ e1
  exact⟨m1++m2,by rw[e2,Array.append_assoc]⟩
theorem qM {pins:List (Addr×Obj)}{σ:St}{H1:Hp}{s1:Shared}{h2:Heap}{ea:Addr}{cls:Value}{vs:List Value}(I:Inv (bf (cc P w) P w K mg base N qual scope f cd A outer s H E) pins σ H1 s1)(hx:Heap.MadeExcOf s1.heap h2 ea cls vs)(hE:E cls none H1):
  (bf (cc P w) P w K mg base N qual scope f cd A outer s H E).xe (.ref ea) {s1 with heap:=h2}:=by
 have hlt:∀ b o,s.heap.get? b=some o->b∉cm outer->b∉cm (envOfC qual scope s.heap.objs.size f cd::outer):=fun b o e hb hm=>by
  rcases List.mem_filterMap.mp hm with⟨env,he,hf⟩
  rcases List.mem_cons.mp he with rfl|he
  ·have:s.heap.objs.size=b:=Option.some.inj hf
   exact absurd (Heap.lt_size e) (by rw[this];exact Nat.lt_irrefl b)
  ·exact hb (List.mem_filterMap.mpr ⟨env,he,hf⟩)
 have hsub:∀ b,b∈cm outer->b∈cm (envOfC qual scope s.heap.objs.size f cd::outer):=fun b hb=>by
  rcases List.mem_filterMap.mp hb with⟨env,he,hf⟩
  exact List.mem_filterMap.mpr ⟨env,List.mem_cons_of_mem _ he,hf⟩
 have hst:s1.heap.FunFrames base (envOfC qual scope s.heap.objs.size f cd::outer):=I.stack
 have hfr:∀ b∈cm (envOfC qual scope s.heap.objs.size f cd::outer),H1 b=none:=I.stkFree
 have hin:∀ env∈(envOfC qual scope s.heap.objs.size f cd::outer),∀ b,env.frame=some b->b∈cm (envOfC qual scope s.heap.objs.size f cd::outer):=fun env he b hb=>List.mem_filterMap.mpr ⟨env,he,hb⟩
 have hff:=PySem.W.funFrames_hide hst hin
 show wpAny (model P w) _ (leaving (envOfC qual scope s.heap.objs.size f cd) (.ref ea)) _ _ {s1 with heap:=h2}
 refine wpAny_leaves_madeW (base:=PySem.W.hideAll s1.heap (cm (envOfC qual scope s.heap.objs.size f cd::outer))) (h:=s1.heap) (outer:=outer) (L:=s.heap.objs.size) I.ok.frames rfl (fun b o q=>PySem.W.of_hideAll _ q) hff hx fun h' t fly tup bt up=>⟨H1,_,ea,cls,_,rfl,⟨?_,I.bare,fly,I.hok.hid hfr,fun b o e n hb=>?_,fun b o e hb=>?_,fun b o e n hb=>?_,fun b o e n=>?_,fun b xs e=>?_,fun b o u e=>?_,fun b ps e=>?_⟩,hE⟩
 ·exact I.os
 ·exact PySem.W.hideAll_get _ (I.base.keep b o e n hb (by intro z;cases z)) (hlt b o e hb)
 ·obtain⟨o1,e1⟩:=I.base.there b o e (by intro z;cases z)
  exact⟨o1,PySem.W.hideAll_get _ e1 (hlt b o e hb)⟩
 ·obtain⟨sl,e1⟩:=I.base.slot b o e n hb (by intro z;cases z)
  obtain⟨_,o1,e2,nf⟩:=hst.mem (b:=b) (hsub b hb)
  rw[e1] at e2
  cases e2
  obtain⟨sl',e3⟩:=up b _ (hx.keeps b _ e1) nf
  exact⟨sl',e3⟩
 ·exact I.base.free b o e n (by intro z;cases z)
 ·exact I.base.tups b xs e
 ·exact I.base.frzs b o u e
 ·exact I.base.tbls b ps e
end
theorem Fun.okX {P:Program}{w:World}{K:PySem.W.Frag}{mg:Str->Option Value}{base:Heap}{x qual:Str}{st:Stmt}{f:Addr}{fd:FuncData}{N ps:List Str}{k:Nat}{sp:Sp}(F:Fun K x qual st f fd)(S:az N ps (am st))(len:∀ vs H Q E,sp vs H Q E->vs.length=ps.length)
  (hbody:∀ (cdv:Value) (A:Around) (outer:List Env) (s:Shared) (H:Hp) (vs:List V) (Q:VK) (E:XK),Room k (A.deeper (envOfC qual (am st) s.heap.objs.size f cdv))->sp vs H Q E->
   ∃ t,PSs (bf (cc P w) P w K mg base N qual (am st) f cdv A outer s H E) (bM st) t/\t {nx:=fun _ H'=>Q .non H',rt:=Q} (c_ N vs) H):aW P w K mg base (cc P w) (k+1) f fd ps sp:=by
 obtain⟨oc,od,kV,doc,pm,an,cdv,ct,osl,rfl,lk,hcd⟩:=F.ex
 refine nB lk hcd S len fun A outer s H vs Q E hr hsp=>?_
 obtain⟨t,h,q⟩:=hbody cdv A outer s H vs Q E hr hsp
 exact⟨t,h,q⟩
end L2
namespace L2
open PySem PySem.Spec PyProof.Rows
def o6 (h:Heap)(C:Addr)(bmB:List Value)(newId:String):Prop:=
 ∃ (bm:List Value) (N:Addr) (nm q:Str) (bs:List Value) (hdct:Bool) (sn:List Str) (sub:List Value) (ab:Bool) (col:Option Bool) (dd:Option Addr) (k0 k1 k2 k3 k5:Option Value) (mN:Str->Option Value),
  h.get? C=some (excClassObj nm q C N bs bm hdct sn sub ab col dd k0 k1 k2 k3 k5 newId)/\h.Ns N mN/\mN "__init__"=none/\OwnTail h bmB bm
theorem iV {K:PySem.W.Frag}{h:Heap}{C:Addr}{bmB:List Value}{newId:String}(X:K.In h)(q:PySem.W.excIn K C bmB newId=true):o6 h C bmB newId:=by
 unfold PySem.W.excIn at q
 split at q
 case h_2=>cases q
 case h_1 dd cd sl ho=>
  split at q
  case h_2=>cases q
  case h_1 C' bm k0 k1 k2 k3 n k5 hm hs=>
   rw[Bool.and_eq_true,Bool.and_eq_true,Bool.and_eq_true,Bool.and_eq_true,Bool.and_eq_true] at q
   obtain⟨⟨⟨⟨⟨q1,q2⟩,q3⟩,q4⟩,q5⟩,q6⟩:=q
   have e1:C'=C:=beq_iff_eq.mp q1
   have e2:n=newId:=beq_iff_eq.mp q2
   have e6:=beq_iff_eq.mp q6
   subst e1 e2
   obtain⟨nm,bs,mro,ns,qn,hd,sn,sub,ab,col,del⟩:=cd
   have em:mro=.ref C'::bm:=hm
   have ed:del=false:=by simpa using q3
   have es:sl=#[k0,k1,k2,k3,some (.builtin n),k5]:=Array.toList_inj.mp hs
   subst em ed es
   exact⟨bm,ns,nm,qn,bs,hd,sn,sub,ab,col,dd,k0,k1,k2,k3,k5,_,X _ _ ho,.of_isNs (PySem.W.isNs_of_in X q5),PySem.W.nsMap_none_of_in X q5 e6,PySem.W.tail_of_in X q4⟩
def o7 (C:Addr)(E:XK)(t:TA):TS:=fun _ σ H=>t σ H fun vs H1=>vs.length<=sizeLine/\E (.ref C) none H1
section
variable {P:Program}{w:World}{K:PySem.W.Frag}{mg:Str->Option Value}{base:Heap}{N:List Str}{qual:Str}{scope:Scope}{f:Addr}{cd:Value}{A:Around}{outer:List Env}{s:Shared}{H:Hp}{E:XK}
theorem cK {x:Str}{C:Addr}{B newId initId:String}{bmB:List Value}{e:Expr}{es:List Expr}{t:TA}{np cpos pos:Pos}(q:PySem.W.excIn K C bmB newId=true)(FB:ExcBaseFacts B newId initId bmB)(hm:mg x=some (.ref C))
  (hg:Gl (bf (cc P w) P w K mg base N qual scope f cd A outer s H E) x) (ha:PA (bf (cc P w) P w K mg base N qual scope f cd A outer s H E) (e::es) t) (hd:(x == ("__debug__":Str))=false:=by decide)
  (he:starEach (e::es) (envOfC qual scope s.heap.objs.size f cd)=(false,eval e (envOfC qual scope s.heap.objs.size f cd))::starEach es (envOfC qual scope s.heap.objs.size f cd):=by rfl)
  (hpl:(backTo cpos (starEach (e::es) (envOfC qual scope s.heap.objs.size f cd))).any (·.1)=false:=by rfl):
  PS (bf (cc P w) P w K mg base N qual scope f cd A outer s H E) (.Raise (some (.Call (.Name x np) (e::es) [] cpos)) none pos) (o7 C E t):=by
 intro pins s1 σ H1 D I h
 obtain⟨bm,N',nm,q',bs,hdct,sn,sub,ab,col,dd,k0,k1,k2,k3,k5,mN,h1,h2,h3,h4⟩:=iV I.mod.kin q
 refine wpAny_Raise_call_subT (C:=C) (nm:=nm) (q:=q') (N:=N') (bs:=bs) (bm:=bm) (hdct:=hdct) (sn:=sn) (sub:=sub) (ab:=ab) (col:=col) (dd:=dd) (k0:=k0) (k1:=k1) (k2:=k2) (k3:=k3) (k5:=k5) (mN:=mN) FB (h4.hasType FB.hasBase) (I.ok.hd rfl) hpl h3 (cZ I hg hm ⟨rfl,?_⟩ hd)
 show wpAny _ _ (evalArgs (.ref C) true (backTo cpos (starEach (e::es) (envOfC qual scope s.heap.objs.size f cd))) []) _ _ s1
 rw[he]
 have hsp:=ha cpos pins s1 σ H1 _ I h
 have hsp':wpAny (model P w) _ (spliced (backTo cpos (starEach (e::es) (envOfC qual scope s.heap.objs.size f cd)))) _ _ s1:=hsp
 rw[he] at hsp'
 refine Calls.evalArgs_plain (wpAny_mono hsp' (fun us s2 hz=>?_) fun _ _ z=>z)
 obtain⟨vs,H2,I2,r,z,hE⟩:=hz
 refine⟨rfl,?_,I2.bk _ _ h1,h2.keeps I2.bk,h4.keeps I2.bk,fun h' ea hx=>qM I2 hx hE⟩
 show us.length<=sizeLine
 rw[← r.length]
 exact z
end
def fW (ea C:Addr):HO:=.ext fun h=>∃ (o:Obj) (vs:Array Value),h.get? ea=some o/\o.cls=.ref C/\o.data=.fields vs
abbrev XQ:=Value->St->Hp->Prop
def XP (X:Cx)(pins:List (Addr×Obj))(EX:XQ)(e:Value)(s':Shared):Prop:=
 ∃ (σ1:St) (H1:Hp) (s1:Shared) (H':Hp) (B:Heap) (ea:Addr) (cls a0:Value),e=.ref ea/\Inv X pins σ1 H1 s1/\Flies X.prog X.w X.stack H1 s1 H' B ea cls a0 s'/\EX cls σ1 H'
abbrev q_:=XQ->TE
abbrev rc:=XQ->TS
def rV (X:Cx)(e:Expr)(t:q_):Prop:=
 ∀ (pins:List (Addr×Obj)) (s:Shared) (σ:St) (H:Hp) (Q:VK) (EX:XQ),Inv X pins σ H s->t EX σ H Q->wpAny (model X.prog X.w) X.A (eval e X.env) (EP X pins σ Q) (XP X pins EX) s
def sm (X:Cx)(st:List Stmt)(t:rc):Prop:=
 ∀ (pins:List (Addr×Obj)) (s:Shared) (σ:St) (H:Hp) (D:dN) (EX:XQ),Inv X pins σ H s->t EX D σ H->wpAny (model X.prog X.w) X.A (execs st X.env) (SP X pins D) (XP X pins EX) s
def kQ (sp:Sp)(t:TA):q_:=fun EX σ H Q=>t σ H fun vs H1=>sp vs H1 Q fun cls _ H'=>EX cls σ H'
def qN (i:Nat)(t:q_):rc:=fun EX D σ H=>t EX σ H fun x H1=>D.nx (σ.set i (some x)) H1
section
variable {X:Cx}{k:Nat}{f:Addr}{fd:FuncData}{ps:List Str}{sp:Sp}{x:Str}{p pos:Pos}{e:Expr}{es:List Expr}{t:TA}
theorem kR (hno:∀ e s,X.xe e s->False)(F:aW X.prog X.w X.K X.mg X.base (cc X.prog X.w) k f fd ps sp)(hr:Room k X.A)(hg:Gl X x)(hm:X.mg x=some (.ref f))(hk:PySem.W.keepIn X.K (.ref f)=true)(hb:Binds X.K fd ps [])
  (ha:PA X (e::es) t) (hdb:(x == ("__debug__":Str))=false:=by decide) (he:starEach (e::es) X.env=(false,eval e X.env)::starEach es X.env:=by rfl) (hpl:(backTo pos (starEach es X.env)).any (·.1)=false:=by rfl):
  rV X (.Call (.Name x p) (e::es) [] pos) (kQ sp t):=by
 intro pins s σ H Q EX I h
 refine wpAny_Call_Name_kw (cZ I hg hm ?_ hdb)
 refine PySem.W.callWith_K (h₀:=X.base) I.ok.mod.kin hk (wpAny_mono (ha pos pins s σ H _ I h) (fun us s1 ⟨vs,H1,I1,r,q⟩=>⟨I1.kIn,?_⟩) fun e' s' z=>(hno e' s' z).elim) he hpl
 have hl:us.length=ps.length:=by rw[← r.length];exact F.len _ _ _ _ q
 have hbs:=hb s1 us I1.kIn (by rw[List.append_nil];exact hl)
 rw[List.append_nil] at hbs
 refine wpAny_call (codeAny_mono (F.run X.A X.stack s1 H1 ⟨us,[]⟩ us vs Q (fun cls _ H'=>EX cls σ H') hr I1.env0 hbs r q) fun res s' hq=>?_)
 cases res with
 |error e'=>
  obtain⟨H',B,ea,cls,a0,rfl,fl,hE⟩:=hq
  exact⟨σ,H1,s1,H',B,ea,cls,a0,rfl,I1,fl,hE⟩
 |ok fl=>
  cases fl with
  |ret u=>exact I1.after hq
  |next=>exact False.elim hq
  |brk=>exact False.elim hq
  |cont=>exact False.elim hq
theorem mP {i:Nat}{y:Str}{te:q_}{pos':Pos}(hN:X.N.Nodup)(hi:X.N[i]? =some y) (hy:pS X.env.scope y) (he:rV X e te) (hs:swapsWith e (some (.Name y pos')) pos.line X.env=pure false:=by rfl) (hf:X.fn y=true\/X.env.scope.names.lookup y=some .local:=by first|exact .inl rfl|exact .inr rfl|assumption):
  sm X [.Assign [.Name y pos'] e pos] (qN i te):=by
 intro pins s σ H D EX I h
 refine wpAny_execs_cons (wpAny_Assign_Name (wpAny_mono (he pins s σ H _ EX I h) (fun v s1 ⟨z,H1,I1,r1,q1⟩=>?_) fun _ _ z=>z) hs)
 exact cY I1 hN hi hy r1 (fun s2 I2=>wpAny_execs_nil ⟨_,H1,I2,q1⟩) hf
end
abbrev Cx.inExc (X:Cx)(ea:Addr)(E:Value->Shared->Prop):Cx:={X with A:=X.A.mark (some (.ref ea)),calm:=false,xe:=E}
section
variable {X:Cx}{pins:List (Addr×Obj)}{σ:St}{H:Hp}{s:Shared}{ea:Addr}{E:Value->Shared->Prop}
theorem Inv.inExc (I:Inv X pins σ H s)(ea:Addr)(E:Value->Shared->Prop):Inv (X.inExc ea E) pins σ H s:=
 ⟨⟨I.ok.mod,I.ok.kind,I.ok.glob,I.ok.blt,I.ok.above,I.ok.inj,I.ok.has,I.ok.cab,(fun z=>(Bool.false_ne_true z).elim),I.ok.frames,I.ok.stk,I.ok.exf,I.ok.bs,I.ok.bsz,I.ok.noex,I.ok.exfs,I.ok.funs,I.ok.frf⟩,I.os,I.bare,I.base,I.loc,I.cell,I.free,I.freeC,I.pin,I.hok,I.len⟩
theorem Inv.outExc (hd:X.A.handled=none)(I:Inv (X.inExc ea E) pins σ H s):Inv X pins σ H s:=
 ⟨⟨I.ok.mod,I.ok.kind,I.ok.glob,I.ok.blt,I.ok.above,I.ok.inj,I.ok.has,I.ok.cab,fun _=>hd,I.ok.frames,I.ok.stk,I.ok.exf,I.ok.bs,I.ok.bsz,I.ok.noex,I.ok.exfs,I.ok.funs,I.ok.frf⟩,I.os,I.bare,I.base,I.loc,I.cell,I.free,I.freeC,I.pin,I.hok,I.len⟩
theorem dW {M:Model}{A:Around}{i:Nat}{n:Str}{pos:Pos}{Q:Unit->Shared->Prop}(I:Inv X pins σ H s)(hN:X.N.Nodup)(hi:X.N[i]? =some n) (hk:X.env.scope.names.lookup n=some .local)
  (h:∀ s',Inv X pins (σ.set i none) H s'->Q () s'):wpAny M A (do bindName X.env n .none;unbindBehindTheSuite X.env n pos) Q E s:=by
 obtain⟨m,hn,hl⟩:=id I.loc
 have hiσ:i < σ.length:=by rw[I.len];exact (List.getElem?_eq_some_iff.mp hi).1
 have hcls:(X.env.scope.kind == .class || (X.env.scope.kind == .module&&X.env.locals != X.env.globals))=false:=by rw[I.ok.kind];rfl
 obtain⟨oL,_,_,hoL,_⟩:=id hn
 refine wpAny_nameGoes_keeps hk hn hcls fun h' v hn' hs=>?_
 have nL:∀ b o,X.s₀.heap.get? b=some o->b≠X.env.locals:=fun b o e=>Nat.ne_of_lt (Nat.lt_of_lt_of_le (Heap.lt_size e) I.ok.above)
 refine h _ ⟨I.ok,I.os,I.bare,⟨fun b o e n hb hx=>(hs.2 b (nL b o e)).trans (I.base.keep b o e n hb hx),fun b o e n hb hx=>?_,I.base.free,fun b o e hx=>?_,I.base.tups,I.base.frzs,I.base.tbls⟩,⟨_,hn',fun j y v' e1 e2 e3=>?_⟩,fun y c e=>?_,I.free,I.freeC,fun p hp=>?_,fun b ob e=>?_,by simpa using I.len⟩
 ·obtain⟨sl,e1⟩:=I.base.slot b o e n hb hx
  exact⟨sl,(hs.2 b (nL b o e)).trans e1⟩
 ·obtain⟨o',e1⟩:=I.base.there b o e hx
  exact⟨o',(hs.2 b (nL b o e)).trans e1⟩
 ·by_cases hj:j=i
  ·subst hj
   rw[List.getElem?_set_self hiσ] at e2
   cases e2
  ·rw[List.getElem?_set_ne (Ne.symm hj)] at e2
   obtain⟨u',r',q⟩:=hl j y v' e1 e2 e3
   refine⟨u',r',?_⟩
   rcases q with⟨kk,e⟩|⟨kk,c,e,z⟩
   ·refine .inl ⟨kk,?_⟩
    have:y≠n:=fun e=>hj (d0 hN e1 (e▸hi))
    simp [this,e]
   ·exact .inr ⟨kk,c,e,z.sameBut hs (I.cne y c e)⟩
 ·obtain⟨w',z⟩:=I.cell y c e
  exact⟨w',z.sameBut hs (I.cne y c e)⟩
 ·obtain⟨e,n,ne,nf,d⟩:=I.pin p hp
  exact⟨(hs.2 p.1 ne).trans e,n,ne,nf,d⟩
 ·refine (I.hok b ob e).stay (fun c w' hc q=>(hs.2 c ?_).trans q) (fun _ q=>q) fun _ _ q=>q
  rintro rfl
  rcases hc with rfl|hc
  ·rw[I.free] at e;cases e
  ·rw[I.free] at hc;cases hc
end
section
variable {P:Program}{w:World}{outer:List Env}{H H':Hp}{s s':Shared}{B h':Heap}{ea C:Addr}{a0:Value}
theorem Flies.away (f:Flies P w outer H s H' B ea (.ref C) a0 s'){b:Addr}{o:Obj}(e:s.heap.get? b=some o):b≠ea:=by
 rintro rfl
 by_cases hb:b∈cm outer
 ·obtain⟨_,o1,e2,nf⟩:=f.fly.2.2.1.mem (b:=b) hb
  obtain⟨oe,vs,e3,_,hd,_⟩:=f.fly.first
  rw[e2] at e3
  cases e3
  exact nf vs hd
 ·obtain⟨o',q⟩:=f.thr b o e hb
  rw[f.fly.2.1] at q
  cases q
theorem Flies.fresh (f:Flies P w outer H s H' B ea (.ref C) a0 s'):H' ea=none:=by
 cases q:H' ea with
 |none=>rfl
 |some u=>
  have hx:=f.hok ea u q
  have:∃ o,B.get? ea=some o:=ObjOk.some hx
  obtain⟨o,e⟩:=this
  rw[f.fly.2.1] at e
  cases e
theorem Flies.unX (f:Flies P w outer H s H' B ea (.ref C) a0 s')(st:B.StaysIn h')(up:s'.heap.UpToSlots h')(frf:∀ b∈cm outer,H b=none):Un (cm outer) [] H (upd H' ea (fW ea C)) s.heap h':=by
 have u:=f.un st up frf
 have fr:=f.fresh
 refine⟨u.keep,u.slot,fun b o e n hx=>?_,u.there,fun b xs e=>?_,fun b o v e=>?_,fun b ps e=>?_⟩
 ·rw[ay (f.away e)]
  exact u.free b o e n hx
 ·have z:=u.tups b xs e
  rw[ay (av z fr)]
  exact z
 ·have z:=u.frzs b o v e
  rw[ay (av z fr)]
  exact z
 ·obtain⟨more,z⟩:=u.tbls b ps e
  exact⟨more,by rw[ay (av z fr)];exact z⟩
theorem Flies.hokX (f:Flies P w outer H s H' B ea (.ref C) a0 s')(fl:Heap.FlyingW B outer ea (.ref C) a0 h'):HOk P w (upd H' ea (fW ea C)) h':=fun b u q=>by
 have fr:=f.fresh
 by_cases hb:b=ea
 ·subst hb
  rw[ad] at q
  cases q
  obtain⟨oe,vs,e1,e2,e3,_⟩:=fl.first
  exact⟨⟨oe,vs,e1,e2,e3⟩,⟨oe,e1⟩,fun h1 h2 ⟨o,vs,z1,z2,z3⟩ k=>⟨o,vs,k o z1,z2,z3⟩⟩
 ·rw[ay hb] at q
  exact (f.hok b u q).stay (fun c v _ z=>fl.1 c v z) (fun c z=>by rw[ay (av z fr)];exact z) fun c xs z=>by rw[ay (av z fr)];exact z
end
def rW (C:Addr)(i:Nat)(tb:rc)(ts:TS):TS:=fun D σ H=>
 tb (fun cls σ1 H'=>cls=.ref C/\∀ ea,H' ea=none->ts {nx:=fun σ2 H2=>D.nx (σ2.set i none) H2,rt:=D.rt,bk:=fun σ2 H2=>D.bk (σ2.set i none) H2,ct:=fun σ2 H2=>D.ct (σ2.set i none) H2} (σ1.set i (some (.ref ea))) (upd H' ea (fW ea C))) D σ H
section
variable {X:Cx}
theorem o8 {body:List Stmt}{x n:Str}{C:Addr}{newId:String}{bmB:List Value}{b₀:Stmt}{suite:List Stmt}{np hpos pos:Pos}{i:Nat}{tb:rc}{ts:TS}(hN:X.N.Nodup)(hi:X.N[i]? =some n) (hk:X.env.scope.names.lookup n=some .local)
  (hst:X.stack=X.env::X.outer) (hfr:X.env.frame=some X.env.locals) (hcalm:X.calm=true) (q:PySem.W.excIn X.K C bmB newId=true) (hbase:bmB.contains (.type "BaseException")=true) (hm:X.mg x=some (.ref C)) (hg:Gl X x)
  (hb:sm X body tb) (hs:∀ ea E,PSs (X.inExc ea E) (b₀::suite) ts) (hd:(x == ("__debug__":Str))=false:=by decide) (hf:X.fn n=true\/X.env.scope.names.lookup n=some .local:=by first|exact .inl rfl|exact .inr rfl|assumption):
  PS X (.Try body [.ExceptHandler (some (.Name x np)) (some n) (b₀::suite) hpos] [] [] pos) (rW C i tb ts):=by
 intro pins s σ H D I h
 refine wpAny_Try_except (wpAny_mono (hb pins s σ H D _ I h) (fun fl s1 q1=>?_) fun e s1 q1=>?_)
 ·cases fl with
  |next=>exact wpAny_execs_nil q1
  |ret v=>exact q1
  |brk=>exact q1
  |cont=>exact q1
 obtain⟨σ1,H1,s0,H',B,ea,cls,a0,rfl,I1,fl,rfl,kk⟩:=q1
 have hA:X.A.frames=some (X.env::X.outer):=by rw[← hst];exact I1.ok.frames
 have fly:Heap.FlyingW B (X.env::X.outer) ea (.ref C) a0 s1.heap:=by rw[← hst];exact fl.fly
 refine wpAny_looks_onW hA hfr fly fun h4 held up4=>?_
 refine wpAny_landsW held fun h5 fly5 up5=>?_
 have up15:=up4.trans up5
 have I5:Inv X pins σ1 H' {s1 with heap:=h5}:=I1.call' (s':={s1 with heap:=h5}) fl.os (fl.un fly5.1 up15 I1.stkFree) (fl.hok.kept fly5.1) fl.bare fun b z=>nomatch z
 obtain⟨ob,hob,hobc⟩:=fly5.there
 obtain⟨bm,N',nm,q',bs,hdct,sn,sub,ab,col,dd,k0,k1,k2,k3,k5,mN,c1,c2,c3,c4⟩:=iV I5.kIn q
 refine wpAny_handleBy_cons (codeAny_handlers_test (cZ (I5.inExc ea (fun _ _=>False)) hg hm ?_ hd)) (by intro z;cases z)
 refine wpAny_excMatches_sub_self c1 hob hobc (c4.hasType hbase) (codeAny_handlers_suite_as ?_)
 refine lands_againW fly5 fun h6 fly6 up6=>?_
 have up16:=up15.trans up6
 have fly6':Heap.FlyingW B X.stack ea (.ref C) a0 h6:=by rw[hst];exact fly6
 have I6:Inv X pins σ1 (upd H' ea (fW ea C)) {s1 with heap:=h6}:=I1.call' (s':={s1 with heap:=h6}) fl.os (fl.unX fly6.1 up16 I1.stkFree) (fl.hokX fly6') fl.bare fun b z=>nomatch z
 refine cY (i:=i) (v:=.ref ea) I6 hN hi (.inl hk) rfl (fun s7 I7=>?_) hf
 refine wpAny_mono (hs ea _ pins s7 _ _ _ (I7.inExc ea _) (kk ea fl.fresh)) (fun f s8 q8=>?_) fun _ _ z=>z
 have hd0:X.A.handled=none:=I.ok.hd hcalm
 cases f with
 |next=>
  obtain⟨σ8,H8,I8,z8⟩:=q8
  exact dW (I8.outExc hd0) hN hi hk fun s9 I9=>⟨_,H8,I9,z8⟩
 |brk=>
  obtain⟨σ8,H8,I8,z8⟩:=q8
  exact dW (I8.outExc hd0) hN hi hk fun s9 I9=>⟨_,H8,I9,z8⟩
 |cont=>
  obtain⟨σ8,H8,I8,z8⟩:=q8
  exact dW (I8.outExc hd0) hN hi hk fun s9 I9=>⟨_,H8,I9,z8⟩
 |ret u=>
  obtain⟨v,σ8,H8,I8,r8,z8⟩:=q8
  exact dW (I8.outExc hd0) hN hi hk fun s9 I9=>⟨v,_,H8,I9,r8,z8⟩
end
end L2
namespace L2
open PySem PySem.Spec PyProof.Rows
structure nI (P:Program)(w:World)(K:PySem.W.Frag)(mg:Str->Option Value)(base:Heap)(k:Nat)(x:Str)(f:Addr)(fd:FuncData)(ps:List Str)(sp:Sp):Prop where
 ok:aW P w K mg base (cc P w) k f fd ps sp
 b:Binds K fd ps []
 kp:PySem.W.keepIn K (.ref f)=true
 at_:mg x=some (.ref f)
section
variable {X:Cx}{j k:Nat}{f:Addr}{fd:FuncData}{ps:List Str}{sp:Sp}{x:Str}{p pos:Pos}{e:Expr}{es:List Expr}{t:TA}
theorem o9 (G:nI X.prog X.w X.K X.mg X.base j x f fd ps sp)(hno:∀ e s,X.xe e s->False)(hr:Room k X.A)(hjk:j<=k)(hg:Gl X x)(ha:PA X (e::es) t)(hdb:(x == ("__debug__":Str))=false:=by decide)
  (he:starEach (e::es) X.env=(false,eval e X.env)::starEach es X.env:=by rfl) (hpl:(backTo pos (starEach es X.env)).any (·.1)=false:=by rfl):rV X (.Call (.Name x p) (e::es) [] pos) (kQ sp t):=
 kR hno G.ok (hr.mono hjk) hg G.at_ G.kp G.b ha hdb he hpl
end
section
variable {P:Program}{w:World}{K:PySem.W.Frag}{mg:Str->Option Value}{base:Heap}{N:List Str}{qual:Str}{scope:Scope}{f:Addr}{cd:Value}{A:Around}{outer:List Env}{s:Shared}{H:Hp}{E:XK}
theorem o_ {j k:Nat}{f':Addr}{fd:FuncData}{ps:List Str}{sp:Sp}{x:Str}{p pos:Pos}{e:Expr}{es:List Expr}{t:TA}(G:nI P w K mg base j x f' fd ps sp)(hr:Room k (bf (cc P w) P w K mg base N qual scope f cd A outer s H E).A)(hjk:j<=k)
  (hg:Gl (bf (cc P w) P w K mg base N qual scope f cd A outer s H E) x) (ha:PA (bf (cc P w) P w K mg base N qual scope f cd A outer s H E) (e::es) t) (hdb:(x == ("__debug__":Str))=false:=by decide)
  (he:starEach (e::es) (bf (cc P w) P w K mg base N qual scope f cd A outer s H E).env=(false,eval e (bf (cc P w) P w K mg base N qual scope f cd A outer s H E).env)::starEach es (bf (cc P w) P w K mg base N qual scope f cd A outer s H E).env:=by rfl)
  (hpl:(backTo pos (starEach es (bf (cc P w) P w K mg base N qual scope f cd A outer s H E).env)).any (·.1)=false:=by rfl):
  PE (bf (cc P w) P w K mg base N qual scope f cd A outer s H E) (.Call (.Name x p) (e::es) [] pos) (gp sp [] E t):=
 fQ G.ok (hr.mono hjk) hg G.at_ G.kp G.b .nil qL ha hdb he hpl
end
structure cL (K:PySem.W.Frag)(C:Addr):Prop where
 cls:∃ cd,PySem.W.clsIn K C=some cd
 ga:PySem.W.findIn K (.ref C) "__getattribute__"=some (some (.builtin "BaseException.__getattribute__"))
 gt:PySem.W.findIn K (.ref C) "__getattr__"=some none
 at_:PySem.W.findIn K (.ref C) "__class__"=some (some (.builtin "object.__class__"))
 ob:PySem.W.mroIn K C (.type "object")=some true
 be:PySem.W.mroIn K C (.type "BaseException")=some true
section
variable {prog:Program}{w:World}{A:Around}{E:Value->Shared->Prop}{h:Heap}{g:Array GenState}{d:Drawn}{t:Nat}{os:OsState}{a C:Addr}{o:Obj}{vs:Array Value}{K:PySem.W.Frag}
theorem kT {M:Model}(hx:h.get? a=some o)(hc:o.cls=.ref C):PySem.W.Looks M h (typeOf (.ref a)) (.ref C):=by
 rw[← hc]
 exact (PySem.W.Looks.ld hx).andThen .now
theorem hZ {R:Result->Shared->Prop}(X:K.In h)(T:cL K C)(hx:h.get? a=some o)(hc:o.cls=.ref C)(hq:R (.ok (.ret (.ref C))) ⟨h,g,d,t,os⟩):
  codeAny (model prog w) A (.call (.builtin "getset_descriptor.__get__") ⟨[.builtin "object.__class__",.ref a,.ref C],[]⟩) R ⟨h,g,d,t,os⟩:=by
 have hT5:(⟨h,g,d,t,os⟩:Shared).TypeIs (.builtin "object.__class__") "getset_descriptor":=F.typeOf_object_class
 have L1:=PySem.W.looks_mroIn (M:=model prog w) X T.ob
 refine codeAny_call_builtin F.slot_gs_get.plain F.entry_gs_get (F.slot_gs_get.check _ _ _ _ _ _ _ _ hT5 (F.args_gs_get _ _ _) ?_)
 repeat (any_goals (first|assumption|(with_reducible refine wpAny_loadPart_at hx ?_;rw[hc])|(rw[F.owner_object_class];with_reducible refine L1.at ?_)|wp_step))
 refine⟨Code.quiet_builtin _ (by decide+kernel),codeAny_builtin F.entry_object_class ?_⟩
 repeat (any_goals (first|assumption|(with_reducible refine wpAny_loadPart_at hx ?_;rw[hc])|wp_step))
theorem fX {tk:Tok}{Q:Fin->Shared->Prop}(X:K.In h)(T:cL K C)(hx:h.get? a=some o)(hc:o.cls=.ref C)(hq:Q (.done (.ret (.ref C))) ⟨h,g,d,t,os⟩):
  wpAny (model prog w) A (Builtin.«object.__getattribute__» ⟨[.ref a,.str "__class__" tk],[]⟩) Q E ⟨h,g,d,t,os⟩:=by
 have hT5:(⟨h,g,d,t,os⟩:Shared).TypeIs (.builtin "object.__class__") "getset_descriptor":=F.typeOf_object_class
 have f5:=F.typeOf_object_class
 have f6:=F.slot_gs_get.lookup
 have f7:=F.slot_gs_set.lookup
 have L1:=PySem.W.looks_findIn (M:=model prog w) X T.at_
 repeat (any_goals (first|assumption|(with_reducible refine wpAny_loadPart_at hx ?_;rw[hc])|with_reducible refine L1.at ?_|wp_step))
 refine hZ X T hx hc ?_
 repeat (any_goals (first|assumption|wp_step))
theorem jO {M:Model}{nameV:Value}{Q:Unit->Shared->Prop}(X:K.In h)(T:cL K C)(hx:h.get? a=some o)(hc:o.cls=.ref C)(hq:Q () ⟨h,g,d,t,os⟩):
  wpAny M A (checkBuiltinCall "BaseException.__getattribute__" ⟨[.ref a,nameV],[]⟩) Q E ⟨h,g,d,t,os⟩:=by
 have f1:builtinKind "BaseException.__getattribute__"=some .slot:=by decide+kernel
 have f2:splitId "BaseException.__getattribute__"=some ("BaseException","__getattribute__"):=by decide+kernel
 have f3:=F.args_bexc_ga (.ref a) nameV
 have L1:=PySem.W.looks_mroIn (M:=M) X T.be
 simp only [checkBuiltinCall,f1,f2]
 refine wpAny_bind ?_
 unfold isInstance
 repeat (first|(with_reducible refine wpAny_loadPart_at hx ?_;rw[hc])|with_reducible refine L1.at ?_|wp_step)
 exact hq
theorem jP {tk:Tok}{Q:Value->Shared->Prop}(X:K.In h)(T:cL K C)(hx:h.get? a=some o)(hc:o.cls=.ref C)(hq:Q (.ref C) ⟨h,g,d,t,os⟩):
  wpAny (model prog w) A (getAttrBy (.ref a) (.str "__class__" tk) false) Q E ⟨h,g,d,t,os⟩:=by
 have f3:=PySem.F.attr_ValueError.ga.bind (.ref a)
 have hx2:(Value.builtin "BaseException.__getattribute__" == Value.builtin "object.__getattribute__")=false:=by decide+kernel
 have hx1:(onTheHeap (Value.ref C)&&Value.builtin "BaseException.__getattribute__" == Value.builtin "object.__getattribute__")=false:=by rw[hx2];rfl
 have L1:=PySem.W.looks_findIn (M:=model prog w) X T.ga
 have L2:=PySem.W.looks_findIn (M:=model prog w) X T.gt
 repeat (any_goals (first|assumption|(with_reducible refine wpAny_loadPart_at hx ?_;rw[hc])|with_reducible refine L1.at ?_|with_reducible refine L2.at ?_|wp_step))
 refine codeAny_call_builtin PySem.F.attr_ValueError.ga.plain F.entry_bexc_ga (jO X T hx hc (fX X T hx hc ?_))
 repeat (any_goals (first|assumption|wp_step))
theorem gG {Q:Option Value->Shared->Prop}(X:K.In h)(T:cL K C)(hx:h.get? a=some o)(hc:o.cls=.ref C)(hq:Q (some (.ref C)) ⟨h,g,d,t+1,os⟩):
  wpAny (model prog w) A (getAttr? (.ref a) "__class__") Q E ⟨h,g,d,t,os⟩:=by
 unfold getAttr? getAttrBy?
 repeat (any_goals (first|assumption|with_reducible apply jP X T hx hc|wp_step))
theorem kU (T:cL K C):PySem.W.KitX K (.ref a) (.ref C) (fun h=>∃ o,h.get? a=some o/\o.cls=.ref C) where
 ty:=fun M h _ ⟨o,h1,h2⟩=>kT h1 h2
 it:=fun _ _ X _=>by
  obtain⟨_,q⟩:=T.cls
  unfold PySem.W.clsIn at q
  split at q
  ·rename_i ho
   intro A' Q' E' s' k z
   unfold isType loadHead
   exact wpAny_bind (wpAny_loadPart (k _ _ (X _ _ ho)) (wpAny_pure z))
  ·cases q
 ne:=fun h tp dd its n sl X htp=>by
  refine Bool.eq_false_iff.mpr fun z=>?_
  have e:C=tp:=Value.ref.inj (beq_iff_eq.mp z)
  subst e
  obtain⟨_,q⟩:=T.cls
  unfold PySem.W.clsIn at q
  split at q
  ·rename_i ho
   have y:=(X _ _ ho).symm.trans htp
   cases y
  ·cases q
 ca:=fun {_ _ _ _ _ s} X ⟨o,h1,h2⟩ k=>by
  obtain⟨hh,g,d,t,os⟩:=s
  exact gG X T h1 h2 k
end
def rX (K:PySem.W.Frag):List V->Hp->VK->Prop:=fun xs H Q=>∃ (ea C:Addr) (cv:V) (c:Value) (b:Bool),xs=[.ref ea,cv]/\(match cv with|.ref a=>c=.ref a|.ty n=>c=.type n|_=>False)/\H ea=some (fW ea C)/\cL K C/\PySem.W.kitOne K (.ref C) c=some b/\Q (.bl b) H
section
variable {X:Cx}
theorem aM:bN X (.builtin "isinstance") (rX X.K):=by
 intro pins s σ H xs us Q I r h
 obtain⟨ea,C,cv,c,b,rfl,hc,he,T,e,q⟩:=h
 obtain⟨u,w',rfl,rx,ry⟩:=iK r
 cases (show u=Value.ref ea from rx)
 have hw:w'=c:=by
  cases cv with
  |ref a=>exact (show w'=Value.ref a from ry).trans (show c=Value.ref a from hc).symm
  |ty n=>exact (show w'=Value.type n from ry).trans (show c=Value.type n from hc).symm
  |_=>exact hc.elim
 subst hw
 obtain⟨⟨o,vs,h1,h2,_⟩,_⟩:=(show ObjOk X.prog X.w H s.heap ea (fW ea C) from I.hok ea _ he)
 exact PySem.W.kia_one (kU T) I.kIn ⟨o,h1,h2⟩ e (fun z=>nomatch z) fun tk=>⟨.bl b,H,I.tok _,rfl,q⟩
end
theorem kW (K:PySem.W.Frag)(C:Addr):PySem.W.kitOne K (.ref C) (.ref C)=some true:=by
 unfold PySem.W.kitOne
 rw[if_pos (by simp)]
end L2
namespace OD
open PySem L2
end OD
namespace Srt
open PySem PySem.W PyProof.Rows
section
variable (key:Nat->Int)
variable {key}
end
end Srt
namespace Srt
open PySem PySem.W PyProof.Rows
end Srt
namespace Srt
open PySem PySem.W PySem.Spec PyProof.Rows
section
variable {prog:Program}{w:World}{A:Around}{E:Value->Shared->Prop}{s:Shared}
end
end Srt
namespace L2
open PySem PySem.Spec PyProof.Rows
section
variable {X:Cx}
end
end L2
namespace L2
open PySem PySem.Spec PyProof.Rows
section
variable {X:Cx}
def kX:V->Option Int->Option Int->Hp->VK->Prop:=fun x lo hi H Q=>∃ t,x=.str t/\t.length<=sizeLine/\Q (.str (Txt.slice t lo hi)) H
theorem bB:qm X kX:=by
 intro pins s σ H x v vl vu lo hi sl Q I rx hs pl pu h
 obtain⟨t,rfl,hz,q⟩:=h
 obtain⟨k,rfl⟩:=rx
 refine⟨"str",_,F.slot_str_getitem.lookup,typeIs_str _ _ _,?_⟩
 have key:∀ (t':Tok) (n:Nat),EP X pins σ Q (.str (Txt.slice t lo hi) t') {s with toks:=n}:=fun t' n=>⟨.str _,H,I.tok _,⟨_,rfl⟩,q⟩
 have hz2:=Nat.le_trans (Txt.slice_le t lo hi) hz
 cases pl with
 |none=>
  cases pu with
  |none=>exact wpAny_getItem_str_slice (l:=none) (u:=none) (st:=none) hs rfl (post_val_or_str ⟨hz2,key⟩)
  |int j uj=>exact wpAny_getItem_str_slice (l:=none) (u:=some (j,uj)) (st:=none) hs rfl (post_val_or_str ⟨hz2,key⟩)
 |int i ui=>
  cases pu with
  |none=>exact wpAny_getItem_str_slice (l:=some (i,ui)) (u:=none) (st:=none) hs rfl (post_val_or_str ⟨hz2,key⟩)
  |int j uj=>exact wpAny_getItem_str_slice (l:=some (i,ui)) (u:=some (j,uj)) (st:=none) hs rfl (post_val_or_str ⟨hz2,key⟩)
end
theorem kY {x:Str}{j:Int}(h0:0<=j)(h2:j<=x.length):Txt.slice x none (some j)=⟨(x.cps.toList.take j.toNat).toArray⟩:=by
 have z:=slice_closes_toL (x:=x) h0 h2
 rw[eq_of_beq z]
 simp
theorem h8 {x:Str}{i:Int}(h0:0<=i)(h2:i<=x.length):Txt.slice x (some i) none=⟨(x.cps.toList.drop i.toNat).toArray⟩:=by
 have z:=slice_closes_fromL (x:=x) h0 h2 rfl
 rw[eq_of_beq z]
 congr 2
 refine List.take_of_length_le ?_
 rw[List.length_drop,Array.length_toList]
 have:x.cps.size=x.length:=rfl
 omega
end L2
namespace OD
open PySem L2
end OD
namespace L2
open PySem PySem.Spec PyProof.Rows
def pb (x:Str):It:=⟨fun i _=>i < x.cps.size,fun i H v H'=>H'=H/\∃ c,x.cps[i]? =some c/\v=.str ⟨#[c]⟩,fun i _=>x.cps.size<=i⟩
theorem kZ {P:Program}{w:World}{K:PySem.W.Frag}{tg:Expr}{ty:String}{x:Str}{t:Tok}(it:Addr)(hty:ty="str_ascii_iterator"\/ty="str_iterator"):ka P w K tg (pb x) [it] it (fun i h=>h.IsStrIter it ty x t i) where
 mem:=by simp
 obj:=fun i h st b hb=>by
  have e:b=it:=by simpa using hb
  subst e
  obtain⟨o,e,c,d⟩:=st
  exact⟨o,e,fun v z=>by rw[d] at z;cases z⟩
 keep:=fun i h h' st k=>by
  obtain⟨o,e,c⟩:=st
  exact⟨o,k it (by simp) o e,c⟩
 item:=by
  intro X hP hw hK hc i pins s σ H E I hf st hg
  subst hP hw hK
  obtain⟨f0,f1,f2,f3,f4,f5⟩:=hf it (by simp)
  have hx:x.cps[i]? =some (x.cps[i]'hg):=Array.getElem?_eq_getElem hg
  have fin:∀ h',h'.IsStrIter it ty x t (i+1)->Heap.SameBut it s.heap h'->∃ u,some (Value.str ⟨#[x.cps[i]'hg]⟩ s.toks)=some u/\
    wpAny (model X.prog X.w) X.A (letOwnedTupleGo tg (.ref it) u) (fun _ s2=>∃ x_1 H',Inv X pins σ H' s2/\RelV x_1 u/\(pb x).yld i H x_1 H'/\s2.heap.IsStrIter it ty x t (i+1)/\∀ b∈[it],H' b=none) E {s with heap:=h',toks:=s.toks+1}:=fun h' st' sb=>by
   have I1:Inv X pins σ H {s with heap:=h',toks:=s.toks+1}:=I.turned (fun b o hb e=>(sb.2 b hb).trans e) f0 f1 f3 f4 f5
   obtain⟨o,e,c,d⟩:=id st'
   refine⟨_,rfl,iG (s:={s with heap:=h',toks:=s.toks+1}) e c d (by rcases hty with rfl|rfl<;>decide) ⟨.str ⟨#[x.cps[i]'hg]⟩,H,I1,⟨_,rfl⟩,⟨rfl,_,hx,rfl⟩,st',fun b hb=>(hf b hb).1⟩⟩
  rcases hty with rfl|rfl
  ·exact wpAny_pyNext_ascii_item st hx fin
  ·exact wpAny_pyNext_wide_item st hx fin
 done:=by
  intro X hP hw hK hc i pins s σ H E I hf st hg
  subst hP hw hK
  obtain⟨f0,f1,f2,f3,f4,f5⟩:=hf it (by simp)
  have hx:x.cps[i]? =none:=Array.getElem?_eq_none hg
  rcases hty with rfl|rfl
  ·exact wpAny_pyNext_ascii_end (I.ok.hd hc) st hx fun h' eb=>⟨rfl,I.turned (t':=s.toks) (fun b o hb e=>eb b o hb e) f0 f1 f3 f4 f5⟩
  ·exact wpAny_pyNext_wide_end (I.ok.hd hc) st hx fun h' eb=>⟨rfl,I.turned (t':=s.toks) (fun b o hb e=>eb b o hb e) f0 f1 f3 f4 f5⟩
 self:=fun A i s Q E st h=>by
  rcases hty with rfl|rfl
  ·exact wpAny_pyIter_striter_ascii st h
  ·exact wpAny_pyIter_striter_wide st h
section
variable {X:Cx}{tg:Expr}
def rY (tl:TE):TI:=fun σ H R=>tl σ H fun v H1=>∃ x,v=.str x/\R (pb x) H1
theorem k_ {l:Expr}{tl:TE}(hl:PE X l tl):PI X tg l (rY tl):=by
 intro pins s σ H R I h
 refine aV (hl pins s σ H _ I h) fun v s1 ⟨x,H1,I1,r1,q1⟩=>?_
 obtain⟨x,rfl,q⟩:=q1
 obtain⟨t,rfl⟩:=r1
 refine wpAny_pyIter_strU ?_
 refine⟨s1.heap.objs.size,[s1.heap.objs.size],_,_,H1,rfl,I1.kept (t':=s1.toks) fun b o e=>Heap.get?_push_of_some _ e,kZ (ty:=strIterType x) (x:=x) (t:=t) _ ?_,⟨_,Heap.get?_push_size _ rfl,rfl,rfl⟩,fun b hb=>?_,q⟩
 ·unfold strIterType
  split
  ·exact .inl rfl
  ·exact .inr rfl
 have e:b=s1.heap.objs.size:=by simpa using hb
 subst e
 exact I1.fpOk (Nat.le_refl _) (I1.hok.fresh (Nat.le_refl _))
theorem la:nE X "str.strip" (fun x vs H Q=>∃ a b:Str,x=.str a/\vs=[.str b]/\a.length<=sizeLine/\Q (.str (Txt.stripChars a b)) H):=by
 intro pins s σ H x vs v us Q I rx rv h
 obtain⟨a,b,rfl,rfl,hz,q⟩:=h
 obtain⟨t,rfl⟩:=rx
 obtain⟨u,rfl,ru⟩:=bG rv
 obtain⟨t2,rfl⟩:=ru
 exact call_gives F.slot_str_strip (typeIs_str s a t) F.entry_str_strip (F.args_str_strip_2 _ _) (gives_str_strip_chars a b t t2) (post_val_or_made (fun _=>fits_stripped _ _ _ hz) fun t' k=>⟨.str _,H,I.tok _,⟨_,rfl⟩,q⟩)
end
end L2
namespace OD
open PySem L2
def ci (most:Int):Int->List PyData->Bool
 |_,[]=>true
 |b,.int i::r=>if b < bb i/\bb i<=most then ci most (bb i) r else false
 |_,_::_=>false
def h9 (most:Int):PyData->Bool
 |.tuple ds=>ci most 0 ds
 |_=>false
theorem jQ {α:Type}{l:List α}{i:Nat}(d:α)(h:i < l.length):l.drop i=l.getD i d::l.drop (i+1):=by
 rw[List.drop_eq_getElem_cons h]
 congr 1
 simp [List.getD,h]
theorem mQ {d:PyData}(h:∀ z,d≠.int z):(eu d&&!fV d)=false:=by
 cases d with
 |int z=>exact absurd rfl (h z)
 |_=>rfl
theorem lb {most b:Int}{d:PyData}{r:List PyData}(h:∀ z,d≠.int z):ci most b (d::r)=false:=by
 cases d with
 |int z=>exact absurd rfl (h z)
 |_=>rfl
theorem dk {most b z:Int}{r:List PyData}:ci most b (.int z::r)=if b < bb z/\bb z<=most then ci most (bb z) r else false:=rfl
theorem pe (d:PyData):(∃ z,d=.int z)\/∀ z,d≠.int z:=by
 cases d with
 |int z=>exact .inl ⟨z,rfl⟩
 |_=>exact .inr (fun z h=>by cases h)
theorem h_ {H:Hp}{z:Int}{v:V}(h:RD H (.int z) v):v=.int z:=by
 unfold RD at h
 exact h
theorem cW {α:Type}{p:α->Bool}:∀ {l:List α},l.all p=true->l.takeWhile p=l
 |[],_=>rfl
 |a::l,h=>by
  rw[List.all_cons,Bool.and_eq_true] at h
  rw[List.takeWhile_cons,if_pos h.1,cW h.2]
theorem cj {α:Type}{p:α->Bool}:∀ {l:List α},l.all p=false->(l.takeWhile p).length < l.length
 |[],h=>nomatch h
 |a::l,h=>by
  rw[List.takeWhile_cons]
  cases ha:p a with
  |false=>
   rw[if_neg Bool.false_ne_true]
   exact Nat.succ_pos _
  |true=>
   rw[List.all_cons,ha,Bool.true_and] at h
   rw[if_pos rfl]
   exact Nat.succ_lt_succ (cj h)
theorem b6 {α:Type}{p:α->Bool}:∀ {l:List α},l.all p=false->(l.drop (l.takeWhile p).length).all p=false
 |[],h=>nomatch h
 |a::l,h=>by
  rw[List.takeWhile_cons]
  cases ha:p a with
  |false=>
   rw[if_neg Bool.false_ne_true]
   exact h
  |true=>
   rw[List.all_cons,ha,Bool.true_and] at h
   rw[if_pos rfl]
   exact b6 h
theorem ia (x y:Str):decide (V.str (Txt.stripChars x y)=V.str (Str.ofString ""))=x.cps.toList.all y.cps.contains:=by
 have hx:x.cps.toList.length=x.length:=Array.length_toList
 have he:∀ z:Str,V.str z=V.str (Str.ofString "")↔z.length=0:=fun z=>by
  constructor
  ·intro e
   rw[V.str.inj e]
   decide+kernel
  ·intro e
   have e1:z.cps=#[]:=Array.eq_empty_of_size_eq_zero e
   have e2:(Str.ofString "").cps=#[]:=by decide+kernel
   have e3:z=Str.ofString "":=by
    cases z with
    |mk c=>
     have e4:Str.ofString ""=⟨(Str.ofString "").cps⟩:=rfl
     rw[e4,e2]
     exact congrArg Str.mk e1
   rw[e3]
 show decide (V.str (Txt.stripBy y.cps.contains true true x)=_)=_
 unfold Txt.stripBy
 rw[Bool.eq_iff_iff,decide_eq_true_iff,he]
 cases g:x.cps.toList.all y.cps.contains with
 |true=>
  have lo:stripLo y.cps.contains true x=x.length:=by
   show (x.cps.toList.takeWhile y.cps.contains).length=_
   rw[cW g,hx]
  have hi:stripHi y.cps.contains true x (stripLo y.cps.contains true x)<=x.length:=Nat.sub_le _ _
  refine⟨fun _=>rfl,fun _=>?_⟩
  split
  ·rename_i hs
   unfold stripSame at hs
   rw[lo,Bool.and_eq_true] at hs
   exact eq_of_beq hs.1
  ·unfold stripped Builtin.Str.strSub
   show (x.cps.extract _ _).size=0
   rw[Array.size_extract,lo]
   have:x.cps.size=x.length:=rfl
   rw[lo] at hi
   omega
 |false=>
  have lo:stripLo y.cps.contains true x < x.length:=by
   rw[← hx]
   exact cj g
  have hi:stripLo y.cps.contains true x < stripHi y.cps.contains true x (stripLo y.cps.contains true x):=by
   show _ < x.length - ((x.cps.toList.drop (stripLo y.cps.contains true x)).reverse.takeWhile y.cps.contains).length
   have z:=b6 g
   have z2:((x.cps.toList.drop (stripLo y.cps.contains true x)).reverse).all y.cps.contains=false:=by
    rw[List.all_reverse]
    exact z
   have z3:=cj z2
   rw[List.length_reverse,List.length_drop,hx] at z3
   omega
  have hi2:stripHi y.cps.contains true x (stripLo y.cps.contains true x)<=x.length:=Nat.sub_le _ _
  refine⟨fun h=>?_,fun h=>nomatch h⟩
  exfalso
  revert h
  split
  ·intro h
   omega
  ·intro h
   have h':(x.cps.extract (stripLo y.cps.contains true x) (stripHi y.cps.contains true x (stripLo y.cps.contains true x))).size=0:=h
   rw[Array.size_extract] at h'
   have:x.cps.size=x.length:=rfl
   omega
section
variable {D:Addr}{tt:TT}{te:TE}{σ0:St}{H1:Hp}{Q:VK}
end
end OD
namespace OD
open PySem L2
theorem gH (ns:List Int):SeqAt.shaped (.list (ns.map .int))=true:=PySem.W.ke_shaped_ints ns
end OD
namespace TB
open PySem PySem.SetTable
end TB
namespace TB
open PySem PySem.SetTable
end TB
namespace TB
open PySem PySem.SetTable
end TB
namespace SW
open PySem PySem.SetTable TB
section
variable {prog:Program}{w:World}{A:Around}{E:Value->Shared->Prop}{s:Shared}
end
end SW
namespace SW
open PySem PySem.SetTable TB
section
variable {prog:Program}{w:World}{A:Around}{E:Value->Shared->Prop}{s:Shared}
end
end SW
namespace SW
open PySem PySem.SetTable TB
namespace Two
variable {α β:Type}{R:α->β->Prop}
end Two
section
variable {prog:Program}{w:World}{A:Around}{E:Value->Shared->Prop}{s:Shared}
end
end SW
namespace SW
open PySem PySem.SetTable TB
section
variable {prog:Program}{w:World}{A:Around}{E:Value->Shared->Prop}{s:Shared}
end
end SW
namespace SW
open PySem PySem.SetTable TB
section
variable {prog:Program}{w:World}{A:Around}{E:Value->Shared->Prop}{s:Shared}
variable {κ:Type}
end
end SW
namespace SW
open PySem PySem.SetTable TB
section
variable {prog:Program}{w:World}{A:Around}{E:Value->Shared->Prop}{κ:Type}
end
end SW
namespace SW
open PySem PySem.SetTable TB
section
variable {prog:Program}{w:World}{A:Around}{E:Value->Shared->Prop}{s:Shared}{κ:Type}
end
end SW
namespace SW
open PySem PySem.SetTable TB
section
variable {prog:Program}{w:World}{A:Around}{E:Value->Shared->Prop}{s:Shared}{κ:Type}
end
end SW
namespace SW
open PySem TB
end SW
namespace L2
open PySem PySem.Spec PyProof.Rows
section
variable {X:Cx}
end
end L2
namespace L2
open PySem PySem.Spec PyProof.Rows
section
variable {X:Cx}
end
end L2
namespace OD
open PySem L2
end OD
namespace L2
open PySem
section
variable {K:PySem.W.Frag}{a b D:Addr}{xs ys:List V}{n:Nat}{g:TG}{tt:TT}{te:TE}{σ0:St}{H1:Hp}{Q:VK}
end
end L2
namespace HT
open PySem PyProof.Rows
section
variable {prog:Program}{w:World}{A:Around}{E:Value->Shared->Prop}{s:Shared}
theorem getItem_tuple_by {t sl:Addr}{items:Array Value}{Q:Value->Shared->Prop}{lo st:Int}{n:Nat}(ht:IsTup s.heap t items)(hTs:s.TypeIs (.ref sl) "slice")
  (hsl:∀ {A:Around} {E:Value->Shared->Prop} (Q':Int×Int×Nat->Shared->Prop),Q' (lo,st,n) s->wpAny (model prog w) A (Builtin.Slice.sliceApplied (.ref sl) (pure (items.size:Int))) Q' E s)
  (h1:(lo == 0&&st == 1&&n == items.size)=true->Q (.ref t) s)
  (h2:(lo == 0&&st == 1&&n == items.size)=false->n<=sizeLine/\Q (.ref s.heap.objs.size) {s with heap:=s.heap.push {cls:=.type "tuple",data:=.seq ((List.range n).filterMap fun (k:Nat)=>items[(lo+(k:Int)*st).toNat]?).toArray}}):
  wpAny (model prog w) A (getItem (.ref t) (.ref sl)) Q E s:=by
 unfold getItem
 try with_reducible refine wpAny_holding ?_
 first|refine wpAny_bind (wpAny_pure ?_)|skip
 refine wpAny_bind (wpAny_sequenceKey ht.typeIs (by decide) ?_);refine wpAny_bind (wpAny_callSpecial?_slot (name:=Str.ofString "__getitem__") ht.typeIs PyProof.Rows.slot_tuple_getitem (wpAny_call_entry PyProof.Rows.slot_tuple_getitem ht.typeIs entry_tuple_getitem ?_ (args_tuple_getitem _ _)))
 refine wpAny_bind (m:=Builtin.Tuple.tupleItemsOf (.ref t)) (tupleItemsOf_ ht ?_)
 refine wpAny_bind (wpAny_typeOf hTs ?_);rw[if_pos (by decide)]
 refine wpAny_bind (hsl _ ?_)
 show wpAny _ _ (if (lo == 0&&st == 1&&n == items.size)=true then _ else _) _ _ s
 cases c:(lo == 0&&st == 1&&n == items.size) with
 |true=>
  rw[if_pos rfl]
  refine wpAny_bind (wpAny_bind (wpAny_typeOf ht.typeIs (wpAny_pure ?_)))
  rw[if_pos (by decide)]
  exact wpAny_bind (wpAny_rule (wpAny_pure ⟨_,rfl,wpAny_pure (h1 c)⟩))
 |false=>
  obtain⟨hz,hq⟩:=h2 c
  rw[if_neg (by decide)]
  have hzz:sizeOk (.seq ((List.range n).filterMap fun (k:Nat)=>items[(lo+(k:Int)*st).toNat]?).toArray):=by
   show ((List.range n).filterMap fun (k:Nat)=>items[(lo+(k:Int)*st).toNat]?).toArray.size<=sizeLine
   rw[List.size_toArray]
   exact Nat.le_trans (List.length_filterMap_le _ _) (by rw[List.length_range];exact hz)
  first
   |exact wpAny_bind (m:=Builtin.Tuple.tupleExact _) (wpAny_newObj_type (wpAny_pure ⟨_,rfl,wpAny_pure hq⟩) hzz)
   |exact wpAny_bind (m:=Builtin.Tuple.tupleExact _) (wpAny_newObj_type (wpAny_bind (wpAny_pure (wpAny_pure ⟨_,rfl,wpAny_pure hq⟩))) hzz)
   |exact wpAny_bind (wpAny_bind (m:=Builtin.Tuple.tupleExact _) (wpAny_newObj_type (wpAny_pure (wpAny_pure ⟨_,rfl,wpAny_pure hq⟩)) hzz))
end
end HT
namespace L2
open PySem PySem.Spec PyProof.Rows
section
variable {X:Cx}
def qO (K:PySem.W.Frag):R2:=fun x y H Q=>∃ a b xs ys,x=.ref a/\y=.ref b/\SqT K H a xs/\SqT K H b ys/\xs.length+ys.length<=sizeLine/\
 (xs=[]->Q (.ref b) H)/\(xs≠[]->ys=[]->Q (.ref a) H)/\(xs≠[]->ys≠[]->∀ p,H p=none->Q (.ref p) (upd H p (.tup (xs++ys))))
theorem mR:OpR X (binaryOp .Add) (qO X.K):=by
 intro pins s σ H x y v u Q I rx ry h
 obtain⟨a,b,xs,ys,rfl,rfl,ha,hb,hz,q1,q2,q3⟩:=h
 by_cases hx:xs=[]
 ·cases rx
  cases ry
  obtain⟨its,r1,p1,_⟩:=I.tuple ha
  obtain⟨its2,r2,p2,_⟩:=I.tuple hb
  have hw:=r1.nil_iff.mpr hx
  obtain⟨⟨cls,dd,data,sl⟩,ho,hc,n,hd⟩:=id p1
  obtain⟨⟨cls2,dd2,data2,sl2⟩,ho2,hc2,n2,hd2⟩:=id p2
  simp only at hc hd hc2 hd2
  subst hc hd hc2 hd2
  exact concat_meets ⟨_,ho,rfl⟩ ⟨_,ho2,rfl⟩ noFill_tuple_add seq_tuple_add PySem.F.slot_tuple_add PySem.F.entry_tuple_add (PySem.F.args_tuple_add_2 _ _) (tuple_addW0 a b its.toArray its2.toArray n n2 dd dd2 sl sl2 (by simp [hw])) ⟨ho,ho2,.ref b,H,I,rfl,q1 hx⟩
 ·exact mD pins s σ H _ _ v u Q I rx ry ⟨a,b,xs,ys,rfl,rfl,ha,hb,hx,hz,fun z=>q2 hx z,fun z=>q3 hx z⟩
def qP (K:PySem.W.Frag):V->Option Int->Option Int->Hp->VK->Prop:=fun x lo hi H Q=>∃ a xs,x=.ref a/\SqT K H a xs/\
 ((HT.sIx xs.length 0 lo=0/\HT.sIx xs.length xs.length hi=xs.length)->Q (.ref a) H)/\(¬ (HT.sIx xs.length 0 lo=0/\HT.sIx xs.length xs.length hi=xs.length)->∀ p,H p=none->Q (.ref p) (upd H p (.tup (cQ xs lo hi))))
theorem iW:qm X (qP X.K):=by
 intro pins s σ H x v vl vu lo hi sl Q I rx hs pl pu h
 obtain⟨a,xs,rfl,hx,q1,q2⟩:=h
 by_cases hw:HT.sIx xs.length 0 lo=0/\HT.sIx xs.length xs.length hi=xs.length
 ·cases rx
  obtain⟨its,r,ht,hz⟩:=I.tuple hx
  have hlen:its.toArray.size=xs.length:=by rw[List.size_toArray];exact r.length.symm
  refine⟨"tuple",_,PyProof.Rows.slot_tuple_getitem.lookup,ht.typeIs,?_⟩
  obtain⟨os,hos,hcs,_⟩:=id hs
  have e:(((HT.sIx its.toArray.size 0 lo:Nat):Int) == 0&&(1:Int) == 1&&(HT.sIx its.toArray.size its.toArray.size hi - HT.sIx its.toArray.size 0 lo) == its.toArray.size)=true:=by
   rw[hlen,hw.1,hw.2]
   simp
  refine HT.getItem_tuple_by ht ⟨os,hos,hcs⟩ (fun Q' hq=>HT.sliceApplied_gen hs pl pu hq) (fun _=>⟨.ref a,H,I,rfl,q1 hw⟩) fun c=>?_
  rw[e] at c
  cases c
 ·exact oH pins s σ H _ v vl vu lo hi sl Q I rx hs pl pu ⟨a,xs,rfl,hx,hw,q2 hw⟩
end
end L2
namespace L2
open PySem
theorem jR {e:Expr}{es:List Expr}{env:Env}(h:∀ v p,e≠.Starred v p):starEach (e::es) env=(false,eval e env)::starEach es env:=by
 cases e<;>first|rfl|exact absurd rfl (h _ _)
@[irreducible] def PEi (X:Cx) (e:Expr) (t:TE):Prop:=PE X e t
@[irreducible] def PAi (X:Cx) (es:List Expr) (t:TA):Prop:=PA X es t
section
variable {X:Cx}{e a b:Expr}{es:List Expr}{te ta tb:TE}{t:TA}{pos:Pos}
theorem PEi.mk (h:PE X e te):PEi X e te:=by
 unfold PEi
 exact h
theorem PAi.nil:PAi X [] gn:=by
 unfold PAi
 exact ae
theorem PAi.cons (h:PEi X e te)(g:PAi X es t)(s:∀ v p,e≠.Starred v p):PAi X (e::es) (cB te t):=by
 unfold PEi at h
 unfold PAi at g ⊢
 exact aa h g (jR s)
theorem PEi.lst (h:PAi X es t):PEi X (.List es pos) (qk t):=by
 unfold PAi at h
 unfold PEi
 exact bI h
end
end L2
namespace SW
open PySem TB
end SW
namespace L2
open PySem PySem.Spec PyProof.Rows
section
variable {X:Cx}
end
end L2
namespace KA
open PySem PyProof.Rows
section
variable {prog:Program}{w:World}{A:Around}{E:Value->Shared->Prop}{s:Shared}{h0:Heap}{a kS:Addr}{vs:List Value}{kz:List Int}{keys:Array Value}{e e1:Nat}{P:PySem.Fin->Shared->Prop}
end
end KA
namespace L2
open PySem PySem.Spec PyProof.Rows
section
variable {X:Cx}
end
end L2
namespace KX
open PySem PyProof.Rows
theorem jS (a v:Value):argsOk "max" ⟨[a],[(Str.ofString "default",v)]⟩:=by unfold argsOk;kernel_rfl
section
variable {prog:Program}{w:World}{A:Around}{R:Result->Shared->Prop}{I:Addr}{fp wr:List Addr}{n:Nat}{P:Nat->Value->Prop}{St:Nat->Heap->Prop}{kw:List (Str×Value)}
theorem qQ (W:Walks prog w A.in1 I fp wr n P St)(bt:Nat->Nat->Bool)(hcmp:CmpOf prog w A.in1 .Gt P bt)(S:Addr)(hSf:S∉fp):
  ∀ (k j:Nat) (s:Shared) (vb:Value) (c:Nat),n - (j+1)=k->j+1<=n->St (j+1) s.heap->P (argBest bt j) vb->
  s.heap.get? S=some {cls:=.type "list",dict:=none,data:=.seq #[vb,vb] c,slots:=#[]}->
  (∀ v h' tk,P (argBest bt (n - 1)) v->(∀ b o,b∉wr->b≠S->s.heap.get? b=some o->h'.get? b=some o)->R (.ok (.ret v)) {s with heap:=h',toks:=tk})->
  codeAny (model prog w) A (.builtin "max.loop" ⟨[.ref I,.none,.ref S],kw⟩) R s:=by
 have hSw:S∉wr:=fun h=>hSf (W.sub _ h)
 have hname:(toString "max"++toString ".loop":String)="max.loop":=by decide
 intro k
 induction k with
 |zero=>
  intro j s vb c hk hj hst hPb hS hR
  have hin:j+1=n:=by omega
  refine codeAny_builtin F.entry_max_loop ?_
  rw[Around.under_plainId F.plain_max_loop _]
  show wpAny _ A.in1 (seqItems? (.ref S) >>=_) _ _ s
  refine wpAny_bind (wpAny_seqItems hS rfl ?_)
  show wpAny _ A.in1 (tryCatch (pyNext (.ref I)) _ >>=_) _ _ s
  refine wpAny_bind (wpAny_tryCatch (W.done s _ _ (hin▸hst) fun h' tk hk'=>?_))
  have hS':=hk' S _ hSw hS
  show wpAny _ A.in1 (updateSeq S (fun _=>#[]) >>=_) _ _ _
  refine wpAny_bind ?_
  refine wpAny_updateSeq hS' rfl (wpAny_bind (wpAny_letGo (wpAny_pure ?_)))
  refine hR vb _ tk (by rw[← hin];exact hPb) fun b o hbw hbS e=>(Heap.get?_update_other _ _ (Ne.symm hbS)).trans (hk' b o hbw e)
 |succ k ih=>
  intro j s vb c hk hj hst hPb hS hR
  have hlt:j+1 < n:=by omega
  refine codeAny_builtin F.entry_max_loop ?_
  rw[Around.under_plainId F.plain_max_loop _]
  show wpAny _ A.in1 (seqItems? (.ref S) >>=_) _ _ s
  refine wpAny_bind (wpAny_seqItems hS rfl ?_)
  show wpAny _ A.in1 (tryCatch (pyNext (.ref I)) _ >>=_) _ _ s
  refine wpAny_bind (wpAny_tryCatch (W.item (j+1) s _ _ hlt hst fun v h' tk hP hst' hk'=>?_))
  have hS':=hk' S _ hSw hS
  show wpAny _ A.in1 (tryCatch (holding [v,v] (richCompare .Gt v vb >>=_)) _ >>=_) _ _ _
  refine wpAny_bind (wpAny_tryCatch (wpAny_holding (wpAny_bind (hcmp (j+1) (argBest bt j) v vb _ _ _ hP hPb ?_))))
  refine wpAny_bind (wpAny_holding (wpAny_truthy_bool ?_))
  refine wpAny_bind (wpAny_letGo (wpAny_pure ?_))
  cases hb:bt (j+1) (argBest bt j) with
  |true=>
   simp only [if_true]
   refine wpAny_bind ?_
   refine wpAny_updateSeq hS' rfl (wpAny_bind (wpAny_letGo ?_))
   rw[hname]
   refine wpAny_pure ⟨plainId_quiet F.plain_max_loop _,ih (j+1) _ v _ (by omega) hlt (W.frame _ _ _ hst' fun b hbf o e=>?_) (by simp only [argBest,hb,if_true];exact hP) (Heap.get?_update_self _ hS' rfl)
    fun v' h'' tk'' hP' hk''=>?_⟩
   ·exact (Heap.get?_update_other _ _ (fun h:S=b=>hSf (by rw[h];exact hbf))).trans e
   ·exact hR v' h'' tk'' hP' fun b o hbw hbS e=>hk'' b o hbw hbS ((Heap.get?_update_other _ _ (Ne.symm hbS)).trans (hk' b o hbw e))
  |false=>
   simp only [Bool.false_eq_true,if_false]
   refine wpAny_bind (wpAny_letGo ?_)
   rw[hname]
   refine wpAny_pure ⟨plainId_quiet F.plain_max_loop _,ih (j+1) _ vb c (by omega) hlt hst' (by simp only [argBest,hb,Bool.false_eq_true,if_false];exact hPb) hS' fun v' h'' tk'' hP' hk''=>?_⟩
   exact hR v' h'' tk'' hP' fun b o hbw hbS e=>hk'' b o hbw hbS (hk' b o hbw e)
theorem ph (W:Walks prog w A.in1 I fp wr n P St)(bt:Nat->Nat->Bool)(hcmp:CmpOf prog w A.in1 .Gt P bt)(S:Addr)(hSf:S∉fp){d:Value}{ky:Str}{s:Shared}{c:Nat}(hst:St 0 s.heap)
  (hS:s.heap.get? S=some {cls:=.type "list",dict:=none,data:=.seq #[] c,slots:=#[]})
  (hR:0 < n->∀ v h' tk,P (argBest bt (n - 1)) v->(∀ b o,b∉wr->b≠S->s.heap.get? b=some o->h'.get? b=some o)->R (.ok (.ret v)) {s with heap:=h',toks:=tk})
  (h0:n=0->∀ h' tk,(∀ b o,b∉wr->b≠S->s.heap.get? b=some o->h'.get? b=some o)->R (.ok (.ret d)) {s with heap:=h',toks:=tk}):
  codeAny (model prog w) A (.builtin "max.loop" ⟨[.ref I,.none,.ref S],[(ky,d)]⟩) R s:=by
 have hSw:S∉wr:=fun h=>hSf (W.sub _ h)
 have hname:(toString "max"++toString ".loop":String)="max.loop":=by decide
 refine codeAny_builtin F.entry_max_loop ?_
 rw[Around.under_plainId F.plain_max_loop _]
 show wpAny _ A.in1 (seqItems? (.ref S) >>=_) _ _ s
 refine wpAny_bind (wpAny_seqItems hS rfl ?_)
 show wpAny _ A.in1 (tryCatch (pyNext (.ref I)) _ >>=_) _ _ s
 by_cases hn:0 < n
 ·refine wpAny_bind (wpAny_tryCatch (W.item 0 s _ _ hn hst fun v h' tk hP hst' hk'=>?_))
  have hS':=hk' S _ hSw hS
  show wpAny _ A.in1 (updateSeq S (fun _=>#[v,v]) >>=_) _ _ _
  refine wpAny_bind ?_
  refine wpAny_updateSeq hS' rfl ?_
  rw[hname]
  refine wpAny_pure ⟨plainId_quiet F.plain_max_loop _,qQ W bt hcmp S hSf _ 0 _ v _ rfl hn (W.frame _ _ _ hst' fun b hbf o e=>?_) hP (Heap.get?_update_self _ hS' rfl) fun v' h'' tk'' hP' hk''=>?_⟩
  ·exact (Heap.get?_update_other _ _ (fun h:S=b=>hSf (by rw[h];exact hbf))).trans e
  ·exact hR hn v' h'' tk'' hP' fun b o hbw hbS e=>hk'' b o hbw hbS ((Heap.get?_update_other _ _ (Ne.symm hbS)).trans (hk' b o hbw e))
 ·have hn0:0=n:=by omega
  refine wpAny_bind (wpAny_tryCatch (W.done s _ _ (hn0▸hst) fun h' tk hk'=>?_))
  refine wpAny_bind (wpAny_rule (wpAny_pure ?_))
  exact h0 hn0.symm h' tk fun b o hbw hbS e=>hk' b o hbw e
end
section
variable {prog:Program}{w:World}{A:Around}{E:Value->Shared->Prop}{s:Shared}
theorem qR {x d:Value}{Q:Value->Shared->Prop}
  (h:wpAny (model prog w) A.in1 (pyIter x) (fun it s₂=>∃ I fp wr n P St bt,it=.ref I/\Walks prog w A.in1 I fp wr n P St/\St 0 s₂.heap/\(∀ b∈fp,b < s₂.heap.objs.size)/\CmpOf prog w A.in1 .Gt P bt/\
   (0 < n->∀ v h' tk,P (argBest bt (n - 1)) v->(∀ b o,b∉wr->s₂.heap.get? b=some o->h'.get? b=some o)->Q v {s₂ with heap:=h',toks:=tk})/\
   (n=0->∀ h' tk,(∀ b o,b∉wr->s₂.heap.get? b=some o->h'.get? b=some o)->Q d {s₂ with heap:=h',toks:=tk})) E s):
  wpAny (model prog w) A (call (.builtin "max") [x] [(Str.ofString "default",d)]) Q E s:=by
 have hname:(toString "max"++toString ".loop":String)="max.loop":=by decide
 refine kmk_tree F.kind_max F.plain_max F.entry_max (jS _ _) ?_
 show wpAny _ A.in1 (Builtin.Builtins.bindParams "max" ["key","default"] 0 ⟨[],[(Str.ofString "default",d)]⟩ >>=_) _ _ s
 refine wpAny_bind (wpAny_of_eq (show Builtin.Builtins.bindParams "max" ["key","default"] 0 ⟨[],[(Str.ofString "default",d)]⟩=pure [none,some d] from rfl) ?_)
 refine wpAny_bind (wpAny_pure ?_)
 refine wpAny_bind (wpAny_mono h (fun it s₂ h₂=>?_) fun _ _ e=>e)
 obtain⟨I,fp,wr,n,P,St,bt,rfl,W,hst,hfp,hcmp,hQ,hQ0⟩:=h₂
 refine wpAny_bind (wpAny_newObj_type ?_)
 have hSf:s₂.heap.objs.size∉fp:=fun hm=>Nat.lt_irrefl _ (hfp _ hm)
 rw[hname]
 refine wpAny_pure ⟨plainId_quiet F.plain_max_loop _,ph W bt hcmp s₂.heap.objs.size hSf (W.frame _ _ _ hst fun b _ o e=>Heap.get?_push_of_some _ e) (Heap.get?_push_size _ rfl) (fun hn v h' tk hP hk=>?_) fun hn h' tk hk=>?_⟩
 ·exact hQ hn v h' tk hP fun b o hbw e=>hk b o hbw (Nat.ne_of_lt (Heap.lt_size e)) (Heap.get?_push_of_some _ e)
 ·exact hQ0 hn h' tk fun b o hbw e=>hk b o hbw (Nat.ne_of_lt (Heap.lt_size e)) (Heap.get?_push_of_some _ e)
theorem max_listD {l:Addr}{xs:Array (Int×Tok)}{d:Value}{Q:Value->Shared->Prop}(hh:A.handled=none)(hl:s.heap.IsList l (intItems xs))
  (h:0 < xs.size->∀ v h' tk,(intItems xs)[argBest (fun i j=>decide (numAt xs i > numAt xs j)) (xs.size - 1)]? =some v->(∀ b o,s.heap.get? b=some o->h'.get? b=some o)->Q v {s with heap:=h',toks:=tk})
  (h0:xs.size=0->∀ h' tk,(∀ b o,s.heap.get? b=some o->h'.get? b=some o)->Q d {s with heap:=h',toks:=tk}):
  wpAny (model prog w) A (call (.builtin "max") [.ref l] [(Str.ofString "default",d)]) Q E s:=by
 refine qR (iter_intList hl fun s₂ e st hfp hlI=>?_)
 subst e
 refine⟨_,_,_,_,_,_,_,rfl,Walks.list (A:=A.in1) hh _ l hlI (intItems xs),st,hfp,CmpOf.ints_gt (numAt xs) (fun _ _=>intItems_at),fun hn v h' tk hP hk=>?_,fun hn h' tk hk=>?_⟩
 ·exact h (by simpa [intItems] using hn) v h' tk (by simpa [intItems] using hP) (old_kept hk)
 ·exact h0 (by simpa [intItems] using hn) h' tk (old_kept hk)
end
end KX
namespace L2
open PySem PySem.Spec PyProof.Rows
section
variable {X:Cx}
theorem lc {vs:List Value}{ns:List Int}{xs:Array (Int×Tok)}{v:Value}(hi:IntsAre vs ns)(e:vs.toArray=intItems xs)(hn:0 < xs.size)(hv:(intItems xs)[argBest (fun i j=>decide (numAt xs i > numAt xs j)) (xs.size - 1)]? =some v):∃ M t,v=.int M t/\M∈ns/\∀ a∈ns,a<=M:=by
 have hns:xs.toList.map (·.1)=ns:=by
  rw[← nums_intItems,← e]
  exact hi.numsOf
 obtain⟨t,rfl⟩:=intItems_at hv
 obtain⟨h1,h2⟩:=argBest_gt (numAt xs) (xs.size - 1)
 refine⟨_,t,rfl,?_,fun a ha=>?_⟩
 ·rw[numAt_eq,hns]
  exact getD_mem (by rw[← hns,List.length_map,Array.length_toList];omega)
 ·obtain⟨j,hj,rfl⟩:=mem_getD ha
  rw[← hns,List.length_map,Array.length_toList] at hj
  have:=h2 j (by omega)
  rw[numAt_eq,hns] at this
  exact this
def nJ (K:PySem.W.Frag):V->V->Hp->VK->Prop:=fun x d H Q=>∃ (p:Addr) (ns:List Int),x=.ref p/\SqL K H p (ns.map V.int)/\(ns=[]->Q d H)/\∀ M,M∈ns->(∀ a∈ns,a<=M)->Q (.int M) H
def qS (K:PySem.W.Frag)(te td:TE):TE:=fun σ H Q=>te σ H fun x H1=>td σ H1 fun d H2=>nJ K x d H2 Q
theorem mS {e dv:Expr}{te td:TE}{p1 kp q1:Pos}(hc:X.calm=true)(hg1:Gl X "max")(hm1:X.mg "max"=none)(he:PE X e te)(hd:PE X dv td)
  (hs:starEach [e] X.env=[(false,eval e X.env)]:=by rfl):
  PE X (.Call (.Name "max" p1) [e] [⟨some "default",dv,kp⟩] q1) (qS X.K te td):=by
 intro pins s σ H Q I h
 refine wpAny_Call_Name_kw (d4 I hg1 hm1 PyProof.Rows.boot_max ?_)
 refine PyProof.Rows.callWith_kw (aV (aa he (ae (X:=X)) (by rw[hs];rfl) q1 pins s σ H (qI fun x H1=>td σ H1 fun d H2=>nJ X.K x d H2 Q) I h) fun us s1 ⟨vs,H1,I1,r1,q1'⟩=>?_) (by rw[hs];rfl) (by rw[hs];rfl) rfl rfl
 obtain⟨x,e1,h1⟩:=kJ q1'
 subst e1
 obtain⟨u,rfl,ru⟩:=bG r1
 refine PyProof.Rows.kws_cons (aV (hd pins s1 σ H1 _ I1 h1) fun ud s2 ⟨d,H2,I2,r2,h2⟩=>PyProof.Rows.kws_nil ?_)
 obtain⟨p,ns,rfl,hq,q0,q⟩:=h2
 cases ru
 obtain⟨vs,rv,pl,hz⟩:=I2.list hq
 have hi:=cX rv
 obtain⟨ys,e⟩:=hi.allInts.items
 have hl:=pl.isList
 rw[e] at hl
 have hsz:ys.size=ns.length:=by
  have h1:(intItems ys).size=ys.size:=by simp [intItems]
  rw[← h1,← e,List.size_toArray,IntsAre.length hi]
 show wpAny _ _ (call (.builtin "max") [.ref p] [(Str.ofString "default",ud)]) _ _ _
 refine KX.max_listD (I2.ok.hd hc) hl (fun hn v h' tk hv hk=>?_) fun hn h' tk hk=>?_
 ·obtain⟨M,t,rfl,m1,m2⟩:=lc hi e hn hv
  exact⟨.int M,H2,I2.kept hk,⟨t,rfl⟩,q M m1 m2⟩
 ·exact⟨d,H2,I2.kept hk,r2,q0 (List.length_eq_zero_iff.mp (by omega))⟩
end
end L2
namespace OD
open PySem L2
end OD
namespace OD
open PySem L2
end OD
namespace OD
open PySem L2
end OD
namespace OD
open PySem L2
section
variable {K:PySem.W.Frag}{a D:Addr}{xs:List V}{tt:TT}{te:TE}{σ0:St}{H1:Hp}{Q:VK}
end
end OD
namespace OD
open PySem L2
end OD
namespace L2
open PySem PySem.Spec PyProof.Rows
end L2
namespace OD
open PySem L2
end OD
namespace L2
open PySem PySem.Spec PyProof.Rows
section
variable {M:Model}{A:Around}{E:Value->Shared->Prop}{s:Shared}{B:Heap}{env:Env}{outer:List Env}{L e:Addr}{dx:Option Addr}{cls a0:Value}
end
end L2
namespace L2
open PySem PySem.Spec PyProof.Rows
section
variable {P:Program}{w:World}{outer:List Env}{H H':Hp}{s s':Shared}{B h':Heap}{ea:Addr}{dx:Option Addr}{cls a0:Value}
end
section
variable {P:Program}{w:World}{K:PySem.W.Frag}{mg:Str->Option Value}{base:Heap}{N:List Str}{qual:Str}{scope:Scope}{f:Addr}{cd:Value}{A:Around}{outer:List Env}{s:Shared}{H:Hp}{E:XK}
end
end L2
namespace L2
open PySem PySem.Spec PyProof.Rows
section
variable {prog:Program}{w:World}{A:Around}{E:Value->Shared->Prop}{h:Heap}{g:Array GenState}{d:Drawn}{t:Nat}{os:OsState}
variable {nm q:Str}{C N:Addr}{bs bm bmB:List Value}{hdct:Bool}{sn:List Str}{sub:List Value}{ab:Bool}{col:Option Bool}{dd:Option Addr}{k0 k1 k2 k3 k5:Option Value}{B newId initId:String}
end
end L2
namespace L2
open PySem PySem.Spec PyProof.Rows
section
variable {prog:Program}{w:World}{A:Around}{E:Value->Shared->Prop}{h:Heap}{g:Array GenState}{d:Drawn}{t:Nat}{os:OsState}{a dx C:Addr}{o:Obj}{mA:Str->Option Value}{K:PySem.W.Frag}{x:Str}{v:Value}
end
end L2
namespace L2
open PySem PySem.Spec PyProof.Rows
section
variable {X:Cx}{j k:Nat}{C f:Addr}{fd:FuncData}{ps:List Str}{sp:Sp}{x m:Str}{p pos apos:Pos}{o e:Expr}{es:List Expr}{ta:TE}{t:TA}
end
end L2
namespace L2
open PySem PySem.Spec PyProof.Rows
end L2
namespace L2
open PySem PySem.Spec PyProof.Rows
section
variable {M:Model}{A:Around}{E:Value->Shared->Prop}{env:Env}{C N:Addr}{nm q:Str}{bs bm:List Value}{hdct ab:Bool}{sn:List Str}{sub:List Value}{col:Option Bool}{dd:Option Addr}{k0 k1 k2 k3 k5:Option Value}{newId:String}
end
end L2
namespace L2
open PySem
section
variable {K:PySem.W.Frag}{a D:Addr}{xs:List V}{g:TG}{tt:TT}{te:TE}{σ0:St}{H1:Hp}{Q:VK}
end
end L2
namespace L2
open PySem
theorem dX {X:Cx}{st:Stmt}{rest:List Stmt}{t:TS}{G:TS->Prop}(h:PS X st t)(k:∃ u,PSs X rest u/\G (gW t u)):∃ v,PSs X (st::rest) v/\G v:=by
 obtain⟨u,hu,g⟩:=k
 exact⟨_,af h hu,g⟩
@[irreducible] def PSi (X:Cx) (st:Stmt) (t:TS):Prop:=PS X st t
@[irreducible] def PSsi (X:Cx) (sts:List Stmt) (t:TS):Prop:=PSs X sts t
section
variable {X:Cx}{e a b:Expr}{te ta tb:TE}{pos:Pos}{st:Stmt}{t u:TS}
theorem eM (h:PSi X st t):PSsi X [st] t:=by
 unfold PSi at h
 unfold PSsi
 exact ah h
theorem ib {c:Expr}{a b:List Stmt}{tc:TT}(hc:PT X c tc)(ha:PSsi X a t)(hb:PSs X b u):PSi X (.If c a b pos) (oh tc t u):=by
 unfold PSsi at ha
 unfold PSi
 exact aD hc ha hb
theorem mT {tg:Expr}{g:TG}(he:PEi X e te)(hg:PG X tg g)(hs:swapsWithSole [tg] e pos.line X.env=pure false:=by rfl)(hw:swappedStores [tg] e X.env=pure none:=by rfl)
  (h1:(assignEach [tg] X.env).map (·.2)=[assign tg X.env]:=by rfl):PSi X (.Assign [tg] e pos) (mt te g):=by
 unfold PEi at he
 unfold PSi
 exact d_ he hg hs hw h1
theorem eN {rest:List Stmt}{G:TS->Prop}(h:PSi X st t)(k:∃ u,PSs X rest u/\G (gW t u)):∃ v,PSs X (st::rest) v/\G v:=by
 unfold PSi at h
 exact dX h k
end
end L2
namespace HD
open PySem PySem.W PySem.Calls PyProof.Rows
noncomputable def jT (sp:SharedT->Thread->Option (SharedT×Thread))(ok th:Thread->Bool)(n:Nat):SharedT->Thread->Option SharedT:=
 @Nat.rec (fun _=>SharedT->Thread->Option SharedT) (fun _ _=>none)
  (fun _ ih s t=>@Bool.rec (fun _=>Option SharedT)
   (@Bool.rec (fun _=>Option SharedT) none
    (@Option.rec (SharedT×Thread) (fun _=>Option SharedT) none
     (fun r=>@Prod.rec SharedT Thread (fun _=>Option SharedT) (fun s' t'=>@Bool.rec (fun _=>Option SharedT) none (ih s' t') (Nat.ble s'.toks 1000000000)) r) (sp s t)) (ok t))
   (some s) (th t)) n
theorem iX {tb:String->Option Builtin}{p:Program}{w:World}{n₀:Nat}{ann:Option Value}:∀ (n:Nat) (s s':SharedT) (t:Thread),
  jT (stepT (denote tb) p w) (stepOk n₀ ann) through n s t=some s'->topRun tb p w n₀ ann n s.abs t=some s'.abs
 |0,s,s',t,h=>by cases h
 |n+1,s,s',t,h=>by
  have h:@Bool.rec (fun _=>Option SharedT)
   (@Bool.rec (fun _=>Option SharedT) none
    (@Option.rec (SharedT×Thread) (fun _=>Option SharedT) none
     (fun r=>@Prod.rec SharedT Thread (fun _=>Option SharedT) (fun s' t'=>@Bool.rec (fun _=>Option SharedT) none (jT (stepT (denote tb) p w) (stepOk n₀ ann) through n s' t') (Nat.ble s'.toks 1000000000)) r) (stepT (denote tb) p w s t)) (stepOk n₀ ann t))
   (some s) (through t)=some s':=h
  unfold topRun
  cases ht:through t with
  |true=>rw[ht] at h;cases h;rfl
  |false=>
   rw[ht] at h
   cases hk:stepOk n₀ ann t with
   |false=>rw[hk] at h;cases h
   |true=>
    rw[hk] at h
    cases hs:stepT (denote tb) p w s t with
    |none=>rw[hs] at h;cases h
    |some r=>
     obtain⟨s₂,t₂⟩:=r
     rw[hs] at h
     replace h:@Bool.rec (fun _=>Option SharedT) none (jT (stepT (denote tb) p w) (stepOk n₀ ann) through n s₂ t₂) (Nat.ble s₂.toks 1000000000)=some s':=h
     rw[stepT_spec hs]
     cases hb:Nat.ble s₂.toks 1000000000 with
     |false=>rw[hb] at h;cases h
     |true=>rw[hb] at h;exact iX n _ _ _ h
noncomputable def fY (l:List Obj):BT->Nat->Option (BT×Nat):=
 @List.rec Obj (fun _=>BT->Nat->Option (BT×Nat)) (fun T n=>some (T,n))
  (fun o _ ih T n=>@Bool.rec (fun _=>Option (BT×Nat)) none (ih (T.ins n o) (n+1)) (((T.ins n o).get n).isSome)) l
theorem fC {life:Life}:∀ (l:List Obj) (T T':BT) (n n':Nat),fY l T n=some (T',n')->absHeap T' n' life=⟨(absHeap T n life).objs++l.toArray,life⟩
 |[],T,T',n,n',h=>by
  cases h
  show absHeap T n life=Heap.mk ((absHeap T n life).objs++#[]) life
  rw[Array.append_empty]
  rfl
 |o::l,T,T',n,n',h=>by
  replace h:@Bool.rec (fun _=>Option (BT×Nat)) none (fY l (T.ins n o) (n+1)) (((T.ins n o).get n).isSome)=some (T',n'):=h
  cases hb:((T.ins n o).get n).isSome with
  |false=>rw[hb] at h;cases h
  |true=>
   rw[hb] at h
   rw[fC l _ _ _ _ h,absHeap_ins hb]
   show Heap.mk ((absHeap T n life).objs.push o++l.toArray) life=_
   congr 1
   apply Array.ext'
   simp
noncomputable def look {β:Type}(sp:SharedT->Thread->Option (SharedT×Thread))(ok th:Thread->Bool)(M:Nat)(os:OsState)(P:Params)(st:Thread)(F:Shared->β):Option β:=
 @Option.rec (BT×Nat) (fun _=>Option β) none
  (fun r=>@Prod.rec BT Nat (fun _=>Option β) (fun T n=>@Option.rec SharedT (fun _=>Option β) none (fun s=>some (F s.abs)) (jT sp ok th M ⟨T,n,(boot_heap P).life,Array.mk [],boot_drawn,boot_toks,os⟩ st)) r)
  (fY (boot_heap P).objs.toList .nil 0)
theorem mU {β:Type}{tb:String->Option Builtin}{p:Program}{w:World}{n₀:Nat}{ann:Option Value}{M:Nat}{os:OsState}{F:Shared->β}{b:β}
  (h:look (stepT (denote tb) p w) (stepOk n₀ ann) through M os w.params (topStub p) F=some b):
  ∃ s,topRun tb p w n₀ ann M ⟨boot_heap w.params,Array.mk [],boot_drawn,boot_toks,os⟩ (topStub p)=some s/\F s=b:=by
 unfold look at h
 cases hi:fY (boot_heap w.params).objs.toList .nil 0 with
 |none=>rw[hi] at h;cases h
 |some r=>
  obtain⟨T,n⟩:=r
  rw[hi] at h
  replace h:@Option.rec SharedT (fun _=>Option β) none (fun s=>some (F s.abs)) (jT (stepT (denote tb) p w) (stepOk n₀ ann) through M ⟨T,n,(boot_heap w.params).life,Array.mk [],boot_drawn,boot_toks,os⟩ (topStub p))=some b:=h
  cases hr:jT (stepT (denote tb) p w) (stepOk n₀ ann) through M ⟨T,n,(boot_heap w.params).life,Array.mk [],boot_drawn,boot_toks,os⟩ (topStub p) with
  |none=>rw[hr] at h;cases h
  |some s=>
   rw[hr] at h
   have e:=fC (life:=(boot_heap w.params).life) _ _ _ _ _ hi
   have e0:(absHeap .nil 0 (boot_heap w.params).life).objs=#[]:=rfl
   rw[e0] at e
   have e1:absHeap T n (boot_heap w.params).life=boot_heap w.params:=by
    rw[e]
    show Heap.mk (#[]++(boot_heap w.params).objs.toList.toArray) _=_
    rw[Array.empty_append]
   have hr':=iX _ _ _ _ hr
   refine⟨s.abs,?_,Option.some.inj h⟩
   rw[← hr']
   show _=topRun tb p w n₀ ann M ⟨absHeap T n (boot_heap w.params).life,Array.mk [],boot_drawn,boot_toks,os⟩ (topStub p)
   rw[e1]
noncomputable def seenAt (p q:Program)(loose:List Str)(Xt:Shared->Bool)(g0:Bool)(w:World)(s:Shared):=((staticsOk (Fast.tw5923862056798008813 p.main.body) (boot_heap w.params) s.heap&&namesBound p s.heap&&gensDone s&&laidKept (boot_heap w.params) s.heap),Fast.tw4187177175401517315 q loose (Fast.tw5923862056798008813 p.main.body) Xt g0 s)
noncomputable def lookAt {β:Type}(p:Program)(m₀:Nat)(ann:Option Value)(M:Nat)(w:World)(os:OsState)(F:Shared->β):Option β:=
 look (Fast.tw10156331382660048174 (Fast.tw11892475500146522536 Fast.tw14364793385576792824) p w) (Fast.tw6613529449190102663 m₀ ann) through M os w.params (topStub p) F
theorem fD {β:Type}{p:Program}{m₀:Nat}{ann:Option Value}{M:Nat}{w:World}{os:OsState}{F:Shared->β}{b:β}(h:lookAt p m₀ ann M w os F=some b):
  ∃ s,topRun treeTable p w m₀ ann M ⟨boot_heap w.params,Array.mk [],boot_drawn,boot_toks,os⟩ (topStub p)=some s/\F s=b:=by
 unfold lookAt at h
 rw[← Fast.te10156331382660048174,← Fast.te11892475500146522536,← Fast.te14364793385576792824,← Fast.te6613529449190102663] at h
 exact mU h
theorem left {p q:Program}{loose:List Str}{Xt:Shared->Bool}{α:Type}{Yf:Shared->α}{Ya:World->α}{N:Nat}{g0:Bool}{m₀:Nat}{ann:Option Value}{M:Nat}
  (e:opening p=plainProg p.main.scope.names) (f:∀ s,fenceModules? p s=some s) (hN:Nat.ble 600 N=true) (le:Nat.ble M N=true)
  (size:∀ w:World,((boot_heap w.params).isNs mainGlobals&&(Array.mk []:Array GenState).size == 0,(boot_heap w.params).objs.size,(boot_heap w.params).nsMap mainGlobals "__annotations__")=(true,m₀,ann))
  (h1:∀ (w:World) (os:OsState),lookAt p m₀ ann M w os (seenAt p q loose Xt g0 w)=some (true,openGood q loose)) (h2:∀ (w:World) (os:OsState),lookAt p m₀ ann M w os Yf=some (Ya w)):
  LeftO p q loose Xt Yf Ya N g0:=fun w=>by
 obtain⟨⟨h0,gs,d,k,os⟩,a,b⟩:=Option.map_eq_some_iff.mp (boot_open e hN f w)
 obtain⟨rfl,rfl,rfl,rfl⟩:h0=boot_heap w.params/\gs=Array.mk []/\d=boot_drawn/\k=boot_toks:=by simpa using b
 obtain⟨z1,z2,z3⟩:_/\_/\_:=by simpa only [Prod.mk.injEq] using size w
 obtain⟨s,r,l⟩:=fD (h1 w os)
 obtain⟨s',r',l3⟩:=fD (h2 w os)
 rw[r] at r'
 cases r'
 unfold seenAt at l
 rw[← Fast.te5923862056798008813,← Fast.te4187177175401517315] at l
 obtain⟨l1,l2⟩:_/\_:=by simpa only [Prod.mk.injEq] using l
 have r:=topRun_mono (N - M) _ _ _ _ r
 rw[show M+(N - M)=N by have:=Nat.le_of_ble_eq_true le;omega] at r
 have t:topFrom treeTable p w N ⟨boot_heap w.params,Array.mk [],boot_drawn,boot_toks,os⟩=some s:=by
  unfold topFrom
  dsimp only
  rw[z1,z2,z3,r]
  show (match staticsOk (importedModules p.main.body) (boot_heap w.params) s.heap&&namesBound p s.heap&&gensDone s&&laidKept (boot_heap w.params) s.heap with|true=>_|false=>_)=_
  rw[l1]
 unfold openEnds
 rw[a]
 show (topFrom treeTable p w N _).map _=_
 rw[t]
 exact congrArg some (Prod.ext l2 l3)
theorem head {r:OpenRow}{q:Program}{loose:List Str}{lv:List (Str×WData)}(H:Hook){d:DefRec}{kwd:List (Str×Expr)}{N:Nat}
  (lf:LeftO r.prog q loose (fun s=>xlAt q lv s&&recOk r.records s) H.obs H.val N) (hdef:defOf q r.name=some (d,kwd)) (hp:r.prog.theDef r.name=some (d.params,d.body,d.scope)) (hk:kwWritten? d.params.kwonlyargs d.params.kw_defaults=some kwd)
  (hwr:(!r.writes || r.records.isEmpty)=true) (k1:r.wellSaid=true) (ok:(chainsOk q&&opensWell r.prog&&(frees r.toRowW&&r.within.isEmpty))=true) (hb:r.prog.bare) (hw:r.toRowW.promised)
  (hc:WalkO q loose (XL q lv) H.says r.toRowW d kwd fun f vs=>PySem.call f vs):r.Holds:=
 holds_open lf H.of H.keeps (fun s e=>xl_of s (Bool.and_eq_true_iff.mp e).1) XL.keeps hdef hp hk (fun s e=>recFacts_of (Bool.and_eq_true_iff.mp e).2) hwr k1 ok hb hw hc
end HD
namespace L2
open PySem PySem.Spec PyProof.Rows
section
variable {prog:Program}{w:World}{A:Around}{E:Value->Shared->Prop}{h:Heap}{g:Array GenState}{d:Drawn}{t:Nat}{os:OsState}{x C:Addr}{K:PySem.W.Frag}{f:Str}{v:Value}{vs:Array Value}
end
end L2
namespace L2
open PySem PySem.Spec PyProof.Rows
section
variable {X:Cx}{o e:Expr}{es:List Expr}{ta:TE}{t:TA}{apos pos:Pos}{D:Addr}
end
section
variable {X:Cx}{e:Expr}{te:TE}{p1 p2 p3 pos:Pos}{a b:Str}{j k:Nat}
end
section
variable {X:Cx}{o value:Expr}{f:Str}{pos pos':Pos}{ta tv:TE}
end
section
variable {P:Program}{w:World}{K:PySem.W.Frag}{mg:Str->Option Value}{base:Heap}{N:List Str}{qual:Str}{scope:Scope}{f:Addr}{cd:Value}{A:Around}{outer:List Env}{s:Shared}{H:Hp}{E:XK}
end
end L2
namespace L2
open PySem PySem.Spec PyProof.Rows
section
variable {X:Cx}{pins:List (Addr×Obj)}{σ:St}{H:Hp}{s:Shared}{h':Heap}
end
section
variable {P:Program}{w:World}{K:PySem.W.Frag}{mg:Str->Option Value}{base:Heap}{N:List Str}{qual:Str}{scope:Scope}{f:Addr}{cd:Value}{A:Around}{outer:List Env}{s:Shared}{H:Hp}{E:XK}
end
end L2
namespace L2
open PySem PySem.Spec PyProof.Rows
section
variable {P:Program}{w:World}{K:PySem.W.Frag}{mg:Str->Option Value}{base:Heap}{N:List Str}{qual:Str}{scope:Scope}{f:Addr}{cd:Value}{A:Around}{outer:List Env}{s:Shared}{H:Hp}{E:XK}
end
section
variable {X:Cx}{j k:Nat}{f:Addr}{fd:FuncData}{ps:List Str}{sp:Sp}{x:Str}{p pos:Pos}{e:Expr}{es:List Expr}{t:TA}
end
section
variable {P:Program}{w:World}{outer:List Env}{H H':Hp}{s s':Shared}{B h':Heap}{ea C d:Addr}{dx:Option Addr}{cls a0:Value}
end
section
variable {X:Cx}
end
section
variable {X:Cx}{e:Expr}{f:Str}{pos:Pos}{ta:TE}
end
end L2
namespace L2
open PySem PySem.Spec PyProof.Rows
section
variable {K:PySem.W.Frag}{x qual:Str}{st:Stmt}{f:Addr}{fd:FuncData}{p q r s t:Str}
theorem dE {P:List Value->Prop}{n:Nat}(h:∀ (x:Value) (us:List Value),us.length=n->P (x::us))(us:List Value)(e:us.length=n+1):P us:=by
 obtain⟨x,r,rfl⟩:=List.exists_cons_of_length_eq_add_one e
 exact h x r (Nat.succ.inj e)
theorem ic {P:List Value->Prop}(h:P [])(us:List Value)(e:us.length=0):P us:=by
 rw[List.length_eq_zero_iff.mp e]
 exact h
theorem Fun.b1 (F:Fun K x qual st f fd)(h:∀ kV doc pm an cdv ct u,bindArgs (PySem.W.fnOf x qual (b_ st) (bM st) (am st) .none kV doc pm an cdv ct) ⟨[u],[]⟩=pure [(p,u)]:=by intros;rfl):Binds K fd [p] []:=
 F.binds fun a b c d e f=>dE fun u=>ic (h a b c d e f u)
theorem Fun.b2 (F:Fun K x qual st f fd)(h:∀ kV doc pm an cdv ct u v,bindArgs (PySem.W.fnOf x qual (b_ st) (bM st) (am st) .none kV doc pm an cdv ct) ⟨[u,v],[]⟩=pure [(p,u),(q,v)]:=by intros;rfl):Binds K fd [p,q] []:=
 F.binds fun a b c d e f=>dE fun u=>dE fun v=>ic (h a b c d e f u v)
theorem Fun.b3 (F:Fun K x qual st f fd)(h:∀ kV doc pm an cdv ct u v w,bindArgs (PySem.W.fnOf x qual (b_ st) (bM st) (am st) .none kV doc pm an cdv ct) ⟨[u,v,w],[]⟩=pure [(p,u),(q,v),(r,w)]:=by intros;rfl):Binds K fd [p,q,r] []:=
 F.binds fun a b c d e f=>dE fun u=>dE fun v=>dE fun w=>ic (h a b c d e f u v w)
variable {h:Heap}{mg:Str->Option Value}{k:Nat}{ps:List Str}{sp:Sp}
theorem eO (P:Program)(w:World)(base:Heap)(X:K.In h)(G:h.Ns mainGlobals mg)(a:PySem.W.nsIn K mainGlobals x=some (some (.ref f)))(F:Fun K x qual st f fd)(b:Binds K fd ps [])(ok:aW P w K mg base cU k f fd ps sp):Fn P w K mg base k x f fd ps sp:=⟨ok,b,F.kp,PySem.W.mg_of X G a⟩
theorem mV (P:Program)(w:World)(base:Heap)(X:K.In h)(G:h.Ns mainGlobals mg)(a:PySem.W.nsIn K mainGlobals x=some (some (.ref f)))(F:Fun K x qual st f fd)(b:Binds K fd ps [])(ok:aW P w K mg base (cc P w) k f fd ps sp):nI P w K mg base k x f fd ps sp:=⟨ok,b,F.kp,PySem.W.mg_of X G a⟩
end
end L2
namespace L2
open PySem PySem.Spec PyProof.Rows
end L2
namespace L2
open PySem PySem.Spec PyProof.Rows
def Cx.wx (X:Cx)(xe:Value->Shared->Prop):Cx:={X with xe:=xe}
section
variable {X:Cx}{xe:Value->Shared->Prop}{pins:List (Addr×Obj)}{σ:St}{H:Hp}{s:Shared}
theorem Inv.wx (I:Inv X pins σ H s):Inv (X.wx xe) pins σ H s:=
 ⟨⟨I.ok.mod,I.ok.kind,I.ok.glob,I.ok.blt,I.ok.above,I.ok.inj,I.ok.has,I.ok.cab,I.ok.hd,I.ok.frames,I.ok.stk,I.ok.exf,I.ok.bs,I.ok.bsz,I.ok.noex,I.ok.exfs,I.ok.funs,I.ok.frf⟩,I.os,I.bare,I.base,I.loc,I.cell,I.free,I.freeC,I.pin,I.hok,I.len⟩
theorem Inv.unwx (I:Inv (X.wx xe) pins σ H s):Inv X pins σ H s:=
 ⟨⟨I.ok.mod,I.ok.kind,I.ok.glob,I.ok.blt,I.ok.above,I.ok.inj,I.ok.has,I.ok.cab,I.ok.hd,I.ok.frames,I.ok.stk,I.ok.exf,I.ok.bs,I.ok.bsz,I.ok.noex,I.ok.exfs,I.ok.funs,I.ok.frf⟩,I.os,I.bare,I.base,I.loc,I.cell,I.free,I.freeC,I.pin,I.hok,I.len⟩
end
section
variable {M:Model}{A:Around}{E:Value->Shared->Prop}{s:Shared}
theorem ie {B:Heap}{env:Env}{outer:List Env}{L e:Addr}{cls a0 fl:Value}{Q:Unit->Shared->Prop}(hfr:A.frames=some (env::outer))(hf:env.frame=some L)(st:B.StaysIn s.heap)(en:B.get? e=none)(ff:s.heap.FunFrames B (env::outer))(tr:s.heap.TracedAtW B e cls a0 fl)
  (hQ:∀ h',Heap.FlyingW B outer e cls a0 h'->s.heap.UpToSlots h'->Q () {s with heap:=h'}):wpAny M A (leaving env (.ref e)) Q E s:=by
 unfold leaving
 have fin:∀ h1,Heap.NotedW B (env::outer) e cls a0 (rawInt L) s.heap h1->wpAny M A (setFlight (.ref e) none) Q E {s with heap:=h1}:=fun h1 ⟨n1,n2,n3,n4⟩=>
  wpAny_landsW (s:={s with heap:=h1}) (L:=L) ⟨n1,en,n2,n3⟩ fun h2 f2 u2=>by
   obtain⟨g1,g2,⟨_,_,g3⟩,g4⟩:=f2
   exact hQ h2 ⟨g1,g2,g3,g4⟩ (Heap.UpToSlots.trans n4 u2)
 by_cases hz:fl=rawInt L
 ·subst hz
  exact wpAny_bind (wpAny_noteFrame_againW hf tr (fin _ ⟨st,ff,tr,fun b o q _=>⟨o.slots,q⟩⟩))
 refine wpAny_bind ?_
 obtain⟨oe,vs,T,oT,ts,e1,⟨e2,e3⟩,e4,e5,e6,e7,e8,e9,e10⟩:=tr
 subst e2
 unfold noteFrame
 simp only [hf]
 refine wpAny_bind (wpAny_field e1 e4 e5 ?_)
 rw[if_pos (by simp:(Value.ref T != Value.none)=true)]
 refine wpAny_bind (wpAny_field e8 e9 e10 ?_)
 rw[if_neg (fun q=>hz (eq_of_beq q))]
 refine wpAny_bind (wpAny_setField e8 e9 (Array.getElem?_eq_some_iff.mp e10).1 ?_)
 have ot:∀ b,b≠T->(s.heap.update T (Obj.mapFields (·.setIfInBounds 3 Value.none))).get? b=s.heap.get? b:=fun b hb=>Heap.get?_update_other _ _ (Ne.symm hb)
 have nr:∀ b o,s.heap.get? b=some o->(∀ vs,o.data≠.fields vs)->b≠T:=fun b o q nf z=>by
  rw[z,e8] at q
  cases q
  exact nf ts e9
 refine wpAny_entryW hfr (ff.of_keeps fun b o q nf=>⟨o,(ot b (nr b o q nf)).trans q,rfl⟩) hf ((ot e (Ne.symm e7)).trans e1) (fun b o q=>(ot b fun z=>by rw[z,e6] at q;cases q).trans (st b o q)) en e4 (Array.getElem?_eq_some_iff.mp e5).1 e3
  fun h1 ⟨n1,n2,n3,n4⟩=>fin h1 ⟨n1,n2,n3,fun b o q nf=>n4 b o ((ot b (nr b o q nf)).trans q) nf⟩
end
theorem eQ {h h' B B':Heap}{C:Addr}(st:B'.StaysIn B)(hs:Heap.SameBut C h h'):∀ {l:List Env},(∀ env∈l,env.frame≠some C)->h.FunFrames B l->h'.FunFrames B' l
 |[],_,_=>trivial
 |env::_,hC,⟨k,⟨L,o,hf,hn,ho,hd⟩,r⟩=>⟨k,⟨L,o,hf,PySem.W.fresh_of_stays st hn,(hs.2 L fun z=>hC env (.head _) (by rw[← z];exact hf)).trans ho,hd⟩,eQ st hs (fun e he=>hC e (.tail _ he)) r⟩
section
variable {prog:Program}{w:World}{A:Around}{R:Result->Shared->Prop}{s:Shared}
theorem ig {elt target iter:Expr}{ifs:List Expr}{scope:Scope}{pos:Pos}{it acc:Value}{env:Env}(EX:Value->Shared->Prop)(I:Nat->Shared->Prop)
  (turn:∀ n s,I n s->wpAny (model prog w) A (pyNext it) (fun r s₁=>match r with
   |none=>R (.ok .next) s₁
   |some v=>wpAny (model prog w) A (letOwnedTupleGo target it v) (fun _ s₀=>wpAny (model prog w) A (assign target env v) (fun _ s₂=>
     wpAny (model prog w) A (forIn ifs true fun c r=>if r=true then do let ok ← isTrue c env (eval c env);pure (ForInStep.yield ok) else pure (ForInStep.yield r)) (fun ok s₃=>
      if ok=true then wpAny (model prog w) A (eval elt env) (fun x s₄=>
       wpAny (model prog w) A (call (.builtin "list.append") [acc,x]) (fun _ s₅=>∃ m,m < n/\I m s₅) EX s₄) EX s₃
      else ∃ m,m < n/\I m s₃) EX s₂) EX s₀) EX s₁) EX s)
  (hx:∀ e s,EX e s->notedBy (model prog w) A env (fun e' s'=>R (.error e') s') e s)
  (n:Nat) (h:I n s):
  codeAny (model prog w) A (.compLoop (.ListComp elt [⟨target,iter,ifs,0⟩] scope pos) 0 it acc env) R s:=by
 refine codeAny_loop rfl I (fun n s hI=>?_) n h
 show wpAny _ A ((compTurn (.ListComp elt [⟨target,iter,ifs,0⟩] scope pos) 0 it acc env).onRaise (fun x=>do noteFrame x env;theTreesLotGoes x)) _ _ s
 refine wpAny_noted (wpAny_mono (Q:=fun f s'=>(f=.done .next/\R (.ok .next) s')\/(f=.again (.compLoop (.ListComp elt [⟨target,iter,ifs,0⟩] scope pos) 0 it acc env)/\∃ m,m < n/\I m s')) (E:=EX) ?_ (fun f s' q=>?_) hx)
 ·rw[compTurn_list]
  refine wpAny_bind (wpAny_standAt (wpAny_bind (wpAny_mono (turn n s hI) (fun r s₁ h₁=>?_) fun _ _ q=>q)))
  cases r with
  |none=>exact wpAny_pure (.inl ⟨rfl,h₁⟩)
  |some v=>
   refine wpAny_bind (wpAny_mono h₁ (fun _ s₀ h₀=>?_) fun _ _ q=>q)
   refine wpAny_bind (wpAny_mono h₀ (fun _ s₂ h₂=>wpAny_bind (wpAny_mono h₂ (fun ok s₃ h₃=>?_) fun _ _ q=>q)) fun _ _ q=>q)
   cases ok with
   |false=>exact wpAny_pure (.inr ⟨rfl,h₃⟩)
   |true=>exact wpAny_bind (wpAny_bind (wpAny_mono h₃ (fun x s₄ h₄=>wpAny_bind (wpAny_mono h₄ (fun _ s₅ h₅=>wpAny_pure (wpAny_pure (.inr ⟨rfl,h₅⟩))) fun _ _ q=>q)) fun _ _ q=>q))
 ·rcases q with⟨rfl,q⟩|⟨rfl,q⟩
  ·exact q
  ·exact⟨rfl,q⟩
end
def XC (Y:Cx)(E:XK):Value->Shared->Prop:=fun e s'=>∃ pins σ H s,Inv Y pins σ H s/\cc Y.prog Y.w Y.stack H s E e s'
abbrev bh (X:Cx)(E:XK)(scope:Scope)(cl:List (Str×Addr))(NY:List Str)(C:Addr)(fp:List Addr)(s₀:Shared)(H₀:Hp):Cx:=(ba X scope cl NY C fp s₀ H₀).wx (XC (ba X scope cl NY C fp s₀ H₀) E)
theorem qT {Y:Cx}{E:XK}:ei (cc Y.prog Y.w) (Y.wx (XC Y E)) E:=fun pins σ H s e s' I h=>⟨pins,σ,H,s,I.unwx,h⟩
section
variable {X:Cx}{scope:Scope}{cl:List (Str×Addr)}{NY:List Str}{idx:List (Option Nat)}{elt iter target:Expr}{ifs:List Expr}{pos:Pos}{wi:TI}{g:TG}{tt:TT}{te:TE}{E:XK}
theorem jU {pins:List (Addr×Obj)}{σ:St}{H:Hp}{s:Shared}{Q:VK}{RR:Value->Addr->Result->Shared->Prop}(hcalm:X.calm=true)(S:CompSc X scope cl NY idx)(hi:PI X target iter wi)
  (hg:∀ C fp s₀ H₀,PG (bh X E scope cl NY C fp s₀ H₀) target g) (ht:∀ C fp s₀ H₀,nH (bh X E scope cl NY C fp s₀ H₀) ifs tt) (he:∀ C fp s₀ H₀,PE (bh X E scope cl NY C fp s₀ H₀) elt te)
  (I:Inv X pins σ H s) (h:fz idx wi g tt te σ H Q)
  (hRR:∀ D C H' s',CompEnd X pins σ H' C s'->Q (.ref D) H'->RR (.ref D) C (.ok .next) s')
  (hXX:∀ D C H' s' e s'',CompEnd X pins σ H' C s'->C∉cm X.stack->cc X.prog X.w X.stack H' s' E e s''->notedBy (model X.prog X.w) X.A X.env (fun e' s2=>RR (.ref D) C (.error e') s2) e s''):
  wpAny (model X.prog X.w) X.A (eval iter X.env) (fun x s₁=>wpAny (model X.prog X.w) X.A (pyIter x) (fun it s₂=>wpAny (model X.prog X.w) X.A (newList []) (fun acc s₃=>
   wpAny (model X.prog X.w) X.A (newFunctionEnv scope X.env.globals cl [] X.env.qual none .none (some X.env)) (fun cenv s₄=>
    codeAny (model X.prog X.w) X.A (.compStart (.ListComp elt [⟨target,iter,ifs,0⟩] scope pos) 0 it acc {cenv with scope:=relabel scope X.env}) (RR acc cenv.locals) s₄) X.xe s₃) X.xe s₂) X.xe s₁) X.xe s:=by
 refine aV (hi pins s σ H _ I h) fun v s1 h1=>aV h1 fun itv s2 h2=>?_
 obtain⟨it,fp,tn,J,H2,e,I2,T,st2,f2,r2⟩:=h2
 subst e
 have hD:H2 s2.heap.objs.size=none:=I2.hok.fresh (Nat.le_refl _)
 have r3:=r2 s2.heap.objs.size hD
 have I3:Inv X pins σ (upd H2 s2.heap.objs.size (.lst [])) {s2 with heap:=s2.heap.push {cls:=.type "list",data:=.seq ([]:List Value).toArray}}:=
  I2.laid (t':=s2.toks) (fun b u q=>Heap.get?_push_of_some _ q) (Nat.le_refl _) ⟨Nat.zero_le _,[],0,.nil,Heap.get?_push_size _ rfl⟩
 refine wpAny_newObj_type (cV fun h₁ hns hsb hcs=>?_)
 dsimp only at hns hsb hcs ⊢
 have hfl0:∀ b∈fp,b < s2.heap.objs.size:=fun b hb=>by
  obtain⟨o,q,_⟩:=T.obj 0 _ st2 b hb
  exact Heap.lt_size q
 have neD:∀ b∈fp,b≠s2.heap.objs.size:=fun b hb=>Nat.ne_of_lt (hfl0 b hb)
 have f3:∀ b∈fp,ee X pins (upd H2 s2.heap.objs.size (.lst [])) b:=fun b hb=>⟨by rw[ay (neD b hb)];exact (f2 b hb).1,(f2 b hb).2⟩
 generalize hs3:({s2 with heap:=s2.heap.push {cls:=.type "list",data:=.seq ([]:List Value).toArray}}:Shared)=s3 at I3
 have es3:s3.heap=s2.heap.push {cls:=.type "list",data:=.seq ([]:List Value).toArray}:=by rw[← hs3]
 have hfl:∀ b∈fp,b < s3.heap.objs.size:=fun b hb=>by
  rw[es3,Heap.size_push]
  exact Nat.lt_succ_of_lt (hfl0 b hb)
 have hns':h₁.Ns s3.heap.objs.size (fun _=>none):=by rw[es3];exact hns
 have old:∀ b o,s3.heap.get? b=some o->h₁.get? b=some o:=fun b o q=>by
  rw[es3] at q
  exact hsb b o q
 have hcs':CellsOk h₁ (s3.heap.objs.size+1) (cellsFrom (s3.heap.objs.size+1) scope.names []):=by rw[es3];exact hcs
 have st3:tn 0 h₁:=T.keep _ _ _ st2 fun b hb o q=>old b o (by rw[es3];exact Heap.get?_push_of_some _ q)
 have IY0:=gx (tk:=s2.toks) S I3 f3 hfl hns' old hcs'
 have e4:({s3 with heap:=h₁,toks:=s2.toks}:Shared)={s2 with heap:=h₁,toks:=s2.toks}:=by rw[← hs3]
 rw[e4] at IY0
 have eC:s3.heap.objs.size=(s2.heap.push {cls:=.type "list",data:=.seq ([]:List Value).toArray}).objs.size:=by rw[es3]
 have hC3:s3.heap.get? s3.heap.objs.size=none:=Heap.get?_none_of_le (Nat.le_refl _)
 have hCs:s3.heap.objs.size∉cm X.stack:=fun hm=>by
  obtain⟨_,o,q,_⟩:=I3.stack.mem hm
  rw[hC3] at q
  cases q
 obtain⟨W,⟨m0,w0⟩,turn⟩:=r3
 generalize hY:ba X scope cl NY s3.heap.objs.size fp s3 (upd H2 s2.heap.objs.size (.lst []))=Y at IY0
 have hg':PG (Y.wx (XC Y E)) target g:=by rw[← hY];exact hg _ _ _ _
 have ht':nH (Y.wx (XC Y E)) ifs tt:=by rw[← hY];exact ht _ _ _ _
 have he':PE (Y.wx (XC Y E)) elt te:=by rw[← hY];exact he _ _ _ _
 have eE:Y.env=compEnvC scope (cellsFrom (s3.heap.objs.size+1) scope.names cl) s3.heap.objs.size X.env:=by rw[← hY];rfl
 have eP:Y.prog=X.prog:=by rw[← hY];rfl
 have eW:Y.w=X.w:=by rw[← hY];rfl
 have eA:Y.A=X.A:=by rw[← hY];rfl
 have eK:Y.K=X.K:=by rw[← hY];rfl
 have eL:Y.env.locals=s3.heap.objs.size:=by rw[← hY];rfl
 have eS:Y.stack=X.stack:=by rw[← hY];rfl
 have hcY:Y.calm=true:=by rw[← hY];exact hcalm
 have eex:Y.ex=fp:=by rw[← hY];rfl
 have efs:Y.fs=cm X.stack:=by rw[← hY];rfl
 have epn:Y.pn=[]:=by rw[← hY];rfl
 have endAt:∀ {pins':List (Addr×Obj)} {σ':St} {H5:Hp} {s6:Shared},Inv Y pins' σ' H5 s6->CompEnd X pins σ H5 s3.heap.objs.size s6:=fun {pins' σ' H5 s6} I6=>by
  subst hY
  have I7:Inv X pins σ H5 s6:=I3.call' (s':=s6) (ch:=fp) I6.os I6.base I6.hok I6.bare fun b hb=>⟨(f3 b hb).2.2.2.1,(f3 b hb).2.1,(f3 b hb).2.2.2.2.1,(f3 b hb).2.2.2.2.2⟩
  refine⟨I7,?_,I6.free,Nat.ne_of_gt I3.lt,I3.sz,fun x c e=>?_,fun p hp z=>?_⟩
  ·obtain⟨m,hn,_⟩:=I6.loc
   exact⟨m,hn⟩
  ·obtain⟨v,q⟩:=I3.cell x c e
   exact Nat.ne_of_lt q.lt
  ·have q:=(I3.pin p hp).1
   rw[z,hC3] at q
   cases q
 have loop:∀ s4:Shared,s4={s2 with heap:=h₁,toks:=s2.toks}->
   codeAny (model X.prog X.w) X.A (.compLoop (.ListComp elt [⟨target,iter,ifs,0⟩] scope pos) 0 (.ref it) (.ref s2.heap.objs.size) (compEnvC scope (cellsFrom (s3.heap.objs.size+1) scope.names cl) s3.heap.objs.size X.env)) (RR (.ref s2.heap.objs.size) s3.heap.objs.size) s4:=by
  rintro s4 rfl
  rw[← eE,← eP,← eW,← eA]
  have stat:∀ {H':Hp},(∀ b∈fp,H' b=none)->∀ b∈fp,ee (Y.wx (XC Y E)) [] H' b:=fun {H'} hn b hb=>by
   have hb':b∈Y.ex:=by rw[eex];exact hb
   exact⟨hn b hb,(IY0.ok.exf b hb').1,(IY0.ok.exfs b hb'),.inl hb',fun x c e=>(IY0.ok.exf b hb').2 x c e,fun p hp=>absurd (show p∈Y.pn++[] from hp) (by rw[epn];simp)⟩
  have T':=T
  rw[← eP,← eW,← eK] at T'
  refine ig (XC Y E) (fun n s'=>∃ i σ' ys H',Inv (Y.wx (XC Y E)) [] σ' H' s'/\tn i s'.heap/\(∀ b∈fp,H' b=none)/\W i n σ' ys H') ?_ ?_ m0
   ⟨0,_,[],_,IY0.wx,st3,fun b hb=>(f3 b hb).1,w0⟩
  ·rintro n s5 ⟨i,σ5,ys,H5,I5,st5,fr5,w5⟩
   obtain⟨hacc,alt⟩:=turn i n σ5 ys H5 w5
   rcases alt with⟨stop,qn⟩|⟨go,N,hN,step⟩
   ·refine aV (T'.done (Y.wx (XC Y E)) rfl rfl rfl hcY i [] s5 σ5 H5 _ I5 (stat fr5) st5 stop) fun r s6 ⟨hr,I6⟩=>?_
    subst hr
    exact hRR _ _ H5 s6 (endAt I6.unwx) qn
   ·refine aV (T'.item (Y.wx (XC Y E)) rfl rfl rfl hcY i [] s5 σ5 H5 _ I5 (stat fr5) st5 go) fun r s6 ⟨u,hr,h6⟩=>?_
    subst hr
    refine aV h6 fun _ s7 ⟨x,H7,I7,r7,y7,st7,fr7⟩=>?_
    have I7':=I7.pinned (stat fr7) (T.obj _ _ st7)
    have back:∀ {σ8:St} {ys8:List V} {H8:Hp} {s8:Shared},Inv (Y.wx (XC Y E)) ([]++dq fp s7.heap) σ8 H8 s8->N σ8 ys8 H8->
      ∃ m,m < n/\∃ i σ' ys H',Inv (Y.wx (XC Y E)) [] σ' H' s8/\tn i s8.heap/\(∀ b∈fp,H' b=none)/\W i m σ' ys H':=fun {σ8 ys8 H8 s8} I8 n8=>by
     obtain⟨m',hm,w8⟩:=hN σ8 ys8 H8 n8
     refine⟨m',hm,i+1,σ8,ys8,H8,I8.unpinned,T.keep _ _ _ st7 fun b hb o e=>(I8.pin (b,o) (List.mem_append_right _ (List.mem_append_right _ (bH hb e)))).1,fun b hb=>?_,w8⟩
     obtain⟨o,e,d⟩:=T.obj _ _ st7 b hb
     exact (I8.pin (b,o) (List.mem_append_right _ (List.mem_append_right _ (bH hb e)))).2.1
    refine aV (hg' _ s7 σ5 H7 x u _ I7' r7 (step x H7 y7)) fun _ s8 ⟨σ8,H8,I8,q8⟩=>?_
    refine aV (ht' _ s8 σ8 H8 _ I8 q8) fun ok s9 ⟨H9,I9,q9⟩=>?_
    cases ok with
    |false=>exact aB (back I9 q9)
    |true=>
     refine aL ?_
     refine aV (he' _ s9 σ8 H9 _ I9 q9) fun y s10 ⟨yv,H10,I10,r10,hD10,hz10,n10⟩=>?_
     refine aV (dt _ s10 σ8 H10 (.ref s2.heap.objs.size) [yv] (.ref s2.heap.objs.size) [y] (fun v H'=>v=.non/\H'=upd H10 s2.heap.objs.size (.lst (ys++[yv]))) I10 rfl (.cons r10 .nil) ⟨_,ys,yv,rfl,rfl,hD10,hz10,rfl,rfl⟩) fun _ s11 ⟨_,H11,I11,_,_,e11⟩=>?_
     subst e11
     exact back I11 n10
  ·rintro e s5 ⟨pins',σ',H5,s6,I6,hx⟩
   rw[eP,eW,eA,eE]
   rw[eP,eW,eS] at hx
   exact hXX (s2.heap.objs.size) _ H5 s6 e s5 (endAt I6) hCs hx
 have L1:=loop _ rfl
 rw[eC] at L1
 exact codeAny_compStart_list L1 (T.self _ 0 _ _ _ st3 L1)
end
section
variable {P:Program}{w:World}{K:PySem.W.Frag}{mg:Str->Option Value}{base:Heap}{N:List Str}{qual:Str}{scope:Scope}{f:Addr}{cd:Value}{A:Around}{outer:List Env}{s:Shared}{H:Hp}{E:XK}
 {scp:Scope} {cl:List (Str×Addr)} {NY:List Str} {idx:List (Option Nat)} {elt iter target:Expr} {ifs:List Expr} {pos:Pos} {wi:TI} {g:TG} {tt:TT} {te:TE}
theorem gI {pins:List (Addr×Obj)}{σ:St}{H1:Hp}{s1 s2:Shared}{C:Addr}{e:Value}{Q:Value->Shared->Prop}{acc:Value}(ce:CompEnd (bf (cc P w) P w K mg base N qual scope f cd A outer s H E) pins σ H1 C s1)(hC:C∉cm (envOfC qual scope s.heap.objs.size f cd::outer))
  (hx:cc P w (envOfC qual scope s.heap.objs.size f cd::outer) H1 s1 E e s2):
  notedBy (model P w) (bf (cc P w) P w K mg base N qual scope f cd A outer s H E).A (bf (cc P w) P w K mg base N qual scope f cd A outer s H E).env
   (fun e' s3=>compPost (model P w) (bf (cc P w) P w K mg base N qual scope f cd A outer s H E).A (bf (cc P w) P w K mg base N qual scope f cd A outer s H E).xe none Q acc C (.error e') s3) e s2:=by
 obtain⟨H',B,ea,cls,a0,rfl,fl,hE⟩:=hx
 have I:=ce.inv
 have hA:(bf (cc P w) P w K mg base N qual scope f cd A outer s H E).A.frames=some (envOfC qual scope s.heap.objs.size f cd::outer):=I.ok.frames
 refine wpAny_looks_onW hA (L:=s.heap.objs.size) rfl fl.fly fun h4 held up4=>?_
 obtain⟨m,nsC⟩:=ce.ns
 obtain⟨oC,es,ep,gC,dC,rC⟩:=id nsC
 have bC:B.get? C=some oC:=fl.keep C oC gC ce.free hC
 have cC:h4.get? C=some oC:=held.1 _ _ bC
 refine⟨m,⟨oC,es,ep,cC,dC,rC⟩,fun h5 sb cenv _=>?_⟩
 have hlt:∀ b o,s.heap.get? b=some o->b∉cm outer->b∉cm (envOfC qual scope s.heap.objs.size f cd::outer):=fun b o e hb hm=>by
  rcases List.mem_filterMap.mp hm with⟨env,he,hf⟩
  rcases List.mem_cons.mp he with rfl|he
  ·have:s.heap.objs.size=b:=Option.some.inj hf
   exact absurd (Heap.lt_size e) (by rw[this];exact Nat.lt_irrefl b)
  ·exact hb (List.mem_filterMap.mpr ⟨env,he,hf⟩)
 have hsub:∀ b,b∈cm outer->b∈cm (envOfC qual scope s.heap.objs.size f cd::outer):=fun b hb=>by
  rcases List.mem_filterMap.mp hb with⟨env,he,hf⟩
  exact List.mem_filterMap.mpr ⟨env,List.mem_cons_of_mem _ he,hf⟩
 have nC:∀ b o,s.heap.get? b=some o->b∉[C]:=fun b o q z=>by
  rw[List.mem_singleton.mp z] at q
  exact absurd (Heap.lt_size q) (Nat.not_lt.mpr ce.young)
 have eaC:ea≠C:=fun z=>by
  have:=held.2.1
  rw[z,bC] at this
  cases this
 have sB:(PySem.W.hideAll B [C]).StaysIn B:=fun b o q=>PySem.W.of_hideAll _ q
 have sB5:(PySem.W.hideAll B [C]).StaysIn h5:=fun b o q=>by
  have hb:b≠C:=fun z=>by
   rw[z,PySem.W.hideAll_none [C] (List.mem_singleton.mpr rfl)] at q
   cases q
  exact (sb.2 b hb).trans (held.1 b o (sB b o q))
 have ff5:h5.FunFrames (PySem.W.hideAll B [C]) (envOfC qual scope s.heap.objs.size f cd::outer):=eQ sB sb (fun env he z=>hC (List.mem_filterMap.mpr ⟨env,he,z⟩)) held.2.2.1
 obtain⟨oe,vs,T,oT,ts,e1,e2,e4,e5,e6,e7,e8,e9,e10⟩:=held.2.2.2
 have TC:T≠C:=fun z=>by rw[z,bC] at e6;cases e6
 have g1:h5.get? ea=some oe:=(sb.2 ea eaC).trans e1
 have g8:h5.get? T=some oT:=(sb.2 T TC).trans e8
 have hsz3:3 < ts.size:=(Array.getElem?_eq_some_iff.mp e10).1
 unfold PySem.passOn
 refine wpAny_bind (wpAny_field (s:={s2 with heap:=h5}) g1 e4 e5 ?_)
 rw[if_neg (by simp:¬ ((Value.ref T == Value.none)=true))]
 refine wpAny_bind ?_
 unfold setFlight
 refine wpAny_bind (wpAny_field (s:={s2 with heap:=h5}) g1 e4 e5 ?_)
 rw[if_pos (by simp:(Value.ref T != Value.none)=true)]
 refine wpAny_setField (s:={s2 with heap:=h5}) g8 e9 hsz3 ?_
 have ot:∀ (x:Value) b,b≠T->(h5.update T (Obj.mapFields (·.setIfInBounds 3 x))).get? b=h5.get? b:=fun x b hb=>Heap.get?_update_other _ _ (Ne.symm hb)
 have nr:∀ b o,h5.get? b=some o->(∀ vs,o.data≠.fields vs)->b≠T:=fun b o q nf z=>by
  rw[z,g8] at q
  cases q
  exact nf ts e9
 have eT:(PySem.W.hideAll B [C]).get? T=none:=PySem.W.fresh_of_stays sB e6
 refine wpAny_throw ?_
 show wpAny (model P w) _ (leaving (envOfC qual scope s.heap.objs.size f cd) (.ref ea)) _ _ _
 refine ie (B:=PySem.W.hideAll B [C]) (cls:=cls) (a0:=a0) (fl:=cenv.frame.elim Value.none fun f=>rawInt f) (L:=s.heap.objs.size) hA rfl (fun b o q=>(ot _ b fun z=>by rw[z,eT] at q;cases q).trans (sB5 b o q)) (PySem.W.fresh_of_stays sB held.2.1)
  (ff5.of_keeps fun b o q nf=>⟨o,(ot _ b (nr b o q nf)).trans q,rfl⟩) ⟨oe,vs,T,_,_,(ot _ ea (Ne.symm e7)).trans g1,e2,e4,e5,eT,e7,Heap.get?_update_self _ g8 (Obj.isFreed_of_fields (Obj.data_mapFields e9 _)),Obj.data_mapFields e9 _,by simp [hsz3]⟩ fun h7 fly7 up7=>?_
 refine⟨H',_,ea,cls,a0,rfl,⟨?_,fl.bare,fly7,fl.hok.hid (fun b hb=>?_),fun b o e n hb=>?_,fun b o e hb=>?_,fun b o e n hb=>?_,fun b o e n=>?_,fun b xs e=>?_,fun b o u e=>?_,fun b ps e=>?_⟩,hE⟩
 ·exact fl.os.trans I.os
 ·rw[List.mem_singleton.mp hb]
  exact fl.free C oC gC ce.free
 ·exact PySem.W.hideAll_get _ (fl.keep b o (I.base.keep b o e n hb (by intro z;cases z)) (I.base.free b o e n (by intro z;cases z)) (hlt b o e hb)) (nC b o e)
 ·obtain⟨o1,e1⟩:=I.base.there b o e (by intro z;cases z)
  obtain⟨o2,e2⟩:=fl.thr b o1 e1 (hlt b o e hb)
  exact⟨o2,PySem.W.hideAll_get _ e2 (nC b o e)⟩
 ·obtain⟨sl,e1⟩:=I.base.slot b o e n hb (by intro z;cases z)
  obtain⟨sl2,e2⟩:=fl.slotted up4 e1 (I.base.free b o e n (by intro z;cases z)) (hsub b hb)
  have e3:h5.get? b=some {o with slots:=sl2}:=(sb.2 b fun z=>nC b o e (List.mem_singleton.mpr z)).trans e2
  obtain⟨_,o1,q1,nf⟩:=ff5.mem (b:=b) (hsub b hb)
  rw[e3] at q1
  cases q1
  obtain⟨sl3,q3⟩:=up7 b _ ((ot _ b (nr b _ e3 nf)).trans e3) nf
  exact⟨sl3,q3⟩
 ·obtain⟨o1,e1⟩:=I.base.there b o e (by intro z;cases z)
  exact fl.free b o1 e1 (I.base.free b o e n (by intro z;cases z))
 ·exact fl.tups b xs (I.base.tups b xs e)
 ·exact fl.frzs b o u (I.base.frzs b o u e)
 ·obtain⟨m1,e1⟩:=I.base.tbls b ps e
  obtain⟨m2,e2⟩:=fl.tbls b _ e1
  exact⟨m1++m2,by rw[e2,Array.append_assoc]⟩
theorem gJ (S:CompSc (bf (cc P w) P w K mg base N qual scope f cd A outer s H E) scp cl NY idx)(hi:PI (bf (cc P w) P w K mg base N qual scope f cd A outer s H E) target iter wi)
  (hg:∀ C fp s₀ H₀,PG (bh (bf (cc P w) P w K mg base N qual scope f cd A outer s H E) E scp cl NY C fp s₀ H₀) target g) (ht:∀ C fp s₀ H₀,nH (bh (bf (cc P w) P w K mg base N qual scope f cd A outer s H E) E scp cl NY C fp s₀ H₀) ifs tt)
  (he:∀ C fp s₀ H₀,PE (bh (bf (cc P w) P w K mg base N qual scope f cd A outer s H E) E scp cl NY C fp s₀ H₀) elt te) (hs:∀ x,foldedSetIterable iter (bf (cc P w) P w K mg base N qual scope f cd A outer s H E).env x=pure x:=by intro _;rfl):
  PE (bf (cc P w) P w K mg base N qual scope f cd A outer s H E) (.ListComp elt [⟨target,iter,ifs,0⟩] scp pos) (fz idx wi g tt te):=by
 intro pins s1 σ H1 Q I h
 rw[eval_ListComp]
 refine wpAny_comprehension_free (use:=none) rfl hs S.clos S.kind S.names ?_
 refine jU (E:=E) (RR:=fun acc C=>compPost (model P w) (bf (cc P w) P w K mg base N qual scope f cd A outer s H E).A (bf (cc P w) P w K mg base N qual scope f cd A outer s H E).xe none (EP (bf (cc P w) P w K mg base N qual scope f cd A outer s H E) pins σ Q) acc C) rfl S hi hg ht he I h (fun D C H' s' e q=>?_) fun D C H' s' e s2 ce hC hx=>gI ce hC hx
 obtain⟨m,hn⟩:=e.ns
 exact⟨m,hn,fun h' hs'=>⟨.ref D,H',e.gone hs',rfl,q⟩⟩
theorem iY {X:Cx}{E:XK}{scp:Scope}{cl:List (Str×Addr)}{NY:List Str}{C:Addr}{fp:List Addr}{s₀:Shared}{H₀:Hp}{j k:Nat}{f':Addr}{fd:FuncData}{ps:List Str}{sp:Sp}{x:Str}{p pos:Pos}{e:Expr}{es:List Expr}{t:TA}(G:nI X.prog X.w X.K X.mg X.base j x f' fd ps sp)(hr:Room k X.A)(hjk:j<=k)
  (hg:Gl (bh X E scp cl NY C fp s₀ H₀) x) (ha:PA (bh X E scp cl NY C fp s₀ H₀) (e::es) t) (hdb:(x == ("__debug__":Str))=false:=by decide)
  (he:starEach (e::es) (bh X E scp cl NY C fp s₀ H₀).env=(false,eval e (bh X E scp cl NY C fp s₀ H₀).env)::starEach es (bh X E scp cl NY C fp s₀ H₀).env:=by rfl)
  (hpl:(backTo pos (starEach es (bh X E scp cl NY C fp s₀ H₀).env)).any (·.1)=false:=by rfl):
  PE (bh X E scp cl NY C fp s₀ H₀) (.Call (.Name x p) (e::es) [] pos) (gp sp [] E t):=
 fQ (X:=bh X E scp cl NY C fp s₀ H₀) G.ok (hr.mono hjk) hg G.at_ G.kp G.b .nil qT ha hdb he hpl
end
end L2
namespace L2
open PySem PySem.Spec PyProof.Rows Builtin.Str
section
variable {X:Cx}
theorem cM:nE X "str.split" (fun x vs H Q=>∃ a b:Str,x=.str a/\vs=[.str b]/\(b.length == 0)=false/\a.length<=1000000/\∀ l,H l=none->Q (.ref l) (upd H l (.lst ((Txt.split a b).map V.str)))):=by
 intro pins s σ H x vs v us Q I rx rv h
 obtain⟨a,b,rfl,rfl,hb,hz,q⟩:=h
 obtain⟨t,rfl⟩:=rx
 obtain⟨u,rfl,ru⟩:=bG rv
 obtain⟨t2,rfl⟩:=ru
 have hz':a.length<=sizeLine:=Nat.le_trans hz (by decide)
 have hl:=PyProof.Rows.split_le a b
 have key:∀ (l:List (Str×Tok)) (tk:Nat),l.map (·.1)=Txt.split a b->EP X pins σ Q (.ref s.heap.objs.size) {s with toks:=tk,heap:=s.heap.push {cls:=.type "list",data:=.seq (strValues l).toArray}}:=fun l tk e=>by
  refine⟨.ref s.heap.objs.size,_,I.laid (t':=tk) (o:=.lst ((Txt.split a b).map V.str)) (fun b o q=>Heap.get?_push_of_some _ q) (Nat.le_refl _) ⟨?_,strValues l,_,?_,Heap.get?_push_size _ rfl⟩,rfl,q _ (I.hok.fresh (Nat.le_refl _))⟩
  ·rw[List.length_map]
   exact Nat.le_trans hl (Nat.le_trans (Nat.add_le_add_right hz 2) (by decide))
  ·rw[← e]
   clear e
   induction l with
   |nil=>exact .nil
   |cons p r ih=>exact .cons ⟨_,rfl⟩ ih
 cases h1:(decide (a.length < b.length) || decide (strKind a < strKind b)) with
 |true=>exact call_meets F.slot_str_split (typeIs_str _ _ _) F.entry_str_split (F.args_str_split_2 _ _) (meets_str_split_cannot_occur a b t t2 h1) (key [(a,t)] s.toks (by unfold Txt.split;rw[if_pos h1];rfl))
 |false=>
  cases hf:(occurrences a b 0 a.length (a.length+1)).isEmpty with
  |true=>exact call_meets F.slot_str_split (typeIs_str _ _ _) F.entry_str_split (F.args_str_split_2 _ _) (meets_str_split_not_found a b t t2 h1 hb hf) (key [(a,t)] s.toks (by unfold Txt.split;rw[if_neg (by rw[h1];nofun),if_pos hf];rfl))
  |false=>
   have es:Txt.split a b=partsBetween a (occurrences a b 0 a.length (a.length+1)) b.length:=by
    unfold Txt.split
    rw[if_neg (by rw[h1];nofun),if_neg (by rw[hf];nofun)]
   refine call_meets F.slot_str_split (typeIs_str _ _ _) F.entry_str_split (F.args_str_split_2 _ _) (meets_str_split_sep a b t t2 h1 hb hf hz' (by rw[← es];exact Nat.le_trans hl (Nat.le_trans (Nat.add_le_add_right hz 2) (by decide)))) ?_
   show wants _ _ _ {s with toks:=_,heap:=s.heap.push {cls:=.type "list",data:=.seq (strsFrom s.toks (partsBetween a (occurrences a b 0 a.length (a.length+1)) b.length)).toArray}}
   rw[strsFrom_eq]
   exact key (numbered s.toks _) _ ((numbered_texts _ _).trans es.symm)
theorem ii:nE X "str.startswith" (fun x vs H Q=>∃ a b:Str,x=.str a/\vs=[.str b]/\Q (.bl (Txt.startswith a b)) H):=by
 intro pins s σ H x vs v us Q I rx rv h
 obtain⟨a,b,rfl,rfl,q⟩:=h
 obtain⟨t,rfl⟩:=rx
 obtain⟨u,rfl,ru⟩:=bG rv
 obtain⟨t2,rfl⟩:=ru
 exact SC.startswith ⟨.bl _,H,I,rfl,q⟩
theorem jV:nE X "str.index" (fun x vs H Q=>∃ (a b:Str) (i:Nat) (rest:List Nat),x=.str a/\vs=[.str b]/\occurrences a b 0 a.length 1=i::rest/\Q (.int i) H):=by
 intro pins s σ H x vs v us Q I rx rv h
 obtain⟨a,b,i,rest,rfl,rfl,ho,q⟩:=h
 obtain⟨t,rfl⟩:=rx
 obtain⟨u,rfl,ru⟩:=bG rv
 obtain⟨t2,rfl⟩:=ru
 exact SC.index ho ⟨.int i,H,I.tok _,⟨_,rfl⟩,q⟩
theorem jW:bN X (.type "int") (fun xs H Q=>∃ (a:Str) (n:Int),xs=[.str a]/\PySem.intText? a=some n/\a.length<=640/\Q (.int n) H):=by
 intro pins s σ H xs us Q I r h
 obtain⟨a,n,rfl,hn,hl,q⟩:=h
 obtain⟨u,rfl,ru⟩:=bG r
 obtain⟨t,rfl⟩:=ru
 exact PySem.W.KIN.call_text hn hl ⟨.int n,H,I.tok _,⟨_,rfl⟩,q⟩
theorem jX:bN X (.type "str") (fun xs H Q=>(∃ i,xs=[.int i]/\i.natAbs.log2 < 1920/\Q (.str (toString i)) H)\/∃ a,xs=[.str a]/\Q (.str a) H):=by
 intro pins s σ H xs us Q I r h
 rcases h with h|⟨a,rfl,q⟩
 ·exact c8 pins s σ H xs us Q I r h
 ·obtain⟨u,rfl,ru⟩:=bG r
  obtain⟨t,rfl⟩:=ru
  exact P.str_of_str ⟨.str a,H,I,⟨_,rfl⟩,q⟩
end
end L2
namespace OD
open PySem L2 PySem.NumText Builtin.Str
theorem aY {n:Nat}(h:n<=1000000):n < sizeLine:=Nat.lt_of_le_of_lt h (by decide)
theorem cf (a b:Str):decide (V.str a=V.str b)=decide (a.cps.toList=b.cps.toList):=
 decide_eq_decide.mpr ⟨fun z=>by rw[V.str.inj z],fun z=>congrArg V.str (by
  obtain⟨x⟩:=a
  obtain⟨y⟩:=b
  exact congrArg Str.mk (Array.toList_inj.mp z))⟩
def eR (l:List Nat):Bool:=l.head? == some 45
def aP (l:List Nat):List Nat:=if eR l=true then l.tail else l
def bT (c:Nat):Bool:=decide (48<=c/\c<=57)
def lg (l:List Nat):Option Int:=
 if ((aP l).isEmpty || !(aP l).all bT || decide (9 < (aP l).length) || (decide ((aP l).head?=some 48)&&!decide (l=[48])))=true then none
 else some (if eR l=true then -(digitsVal (aP l):Nat) else (digitsVal (aP l):Nat))
def bJ (t:Str):Option Int:=lg t.cps.toList
theorem mW (l:List Nat):(aP l).length<=l.length/\l.length<=(aP l).length+1:=by
 unfold aP
 split
 ·rw[List.length_tail];omega
 ·omega
theorem lh {t:Str}{n:Int}(h:bJ t=some n):PySem.intText? t=some n/\t.length<=10:=by
 unfold bJ lg at h
 split at h
 ·cases h
 rename_i hc
 have hc':((aP t.cps.toList).isEmpty || !(aP t.cps.toList).all bT || decide (9 < (aP t.cps.toList).length) || (decide ((aP t.cps.toList).head?=some 48)&&!decide (t.cps.toList=[48])))=false:=by
  simpa using hc
 simp only [Bool.or_eq_false_iff] at hc'
 obtain⟨⟨⟨c1,c2⟩,c3⟩,_⟩:=hc'
 have hl:t.length<=10:=by
  have e:t.cps.toList.length=t.length:=Array.length_toList
  have:=(mW t.cps.toList).2
  have:=of_decide_eq_false c3
  omega
 refine⟨?_,hl⟩
 have hne:aP t.cps.toList≠[]:=fun z=>by rw[z] at c1;cases c1
 have hd:AllDigits (aP t.cps.toList):=fun c hcm=>by
  have:(aP t.cps.toList).all bT=true:=by simpa using c2
  exact of_decide_eq_true (List.all_eq_true.mp this c hcm)
 have hl':t.length<=4300:=by omega
 injection h with h
 subst h
 cases hn:eR t.cps.toList with
 |true=>
  have e:t.cps.toList=45::aP t.cps.toList:=by
   unfold aP
   rw[hn,if_pos rfl]
   cases hx:t.cps.toList with
   |nil=>rw[hx] at hn;cases hn
   |cons a r=>
    rw[hx] at hn
    have:a=45:=by
     have:(some a == some 45)=true:=hn
     simpa using this
    rw[this];rfl
  rw[if_pos rfl]
  exact intText_neg e hd hne hl'
 |false=>
  have e:aP t.cps.toList=t.cps.toList:=by unfold aP;rw[hn];rfl
  rw[if_neg (by nofun)]
  rw[e] at hd hne ⊢
  exact intText_digits hd hne hl'
theorem ij (t:Str):Txt.startswith t (Str.ofString "-")=eR t.cps.toList:=by
 obtain⟨⟨l⟩⟩:=t
 cases l with
 |nil=>decide+kernel
 |cons a r=>
  unfold Txt.startswith subAt eR
  rw[show (Str.ofString "-":Str)=⟨#[45]⟩ from by decide+kernel]
  show (decide _&&(_ == _))=(some a == some 45)
  simp [Str.length]
theorem li (c:Nat):(!(occurrences (Str.ofString "0123456789") ⟨#[c]⟩ 0 (Str.ofString "0123456789").length 1).isEmpty)=bT c:=by
 rw[PySem.StrLaws.found_one]
 unfold bT
 rw[show (Str.ofString "0123456789").cps.toList=[48,49,50,51,52,53,54,55,56,57] from by decide+kernel]
 refine decide_eq_decide.mpr ⟨fun h=>?_,fun h=>?_⟩
 ·simp only [List.mem_cons,List.not_mem_nil,or_false] at h
  omega
 ·simp only [List.mem_cons,List.not_mem_nil,or_false]
  omega
theorem lj (c:Nat):(Str.ofString "0123456789").cps.contains c=bT c:=by
 rw[← li,PySem.StrLaws.found_one,Bool.eq_iff_iff,Array.contains_iff_mem,decide_eq_true_iff,Array.mem_toList_iff]
theorem pi:∀ d:Fin 10,occurrences (Str.ofString "0123456789") ⟨#[48+d.val]⟩ 0 (Str.ofString "0123456789").length 1=[d.val]:=by decide+kernel
theorem mY {c:Nat}(h:bT c=true):occurrences (Str.ofString "0123456789") ⟨#[c]⟩ 0 (Str.ofString "0123456789").length 1=[c - 48]:=by
 have h':=of_decide_eq_true h
 have:=pi ⟨c - 48,by omega⟩
 have e:48+(c - 48)=c:=by omega
 rw[show (48+(⟨c - 48,by omega⟩:Fin 10).val)=c from e] at this
 exact this
theorem eU (t:Str):Txt.slice t none (some 1)=⟨(t.cps.toList.take 1).toArray⟩:=by
 by_cases h:1<=t.length
 ·exact kY (by decide) (by omega)
 ·obtain⟨⟨l⟩⟩:=t
  cases l with
  |nil=>decide+kernel
  |cons a r=>exact absurd (by show 1<=(a::r).length;simp) h
theorem eV (t:Str):Txt.slice t (some 1) none=⟨t.cps.toList.tail.toArray⟩:=by
 by_cases h:1<=t.length
 ·rw[h8 (by decide) (by omega)]
  exact congrArg (fun l=>Str.mk (List.toArray l)) (List.drop_one)
 ·obtain⟨⟨l⟩⟩:=t
  cases l with
  |nil=>decide+kernel
  |cons a r=>exact absurd (by show 1<=(a::r).length;simp) h
section
variable {σ0:St}{H1:Hp}{D:Addr}{tt:TT}{te:TE}{Q:VK}
theorem jY {x:Str}(rest:St)(f:Nat->V)(e0:σ0=none::rest)(hD:H1 D=none)(hlen:x.length<=1000000)
  (ht:∀ (v:V) (H':Hp) (R:Bool->Hp->Prop),R true H'->tt (some v::rest) H' R)
  (he:∀ (c:Nat) (H':Hp) (R:VK),Same H1 H'->(∀ H'',Same H' H''->R (f c) H'')->te (some (.str ⟨#[c]⟩)::rest) H' R)
  (hq:∀ H2,Same H1 H2->H2 D=some (.lst (x.cps.toList.map f))->Q (.ref D) H2):dj (pb x) D (bF 0) tt te σ0 H1 Q:=by
 have hx:x.cps.toList.length=x.length:=Array.length_toList
 refine⟨fun i m σ ys H=>m=x.length - i/\i<=x.length/\(∃ v0,σ=v0::rest)/\ys=(x.cps.toList.take i).map f/\H D=some (.lst ys)/\Same H1 H,⟨_,rfl,Nat.zero_le _,⟨none,e0⟩,rfl,ad,ag hD _⟩,?_⟩
 rintro i m σ ys H ⟨rfl,hi,⟨v0,rfl⟩,hys,hd,k⟩
 refine⟨hd,?_⟩
 by_cases hlt:i < x.length
 ·refine .inr ⟨hlt,fun σ ys H=>(∃ v0,σ=v0::rest)/\ys=(x.cps.toList.take (i+1)).map f/\H D=some (.lst ys)/\Same H1 H,fun σ' ys' H' p'=>⟨_,by omega,rfl,hlt,p'⟩,fun v H' y=>?_⟩
  obtain⟨rfl,c,hc,rfl⟩:=y
  refine ht _ _ _ (aL (he c _ _ k fun H4 k4=>⟨k4 _ _ hd,?_,⟨_,rfl⟩,?_,ad,(k.trans k4).upd_new hD _⟩))
  ·rw[hys,List.length_map,List.length_take]
   exact aY (by omega)
  ·rw[List.take_add_one,Array.getElem?_toList,hc,List.map_append,← hys]
   rfl
 ·have e:i=x.length:=by omega
  refine .inl ⟨?_,hq _ k ?_⟩
  ·show x.cps.size<=i
   exact Nat.le_of_eq e.symm
  ·rw[hd,hys,List.take_of_length_le (by omega)]
end
end OD
namespace OD
open PySem L2 PySem.NumText Builtin.Str
theorem jZ {t:Str}{σ:St}{H:Hp}{Q:VK}(h0:σ[0]? =some (some (.str t))) (hz:t.length<=1000000) (h:∀ fg:Str,fg.cps.toList=aP t.cps.toList->fg.length<=1000000->Q (.str fg) H):
  if Txt.startswith t (Str.ofString "-")=true then pN kX (bU 0) (fv (tC (V.int 1))) cO σ H Q else bU 0 σ H Q:=by
 rw[ij]
 have hl:t.cps.toList.length=t.length:=Array.length_toList
 refine bE (fun c=>⟨_,h0,1,rfl,t,rfl,Nat.le_trans hz (by decide),?_⟩) fun c=>⟨_,h0,h t ?_ hz⟩
 ·rw[eV]
  refine h _ ?_ ?_
  ·unfold aP
   rw[if_pos c]
  ·show (t.cps.toList.tail.toArray).size<=_
   rw[List.size_toArray,List.length_tail]
   omega
 ·unfold aP
  rw[if_neg c]
theorem lm {α:Type}(l:List α)(f:α->Bool):(l.map fun x=>V.bl (f x)).all oZ=true/\(l.map fun x=>V.bl (f x)).any gA=l.any f:=by
 constructor
 ·rw[List.all_map]
  exact List.all_eq_true.mpr fun _ _=>rfl
 ·rw[List.any_map]
  rfl
theorem bP {t:Str}(h:aP t.cps.toList=[]\/(aP t.cps.toList).all bT=false\/9 < (aP t.cps.toList).length\/((aP t.cps.toList).head?=some 48/\t.cps.toList≠[48])):bJ t=none:=by
 unfold bJ lg
 refine if_pos ?_
 simp only [Bool.or_eq_true,Bool.and_eq_true,Bool.not_eq_true',decide_eq_true_eq,decide_eq_false_iff_not]
 rcases h with h|h|h|h
 ·exact .inl (.inl (.inl (by rw[h];rfl)))
 ·exact .inl (.inl (.inr h))
 ·exact .inl (.inr h)
 ·exact .inr h
theorem gK {t:Str}(h1:aP t.cps.toList≠[])(h2:(aP t.cps.toList).all bT=true)(h3:(aP t.cps.toList).length<=9)(h4:¬ ((aP t.cps.toList).head?=some 48/\t.cps.toList≠[48])):
  bJ t=some (if eR t.cps.toList=true then -((digitsVal (aP t.cps.toList):Nat):Int) else ((digitsVal (aP t.cps.toList):Nat):Int)):=by
 unfold bJ lg
 refine if_neg fun h=>?_
 simp only [Bool.or_eq_true,Bool.and_eq_true,Bool.not_eq_true',decide_eq_true_eq,decide_eq_false_iff_not] at h
 rcases h with ((h|h)|h)|h
 ·exact h1 (List.isEmpty_iff.mp h)
 ·rw[h2] at h;cases h
 ·omega
 ·exact h4 h
def cR {α β:Type}(f:α->Option β)(l:List α):Option (List β):=if l.all (fun a=>(f a).isSome)=true then some (l.filterMap f) else none
section
variable {α β:Type}{f:α->Option β}{l:List α}
theorem gL {a:α}(h:a∈l)(e:f a=none):cR f l=none:=if_neg fun z=>by
 have:=List.all_eq_true.mp z a h
 rw[e] at this
 cases this
theorem fZ (h:∀ a∈l,(f a).isSome=true):cR f l=some (l.filterMap f):=if_pos (List.all_eq_true.mpr h)
theorem fE {i:Nat}{a:α}{b:β}(h:l[i]? =some a) (e:f a=some b):(l.take (i+1)).filterMap f=(l.take i).filterMap f++[b]:=by
 rw[List.take_add_one,h,List.filterMap_append]
 show _++[a].filterMap f=_
 rw[List.filterMap_cons,e]
 rfl
theorem gM (i:Nat):((l.take i).filterMap f).length<=i:=Nat.le_trans (List.length_filterMap_le _ _) (by rw[List.length_take];omega)
theorem gN {i:Nat}{a:α}{P:α->Prop}(h:l[i]? =some a) (hp:∀ x∈l.take i,P x) (ha:P a):∀ x∈l.take (i+1),P x:=fun x hx=>by
 rw[List.take_add_one,h] at hx
 rcases List.mem_append.mp hx with w|w
 ·exact hp x w
 ·have:x=a:=by simpa using w
  rw[this]
  exact ha
end
theorem cw {x y s:Str}(h:s∈Txt.split x y):s.length<=x.length:=by
 unfold Txt.split at h
 have part:∀ i j,(strSub x i j).length<=x.length:=fun i j=>by
  show (x.cps.extract i j).size<=x.cps.size
  rw[Array.size_extract]
  omega
 split at h
 ·rw[List.mem_singleton.mp h];exact Nat.le_refl _
 ·split at h
  ·rw[List.mem_singleton.mp h];exact Nat.le_refl _
  ·unfold partsBetween at h
   obtain⟨p,_,rfl⟩:=List.mem_map.mp h
   exact part _ _
theorem cN (xs:List V)(h:xs.length<=1000000):cQ xs (some 1) none=xs.tail:=by
 unfold cQ
 have e1:HT.sIx xs.length 0 (some 1)=min 1 xs.length:=HT.sIx_nat _ 0 1
 have e2:HT.sIx xs.length xs.length none=xs.length:=rfl
 rw[e1,e2]
 cases xs with
 |nil=>rfl
 |cons a r=>
  have e3:min 1 (a::r).length=1:=by rw[List.length_cons];omega
  rw[e3]
  show (r.take ((a::r).length - 1))=r
  exact List.take_of_length_le (by rw[List.length_cons];omega)
theorem aG {α:Type}{a:α}{r:List α}:gg (a::r) 0=some a:=by
 unfold gg j8
 rw[if_pos (Int.le_refl 0),if_pos (by rw[List.length_cons];omega)]
 rfl
end OD
namespace OD
open PySem L2 PySem.NumText Builtin.Str
theorem mZ {x:Str}{g:TG}{tb:TS}{D:dN}{σ:St}{H:Hp}(Pv:Nat->St->Hp->Prop)(h0:Pv 0 σ H)
  (hs:∀ i c σ H,x.cps.toList[i]? =some c->Pv i σ H->g (.str ⟨#[c]⟩) σ H fun σ2 H2=>tb {D with nx:=Pv (i+1),ct:=Pv (i+1),bk:=D.nx} σ2 H2) (hd:∀ σ H,Pv x.length σ H->D.nx σ H):
  ∃ W:Nat->Nat->St->Hp->Prop,(∃ m,W 0 m σ H)/\∀ i m σ H,W i m σ H->
   ((pb x).stop i H/\D.nx σ H)\/((pb x).go i H/\∃ N:St->Hp->Prop,(∀ σ' H',N σ' H'->∃ m',m' < m/\W (i+1) m' σ' H')/\∀ v H',(pb x).yld i H v H'->g v σ H' fun σ2 H2=>tb {D with nx:=N,ct:=N,bk:=D.nx} σ2 H2):=by
 refine⟨fun i m σ H=>m=x.length - i/\i<=x.length/\Pv i σ H,⟨x.length,rfl,Nat.zero_le _,h0⟩,?_⟩
 rintro i m σ H ⟨rfl,hi,p⟩
 by_cases hlt:i < x.length
 ·refine .inr ⟨hlt,Pv (i+1),fun σ' H' p'=>⟨x.length - (i+1),by omega,rfl,hlt,p'⟩,fun v H' y=>?_⟩
  obtain⟨rfl,c,hc,rfl⟩:=y
  exact hs i c σ _ (by rw[Array.getElem?_toList];exact hc) p
 ·have e:i=x.length:=by omega
  exact .inl ⟨Nat.le_of_eq e.symm,hd σ H (by rw[← e];exact p)⟩
def cS (t:Str):V:=match bJ t with
 |some n=>.int n
 |none=>.non
theorem j0 (ss:List Str):(ss.map cS).all cT=true:=by
 rw[List.all_map]
 refine List.all_eq_true.mpr fun s _=>?_
 show cT (cS s)=true
 unfold cS
 cases bJ s<;>rfl
theorem gO (n:Int):ki (.int n) .non=false:=rfl
theorem gP:ki .non .non=true:=rfl
theorem m5 (ss:List Str):kl .non (ss.map cS)=!ss.all fun a=>(bJ a).isSome:=by
 unfold kl
 rw[List.any_map,List.any_eq_not_all_not]
 congr 1
 refine List.all_congr rfl fun s=>?_
 show (!ki (cS s) .non)=_
 unfold cS
 cases bJ s with
 |none=>rw[gP];rfl
 |some n=>rw[gO];rfl
theorem fF {ss:List Str}{ns:List Int}(h:cR bJ ss=some ns):ss.map cS=ns.map V.int:=by
 unfold cR at h
 split at h
 ·rename_i hc
  injection h with h
  subst h
  have hc':=List.all_eq_true.mp hc
  clear hc
  induction ss with
  |nil=>rfl
  |cons a r ih=>
   obtain⟨n,hn⟩:=Option.isSome_iff_exists.mp (hc' a List.mem_cons_self)
   rw[List.map_cons,List.filterMap_cons,hn,ih fun x hx=>hc' x (List.mem_cons_of_mem _ hx)]
   show cS a::_=V.int n::_
   unfold cS
   rw[hn]
 ·cases h
theorem gQ {l:List Nat}{i c:Nat}(h:l[i]? =some c):digitsVal (l.take (i+1))=digitsVal (l.take i)*10+(c - 48):=by
 rw[List.take_add_one,h]
 exact digitsVal_snoc _ _
theorem bo {A B:TS}{D:dN}{σ:St}{H:Hp}(h:∀ N:St->Hp->Prop,(∀ σ' H',B D σ' H'->N σ' H')->A {D with nx:=N} σ H):gW A B D σ H:=h (fun σ H=>B D σ H) (fun _ _ z=>z)
end OD
namespace L2
open PySem PySem.Spec PyProof.Rows
end L2
namespace OD
open PySem L2 Builtin.Str
def dl (i:Int):Str:=Str.ofString (toString i)
theorem ln {i:Int}{n:Nat}(h:i.natAbs<=n):(dl i).length<=n+2:=by
 have:=PyProof.Rows.len_str_of_int i
 unfold dl
 omega
theorem iZ {i:Int}{n:Nat}(h:i.natAbs<=n)(hn:n < 2 ^ 64):i.natAbs.log2 < 1920:=by
 by_cases h0:i.natAbs=0
 ·rw[h0];decide
 ·have h1:=(Nat.log2_lt h0 (k:=64)).mpr (by omega)
  omega
theorem f_ {ss:List Str}{n:Nat}(h:∀ s∈ss,s.length<=n):(ss.map (·.length)).sum<=ss.length*n:=by
 induction ss with
 |nil=>exact Nat.zero_le _
 |cons a r ih=>
  rw[List.map_cons,List.sum_cons,List.length_cons,Nat.succ_mul]
  have h1:=h a List.mem_cons_self
  have h2:=ih fun s hs=>h s (List.mem_cons_of_mem _ hs)
  omega
theorem dm (sep:Str)(ss:List Str):(Txt.join sep ss).length=(ss.map (·.length)).sum+(ss.length - 1)*sep.length:=PySem.size_glued sep ss
theorem gb {sep:Str}{ss:List Str}{n m:Nat}(h:∀ s∈ss,s.length<=n)(hl:ss.length<=m)(hs:sep.length=1):(Txt.join sep ss).length<=m*(n+1):=by
 rw[dm,hs]
 have h1:=f_ h
 have h2:ss.length*(n+1)<=m*(n+1):=Nat.mul_le_mul_right _ hl
 rw[Nat.mul_succ] at h2
 omega
theorem eX:(Str.ofString " ").length=1:=by decide+kernel
theorem gc:(Str.ofString "\n").length=1:=by decide+kernel
theorem ik (x y:Str):Txt.join y (Txt.split x y)=x:=by
 unfold Txt.split Txt.join
 split
 ·unfold glued;rfl
 ·split
  ·unfold glued;rfl
  ·exact PySem.StrLaws.glued_between_self x y _
theorem j1 (x y:Str)(h:y.length=1):((Txt.split x y).map (·.length)).sum+(Txt.split x y).length<=x.length+1:=by
 have e:=congrArg Str.length (ik x y)
 rw[dm,h] at e
 have:=PyProof.Rows.split_pos x y
 omega
theorem i0 (o:Str):∀ (ws:List Str) (j:Nat),((ws.set j o).map (·.length)).sum<=(ws.map (·.length)).sum+o.length
 |[],_=>Nat.zero_le _
 |a::r,0=>by
  rw[List.set_cons_zero,List.map_cons,List.map_cons,List.sum_cons,List.sum_cons]
  omega
 |a::r,j+1=>by
  rw[List.set_cons_succ,List.map_cons,List.map_cons,List.sum_cons,List.sum_cons]
  have:=i0 o r j
  omega
end OD
namespace OD
open PySem L2 PySem.NumText Builtin.Str
def aw (w:Str)(x:String):Bool:=decide (V.str w=V.str (Str.ofString x))
theorem cx {w:Str}{x:String}(h:aw w x=true):w=Str.ofString x:=V.str.inj (of_decide_eq_true h)
theorem cy {w:Str}{x y:String}(h:aw w x=true)(n:aw (Str.ofString x) y=false):aw w y=false:=by rw[cx h];exact n
abbrev Ln:=Str×List Int
def LnA (H:Hp)(L:Ln)(v:V):Prop:=∃ p,v=.ref p/\((aw L.1 "hits"=true/\∃ q,H p=some (.tup [.str L.1,.ref q])/\H q=some (.tup (L.2.map V.int)))\/(aw L.1 "hits"=false/\H p=some (.tup (.str L.1::L.2.map V.int))))
def gh (L:Ln):PyData:=if aw L.1 "hits"=true then .tuple [.str L.1,.tuple (L.2.map .int)] else .tuple (.str L.1::L.2.map .int)
def pj (h:Str)(ls:List Ln):PyData:=.tuple [.str h,.list (ls.map gh)]
theorem LnA.mono {H H':Hp}{L:Ln}{v:V}(h:LnA H L v)(k:Same H H'):LnA H' L v:=by
 obtain⟨p,e,h⟩:=h
 refine⟨p,e,?_⟩
 rcases h with⟨a,q,b,c⟩|⟨a,b⟩
 ·exact .inl ⟨a,q,k _ _ b,k _ _ c⟩
 ·exact .inr ⟨a,k _ _ b⟩
theorem LnA.upd {H:Hp}{L:Ln}{v:V}{q:Addr}{xs:List V}{o:HO}(h:LnA H L v)(hq:H q=some (.lst xs)):LnA (upd H q o) L v:=by
 have ne:∀ {p ys},H p=some (.tup ys)->p≠q:=fun {p ys} z e=>by rw[e,hq] at z;cases z
 obtain⟨p,e,h⟩:=h
 refine⟨p,e,?_⟩
 rcases h with⟨a,q',b,c⟩|⟨a,b⟩
 ·exact .inl ⟨a,q',by rw[ay (ne b)];exact b,by rw[ay (ne c)];exact c⟩
 ·exact .inr ⟨a,by rw[ay (ne b)];exact b⟩
abbrev LnAs (H:Hp):List Ln->List V->Prop:=Paired (LnA H)
theorem LnAs.mono {H H':Hp}(k:Same H H'):∀ {ls:List Ln} {xs:List V},LnAs H ls xs->LnAs H' ls xs
 |_,_,.nil=>.nil
 |_,_,.cons h t=>.cons (h.mono k) (LnAs.mono k t)
theorem LnAs.upd {H:Hp}{q:Addr}{ys:List V}{o:HO}(hq:H q=some (.lst ys)):∀ {ls:List Ln} {xs:List V},LnAs H ls xs->LnAs (upd H q o) ls xs
 |_,_,.nil=>.nil
 |_,_,.cons h t=>.cons (h.upd hq) (LnAs.upd hq t)
theorem LnAs.get {H:Hp}:∀ {ls:List Ln} {xs:List V} {j:Nat} {v:V},LnAs H ls xs->xs[j]? =some v->∃ L,ls[j]? =some L/\LnA H L v
 |_,_,_,_,.nil,e=>by cases e
 |_,_,0,_,.cons h _,e=>⟨_,rfl,by have e':=Option.some.inj e;subst e';exact h⟩
 |_,_,j+1,v,.cons _ t,e=>by
  obtain⟨c,h1,h2⟩:=LnAs.get (j:=j) (v:=v) t (by simpa using e)
  exact⟨c,by simpa using h1,h2⟩
theorem LnA.rd {H:Hp}{L:Ln}{v:V}(h:LnA H L v):RD H (gh L) v:=by
 obtain⟨p,rfl,h⟩:=h
 unfold gh
 rcases h with⟨a,q,b,c⟩|⟨a,b⟩
 ·rw[if_pos a]
  exact dz b (bp (hU _) (bp (dz c (cF _)) cr))
 ·rw[if_neg (by rw[a];nofun)]
  exact dz b (bp (hU _) (cF _))
theorem LnAs.rds {H:Hp}:∀ {ls:List Ln} {xs:List V},LnAs H ls xs->dQ H (ls.map gh) xs
 |_,_,.nil=>cr
 |_,_,.cons h t=>bp h.rd (LnAs.rds t)
theorem eY {H:Hp}{p q:Addr}{h:Str}{ls:List Ln}{xs:List V}(hp:H p=some (.tup [.str h,.ref q]))(hq:H q=some (.lst xs))(hl:LnAs H ls xs):RD H (pj h ls) (.ref p):=
 dz hp (bp (hU h) (bp (di hq hl.rds) cr))
def wOk (w:Str):Prop:=aw w "join"=true\/aw w "drop"=true\/aw w "given"=true\/aw w "hits"=true
theorem wOk.str {w:Str}(h:wOk w):PyData.strOk w=true:=by
 rcases h with h|h|h|h<;>rw[cx h]<;>decide+kernel
theorem wOk.len {w:Str}(h:wOk w):w.length<=5:=by
 rcases h with h|h|h|h<;>rw[cx h]<;>decide+kernel
def hOk (h:Str):Prop:=aw h "wisher"=true\/aw h "spoiler"=true
theorem hOk.str {w:Str}(h:hOk w):PyData.strOk w=true:=by
 rcases h with h|h<;>rw[cx h]<;>decide+kernel
theorem hOk.len {w:Str}(h:hOk w):w.length<=7/\1<=w.length:=by
 rcases h with h|h<;>rw[cx h]<;>decide+kernel
theorem lp {L:Ln}(h:wOk L.1):(gh L).canLay0=true/\(gh L).depth<=2:=by
 unfold gh
 have e1:=PySem.W.ke_canLayAll0 L.2
 have e2:=PySem.W.ke_depthAll L.2
 split
 ·constructor
  ·show (PyData.strOk L.1&&(PyData.canLayAll0 (L.2.map PyData.int)&&true))=true
   rw[h.str,e1];rfl
  ·show max 0 (max (PyData.depthAll (L.2.map PyData.int)+1) 0)+1<=2
   rw[e2];decide
 ·constructor
  ·show (PyData.strOk L.1&&PyData.canLayAll0 (L.2.map PyData.int))=true
   rw[h.str,e1];rfl
  ·show max 0 (PyData.depthAll (L.2.map PyData.int))+1<=2
   rw[e2];decide
theorem i3:∀ {ls:List Ln},(∀ L∈ls,wOk L.1)->PyData.canLayAll0 (ls.map gh)=true/\PyData.depthAll (ls.map gh)<=2
 |[],_=>⟨rfl,Nat.zero_le _⟩
 |L::r,h=>by
  obtain⟨a,b⟩:=lp (h L List.mem_cons_self)
  obtain⟨c,d⟩:=i3 fun x hx=>h x (List.mem_cons_of_mem _ hx)
  constructor
  ·show ((gh L).canLay0&&PyData.canLayAll0 (r.map gh))=true
   rw[a,c];rfl
  ·show max (gh L).depth (PyData.depthAll (r.map gh))<=2
   omega
theorem eZ {h:Str}{ls:List Ln}(hh:hOk h)(hl:∀ L∈ls,wOk L.1):SeqAt.shaped (pj h ls)=true:=by
 obtain⟨a,b⟩:=i3 hl
 refine jN ?_ ?_
 ·show (PyData.strOk h&&(PyData.canLayAll0 (ls.map gh)&&true))=true
  rw[hh.str,a];rfl
 ·show max 0 (max (PyData.depthAll (ls.map gh)+1) 0)+1<=64
  omega
def ge (w hd:Str)(ns:List Int):Bool:=match ns with
 |[a]=>decide (0<=a)&&((aw w "given"&&aw hd "spoiler") || aw w "drop")
 |[a,b,v]=>aw w "join"&&(decide (0<=a)&&(decide (0<=b)&&decide (1<=v)))
 |_=>false
def br (hd w:Str)(ns:List Int):Bool:=if aw w "hits"=true then aw hd "wisher"&&ci 1000000000 0 (ns.map PyData.int) else ge w hd ns
def bu (hd row:Str):Option Ln:=(cR bJ (Txt.split row (Str.ofString " ")).tail).bind fun ns=>if br hd ((Txt.split row (Str.ofString " ")).headD Str.empty) ns=true then some ((Txt.split row (Str.ofString " ")).headD Str.empty,ns) else none
def bK (x:Str):Option (Str×List Ln):=if (aw ((Txt.split x (Str.ofString "\n")).headD Str.empty) "wisher" || aw ((Txt.split x (Str.ofString "\n")).headD Str.empty) "spoiler")=true then (cR (bu ((Txt.split x (Str.ofString "\n")).headD Str.empty)) (Txt.split x (Str.ofString "\n")).tail).map fun ls=>((Txt.split x (Str.ofString "\n")).headD Str.empty,ls) else none
theorem gR {hd row w:Str}{ps:List Str}(h:Txt.split row (Str.ofString " ")=w::ps):bu hd row=(cR bJ ps).bind fun ns=>if br hd w ns=true then some (w,ns) else none:=by
 unfold bu
 rw[h]
 rfl
theorem fG {x r:Str}{rs:List Str}(h:Txt.split x (Str.ofString "\n")=r::rs):bK x=if (aw r "wisher" || aw r "spoiler")=true then (cR (bu r) rs).map fun ls=>(r,ls) else none:=by
 unfold bK
 rw[h]
 rfl
theorem m6 {hd w:Str}{ns:List Int}(h:br hd w ns=true):wOk w:=by
 unfold br at h
 split at h
 ·rename_i e
  exact .inr (.inr (.inr e))
 ·unfold ge at h
  split at h
  ·simp only [Bool.and_eq_true,Bool.or_eq_true] at h
   rcases h.2 with z|z
   ·exact .inr (.inr (.inl z.1))
   ·exact .inr (.inl z)
  ·exact .inl (Bool.and_eq_true_iff.mp h).1
  ·cases h
theorem gf {hd row:Str}{L:Ln}(h:bu hd row=some L):wOk L.1:=by
 unfold bu at h
 obtain⟨ns,_,h⟩:=Option.bind_eq_some_iff.mp h
 split at h
 ·rename_i hb
  cases h
  exact m6 hb
 ·cases h
theorem j2 {x h:Str}{ls:List Ln}(e:bK x=some (h,ls)):hOk h/\∀ L∈ls,wOk L.1:=by
 unfold bK at e
 split at e
 ·rename_i hc
  obtain⟨ls',h1,h2⟩:=Option.map_eq_some_iff.mp e
  cases h2
  refine⟨Bool.or_eq_true_iff.mp hc,fun L hL=>?_⟩
  unfold cR at h1
  split at h1
  ·injection h1 with h1
   rw[← h1] at hL
   obtain⟨a,_,ha⟩:=List.mem_filterMap.mp hL
   exact gf ha
  ·cases h1
 ·cases e
theorem fH:∀ {cs:List Nat} {a:Nat},(∀ c∈cs,c<=57)->cs.foldl (fun acc c=>acc*10+(c - 48)) a < (a+1)*10 ^ cs.length
 |[],a,_=>by simp
 |c::r,a,h=>by
  have h1:=h c List.mem_cons_self
  have h2:=fH (cs:=r) (a:=a*10+(c - 48)) fun x hx=>h x (List.mem_cons_of_mem _ hx)
  refine Nat.lt_of_lt_of_le h2 ?_
  rw[List.length_cons,Nat.pow_succ,Nat.mul_comm (10 ^ r.length) 10,← Nat.mul_assoc]
  exact Nat.mul_le_mul_right _ (by omega)
theorem pk {t:Str}{n:Int}(h:bJ t=some n):bb n < 1000000000:=by
 unfold bJ lg at h
 split at h
 ·cases h
 rename_i hc
 injection h with h
 simp only [Bool.or_eq_true,not_or,Bool.not_eq_true] at hc
 obtain⟨⟨⟨c1,c2⟩,c3⟩,_⟩:=hc
 have c3':=of_decide_eq_false c3
 have c2':(aP t.cps.toList).all bT=true:=by simpa using c2
 have hd:=fH (cs:=aP t.cps.toList) (a:=0) fun c hcm=>(of_decide_eq_true (List.all_eq_true.mp c2' c hcm)).2
 have hp:10 ^ (aP t.cps.toList).length<=10 ^ 9:=Nat.pow_le_pow_right (by decide) (by omega)
 have hv:digitsVal (aP t.cps.toList) < 1000000000:=by
  unfold digitsVal
  omega
 unfold bb
 subst h
 split<;>split<;>omega
theorem fI {m1 m2:Int}:∀ {ns:List Int} {b:Int},(∀ n∈ns,bb n<=m1)->(∀ n∈ns,bb n<=m2)->ci m1 b (ns.map PyData.int)=ci m2 b (ns.map PyData.int)
 |[],_,_,_=>rfl
 |n::r,b,h1,h2=>by
  have a1:=h1 n List.mem_cons_self
  have a2:=h2 n List.mem_cons_self
  rw[List.map_cons,dk,dk,fI (fun x hx=>h1 x (List.mem_cons_of_mem _ hx)) fun x hx=>h2 x (List.mem_cons_of_mem _ hx)]
  by_cases hb:b < bb n
  ·rw[if_pos ⟨hb,a1⟩,if_pos ⟨hb,a2⟩]
  ·rw[if_neg fun z=>hb z.1,if_neg fun z=>hb z.1]
end OD
namespace K86
open PySem L2 OD
def dn (i:Nat):Stmt:=PySem.Challenge.pw_oathduel_k86_papers_written_down.main.body.getD i (.Pass ⟨0,0,0,0⟩)
abbrev lq:Stmt:=dn 30
abbrev il:Stmt:=dn 32
abbrev pp:Stmt:=dn 38
abbrev lr:Stmt:=dn 39
structure re (mg:Str->Option Value):Prop where
 len:mg "len"=none
 range:mg "range"=none
 tuple:mg "tuple"=none
 list:mg "list"=none
 sorted:mg "sorted"=none
 sum:mg "sum"=none
def im (K:PySem.W.Frag):Sp:=fun vs H Q _=>∃ (a:Addr) (ns:List Int) (k:Int),vs=[.ref a,.int k]/\SqL K H a (ns.map V.int)/\0<=k/\∀ c:Int,Q (.int c) H
def dY:Sp:=fun vs H Q _=>∃ c k:Int,vs=[.int c,.int k]/\∀ m:Int,0<=m->m < 2147483587->Q (.int m) H
structure dF (L:Ln):Prop where
 w:wOk L.1
 ll:L.2.length<=5
 nl:∀ n∈L.2,n.natAbs<=99
def nK:Sp:=fun vs H Q _=>∃ (c k:Int) (hd:Str),vs=[.int c,.int k,.str hd]/\∀ (p:Addr) (L:Ln) (H':Hp),Same H H'->LnA H' L (.ref p)->dF L->Q (.ref p) H'
def lu (K:PySem.W.Frag):Sp:=fun vs H Q _=>∃ (a:Addr) (ns:List Int),vs=[.ref a]/\SqL K H a (ns.map V.int)/\ns.length<=63/\
 ∀ (p q:Addr) (xs:List V) (h:Str) (ls:List Ln) (H':Hp),Same H H'->H' p=some (.tup [.str h,.ref q])->H' q=some (.lst xs)->LnAs H' ls xs->hOk h->ls.length<=16->(∀ L∈ls,dF L)->Q (.ref p) H'
theorem j3 {X:Cx}{K:PySem.W.Frag}(e:X.K=K)(hc:X.calm=true):bN X (.builtin "sum") (fun xs H Q=>∃ (p:Addr) (ns:List Int),xs=[.ref p]/\SqL K H p (ns.map V.int)/\Q (.int ns.sum) H):=by
 subst e
 exact kH hc
theorem io {X:Cx}{K:PySem.W.Frag}(e0:X.K=K){e:Expr}{te:TE}{lo hi:Option Expr}{est:Expr}{tl th ts:TO}{p2 pos:Pos}(he:PE X e te)(hl:PO X lo tl)(hu:PO X hi th)(hst:PO X (some est) ts):
  PE X (.Subscript e (.Slice lo hi (some est) p2) pos) (fun σ H Q=>te σ H fun x H1=>tl σ H1 fun l H2=>th σ H2 fun u H3=>ts σ H3 fun c H4=>qH K x l u c H4 Q):=by
 subst e0
 exact jL he hl hu hst
section
variable {P:Program}{w:World}{K:PySem.W.Frag}{mg:Str->Option Value}{base:Heap}
theorem pq:az ["_law_script","_law_k"] ["_law_script","_law_k"] (am lq):=⟨rfl,rfl,rfl,by decide+kernel,rfl,by decide+kernel,by decide+kernel⟩
theorem m7 {f:Addr}{fd:FuncData}(F:Fun K "_law_cell_at" "_law_cell_at" lq f fd)(T:re mg):aW P w K mg base cU 1 f fd ["_law_script","_law_k"] (im K):=by
 refine F.ok pq (fun vs H Q E h=>?_) (fun cdv A outer s H vs Q E hr h=>?_)
 ·obtain⟨a,ns,k,rfl,_⟩:=h
  rfl
 obtain⟨a,ns,k,rfl,hS,h0,q⟩:=h
 refine⟨_,(af (aD (ak fk (pv 1) (ai aN rfl T.len PySem.boot_len (aa (pv 0) ae)) (al _)) (ah (aq (ax ap (pv 0) (pv 1) (fun _ _=>rfl)))) ar)
  (ah (aq ac))),?_⟩
 refine⟨_,rfl,_,rfl,.ref a,_,rfl,.inl ⟨_,hS,rfl⟩,_,_,rfl,rfl,_,rfl,?_⟩
 refine bE (fun c=>?_) (fun c=>?_)
 ·have c':k < (((ns.map V.int).length:Nat):Int):=of_decide_eq_true c
  rw[List.length_map] at c'
  obtain⟨v,_,hv⟩:=kE (ns:=ns) h0 c'
  exact⟨_,rfl,_,rfl,.inl ⟨a,_,k,.int v,rfl,rfl,hS,hv,q v⟩⟩
 ·exact q 0
theorem i4:az ["_law_cell","_law_k","_law_number_here"] ["_law_cell","_law_k"] (am il):=⟨rfl,rfl,rfl,by decide+kernel,rfl,by decide+kernel,by decide+kernel⟩
theorem lw {f:Addr}{fd:FuncData}(F:Fun K "_law_mixed" "_law_mixed" il f fd):aW P w K mg base cU 1 f fd ["_law_cell","_law_k"] dY:=by
 have sc:=i4
 refine F.ok i4 (fun vs H Q E h=>?_) (fun cdv A outer s H vs Q E hr h=>?_)
 ·obtain⟨c,k,rfl,_⟩:=h
  rfl
 obtain⟨c,k,rfl,q⟩:=h
 refine⟨_,(af (au (i:=2) sc.nd rfl (Or.inl rfl) (ao aF (ao bn (ao bn (ao cA (ao aF (pv 0) ac) ac) (ao cA (pv 1) ac)) ac) ac))
  (af (au (i:=2) sc.nd rfl (Or.inl rfl) (ao aF (ao cA (pv 2) (pv 2)) ac))
  (ah (aq (ao aF (ao cA (pv 2) (pv 2)) ac))))),?_⟩
 refine⟨_,rfl,_,_,rfl,rfl,(by show (0:Int) < 2147483647;decide),_,_,rfl,rfl,.inr ⟨by decide,by decide⟩,_,rfl,_,_,rfl,rfl,.inr ⟨by decide,by decide⟩,_,_,rfl,rfl,_,_,rfl,rfl,_,_,rfl,rfl,(by show (0:Int) < 2147483647;decide),?_⟩
 have b1:=Int.emod_nonneg (c % 2147483647*48271+k*69621+11) (show (2147483647:Int)≠0 by decide)
 have b2:=Int.emod_lt_of_pos (c % 2147483647*48271+k*69621+11) (show (0:Int) < 2147483647 by decide)
 generalize (c % 2147483647*48271+k*69621+11) % 2147483647=n at b1 b2
 refine⟨_,rfl,_,rfl,_,_,rfl,rfl,.inl ⟨by omega,by omega⟩,_,_,rfl,rfl,(by show (0:Int) < 2147483629;decide),?_⟩
 have d1:=Int.emod_nonneg (n*n) (show (2147483629:Int)≠0 by decide)
 have d2:=Int.emod_lt_of_pos (n*n) (show (0:Int) < 2147483629 by decide)
 generalize n*n % 2147483629=o at d1 d2
 refine⟨_,rfl,_,rfl,_,_,rfl,rfl,.inl ⟨by omega,by omega⟩,_,_,rfl,rfl,(by show (0:Int) < 2147483587;decide),?_⟩
 exact q _ (Int.emod_nonneg _ (by decide)) (Int.emod_lt_of_pos _ (by decide))
theorem ip {H:Hp}{d l D:Addr}{n:Int}{ps:List (Int×Int)}{ks:List Int}{Q:VK}(hd:H d=some (.dK (dP ps)))(hok:DOk n ps)(hn:n < 1000)(hlen:ps.length<=60)(hl:H l=none)(hp:ks.Perm (ps.map (·.1)))(hD:upd H l (.lst (ks.map V.int)) D=none)(σ0:St)(e0:σ0=[none,some (.ref d)])
  (hq:Q (.ref D) (upd (upd H l (.lst (ks.map V.int))) D (.lst ((ks.map fun k=>k*kK ps k).map V.int)))):
  dj (mv K l) D (bF 0) pP (jw (rI CMul fun i j=>.int (i*j)) (bU 0) (nG (bU 1) (bU 0))) σ0 (upd H l (.lst (ks.map V.int))) Q:=by
 have nld:d≠l:=av hd hl
 have hd1:upd H l (.lst (ks.map V.int)) d=some (.dK (dP ps)):=by rw[ay nld];exact hd
 have nD:d≠D:=av hd1 hD
 have nl:l≠D:=av ad hD
 have hkl:ks.length=ps.length:=by rw[hp.length_eq,List.length_map]
 refine bd (K:=K) (a:=l) (xs:=ks.map V.int) (fun i σ ys H2=>(∃ v0,σ=[v0,some (.ref d)])/\ys=((ks.take i).map fun k=>V.int (k*kK ps k))/\H2=upd (upd H l (.lst (ks.map V.int))) D (.lst ys))
  ⟨⟨none,e0⟩,rfl,rfl⟩ ?_ ?_ ?_
 ·rintro i σ ys H2 _ ⟨_,_,rfl⟩
  exact⟨ad,SqL.of (by rw[ay nl];exact ad)⟩
 ·rintro i x σ ys H2 hx ⟨⟨v0,rfl⟩,hys,rfl⟩
  obtain⟨k,rfl,hk⟩:=cI hx
  have km:k∈ps.map (·.1):=hp.mem_iff.mp (List.mem_of_getElem? hk)
  obtain⟨hlk,hsg⟩:=hok.look km
  have hd2:upd (upd H l (.lst (ks.map V.int))) D (.lst ys) d=some (.dK (dP ps)):=by rw[ay nD];exact hd1
  have hv:DGet (upd (upd H l (.lst (ks.map V.int))) D (.lst ys)) d (.int k) (some (.int (kK ps k))):=by
   have z:=DGet.k (k:=Sum.inl k) hd2
   rw[o4,hlk] at z
   exact z
  have hil:i < ks.length:=(List.getElem?_eq_some_iff.mp hk).1
  have hyl:ys.length<=60:=by
   rw[hys,List.length_map,List.length_take]
   omega
  refine bq ⟨_,rfl,_,rfl,_,rfl,d,_,rfl,hv,_,_,rfl,rfl,.inr ⟨by omega,by omega⟩,ad,bY (by omega),⟨_,rfl⟩,?_,cn⟩
  rw[hys,List.take_add_one,hk,List.map_append]
  rfl
 ·rintro σ ys H2 ⟨_,hys,rfl⟩
  rw[List.length_map,List.take_of_length_le (Nat.le_refl _)] at hys
  rw[hys]
  rw[List.map_map] at hq
  exact hq
theorem qU {a b c:Int}(ha:a.natAbs<=99)(hb:b.natAbs<=99)(hc:c.natAbs<=99):∀ n∈[a,b,c],n.natAbs<=99:=fun n hn=>by
 simp only [List.mem_cons,List.not_mem_nil,or_false] at hn
 rcases hn with rfl|rfl|rfl<;>assumption
theorem nM:az ["_law_cell","_law_k","_law_hand","_law_number_here","_law_place","_law_signs","_law_j","_law_other"] ["_law_cell","_law_k","_law_hand"] (am pp):=⟨rfl,rfl,rfl,by decide+kernel,rfl,by decide+kernel,by decide+kernel⟩
theorem pr {f f2:Addr}{fd d2:FuncData}(F:Fun K "_law_line" "_law_line" pp f fd)(T:re mg)(G_law_mixed:Fn P w K mg base 1 "_law_mixed" f2 d2 ["_law_cell","_law_k"] dY):aW P w K mg base cU 2 f fd ["_law_cell","_law_k","_law_hand"] nK:=by
 have sc:=nM
 refine F.ok nM (fun vs H Q E h=>?_) (fun cdv A outer s H vs Q E hr h=>?_)
 ·obtain⟨c,k,hd,rfl,_⟩:=h
  rfl
 obtain⟨c,k,hd,rfl,q⟩:=h
 have hu:=hr.units
 have hu1:=qE hr
 refine⟨_,(af (au (i:=3) sc.nd rfl (Or.inl rfl) (aO G_law_mixed hr (by omega) rfl (aa (pv 0) (aa (ao bn (pv 1) ac) ae))))
  (af (au (i:=4) sc.nd rfl (Or.inl rfl) (ao aF (aO G_law_mixed hr (by omega) rfl (aa (pv 0) (aa (ao bn (pv 1) ac) ae))) ac))
  (af (aD (ak (aA hu) (ao aF (pv 3) ac) ac (al _)) (ah (aq (bw (aa aj (aa (pv 4) (aa (ao aF (aO G_law_mixed hr (by omega) rfl (aa (pv 0) (aa (ao bn (pv 1) ac) ae))) ac) (aa (ao bn ac (ao aF (ao b9 (pv 3) ac) ac)) ae))))))) ar)
  (af (aD (ak (aA hu) (ao aF (pv 3) ac) ac (al _)) (ah (aq (bw (aa aj (aa (pv 4) ae))))) ar)
  (af (aD (ak (aA hu) (pv 2) aj (al _)) (ah (aq (bw (aa aj (aa (pv 4) ae))))) ar)
  (af (au (i:=5) sc.nd rfl (Or.inr rfl) kx)
  (af (eg PassesOwn.never rfl (fj rfl T.range (aa (ao aF (ao b9 (pv 3) ac) ac) ae)) (aK (i:=6) sc.nd rfl (Or.inl rfl))
   (af (au (i:=7) sc.nd rfl (Or.inl rfl) (aO G_law_mixed hr (by omega) rfl (aa (pv 0) (aa (ao bn (ao bn (pv 1) ac) (ao cA ac (pv 6))) ae))))
   (ah (mJ hu1 (pv 5) (ao bn ac (ao aF (pv 7) ac)) (ax ap (bI (aa ac (aa (nz kc ac) ae))) (ao aF (ao b9 (pv 7) ac) ac) (fun _ _=>rfl)) rfl))))
  (ah (aq (bw (aa aj (aa (aS bL rfl T.tuple PyProof.Rows.boot_tuple (aa (bA (NY:=["_law_variable","_law_signs"]) (idx:=[none,some 5]) rfl ⟨by with_unfolding_all rfl,(by with_unfolding_all exact⟨rfl,trivial⟩),fun _=>by rfl,by rfl,by rfl,by rfl,by decide⟩ (bv (ai (gD rfl) rfl T.sorted PyProof.Rows.boot_sorted (aa (pv 5) ae))) (fun _ _ _ _=>(aK (i:=0) (show List.Nodup (["_law_variable","_law_signs"]:List Str) by decide+kernel) rfl (Or.inl rfl))) (fun _ _ _ _=>bz) (fun _ _ _ _=>(ao cA (pv 0) (mI hu1 (pv 1) (pv 0) (fun _ _=>rfl))))) ae)) ae)))))))))))),?_⟩
 refine⟨_,rfl,_,rfl,_,_,rfl,rfl,_,_,rfl,fun m hm0 hm1=>?_⟩
 refine⟨_,rfl,_,rfl,_,_,rfl,rfl,_,_,rfl,fun m2 _ _=>⟨_,_,rfl,rfl,(by show (0:Int) < 21;decide),?_⟩⟩
 have a0:=Int.emod_nonneg m2 (show (21:Int)≠0 by decide)
 have a1:=Int.emod_lt_of_pos m2 (show (0:Int) < 21 by decide)
 generalize m2 % 21=a at a0 a1 ⊢
 have flat:∀ (w:String) (ns:List Int) (p:Addr),H p=none->wOk (Str.ofString w)->aw (Str.ofString w) "hits"=false->ns.length<=5->(∀ n∈ns,n.natAbs<=99)->Q (.ref p) (upd H p (.tup (.str (Str.ofString w)::ns.map V.int))):=fun w ns p hp h1 h2 h3 h4=>
  q p (Str.ofString w,ns) _ (ag hp _) ⟨p,rfl,.inr ⟨h2,ad⟩⟩ ⟨h1,h3,h4⟩
 refine⟨_,rfl,_,_,rfl,rfl,(by show (0:Int) < 3;decide),.inl ⟨rfl,_,rfl,bE (fun _=>?_) (fun _=>?_)⟩⟩
 ·refine⟨_,rfl,_,rfl,_,rfl,_,_,rfl,rfl,_,_,rfl,fun m3 _ _=>⟨_,_,rfl,rfl,(by show (0:Int) < 21;decide),?_⟩⟩
  have b0:=Int.emod_nonneg m3 (show (21:Int)≠0 by decide)
  have b1:=Int.emod_lt_of_pos m3 (show (0:Int) < 21 by decide)
  have c0:=Int.emod_nonneg (m / 3) (show (99:Int)≠0 by decide)
  have c1:=Int.emod_lt_of_pos (m / 3) (show (0:Int) < 99 by decide)
  refine⟨_,rfl,_,_,rfl,rfl,⟨by decide,by decide⟩,_,_,rfl,rfl,(by show (0:Int) < 99;decide),_,_,rfl,rfl,(by show 4<=sizeLine;decide),fun p hp=>?_⟩
  exact flat "join" [a,m3 % 21,1+m / 3 % 99] p hp (.inl (by decide+kernel)) (by decide+kernel) (by show 3<=5;decide) (qU (by omega) (by omega) (by omega))
 refine⟨_,rfl,_,_,rfl,rfl,(by show (0:Int) < 3;decide),.inl ⟨rfl,_,rfl,bE (fun _=>?_) (fun _=>?_)⟩⟩
 ·exact⟨_,rfl,(by show 2<=sizeLine;decide),fun p hp=>flat "drop" [a] p hp (.inr (.inl (by decide+kernel))) (by decide+kernel) (by decide:1<=5) fun n hn=>by rw[List.mem_singleton.mp hn];omega⟩
 refine⟨_,rfl,.inl ⟨rfl,_,rfl,bE (fun _=>?_) (fun _=>?_)⟩⟩
 ·exact⟨_,rfl,(by show 2<=sizeLine;decide),fun p hp=>flat "given" [a] p hp (.inr (.inr (.inl (by decide+kernel)))) (by decide+kernel) (by decide:1<=5) fun n hn=>by rw[List.mem_singleton.mp hn];omega⟩
 intro d hd'
 have m4:=Int.emod_nonneg (m / 3) (show (6:Int)≠0 by decide)
 have m4':=Int.emod_lt_of_pos (m / 3) (show (0:Int) < 6 by decide)
 refine⟨_,rfl,_,_,rfl,rfl,⟨by decide,by decide⟩,_,_,rfl,rfl,(by show (0:Int) < 6;decide),m / 3 % 6,rfl,(by omega),(by omega),ju (lo:=0) (n:=(m / 3 % 6).toNat)
  (fun i σ H2=>∃ (ps:List (Int×Int)) (jv ov:Option V),σ=[some (.int c),some (.int k),some (.str hd),some (.int m),some (.int a),some (.ref d),jv,ov]/\H2 d=some (.dK (dP ps))/\Same H H2/\DOk 40 ps/\ps.length<=i)
  ⟨[],none,none,rfl,ad,ag hd' _,DOk.nil 40,Nat.le_refl _⟩ ?_ ?_⟩
 ·rintro i σ H2 hi ⟨ps,jv,ov,rfl,hd2,k2,hok,hl⟩
  refine⟨_,rfl,_,rfl,_,_,rfl,rfl,_,rfl,_,_,rfl,rfl,.inl ⟨by decide,by decide⟩,_,_,rfl,rfl,_,_,rfl,fun o ho0 ho1=>?_⟩
  have m1:=Int.emod_nonneg o (show (40:Int)≠0 by decide)
  have m2:=Int.emod_lt_of_pos o (show (0:Int) < 40 by decide)
  have s1:=Int.emod_nonneg (o / 1000) (show (2:Int)≠0 by decide)
  have s2:=Int.emod_lt_of_pos (o / 1000) (show (0:Int) < 2 by decide)
  refine⟨1,rfl,(by show 2<=sizeLine;decide),fun l hl3=>?_⟩
  have hsg:∃ sg:Int,gg [V.int 1,V.int (-1)] (o / 1000 % 2)=some (.int sg)/\(sg=1\/sg=-1):=by
   rcases (by omega:o / 1000 % 2=0\/o / 1000 % 2=1) with e|e<;>rw[e]
   ·exact⟨1,rfl,.inl rfl⟩
   ·exact⟨-1,rfl,.inr rfl⟩
  obtain⟨sg,hat,hsg⟩:=hsg
  refine⟨_,rfl,_,_,rfl,rfl,⟨by decide,by decide⟩,_,_,rfl,rfl,(by show (0:Int) < 2;decide),.inl ⟨l,_,_,.int sg,rfl,rfl,SqL.of ad,hat,?_⟩⟩
  have nl:H l=none:=k2.free hl3
  have ndl:d≠l:=av hd2 hl3
  have hd3:upd H2 l (.lst [.int 1,.int (-1)]) d=some (.dK (dP ps)):=by rw[ay ndl];exact hd2
  refine⟨_,rfl,_,rfl,_,_,rfl,rfl,(by show (0:Int) < 40;decide),_,_,rfl,rfl,d,_,rfl,DPut.k (k:=Sum.inl (1+o % 40)) hd3 (by unfold dP;rw[List.length_map];exact bY (by omega)),?_⟩
  obtain⟨o1,o2⟩:=hok.put (k:=1+o % 40) (s:=sg) (by omega) (by omega)
  refine⟨jM ps (1+o % 40) sg,_,_,rfl,?_,(k2.upd_new nl _).upd_new hd' _,o1,by omega⟩
  rw[ad]
  exact congrArg (fun z=>some (HO.dK z)) (o3 _ _ _)
 ·rintro σ H2 ⟨ps,jv,ov,rfl,hd2,k2,hok,hl⟩
  have hl5:ps.length<=5:=by omega
  refine⟨_,rfl,d,dP ps,ps.map (·.1),rfl,hd2,mO ps,by rw[List.length_map];omega,fun l ks hl' hperm hpw=>⟨l,rfl,⟨_,SqL.of ad⟩,fun D hD=>?_⟩⟩
  refine ip hd2 hok (by decide) (by omega) hl' hperm hD _ rfl ?_
  refine⟨D,_,rfl,.inl ⟨SqL.of ad,fun t ht=>⟨(by show 2<=sizeLine;decide),fun p hp=>?_⟩⟩⟩
  have k3:=k2.upd_new (k2.free hl') (.lst (ks.map V.int))
  have k4:=k3.upd_new (k3.free hD) (.lst ((ks.map fun k=>k*kK ps k).map V.int))
  have k5:=k4.upd_new (k4.free ht) (.tup ((ks.map fun k=>k*kK ps k).map V.int))
  have hcl:=hok.clause hperm hpw
  refine q p (Str.ofString "hits",ks.map fun k=>k*kK ps k) _ (k5.upd_new (k5.free hp) _) ⟨p,rfl,.inl ⟨(by show aw (Str.ofString "hits") "hits"=true;decide+kernel),t,ad,?_⟩⟩ ⟨.inr (.inr (.inr (by show aw (Str.ofString "hits") "hits"=true;decide+kernel))),?_,fun n hn=>?_⟩
  ·rw[ay (av ad hp)]
   exact ad
  ·rw[List.length_map,hperm.length_eq,List.length_map]
   exact hl5
  ·have:=hcl.2 n hn
   unfold bb at this
   split at this<;>omega
theorem lx:az ["_law_script","_law_first","_law_hand","_law_many"] ["_law_script"] (am lr):=⟨rfl,rfl,rfl,by decide+kernel,rfl,by decide+kernel,by decide+kernel⟩
theorem m8 {f f1 f2 f3:Addr}{fd d1 d2 d3:FuncData}(F:Fun K "_law_paper" "_law_paper" lr f fd)(T:re mg)(G_law_cell_at:Fn P w K mg base 1 "_law_cell_at" f1 d1 ["_law_script","_law_k"] (im K))(G_law_mixed:Fn P w K mg base 1 "_law_mixed" f2 d2 ["_law_cell","_law_k"] dY)(G_law_line:Fn P w K mg base 2 "_law_line" f3 d3 ["_law_cell","_law_k","_law_hand"] nK):
  aW P w K mg base cU 3 f fd ["_law_script"] (lu K):=by
 have sc:=lx
 refine F.ok lx (fun vs H Q E h=>?_) (fun cdv A outer s H vs Q E hr h=>?_)
 ·obtain⟨a,ns,rfl,_⟩:=h
  rfl
 obtain⟨a,ns,rfl,hS,h63,q⟩:=h
 refine⟨_,(af (au (i:=1) sc.nd rfl (Or.inl rfl) (aO G_law_cell_at hr (by omega) rfl (aa (pv 0) (aa ac ae))))
  (af (au (i:=2) sc.nd rfl (Or.inr rfl) (ax ap (bI (aa aj (aa aj ae))) (ao aF (aO G_law_mixed hr (by omega) rfl (aa (pv 1) (aa ac ae))) ac) (fun _ _=>rfl)))
  (af (au (i:=3) sc.nd rfl (Or.inr rfl) (ao aF (aO G_law_mixed hr (by omega) rfl (aa (pv 1) (aa ac ae))) ac))
  (ah (aq (bw (aa (pv 2) (aa (bA (NY:=["_law_k","_law_hand","_law_script","_law_many"]) (idx:=[none,some 2,some 0,some 3]) rfl ⟨by with_unfolding_all rfl,(by with_unfolding_all exact⟨rfl,rfl,rfl,trivial⟩),fun _=>by rfl,by rfl,by rfl,by rfl,by decide⟩ (fj rfl T.range (aa (pv 3) ae)) (fun _ _ _ _=>(aK (i:=0) (show List.Nodup (["_law_k","_law_hand","_law_script","_law_many"]:List Str) by decide+kernel) rfl (Or.inl rfl))) (fun _ _ _ _=>bz) (fun _ _ _ _=>(aO G_law_line hr (by omega) rfl (aa (ai (j3 (K:=K) rfl rfl) rfl T.sum PyProof.Rows.boot_sum (aa (io (K:=K) rfl (pv 2) (aJ (ao bn ac (pv 0))) (aJ ac) (aJ (pv 3))) ae)) (aa (pv 0) (aa (pv 1) ae)))))) ae)))))))),?_⟩
 refine⟨_,rfl,a,ns,0,rfl,hS,Int.le_refl 0,fun c=>?_⟩
 refine⟨(by show 2<=sizeLine;decide),fun l hl=>⟨_,rfl,_,_,rfl,fun m m0 m1=>⟨_,_,rfl,rfl,(by show (0:Int) < 2;decide),?_⟩⟩⟩
 have k1:Same H (upd H l (.lst [.str (Str.ofString "spoiler"),.str (Str.ofString "wisher")])):=ag hl _
 have hh:∃ h,gg [V.str (Str.ofString "spoiler"),V.str (Str.ofString "wisher")] (m % 2)=some (.str h)/\hOk h:=by
  rcases (by omega:m % 2=0\/m % 2=1) with e|e<;>rw[e]
  ·exact⟨_,rfl,.inr (by decide+kernel)⟩
  ·exact⟨_,rfl,.inl (by decide+kernel)⟩
 obtain⟨h,hat,hh⟩:=hh
 refine .inl ⟨l,_,_,.str h,rfl,rfl,SqL.of ad,hat,?_⟩
 generalize upd H l (.lst [.str (Str.ofString "spoiler"),.str (Str.ofString "wisher")])=H1 at k1 ⊢
 refine⟨_,rfl,_,_,rfl,fun m2 _ _=>⟨_,_,rfl,rfl,(by show (0:Int) < 17;decide),?_⟩⟩
 have y0:=Int.emod_nonneg m2 (show (17:Int)≠0 by decide)
 have y1:=Int.emod_lt_of_pos m2 (show (0:Int) < 17 by decide)
 generalize m2 % 17=mm at y0 y1 ⊢
 refine⟨_,rfl,_,rfl,mm,rfl,(by omega),(by omega),fun D hD=>?_⟩
 have nD:H D=none:=k1.free hD
 refine hV (lo:=0) (n:=mm.toNat) (fun i σ ys H2=>(∃ v0,σ=[v0,some (.str h),some (.ref a),some (.int mm)])/\H2 D=some (.lst ys)/\Same H H2/\∃ ls:List Ln,ls.length=i/\LnAs H2 ls ys/\∀ L∈ls,dF L) ⟨⟨none,rfl⟩,ad,k1.upd_new nD _,[],rfl,.nil,fun _ z=>nomatch z⟩ ?_ ?_ ?_
 ·rintro i σ ys H2 _ ⟨_,g1,_⟩
  exact g1
 ·rintro i σ ys H2 hi ⟨⟨v0,rfl⟩,g1,g2,ls,g3,g4,g5⟩
  refine bq ⟨_,rfl,_,rfl,_,_,rfl,rfl,_,rfl,_,rfl,_,rfl,_,rfl,a,ns,mm,rfl,g2.seq hS,rfl,(by omega),(by omega),fun p3 ms hp3 hms=>?_⟩
  refine⟨p3,ms,rfl,SqL.of ad,_,rfl,_,rfl,_,_,h,rfl,fun p4 L H4 k4 hL sL=>?_⟩
  have k5:Same H2 H4:=(ag hp3 _).trans k4
  have h4:=k5 _ _ g1
  refine⟨h4,?_,⟨_,rfl⟩,ad,(g2.trans k5).upd_new nD _,ls++[L],by rw[List.length_append,g3];rfl,Paired.snoc ((g4.mono k5).upd h4) (hL.upd h4),fun L' hL'=>?_⟩
  ·have:=Paired.length g4
   exact bY (by omega)
  ·rcases List.mem_append.mp hL' with w|w
   ·exact g5 L' w
   ·rw[List.mem_singleton.mp w]
    exact sL
 ·rintro σ ys H2 ⟨_,g1,g2,ls,g3,g4,g5⟩
  refine⟨(by show 2<=sizeLine;decide),fun p5 hp5=>?_⟩
  have k5:Same H2 (upd H2 p5 (.tup [.str h,.ref D])):=ag hp5 _
  exact q p5 D ys h ls _ (g2.trans k5) ad (k5 _ _ g1) (g4.mono k5) hh (by omega) g5
end
end K86
namespace K86
open PySem L2 OD
abbrev pw:Stmt:=dn 12
abbrev px:Stmt:=dn 17
abbrev iq:Stmt:=dn 31
structure py (mg:Str->Option Value):Prop where
 isinstance:mg "isinstance"=none
 int:mg "int"=none
 bool:mg "bool"=none
 tuple:mg "tuple"=none
 list:mg "list"=none
 str:mg "str"=none
 abs:mg "abs"=none
 len:mg "len"=none
 all:mg "all"=none
def i5:Sp:=fun vs H Q _=>∃ v d,vs=[v]/\RD H d v/\Q (.bl (eu d&&!fV d)) H
def nN:Sp:=fun vs H Q _=>∃ v d most,vs=[v,.int most]/\RD H d v/\Q (.bl (h9 most d)) H
section
variable {P:Program}{w:World}{K:PySem.W.Frag}{mg:Str->Option Value}{base:Heap}
theorem qV:az ["thing"] ["thing"] (am pw):=⟨rfl,rfl,rfl,by decide+kernel,rfl,by decide+kernel,by decide+kernel⟩
theorem pz {f:Addr}{fd:FuncData}(F:Fun K "is_number" "is_number" pw f fd)(T:py mg):aW P w K mg base cU 1 f fd ["thing"] i5:=by
 refine F.ok qV (fun vs H Q E h=>?_) (fun cdv A outer s H vs Q E hr h=>?_)
 ·obtain⟨v,d,rfl,_⟩:=h
  rfl
 obtain⟨v,d,rfl,hd,q⟩:=h
 have nd:=dB hd
 refine⟨_,(ah (aq (b4 (ai aI rfl T.isinstance PyProof.Rows.boot_isinstance (aa (pv 0) (aa (bg (v:=.ty "int") rfl T.int PyProof.Rows.boot_int rfl) ae))) (cp (j_ (ai aI rfl T.isinstance PyProof.Rows.boot_isinstance (aa (pv 0) (aa (bg (v:=.ty "bool") rfl T.bool PyProof.Rows.boot_bool rfl) ae)))))))),?_⟩
 refine⟨_,rfl,v,_,"int",_,rfl,gv d v hd,iT d nd,_,rfl,?_⟩
 cases hI:eu d with
 |false=>
  rw[hI] at q
  exact aB q
 |true=>
  rw[hI] at q
  exact aL ⟨_,rfl,v,_,"bool",_,rfl,gv d v hd,gw d nd,_,rfl,q⟩
theorem m9:az ["_law_found"] ["_law_found"] (am iq):=⟨rfl,rfl,rfl,by decide+kernel,rfl,by decide+kernel,by decide+kernel⟩
theorem ly {f:Addr}{fd:FuncData}(F:Fun K "_law_whole" "_law_whole" iq f fd)(T:py mg):aW P w K mg base cU 1 f fd ["_law_found"] i5:=by
 refine F.ok m9 (fun vs H Q E h=>?_) (fun cdv A outer s H vs Q E hr h=>?_)
 ·obtain⟨v,d,rfl,_⟩:=h
  rfl
 obtain⟨v,d,rfl,hd,q⟩:=h
 have nd:=dB hd
 refine⟨_,(ah (aq (b4 (ai aI rfl T.isinstance PyProof.Rows.boot_isinstance (aa (pv 0) (aa (bg (v:=.ty "int") rfl T.int PyProof.Rows.boot_int rfl) ae))) (cp (j_ (ai aI rfl T.isinstance PyProof.Rows.boot_isinstance (aa (pv 0) (aa (bg (v:=.ty "bool") rfl T.bool PyProof.Rows.boot_bool rfl) ae)))))))),?_⟩
 refine⟨_,rfl,v,_,"int",_,rfl,gv d v hd,iT d nd,_,rfl,?_⟩
 cases hI:eu d with
 |false=>
  rw[hI] at q
  exact aB q
 |true=>
  rw[hI] at q
  exact aL ⟨_,rfl,v,_,"bool",_,rfl,gv d v hd,gw d nd,_,rfl,q⟩
theorem nO:az ["thing","most","behind","literal"] ["thing","most"] (am px):=⟨rfl,rfl,rfl,by decide+kernel,rfl,by decide+kernel,by decide+kernel⟩
theorem pA {f g:Addr}{fd gd:FuncData}(F:Fun K "is_set" "is_set" px f fd)(T:py mg)(Gis_number:Fn P w K mg base 1 "is_number" g gd ["thing"] i5):aW P w K mg base cU 2 f fd ["thing","most"] nN:=by
 have sc:=nO
 refine F.ok nO (fun vs H Q E h=>?_) (fun cdv A outer s H vs Q E hr h=>?_)
 ·obtain⟨v,d,most,rfl,_⟩:=h
  rfl
 obtain⟨v,d,most,rfl,hd,q⟩:=h
 have nd:=dB hd
 refine⟨_,(af (aD (bj (aZ (ai aI rfl T.isinstance PyProof.Rows.boot_isinstance (aa (pv 0) (aa (bg (v:=.ty "tuple") rfl T.tuple PyProof.Rows.boot_tuple rfl) ae))))) (ah (aq cz)) ar)
  (af (au (i:=2) sc.nd rfl (Or.inl rfl) ac)
  (af (eg PassesOwn.never rfl (fO (pv 0)) (aK (i:=3) sc.nd rfl (Or.inl rfl))
   (af (aD (PW.pt (bZ (bj (aZ (aO Gis_number hr (by omega) rfl (aa (pv 3) ae)))) (bR (bj (kf fk nA (pv 2) (ai ck rfl T.abs PyProof.Rows.boot_abs (aa (pv 3) ae)) (pv 1)))))) (ah (aq cz)) ar)
   (ah (au (i:=2) sc.nd rfl (Or.inl rfl) (ai ck rfl T.abs PyProof.Rows.boot_abs (aa (pv 3) ae))))))
  (ah (aq cz))))),?_⟩
 refine⟨_,rfl,v,_,"tuple",_,rfl,gv d v hd,jH d nd,_,rfl,?_⟩
 cases d with
 |tuple ds=>
  refine aB ?_
  obtain⟨a,xs,rfl,ha,hx⟩:=cq hd
  have hlen:=iQ hx
  refine⟨_,rfl,a,rfl,⟨_,SqT.of ha⟩,mw (K:=K) (a:=a) (xs:=xs) (fun i σ H2=>∃ (b:Int) (l:Option V),σ=[some (.ref a),some (.int most),some (.int b),l]/\H2=H/\ci most b (ds.drop i)=ci most 0 ds)
   ⟨0,none,rfl,rfl,rfl⟩ (fun i σ H2 _ hp=>by obtain⟨_,_,_,e,_⟩:=hp;rw[e];exact SqT.of ha) ?_ ?_⟩
  ·rintro i y σ H2 hi ⟨b,l,rfl,rfl,hb⟩
   have hil:i < xs.length:=(List.getElem?_eq_some_iff.mp hi).1
   have hy:=iR hx hi
   rw[jQ PyData.none (by omega)] at hb
   refine⟨_,rfl,y,_,rfl,hy,_,rfl,?_⟩
   rcases pe (ds.getD i .none) with⟨z,hz⟩|hz
   ·rw[hz] at hy hb ⊢
    obtain rfl:=h_ hy
    refine aB ?_
    refine⟨_,rfl,_,rfl,z,rfl,_,_,rfl,rfl,_,rfl,?_⟩
    rw[dk] at hb
    refine bE (fun c1=>?_) (fun c1=>?_)
    ·have c1':b < bb z:=of_decide_eq_true c1
     refine⟨_,rfl,_,_,rfl,rfl,_,rfl,?_⟩
     refine bE (fun c2=>?_) (fun c2=>?_)
     ·have c2':¬ bb z<=most:=fun hh=>by
       have e:decide (bb z<=most)=true:=decide_eq_true hh
       rw[show decide ((if z < 0 then -z else z)<=most)=true from e] at c2
       cases c2
      rw[if_neg (by omega)] at hb
      show Q (.bl false) _
      rw[show h9 most (.tuple ds)=ci most 0 ds from rfl,← hb] at q
      exact q
     ·have c2':bb z<=most:=Decidable.byContradiction fun hh=>by
       have e:decide (bb z<=most)=false:=decide_eq_false hh
       rw[show decide ((if z < 0 then -z else z)<=most)=false from e] at c2
       exact c2 rfl
      rw[if_pos ⟨c1',c2'⟩] at hb
      refine⟨_,rfl,z,rfl,?_⟩
      exact⟨bb z,some (.int z),rfl,rfl,hb⟩
    ·have c1':¬ b < bb z:=fun hh=>c1 (decide_eq_true hh)
     rw[if_neg (fun hh=>c1' hh.1)] at hb
     refine⟨_,rfl,aL ?_⟩
     show Q (.bl false) _
     rw[show h9 most (.tuple ds)=ci most 0 ds from rfl,← hb] at q
     exact q
   ·rw[mQ hz]
    rw[lb hz] at hb
    refine aL (aL ?_)
    show Q (.bl false) _
    rw[show h9 most (.tuple ds)=ci most 0 ds from rfl,← hb] at q
    exact q
  ·rintro σ H2 ⟨b,l,rfl,rfl,hb⟩
   show Q (.bl true) _
   rw[List.drop_eq_nil_of_le (by omega)] at hb
   rw[show h9 most (.tuple ds)=ci most 0 ds from rfl,← hb] at q
   exact q
 |_=>exact aL q
end
end K86
namespace K86
open PySem L2 OD
abbrev lz:Stmt:=dn 24
abbrev ir:Stmt:=dn 25
abbrev lA:Stmt:=dn 33
structure sq (K:PySem.W.Frag)(mg:Str->Option Value)(CN:Addr):Prop where
 any:mg "any"=none
 int:mg "int"=none
 len:mg "len"=none
 tuple:mg "tuple"=none
 str:mg "str"=none
 g_FIGURES:bO mg "FIGURES" (.str (Str.ofString "0123456789"))
 g_MOST_FIGURES:bO mg "MOST_FIGURES" (.int 9)
 m_NoText:mg "NoText"=some (.ref CN)
 x_NoText:PySem.W.excIn K CN [.type "ValueError",.type "Exception",.type "BaseException",.type "object"] "ValueError.__new__"=true
def lB (CN:Addr):Sp:=fun vs H Q E=>∃ t:Str,vs=[.str t]/\t.length<=1000000/\(∀ n,bJ t=some n->∀ H',Same H H'->Q (.int n) H')/\(bJ t=none->∀ H',Same H H'->E (.ref CN) none H')
section
variable {P:Program}{w:World}{K:PySem.W.Frag}{mg:Str->Option Value}{base:Heap}{CN:Addr}
theorem lC:az ["piece","figures"] ["piece"] (am lz):=⟨rfl,rfl,rfl,by decide+kernel,rfl,by decide+kernel,by decide+kernel⟩
theorem m_ {f:Addr}{fd:FuncData}(F:Fun K "read_number" "read_number" lz f fd)(T:sq K mg CN):aW P w K mg base (cc P w) 1 f fd ["piece"] (lB CN):=by
 have sc:=lC
 refine F.okX lC (fun vs H Q E h=>?_) (fun cdv A outer s H vs Q E hr h=>?_)
 ·obtain⟨t,rfl,_⟩:=h
  rfl
 obtain⟨t,rfl,hz,q,qe⟩:=h
 have hu:=hr.units
 refine⟨_,(af (au (i:=1) sc.nd rfl (Or.inl rfl) (gk (aZ (bS PySem.F.plainAttrs_str PySem.F.slot_str_startswith PySem.F.type_str_startswith ii (pv 0) (aa aj ae))) (aH bB (pv 0) (aJ ac) aR) (pv 0)))
  (af (aD (PW.pt (bZ (bj (kg (pv 1) (fun _=>rfl))) (bR (aZ (ai (kI rfl) rfl T.any PyProof.Rows.boot_any (aa (bA (NY:=["sign"]) (idx:=[none]) rfl ⟨by with_unfolding_all rfl,(by with_unfolding_all exact trivial),fun _=>by rfl,by rfl,by rfl,by rfl,by decide⟩ (k_ (pv 1)) (fun _ _ _ _=>(aK (i:=0) (show List.Nodup (["sign"]:List Str) by decide+kernel) rfl (Or.inl rfl))) (fun _ _ _ _=>bz) (fun _ _ _ _=>(a_ fP (pv 0) (aQ rfl T.g_FIGURES) (by with_unfolding_all rfl)))) ae)))))) (ah (cK T.x_NoText PySem.F.excBase_ValueError T.m_NoText rfl (aa aj ae))) ar)
  (af (aD (ak fm (ai aN rfl T.len PySem.boot_len (aa (pv 1) ae)) (aQ rfl T.g_MOST_FIGURES) (al _)) (ah (cK T.x_NoText PySem.F.excBase_ValueError T.m_NoText rfl (aa aj ae))) ar)
  (af (aD (PW.pt (cg (ak (aA hu) (ax ap (pv 1) ac (fun _ _=>rfl)) aj (al _)) (b8 (ak (cu hu) (pv 0) aj (al _))))) (ah (cK T.x_NoText PySem.F.excBase_ValueError T.m_NoText rfl (aa aj ae))) ar)
  (ah (aq (aS jW rfl T.int PyProof.Rows.boot_int (aa (pv 0) ae)))))))),?_⟩
 refine⟨_,rfl,rfl,t,Str.ofString "-",rfl,rfl,_,rfl,?_⟩
 refine jZ rfl hz fun fg ef hl=>?_
 have hlen:fg.length=(aP t.cps.toList).length:=by rw[← ef];exact Array.length_toList.symm
 refine⟨_,rfl,_,⟨Nat.le_trans hl (by decide),rfl⟩,?_⟩
 by_cases h1:aP t.cps.toList=[]
 ·have e:((fg.length:Int) != 0)=false:=by rw[hlen,h1];rfl
  rw[e]
  exact aL (aL ⟨(by show 1<=sizeLine;decide),qe (bP (.inl h1)) _ (Same.refl _)⟩)
 have hp:0 < (aP t.cps.toList).length:=List.length_pos_iff.mpr h1
 have e:((fg.length:Int) != 0)=true:=by
  rw[hlen,bne_iff_ne]
  omega
 rw[e]
 refine aB ?_
 refine⟨_,rfl,fg,rfl,fun D hD=>?_⟩
 refine jY [] (fun c=>.bl (!bT c)) rfl hD hl (fun _ _ _ r=>r) ?_ ?_
 ·intro c H' R k r
  refine⟨_,rfl,_,_,rfl,rfl,?_⟩
  rw[li]
  exact r _ (Same.refl _)
 intro H2 k2 r2
 refine⟨D,_,rfl,SqL.of r2,(lm _ _).1,_,rfl,?_⟩
 rw[(lm _ _).2,ef]
 cases h2:(aP t.cps.toList).all bT with
 |false=>
  have e:((aP t.cps.toList).any fun c=>!bT c)=true:=by
   rw[List.any_eq_not_all_not]
   simp only [Bool.not_not]
   rw[h2]
   rfl
  rw[e]
  exact aL ⟨(by show 1<=sizeLine;decide),qe (bP (.inr (.inl h2))) _ k2⟩
 |true=>
  have e:((aP t.cps.toList).any fun c=>!bT c)=false:=by
   rw[List.any_eq_not_all_not]
   simp only [Bool.not_not]
   rw[h2]
   rfl
  rw[e]
  refine aB ?_
  refine⟨_,rfl,.str fg,_,rfl,⟨Nat.le_trans hl (by decide),rfl⟩,_,_,rfl,rfl,_,rfl,?_⟩
  by_cases h3:9 < (aP t.cps.toList).length
  ·rw[decide_eq_true (by omega)]
   exact aL ⟨(by show 1<=sizeLine;decide),qe (bP (.inr (.inr (.inl h3)))) _ k2⟩
  rw[decide_eq_false (by omega)]
  refine aB ?_
  obtain⟨c,r,hcr⟩:=List.exists_cons_of_ne_nil h1
  refine⟨_,rfl,.inr (.inr ⟨fg,0,c,rfl,rfl,Nat.le_trans hl (by decide),by rw[ef,hcr];exact aG,.inl ⟨rfl,_,rfl,?_⟩⟩)⟩
  rw[cf]
  by_cases h4:c=48/\t.cps.toList≠[48]
  ·rw[decide_eq_true (by rw[h4.1];decide+kernel)]
   refine aL ⟨_,rfl,.inl ⟨rfl,_,rfl,?_⟩⟩
   rw[cf,decide_eq_false (by rw[show (Str.ofString "0").cps.toList=[48] from by decide+kernel];exact h4.2)]
   exact aL ⟨(by show 1<=sizeLine;decide),qe (bP (.inr (.inr (.inr ⟨by rw[hcr,h4.1];rfl,h4.2⟩)))) _ k2⟩
  have hs:=gK h1 h2 (by omega) (fun z=>h4 ⟨by rw[hcr] at z;exact Option.some.inj z.1,z.2⟩)
  obtain⟨i1,i2⟩:=lh hs
  have fin:jq (ql (fun xs H Q=>∃ a n,xs=[V.str a]/\intText? a=some n/\a.length<=640/\Q (V.int n) H) (cB (bU 0) gn)) {nx:=fun _ H'=>Q .non H',rt:=Q} [some (.str t),some (.str fg)] H2:=⟨_,rfl,t,_,rfl,i1,by omega,q _ hs _ k2⟩
  refine bE (fun c1=>⟨_,rfl,.inl ⟨rfl,_,rfl,?_⟩⟩) fun c1=>aB fin
  rw[cf]
  have c1':c=48:=by
   have:=of_decide_eq_true c1
   rw[show (Str.ofString "0").cps.toList=[48] from by decide+kernel] at this
   exact (List.cons.inj this).1
  rw[decide_eq_true (by rw[show (Str.ofString "0").cps.toList=[48] from by decide+kernel];exact Decidable.byContradiction fun z=>h4 ⟨c1',z⟩)]
  exact aB fin
end
end K86
namespace K86
open PySem L2 OD
def i6 (CN:Addr):Sp:=fun vs H Q E=>∃ (p:Addr) (ss:List Str),vs=[.ref p]/\H p=some (.lst (ss.map V.str))/\ss.length<=1000000/\(∀ s∈ss,s.length<=1000000)/\
 (∀ ns,cR bJ ss=some ns->∀ D H',Same H H'->H' D=some (.lst (ns.map V.int))->Q (.ref D) H')/\(cR bJ ss=none->∀ H',Same H H'->E (.ref CN) none H')
section
variable {P:Program}{w:World}{K:PySem.W.Frag}{mg:Str->Option Value}{base:Heap}{CN:Addr}
theorem i7:az ["pieces"] ["pieces"] (am ir):=⟨rfl,rfl,rfl,by decide+kernel,rfl,by decide+kernel,by decide+kernel⟩
theorem lD {f f1:Addr}{fd d1:FuncData}(F:Fun K "read_numbers" "read_numbers" ir f fd)(Gread_number:nI P w K mg base 1 "read_number" f1 d1 ["piece"] (lB CN)):aW P w K mg base (cc P w) 2 f fd ["pieces"] (i6 CN):=by
 have sc:=i7
 refine F.okX i7 (fun vs H Q E h=>?_) (fun cdv A outer s H vs Q E hr h=>?_)
 ·obtain⟨p,ss,rfl,_⟩:=h
  rfl
 obtain⟨p,ss,rfl,hp,hl,hz,q,qe⟩:=h
 refine⟨_,(ah (aq (gJ (NY:=["piece"]) (idx:=[none]) ⟨by with_unfolding_all rfl,(by with_unfolding_all exact trivial),fun _=>by rfl,by rfl,by rfl,by rfl,by decide⟩ (bv (pv 0)) (fun _ _ _ _=>(aK (i:=0) (show List.Nodup (["piece"]:List Str) by decide+kernel) rfl (Or.inl rfl))) (fun _ _ _ _=>bz) (fun _ _ _ _=>(iY Gread_number hr (by omega) rfl (aa (pv 0) ae)))))),?_⟩
 refine⟨_,rfl,p,rfl,⟨_,SqL.of hp⟩,fun D hD=>?_⟩
 refine bd (K:=K) (a:=p) (xs:=ss.map V.str) (fun i σ ys H2=>(∃ v0,σ=[v0])/\H2 D=some (.lst ys)/\Same H H2/\ys=((ss.take i).filterMap bJ).map V.int/\∀ a∈ss.take i,(bJ a).isSome=true) ⟨⟨none,rfl⟩,ad,ag hD _,rfl,fun _ z=>nomatch z⟩ ?_ ?_ ?_
 ·rintro i σ ys H2 _ ⟨_,g1,g2,_⟩
  exact⟨g1,SqL.of (g2 _ _ hp)⟩
 ·rintro i x σ ys H2 hx ⟨⟨v0,rfl⟩,g1,g2,g3,g4⟩
  rw[List.getElem?_map] at hx
  obtain⟨a,ha,rfl⟩:=Option.map_eq_some_iff.mp hx
  have hil:i < ss.length:=(List.getElem?_eq_some_iff.mp ha).1
  have ham:=List.mem_of_getElem? ha
  refine bq ⟨_,rfl,a,rfl,hz a ham,fun n hn H3 k3=>⟨k3 _ _ g1,?_,⟨_,rfl⟩,ad,(g2.trans k3).upd_new hD _,?_,gN ha g4 (by rw[hn];rfl)⟩,fun hn H3 k3=>qe (gL ham hn) _ (g2.trans k3)⟩
  ·rw[g3,List.length_map]
   exact aY (Nat.le_trans (gM i) (by omega))
  ·rw[fE ha hn,List.map_append,g3]
   rfl
 ·rintro σ ys H2 ⟨_,g1,g2,g3,g4⟩
  rw[List.length_map,List.take_of_length_le (Nat.le_refl _)] at g3 g4
  exact q _ (fZ g4) D H2 g2 (by rw[g1,g3])
end
end K86
namespace K86
open PySem L2 OD PySem.NumText
abbrev lE:Stmt:=dn 34
abbrev pB:Stmt:=dn 42
structure rf (mg:Str->Option Value):Prop where
 int:mg "int"=none
 len:mg "len"=none
 tuple:mg "tuple"=none
 abs:mg "abs"=none
def lF:Sp:=fun vs H Q _=>∃ t:Str,vs=[.str t]/\t.length<=1000000/\∀ H',Same H H'->Q (cS t) H'
def lG:Sp:=fun vs H Q _=>∃ (p:Addr) (ns:List Int) (most:Int),vs=[.ref p,.int most]/\H p=some (.lst (ns.map V.int))/\Q (.bl (ci most 0 (ns.map PyData.int))) H
section
variable {P:Program}{w:World}{K:PySem.W.Frag}{mg:Str->Option Value}{base:Heap}{CN:Addr}
theorem lH:az ["_law_text","_law_figures","_law_number_here","_law_sign"] ["_law_text"] (am lA):=⟨rfl,rfl,rfl,by decide+kernel,rfl,by decide+kernel,by decide+kernel⟩
theorem gS (t:Str):decide (V.str ⟨(t.cps.toList.take 1).toArray⟩=V.str (Str.ofString "-"))=eR t.cps.toList:=by
 rw[cf,show (Str.ofString "-").cps.toList=[45] from by decide+kernel]
 show decide (t.cps.toList.take 1=[45])=_
 unfold eR
 cases t.cps.toList with
 |nil=>rfl
 |cons a r=>
  rw[Bool.eq_iff_iff]
  simp
theorem pC {t:Str}{D:dN}{σ rest:St}{H:Hp}(h0:σ=some (.str t)::some (.str t)::rest)(hz:t.length<=1000000)(h:∀ fg:Str,fg.cps.toList=aP t.cps.toList->fg.length<=1000000->D.nx (some (.str t)::some (.str fg)::rest) H):
  if eR t.cps.toList=true then mt (pN kX (bU 0) (fv (tC (V.int 1))) cO) (bF 1) D σ H else fi D σ H:=by
 subst h0
 have hl:t.cps.toList.length=t.length:=Array.length_toList
 refine bE (fun c=>⟨_,rfl,1,rfl,t,rfl,Nat.le_trans hz (by decide),?_⟩) fun c=>h t ?_ hz
 ·rw[eV]
  refine h _ ?_ ?_
  ·unfold aP
   rw[if_pos c]
  ·show (t.cps.toList.tail.toArray).size<=_
   rw[List.size_toArray,List.length_tail]
   omega
 ·unfold aP
  rw[if_neg c]
theorem nb {f:Addr}{fd:FuncData}(F:Fun K "_law_number" "_law_number" lA f fd)(T:rf mg):aW P w K mg base cU 1 f fd ["_law_text"] lF:=by
 have sc:=lH
 refine F.ok lH (fun vs H Q E h=>?_) (fun cdv A outer s H vs Q E hr h=>?_)
 ·obtain⟨t,rfl,_⟩:=h
  rfl
 obtain⟨t,rfl,hz,q⟩:=h
 have hu:=hr.units
 have htl:t.cps.toList.length=t.length:=Array.length_toList
 have hzs:t.length<=sizeLine:=Nat.le_trans hz (by decide)
 refine⟨_,(af (au (i:=1) sc.nd rfl (Or.inl rfl) (pv 0))
  (af (aD (ak (aA hu) (aH bB (pv 0) aR (aJ ac)) aj (al _)) (ah (au (i:=1) sc.nd rfl (Or.inl rfl) (aH bB (pv 0) (aJ ac) aR))) ar)
  (af (aD (PW.pt (bZ (ak (aA hu) (pv 1) aj (al _)) (bZ (ak fm (ai aN rfl T.len PySem.boot_len (aa (pv 1) ae)) ac (al _)) (bR (ak (cu hu) (bS PySem.F.plainAttrs_str PySem.F.slot_str_strip PySem.F.type_str_strip la (pv 1) (aa aj ae)) aj (al _)))))) (ah (aq bx)) ar)
  (af (aD (PW.pt (cg (ak (aA hu) (ax ap (pv 1) ac (fun _ _=>rfl)) aj (al _)) (b8 (ak (cu hu) (pv 0) aj (al _))))) (ah (aq bx)) ar)
  (af (au (i:=2) sc.nd rfl (Or.inl rfl) ac)
  (af (eg PassesOwn.never rfl (k_ (pv 1)) (aK (i:=3) sc.nd rfl (Or.inl rfl))
   (ah (au (i:=2) sc.nd rfl (Or.inl rfl) (ao bn (ao cA (pv 2) ac) (bS PySem.F.plainAttrs_str PySem.F.slot_str_index PySem.F.type_str_index jV aj (aa (pv 3) ae))))))
  (ah (aq (ao cA (pv 2) (ax ap (bI (aa ac (aa (nz kc ac) ae))) (aS jy rfl T.int PyProof.Rows.boot_int (aa (a_ (aA hu) (aH bB (pv 0) aR (aJ ac)) aj (al _)) ae)) (fun _ _=>rfl))))))))))),?_⟩
 refine⟨_,rfl,_,rfl,1,rfl,t,rfl,hzs,?_⟩
 rw[eU]
 refine .inl ⟨rfl,_,rfl,?_⟩
 rw[gS]
 have qn:bJ t=none->∀ H',Same H H'->Q .non H':=fun e H' k=>by
  have:=q H' k
  unfold cS at this
  rw[e] at this
  exact this
 refine pC (rest:=[none,none]) rfl hz fun fg ef hl=>?_
 have hlen:fg.length=(aP t.cps.toList).length:=by rw[← ef];exact Array.length_toList.symm
 have hls:fg.length<=sizeLine:=Nat.le_trans hl (by decide)
 refine⟨_,rfl,.inl ⟨rfl,_,rfl,?_⟩⟩
 rw[cf,show (Str.ofString "").cps.toList=[] from by decide+kernel,ef]
 by_cases h1:aP t.cps.toList=[]
 ·rw[decide_eq_true h1]
  exact aL (aL (qn (bP (.inl h1)) _ (Same.refl _)))
 rw[decide_eq_false h1]
 refine aB ⟨_,rfl,.str fg,_,rfl,⟨hls,rfl⟩,_,_,rfl,rfl,_,rfl,?_⟩
 by_cases h3:9 < (aP t.cps.toList).length
 ·rw[decide_eq_true (by omega)]
  exact aL (aL (qn (bP (.inr (.inr (.inl h3)))) _ (Same.refl _)))
 rw[decide_eq_false (by omega)]
 refine aB ⟨_,rfl,rfl,fg,_,rfl,rfl,hls,.inl ⟨rfl,_,rfl,?_⟩⟩
 rw[ia,ef,show (aP t.cps.toList).all (Str.ofString "0123456789").cps.contains=(aP t.cps.toList).all bT from List.all_congr rfl fun c=>lj c]
 cases h2:(aP t.cps.toList).all bT with
 |false=>exact aL (qn (bP (.inr (.inl h2))) _ (Same.refl _))
 |true=>
 refine aB ?_
 unfold fi
 dsimp only
 refine bo fun N hN=>?_
 obtain⟨c,r,hcr⟩:=List.exists_cons_of_ne_nil h1
 refine⟨_,rfl,.inr (.inr ⟨fg,0,c,rfl,rfl,hls,by rw[ef,hcr];exact aG,.inl ⟨rfl,_,rfl,?_⟩⟩)⟩
 rw[cf,show (Str.ofString "0").cps.toList=[48] from by decide+kernel]
 by_cases h4:c=48/\t.cps.toList≠[48]
 ·rw[decide_eq_true (by rw[h4.1])]
  refine aL ⟨_,rfl,.inl ⟨rfl,_,rfl,?_⟩⟩
  rw[cf,show (Str.ofString "0").cps.toList=[48] from by decide+kernel,decide_eq_false h4.2]
  exact aL (qn (bP (.inr (.inr (.inr ⟨by rw[hcr,h4.1];rfl,h4.2⟩)))) _ (Same.refl _))
 have hs:=gK h1 h2 (by omega) (fun z=>h4 ⟨by rw[hcr] at z;exact Option.some.inj z.1,z.2⟩)
 have fin:N [some (.str t),some (.str fg),none,none] H:=by
  refine hN _ _ ⟨_,rfl,fg,rfl,mZ (x:=fg) (fun i σ H2=>∃ v3,σ=[some (.str t),some (.str fg),some (.int (digitsVal ((aP t.cps.toList).take i):Nat)),v3]/\H2=H) ⟨none,rfl,rfl⟩ ?_ ?_⟩
  ·rintro i d σ H2 hd ⟨v3,rfl,rfl⟩
   rw[ef] at hd
   have hf:=List.all_eq_true.mp h2 d (List.mem_of_getElem? hd)
   have hf':=of_decide_eq_true hf
   refine⟨_,rfl,_,_,rfl,rfl,.inr ⟨by decide,by decide⟩,rfl,_,rfl,_,_,d - 48,[],rfl,rfl,mY hf,_,_,rfl,rfl,?_⟩
   refine⟨some (.str ⟨#[d]⟩),?_,rfl⟩
   rw[gQ hd,Int.natCast_add,Int.natCast_mul]
   rfl
  ·rintro σ H2 ⟨v3,rfl,rfl⟩
   rw[hlen,List.take_of_length_le (Nat.le_refl _)]
   refine⟨_,rfl,1,rfl,(by show 2<=sizeLine;decide),fun l hl=>⟨_,rfl,1,rfl,t,rfl,hzs,?_⟩⟩
   rw[eU]
   refine .inl ⟨rfl,.inr ⟨_,rfl,?_⟩⟩
   rw[gS]
   have q':=q _ (ag hl (.lst [.int 1,.int (-1)]))
   unfold cS at q'
   rw[hs] at q'
   have q'':Q (.int (if eR t.cps.toList=true then -((digitsVal (aP t.cps.toList):Nat):Int) else ((digitsVal (aP t.cps.toList):Nat):Int))) (upd H2 l (.lst [.int 1,.int (-1)])):=q'
   cases hn:eR t.cps.toList with
   |true=>
    rw[hn,if_pos rfl] at q''
    refine .inl ⟨l,[.int 1,.int (-1)],1,.int (-1),rfl,rfl,SqL.of ad,rfl,_,_,rfl,rfl,.inr ⟨by decide,by decide⟩,?_⟩
    rw[Int.mul_neg,Int.mul_one]
    exact q''
   |false=>
    rw[hn,if_neg (by nofun)] at q''
    refine .inl ⟨l,[.int 1,.int (-1)],0,.int 1,rfl,rfl,SqL.of ad,rfl,_,_,rfl,rfl,.inr ⟨by decide,by decide⟩,?_⟩
    rw[Int.mul_one]
    exact q''
 refine bE (fun c1=>⟨_,rfl,.inl ⟨rfl,_,rfl,rS ?_ fin⟩⟩) fun _=>aB fin
 have c1':c=48:=(List.cons.inj (of_decide_eq_true c1)).1
 refine of_decide_eq_true ((cf _ _).trans ?_)
 rw[show (Str.ofString "0").cps.toList=[48] from by decide+kernel]
 exact decide_eq_true (Decidable.byContradiction fun z=>h4 ⟨c1',z⟩)
theorem lI:az ["_law_thing","_law_most","_law_last","_law_one"] ["_law_thing","_law_most"] (am lE):=⟨rfl,rfl,rfl,by decide+kernel,rfl,by decide+kernel,by decide+kernel⟩
theorem nc {f:Addr}{fd:FuncData}(F:Fun K "_law_is_set" "_law_is_set" lE f fd)(T:rf mg):aW P w K mg base cU 1 f fd ["_law_thing","_law_most"] lG:=by
 have sc:=lI
 refine F.ok lI (fun vs H Q E h=>?_) (fun cdv A outer s H vs Q E hr h=>?_)
 ·obtain⟨p,ns,most,rfl,_⟩:=h
  rfl
 obtain⟨p,ns,most,rfl,hp,q⟩:=h
 refine⟨_,(af (au (i:=2) sc.nd rfl (Or.inl rfl) ac)
  (af (eg PassesOwn.never rfl (bv (pv 0)) (aK (i:=3) sc.nd rfl (Or.inl rfl))
   (af (aD (PW.pt (bZ (ak nA (ai ck rfl T.abs PyProof.Rows.boot_abs (aa (pv 3) ae)) (pv 2) (al _)) (bR (ak fm (ai ck rfl T.abs PyProof.Rows.boot_abs (aa (pv 3) ae)) (pv 1) (al _))))) (ah (aq cz)) ar)
   (ah (au (i:=2) sc.nd rfl (Or.inl rfl) (ai ck rfl T.abs PyProof.Rows.boot_abs (aa (pv 3) ae))))))
  (ah (aq cz)))),?_⟩
 refine⟨_,rfl,p,rfl,⟨_,SqL.of hp⟩,gl (K:=K) (a:=p) (xs:=ns.map V.int) (fun i σ H2=>∃ (b:Int) (l:Option V),σ=[some (.ref p),some (.int most),some (.int b),l]/\H2=H/\ci most b ((ns.drop i).map PyData.int)=ci most 0 (ns.map PyData.int))
  ⟨0,none,rfl,rfl,rfl⟩ (fun i σ H2 _ hp'=>by obtain⟨_,_,_,e,_⟩:=hp';rw[e];exact SqL.of hp) ?_ ?_⟩
 ·rintro i y σ H2 hi ⟨b,l,rfl,rfl,hb⟩
  obtain⟨z,rfl,hz⟩:=cI hi
  have hil:i < ns.length:=(List.getElem?_eq_some_iff.mp hz).1
  rw[List.drop_eq_getElem_cons hil,show ns[i]=z from (List.getElem?_eq_some_iff.mp hz).2,List.map_cons,dk] at hb
  refine⟨_,rfl,z,rfl,_,rfl,_,_,rfl,rfl,_,rfl,?_⟩
  refine bE (fun c1=>?_) (fun c1=>?_)
  ·have c1':bb z<=b:=of_decide_eq_true c1
   rw[if_neg (by omega)] at hb
   rw[← hb] at q
   exact aL q
  ·have c1':¬ bb z<=b:=fun hh=>c1 (decide_eq_true hh)
   refine⟨_,rfl,z,rfl,_,rfl,_,_,rfl,rfl,_,rfl,?_⟩
   refine bE (fun c2=>?_) (fun c2=>?_)
   ·have c2':bb z > most:=of_decide_eq_true c2
    rw[if_neg (by omega)] at hb
    rw[← hb] at q
    exact q
   ·have c2':¬ bb z > most:=fun hh=>c2 (decide_eq_true hh)
    rw[if_pos (by omega)] at hb
    exact⟨_,rfl,z,rfl,bb z,some (.int z),rfl,rfl,hb⟩
 ·rintro σ H2 ⟨b,l,rfl,rfl,hb⟩
  rw[List.length_map,List.drop_length] at hb
  rw[← hb] at q
  exact q
end
end K86
namespace K86
open PySem L2 OD
abbrev lJ:Stmt:=dn 35
abbrev lK:Stmt:=dn 36
structure rZ (mg:Str->Option Value):Prop where
 len:mg "len"=none
 min:mg "min"=none
 list:mg "list"=none
def lL:Sp:=fun vs H Q _=>∃ (x:Str) (n m:Int),vs=[.str x,.int n,.int m]/\1<=x.length/\x.length<=100000/\0<=n/\n < 4294967296/\0<=m/\m < 4294967296/\∀ y:Str,y.length<=500000->Q (.str y) H
def lM:Sp:=fun vs H Q _=>∃ (p:Addr) (ss:List Str) (n m:Int),vs=[.ref p,.int n,.int m]/\H p=some (.lst (ss.map V.str))/\1<=ss.length/\ss.length<=201/\(∀ s∈ss,s.length<=700)/\0<=n/\n < 4294967296/\0<=m/\m < 4294967296/\
 ∀ (l:Addr) (us:List Str) (H':Hp),Same H H'->H' l=some (.lst (us.map V.str))->us.length<=300->(∀ s∈us,s.length<=1500)->Q (.ref l) H'
section
variable {P:Program}{w:World}{K:PySem.W.Frag}{mg:Str->Option Value}{base:Heap}
theorem bi (a b:Str):(a++b).length=a.length+b.length:=Array.size_append
theorem bX (c:Nat):(⟨#[c]⟩:Str).length=1:=rfl
theorem nP {α:Type}{xs:List α}{i:Int}(h0:0<=i)(h1:i < xs.length):∃ c,gg xs i=some c:=by
 unfold gg j8
 rw[if_pos h0,if_pos h1]
 exact⟨xs[i.toNat]'(by omega),List.getElem?_eq_getElem _⟩
theorem lN:az ["_law_text","_law_number_here","_law_more","_law_some","_law_sign","_law_at","_law_next_sign"] ["_law_text","_law_number_here","_law_more"] (am lJ):=⟨rfl,rfl,rfl,by decide+kernel,rfl,by decide+kernel,by decide+kernel⟩
theorem ng {f:Addr}{fd:FuncData}(F:Fun K "_law_bent_signs" "_law_bent_signs" lJ f fd)(T:rZ mg):aW P w K mg base cU 1 f fd ["_law_text","_law_number_here","_law_more"] lL:=by
 have sc:=lN
 refine F.ok lN (fun vs H Q E h=>?_) (fun cdv A outer s H vs Q E hr h=>?_)
 ·obtain⟨x,n,m,rfl,_⟩:=h
  rfl
 obtain⟨x,n,m,rfl,hx1,hx2,n0,n1,m0,m1,q⟩:=h
 have hu:=hr.units
 have hxs:x.length<=sizeLine:=Nat.le_trans hx2 (by decide)
 have sl:∀ lo hi,(Txt.slice x lo hi).length<=100000:=fun lo hi=>Nat.le_trans (Txt.slice_le x lo hi) hx2
 have fit:∀ k:Nat,k<=500000->k<=sizeLine:=fun k h=>Nat.le_trans h (by decide)
 refine⟨_,(af (au (i:=3) sc.nd rfl (Or.inl rfl) aj)
  (af (au (i:=3) sc.nd rfl (Or.inl rfl) (ao aU (pv 3) aj))
  (af (aD (ak (aA hu) (ao aF (pv 2) ac) ac (al _)) (ah (au (i:=3) sc.nd rfl (Or.inl rfl) (ao aU aj (pv 0)))) ar)
  (af (au (i:=4) sc.nd rfl (Or.inl rfl) (ax ap (pv 3) (ao aF (ao b9 (pv 2) ac) (ai aN rfl T.len PySem.boot_len (aa (pv 3) ae))) (fun _ _=>rfl)))
  (af (au (i:=5) sc.nd rfl (Or.inl rfl) (ao aF (ao b9 (pv 1) ac) (ao bn (ai aN rfl T.len PySem.boot_len (aa (pv 0) ae)) ac)))
  (af (aD (ak (aA hu) (ao aF (pv 1) ac) ac (al _)) (ah (aq (ao aU (ao aU (aH bB (pv 0) aR (aJ (pv 5))) (pv 4)) (aH bB (pv 0) (aJ (pv 5)) aR)))) ar)
  (af (aD (ak (aA hu) (ao aF (pv 1) ac) ac (al _)) (ah (aq (aH bB (pv 0) aR (aJ (pv 5))))) ar)
  (af (au (i:=5) sc.nd rfl (Or.inl rfl) (ai (jx rfl) rfl T.min PyProof.Rows.boot_min (aa (pv 5) (aa (ao ox (ai aN rfl T.len PySem.boot_len (aa (pv 0) ae)) ac) ae))))
  (af (aD (ak (aA hu) (ao aF (pv 1) ac) ac (al _)) (ah (aq (ao aU (aH bB (pv 0) aR (aJ (pv 5))) (aH bB (pv 0) (aJ (ao bn (pv 5) ac)) aR)))) ar)
  (af (aD (PW.pt (bZ (ak (aA hu) (ao aF (pv 1) ac) ac (al _)) (bR (ak (aA hu) (ao aF (pv 1) ac) ac (al _))))) (ah (aq (ao aU (ao aU (aH bB (pv 0) aR (aJ (pv 5))) (pv 4)) (aH bB (pv 0) (aJ (ao bn (pv 5) ac)) aR)))) ar)
  (af (au (i:=6) sc.nd rfl (Or.inl rfl) (aH bB (pv 0) (aJ (ao bn (pv 5) ac)) (aJ (ao bn (pv 5) ac))))
  (ah (aq (ao aU (ao aU (ao aU (aH bB (pv 0) aR (aJ (pv 5))) (pv 6)) (ax ap (pv 0) (pv 5) (fun _ _=>rfl))) (aH bB (pv 0) (aJ (ao bn (pv 5) ac)) aR))))))))))))))),?_⟩
 refine⟨_,rfl,_,_,rfl,rfl,(by decide+kernel),?_⟩
 unfold bF
 dsimp only
 refine bo fun N hN=>?_
 have key:∀ so:Str,1<=so.length->so.length<=200000->N [some (.str x),some (.int n),some (.int m),some (.str so),none,none,none] H:=fun so s1 s2=>by
  refine hN _ _ ?_
  have hsl:so.cps.toList.length=so.length:=Array.length_toList
  have hxl:x.cps.toList.length=x.length:=Array.length_toList
  obtain⟨c,hc⟩:=nP (xs:=so.cps.toList) (i:=m / 2 % (so.length:Int)) (Int.emod_nonneg _ (by omega)) (by rw[hsl];exact Int.emod_lt_of_pos _ (by omega))
  refine⟨_,rfl,_,rfl,_,_,rfl,rfl,⟨by decide,by decide⟩,_,rfl,.str so,_,rfl,⟨fit _ (by omega),rfl⟩,_,_,rfl,rfl,(by show (0:Int) < (so.length:Int);omega),.inr (.inr ⟨so,_,c,rfl,rfl,fit _ (by omega),hc,?_⟩)⟩
  have a0:=Int.emod_nonneg (n / 12) (show ((x.length:Int)+1)≠0 by omega)
  have a1:=Int.emod_lt_of_pos (n / 12) (show (0:Int) < (x.length:Int)+1 by omega)
  refine⟨_,rfl,_,_,rfl,rfl,⟨by decide,by decide⟩,_,rfl,.str x,_,rfl,⟨hxs,rfl⟩,_,_,rfl,rfl,_,_,rfl,rfl,(by show (0:Int) < (x.length:Int)+1;omega),?_⟩
  generalize n / 12 % ((x.length:Int)+1)=a at a0 a1 ⊢
  have g1:=sl none (some a)
  have g2:=sl (some a) none
  refine⟨_,rfl,_,_,rfl,rfl,(by show (0:Int) < 12;decide),.inl ⟨rfl,_,rfl,bE (fun _=>?_) (fun _=>?_)⟩⟩
  ·refine⟨_,rfl,_,rfl,_,rfl,x,rfl,hxs,_,rfl,_,_,rfl,rfl,fit _ (by rw[bX];omega),_,rfl,_,rfl,_,rfl,x,rfl,hxs,_,_,rfl,rfl,fit _ (by rw[bi,bX];omega),q _ (by rw[bi,bi,bX];omega)⟩
  refine⟨_,rfl,_,_,rfl,rfl,(by show (0:Int) < 12;decide),.inl ⟨rfl,_,rfl,bE (fun _=>?_) (fun _=>?_)⟩⟩
  ·exact⟨_,rfl,_,rfl,_,rfl,x,rfl,hxs,q _ (by omega)⟩
  refine⟨_,rfl,_,rfl,.str x,_,rfl,⟨hxs,rfl⟩,_,_,rfl,rfl,_,_,rfl,?_⟩
  have b0:0<=(if (x.length:Int) - 1 < a then (x.length:Int) - 1 else a)/\(if (x.length:Int) - 1 < a then (x.length:Int) - 1 else a) < x.length:=by
   split<;>omega
  generalize (if (x.length:Int) - 1 < a then (x.length:Int) - 1 else a)=b at b0 ⊢
  obtain⟨b0,b1⟩:=b0
  have g3:=sl none (some b)
  have g4:=sl (some (b+1)) none
  have g5:=sl (some (b+1)) (some (b+2))
  have g6:=sl (some (b+2)) none
  refine⟨_,rfl,_,_,rfl,rfl,(by show (0:Int) < 12;decide),.inl ⟨rfl,_,rfl,bE (fun _=>?_) (fun _=>?_)⟩⟩
  ·exact⟨_,rfl,_,rfl,_,rfl,x,rfl,hxs,_,rfl,_,rfl,_,_,rfl,rfl,_,rfl,x,rfl,hxs,_,_,rfl,rfl,fit _ (by omega),q _ (by rw[bi];omega)⟩
  have mid:jq (jw (fun x y H Q=>∃ i j,x=V.str i/\y=V.str j/\i.length+j.length<=sizeLine/\Q (V.str (i++j)) H) (jw (fun x y H Q=>∃ i j,x=V.str i/\y=V.str j/\i.length+j.length<=sizeLine/\Q (V.str (i++j)) H) (pN kX (bU 0) cO (fv (bU 5))) (bU 4)) (pN kX (bU 0) (fv (jw (mx fun i j=>V.int (i+j)) (bU 5) (tC (V.int 1)))) cO)) {nx:=fun _ H'=>Q .non H',rt:=Q} [some (.str x),some (.int n),some (.int m),some (.str so),some (.str ⟨#[c]⟩),some (.int b),none] H:=
   ⟨_,rfl,_,rfl,_,rfl,x,rfl,hxs,_,rfl,_,_,rfl,rfl,fit _ (by rw[bX];omega),_,rfl,_,rfl,_,_,rfl,rfl,_,rfl,x,rfl,hxs,_,_,rfl,rfl,fit _ (by rw[bi,bX];omega),q _ (by rw[bi,bi,bX];omega)⟩
  refine⟨_,rfl,_,_,rfl,rfl,(by show (0:Int) < 12;decide),.inl ⟨rfl,_,rfl,bE (fun _=>aL mid) (fun _=>?_)⟩⟩
  refine⟨_,rfl,_,_,rfl,rfl,(by show (0:Int) < 12;decide),.inl ⟨rfl,_,rfl,bE (fun _=>mid) (fun _=>?_)⟩⟩
  refine⟨_,rfl,_,rfl,_,_,rfl,rfl,_,rfl,_,rfl,_,_,rfl,rfl,_,rfl,x,rfl,hxs,?_⟩
  obtain⟨c2,hc2⟩:=nP (xs:=x.cps.toList) (i:=b) b0 (by omega)
  exact⟨_,rfl,_,rfl,_,rfl,x,rfl,hxs,_,rfl,_,_,rfl,rfl,fit _ (by omega),_,rfl,_,rfl,.inr (.inr ⟨x,_,c2,rfl,rfl,hxs,hc2,_,_,rfl,rfl,fit _ (by rw[bi,bX];omega),_,rfl,_,rfl,_,_,rfl,rfl,_,rfl,x,rfl,hxs,_,_,rfl,rfl,fit _ (by rw[bi,bi,bX];omega),q _ (by rw[bi,bi,bi,bX];omega)⟩)⟩
 refine⟨_,rfl,_,_,rfl,rfl,(by show (0:Int) < 2;decide),.inl ⟨rfl,_,rfl,bE (fun _=>?_) (fun _=>?_)⟩⟩
 ·refine⟨_,rfl,_,_,rfl,rfl,fit _ (by rw[show (Str.ofString " -0129\nws").length=9 from by decide+kernel];omega),key _ ?_ ?_⟩<;>rw[bi,show (Str.ofString " -0129\nws").length=9 from by decide+kernel]<;>omega
 ·exact key _ (by decide+kernel) (by decide+kernel)
end
end K86
namespace K86
open PySem L2 OD
section
variable {P:Program}{w:World}{K:PySem.W.Frag}{mg:Str->Option Value}{base:Heap}
theorem PSi.mk {X:Cx}{st:Stmt}{t:TS}(h:PS X st t):PSi X st t:=by
 unfold PSi
 exact h
theorem dG {X:Cx}{st:Stmt}{sts:List Stmt}{t u:TS}(h:PSi X st t)(g:PSsi X sts u):PSsi X (st::sts) (gW t u):=by
 unfold PSi at h
 unfold PSsi at g ⊢
 exact af h g
def oddS:List Str:=[Str.ofString "",Str.ofString "00",Str.ofString "01",Str.ofString "-1",Str.ofString "+1",Str.ofString "1_0",Str.ofString "-0",Str.ofString "0",Str.ofString "-",Str.ofString "1",Str.ofString "999999999",Str.ofString "1000000000",Str.ofString "2",Str.ofString "x",Str.ofString "w",Str.ofString "-01"]
theorem pD:∀ o∈oddS,o.length<=10:=by decide+kernel
theorem dH {us:List Str}{i:Int}(h0:0<=i)(h1:i < us.length):∃ u,u∈us/\gg (us.map V.str) i=some (.str u)/\j8 (us.map V.str).length i=some i.toNat/\i.toNat < us.length:=by
 refine⟨us[i.toNat]'(by omega),List.getElem_mem _,?_,?_,by omega⟩
 ·unfold gg j8
  rw[if_pos h0,if_pos (by rw[List.length_map];exact h1)]
  show (us.map V.str)[i.toNat]? =_
  rw[List.getElem?_map,List.getElem?_eq_getElem (by omega)]
  rfl
 ·unfold j8
  rw[if_pos h0,if_pos (by rw[List.length_map];exact h1)]
theorem dZ (us:List Str)(j:Nat)(u:Str):(us.map V.str).set j (.str u)=(us.set j u).map V.str:=by
 rw[List.map_set]
theorem lO:az ["_law_rows_here","_law_number_here","_law_more","_law_at","_law_to","_law_words","_law_odd"] ["_law_rows_here","_law_number_here","_law_more"] (am lK):=⟨rfl,rfl,rfl,by decide+kernel,rfl,by decide+kernel,by decide+kernel⟩
theorem nh {f:Addr}{fd:FuncData}(F:Fun K "_law_bent_rows" "_law_bent_rows" lK f fd)(T:rZ mg):aW P w K mg base cU 1 f fd ["_law_rows_here","_law_number_here","_law_more"] lM:=by
 have sc:=lO
 refine F.ok lO (fun vs H Q E h=>?_) (fun cdv A outer s H vs Q E hr h=>?_)
 ·obtain⟨p,ss,n,m,rfl,_⟩:=h
  rfl
 obtain⟨p,ss,n,m,rfl,hp,hs1,hs2,hz,n0,n1,m0,m1,q⟩:=h
 have hu:=hr.units
 refine dX (au (i:=0) sc.nd rfl (Or.inl rfl) (aS bV rfl T.list PyProof.Rows.boot_list (aa (pv 0) ae))) ?_
 refine dX (au (i:=3) sc.nd rfl (Or.inl rfl) (ao aF (ao b9 (pv 1) ac) (ai aN rfl T.len PySem.boot_len (aa (pv 0) ae)))) ?_
 refine dX (au (i:=4) sc.nd rfl (Or.inl rfl) (ao aF (pv 2) (ai aN rfl T.len PySem.boot_len (aa (pv 0) ae)))) ?_
 refine eN (ib (ak (aA hu) (ao aF (pv 1) ac) ac (al _)) (eM (PSi.mk (fM (bS PySem.F.plainAttrs_list PySem.F.slot_list_insert PySem.F.type_list_insert jI (pv 0) (aa (pv 4) (aa (ax ap (pv 0) (pv 3) (fun _ _=>rfl)) ae)))))) ar) ?_
 refine eN (ib (ak (aA hu) (ao aF (pv 1) ac) ac (al _)) (eM (PSi.mk (d_ (bw (aa (ax ap (pv 0) (pv 4) (fun _ _=>rfl)) (aa (ax ap (pv 0) (pv 3) (fun _ _=>rfl)) ae))) (oo rfl (c5 (fN (pv 0) (pv 3) de) (c5 (fN (pv 0) (pv 4) de) iF)))))) ar) ?_
 refine eN (ib (ak fm (ao aF (pv 1) ac) ac (al _)) (dG (PSi.mk (au (i:=5) sc.nd rfl (Or.inl rfl) (bS PySem.F.plainAttrs_str PySem.F.slot_str_split PySem.F.type_str_split cM (ax ap (pv 0) (pv 3) (fun _ _=>rfl)) (aa aj ae))))
   (dG (mT (PEi.lst (PAi.cons (PEi.mk aj) (PAi.cons (PEi.mk aj) (PAi.cons (PEi.mk aj) (PAi.cons (PEi.mk aj) (PAi.cons (PEi.mk aj) (PAi.cons (PEi.mk aj) (PAi.cons (PEi.mk aj) (PAi.cons (PEi.mk aj) (PAi.cons (PEi.mk aj) (PAi.cons (PEi.mk aj) (PAi.cons (PEi.mk aj) (PAi.cons (PEi.mk aj) (PAi.cons (PEi.mk aj) (PAi.cons (PEi.mk aj) (PAi.cons (PEi.mk aj) (PAi.cons (PEi.mk aj) PAi.nil (fun _ _ z=>nomatch z)) (fun _ _ z=>nomatch z)) (fun _ _ z=>nomatch z)) (fun _ _ z=>nomatch z)) (fun _ _ z=>nomatch z)) (fun _ _ z=>nomatch z)) (fun _ _ z=>nomatch z)) (fun _ _ z=>nomatch z)) (fun _ _ z=>nomatch z)) (fun _ _ z=>nomatch z)) (fun _ _ z=>nomatch z)) (fun _ _ z=>nomatch z)) (fun _ _ z=>nomatch z)) (fun _ _ z=>nomatch z)) (fun _ _ z=>nomatch z)) (fun _ _ z=>nomatch z))) (aK (i:=6) sc.nd rfl (Or.inl rfl)))
   (dG (PSi.mk (d_ (ax ap (pv 6) (ao aF (ao b9 (pv 2) ac) ac) (fun _ _=>rfl)) (fN (pv 5) (ao aF (ao b9 (pv 2) ac) (ai aN rfl T.len PySem.boot_len (aa (pv 5) ae))) de)))
   (eM (PSi.mk (d_ (bS PySem.F.plainAttrs_str PySem.F.slot_str_join PySem.F.type_str_join cP aj (aa (pv 5) ae)) (fN (pv 0) (pv 3) de))))))) ar) ?_
 refine⟨_,(ah (aq (pv 0))),?_⟩
 refine⟨_,rfl,p,_,rfl,.inl (SqL.of hp),fun l hl=>?_⟩
 have k1:Same H (upd H l (.lst (ss.map V.str))):=ag hl _
 have h1:upd H l (.lst (ss.map V.str)) l=some (.lst (ss.map V.str)):=ad
 generalize upd H l (.lst (ss.map V.str))=H1 at k1 h1 ⊢
 have hlen:(ss.map V.str).length=ss.length:=List.length_map _
 refine⟨_,rfl,_,_,rfl,rfl,⟨by decide,by decide⟩,_,rfl,.ref l,_,rfl,.inl ⟨_,SqL.of h1,rfl⟩,_,_,rfl,rfl,(by show (0:Int) < ((ss.map V.str).length:Int);omega),?_⟩
 rw[hlen]
 have a0:=Int.emod_nonneg (n / 12) (show (ss.length:Int)≠0 by omega)
 have a1:=Int.emod_lt_of_pos (n / 12) (show (0:Int) < (ss.length:Int) by omega)
 generalize n / 12 % (ss.length:Int)=a at a0 a1 ⊢
 refine⟨_,rfl,_,rfl,.ref l,_,rfl,.inl ⟨_,SqL.of h1,rfl⟩,_,_,rfl,rfl,(by show (0:Int) < ((ss.map V.str).length:Int);omega),?_⟩
 rw[hlen]
 have b0:=Int.emod_nonneg m (show (ss.length:Int)≠0 by omega)
 have b1:=Int.emod_lt_of_pos m (show (0:Int) < (ss.length:Int) by omega)
 generalize m % (ss.length:Int)=b at b0 b1 ⊢
 unfold bF
 dsimp only
 refine bo fun N1 hN1=>?_
 have key1:∀ (us:List Str) (H2:Hp),Same H H2->H2 l=some (.lst (us.map V.str))->ss.length<=us.length->us.length<=ss.length+1->(∀ s∈us,s.length<=700)->N1 [some (.ref l),some (.int n),some (.int m),some (.int a),some (.int b),none,none] H2:=fun us H2 k2 h2 l1 l2 hu2=>by
  refine hN1 _ _ ?_
  refine bo fun N2 hN2=>?_
  have key2:∀ (us:List Str) (H2:Hp),Same H H2->H2 l=some (.lst (us.map V.str))->ss.length<=us.length->us.length<=ss.length+1->(∀ s∈us,s.length<=700)->N2 [some (.ref l),some (.int n),some (.int m),some (.int a),some (.int b),none,none] H2:=fun us H2 k2 h2 l1 l2 hu2=>by
   refine hN2 _ _ ?_
   refine bo fun N3 hN3=>?_
   have key3:∀ (us:List Str) (v5 v6:Option V) (H2:Hp),Same H H2->H2 l=some (.lst (us.map V.str))->us.length<=300->(∀ s∈us,s.length<=1500)->N3 [some (.ref l),some (.int n),some (.int m),some (.int a),some (.int b),v5,v6] H2:=fun us v5 v6 H2 k2 h2 l1 hu2=>hN3 _ _ ⟨_,rfl,q l us H2 k2 h2 l1 hu2⟩
   refine⟨_,rfl,_,_,rfl,rfl,(by show (0:Int) < 12;decide),_,_,rfl,rfl,_,rfl,bE (fun _=>?_) (fun _=>?_)⟩
   ·obtain⟨u,um,ua,ui,ul⟩:=dH (us:=us) a0 (by omega)
    have huu:=hu2 u um
    refine⟨_,rfl,_,rfl,.inl ⟨l,_,_,.str u,rfl,rfl,SqL.of h2,ua,rfl,u,Str.ofString " ",rfl,rfl,(by decide+kernel),(by omega),fun l5 hl5=>?_⟩⟩
    have hsum:=j1 u (Str.ofString " ") eX
    have hpos:=PyProof.Rows.split_pos u (Str.ofString " ")
    generalize Txt.split u (Str.ofString " ")=ws at hsum hpos ⊢
    have k3:Same H2 (upd H2 l5 (.lst (ws.map V.str))):=ag hl5 _
    have h3:upd H2 l5 (.lst (ws.map V.str)) l5=some (.lst (ws.map V.str)):=ad
    have nl5:H l5=none:=k2.free hl5
    have n5:l≠l5:=av h2 hl5
    generalize upd H2 l5 (.lst (ws.map V.str))=H3 at k3 h3 ⊢
    refine⟨(by show 16<=sizeLine;decide),fun l6 hl6=>?_⟩
    have k4:Same H3 (upd H3 l6 (.lst [.str (Str.ofString ""),.str (Str.ofString "00"),.str (Str.ofString "01"),.str (Str.ofString "-1"),.str (Str.ofString "+1"),.str (Str.ofString "1_0"),.str (Str.ofString "-0"),.str (Str.ofString "0"),.str (Str.ofString "-"),.str (Str.ofString "1"),.str (Str.ofString "999999999"),.str (Str.ofString "1000000000"),.str (Str.ofString "2"),.str (Str.ofString "x"),.str (Str.ofString "w"),.str (Str.ofString "-01")])):=ag hl6 _
    have h4:upd H3 l6 (.lst [.str (Str.ofString ""),.str (Str.ofString "00"),.str (Str.ofString "01"),.str (Str.ofString "-1"),.str (Str.ofString "+1"),.str (Str.ofString "1_0"),.str (Str.ofString "-0"),.str (Str.ofString "0"),.str (Str.ofString "-"),.str (Str.ofString "1"),.str (Str.ofString "999999999"),.str (Str.ofString "1000000000"),.str (Str.ofString "2"),.str (Str.ofString "x"),.str (Str.ofString "w"),.str (Str.ofString "-01")]) l6=some (.lst (oddS.map V.str)):=ad
    generalize upd H3 l6 (.lst [.str (Str.ofString ""),.str (Str.ofString "00"),.str (Str.ofString "01"),.str (Str.ofString "-1"),.str (Str.ofString "+1"),.str (Str.ofString "1_0"),.str (Str.ofString "-0"),.str (Str.ofString "0"),.str (Str.ofString "-"),.str (Str.ofString "1"),.str (Str.ofString "999999999"),.str (Str.ofString "1000000000"),.str (Str.ofString "2"),.str (Str.ofString "x"),.str (Str.ofString "w"),.str (Str.ofString "-01")])=H4 at k4 h4 ⊢
    obtain⟨o,om,oa,oi,ol⟩:=dH (us:=oddS) (i:=m / 1000 % 16) (Int.emod_nonneg _ (by decide)) (Int.emod_lt_of_pos _ (by decide))
    refine⟨_,rfl,_,rfl,_,_,rfl,rfl,⟨by decide,by decide⟩,_,_,rfl,rfl,(by show (0:Int) < 16;decide),.inl ⟨l6,_,_,.str o,rfl,rfl,SqL.of h4,oa,?_⟩⟩
    have h5:=k4 _ _ h3
    have hwl:(ws.map V.str).length=ws.length:=List.length_map _
    have c0:=Int.emod_nonneg (m / 100) (show (ws.length:Int)≠0 by omega)
    have c1:=Int.emod_lt_of_pos (m / 100) (show (0:Int) < (ws.length:Int) by omega)
    obtain⟨_,_,_,ji,jl⟩:=dH (us:=ws) c0 c1
    refine⟨_,rfl,_,rfl,_,_,rfl,rfl,⟨by decide,by decide⟩,_,rfl,.ref l5,_,rfl,.inl ⟨_,SqL.of h5,rfl⟩,_,_,rfl,rfl,(by show (0:Int) < ((ws.map V.str).length:Int);omega),l5,_,_,(m / 100 % (ws.length:Int)).toNat,rfl,rfl,h5,by rw[hwl] at ji ⊢;exact ji,?_⟩
    rw[dZ]
    have hol:=pD o om
    have hsum2:=i0 o ws (m / 100 % (ws.length:Int)).toNat
    have hlen2:(ws.set (m / 100 % (ws.length:Int)).toNat o).length=ws.length:=List.length_set
    generalize ws.set (m / 100 % (ws.length:Int)).toNat o=ws2 at hsum2 hlen2 ⊢
    have h6:H4 l=some (.lst (us.map V.str)):=k4 _ _ (k3 _ _ h2)
    refine⟨rfl,_,rfl,_,l5,ws2,rfl,rfl,SqL.of ad,?_,_,rfl,_,rfl,l,_,a,a.toNat,rfl,rfl,by rw[ay n5];exact h6,ui,?_⟩
    ·rw[eX]
     omega
    rw[dZ]
    refine key3 _ _ _ _ (((k2.trans (k3.trans k4)).upd_new nl5 _).upd_new hl _) ad (by rw[List.length_set];omega) fun s hs=>?_
    rcases List.mem_or_eq_of_mem_set hs with w|w
    ·exact Nat.le_trans (hu2 s w) (by decide)
    ·rw[w,dm,eX]
     omega
   ·exact key3 us none none H2 k2 h2 (by omega) fun s hs=>Nat.le_trans (hu2 s hs) (by decide)
  refine⟨_,rfl,_,_,rfl,rfl,(by show (0:Int) < 12;decide),.inl ⟨rfl,_,rfl,bE (fun _=>?_) (fun _=>?_)⟩⟩
  ·obtain⟨u,um,ua,ui,ul⟩:=dH (us:=us) a0 (by omega)
   obtain⟨v,vm,va,vi,vl⟩:=dH (us:=us) b0 (by omega)
   refine⟨_,rfl,_,rfl,.inl ⟨l,_,_,.str v,rfl,rfl,SqL.of h2,va,?_⟩⟩
   refine⟨_,rfl,_,rfl,.inl ⟨l,_,_,.str u,rfl,rfl,SqL.of h2,ua,(by show 2<=sizeLine;decide),fun p5 hp5=>?_⟩⟩
   have n5:l≠p5:=av h2 hp5
   have h3:=ag hp5 (.tup [.str v,.str u]) _ _ h2
   have k3:Same H (upd H2 p5 (.tup [.str v,.str u])):=k2.trans (ag hp5 _)
   refine⟨p5,[.str v,.str u],rfl,SqT.of ad,rfl,?_⟩
   generalize upd H2 p5 (.tup [.str v,.str u])=H3 at h3 k3 ⊢
   refine⟨_,_,rfl,_,rfl,_,rfl,l,_,a,a.toNat,rfl,rfl,h3,ui,?_⟩
   rw[dZ]
   refine⟨_,_,rfl,_,rfl,_,rfl,l,_,b,b.toNat,rfl,rfl,ad,by rw[List.length_map,List.length_set,← List.length_map (f:=V.str)];exact vi,?_⟩
   rw[dZ,cn]
   refine⟨rfl,key2 _ _ (k3.upd_new hl _) ad (by rw[List.length_set,List.length_set];exact l1) (by rw[List.length_set,List.length_set];exact l2) fun s hs=>?_⟩
   rcases List.mem_or_eq_of_mem_set hs with w|w
   ·rcases List.mem_or_eq_of_mem_set w with w|w
    ·exact hu2 s w
    ·rw[w];exact hu2 v vm
   ·rw[w];exact hu2 u um
  ·exact key2 us H2 k2 h2 l1 l2 hu2
 refine⟨_,rfl,_,_,rfl,rfl,(by show (0:Int) < 12;decide),.inl ⟨rfl,_,rfl,bE (fun _=>?_) (fun _=>?_)⟩⟩
 ·obtain⟨u,um,ua,ui,ul⟩:=dH (us:=ss) a0 (by omega)
  refine⟨_,rfl,.inl ⟨rfl,_,SqL.of h1⟩,_,rfl,_,rfl,_,rfl,.inl ⟨l,_,_,.str u,rfl,rfl,SqL.of h1,ua,?_⟩⟩
  refine⟨l,_,b,_,rfl,rfl,h1,b0,(by omega),aY (by omega),?_⟩
  have e:(ss.map V.str).take b.toNat++.str u::(ss.map V.str).drop b.toNat=(ss.take b.toNat++u::ss.drop b.toNat).map V.str:=by
   rw[List.map_append,List.map_cons,List.map_take,List.map_drop]
  rw[e]
  have hlen2:(ss.take b.toNat++u::ss.drop b.toNat).length=ss.length+1:=by
   rw[List.length_append,List.length_cons,List.length_take,List.length_drop]
   omega
  refine key1 _ _ (k1.upd_new hl _) ad (by omega) (by omega) fun s hs=>?_
  rcases List.mem_append.mp hs with w|w
  ·exact hz s (List.mem_of_mem_take w)
  ·rcases List.mem_cons.mp w with rfl|w
   ·exact hz _ um
   ·exact hz s (List.mem_of_mem_drop w)
 ·exact key1 ss H1 k1 h1 (Nat.le_refl _) (by omega) hz
end
end K86
namespace K86
open PySem L2 OD
abbrev iu:Stmt:=dn 37
structure sr (K:PySem.W.Frag)(mg:Str->Option Value)(CF CD C1 C2 C3 C4 C5 C6 C8 C9:Addr):Prop where
 len:mg "len"=none
 isinstance:mg "isinstance"=none
 ValueError:mg "ValueError"=none
 g_DuelError:bO mg "DuelError" (.ref CD)
 g_NoVariable:bO mg "NoVariable" (.ref C1)
 g_NoFilling:bO mg "NoFilling" (.ref C2)
 g_BadLine:bO mg "BadLine" (.ref C3)
 g_NotWhole:bO mg "NotWhole" (.ref C4)
 g_NoHand:bO mg "NoHand" (.ref C5)
 g_BadStep:bO mg "BadStep" (.ref C6)
 g_NoForm:bO mg "NoForm" (.ref C9)
 g_TooMany:bO mg "TooMany" (.ref C8)
 g_NoText:bO mg "NoText" (.ref CF)
 ask:cL K CF
 kV:PySem.W.kitOne K (.ref CF) (.type "ValueError")=some true
 kD:PySem.W.kitOne K (.ref CF) (.ref CD)=some true
 k1:PySem.W.kitOne K (.ref CF) (.ref C1)=some false
 k2:PySem.W.kitOne K (.ref CF) (.ref C2)=some false
 k3:PySem.W.kitOne K (.ref CF) (.ref C3)=some false
 k4:PySem.W.kitOne K (.ref CF) (.ref C4)=some false
 k5:PySem.W.kitOne K (.ref CF) (.ref C5)=some false
 k6:PySem.W.kitOne K (.ref CF) (.ref C6)=some false
 k8:PySem.W.kitOne K (.ref CF) (.ref C8)=some false
 k9:PySem.W.kitOne K (.ref CF) (.ref C9)=some false
def i8 (CF:Addr):Sp:=fun vs H Q _=>∃ ea:Addr,vs=[.ref ea]/\H ea=some (fW ea CF)/\∀ H':Hp,Same H H'->Q (.bl true) H'
section
variable {P:Program}{w:World}{K:PySem.W.Frag}{mg:Str->Option Value}{base:Heap}{CF CD C1 C2 C3 C4 C5 C6 C8 C9:Addr}
theorem i9:az ["_law_error","_law_told"] ["_law_error"] (am iu):=⟨rfl,rfl,rfl,by decide+kernel,rfl,by decide+kernel,by decide+kernel⟩
theorem lP {f:Addr}{fd:FuncData}(F:Fun K "_law_alone" "_law_alone" iu f fd)(T:sr K mg CF CD C1 C2 C3 C4 C5 C6 C8 C9):aW P w K mg base cU 1 f fd ["_law_error"] (i8 CF):=by
 have sc:=i9
 refine F.ok i9 (fun vs H Q E h=>?_) (fun cdv A outer s H vs Q E hr h=>?_)
 ·obtain⟨ea,rfl,_⟩:=h
  rfl
 obtain⟨ea,rfl,he,q⟩:=h
 have hu:=hr.units
 have kN:PySem.W.kitOne K (.ref CF) (.ref CF)=some true:=kW K CF
 refine⟨_,(af (aD (PW.pt (bZ (bj (aZ (ai aM rfl T.isinstance PyProof.Rows.boot_isinstance (aa (pv 0) (aa (aQ rfl T.g_DuelError) ae))))) (bR (bj (aZ (ai aM rfl T.isinstance PyProof.Rows.boot_isinstance (aa (pv 0) (aa (bg (v:=.ty "ValueError") rfl T.ValueError PyProof.Rows.Boot.«ValueError» rfl) ae)))))))) (ah (aq cz)) ar)
  (af (au (i:=1) sc.nd rfl (Or.inl rfl) (bI (aa (ai aM rfl T.isinstance PyProof.Rows.boot_isinstance (aa (pv 0) (aa (aQ rfl T.g_NoVariable) ae))) (aa (ai aM rfl T.isinstance PyProof.Rows.boot_isinstance (aa (pv 0) (aa (aQ rfl T.g_NoFilling) ae))) (aa (ai aM rfl T.isinstance PyProof.Rows.boot_isinstance (aa (pv 0) (aa (aQ rfl T.g_BadLine) ae))) ae)))))
  (af (au (i:=1) sc.nd rfl (Or.inl rfl) (ao eo (pv 1) (bI (aa (ai aM rfl T.isinstance PyProof.Rows.boot_isinstance (aa (pv 0) (aa (aQ rfl T.g_NotWhole) ae))) (aa (ai aM rfl T.isinstance PyProof.Rows.boot_isinstance (aa (pv 0) (aa (aQ rfl T.g_NoHand) ae))) (aa (ai aM rfl T.isinstance PyProof.Rows.boot_isinstance (aa (pv 0) (aa (aQ rfl T.g_BadStep) ae))) ae))))))
  (af (au (i:=1) sc.nd rfl (Or.inl rfl) (ao eo (pv 1) (bI (aa (ai aM rfl T.isinstance PyProof.Rows.boot_isinstance (aa (pv 0) (aa (aQ rfl T.g_NoForm) ae))) (aa (ai aM rfl T.isinstance PyProof.Rows.boot_isinstance (aa (pv 0) (aa (aQ rfl T.g_TooMany) ae))) (aa (ai aM rfl T.isinstance PyProof.Rows.boot_isinstance (aa (pv 0) (aa (aQ rfl T.g_NoText) ae))) ae))))))
  (ah (aq (a_ (aA hu) (ai aN rfl T.len PySem.boot_len (aa (bA (NY:=["_law_one"]) (idx:=[none]) rfl ⟨by with_unfolding_all rfl,(by with_unfolding_all exact trivial),fun _=>by rfl,by rfl,by rfl,by rfl,by decide⟩ (bv (pv 1)) (fun _ _ _ _=>(aK (i:=0) (show List.Nodup (["_law_one"]:List Str) by decide+kernel) rfl (Or.inl rfl))) (fun _ _ _ _=>(dU (aZ (pv 0)))) (fun _ _ _ _=>(pv 0))) ae)) ac (al _)))))))),?_⟩
 refine⟨_,rfl,⟨ea,CF,_,_,_,rfl,rfl,he,T.ask,T.kD,true,rfl,aB ?_⟩⟩
 refine⟨_,rfl,⟨ea,CF,.ty "ValueError",.type "ValueError",true,rfl,rfl,he,T.ask,T.kV,true,rfl,aB ?_⟩⟩
 refine⟨_,rfl,⟨ea,CF,_,_,_,rfl,rfl,he,T.ask,T.k1,_,rfl,⟨ea,CF,_,_,_,rfl,rfl,he,T.ask,T.k2,_,rfl,⟨ea,CF,_,_,_,rfl,rfl,he,T.ask,T.k3,(by show 3<=sizeLine;decide),fun l1 hl1=>?_⟩⟩⟩⟩
 have k1:=ag hl1 (.lst [.bl false,.bl false,.bl false])
 have r1:upd H l1 (.lst [.bl false,.bl false,.bl false]) l1=some (.lst [.bl false,.bl false,.bl false]):=ad
 show bF 1 (.ref l1) _ (upd H l1 (.lst [.bl false,.bl false,.bl false])) _
 generalize upd H l1 (.lst [.bl false,.bl false,.bl false])=H1 at k1 r1
 refine⟨_,rfl,_,rfl,⟨ea,CF,_,_,_,rfl,rfl,(k1 _ _ he),T.ask,T.k4,_,rfl,⟨ea,CF,_,_,_,rfl,rfl,(k1 _ _ he),T.ask,T.k5,_,rfl,⟨ea,CF,_,_,_,rfl,rfl,(k1 _ _ he),T.ask,T.k6,(by show 3<=sizeLine;decide),fun l2 hl2=>?_⟩⟩⟩⟩
 have k2:=ag hl2 (.lst [.bl false,.bl false,.bl false])
 refine⟨l1,l2,_,_,rfl,rfl,k2 _ _ r1,ad,(by show 6<=sizeLine;decide),fun l3 hl3=>?_⟩
 have k3:=k1.trans (k2.trans (ag hl3 (.lst [.bl false,.bl false,.bl false,.bl false,.bl false,.bl false])))
 have r3:upd (upd H1 l2 (.lst [.bl false,.bl false,.bl false])) l3 (.lst [.bl false,.bl false,.bl false,.bl false,.bl false,.bl false]) l3=some (.lst [.bl false,.bl false,.bl false,.bl false,.bl false,.bl false]):=ad
 show bF 1 (.ref l3) _ (upd (upd H1 l2 (.lst [.bl false,.bl false,.bl false])) l3 (.lst [.bl false,.bl false,.bl false,.bl false,.bl false,.bl false])) _
 generalize upd (upd H1 l2 (.lst [.bl false,.bl false,.bl false])) l3 (.lst [.bl false,.bl false,.bl false,.bl false,.bl false,.bl false])=H3 at k3 r3
 refine⟨_,rfl,_,rfl,⟨ea,CF,_,_,_,rfl,rfl,(k3 _ _ he),T.ask,T.k9,_,rfl,⟨ea,CF,_,_,_,rfl,rfl,(k3 _ _ he),T.ask,T.k8,_,rfl,⟨ea,CF,_,_,_,rfl,rfl,(k3 _ _ he),T.ask,kN,(by show 3<=sizeLine;decide),fun l4 hl4=>?_⟩⟩⟩⟩
 have k4:=ag hl4 (.lst [.bl false,.bl false,.bl true])
 refine⟨l3,l4,_,_,rfl,rfl,k4 _ _ r3,ad,(by show 9<=sizeLine;decide),fun l5 hl5=>?_⟩
 have k5:=k3.trans (k4.trans (ag hl5 (.lst [.bl false,.bl false,.bl false,.bl false,.bl false,.bl false,.bl false,.bl false,.bl true])))
 have r5:upd (upd H3 l4 (.lst [.bl false,.bl false,.bl true])) l5 (.lst [.bl false,.bl false,.bl false,.bl false,.bl false,.bl false,.bl false,.bl false,.bl true]) l5=some (.lst [.bl false,.bl false,.bl false,.bl false,.bl false,.bl false,.bl false,.bl false,.bl true]):=ad
 generalize e5:upd (upd H3 l4 (.lst [.bl false,.bl false,.bl true])) l5 (.lst [.bl false,.bl false,.bl false,.bl false,.bl false,.bl false,.bl false,.bl false,.bl true])=H5 at k5 r5
 refine⟨_,rfl,l5,rfl,⟨_,SqL.of (by rw[← e5] at r5;exact r5)⟩,fun D hD=>?_⟩
 refine hX [] (fun x=>match x with|.bl b=>b|_=>false) (fun x=>x) rfl (by rw[← e5] at r5;exact r5) hD (by decide) ?_ ?_ ?_
 ·intro x hx H' R k r
  obtain⟨b,rfl⟩:∃ b,x=.bl b:=by
   simp only [List.mem_cons,List.not_mem_nil,or_false] at hx
   rcases hx with rfl|rfl|rfl|rfl|rfl|rfl|rfl|rfl|rfl<;>exact⟨_,rfl⟩
  exact⟨_,rfl,b,rfl,r⟩
 ·intro x hx _ H' R k r
  exact⟨_,rfl,r⟩
 ·refine⟨.ref D,_,rfl,.inl ⟨_,SqL.of ad,rfl⟩,.inl ⟨rfl,?_⟩⟩
  refine q _ ?_
  rw[← e5] at k5
  exact k5.trans (ag hD _)
end
end K86
namespace K86
open PySem L2 OD
abbrev iw:Stmt:=dn 21
abbrev lQ:Stmt:=dn 22
abbrev iy:Stmt:=dn 23
abbrev iz:Stmt:=dn 40
structure r0 (mg:Str->Option Value):Prop where
 list:mg "list"=none
 str:mg "str"=none
def fc (L:Ln):Str:=Txt.join (Str.ofString " ") (L.1::L.2.map dl)
def bQ (h:Str)(ls:List Ln):List Str:=h::ls.map fc
theorem e_ {L:Ln}(h:dF L):(∀ s∈L.1::L.2.map dl,s.length<=101)/\(L.1::L.2.map dl).length<=6:=by
 refine⟨fun s hs=>?_,by rw[List.length_cons,List.length_map];have:=h.ll;omega⟩
 rcases List.mem_cons.mp hs with rfl|hs
 ·have:=h.w.len
  omega
 ·obtain⟨i,hi,rfl⟩:=List.mem_map.mp hs
  exact ln (h.nl i hi)
theorem gT {L:Ln}(h:dF L):((L.1::L.2.map dl).map (·.length)).sum+(L.1::L.2.map dl).length*(Str.ofString " ").length<=16777216:=by
 obtain⟨a,b⟩:=e_ h
 have h1:=f_ a
 have h2:(L.1::L.2.map dl).length*101<=6*101:=Nat.mul_le_mul_right _ b
 rw[eX]
 omega
theorem lR {L:Ln}(h:dF L):(fc L).length<=700:=by
 obtain⟨a,b⟩:=e_ h
 exact Nat.le_trans (gb a b eX) (by decide)
theorem dI {h:Str}{ls:List Ln}(hh:hOk h)(hl:ls.length<=16)(hs:∀ L∈ls,dF L):(bQ h ls).length<=17/\∀ s∈bQ h ls,s.length<=700:=by
 refine⟨by unfold bQ;rw[List.length_cons,List.length_map];omega,fun s hs'=>?_⟩
 rcases List.mem_cons.mp hs' with rfl|hs'
 ·have:=hh.len
  omega
 ·obtain⟨L,hL,rfl⟩:=List.mem_map.mp hs'
  exact lR (hs L hL)
theorem fJ {h:Str}{ls:List Ln}(hh:hOk h)(hl:ls.length<=16)(hs:∀ L∈ls,dF L):((bQ h ls).map (·.length)).sum+(bQ h ls).length*(Str.ofString "\n").length<=16777216:=by
 obtain⟨a,b⟩:=dI hh hl hs
 have h1:=f_ b
 have h2:(bQ h ls).length*700<=17*700:=Nat.mul_le_mul_right _ a
 rw[gc]
 omega
theorem j4 {h:Str}{ls:List Ln}(hh:hOk h)(hl:ls.length<=16)(hs:∀ L∈ls,dF L):(Txt.join (Str.ofString "\n") (bQ h ls)).length<=40000/\1<=(Txt.join (Str.ofString "\n") (bQ h ls)).length:=by
 obtain⟨a,b⟩:=dI hh hl hs
 refine⟨Nat.le_trans (gb b a gc) (by decide),?_⟩
 rw[dm]
 unfold bQ
 rw[List.map_cons,List.sum_cons]
 have:=hh.len
 omega
def i_:Sp:=fun vs H Q _=>∃ (p:Addr) (L:Ln),vs=[.ref p]/\H p=some (.tup (.str L.1::L.2.map V.int))/\dF L/\∀ H',Same H H'->Q (.str (fc L)) H'
def lS:Sp:=fun vs H Q _=>∃ (v:V) (L:Ln),vs=[v]/\LnA H L v/\dF L/\∀ H',Same H H'->Q (.str (fc L)) H'
def ja:Sp:=fun vs H Q _=>∃ (p q:Addr) (xs:List V) (h:Str) (ls:List Ln),vs=[.ref p]/\H p=some (.tup [.str h,.ref q])/\H q=some (.lst xs)/\LnAs H ls xs/\hOk h/\ls.length<=16/\(∀ L∈ls,dF L)/\∀ H',Same H H'->Q (.str (Txt.join (Str.ofString "\n") (bQ h ls))) H'
def jb:Sp:=fun vs H Q _=>∃ (p q:Addr) (xs:List V) (h:Str) (ls:List Ln),vs=[.ref p]/\H p=some (.tup [.str h,.ref q])/\H q=some (.lst xs)/\LnAs H ls xs/\hOk h/\ls.length<=16/\(∀ L∈ls,dF L)/\∀ l H',Same H H'->H l=none->H' l=some (.lst ((bQ h ls).map V.str))->Q (.ref l) H'
def dM:V->Str
 |.str a=>a
 |.int i=>dl i
 |_=>Str.empty
section
variable {P:Program}{w:World}{K:PySem.W.Frag}{mg:Str->Option Value}{base:Heap}
theorem iA {H:Hp}{p D:Addr}{xs:List V}{σ0:St}{Q:VK}{r:List V->Hp->VK->Prop}(hp:H p=some (.tup xs))(hD:H D=none)(hl:xs.length<=1000)(e0:σ0=[none])(hr:∀ x∈xs,∀ H Q,Q (.str (dM x)) H->r [x] H Q)
  (hq:Q (.ref D) (upd H D (.lst ((xs.map dM).map V.str)))):dj (oq K p) D (bF 0) pP (ql r (cB (bU 0) gn)) σ0 H Q:=by
 refine eG (K:=K) (a:=p) (xs:=xs) (fun i σ ys H2=>(∃ v0,σ=[v0])/\ys=((xs.take i).map dM).map V.str/\H2=upd H D (.lst ys)) ⟨⟨none,e0⟩,rfl,rfl⟩ ?_ ?_ ?_
 ·rintro i σ ys H2 _ ⟨_,_,rfl⟩
  exact⟨ad,SqT.of (by rw[ay (av hp hD)];exact hp)⟩
 ·rintro i x σ ys H2 hx ⟨⟨v0,rfl⟩,rfl,rfl⟩
  have hil:i < xs.length:=(List.getElem?_eq_some_iff.mp hx).1
  refine bq ⟨_,rfl,hr x (List.mem_of_getElem? hx) _ _ ⟨ad,?_,⟨_,rfl⟩,?_,cn⟩⟩
  ·rw[List.length_map,List.length_map,List.length_take]
   exact aY (by omega)
  ·rw[List.take_add_one,hx,List.map_append,List.map_append]
   rfl
 ·rintro σ ys H2 ⟨_,rfl,rfl⟩
  rw[List.take_of_length_le (Nat.le_refl _)]
  exact hq
theorem iB {H:Hp}{p D:Addr}{xs:List V}{σ0:St}{Q:VK}{r:List V->Hp->VK->Prop}(hp:H p=some (.lst xs))(hD:H D=none)(hl:xs.length<=1000)(e0:σ0=[none])(hr:∀ x∈xs,∀ H Q,Q (.str (dM x)) H->r [x] H Q)
  (hq:Q (.ref D) (upd H D (.lst ((xs.map dM).map V.str)))):dj (mv K p) D (bF 0) pP (ql r (cB (bU 0) gn)) σ0 H Q:=by
 refine bd (K:=K) (a:=p) (xs:=xs) (fun i σ ys H2=>(∃ v0,σ=[v0])/\ys=((xs.take i).map dM).map V.str/\H2=upd H D (.lst ys)) ⟨⟨none,e0⟩,rfl,rfl⟩ ?_ ?_ ?_
 ·rintro i σ ys H2 _ ⟨_,_,rfl⟩
  exact⟨ad,SqL.of (by rw[ay (av hp hD)];exact hp)⟩
 ·rintro i x σ ys H2 hx ⟨⟨v0,rfl⟩,rfl,rfl⟩
  have hil:i < xs.length:=(List.getElem?_eq_some_iff.mp hx).1
  refine bq ⟨_,rfl,hr x (List.mem_of_getElem? hx) _ _ ⟨ad,?_,⟨_,rfl⟩,?_,cn⟩⟩
  ·rw[List.length_map,List.length_map,List.length_take]
   exact aY (by omega)
  ·rw[List.take_add_one,hx,List.map_append,List.map_append]
   rfl
 ·rintro σ ys H2 ⟨_,rfl,rfl⟩
  rw[List.take_of_length_le (Nat.le_refl _)]
  exact hq
theorem fK (ns:List Int):(ns.map V.int).map dM=ns.map dl:=by
 rw[List.map_map]
 rfl
theorem jc:az ["parts"] ["parts"] (am iw):=⟨rfl,rfl,rfl,by decide+kernel,rfl,by decide+kernel,by decide+kernel⟩
theorem lT {f:Addr}{fd:FuncData}(F:Fun K "shown_row" "shown_row" iw f fd)(T:r0 mg):aW P w K mg base cU 1 f fd ["parts"] i_:=by
 have sc:=jc
 refine F.ok jc (fun vs H Q E h=>?_) (fun cdv A outer s H vs Q E hr h=>?_)
 ·obtain⟨p,L,rfl,_⟩:=h
  rfl
 obtain⟨p,L,rfl,hp,sL,q⟩:=h
 refine⟨_,(ah (aq (bS PySem.F.plainAttrs_str PySem.F.slot_str_join PySem.F.type_str_join cP aj (aa (bA (NY:=["part"]) (idx:=[none]) rfl ⟨by with_unfolding_all rfl,(by with_unfolding_all exact trivial),fun _=>by rfl,by rfl,by rfl,by rfl,by decide⟩ (fO (pv 0)) (fun _ _ _ _=>(aK (i:=0) (show List.Nodup (["part"]:List Str) by decide+kernel) rfl (Or.inl rfl))) (fun _ _ _ _=>bz) (fun _ _ _ _=>(aS jX rfl T.str PyProof.Rows.boot_str (aa (pv 0) ae)))) ae)))),?_⟩
 refine⟨rfl,_,rfl,p,rfl,⟨_,SqT.of hp⟩,fun D hD=>?_⟩
 have hll:=sL.ll
 refine iA hp hD (by rw[List.length_cons,List.length_map];omega) rfl (fun x hx H Q h2=>?_) ?_
 ·rcases List.mem_cons.mp hx with rfl|hx
  ·exact .inr ⟨_,rfl,h2⟩
  ·obtain⟨i,hi,rfl⟩:=List.mem_map.mp hx
   exact .inl ⟨i,rfl,iZ (sL.nl i hi) (by decide),h2⟩
 ·have e:(V.str L.1::L.2.map V.int).map dM=L.1::L.2.map dl:=by rw[List.map_cons,fK];rfl
  rw[e]
  exact⟨_,D,_,rfl,rfl,SqL.of ad,gT sL,q _ (ag hD _)⟩
theorem lU:az ["line"] ["line"] (am lQ):=⟨rfl,rfl,rfl,by decide+kernel,rfl,by decide+kernel,by decide+kernel⟩
theorem ni {f f1:Addr}{fd d1:FuncData}(F:Fun K "shown_line" "shown_line" lQ f fd)(Gshown_row:Fn P w K mg base 1 "shown_row" f1 d1 ["parts"] i_):aW P w K mg base cU 2 f fd ["line"] lS:=by
 have sc:=lU
 refine F.ok lU (fun vs H Q E h=>?_) (fun cdv A outer s H vs Q E hr h=>?_)
 ·obtain⟨v,L,rfl,_⟩:=h
  rfl
 obtain⟨v,L,rfl,hL,sL,q⟩:=h
 have hu:=hr.units
 obtain⟨p,rfl,hL⟩:=hL
 have hll:=sL.ll
 refine⟨_,(af (aD (ak (aA hu) (ax ap (pv 0) ac (fun _ _=>rfl)) aj (al _)) (ah (aq (aO Gshown_row hr (by omega) rfl (aa (ao mR (bw (aa (ax ap (pv 0) ac (fun _ _=>rfl)) ae)) (ax ap (pv 0) ac (fun _ _=>rfl))) ae)))) ar)
  (ah (aq (aO Gshown_row hr (by omega) rfl (aa (pv 0) ae))))),?_⟩
 rcases hL with⟨e,qa,hp,hq⟩|⟨e,hp⟩
 ·refine⟨_,rfl,.inr (.inl ⟨p,_,0,.str L.1,rfl,rfl,SqT.of hp,rfl,.inl ⟨rfl,_,rfl,?_⟩⟩)⟩
  rw[show decide (V.str L.1=V.str (Str.ofString "hits"))=true from e]
  refine aL ⟨_,rfl,.inr (.inl ⟨p,_,0,.str L.1,rfl,rfl,SqT.of hp,rfl,(by show 1<=sizeLine;decide),fun p1 hp1=>?_⟩)⟩
  have k1:Same H (upd H p1 (.tup [.str L.1])):=ag hp1 _
  have h1:upd H p1 (.tup [.str L.1]) p1=some (.tup [.str L.1]):=ad
  generalize upd H p1 (.tup [.str L.1])=H1 at k1 h1 ⊢
  refine⟨_,rfl,.inr (.inl ⟨p,_,1,.ref qa,rfl,rfl,SqT.of (k1 _ _ hp),rfl,p1,qa,_,_,rfl,rfl,SqT.of h1,SqT.of (k1 _ _ hq),?_,nofun,fun _ he=>?_,fun _ _ p2 hp2=>?_⟩)⟩
  ·rw[List.length_map]
   exact Nat.le_of_lt (aY (by show 1+L.2.length<=_;omega))
  ·have he':L.2=[]:=List.map_eq_nil_iff.mp he
   exact⟨p1,L,rfl,by rw[h1,he'];rfl,sL,fun H' k=>q _ (k1.trans k)⟩
  ·exact⟨p2,L,rfl,ad,sL,fun H' k=>q _ (k1.trans ((ag hp2 _).trans k))⟩
 ·refine⟨_,rfl,.inr (.inl ⟨p,_,0,.str L.1,rfl,rfl,SqT.of hp,aG,.inl ⟨rfl,_,rfl,?_⟩⟩)⟩
  rw[show decide (V.str L.1=V.str (Str.ofString "hits"))=false from e]
  exact aB ⟨_,rfl,p,L,rfl,hp,sL,q⟩
theorem jd:az ["paper"] ["paper"] (am iy):=⟨rfl,rfl,rfl,by decide+kernel,rfl,by decide+kernel,by decide+kernel⟩
theorem lV {f f1:Addr}{fd d1:FuncData}(F:Fun K "shown_paper" "shown_paper" iy f fd)(Gshown_line:Fn P w K mg base 2 "shown_line" f1 d1 ["line"] lS):aW P w K mg base cU 3 f fd ["paper"] ja:=by
 have sc:=jd
 refine F.ok jd (fun vs H Q E h=>?_) (fun cdv A outer s H vs Q E hr h=>?_)
 ·obtain⟨p,qa,xs,h,ls,rfl,_⟩:=h
  rfl
 obtain⟨p,qa,xs,h,ls,rfl,hp,hq,hL,hh,hl,hs,q⟩:=h
 have hxl:=Paired.length hL
 refine⟨_,(ah (aq (bS PySem.F.plainAttrs_str PySem.F.slot_str_join PySem.F.type_str_join cP aj (aa (ao eo (bI (aa (ax ap (pv 0) ac (fun _ _=>rfl)) ae)) (bA (NY:=["line"]) (idx:=[none]) rfl ⟨by with_unfolding_all rfl,(by with_unfolding_all exact trivial),fun _=>by rfl,by rfl,by rfl,by rfl,by decide⟩ (bv (ax ap (pv 0) ac (fun _ _=>rfl))) (fun _ _ _ _=>(aK (i:=0) (show List.Nodup (["line"]:List Str) by decide+kernel) rfl (Or.inl rfl))) (fun _ _ _ _=>bz) (fun _ _ _ _=>(aO Gshown_line hr (by omega) rfl (aa (pv 0) ae))))) ae)))),?_⟩
 refine⟨rfl,_,rfl,.inr (.inl ⟨p,_,0,.str h,rfl,rfl,SqT.of hp,rfl,(by show 1<=sizeLine;decide),fun l1 hl1=>?_⟩)⟩
 have k1:Same H (upd H l1 (.lst [.str h])):=ag hl1 _
 have h1:upd H l1 (.lst [.str h]) l1=some (.lst [.str h]):=ad
 generalize upd H l1 (.lst [.str h])=H1 at k1 h1 ⊢
 refine⟨_,rfl,.inr (.inl ⟨p,_,1,.ref qa,rfl,rfl,SqT.of (k1 _ _ hp),rfl,qa,rfl,⟨_,SqL.of (k1 _ _ hq)⟩,fun D hD=>?_⟩)⟩
 refine bd (K:=K) (a:=qa) (xs:=xs) (fun i σ ys H2=>(∃ v0,σ=[v0])/\H2 D=some (.lst ys)/\Same H1 H2/\ys=((ls.take i).map fc).map V.str) ⟨⟨none,rfl⟩,ad,ag hD _,rfl⟩ ?_ ?_ ?_
 ·rintro i σ ys H2 _ ⟨_,g1,g2,_⟩
  exact⟨g1,SqL.of (g2 _ _ (k1 _ _ hq))⟩
 ·rintro i x σ ys H2 hx ⟨⟨v0,rfl⟩,g1,g2,g3⟩
  obtain⟨L,hLi,hLa⟩:=hL.get hx
  have hil:i < ls.length:=(List.getElem?_eq_some_iff.mp hLi).1
  refine bq ⟨_,rfl,x,L,rfl,hLa.mono (k1.trans g2),hs L (List.mem_of_getElem? hLi),fun H3 k3=>⟨k3 _ _ g1,?_,⟨_,rfl⟩,ad,(g2.trans k3).upd_new hD _,?_⟩⟩
  ·rw[g3,List.length_map,List.length_map,List.length_take]
   exact aY (by omega)
  ·rw[List.take_add_one,hLi,List.map_append,List.map_append,g3]
   rfl
 ·rintro σ ys H2 ⟨_,g1,g2,g3⟩
  rw[← hxl,List.take_of_length_le (Nat.le_refl _)] at g3
  refine⟨l1,D,_,_,rfl,rfl,g2 _ _ h1,g1,?_,fun l3 hl3=>?_⟩
  ·rw[g3,List.length_map,List.length_map]
   exact Nat.le_of_lt (aY (by show 1+ls.length<=_;omega))
  refine⟨_,l3,bQ h ls,rfl,rfl,SqL.of (by rw[ad,g3];rfl),fJ hh hl hs,q _ (k1.trans (g2.trans (ag hl3 _)))⟩
theorem je:az ["_law_paper_here","_law_rows_here","_law_line_here","_law_numbers"] ["_law_paper_here"] (am iz):=⟨rfl,rfl,rfl,by decide+kernel,rfl,by decide+kernel,by decide+kernel⟩
theorem lW {f:Addr}{fd:FuncData}(F:Fun K "_law_rows" "_law_rows" iz f fd)(T:r0 mg):aW P w K mg base cU 1 f fd ["_law_paper_here"] jb:=by
 have sc:=je
 refine F.ok je (fun vs H Q E h=>?_) (fun cdv A outer s H vs Q E hr h=>?_)
 ·obtain⟨p,qa,xs,h,ls,rfl,_⟩:=h
  rfl
 obtain⟨p,qa,xs,h,ls,rfl,hp,hq,hL,hh,hl,hs,q⟩:=h
 have hxl:=Paired.length hL
 have hu:=hr.units
 refine⟨_,(af (au (i:=1) sc.nd rfl (Or.inl rfl) (bI (aa (ax ap (pv 0) ac (fun _ _=>rfl)) ae)))
  (af (eg PassesOwn.never rfl (bv (ax ap (pv 0) ac (fun _ _=>rfl))) (aK (i:=2) sc.nd rfl (Or.inl rfl))
   (af (au (i:=3) sc.nd rfl (Or.inl rfl) (aS bV rfl T.list PyProof.Rows.boot_list (aa (aH iW (pv 2) (aJ ac) aR) ae)))
   (af (aD (ak (aA hu) (ax ap (pv 2) ac (fun _ _=>rfl)) aj (al _)) (ah (au (i:=3) sc.nd rfl (Or.inl rfl) (aS bV rfl T.list PyProof.Rows.boot_list (aa (ax ap (pv 2) ac (fun _ _=>rfl)) ae)))) ar)
   (ah (fM (bS PySem.F.plainAttrs_list PySem.F.slot_list_append PySem.F.type_list_append dt (pv 1) (aa (bS PySem.F.plainAttrs_str PySem.F.slot_str_join PySem.F.type_str_join cP aj (aa (ao eo (bI (aa (ax ap (pv 2) ac (fun _ _=>rfl)) ae)) (bA (NY:=["_law_number_here"]) (idx:=[none]) rfl ⟨by with_unfolding_all rfl,(by with_unfolding_all exact trivial),fun _=>by rfl,by rfl,by rfl,by rfl,by decide⟩ (bv (pv 3)) (fun _ _ _ _=>(aK (i:=0) (show List.Nodup (["_law_number_here"]:List Str) by decide+kernel) rfl (Or.inl rfl))) (fun _ _ _ _=>bz) (fun _ _ _ _=>(aS c8 rfl T.str PyProof.Rows.boot_str (aa (pv 0) ae))))) ae)) ae)))))))
  (ah (aq (pv 1))))),?_⟩
 refine⟨_,rfl,.inr (.inl ⟨p,_,0,.str h,rfl,rfl,SqT.of hp,rfl,(by show 1<=sizeLine;decide),fun l hl1=>?_⟩)⟩
 have k1:Same H (upd H l (.lst [.str h])):=ag hl1 _
 have h1:upd H l (.lst [.str h]) l=some (.lst [.str h]):=ad
 generalize upd H l (.lst [.str h])=H1 at k1 h1 ⊢
 refine⟨_,rfl,.inr (.inl ⟨p,_,1,.ref qa,rfl,rfl,SqT.of (k1 _ _ hp),rfl,qa,rfl,⟨_,SqL.of (k1 _ _ hq)⟩,gl (K:=K) (a:=qa) (xs:=xs)
  (fun i σ H2=>∃ v2 v3,σ=[some (.ref p),some (.ref l),v2,v3]/\Same H H2/\H2 l=some (.lst ((h::(ls.take i).map fc).map V.str))) ⟨none,none,rfl,k1,h1⟩ ?_ ?_ ?_⟩)⟩
 ·rintro i σ H2 _ ⟨v2,v3,_,g1,_⟩
  exact SqL.of (g1 _ _ hq)
 ·rintro i x σ H2 hx ⟨v2,v3,rfl,g1,g2⟩
  obtain⟨L,hLi,hLb⟩:=hL.get hx
  obtain⟨pc,rfl,hLa⟩:=hLb.mono g1
  clear hLb
  have sL:=hs L (List.mem_of_getElem? hLi)
  have hll:=sL.ll
  have hil:i < ls.length:=(List.getElem?_eq_some_iff.mp hLi).1
  have hat:∃ zs,H2 pc=some (.tup (.str L.1::zs))/\zs.length<=5:=by
   rcases hLa with⟨e,qb,hp',hq'⟩|⟨e,hp'⟩
   ·exact⟨_,hp',by show 1<=5;decide⟩
   ·exact⟨_,hp',by rw[List.length_map];exact hll⟩
  obtain⟨zs,hpc,hzl⟩:=hat
  have ect:cQ (.str L.1::zs) (some 1) none=zs:=cN _ (by rw[List.length_cons];omega)
  have eix:¬ (HT.sIx (V.str L.1::zs).length 0 (some 1)=0/\HT.sIx (V.str L.1::zs).length (V.str L.1::zs).length none=(V.str L.1::zs).length):=fun z=>by
   have e1:HT.sIx (V.str L.1::zs).length 0 (some 1)=min 1 (V.str L.1::zs).length:=HT.sIx_nat _ 0 1
   rw[e1,List.length_cons] at z
   omega
  refine⟨_,rfl,1,rfl,pc,_,rfl,SqT.of hpc,fun z=>absurd z eix,fun _ p3 hp3=>?_⟩
  rw[ect]
  have k3:Same H2 (upd H2 p3 (.tup zs)):=ag hp3 _
  have h3:upd H2 p3 (.tup zs) p3=some (.tup zs):=ad
  generalize upd H2 p3 (.tup zs)=H3 at k3 h3 ⊢
  refine⟨p3,zs,rfl,.inr (SqT.of h3),fun l4 hl4=>?_⟩
  have k4:Same H2 (upd H3 l4 (.lst zs)):=k3.trans (ag hl4 _)
  have h4:upd H3 l4 (.lst zs) l4=some (.lst zs):=ad
  generalize upd H3 l4 (.lst zs)=H4 at k4 h4 ⊢
  unfold bF
  dsimp only
  refine bo fun N hN=>?_
  have key:∀ (l5:Addr) (H5:Hp),Same H2 H5->H5 l5=some (.lst (L.2.map V.int))->N [some (.ref p),some (.ref l),some (.ref pc),some (.ref l5)] H5:=fun l5 H5 k5 h5=>by
   refine hN _ _ ?_
   refine⟨_,rfl,.inl ⟨rfl,_,SqL.of (k5 _ _ g2)⟩,rfl,_,rfl,.inr (.inl ⟨pc,_,0,.str L.1,rfl,rfl,SqT.of (k5 _ _ hpc),aG,(by show 1<=sizeLine;decide),fun l6 hl6=>?_⟩)⟩
   have k6:Same H5 (upd H5 l6 (.lst [.str L.1])):=ag hl6 _
   have h6:upd H5 l6 (.lst [.str L.1]) l6=some (.lst [.str L.1]):=ad
   generalize upd H5 l6 (.lst [.str L.1])=H6 at k6 h6 ⊢
   refine⟨_,rfl,l5,rfl,⟨_,SqL.of (k6 _ _ h5)⟩,fun D hD=>?_⟩
   refine iB (k6 _ _ h5) hD (by rw[List.length_map];omega) rfl (fun x hx H Q h2=>?_) ?_
   ·obtain⟨i,hi,rfl⟩:=List.mem_map.mp hx
    exact⟨i,rfl,iZ (sL.nl i hi) (by decide),h2⟩
   rw[fK]
   refine⟨l6,D,_,_,rfl,rfl,ag hD _ _ _ h6,ad,?_,fun l7 hl7=>?_⟩
   ·rw[List.length_map,List.length_map]
    exact Nat.le_of_lt (aY (by show 1+L.2.length<=_;omega))
   have k7:Same H2 (upd (upd H6 D (.lst ((L.2.map dl).map V.str))) l7 (.lst ([.str L.1]++(L.2.map dl).map V.str))):=k5.trans (k6.trans ((ag hD _).trans (ag hl7 _)))
   refine⟨_,l7,L.1::L.2.map dl,rfl,rfl,SqL.of ad,gT sL,?_⟩
   refine⟨l,_,_,rfl,rfl,k7 _ _ g2,?_,⟨_,_,rfl,(g1.trans k7).upd_new hl1 _,?_⟩⟩
   ·rw[List.length_map,List.length_cons,List.length_map,List.length_take]
    exact aY (by omega)
   ·have e6:(h::(ls.take (i+1)).map fc).map V.str=(h::(ls.take i).map fc).map V.str++[.str (fc L)]:=by
     simp [List.take_add_one,hLi]
    rw[ad,e6]
    rfl
  refine⟨_,rfl,.inr (.inl ⟨pc,_,0,.str L.1,rfl,rfl,SqT.of (k4 _ _ hpc),aG,.inl ⟨rfl,_,rfl,?_⟩⟩)⟩
  rcases hLa with⟨e,qb,hp',hq'⟩|⟨e,hp'⟩
  ·rw[show decide (V.str L.1=V.str (Str.ofString "hits"))=true from e]
   refine aL ⟨_,rfl,.inr (.inl ⟨pc,_,1,.ref qb,rfl,rfl,SqT.of (k4 _ _ hp'),rfl,qb,_,rfl,.inr (SqT.of (k4 _ _ hq')),fun l5 hl5=>?_⟩)⟩
   exact key l5 _ (k4.trans (ag hl5 _)) ad
  ·rw[show decide (V.str L.1=V.str (Str.ofString "hits"))=false from e]
   have ez:zs=L.2.map V.int:=by
    rw[hp'] at hpc
    injection hpc with hpc
    injection hpc with hpc
    exact (List.cons.inj hpc).2.symm
   exact aB (key l4 H4 k4 (by rw[h4,ez]))
 ·rintro σ H2 ⟨v2,v3,rfl,g1,g2⟩
  rw[← hxl,List.take_of_length_le (Nat.le_refl _)] at g2
  exact⟨_,rfl,q l H2 g1 hl1 g2⟩
end
end K86
namespace K86
open PySem L2 OD
abbrev pE:Stmt:=dn 13
abbrev lX:Stmt:=dn 26
abbrev pF:Stmt:=dn 27
abbrev lY:Stmt:=dn 28
structure r6 (mg:Str->Option Value):Prop where
 isinstance:mg "isinstance"=none
 tuple:mg "tuple"=none
 len:mg "len"=none
 abs:mg "abs"=none
 max:mg "max"=none
 g_WISHER:bO mg "WISHER" (.str (Str.ofString "wisher"))
 g_SPOILER:bO mg "SPOILER" (.str (Str.ofString "spoiler"))
structure r9 (K:PySem.W.Frag)(mg:Str->Option Value)(CN:Addr):Prop where
 tuple:mg "tuple"=none
 g_WISHER:bO mg "WISHER" (.str (Str.ofString "wisher"))
 g_SPOILER:bO mg "SPOILER" (.str (Str.ofString "spoiler"))
 m_NoText:mg "NoText"=some (.ref CN)
 x_NoText:PySem.W.excIn K CN [.type "ValueError",.type "Exception",.type "BaseException",.type "object"] "ValueError.__new__"=true
def nQ:Sp:=fun vs H Q _=>∃ (p:Addr) (w x:Str) (xs:List V) (m:Int),vs=[.ref p,.str x,.int m]/\H p=some (.tup (.str w::xs))/\Q (.bl (decide ((xs.length:Int)+1=m)&&decide (V.str w=V.str x))) H
def lZ:Sp:=fun vs H Q _=>∃ (v:V) (L:Ln) (hd:Str),vs=[v,.str hd]/\LnA H L v/\L.2.length<=900000/\(∀ n∈L.2,bb n < 1000000000)/\∀ H',Same H H'->Q (.bl (br hd L.1 L.2)) H'
def nR (CN:Addr):Sp:=fun vs H Q E=>∃ row hd:Str,vs=[.str row,.str hd]/\row.length<=800000/\(∀ L,bu hd row=some L->∀ p H',Same H H'->LnA H' L (.ref p)->Q (.ref p) H')/\(bu hd row=none->∀ H',Same H H'->E (.ref CN) none H')
def l0 (CN:Addr):Sp:=fun vs H Q E=>∃ x:Str,vs=[.str x]/\x.length<=800000/\
 (∀ h ls,bK x=some (h,ls)->∀ p q xs H',Same H H'->H q=none->H' p=some (.tup [.str h,.ref q])->H' q=some (.lst xs)->LnAs H' ls xs->Q (.ref p) H')/\(bK x=none->∀ H',Same H H'->E (.ref CN) none H')
theorem l_ (r:Str):kl (.str r) [.str (Str.ofString "wisher"),.str (Str.ofString "spoiler")]=(aw r "wisher" || aw r "spoiler"):=by
 have key:∀ a:Str,(a == r)=decide (V.str r=V.str a):=fun a=>by
  rw[Bool.eq_iff_iff,beq_iff_eq,decide_eq_true_iff]
  exact⟨fun z=>by rw[z],fun z=>(V.str.inj z).symm⟩
 show ((Str.ofString "wisher" == r) || ((Str.ofString "spoiler" == r) || false))=_
 rw[key,key,Bool.or_false]
 rfl
section
variable {P:Program}{w:World}{K:PySem.W.Frag}{mg:Str->Option Value}{base:Heap}{CN:Addr}
theorem nS:az ["thing","word","many"] ["thing","word","many"] (am pE):=⟨rfl,rfl,rfl,by decide+kernel,rfl,by decide+kernel,by decide+kernel⟩
theorem pG {f:Addr}{fd:FuncData}(F:Fun K "begins_with" "begins_with" pE f fd)(T:r6 mg):aW P w K mg base cU 1 f fd ["thing","word","many"] nQ:=by
 have sc:=nS
 refine F.ok nS (fun vs H Q E h=>?_) (fun cdv A outer s H vs Q E hr h=>?_)
 ·obtain⟨p,w,x,xs,m,rfl,_⟩:=h
  rfl
 obtain⟨p,w,x,xs,m,rfl,hp,q⟩:=h
 have hu:=hr.units
 refine⟨_,(ah (aq (b4 (ai aI rfl T.isinstance PyProof.Rows.boot_isinstance (aa (pv 0) (aa (bg (v:=.ty "tuple") rfl T.tuple PyProof.Rows.boot_tuple rfl) ae))) (b4 (a_ (aA hu) (ai aN rfl T.len PySem.boot_len (aa (pv 0) ae)) (pv 2) (al _)) (cp (a_ (aA hu) (ax ap (pv 0) ac (fun _ _=>rfl)) (pv 1) (al _))))))),?_⟩
 refine⟨_,rfl,.ref p,_,"tuple",true,rfl,.tup hp,aE qZ,true,rfl,aL ?_⟩
 refine⟨_,rfl,.ref p,_,rfl,.inr ⟨_,SqT.of hp,rfl⟩,_,rfl,.inl ⟨rfl,_,rfl,?_⟩⟩
 have e:decide (V.int ((V.str w::xs).length:Int)=V.int m)=decide ((xs.length:Int)+1=m):=decide_eq_decide.mpr ⟨fun z=>by have:=V.int.inj z;rw[List.length_cons] at this;omega,fun z=>by rw[List.length_cons];exact congrArg V.int (by omega)⟩
 rw[e]
 cases hb:decide ((xs.length:Int)+1=m) with
 |false=>
  rw[hb] at q
  exact aB q
 |true=>
  rw[hb] at q
  exact aL ⟨_,rfl,.inr (.inl ⟨p,_,0,.str w,rfl,rfl,SqT.of hp,aG,_,rfl,.inl ⟨rfl,q⟩⟩)⟩
theorem ma:az ["line","hand"] ["line","hand"] (am lX):=⟨rfl,rfl,rfl,by decide+kernel,rfl,by decide+kernel,by decide+kernel⟩
theorem nj {w hd:Str}{ns:List Int}(b1:(decide ((ns.length:Int)+1=4)&&aw w "join")=false)(b2:(decide ((ns.length:Int)+1=2)&&aw w "given")=false)(b3:(decide ((ns.length:Int)+1=2)&&aw w "drop")=false):ge w hd ns=false:=by
 unfold ge
 split
 ·rw[show decide ((([_]:List Int).length:Int)+1=2)=true from by rfl,Bool.true_and] at b2 b3
  rw[b2,b3]
  simp
 ·rw[show decide ((([_,_,_]:List Int).length:Int)+1=4)=true from by rfl,Bool.true_and] at b1
  rw[b1]
  rfl
 ·rfl
theorem iC {ns:List Int}(h:(ns.length:Int)+1=2):∃ a,ns=[a]:=by
 match ns,h with
 |[a],_=>exact⟨a,rfl⟩
 |[],h=>exact absurd h (by decide)
 |_::_::r,h=>exact absurd h (by rw[List.length_cons,List.length_cons];omega)
theorem gU {ns:List Int}(h:(ns.length:Int)+1=4):∃ a b c,ns=[a,b,c]:=by
 match ns,h with
 |[a,b,c],_=>exact⟨a,b,c,rfl⟩
 |[],h=>exact absurd h (by decide)
 |[_],h=>exact absurd h (by rw[List.length_cons,List.length_nil];omega)
 |[_,_],h=>exact absurd h (by rw[List.length_cons,List.length_cons,List.length_nil];omega)
 |_::_::_::_::r,h=>exact absurd h (by rw[List.length_cons,List.length_cons,List.length_cons,List.length_cons];omega)
theorem nk {f f1 f2:Addr}{fd d1 d2:FuncData}(F:Fun K "is_line" "is_line" lX f fd)(T:r6 mg)(Gbegins_with:Fn P w K mg base 1 "begins_with" f1 d1 ["thing","word","many"] nQ)(Gis_set:Fn P w K mg base 2 "is_set" f2 d2 ["thing","most"] nN):aW P w K mg base cU 3 f fd ["line","hand"] lZ:=by
 have sc:=ma
 refine F.ok ma (fun vs H Q E h=>?_) (fun cdv A outer s H vs Q E hr h=>?_)
 ·obtain⟨v,L,hd,rfl,_⟩:=h
  rfl
 obtain⟨v,L,hd,rfl,hL,hl,hn,q⟩:=h
 have hu:=hr.units
 obtain⟨p,rfl,hL⟩:=hL
 obtain⟨w,ns⟩:=L
 dsimp only at hL hl hn q
 refine⟨_,(af (aD (ak (aA hu) (ax ap (pv 0) ac (fun _ _=>rfl)) aj (al _)) (ah (aq (b4 (a_ (aA hu) (pv 1) (aQ rfl T.g_WISHER) (al _)) (cp (aO Gis_set hr (by omega) rfl (aa (ax ap (pv 0) ac (fun _ _=>rfl)) (aa (mS rfl rfl T.max (bA (NY:=["literal"]) (idx:=[none]) rfl ⟨by with_unfolding_all rfl,(by with_unfolding_all exact trivial),fun _=>by rfl,by rfl,by rfl,by rfl,by decide⟩ (fO (ax ap (pv 0) ac (fun _ _=>rfl))) (fun _ _ _ _=>(aK (i:=0) (show List.Nodup (["literal"]:List Str) by decide+kernel) rfl (Or.inl rfl))) (fun _ _ _ _=>bz) (fun _ _ _ _=>(ai ck rfl T.abs PyProof.Rows.boot_abs (aa (pv 0) ae)))) ac) ae))))))) ar)
  (af (aD (aZ (aO Gbegins_with hr (by omega) rfl (aa (pv 0) (aa aj (aa ac ae))))) (ah (aq (b4 (a_ gm (ax ap (pv 0) ac (fun _ _=>rfl)) ac (al _)) (b4 (a_ gm (ax ap (pv 0) ac (fun _ _=>rfl)) ac (al _)) (cp (a_ gm (ax ap (pv 0) ac (fun _ _=>rfl)) ac (al _))))))) ar)
  (af (aD (aZ (aO Gbegins_with hr (by omega) rfl (aa (pv 0) (aa aj (aa ac ae))))) (ah (aq (b4 (a_ (aA hu) (pv 1) (aQ rfl T.g_SPOILER) (al _)) (cp (a_ gm (ax ap (pv 0) ac (fun _ _=>rfl)) ac (al _)))))) ar)
  (ah (aq (b4 (aO Gbegins_with hr (by omega) rfl (aa (pv 0) (aa aj (aa ac ae)))) (cp (a_ gm (ax ap (pv 0) ac (fun _ _=>rfl)) ac (al _))))))))),?_⟩
 rcases hL with⟨e,qa,hp,hq⟩|⟨e,hp⟩
 ·have eB:br hd w ns=(aw hd "wisher"&&ci 1000000000 0 (ns.map PyData.int)):=if_pos e
  rw[eB] at q
  refine⟨_,rfl,.inr (.inl ⟨p,_,0,.str w,rfl,rfl,SqT.of hp,rfl,.inl ⟨rfl,_,rfl,?_⟩⟩)⟩
  rw[show decide (V.str w=V.str (Str.ofString "hits"))=true from e]
  refine aL ⟨_,rfl,.inl ⟨rfl,_,rfl,?_⟩⟩
  rw[show decide (V.str hd=V.str (Str.ofString "wisher"))=aw hd "wisher" from rfl]
  cases hw:aw hd "wisher" with
  |false=>
   rw[hw] at q
   exact aB (q H (Same.refl _))
  |true=>
  rw[hw] at q
  refine aL ⟨_,rfl,.inr (.inl ⟨p,_,1,.ref qa,rfl,rfl,SqT.of hp,rfl,?_⟩)⟩
  refine⟨_,rfl,.inr (.inl ⟨p,_,1,.ref qa,rfl,rfl,SqT.of hp,rfl,qa,rfl,⟨_,SqT.of hq⟩,fun D hD=>?_⟩)⟩
  refine eG (K:=K) (a:=qa) (xs:=ns.map V.int) (fun i σ ys H2=>(∃ v0,σ=[v0])/\ys=((ns.take i).map bb).map V.int/\H2=upd H D (.lst ys)) ⟨⟨none,rfl⟩,rfl,rfl⟩ ?_ ?_ ?_
  ·rintro i σ ys H2 _ ⟨_,_,rfl⟩
   exact⟨ad,SqT.of (by rw[ay (av hq hD)];exact hq)⟩
  ·rintro i x σ ys H2 hx ⟨⟨v0,rfl⟩,rfl,rfl⟩
   obtain⟨z,rfl,hz⟩:=cI hx
   have hil:i < ns.length:=(List.getElem?_eq_some_iff.mp hz).1
   refine bq ⟨_,rfl,z,rfl,ad,?_,⟨_,rfl⟩,?_,cn⟩
   ·rw[List.length_map,List.length_map,List.length_take]
    exact aY (by omega)
   ·rw[List.take_add_one,hz,List.map_append,List.map_append]
    rfl
  rintro σ ys H2 ⟨_,rfl,rfl⟩
  rw[List.length_map,List.take_of_length_le (Nat.le_refl _)]
  have k2:Same H (upd H D (.lst ((ns.map bb).map V.int))):=ag hD _
  have fin:∀ m:Int,(∀ n∈ns,bb n<=m)->Q (.bl (h9 m (qJ ns))) (upd H D (.lst ((ns.map bb).map V.int))):=fun m hm=>by
   have e2:h9 m (qJ ns)=ci 1000000000 0 (ns.map PyData.int):=fI hm fun n hn'=>Int.le_of_lt (hn n hn')
   rw[e2]
   exact q _ k2
  have rdq:RD (upd H D (.lst ((ns.map bb).map V.int))) (qJ ns) (.ref qa):=dz (k2 _ _ hq) (cF _)
  refine⟨D,_,rfl,SqL.of ad,fun e0=>⟨.ref qa,qJ ns,0,rfl,rdq,fin 0 fun n hn'=>?_⟩,fun M _ hM=>⟨.ref qa,qJ ns,M,rfl,rdq,fin M fun n hn'=>hM _ (List.mem_map.mpr ⟨n,hn',rfl⟩)⟩⟩
  rw[List.map_eq_nil_iff.mp e0] at hn'
  cases hn'
 ·have eB:br hd w ns=ge w hd ns:=if_neg (by rw[e];nofun)
  rw[eB] at q
  have hml:((ns.map V.int).length:Int)=ns.length:=by rw[List.length_map]
  refine⟨_,rfl,.inr (.inl ⟨p,_,0,.str w,rfl,rfl,SqT.of hp,aG,.inl ⟨rfl,_,rfl,?_⟩⟩)⟩
  rw[show decide (V.str w=V.str (Str.ofString "hits"))=false from e]
  refine aB ⟨_,rfl,p,w,_,ns.map V.int,4,rfl,hp,_,rfl,?_⟩
  rw[hml,show decide (V.str w=V.str (Str.ofString "join"))=aw w "join" from rfl]
  cases b1:(decide ((ns.length:Int)+1=4)&&aw w "join") with
  |true=>
   obtain⟨b1a,b1b⟩:=Bool.and_eq_true_iff.mp b1
   obtain⟨a,b,c,rfl⟩:=gU (of_decide_eq_true b1a)
   have q':Q (.bl (aw w "join"&&(decide (0<=a)&&(decide (0<=b)&&decide (1<=c))))) H:=q H (Same.refl _)
   rw[b1b,Bool.true_and] at q'
   refine aL ⟨_,rfl,.inr (.inl ⟨p,_,1,.int a,rfl,rfl,SqT.of hp,rfl,_,_,rfl,rfl,_,rfl,?_⟩)⟩
   refine bE (fun c1=>?_) (fun c1=>?_)
   ·rw[c1] at q'
    refine⟨_,rfl,.inr (.inl ⟨p,_,2,.int b,rfl,rfl,SqT.of hp,rfl,_,_,rfl,rfl,_,rfl,?_⟩)⟩
    refine bE (fun c2=>?_) (fun c2=>?_)
    ·rw[c2] at q'
     exact⟨_,rfl,.inr (.inl ⟨p,_,3,.int c,rfl,rfl,SqT.of hp,rfl,_,_,rfl,rfl,q'⟩)⟩
    ·rw[Bool.not_eq_true] at c2
     rw[c2] at q'
     exact q'
   ·rw[Bool.not_eq_true] at c1
    rw[c1] at q'
    exact q'
  |false=>
  refine aB ⟨_,rfl,p,w,_,ns.map V.int,2,rfl,hp,_,rfl,?_⟩
  rw[hml,show decide (V.str w=V.str (Str.ofString "given"))=aw w "given" from rfl]
  cases b2:(decide ((ns.length:Int)+1=2)&&aw w "given") with
  |true=>
   obtain⟨b2a,b2b⟩:=Bool.and_eq_true_iff.mp b2
   obtain⟨a,rfl⟩:=iC (of_decide_eq_true b2a)
   have q':Q (.bl (decide (0<=a)&&((aw w "given"&&aw hd "spoiler") || aw w "drop"))) H:=q H (Same.refl _)
   rw[b2b,cy b2b (y:="drop") (by decide+kernel),Bool.or_false,Bool.true_and] at q'
   refine aL ⟨_,rfl,.inl ⟨rfl,_,rfl,?_⟩⟩
   rw[show decide (V.str hd=V.str (Str.ofString "spoiler"))=aw hd "spoiler" from rfl]
   cases hs:aw hd "spoiler" with
   |false=>
    rw[hs,Bool.and_false] at q'
    exact aB q'
   |true=>
    rw[hs,Bool.and_true] at q'
    exact aL ⟨_,rfl,.inr (.inl ⟨p,_,1,.int a,rfl,rfl,SqT.of hp,rfl,_,_,rfl,rfl,q'⟩)⟩
  |false=>
  refine aB ⟨_,rfl,p,w,_,ns.map V.int,2,rfl,hp,_,rfl,?_⟩
  rw[hml,show decide (V.str w=V.str (Str.ofString "drop"))=aw w "drop" from rfl]
  cases b3:(decide ((ns.length:Int)+1=2)&&aw w "drop") with
  |true=>
   obtain⟨b3a,b3b⟩:=Bool.and_eq_true_iff.mp b3
   obtain⟨a,rfl⟩:=iC (of_decide_eq_true b3a)
   have q':Q (.bl (decide (0<=a)&&((aw w "given"&&aw hd "spoiler") || aw w "drop"))) H:=q H (Same.refl _)
   rw[b3b,Bool.or_true,Bool.and_true] at q'
   exact aL ⟨_,rfl,.inr (.inl ⟨p,_,1,.int a,rfl,rfl,SqT.of hp,rfl,_,_,rfl,rfl,q'⟩)⟩
  |false=>
   have q':=q H (Same.refl _)
   rw[nj b1 b2 b3] at q'
   exact aB q'
theorem nT:az ["row","hand","pieces","numbers","line"] ["row","hand"] (am pF):=⟨rfl,rfl,rfl,by decide+kernel,rfl,by decide+kernel,by decide+kernel⟩
theorem pH {f f1 f2:Addr}{fd d1 d2:FuncData}(F:Fun K "read_line" "read_line" pF f fd)(T:r9 K mg CN)(Gread_numbers:nI P w K mg base 2 "read_numbers" f1 d1 ["pieces"] (i6 CN))(Gis_line:Fn P w K mg base 3 "is_line" f2 d2 ["line","hand"] lZ):aW P w K mg base (cc P w) 4 f fd ["row","hand"] (nR CN):=by
 have sc:=nT
 refine F.okX nT (fun vs H Q E h=>?_) (fun cdv A outer s H vs Q E hr h=>?_)
 ·obtain⟨row,hd,rfl,_⟩:=h
  rfl
 obtain⟨row,hd,rfl,hz,q,qe⟩:=h
 have hu:=hr.units
 refine⟨_,(af (au (i:=2) sc.nd rfl (Or.inl rfl) (bS PySem.F.plainAttrs_str PySem.F.slot_str_split PySem.F.type_str_split cM (pv 0) (aa aj ae)))
  (af (au (i:=3) sc.nd rfl (Or.inl rfl) (o_ Gread_numbers hr (by omega) rfl (aa (aH dR (pv 2) (aJ ac) aR) ae)))
  (af (au (i:=4) sc.nd rfl (Or.inl rfl) (gk (ak (aA hu) (ax ap (pv 2) ac (fun _ _=>rfl)) aj (al _)) (bw (aa (ax ap (pv 2) ac (fun _ _=>rfl)) (aa (aS bL rfl T.tuple PyProof.Rows.boot_tuple (aa (pv 3) ae)) ae))) (aS bL rfl T.tuple PyProof.Rows.boot_tuple (aa (ao eo (bI (aa (ax ap (pv 2) ac (fun _ _=>rfl)) ae)) (pv 3)) ae))))
  (af (aD (bj (aZ (aO Gis_line hr (by omega) rfl (aa (pv 4) (aa (pv 1) ae))))) (ah (cK T.x_NoText PySem.F.excBase_ValueError T.m_NoText rfl (aa aj ae))) ar)
  (ah (aq (pv 4))))))),?_⟩
 refine⟨_,rfl,rfl,row,Str.ofString " ",rfl,rfl,(by decide+kernel),(by omega),fun l hl=>?_⟩
 have hsl:=PyProof.Rows.split_le row (Str.ofString " ")
 have hparts:∀ s∈Txt.split row (Str.ofString " "),s.length<=800000:=fun s hs=>Nat.le_trans (cw hs) hz
 obtain⟨w,ps,es⟩:=List.exists_cons_of_length_pos (PyProof.Rows.split_pos row (Str.ofString " "))
 have hof:=gR (hd:=hd) es
 rw[es] at hsl hparts ⊢
 rw[List.length_cons] at hsl
 have k1:Same H (upd H l (.lst ((w::ps).map V.str))):=ag hl _
 have hl1:upd H l (.lst ((w::ps).map V.str)) l=some (.lst ((w::ps).map V.str)):=ad
 generalize upd H l (.lst ((w::ps).map V.str))=H1 at k1 hl1 ⊢
 refine⟨_,rfl,1,rfl,l,_,rfl,SqL.of hl1,fun p2 hp2=>?_⟩
 have ect:cQ ((w::ps).map V.str) (some 1) none=ps.map V.str:=cN _ (by rw[List.length_map,List.length_cons];omega)
 rw[ect]
 have k2:Same H (upd H1 p2 (.lst (ps.map V.str))):=k1.trans (ag hp2 _)
 have hl2:=ag hp2 (.lst (ps.map V.str)) _ _ hl1
 refine⟨p2,ps,rfl,ad,(by omega),fun s hs=>Nat.le_trans (hparts s (List.mem_cons_of_mem _ hs)) (by decide),fun ns hns D H3 k3 hD=>?_,fun hn H3 k3=>qe (by rw[hof,hn];rfl) _ (k2.trans k3)⟩
 have k3':=k2.trans k3
 have hl3:=k3 _ _ hl2
 have hnl:ns.length<=900000:=by
  have:=congrArg List.length (fF hns)
  rw[List.length_map,List.length_map] at this
  omega
 have hnb:∀ n∈ns,bb n < 1000000000:=fun n hn=>by
  unfold cR at hns
  split at hns
  ·injection hns with hns
   rw[← hns] at hn
   obtain⟨a,_,ha⟩:=List.mem_filterMap.mp hn
   exact pk ha
  ·cases hns
 rw[hns] at hof
 have q':br hd w ns=true->∀ p H',Same H H'->LnA H' (w,ns) (.ref p)->Q (.ref p) H':=fun hb=>q (w,ns) (by rw[hof];show (if br hd w ns=true then _ else _)=_;rw[if_pos hb])
 have qe':br hd w ns=false->∀ H',Same H H'->E (.ref CN) none H':=fun hb=>qe (by rw[hof];show (if br hd w ns=true then _ else _)=_;rw[if_neg (by rw[hb];nofun)])
 unfold bF
 dsimp only
 refine bo fun N hN=>?_
 have key:∀ (p:Addr) (H4:Hp),Same H H4->LnA H4 (w,ns) (.ref p)->N [some (.str row),some (.str hd),some (.ref l),some (.ref D),some (.ref p)] H4:=fun p H4 k4 h4=>by
  refine hN _ _ ?_
  refine⟨_,rfl,_,rfl,.ref p,(w,ns),hd,rfl,h4,hnl,hnb,fun H5 k5=>⟨_,rfl,?_⟩⟩
  cases hb:br hd w ns with
  |true=>exact aB ⟨_,rfl,q' hb p H5 (k4.trans k5) (h4.mono k5)⟩
  |false=>exact aL ⟨(by show 1<=sizeLine;decide),qe' hb _ (k4.trans k5)⟩
 refine⟨_,rfl,.inl ⟨l,_,0,.str w,rfl,rfl,SqL.of hl3,aG,.inl ⟨rfl,_,rfl,?_⟩⟩⟩
 rw[show decide (V.str w=V.str (Str.ofString "hits"))=aw w "hits" from rfl]
 cases hw:aw w "hits" with
 |true=>
  refine aL ⟨_,rfl,.inl ⟨l,_,0,.str w,rfl,rfl,SqL.of hl3,aG,_,rfl,D,_,rfl,.inl ⟨SqL.of hD,fun p5 hp5=>⟨(by show 2<=sizeLine;decide),fun p6 hp6=>?_⟩⟩⟩⟩
  have k5:Same H3 (upd H3 p5 (.tup (ns.map V.int))):=ag hp5 _
  have k6:=ag hp6 (.tup [.str w,.ref p5])
  exact key p6 _ (k3'.trans (k5.trans k6)) ⟨p6,rfl,.inl ⟨hw,p5,ad,k6 _ _ ad⟩⟩
 |false=>
  refine aB ⟨_,rfl,.inl ⟨l,_,0,.str w,rfl,rfl,SqL.of hl3,aG,(by show 1<=sizeLine;decide),fun l5 hl5=>?_⟩⟩
  have k5:Same H3 (upd H3 l5 (.lst [.str w])):=ag hl5 _
  refine⟨_,rfl,l5,D,_,_,rfl,rfl,ad,k5 _ _ hD,?_,fun l6 hl6=>?_⟩
  ·rw[List.length_map]
   exact Nat.le_of_lt (aY (by show 1+ns.length<=_;omega))
  have k6:=ag hl6 (.lst ([.str w]++ns.map V.int))
  refine⟨l6,_,rfl,.inl ⟨SqL.of ad,fun p7 hp7=>?_⟩⟩
  have k7:=ag hp7 (.tup ([.str w]++ns.map V.int))
  exact key p7 _ (k3'.trans (k5.trans (k6.trans k7))) ⟨p7,rfl,.inr ⟨hw,ad⟩⟩
theorem md:az ["text","rows"] ["text"] (am lY):=⟨rfl,rfl,rfl,by decide+kernel,rfl,by decide+kernel,by decide+kernel⟩
theorem nn {f f1:Addr}{fd d1:FuncData}(F:Fun K "read_paper" "read_paper" lY f fd)(T:r9 K mg CN)(Gread_line:nI P w K mg base 4 "read_line" f1 d1 ["row","hand"] (nR CN)):aW P w K mg base (cc P w) 5 f fd ["text"] (l0 CN):=by
 have sc:=md
 refine F.okX md (fun vs H Q E h=>?_) (fun cdv A outer s H vs Q E hr h=>?_)
 ·obtain⟨x,rfl,_⟩:=h
  rfl
 obtain⟨x,rfl,hz,q,qe⟩:=h
 have hu:=hr.units
 refine⟨_,(af (au (i:=1) sc.nd rfl (Or.inr rfl) (bS PySem.F.plainAttrs_str PySem.F.slot_str_split PySem.F.type_str_split cM (pv 0) (aa aj ae)))
  (af (aD (ak fT (ax ap (pv 1) ac (fun _ _=>rfl)) (bw (aa (aQ rfl T.g_WISHER) (aa (aQ rfl T.g_SPOILER) ae))) (by with_unfolding_all rfl)) (ah (cK T.x_NoText PySem.F.excBase_ValueError T.m_NoText rfl (aa aj ae))) ar)
  (ah (aq (bw (aa (ax ap (pv 1) ac (fun _ _=>rfl)) (aa (gJ (NY:=["row","rows"]) (idx:=[none,some 1]) ⟨by with_unfolding_all rfl,(by with_unfolding_all exact⟨rfl,trivial⟩),fun _=>by rfl,by rfl,by rfl,by rfl,by decide⟩ (bv (aH dR (pv 1) (aJ ac) aR)) (fun _ _ _ _=>(aK (i:=0) (show List.Nodup (["row","rows"]:List Str) by decide+kernel) rfl (Or.inl rfl))) (fun _ _ _ _=>bz) (fun _ _ _ _=>(iY Gread_line hr (by omega) rfl (aa (pv 0) (aa (ax (iU (K:=K) rfl) (pv 1) ac (fun _ _=>rfl)) ae))))) ae))))))),?_⟩
 refine⟨_,rfl,rfl,x,Str.ofString "\n",rfl,rfl,(by decide+kernel),(by omega),fun l hl=>?_⟩
 have hsl:=PyProof.Rows.split_le x (Str.ofString "\n")
 have hparts:∀ s∈Txt.split x (Str.ofString "\n"),s.length<=800000:=fun s hs=>Nat.le_trans (cw hs) hz
 obtain⟨r,rs,es⟩:=List.exists_cons_of_length_pos (PyProof.Rows.split_pos x (Str.ofString "\n"))
 have hof:=fG es
 rw[es] at hsl hparts ⊢
 have k1:Same H (upd H l (.lst ((r::rs).map V.str))):=ag hl _
 have hl1:upd H l (.lst ((r::rs).map V.str)) l=some (.lst ((r::rs).map V.str)):=ad
 generalize upd H l (.lst ((r::rs).map V.str))=H1 at k1 hl1 ⊢
 refine⟨_,rfl,.inl ⟨l,_,0,.str r,rfl,rfl,SqL.of hl1,aG,(by show 2<=sizeLine;decide),fun p1 hp1=>?_⟩⟩
 have k1b:=ag hp1 (.tup [.str (Str.ofString "wisher"),.str (Str.ofString "spoiler")])
 refine⟨p1,_,rfl,.inr (SqT.of ad),rfl,rfl,_,rfl,?_⟩
 generalize upd H1 p1 (.tup [.str (Str.ofString "wisher"),.str (Str.ofString "spoiler")])=H2 at k1b ⊢
 have k2:Same H H2:=k1.trans k1b
 have hl2:=k1b _ _ hl1
 rw[show (if true=true then !kl (V.str r) [.str (Str.ofString "wisher"),.str (Str.ofString "spoiler")] else kl (V.str r) [.str (Str.ofString "wisher"),.str (Str.ofString "spoiler")])=!kl (V.str r) [.str (Str.ofString "wisher"),.str (Str.ofString "spoiler")] from rfl,l_]
 cases hh:aw r "wisher" || aw r "spoiler" with
 |false=>exact aL ⟨(by show 1<=sizeLine;decide),qe (by rw[hof,if_neg (by rw[hh];nofun)]) _ k2⟩
 |true=>
 rw[if_pos hh] at hof
 refine aB ⟨_,rfl,.inl ⟨l,_,0,.str r,rfl,rfl,SqL.of hl2,aG,?_⟩⟩
 refine⟨_,rfl,1,rfl,l,_,rfl,SqL.of hl2,fun p2 hp2=>?_⟩
 have ect:cQ ((r::rs).map V.str) (some 1) none=rs.map V.str:=cN _ (by rw[List.length_map];omega)
 rw[ect]
 have k3:Same H (upd H2 p2 (.lst (rs.map V.str))):=k2.trans (ag hp2 _)
 have hl3:upd H2 p2 (.lst (rs.map V.str)) p2=some (.lst (rs.map V.str)):=ad
 have hll3:=ag hp2 (.lst (rs.map V.str)) _ _ hl2
 generalize upd H2 p2 (.lst (rs.map V.str))=H3 at k3 hl3 hll3 ⊢
 refine⟨p2,rfl,⟨_,SqL.of hl3⟩,fun D hD=>?_⟩
 have nD:H D=none:=k3.free hD
 refine bd (K:=K) (a:=p2) (xs:=rs.map V.str) (fun i σ ys H4=>(∃ v0,σ=[v0,some (.ref l)])/\H4 D=some (.lst ys)/\Same H H4/\Same H3 H4/\LnAs H4 ((rs.take i).filterMap (bu r)) ys/\∀ a∈rs.take i,(bu r a).isSome=true) ⟨⟨none,rfl⟩,ad,k3.upd_new nD _,ag hD _,.nil,fun _ z=>nomatch z⟩ ?_ ?_ ?_
 ·rintro i σ ys H4 _ ⟨_,g1,g2,g3,_⟩
  exact⟨g1,SqL.of (g3 _ _ hl3)⟩
 ·rintro i v σ ys H4 hx ⟨⟨v0,rfl⟩,g1,g2,g3,g4,g5⟩
  rw[List.getElem?_map] at hx
  obtain⟨a,ha,rfl⟩:=Option.map_eq_some_iff.mp hx
  have hil:i < rs.length:=(List.getElem?_eq_some_iff.mp ha).1
  have ham:=List.mem_of_getElem? ha
  have hal:=hparts a (List.mem_cons_of_mem _ ham)
  rw[List.length_cons] at hsl
  refine bq ⟨_,rfl,_,rfl,.inl ⟨l,_,0,.str r,rfl,rfl,SqL.of (g3 _ _ hll3),aG,a,r,rfl,hal,fun L hL t1 H5 k5 ht1=>?_,fun hn H5 k5=>qe (by rw[hof,gL ham hn];rfl) _ (g2.trans k5)⟩⟩
  have h5:=k5 _ _ g1
  refine⟨h5,?_,⟨_,rfl⟩,ad,(g2.trans k5).upd_new nD _,(g3.trans k5).upd_new hD _,?_,gN ha g5 (by rw[hL];rfl)⟩
  ·rw[← Paired.length g4]
   exact aY (Nat.le_trans (gM i) (by omega))
  ·rw[fE ha hL]
   exact Paired.snoc ((g4.mono k5).upd h5) (ht1.upd h5)
 rintro σ ys H4 ⟨_,g1,g2,g3,g4,g5⟩
 rw[List.length_map,List.take_of_length_le (Nat.le_refl _)] at g4 g5
 refine⟨(by show 2<=sizeLine;decide),fun p5 hp5=>?_⟩
 have k5:Same H4 (upd H4 p5 (.tup [.str r,.ref D])):=ag hp5 _
 exact q r (rs.filterMap (bu r)) (by rw[hof,fZ g5];rfl) p5 D ys _ (g2.trans k5) nD ad (k5 _ _ g1) (g4.mono k5)
end
end K86
namespace K86
open PySem L2 OD
abbrev pI:Stmt:=dn 41
def me:Sp:=fun vs H Q _=>∃ hd row:Str,vs=[.str hd,.str row]/\row.length<=800000/\(∀ L,bu hd row=some L->∀ p H',Same H H'->LnA H' L (.ref p)->Q (.ref p) H')/\(bu hd row=none->∀ H',Same H H'->Q .non H')
def nU:Sp:=fun vs H Q _=>∃ x:Str,vs=[.str x]/\x.length<=800000/\
 (∀ h ls,bK x=some (h,ls)->∀ p q xs H',Same H H'->H q=none->H' p=some (.tup [.str h,.ref q])->H' q=some (.lst xs)->LnAs H' ls xs->Q (.ref p) H')/\(bK x=none->∀ H',Same H H'->Q .non H')
def OA (H:Hp)(o:Option Ln)(v:V):Prop:=match o with
 |some L=>LnA H L v
 |none=>v=.non
theorem OA.mono {H H':Hp}{o:Option Ln}{v:V}(h:OA H o v)(k:Same H H'):OA H' o v:=by
 cases o with
 |none=>exact h
 |some L=>exact LnA.mono h k
theorem OA.upd {H:Hp}{o:Option Ln}{v:V}{q:Addr}{xs:List V}{ob:HO}(h:OA H o v)(hq:H q=some (.lst xs)):OA (upd H q ob) o v:=by
 cases o with
 |none=>exact h
 |some L=>exact LnA.upd h hq
abbrev OAs (H:Hp):List (Option Ln)->List V->Prop:=Paired (OA H)
theorem OAs.mono {H H':Hp}(k:Same H H'):∀ {ls:List (Option Ln)} {xs:List V},OAs H ls xs->OAs H' ls xs
 |_,_,.nil=>.nil
 |_,_,.cons h t=>.cons (h.mono k) (OAs.mono k t)
theorem OAs.upd {H:Hp}{q:Addr}{ys:List V}{o:HO}(hq:H q=some (.lst ys)):∀ {ls:List (Option Ln)} {xs:List V},OAs H ls xs->OAs (upd H q o) ls xs
 |_,_,.nil=>.nil
 |_,_,.cons h t=>.cons (h.upd hq) (OAs.upd hq t)
def oD:Option Ln->PyData
 |some L=>gh L
 |none=>.none
theorem OAs.rds {H:Hp}:∀ {ls:List (Option Ln)} {xs:List V},OAs H ls xs->dQ H (ls.map oD) xs
 |_,_,.nil=>cr
 |some L::_,_,.cons h t=>bp (LnA.rd h) (OAs.rds t)
 |none::_,_,.cons h t=>by
  cases h
  exact bp iP (OAs.rds t)
theorem OAs.lns {H:Hp}{f:Str->Option Ln}:∀ {rs:List Str} {xs:List V},OAs H (rs.map f) xs->(∀ a∈rs,(f a).isSome=true)->LnAs H (rs.filterMap f) xs
 |[],_,.nil,_=>.nil
 |a::rs,_,.cons h t,hs=>by
  obtain⟨L,hL⟩:=Option.isSome_iff_exists.mp (hs a List.mem_cons_self)
  rw[List.filterMap_cons,hL]
  rw[hL] at h
  exact .cons h (OAs.lns t fun x hx=>hs x (List.mem_cons_of_mem _ hx))
theorem mf {f:Str->Option Ln}(hw:∀ a L,f a=some L->wOk L.1):∀ rs:List Str,PyData.canLayAll0 ((rs.map f).map oD)=true
 |[]=>rfl
 |a::rs=>by
  show ((oD (f a)).canLay0&&PyData.canLayAll0 ((rs.map f).map oD))=true
  rw[mf hw rs]
  cases e:f a with
  |none=>rfl
  |some L=>rw[show (oD (some L)).canLay0=true from (lp (hw a L e)).1];rfl
theorem pJ (L:Ln):PyData.eqv (gh L) .none=false:=by
 unfold gh
 split<;>rfl
theorem nt (f:Str->Option Ln)(rs:List Str):((rs.map f).map oD).any (fun d=>PyData.eqv d .none)=!rs.all fun a=>(f a).isSome:=by
 rw[List.any_map,List.any_map,List.any_eq_not_all_not]
 congr 1
 refine List.all_congr rfl fun s=>?_
 show (!PyData.eqv (oD (f s)) .none)=_
 cases f s with
 |none=>rfl
 |some L=>rw[show PyData.eqv (oD (some L)) .none=false from pJ L];rfl
section
variable {P:Program}{w:World}{K:PySem.W.Frag}{mg:Str->Option Value}{base:Heap}
theorem nV:az ["_law_hand","_law_row","_law_parts","_law_numbers"] ["_law_hand","_law_row"] (am pI):=⟨rfl,rfl,rfl,by decide+kernel,rfl,by decide+kernel,by decide+kernel⟩
theorem pK {f f1 f2:Addr}{fd d1 d2:FuncData}(F:Fun K "_law_read_line" "_law_read_line" pI f fd)(T:rf mg)(G_law_number:Fn P w K mg base 1 "_law_number" f1 d1 ["_law_text"] lF)(G_law_is_set:Fn P w K mg base 1 "_law_is_set" f2 d2 ["_law_thing","_law_most"] lG):aW P w K mg base cU 2 f fd ["_law_hand","_law_row"] me:=by
 have sc:=nV
 refine F.ok nV (fun vs H Q E h=>?_) (fun cdv A outer s H vs Q E hr h=>?_)
 ·obtain⟨hd,row,rfl,_⟩:=h
  rfl
 obtain⟨hd,row,rfl,hz,q,qe⟩:=h
 have hu:=hr.units
 refine⟨_,(af (au (i:=2) sc.nd rfl (Or.inl rfl) (bS PySem.F.plainAttrs_str PySem.F.slot_str_split PySem.F.type_str_split cM (pv 1) (aa aj ae)))
  (af (eF (i:=3) sc.nd rfl rfl (NY:=["_law_part"]) (idx:=[none]) rfl ⟨by with_unfolding_all rfl,(by with_unfolding_all exact trivial),fun _=>by rfl,by rfl,by rfl,by rfl,by decide⟩ (bv (aH dR (pv 2) (aJ ac) aR)) (fun _ _ _ _=>(aK (i:=0) (show List.Nodup (["_law_part"]:List Str) by decide+kernel) rfl (Or.inl rfl))) (fun _ _ _ _=>bz) (fun _ _ _ _=>(aO G_law_number hr (by omega) rfl (aa (pv 0) ae))) (by with_unfolding_all rfl))
  (af (aD (ak jC bx (pv 3) (by with_unfolding_all rfl)) (ah (aq bx)) ar)
  (af (aD (PW.pt (cg (ak (aA hu) (ax ap (pv 2) ac (fun _ _=>rfl)) aj (al _)) (b8 (ak (aA hu) (pv 0) aj (al _))))) (af (aD (bj (aZ (aO G_law_is_set hr (by omega) rfl (aa (pv 3) (aa (ao oy ac ac) ae))))) (ah (aq bx)) ar)
   (ah (aq (bw (aa aj (aa (aS bL rfl T.tuple PyProof.Rows.boot_tuple (aa (pv 3) ae)) ae)))))) ar)
  (af (aD (ak (cu hu) (bA (NY:=["_law_number_here"]) (idx:=[none]) rfl ⟨by with_unfolding_all rfl,(by with_unfolding_all exact trivial),fun _=>by rfl,by rfl,by rfl,by rfl,by decide⟩ (bv (pv 3)) (fun _ _ _ _=>(aK (i:=0) (show List.Nodup (["_law_number_here"]:List Str) by decide+kernel) rfl (Or.inl rfl))) (fun _ _ _ _=>(dU (ak fk (pv 0) ac (al _)))) (fun _ _ _ _=>(pv 0))) (bI ae) (al _)) (ah (aq bx)) ar)
  (af (aD (PW.pt (cg (ak (aA hu) (ax ap (pv 2) ac (fun _ _=>rfl)) aj (al _)) (cg (ak (aA hu) (ai aN rfl T.len PySem.boot_len (aa (pv 3) ae)) ac (al _)) (b8 (ak fm (ax ap (pv 3) ac (fun _ _=>rfl)) ac (al _)))))) (ah (aq (bw (aa aj (aa (ax ap (pv 3) ac (fun _ _=>rfl)) (aa (ax ap (pv 3) ac (fun _ _=>rfl)) (aa (ax ap (pv 3) ac (fun _ _=>rfl)) ae))))))) ar)
  (af (aD (PW.pt (bZ (PW.pt (cg (ak (aA hu) (ax ap (pv 2) ac (fun _ _=>rfl)) aj (al _)) (b8 (ak (aA hu) (ai aN rfl T.len PySem.boot_len (aa (pv 3) ae)) ac (al _))))) (bR (PW.pt (cg (ak (aA hu) (ax ap (pv 2) ac (fun _ _=>rfl)) aj (al _)) (cg (ak (aA hu) (pv 0) aj (al _)) (b8 (ak (aA hu) (ai aN rfl T.len PySem.boot_len (aa (pv 3) ae)) ac (al _))))))))) (ah (aq (bw (aa (ax ap (pv 2) ac (fun _ _=>rfl)) (aa (ax ap (pv 3) ac (fun _ _=>rfl)) ae))))) ar)
  (ah (aq bx))))))))),?_⟩
 refine⟨_,rfl,rfl,row,Str.ofString " ",rfl,rfl,(by decide+kernel),(by omega),fun l hl=>?_⟩
 have hsl:=PyProof.Rows.split_le row (Str.ofString " ")
 have hparts:∀ s∈Txt.split row (Str.ofString " "),s.length<=800000:=fun s hs=>Nat.le_trans (cw hs) hz
 obtain⟨w,ps,es⟩:=List.exists_cons_of_length_pos (PyProof.Rows.split_pos row (Str.ofString " "))
 have hof:=gR (hd:=hd) es
 rw[es] at hsl hparts ⊢
 rw[List.length_cons] at hsl
 have k1:Same H (upd H l (.lst ((w::ps).map V.str))):=ag hl _
 have hl1:upd H l (.lst ((w::ps).map V.str)) l=some (.lst ((w::ps).map V.str)):=ad
 generalize upd H l (.lst ((w::ps).map V.str))=H1 at k1 hl1 ⊢
 refine⟨_,rfl,1,rfl,l,_,rfl,SqL.of hl1,fun p2 hp2=>?_⟩
 have ect:cQ ((w::ps).map V.str) (some 1) none=ps.map V.str:=cN _ (by rw[List.length_map,List.length_cons];omega)
 rw[ect]
 have k2:Same H (upd H1 p2 (.lst (ps.map V.str))):=k1.trans (ag hp2 _)
 have hl2:=ag hp2 (.lst (ps.map V.str)) _ _ hl1
 have h2:upd H1 p2 (.lst (ps.map V.str)) p2=some (.lst (ps.map V.str)):=ad
 generalize upd H1 p2 (.lst (ps.map V.str))=H2 at k2 hl2 h2 ⊢
 refine⟨p2,rfl,⟨_,SqL.of h2⟩,fun D hD=>?_⟩
 refine bd (K:=K) (a:=p2) (xs:=ps.map V.str) (fun j σ ys H7=>(∃ v0,σ=[v0])/\H7 D=some (.lst ys)/\Same H2 H7/\ys=(ps.take j).map cS) ⟨⟨none,rfl⟩,ad,ag hD _,rfl⟩ ?_ ?_ ?_
 ·rintro j σ ys H7 _ ⟨_,e1,e2,_⟩
  exact⟨e1,SqL.of (e2 _ _ h2)⟩
 ·rintro j y σ ys H7 hy ⟨⟨v0,rfl⟩,e1,e2,e3⟩
  rw[List.getElem?_map] at hy
  obtain⟨b,hb,rfl⟩:=Option.map_eq_some_iff.mp hy
  have hjl:j < ps.length:=(List.getElem?_eq_some_iff.mp hb).1
  refine bq ⟨_,rfl,b,rfl,Nat.le_trans (hparts b (List.mem_cons_of_mem _ (List.mem_of_getElem? hb))) (by decide),fun H8 k8=>⟨k8 _ _ e1,?_,⟨_,rfl⟩,ad,(e2.trans k8).upd_new hD _,?_⟩⟩
  ·rw[e3,List.length_map,List.length_take]
   exact aY (by omega)
  ·rw[List.take_add_one,hb,List.map_append,e3]
   rfl
 rintro σ ys H3 ⟨_,e1,e2,e3⟩
 rw[List.length_map,List.take_of_length_le (Nat.le_refl _)] at e3
 subst e3
 have k3:Same H H3:=k2.trans e2
 have hl3:=e2 _ _ hl2
 refine⟨_,rfl,D,_,rfl,.inl (SqL.of e1),rfl,j0 ps,_,rfl,?_⟩
 rw[show (if false=true then !kl V.non (ps.map cS) else kl V.non (ps.map cS))=kl V.non (ps.map cS) from rfl,m5]
 cases hall:ps.all fun a=>(bJ a).isSome with
 |false=>exact aL (qe (by rw[hof];unfold cR;rw[hall];rfl) _ k3)
 |true=>
 refine aB ?_
 have hns:cR bJ ps=some (ps.filterMap bJ):=if_pos hall
 rw[hns] at hof
 have hnv:=fF hns
 have hnl:(ps.filterMap bJ).length=ps.length:=by
  have:=congrArg List.length hnv
  rw[List.length_map,List.length_map] at this
  exact this.symm
 generalize ps.filterMap bJ=ns at hns hof hnv hnl
 rw[hnv] at e1
 have q':br hd w ns=true->∀ p H',Same H H'->LnA H' (w,ns) (.ref p)->Q (.ref p) H':=fun hb=>q (w,ns) (by rw[hof];show (if br hd w ns=true then _ else _)=_;rw[if_pos hb])
 have qe':br hd w ns=false->∀ H',Same H H'->Q .non H':=fun hb=>qe (by rw[hof];show (if br hd w ns=true then _ else _)=_;rw[if_neg (by rw[hb];nofun)])
 dsimp only [fi]
 refine bo fun N1 hN1=>?_
 have key1:(aw w "hits"=true->aw hd "wisher"=false)->N1 [some (.str hd),some (.str row),some (.ref l),some (.ref D)] H3:=fun hnh=>by
  refine hN1 _ _ ?_
  have eB:br hd w ns=(if aw w "hits"=true then false else ge w hd ns):=by
   unfold br
   by_cases hw:aw w "hits"=true
   ·rw[if_pos hw,if_pos hw,hnh hw];rfl
   ·rw[if_neg hw,if_neg hw]
  refine⟨_,rfl,D,rfl,⟨_,SqL.of e1⟩,fun D2 hD2=>?_⟩
  refine bd (K:=K) (a:=D) (xs:=ns.map V.int) (fun j σ ys H7=>(∃ v0,σ=[v0])/\ys=((ns.take j).filter fun n=>decide (n < 0)).map V.int/\H7=upd H3 D2 (.lst ys)) ⟨⟨none,rfl⟩,rfl,rfl⟩ ?_ ?_ ?_
  ·rintro j σ ys H7 _ ⟨_,_,rfl⟩
   exact⟨ad,SqL.of (by rw[ay (av e1 hD2)];exact e1)⟩
  ·rintro j y σ ys H7 hy ⟨⟨v0,rfl⟩,rfl,rfl⟩
   obtain⟨z,rfl,hz⟩:=cI hy
   have hjl:j < ns.length:=(List.getElem?_eq_some_iff.mp hz).1
   have et:ns.take (j+1)=ns.take j++[z]:=by rw[List.take_add_one,hz];rfl
   refine⟨_,rfl,_,_,rfl,rfl,_,rfl,bE (fun c1=>?_) (fun c1=>?_)⟩
   ·refine⟨_,rfl,ad,?_,⟨_,rfl⟩,?_,cn⟩
    ·rw[List.length_map]
     refine aY (Nat.le_trans (List.length_filter_le _ _) ?_)
     rw[List.length_take]
     omega
    ·rw[et,List.filter_append,List.filter_cons,if_pos c1,List.map_append]
     rfl
   ·refine⟨⟨_,rfl⟩,?_,rfl⟩
    rw[et,List.filter_append,List.filter_cons,if_neg c1,List.filter_nil,List.append_nil]
  rintro σ ys H7 ⟨_,rfl,rfl⟩
  rw[List.length_map,List.take_of_length_le (Nat.le_refl _)]
  have k7:Same H3 (upd H3 D2 (.lst ((ns.filter fun n=>decide (n < 0)).map V.int))):=ag hD2 _
  have h7:upd H3 D2 (.lst ((ns.filter fun n=>decide (n < 0)).map V.int)) D2=some (.lst ((ns.filter fun n=>decide (n < 0)).map V.int)):=ad
  generalize upd H3 D2 (.lst ((ns.filter fun n=>decide (n < 0)).map V.int))=H7 at k7 h7 ⊢
  refine⟨Nat.zero_le _,fun l8 hl8=>?_⟩
  have k8:=ag hl8 (.lst [])
  refine .inr ⟨.list ((ns.filter fun n=>decide (n < 0)).map .int),.list [],di (k8 _ _ h7) (cF _),di ad cr,gH _,gF,_,rfl,?_⟩
  generalize upd H7 l8 (.lst [])=H8 at k8 ⊢
  have k9:Same H H8:=k3.trans (k7.trans k8)
  have e9:=k8 _ _ (k7 _ _ e1)
  have hl9:=k8 _ _ (k7 _ _ hl3)
  cases hneg:ns.filter fun n=>decide (n < 0) with
  |cons z r=>
   have hzm:z∈ns/\z < 0:=by
    have:z∈ns.filter fun n=>decide (n < 0):=by rw[hneg];exact List.mem_cons_self
    obtain⟨a,b⟩:=List.mem_filter.mp this
    exact⟨a,of_decide_eq_true b⟩
   refine aL (qe' ?_ _ k9)
   rw[eB]
   split
   ·rfl
   ·unfold ge
    split
    ·have:=List.mem_singleton.mp hzm.1
     rw[decide_eq_false (by omega)]
     rfl
    ·have:=hzm.1
     simp only [List.mem_cons,List.not_mem_nil,or_false] at this
     simp only [Bool.and_eq_false_iff,decide_eq_false_iff_not]
     omega
    ·rfl
  |nil=>
  have hpos:∀ n∈ns,0<=n:=fun n hn=>by
   have:=List.filter_eq_nil_iff.mp hneg n hn
   have h:=of_decide_eq_false (Bool.not_eq_true _▸this)
   omega
  refine aB ?_
  dsimp only [fi]
  refine bo fun N2 hN2=>?_
  have hml:((ns.map V.int).length:Int)=ns.length:=by rw[List.length_map]
  have key2:(aw w "join"=true->ge w hd ns=false)->N2 [some (.str hd),some (.str row),some (.ref l),some (.ref D)] H8:=fun hnj=>by
   refine hN2 _ _ ?_
   refine bo fun N3 hN3=>?_
   have key3:ge w hd ns=false->N3 [some (.str hd),some (.str row),some (.ref l),some (.ref D)] H8:=fun hb=>hN3 _ _ (qe' (by rw[eB,hb];split<;>rfl) _ k9)
   have ret:∀ a,ns=[a]->aw w "hits"=false->ge w hd ns=true->jq (oE (cB (jw (pO K) (bU 2) (tC (V.int 0))) (cB (jw (pO K) (bU 3) (tC (V.int 0))) gn))) {nx:=fun _ H'=>Q .non H',rt:=Q} [some (.str hd),some (.str row),some (.ref l),some (.ref D)] H8:=fun a ha hh hb=>by
    subst ha
    refine⟨_,rfl,.inl ⟨l,_,0,.str w,rfl,rfl,SqL.of hl9,aG,_,rfl,.inl ⟨D,_,0,.int a,rfl,rfl,SqL.of e9,rfl,(by show 2<=sizeLine;decide),fun p10 hp10=>?_⟩⟩⟩
    exact q' (by rw[eB,if_neg (by rw[hh];nofun)];exact hb) p10 _ (k9.trans (ag hp10 _)) ⟨p10,rfl,.inr ⟨hh,ad⟩⟩
   have one:∀ {h1:decide (V.int ((ns.map V.int).length:Int)=V.int 1)=true},∃ a,ns=[a]/\0<=a:=fun {h1}=>by
    have:=V.int.inj (of_decide_eq_true h1)
    obtain⟨a,rfl⟩:=iC (ns:=ns) (by omega)
    exact⟨a,rfl,hpos a (List.mem_singleton.mpr rfl)⟩
   have more:decide (V.int ((ns.map V.int).length:Int)=V.int 1)=false->ge w hd ns=false:=fun h1=>by
    have h1':¬ ((ns.length:Int)=1):=fun z=>of_decide_eq_false h1 (congrArg V.int (by omega))
    cases hnb:ge w hd ns with
    |false=>rfl
    |true=>
     exfalso
     by_cases hj:aw w "join"=true
     ·rw[hnj hj] at hnb
      cases hnb
     ·unfold ge at hnb
      split at hnb
      ·exact h1' rfl
      ·exact hj (Bool.and_eq_true_iff.mp hnb).1
      ·cases hnb
   refine⟨_,rfl,.inl ⟨l,_,0,.str w,rfl,rfl,SqL.of hl9,aG,.inl ⟨rfl,_,rfl,?_⟩⟩⟩
   rw[show decide (V.str w=V.str (Str.ofString "drop"))=aw w "drop" from rfl]
   have oneT:∀ a:Int,0<=a->((aw w "given"&&aw hd "spoiler") || aw w "drop")=true->ge w hd [a]=true:=fun a h0 h1=>by
    show (decide (0<=a)&&((aw w "given"&&aw hd "spoiler") || aw w "drop"))=true
    rw[h1,decide_eq_true h0]
    rfl
   have noG:aw w "drop"=false->(aw w "given"&&aw hd "spoiler")=false->ge w hd ns=false:=fun h1 h2=>by
    cases hnb:ge w hd ns with
    |false=>rfl
    |true=>
     exfalso
     by_cases hj:aw w "join"=true
     ·rw[hnj hj] at hnb
      cases hnb
     ·unfold ge at hnb
      split at hnb
      ·rw[h1,h2,Bool.or_false,Bool.and_false] at hnb
       cases hnb
      ·exact hj (Bool.and_eq_true_iff.mp hnb).1
      ·cases hnb
   cases hdp:aw w "drop" with
   |true=>
    have hng:aw w "given"=false:=cy hdp (by decide+kernel)
    refine aL ⟨_,rfl,.ref D,_,rfl,.inl ⟨_,SqL.of e9,rfl⟩,.inl ⟨rfl,_,rfl,?_⟩⟩
    cases h1:decide (V.int ((ns.map V.int).length:Int)=V.int 1) with
    |true=>
     obtain⟨a,ha,h0⟩:=one (h1:=h1)
     exact aL (aL (ret a ha (cy hdp (by decide+kernel)) (by rw[ha];exact oneT a h0 (by rw[hdp,Bool.or_true]))))
    |false=>
     refine aB ⟨_,rfl,.inl ⟨l,_,0,.str w,rfl,rfl,SqL.of hl9,aG,.inl ⟨rfl,_,rfl,?_⟩⟩⟩
     rw[show decide (V.str w=V.str (Str.ofString "given"))=aw w "given" from rfl,hng]
     exact aB (aB (key3 (more h1)))
   |false=>
    refine aB (aB ⟨_,rfl,.inl ⟨l,_,0,.str w,rfl,rfl,SqL.of hl9,aG,.inl ⟨rfl,_,rfl,?_⟩⟩⟩)
    rw[show decide (V.str w=V.str (Str.ofString "given"))=aw w "given" from rfl]
    cases hgv:aw w "given" with
    |false=>exact aB (aB (key3 (noG hdp (by rw[hgv];rfl))))
    |true=>
    refine aL ⟨_,rfl,.inl ⟨rfl,_,rfl,?_⟩⟩
    rw[show decide (V.str hd=V.str (Str.ofString "spoiler"))=aw hd "spoiler" from rfl]
    cases hsp:aw hd "spoiler" with
    |false=>exact aB (aB (key3 (noG hdp (by rw[hsp,Bool.and_false]))))
    |true=>
    refine aL ⟨_,rfl,.ref D,_,rfl,.inl ⟨_,SqL.of e9,rfl⟩,.inl ⟨rfl,_,rfl,?_⟩⟩
    cases h1:decide (V.int ((ns.map V.int).length:Int)=V.int 1) with
    |true=>
     obtain⟨a,ha,h0⟩:=one (h1:=h1)
     exact aL (ret a ha (cy hgv (by decide+kernel)) (by rw[ha];exact oneT a h0 (by rw[hgv,hsp];rfl)))
    |false=>exact aB (key3 (more h1))
  refine⟨_,rfl,.inl ⟨l,_,0,.str w,rfl,rfl,SqL.of hl9,aG,.inl ⟨rfl,_,rfl,?_⟩⟩⟩
  rw[show decide (V.str w=V.str (Str.ofString "join"))=aw w "join" from rfl]
  cases hj:aw w "join" with
  |false=>exact aB (aB (key2 fun z=>nomatch z.symm.trans hj))
  |true=>
  have hng:aw w "given"=false:=cy hj (by decide+kernel)
  have hnd:aw w "drop"=false:=cy hj (by decide+kernel)
  have hnh2:aw w "hits"=false:=cy hj (by decide+kernel)
  refine aL ⟨_,rfl,.ref D,_,rfl,.inl ⟨_,SqL.of e9,rfl⟩,.inl ⟨rfl,_,rfl,?_⟩⟩
  cases h3:decide (V.int ((ns.map V.int).length:Int)=V.int 3) with
  |false=>
   refine aB (aB (key2 fun _=>?_))
   have h3':¬ ((ns.length:Int)=3):=fun z=>of_decide_eq_false h3 (congrArg V.int (by omega))
   unfold ge
   split
   ·rw[hng,hnd]
    simp
   ·exact absurd rfl h3'
   ·rfl
  |true=>
   have:=V.int.inj (of_decide_eq_true h3)
   obtain⟨a,b,c,rfl⟩:=gU (ns:=ns) (by omega)
   have a0:=hpos a (by simp)
   have b0:=hpos b (by simp)
   have enB:ge w hd [a,b,c]=decide (1<=c):=by
    show (aw w "join"&&(decide (0<=a)&&(decide (0<=b)&&decide (1<=c))))=_
    rw[hj,decide_eq_true a0,decide_eq_true b0]
    rfl
   refine aL ⟨_,rfl,.inl ⟨D,_,2,.int c,rfl,rfl,SqL.of e9,rfl,_,_,rfl,rfl,_,rfl,bE (fun c1=>?_) (fun c1=>?_)⟩⟩
   ·have c1':0 < c:=of_decide_eq_true c1
    refine⟨_,rfl,.inl ⟨D,_,0,.int a,rfl,rfl,SqL.of e9,rfl,_,rfl,.inl ⟨D,_,1,.int b,rfl,rfl,SqL.of e9,rfl,_,rfl,.inl ⟨D,_,2,.int c,rfl,rfl,SqL.of e9,rfl,(by show 4<=sizeLine;decide),fun p10 hp10=>?_⟩⟩⟩⟩
    refine q' (by rw[eB,if_neg (by rw[hnh2];nofun),enB];exact decide_eq_true (by omega)) p10 _ (k9.trans (ag hp10 _)) ⟨p10,rfl,.inr ⟨hnh2,?_⟩⟩
    rw[cx hj]
    exact ad
   ·have c1':¬ 0 < c:=fun z=>c1 (decide_eq_true z)
    exact key2 fun _=>by rw[enB];exact decide_eq_false (by omega)
 refine⟨_,rfl,.inl ⟨l,_,0,.str w,rfl,rfl,SqL.of hl3,aG,.inl ⟨rfl,_,rfl,?_⟩⟩⟩
 rw[show decide (V.str w=V.str (Str.ofString "hits"))=aw w "hits" from rfl]
 cases hw:aw w "hits" with
 |false=>exact aB (aB (key1 fun z=>nomatch z.symm.trans hw))
 |true=>
 refine aL ⟨_,rfl,.inl ⟨rfl,_,rfl,?_⟩⟩
 rw[show decide (V.str hd=V.str (Str.ofString "wisher"))=aw hd "wisher" from rfl]
 cases hwi:aw hd "wisher" with
 |false=>exact aB (key1 fun _=>hwi)
 |true=>
 have eB:br hd w ns=ci 1000000000 0 (ns.map PyData.int):=by
  unfold br
  rw[if_pos hw,hwi]
  rfl
 have e10:(10:Int) ^ (9:Int).toNat=1000000000:=by rfl
 refine aL ⟨_,rfl,_,_,rfl,rfl,⟨by decide,by decide,by decide⟩,D,ns,_,rfl,e1,_,rfl,?_⟩
 rw[e10]
 cases hb:ci 1000000000 0 (ns.map PyData.int) with
 |false=>exact aL (qe' (by rw[eB,hb]) _ k3)
 |true=>
 refine aB ⟨_,rfl,D,_,rfl,.inl ⟨SqL.of e1,fun p5 hp5=>⟨(by show 2<=sizeLine;decide),fun p6 hp6=>?_⟩⟩⟩
 have k5:Same H3 (upd H3 p5 (.tup (ns.map V.int))):=ag hp5 _
 have k6:=ag hp6 (.tup [.str (Str.ofString "hits"),.ref p5])
 refine q' (by rw[eB,hb]) p6 _ (k3.trans (k5.trans k6)) ⟨p6,rfl,.inl ⟨hw,p5,?_,k6 _ _ ad⟩⟩
 rw[cx hw]
 exact ad
end
end K86
namespace K86
open PySem L2 OD
section
variable {P:Program}{w:World}{K:PySem.W.Frag}{mg:Str->Option Value}{base:Heap}{CN:Addr}
theorem nW:az ["_law_text","_law_rows_here","_law_lines"] ["_law_text"] (am pB):=⟨rfl,rfl,rfl,by decide+kernel,rfl,by decide+kernel,by decide+kernel⟩
theorem pL {f f1:Addr}{fd d1:FuncData}(F:Fun K "_law_reader" "_law_reader" pB f fd)(G_law_read_line:Fn P w K mg base 2 "_law_read_line" f1 d1 ["_law_hand","_law_row"] me):aW P w K mg base cU 3 f fd ["_law_text"] nU:=by
 have sc:=nW
 refine F.ok nW (fun vs H Q E h=>?_) (fun cdv A outer s H vs Q E hr h=>?_)
 ·obtain⟨x,rfl,_⟩:=h
  rfl
 obtain⟨x,rfl,hz,q,qe⟩:=h
 have hu:=hr.units
 refine⟨_,(af (au (i:=1) sc.nd rfl (Or.inr rfl) (bS PySem.F.plainAttrs_str PySem.F.slot_str_split PySem.F.type_str_split cM (pv 0) (aa aj ae)))
  (af (aD (PW.pt (cg (ak (cu hu) (ax ap (pv 1) ac (fun _ _=>rfl)) aj (al _)) (b8 (ak (cu hu) (ax ap (pv 1) ac (fun _ _=>rfl)) aj (al _))))) (ah (aq bx)) ar)
  (af (eF (i:=2) sc.nd rfl rfl (NY:=["_law_row","_law_rows_here"]) (idx:=[none,some 1]) rfl ⟨by with_unfolding_all rfl,(by with_unfolding_all exact⟨rfl,trivial⟩),fun _=>by rfl,by rfl,by rfl,by rfl,by decide⟩ (bv (aH dR (pv 1) (aJ ac) aR)) (fun _ _ _ _=>(aK (i:=0) (show List.Nodup (["_law_row","_law_rows_here"]:List Str) by decide+kernel) rfl (Or.inl rfl))) (fun _ _ _ _=>bz) (fun _ _ _ _=>(aO G_law_read_line hr (by omega) rfl (aa (ax (iU (K:=K) rfl) (pv 1) ac (fun _ _=>rfl)) (aa (pv 0) ae)))) (by with_unfolding_all rfl))
  (af (aD (ak (o5 hu) bx (pv 2) (by with_unfolding_all rfl)) (ah (aq bx)) ar)
  (ah (aq (bw (aa (ax ap (pv 1) ac (fun _ _=>rfl)) (aa (pv 2) ae))))))))),?_⟩
 refine⟨_,rfl,rfl,x,Str.ofString "\n",rfl,rfl,(by decide+kernel),(by omega),fun l hl=>?_⟩
 have hsl:=PyProof.Rows.split_le x (Str.ofString "\n")
 have hparts:∀ s∈Txt.split x (Str.ofString "\n"),s.length<=800000:=fun s hs=>Nat.le_trans (cw hs) hz
 obtain⟨r,rs,es⟩:=List.exists_cons_of_length_pos (PyProof.Rows.split_pos x (Str.ofString "\n"))
 have hof:=fG es
 rw[es] at hsl hparts ⊢
 have k1:Same H (upd H l (.lst ((r::rs).map V.str))):=ag hl _
 have hl1:upd H l (.lst ((r::rs).map V.str)) l=some (.lst ((r::rs).map V.str)):=ad
 generalize upd H l (.lst ((r::rs).map V.str))=H1 at k1 hl1 ⊢
 refine⟨_,rfl,.inl ⟨l,_,0,.str r,rfl,rfl,SqL.of hl1,aG,.inl ⟨rfl,_,rfl,?_⟩⟩⟩
 rw[show decide (V.str r=V.str (Str.ofString "spoiler"))=aw r "spoiler" from rfl]
 unfold fi
 have hh:(aw r "wisher" || aw r "spoiler")=true->gW (gz 2 (fz [none,some 1] (ny K (pN (qx K) (bU 1) (fv (tC (V.int 1))) cO)) (bF 0) pP (gp me [] E0 (cB (jw (pO K) (bU 1) (tC (V.int 0))) (cB (bU 0) gn)))))
   (gW (oh (ke (jw qK (tC V.non) (bU 2))) (jq (tC V.non)) fun D σ H=>D.nx σ H) (jq (oE (cB (jw (pO K) (bU 1) (tC (V.int 0))) (cB (bU 2) gn))))) {nx:=fun _ H'=>Q .non H',rt:=Q} [some (.str x),some (.ref l),none] H1:=fun hh=>by
  rw[if_pos hh] at hof
  refine⟨_,rfl,1,rfl,l,_,rfl,SqL.of hl1,fun p2 hp2=>?_⟩
  have ect:cQ ((r::rs).map V.str) (some 1) none=rs.map V.str:=cN _ (by rw[List.length_map];omega)
  rw[ect]
  have k3:Same H (upd H1 p2 (.lst (rs.map V.str))):=k1.trans (ag hp2 _)
  have hl3:upd H1 p2 (.lst (rs.map V.str)) p2=some (.lst (rs.map V.str)):=ad
  have hll3:=ag hp2 (.lst (rs.map V.str)) _ _ hl1
  generalize upd H1 p2 (.lst (rs.map V.str))=H3 at k3 hl3 hll3 ⊢
  refine⟨p2,rfl,⟨_,SqL.of hl3⟩,fun D hD=>?_⟩
  have nD:H D=none:=k3.free hD
  refine bd (K:=K) (a:=p2) (xs:=rs.map V.str) (fun i σ ys H4=>(∃ v0,σ=[v0,some (.ref l)])/\H4 D=some (.lst ys)/\Same H H4/\Same H3 H4/\OAs H4 ((rs.take i).map (bu r)) ys) ⟨⟨none,rfl⟩,ad,k3.upd_new nD _,ag hD _,.nil⟩ ?_ ?_ ?_
  ·rintro i σ ys H4 _ ⟨_,g1,g2,g3,_⟩
   exact⟨g1,SqL.of (g3 _ _ hl3)⟩
  ·rintro i v σ ys H4 hx ⟨⟨v0,rfl⟩,g1,g2,g3,g4⟩
   rw[List.getElem?_map] at hx
   obtain⟨a,ha,rfl⟩:=Option.map_eq_some_iff.mp hx
   have hil:i < rs.length:=(List.getElem?_eq_some_iff.mp ha).1
   have ham:=List.mem_of_getElem? ha
   have hal:=hparts a (List.mem_cons_of_mem _ ham)
   rw[List.length_cons] at hsl
   have fin:∀ (v:V) (H5:Hp),Same H4 H5->OA H5 (bu r a) v->H5 D=some (.lst ys)/\ys.length < sizeLine/\((∃ v0,[some (V.str a),some (V.ref l)]=[v0,some (.ref l)])/\L2.upd H5 D (.lst (ys++[v])) D=some (.lst (ys++[v]))/\Same H (L2.upd H5 D (.lst (ys++[v])))/\Same H3 (L2.upd H5 D (.lst (ys++[v])))/\OAs (L2.upd H5 D (.lst (ys++[v]))) ((rs.take (i+1)).map (bu r)) (ys++[v])):=fun v H5 k5 hv=>by
    have h5:=k5 _ _ g1
    have hlen:=Paired.length g4
    refine⟨h5,?_,⟨_,rfl⟩,ad,(g2.trans k5).upd_new nD _,(g3.trans k5).upd_new hD _,?_⟩
    ·rw[← hlen,List.length_map,List.length_take]
     exact aY (by omega)
    ·rw[List.take_add_one,ha,List.map_append]
     exact Paired.snoc ((g4.mono k5).upd h5) (hv.upd h5)
   refine bq ⟨_,rfl,.inl ⟨l,_,0,.str r,rfl,rfl,SqL.of (g3 _ _ hll3),aG,_,rfl,r,a,rfl,hal,fun L hL t1 H5 k5 ht1=>fin _ H5 k5 (by rw[hL];exact ht1),fun hn H5 k5=>fin _ H5 k5 (by rw[hn];rfl)⟩⟩
  rintro σ ys H4 ⟨_,g1,g2,g3,g4⟩
  rw[List.length_map,List.take_of_length_le (Nat.le_refl _)] at g4
  refine⟨_,rfl,.none,(rs.map (bu r)).map oD,iP,di g1 g4.rds,rfl,mf (fun a L h=>gf h) rs,(by decide),_,rfl,?_⟩
  rw[nt]
  cases hall:rs.all fun a=>(bu r a).isSome with
  |false=>exact aL (qe (by rw[hof];unfold cR;rw[hall];rfl) _ g2)
  |true=>
  have hall':=List.all_eq_true.mp hall
  refine aB ⟨_,rfl,.inl ⟨l,_,0,.str r,rfl,rfl,SqL.of (g3 _ _ hll3),aG,_,rfl,(by show 2<=sizeLine;decide),fun p5 hp5=>?_⟩⟩
  have k5:Same H4 (upd H4 p5 (.tup [.str r,.ref D])):=ag hp5 _
  exact q r (rs.filterMap (bu r)) (by rw[hof,fZ hall'];rfl) p5 D ys _ (g2.trans k5) nD ad (k5 _ _ g1) ((g4.lns hall').mono k5)
 cases hs:aw r "spoiler" with
 |true=>exact aB (aB (hh (by rw[hs,Bool.or_true])))
 |false=>
  refine aL ⟨_,rfl,.inl ⟨l,_,0,.str r,rfl,rfl,SqL.of hl1,aG,.inl ⟨rfl,_,rfl,?_⟩⟩⟩
  rw[show decide (V.str r=V.str (Str.ofString "wisher"))=aw r "wisher" from rfl]
  cases hwi:aw r "wisher" with
  |true=>exact aB (hh (by rw[hwi];rfl))
  |false=>exact aL (qe (by rw[hof,hs,hwi];rfl) _ k1)
end
end K86
namespace K86
open PySem L2 OD
abbrev iD:Stmt:=dn 43
abbrev iE:Stmt:=dn 44
abbrev mh:Stmt:=dn 45
structure su (K:PySem.W.Frag)(mg:Str->Option Value)(CN:Addr):Prop where
 m_NoText:mg "NoText"=some (.ref CN)
 x_NoText:PySem.W.excIn K CN [.type "ValueError",.type "Exception",.type "BaseException",.type "object"] "ValueError.__new__"=true
def jf (CN:Addr):Sp:=fun vs H Q _=>∃ x:Str,vs=[.str x]/\x.length<=800000/\
 (∀ h ls,bK x=some (h,ls)->∀ l p q xs H',Same H H'->H q=none->H' l=some (.lst [.ref p,.non])->H' p=some (.tup [.str h,.ref q])->H' q=some (.lst xs)->LnAs H' ls xs->Q (.ref l) H')/\
 (bK x=none->∀ l ea H',Same H H'->H' l=some (.lst [.non,.ref ea])->H' ea=some (fW ea CN)->Q (.ref l) H')
def nu (L:Ln):Prop:=wOk L.1/\(aw L.1 "hits"=true\/L.2≠[])
def jg:Sp:=fun vs H Q _=>∃ (v:V) (L:Ln),vs=[v]/\LnA H L v/\nu L/\∀ H':Hp,Same H H'->Q (.bl true) H'
def jh:Sp:=fun vs H Q _=>∃ (p q:Addr) (xs:List V) (u:V) (h:Str) (ls:List Ln),vs=[.ref p,u]/\H p=some (.tup [.str h,.ref q])/\H q=some (.lst xs)/\LnAs H ls xs/\RD H (pj h ls) u/\hOk h/\(∀ L∈ls,nu L)/\∀ H':Hp,Same H H'->Q (.bl true) H'
theorem mi {hd row:Str}{L:Ln}(h:bu hd row=some L):nu L:=by
 refine⟨gf h,?_⟩
 unfold bu at h
 obtain⟨ns,_,h⟩:=Option.bind_eq_some_iff.mp h
 split at h
 ·rename_i hb
  cases h
  unfold br at hb
  split at hb
  ·rename_i e
   exact .inl e
  ·refine .inr fun z=>?_
   dsimp only at z
   rw[z] at hb
   cases hb
 ·cases h
theorem j5 {x h:Str}{ls:List Ln}(e:bK x=some (h,ls)):∀ L∈ls,nu L:=by
 unfold bK at e
 split at e
 ·obtain⟨ls',h1,h2⟩:=Option.map_eq_some_iff.mp e
  cases h2
  intro L hL
  unfold cR at h1
  split at h1
  ·injection h1 with h1
   rw[← h1] at hL
   obtain⟨a,_,ha⟩:=List.mem_filterMap.mp hL
   exact mi ha
  ·cases h1
 ·cases e
section
variable {P:Program}{w:World}{K:PySem.W.Frag}{mg:Str->Option Value}{base:Heap}{CN:Addr}
theorem jj:az ["_law_text","_law_found","_law_error","e"] ["_law_text"] (am iD):=⟨rfl,rfl,rfl,by decide+kernel,rfl,by decide+kernel,by decide+kernel⟩
theorem mj {f f1:Addr}{fd d1:FuncData}(F:Fun K "_law_asked" "_law_asked" iD f fd)(T:su K mg CN)(Gread_paper:nI P w K mg base 5 "read_paper" f1 d1 ["text"] (l0 CN)):aW P w K mg base cU 6 f fd ["_law_text"] (jf CN):=by
 have sc:=jj
 refine F.ok jj (fun vs H Q E h=>?_) (fun cdv A outer s H vs Q E hr h=>?_)
 ·obtain⟨x,rfl,_⟩:=h
  rfl
 obtain⟨x,rfl,hz,q,qe⟩:=h
 refine⟨_,(af (au (i:=1) sc.nd rfl (Or.inl rfl) bx)
  (af (au (i:=2) sc.nd rfl (Or.inl rfl) bx)
  (af (o8 (i:=3) sc.nd rfl rfl rfl rfl rfl T.x_NoText (by decide+kernel) T.m_NoText rfl (mP (i:=1) sc.nd rfl (Or.inl rfl) (o9 Gread_paper (fun _ _ z=>z) hr (by omega) rfl (aa (pv 0) ae))) (fun _ _=>(ah (au (i:=2) sc.nd rfl (Or.inl rfl) (pv 3)))))
  (ah (aq (bI (aa (pv 1) (aa (pv 2) ae)))))))),?_⟩
 refine⟨_,rfl,x,rfl,hz,fun t cs ht p qa xs H1 k1 hqa hp hq hc=>?_,fun hn H1 k1=>⟨rfl,fun ea hea=>?_⟩⟩
 ·refine⟨_,rfl,_,rfl,(by show 2<=sizeLine;decide),fun l hl=>?_⟩
  have k2:Same H1 (upd H1 l (.lst [.ref p,.non])):=ag hl _
  exact q t cs ht l p qa xs _ (k1.trans k2) hqa ad (k2 _ _ hp) (k2 _ _ hq) (hc.mono k2)
 ·refine⟨_,rfl,?_⟩
  refine⟨_,rfl,_,rfl,(by show 2<=sizeLine;decide),fun l hl=>?_⟩
  have k2:Same H1 (upd H1 ea (fW ea CN)):=ag hea _
  have k3:=ag hl (.lst [.non,.ref ea])
  exact qe hn l ea _ (k1.trans (k2.trans k3)) ad (k3 _ _ ad)
theorem jk:az ["_law_line_here","_law_numbers"] ["_law_line_here"] (am iE):=⟨rfl,rfl,rfl,by decide+kernel,rfl,by decide+kernel,by decide+kernel⟩
theorem ml {f f1:Addr}{fd d1:FuncData}(F:Fun K "_law_kinds" "_law_kinds" iE f fd)(T:py mg)(G_law_whole:Fn P w K mg base 1 "_law_whole" f1 d1 ["_law_found"] i5):aW P w K mg base cU 2 f fd ["_law_line_here"] jg:=by
 have sc:=jk
 refine F.ok jk (fun vs H Q E h=>?_) (fun cdv A outer s H vs Q E hr h=>?_)
 ·obtain⟨v,L,rfl,_⟩:=h
  rfl
 obtain⟨v,L,rfl,hL,hk,q⟩:=h
 have hu:=hr.units
 obtain⟨p,rfl,hL⟩:=hL
 refine⟨_,(af (aD (PW.pt (bZ (bj (aZ (ai aI rfl T.isinstance PyProof.Rows.boot_isinstance (aa (pv 0) (aa (bg (v:=.ty "tuple") rfl T.tuple PyProof.Rows.boot_tuple rfl) ae))))) (bZ (ak fk (ai aN rfl T.len PySem.boot_len (aa (pv 0) ae)) ac (al _)) (bR (bj (aZ (ai aI rfl T.isinstance PyProof.Rows.boot_isinstance (aa (ax ap (pv 0) ac (fun _ _=>rfl)) (aa (bg (v:=.ty "str") rfl T.str PyProof.Rows.boot_str rfl) ae))))))))) (ah (aq cz)) ar)
  (af (au (i:=1) sc.nd rfl (Or.inl rfl) (aH iW (pv 0) (aJ ac) aR))
  (af (aD (ak (aA hu) (ax ap (pv 0) ac (fun _ _=>rfl)) aj (al _)) (ah (au (i:=1) sc.nd rfl (Or.inl rfl) (ax ap (pv 0) ac (fun _ _=>rfl)))) ar)
  (ah (aq (b4 (ai aI rfl T.isinstance PyProof.Rows.boot_isinstance (aa (pv 1) (aa (bg (v:=.ty "tuple") rfl T.tuple PyProof.Rows.boot_tuple rfl) ae))) (cp (a_ (aA hu) (ai aN rfl T.len PySem.boot_len (aa (bA (NY:=["_law_one"]) (idx:=[none]) rfl ⟨by with_unfolding_all rfl,(by with_unfolding_all exact trivial),fun _=>by rfl,by rfl,by rfl,by rfl,by decide⟩ (fO (pv 1)) (fun _ _ _ _=>(aK (i:=0) (show List.Nodup (["_law_one"]:List Str) by decide+kernel) rfl (Or.inl rfl))) (fun _ _ _ _=>(dU (bj (aZ (aO G_law_whole hr (by omega) rfl (aa (pv 0) ae)))))) (fun _ _ _ _=>(pv 0))) ae)) ac (al _))))))))),?_⟩
 have hat:∃ zs,H p=some (.tup (.str L.1::zs))/\zs≠[]:=by
  rcases hL with⟨e,qb,hp',hq'⟩|⟨e,hp'⟩
  ·exact⟨_,hp',nofun⟩
  ·refine⟨_,hp',fun z=>?_⟩
   rcases hk.2 with w|w
   ·rw[e] at w
    cases w
   ·exact w (List.map_eq_nil_iff.mp z)
 obtain⟨zs,hpc,hz0⟩:=hat
 have hzl:=List.length_pos_iff.mpr hz0
 refine⟨_,rfl,.ref p,_,"tuple",true,rfl,.tup hpc,aE qZ,true,rfl,aB ?_⟩
 refine⟨_,rfl,.ref p,_,rfl,.inr ⟨_,SqT.of hpc,rfl⟩,_,_,rfl,rfl,_,rfl,sC (by rw[List.length_cons];omega) ?_⟩
 refine⟨_,rfl,.inr (.inl ⟨p,_,0,.str L.1,rfl,rfl,SqT.of hpc,aG,.str L.1,_,"str",true,rfl,.str L.1,aE rT,true,rfl,aB ?_⟩)⟩
 have eix:¬ (HT.sIx (V.str L.1::zs).length 0 (some 1)=0/\HT.sIx (V.str L.1::zs).length (V.str L.1::zs).length none=(V.str L.1::zs).length):=fun z=>by
  have e1:HT.sIx (V.str L.1::zs).length 0 (some 1)=min 1 (V.str L.1::zs).length:=HT.sIx_nat _ 0 1
  rw[e1,List.length_cons] at z
  omega
 refine⟨_,rfl,1,rfl,p,_,rfl,SqT.of hpc,fun z=>absurd z eix,fun _ p3 hp3=>?_⟩
 have ect:cQ (.str L.1::zs) (some 1) none=zs:=by
  unfold cQ
  have e1:HT.sIx (V.str L.1::zs).length 0 (some 1)=min 1 (V.str L.1::zs).length:=HT.sIx_nat _ 0 1
  have e2:HT.sIx (V.str L.1::zs).length (V.str L.1::zs).length none=(V.str L.1::zs).length:=rfl
  have e3:min 1 (V.str L.1::zs).length=1:=by rw[List.length_cons];omega
  rw[e1,e2,e3]
  show zs.take ((V.str L.1::zs).length - 1)=zs
  exact List.take_of_length_le (by rw[List.length_cons];omega)
 rw[ect]
 have k3:Same H (upd H p3 (.tup zs)):=ag hp3 _
 have h3:upd H p3 (.tup zs) p3=some (.tup zs):=ad
 generalize upd H p3 (.tup zs)=H3 at k3 h3 ⊢
 unfold bF
 dsimp only
 refine bo fun N hN=>?_
 have key:∀ pn,H3 pn=some (.tup (L.2.map V.int))->N [some (.ref p),some (.ref pn)] H3:=fun pn hpn=>by
  refine hN _ _ ?_
  refine⟨_,rfl,.ref pn,_,"tuple",true,rfl,.tup hpn,aE qZ,true,rfl,aL ?_⟩
  refine⟨_,rfl,pn,rfl,⟨_,SqT.of hpn⟩,fun D hD=>?_⟩
  refine eG (K:=K) (a:=pn) (xs:=L.2.map V.int) (fun j σ ys H4=>(∃ v0,σ=[v0])/\ys=[]/\H4=upd H3 D (.lst [])) ⟨⟨none,rfl⟩,rfl,rfl⟩ ?_ ?_ ?_
  ·rintro j σ ys H4 _ ⟨_,rfl,rfl⟩
   exact⟨ad,SqT.of (by rw[ay (av hpn hD)];exact hpn)⟩
  ·rintro j y σ ys H4 hy ⟨⟨v0,rfl⟩,rfl,rfl⟩
   obtain⟨z,rfl,_⟩:=cI hy
   exact⟨_,rfl,.int z,.int z,rfl,kB z,true,rfl,aB ⟨⟨_,rfl⟩,rfl,rfl⟩⟩
  rintro σ ys H4 ⟨_,rfl,rfl⟩
  exact⟨.ref D,_,rfl,.inl ⟨_,SqL.of ad,rfl⟩,.inl ⟨rfl,q _ (k3.trans (ag hD _))⟩⟩
 refine⟨_,rfl,.inr (.inl ⟨p,_,0,.str L.1,rfl,rfl,SqT.of (k3 _ _ hpc),aG,.inl ⟨rfl,_,rfl,?_⟩⟩)⟩
 rcases hL with⟨e,qb,hp',hq'⟩|⟨e,hp'⟩
 ·rw[show decide (V.str L.1=V.str (Str.ofString "hits"))=true from e]
  exact aL ⟨_,rfl,.inr (.inl ⟨p,_,1,.ref qb,rfl,rfl,SqT.of (k3 _ _ hp'),rfl,key qb (k3 _ _ hq')⟩)⟩
 ·rw[show decide (V.str L.1=V.str (Str.ofString "hits"))=false from e]
  have ez:zs=L.2.map V.int:=by
   rw[hp'] at hpc
   injection hpc with hpc
   injection hpc with hpc
   exact (List.cons.inj hpc).2.symm
  exact aB (key p3 (by rw[h3,ez]))
theorem mn:az ["_law_found","_law_due"] ["_law_found","_law_due"] (am mh):=⟨rfl,rfl,rfl,by decide+kernel,rfl,by decide+kernel,by decide+kernel⟩
theorem nv {f f1:Addr}{fd d1:FuncData}(F:Fun K "_law_good" "_law_good" mh f fd)(T:py mg)(G_law_kinds:Fn P w K mg base 2 "_law_kinds" f1 d1 ["_law_line_here"] jg):aW P w K mg base cU 3 f fd ["_law_found","_law_due"] jh:=by
 have sc:=mn
 refine F.ok mn (fun vs H Q E h=>?_) (fun cdv A outer s H vs Q E hr h=>?_)
 ·obtain⟨p,qa,xs,u,h,ls,rfl,_⟩:=h
  rfl
 obtain⟨p,qa,xs,u,h,ls,rfl,h1,h2,h3,hd',hh,hk,q⟩:=h
 have hu:=hr.units
 refine⟨_,(af (aD (PW.pt (bZ (bj (aZ (ai aI rfl T.isinstance PyProof.Rows.boot_isinstance (aa (pv 0) (aa (bg (v:=.ty "tuple") rfl T.tuple PyProof.Rows.boot_tuple rfl) ae))))) (bR (ak (cu hu) (ai aN rfl T.len PySem.boot_len (aa (pv 0) ae)) ac (al _))))) (ah (aq cz)) ar)
  (af (aD (PW.pt (bZ (bj (aZ (ai aI rfl T.isinstance PyProof.Rows.boot_isinstance (aa (ax ap (pv 0) ac (fun _ _=>rfl)) (aa (bg (v:=.ty "str") rfl T.str PyProof.Rows.boot_str rfl) ae))))) (bR (bj (aZ (ai aI rfl T.isinstance PyProof.Rows.boot_isinstance (aa (ax ap (pv 0) ac (fun _ _=>rfl)) (aa (bg (v:=.ty "list") rfl T.list PyProof.Rows.boot_list rfl) ae)))))))) (ah (aq cz)) ar)
  (ah (aq (b4 (a_ (aA hu) (ai aN rfl T.len PySem.boot_len (aa (bA (NY:=["_law_line_here"]) (idx:=[none]) rfl ⟨by with_unfolding_all rfl,(by with_unfolding_all exact trivial),fun _=>by rfl,by rfl,by rfl,by rfl,by decide⟩ (bv (ax ap (pv 0) ac (fun _ _=>rfl))) (fun _ _ _ _=>(aK (i:=0) (show List.Nodup (["_law_line_here"]:List Str) by decide+kernel) rfl (Or.inl rfl))) (fun _ _ _ _=>(dU (bj (aZ (aO G_law_kinds hr (by omega) rfl (aa (pv 0) ae)))))) (fun _ _ _ _=>(pv 0))) ae)) ac (al _)) (cp (a_ (aA hu) (pv 0) (pv 1) (al _)))))))),?_⟩
 refine⟨_,rfl,.ref p,_,"tuple",true,rfl,.tup h1,aE qZ,true,rfl,aB ?_⟩
 refine⟨_,rfl,.ref p,_,rfl,.inr ⟨_,SqT.of h1,rfl⟩,.inl ⟨rfl,_,rfl,rS rfl ?_⟩⟩
 refine⟨_,rfl,.inr (.inl ⟨p,_,0,.str h,rfl,rfl,SqT.of h1,rfl,.str h,_,"str",true,rfl,.str h,aE rT,true,rfl,aB ?_⟩)⟩
 refine⟨_,rfl,.inr (.inl ⟨p,_,1,.ref qa,rfl,rfl,SqT.of h1,rfl,.ref qa,_,"list",true,rfl,.lst h2,aE sD,true,rfl,aB ?_⟩)⟩
 refine⟨_,rfl,.inr (.inl ⟨p,_,1,.ref qa,rfl,rfl,SqT.of h1,rfl,qa,rfl,⟨_,SqL.of h2⟩,fun D hD=>?_⟩)⟩
 refine bd (K:=K) (a:=qa) (xs:=xs) (fun j σ ys H4=>(∃ v0,σ=[v0])/\ys=[]/\H4 D=some (.lst [])/\Same H H4) ⟨⟨none,rfl⟩,rfl,ad,ag hD _⟩ ?_ ?_ ?_
 ·rintro j σ ys H4 _ ⟨_,rfl,g1,g2⟩
  exact⟨g1,SqL.of (g2 _ _ h2)⟩
 ·rintro j y σ ys H4 hy ⟨⟨v0,rfl⟩,rfl,g1,g2⟩
  obtain⟨L,hLi,hLa⟩:=h3.get hy
  exact⟨_,rfl,y,L,rfl,hLa.mono g2,hk L (List.mem_of_getElem? hLi),fun H5 k5=>⟨true,rfl,aB ⟨⟨_,rfl⟩,rfl,k5 _ _ g1,g2.trans k5⟩⟩⟩
 rintro σ ys H4 ⟨_,rfl,g1,g2⟩
 refine⟨.ref D,_,rfl,.inl ⟨_,SqL.of g1,rfl⟩,.inl ⟨rfl,true,rfl,aL ?_⟩⟩
 exact⟨_,rfl,_,rfl,kO (eY (g2 _ _ h1) (g2 _ _ h2) (h3.mono g2)) (iS g2 _ _ hd') (eZ hh fun L hL=>(hk L hL).1) (q H4 g2)⟩
end
end K86
namespace K86
open PySem L2 OD
abbrev j6:Stmt:=dn 46
def jm (K:PySem.W.Frag):Sp:=fun vs H Q _=>∃ (a:Addr) (ns:List Int),vs=[.ref a]/\SqL K H a (ns.map V.int)/\ns.length<=63/\∀ H',Q (.bl true) H'
section
variable {P:Program}{w:World}{K:PySem.W.Frag}{mg:Str->Option Value}{base:Heap}{CN:Addr}
theorem nX:az ["_law_script","_law_paper_here","_law_handed","_law_rows_here","_law_told","_law_number_here","_law_more","_law_text","_law_due","_law_found","_law_error"] ["_law_script"] (am j6):=⟨rfl,rfl,rfl,by decide+kernel,rfl,by decide+kernel,by decide+kernel⟩
theorem pM {f f1 f2 f3 f5 f6 f7 f8 f9 g1 g2 g3:Addr}{fd d1 d2 d3 d5 d6 d7 d8 d9 e1 e2 e3:FuncData}(F:Fun K "law" "law" j6 f fd)(T:py mg)(G_law_paper:Fn P w K mg base 3 "_law_paper" f1 d1 ["_law_script"] (lu K))(G_law_cell_at:Fn P w K mg base 1 "_law_cell_at" f2 d2 ["_law_script","_law_k"] (im K))
  (G_law_mixed:Fn P w K mg base 1 "_law_mixed" f3 d3 ["_law_cell","_law_k"] dY) (G_law_rows:Fn P w K mg base 1 "_law_rows" f5 d5 ["_law_paper_here"] jb) (Gshown_paper:Fn P w K mg base 3 "shown_paper" f6 d6 ["paper"] ja)
  (G_law_bent_rows:Fn P w K mg base 1 "_law_bent_rows" f7 d7 ["_law_rows_here","_law_number_here","_law_more"] lM) (G_law_bent_signs:Fn P w K mg base 1 "_law_bent_signs" f8 d8 ["_law_text","_law_number_here","_law_more"] lL) (G_law_reader:Fn P w K mg base 3 "_law_reader" f9 d9 ["_law_text"] nU)
  (G_law_asked:Fn P w K mg base 6 "_law_asked" g1 e1 ["_law_text"] (jf CN)) (G_law_alone:Fn P w K mg base 1 "_law_alone" g2 e2 ["_law_error"] (i8 CN)) (G_law_good:Fn P w K mg base 3 "_law_good" g3 e3 ["_law_found","_law_due"] jh):
  aW P w K mg base cU 7 f fd ["_law_script"] (jm K):=by
 have sc:=nX
 refine F.ok nX (fun vs H Q E h=>?_) (fun cdv A outer s H vs Q E hr h=>?_)
 ·obtain⟨a,ns,rfl,_⟩:=h
  rfl
 obtain⟨a,ns,rfl,hS,hl,q⟩:=h
 have hu:=hr.units
 refine⟨_,(af (au (i:=1) sc.nd rfl (Or.inl rfl) (aO G_law_paper hr (by omega) rfl (aa (pv 0) ae)))
  (af (au (i:=2) sc.nd rfl (Or.inl rfl) (bw (aa (ax ap (pv 1) ac (fun _ _=>rfl)) (aa (aS bV rfl T.list PyProof.Rows.boot_list (aa (ax ap (pv 1) ac (fun _ _=>rfl)) ae)) ae))))
  (af (au (i:=3) sc.nd rfl (Or.inl rfl) (aO G_law_rows hr (by omega) rfl (aa (pv 1) ae)))
  (af (au (i:=4) sc.nd rfl (Or.inl rfl) (aO Gshown_paper hr (by omega) rfl (aa (pv 2) ae)))
  (af (aD (PW.pt (bZ (bj (aZ (ai aI rfl T.isinstance PyProof.Rows.boot_isinstance (aa (pv 4) (aa (bg (v:=.ty "str") rfl T.str PyProof.Rows.boot_str rfl) ae))))) (bZ (ak (cu hu) (pv 4) (bS PySem.F.plainAttrs_str PySem.F.slot_str_join PySem.F.type_str_join cP aj (aa (pv 3) ae)) (al _)) (bR (ak (cu hu) (pv 2) (pv 1) (al _)))))) (ah (aq cz)) ar)
  (af (au (i:=5) sc.nd rfl (Or.inl rfl) (aO G_law_mixed hr (by omega) rfl (aa (aO G_law_cell_at hr (by omega) rfl (aa (pv 0) (aa ac ae))) (aa ac ae))))
  (af (au (i:=6) sc.nd rfl (Or.inl rfl) (aO G_law_mixed hr (by omega) rfl (aa (aO G_law_cell_at hr (by omega) rfl (aa (pv 0) (aa ac ae))) (aa ac ae))))
  (af (aD (ak fm (ao aF (pv 5) ac) ac (al _)) (ah (au (i:=3) sc.nd rfl (Or.inl rfl) (aO G_law_bent_rows hr (by omega) rfl (aa (pv 3) (aa (pv 5) (aa (pv 6) ae)))))) ar)
  (af (au (i:=7) sc.nd rfl (Or.inl rfl) (bS PySem.F.plainAttrs_str PySem.F.slot_str_join PySem.F.type_str_join cP aj (aa (pv 3) ae)))
  (af (aD (PW.pt (cg (ak fk ac (ao aF (pv 5) ac) (al _)) (b8 (ak fk (ao aF (pv 5) ac) ac (al _))))) (ah (au (i:=7) sc.nd rfl (Or.inl rfl) (aO G_law_bent_signs hr (by omega) rfl (aa (pv 7) (aa (pv 5) (aa (pv 6) ae)))))) ar)
  (af (au (i:=8) sc.nd rfl (Or.inl rfl) (aO G_law_reader hr (by omega) rfl (aa (pv 7) ae)))
  (af (d_ (aO G_law_asked hr (by omega) rfl (aa (pv 7) ae)) (oY rfl (c5 (aK (i:=9) sc.nd rfl (Or.inl rfl)) (c5 (aK (i:=10) sc.nd rfl (Or.inl rfl)) iF))))
  (af (aD (ak oz (pv 8) bx (al _)) (ah (aq (aO G_law_alone hr (by omega) rfl (aa (pv 10) ae)))) ar)
  (af (aD (PW.pt (bZ (ak mz (pv 10) bx (al _)) (bR (bj (aZ (aO G_law_good hr (by omega) rfl (aa (pv 9) (aa (pv 8) ae)))))))) (ah (aq cz)) ar)
  (af (fM (oK PySem.F.plainAttrs_list PySem.F.slot_list_clear PySem.F.type_list_clear ko (ax ap (pv 9) ac (fun _ _=>rfl))))
  (ah (aq (aO G_law_good hr (by omega) rfl (aa (ax ap (aO G_law_asked hr (by omega) rfl (aa (pv 7) ae)) ac (fun _ _=>rfl)) (aa (pv 8) ae)))))))))))))))))))),?_⟩
 refine⟨_,rfl,a,ns,rfl,hS,hl,fun p qa xs h ls H1 k1 hp hq hL hh hl16 sh=>?_⟩
 have hkn:∀ L∈ls,wOk L.1:=fun L hL'=>(sh L hL').w
 have hxl:=Paired.length hL
 refine⟨_,rfl,.inr (.inl ⟨p,_,0,.str h,rfl,rfl,SqT.of hp,rfl,?_⟩)⟩
 refine⟨_,rfl,.inr (.inl ⟨p,_,1,.ref qa,rfl,rfl,SqT.of hp,rfl,qa,_,rfl,.inl (SqL.of hq),fun l2 hl2=>⟨(by show 2<=sizeLine;decide),fun p2 hp2=>?_⟩⟩)⟩
 have k2a:Same H1 (upd H1 l2 (.lst xs)):=ag hl2 _
 have k2b:=ag hp2 (.tup [.str h,.ref l2])
 have hpp:upd (upd H1 l2 (.lst xs)) p2 (.tup [.str h,.ref l2]) p2=some (.tup [.str h,.ref l2]):=ad
 have hll:upd (upd H1 l2 (.lst xs)) p2 (.tup [.str h,.ref l2]) l2=some (.lst xs):=k2b _ _ ad
 have k2:=k2a.trans k2b
 generalize upd (upd H1 l2 (.lst xs)) p2 (.tup [.str h,.ref l2])=H2 at hpp hll k2 ⊢
 have hp2':=k2 _ _ hp
 have hq2:=k2 _ _ hq
 have hL2:=hL.mono k2
 refine⟨_,rfl,p,qa,xs,h,ls,rfl,hp2',hq2,hL2,hh,hl16,sh,fun l H3 k3 nl hl3=>?_⟩
 refine⟨_,rfl,p2,l2,xs,h,ls,rfl,k3 _ _ hpp,k3 _ _ hll,hL2.mono k3,hh,hl16,sh,fun H4 k4=>?_⟩
 have k34:=k3.trans k4
 refine⟨_,rfl,.str _,_,"str",true,rfl,.str _,aE rT,true,rfl,aB ?_⟩
 have hl4:=k4 _ _ hl3
 have hk4:Same H H4:=k1.trans (k2.trans k34)
 refine⟨_,rfl,rfl,_,rfl,_,l,_,rfl,rfl,SqL.of hl4,fJ hh hl16 sh,.inl ⟨rfl,_,rfl,rS rfl ?_⟩⟩
 refine⟨_,rfl,_,rfl,kP (eY (k34 _ _ hpp) (k34 _ _ hll) (hL2.mono k34)) (eY (k34 _ _ hp2') (k34 _ _ hq2) (hL2.mono k34)) (eZ hh hkn) ⟨_,rfl,aB ?_⟩⟩
 refine⟨_,rfl,a,ns,0,rfl,hk4.seq hS,(by decide),fun c1=>⟨_,_,rfl,fun n n0 n1=>?_⟩⟩
 refine⟨_,rfl,a,ns,1,rfl,hk4.seq hS,(by decide),fun c2=>⟨_,_,rfl,fun m m0 m1=>?_⟩⟩
 unfold bF
 dsimp only
 refine bo fun N2 hN2=>?_
 have key2:∀ (l:Addr) (us:List Str) (H4:Hp),H4 l=some (.lst (us.map V.str))->us.length<=300->(∀ s∈us,s.length<=1500)->(n % 12<=6->us=bQ h ls)->
   N2 [some (.ref a),some (.ref p),some (.ref p2),some (.ref l),some (.str (Txt.join (Str.ofString "\n") (bQ h ls))),some (.int n),some (.int m),none,none,none,none] H4:=fun l us H4 hl4 u1 u2 u3=>by
  refine hN2 _ _ ?_
  have hj:=gb u2 u1 gc
  have hsum:=f_ u2
  have hsum2:us.length*1500<=300*1500:=Nat.mul_le_mul_right _ u1
  refine⟨rfl,_,rfl,_,l,us,rfl,rfl,SqL.of hl4,by rw[gc];omega,?_⟩
  have hxl:n % 12<=6->1<=(Txt.join (Str.ofString "\n") us).length/\(Txt.join (Str.ofString "\n") us).length<=100000:=fun h=>by
   rw[u3 h]
   have:=j4 hh hl16 sh
   omega
  generalize Txt.join (Str.ofString "\n") us=x at hj hxl ⊢
  dsimp only
  refine bo fun N3 hN3=>?_
  have key3:∀ x:Str,x.length<=800000->N3 [some (.ref a),some (.ref p),some (.ref p2),some (.ref l),some (.str (Txt.join (Str.ofString "\n") (bQ h ls))),some (.int n),some (.int m),some (.str x),none,none,none] H4:=fun x hx=>by
   refine hN3 _ _ ?_
   cases hs:bK x with
   |none=>
    refine⟨_,rfl,x,rfl,hx,(fun t1 cs1 h1=>nomatch h1.symm.trans hs),fun _ H5 k5=>?_⟩
    refine⟨_,rfl,x,rfl,hx,(fun t1 cs1 h1=>nomatch h1.symm.trans hs),fun _ l6 ea H6 k6 hl6 hea=>?_⟩
    refine⟨l6,_,rfl,SqL.of hl6,rfl,_,_,rfl,_,_,rfl,rfl,?_⟩
    refine⟨_,rfl,rfl,_,rfl,?_⟩
    rw[decide_eq_true rfl]
    exact aL ⟨_,rfl,ea,rfl,hea,fun H7 k7=>q _⟩
   |some r=>
    obtain⟨t1,cs1⟩:=r
    obtain⟨hh1,_⟩:=j2 hs
    have kn1:=j5 hs
    refine⟨_,rfl,x,rfl,hx,fun t' cs' h1 pd qd xd H5 k5 nqd hpd hqd hcd=>?_,(fun h1=>nomatch h1.symm.trans hs)⟩
    rw[hs] at h1
    cases h1
    refine⟨_,rfl,x,rfl,hx,fun t' cs' h1 l6 pf qf xf H6 k6 nqf hl6 hpf hqf hcf=>?_,(fun h1=>nomatch h1.symm.trans hs)⟩
    rw[hs] at h1
    cases h1
    refine⟨l6,_,rfl,SqL.of hl6,rfl,_,_,rfl,_,_,rfl,rfl,?_⟩
    refine⟨_,rfl,rfl,_,rfl,?_⟩
    rw[decide_eq_false (fun z=>nomatch z)]
    refine aB ⟨_,rfl,rfl,_,rfl,?_⟩
    rw[decide_eq_true rfl]
    refine aB ⟨_,rfl,_,rfl,pf,qf,xf,.ref pd,t1,cs1,rfl,hpf,hqf,hcf,eY (k6 _ _ hpd) (k6 _ _ hqd) (hcd.mono k6),hh1,kn1,fun H7 k7=>⟨_,rfl,aB ?_⟩⟩
    have hpf7:=k7 _ _ hpf
    have hqf7:=k7 _ _ hqf
    refine⟨_,rfl,.inr (.inl ⟨pf,_,1,.ref qf,rfl,rfl,SqT.of hpf7,rfl,.inl ⟨rfl,_,SqL.of hqf7⟩,qf,_,rfl,rfl,hqf7,?_⟩)⟩
    have nq:qd≠qf:=fun z=>by rw[z,nqf] at hqd;cases hqd
    have np:pd≠qf:=fun z=>by rw[z,nqf] at hpd;cases hpd
    have hpd8:upd H7 qf (.lst []) pd=some (.tup [.str t1,.ref qd]):=by rw[ay np];exact k7 _ _ (k6 _ _ hpd)
    have hqd8:upd H7 qf (.lst []) qd=some (.lst xd):=by rw[ay nq];exact k7 _ _ (k6 _ _ hqd)
    have hcd8:LnAs (upd H7 qf (.lst [])) cs1 xd:=((hcd.mono k6).mono k7).upd hqf7
    generalize upd H7 qf (.lst [])=H8 at hpd8 hqd8 hcd8 ⊢
    refine⟨_,rfl,x,rfl,hx,fun t' cs' h1 l9 pg qg xg H9 k9 nqg hl9 hpg hqg hcg=>?_,(fun h1=>nomatch h1.symm.trans hs)⟩
    rw[hs] at h1
    cases h1
    exact .inl ⟨l9,_,0,.ref pg,rfl,rfl,SqL.of hl9,rfl,_,rfl,pg,qg,xg,.ref pd,t1,cs1,rfl,hpg,hqg,hcg,eY (k9 _ _ hpd8) (k9 _ _ hqd8) (hcd8.mono k9),hh1,kn1,fun H10 k10=>q _⟩
  refine⟨_,rfl,_,_,rfl,rfl,(by show (0:Int) < 12;decide),_,_,rfl,rfl,_,rfl,bE (fun _=>?_) (fun _=>aB (key3 x (by omega)))⟩
  refine⟨_,rfl,_,_,rfl,rfl,(by show (0:Int) < 12;decide),_,_,rfl,rfl,_,rfl,bE (fun c7=>?_) (fun _=>key3 x (by omega))⟩
  have c7':n % 12 < 7:=of_decide_eq_true c7
  obtain⟨x1,x2⟩:=hxl (by omega)
  exact⟨_,rfl,_,rfl,_,rfl,x,n,m,rfl,x1,x2,n0,(by omega),m0,(by omega),fun y hy=>key3 y (by omega)⟩
 obtain⟨r1,r2⟩:=dI hh hl16 sh
 refine⟨_,rfl,_,_,rfl,rfl,(by show (0:Int) < 12;decide),_,_,rfl,rfl,_,rfl,bE (fun c6=>?_) (fun _=>?_)⟩
 ·have c6':6 < n % 12:=of_decide_eq_true c6
  exact⟨_,rfl,_,rfl,_,rfl,l,bQ h ls,n,m,rfl,hl4,(by show 1<=(ls.map fc).length+1;omega),(by omega),r2,n0,(by omega),m0,(by omega),fun l5 us H5 k5 hl5 u1 u2=>key2 l5 us H5 hl5 u1 u2 fun h=>absurd h (by omega)⟩
 ·exact key2 l (bQ h ls) H4 hl4 (by omega) (fun s hs=>Nat.le_trans (r2 s hs) (by decide)) fun _=>rfl
end
end K86
namespace K86
open PySem L2 OD
theorem all_mk {l:PySem.W.OpenLaw}{w:World}{K:PySem.W.Frag}{h:Heap}{mg:Str->Option Value}{fa f1 f2 f3 f4 f5 f6 f7 f8 f9 f10 f11 f12 f13 f14 f15 f16 f17 f18 f19 f20 f21 f22 f23 f24 f25 f26 f27 f28:Addr}{e1 e2 e3 e4 e5 e6 e7 e8 e9 e10 e11 e12 e13 e14 e15 e16 e17 e18 e19 e20 e21 e22 e23 e24 e25 e26 e27 e28:FuncData}(X:K.In h)(G:h.Ns mainGlobals mg)(hfa:mg "law"=some (.ref fa))
  {CD CF C1 C2 C3 C4 C5 C6 C8 C9:Addr}
  {cdF:ClassData} {tF tM tW tS:Tok}
  (a1:PySem.W.nsIn K mainGlobals "is_number"=some (some (.ref f1))) (F1:Fun K "is_number" "is_number" pw f1 e1)
  (a2:PySem.W.nsIn K mainGlobals "begins_with"=some (some (.ref f2))) (F2:Fun K "begins_with" "begins_with" pE f2 e2)
  (a3:PySem.W.nsIn K mainGlobals "is_set"=some (some (.ref f3))) (F3:Fun K "is_set" "is_set" px f3 e3)
  (a4:PySem.W.nsIn K mainGlobals "shown_row"=some (some (.ref f4))) (F4:Fun K "shown_row" "shown_row" iw f4 e4)
  (a5:PySem.W.nsIn K mainGlobals "shown_line"=some (some (.ref f5))) (F5:Fun K "shown_line" "shown_line" lQ f5 e5)
  (a6:PySem.W.nsIn K mainGlobals "shown_paper"=some (some (.ref f6))) (F6:Fun K "shown_paper" "shown_paper" iy f6 e6)
  (a7:PySem.W.nsIn K mainGlobals "read_number"=some (some (.ref f7))) (F7:Fun K "read_number" "read_number" lz f7 e7)
  (a8:PySem.W.nsIn K mainGlobals "read_numbers"=some (some (.ref f8))) (F8:Fun K "read_numbers" "read_numbers" ir f8 e8)
  (a9:PySem.W.nsIn K mainGlobals "is_line"=some (some (.ref f9))) (F9:Fun K "is_line" "is_line" lX f9 e9)
  (a10:PySem.W.nsIn K mainGlobals "read_line"=some (some (.ref f10))) (F10:Fun K "read_line" "read_line" pF f10 e10)
  (a11:PySem.W.nsIn K mainGlobals "read_paper"=some (some (.ref f11))) (F11:Fun K "read_paper" "read_paper" lY f11 e11)
  (a12:PySem.W.nsIn K mainGlobals "_law_cell_at"=some (some (.ref f12))) (F12:Fun K "_law_cell_at" "_law_cell_at" lq f12 e12)
  (a13:PySem.W.nsIn K mainGlobals "_law_whole"=some (some (.ref f13))) (F13:Fun K "_law_whole" "_law_whole" iq f13 e13)
  (a14:PySem.W.nsIn K mainGlobals "_law_mixed"=some (some (.ref f14))) (F14:Fun K "_law_mixed" "_law_mixed" il f14 e14)
  (a15:PySem.W.nsIn K mainGlobals "_law_number"=some (some (.ref f15))) (F15:Fun K "_law_number" "_law_number" lA f15 e15)
  (a16:PySem.W.nsIn K mainGlobals "_law_is_set"=some (some (.ref f16))) (F16:Fun K "_law_is_set" "_law_is_set" lE f16 e16)
  (a17:PySem.W.nsIn K mainGlobals "_law_bent_signs"=some (some (.ref f17))) (F17:Fun K "_law_bent_signs" "_law_bent_signs" lJ f17 e17)
  (a18:PySem.W.nsIn K mainGlobals "_law_bent_rows"=some (some (.ref f18))) (F18:Fun K "_law_bent_rows" "_law_bent_rows" lK f18 e18)
  (a19:PySem.W.nsIn K mainGlobals "_law_alone"=some (some (.ref f19))) (F19:Fun K "_law_alone" "_law_alone" iu f19 e19)
  (a20:PySem.W.nsIn K mainGlobals "_law_line"=some (some (.ref f20))) (F20:Fun K "_law_line" "_law_line" pp f20 e20)
  (a21:PySem.W.nsIn K mainGlobals "_law_paper"=some (some (.ref f21))) (F21:Fun K "_law_paper" "_law_paper" lr f21 e21)
  (a22:PySem.W.nsIn K mainGlobals "_law_rows"=some (some (.ref f22))) (F22:Fun K "_law_rows" "_law_rows" iz f22 e22)
  (a23:PySem.W.nsIn K mainGlobals "_law_read_line"=some (some (.ref f23))) (F23:Fun K "_law_read_line" "_law_read_line" pI f23 e23)
  (a24:PySem.W.nsIn K mainGlobals "_law_reader"=some (some (.ref f24))) (F24:Fun K "_law_reader" "_law_reader" pB f24 e24)
  (a25:PySem.W.nsIn K mainGlobals "_law_asked"=some (some (.ref f25))) (F25:Fun K "_law_asked" "_law_asked" iD f25 e25)
  (a26:PySem.W.nsIn K mainGlobals "_law_kinds"=some (some (.ref f26))) (F26:Fun K "_law_kinds" "_law_kinds" iE f26 e26)
  (a27:PySem.W.nsIn K mainGlobals "_law_good"=some (some (.ref f27))) (F27:Fun K "_law_good" "_law_good" mh f27 e27)
  (a28:PySem.W.nsIn K mainGlobals "law"=some (some (.ref f28))) (F28:Fun K "law" "law" j6 f28 e28)
  (z0:PySem.W.nsIn K mainGlobals "len"=some none)
  (z1:PySem.W.nsIn K mainGlobals "range"=some none)
  (z2:PySem.W.nsIn K mainGlobals "tuple"=some none)
  (z3:PySem.W.nsIn K mainGlobals "list"=some none)
  (z4:PySem.W.nsIn K mainGlobals "sorted"=some none)
  (z5:PySem.W.nsIn K mainGlobals "sum"=some none)
  (z6:PySem.W.nsIn K mainGlobals "isinstance"=some none)
  (z7:PySem.W.nsIn K mainGlobals "int"=some none)
  (z8:PySem.W.nsIn K mainGlobals "bool"=some none)
  (z9:PySem.W.nsIn K mainGlobals "str"=some none)
  (z10:PySem.W.nsIn K mainGlobals "abs"=some none)
  (z11:PySem.W.nsIn K mainGlobals "all"=some none)
  (z12:PySem.W.nsIn K mainGlobals "min"=some none)
  (yCD:PySem.W.nsIn K mainGlobals "DuelError"=some (some (.ref CD)))
  (yCF:PySem.W.nsIn K mainGlobals "NoText"=some (some (.ref CF)))
  (yC1:PySem.W.nsIn K mainGlobals "NoVariable"=some (some (.ref C1)))
  (yC2:PySem.W.nsIn K mainGlobals "NoFilling"=some (some (.ref C2)))
  (yC3:PySem.W.nsIn K mainGlobals "BadLine"=some (some (.ref C3)))
  (yC4:PySem.W.nsIn K mainGlobals "NotWhole"=some (some (.ref C4)))
  (yC5:PySem.W.nsIn K mainGlobals "NoHand"=some (some (.ref C5)))
  (yC6:PySem.W.nsIn K mainGlobals "BadStep"=some (some (.ref C6)))
  (yC8:PySem.W.nsIn K mainGlobals "TooMany"=some (some (.ref C8)))
  (yC9:PySem.W.nsIn K mainGlobals "NoForm"=some (some (.ref C9)))
  (zV:PySem.W.nsIn K mainGlobals "ValueError"=some none)
  (zAny:PySem.W.nsIn K mainGlobals "any"=some none)
  (zF:PySem.W.nsIn K mainGlobals "FIGURES"=some (some (.str (Str.ofString "0123456789") tF)))
  (zM:PySem.W.nsIn K mainGlobals "MOST_FIGURES"=some (some (.int 9 tM)))
  (zW:PySem.W.nsIn K mainGlobals "WISHER"=some (some (.str (Str.ofString "wisher") tW)))
  (zS:PySem.W.nsIn K mainGlobals "SPOILER"=some (some (.str (Str.ofString "spoiler") tS)))
  (zMax:PySem.W.nsIn K mainGlobals "max"=some none)
  (xCF:PySem.W.excIn K CF [.type "ValueError",.type "Exception",.type "BaseException",.type "object"] "ValueError.__new__"=true)
  (kV:PySem.W.kitOne K (.ref CF) (.type "ValueError")=some true)
  (kD:PySem.W.kitOne K (.ref CF) (.ref CD)=some true)
  (k_C1:PySem.W.kitOne K (.ref CF) (.ref C1)=some false)
  (k_C2:PySem.W.kitOne K (.ref CF) (.ref C2)=some false)
  (k_C3:PySem.W.kitOne K (.ref CF) (.ref C3)=some false)
  (k_C4:PySem.W.kitOne K (.ref CF) (.ref C4)=some false)
  (k_C5:PySem.W.kitOne K (.ref CF) (.ref C5)=some false)
  (k_C6:PySem.W.kitOne K (.ref CF) (.ref C6)=some false)
  (k_C8:PySem.W.kitOne K (.ref CF) (.ref C8)=some false)
  (k_C9:PySem.W.kitOne K (.ref CF) (.ref C9)=some false)
  (w1:PySem.W.clsIn K CF=some cdF)
  (w2:PySem.W.findIn K (.ref CF) "__getattribute__"=some (some (.builtin "BaseException.__getattribute__")))
  (w3:PySem.W.findIn K (.ref CF) "__getattr__"=some none)
  (w4:PySem.W.findIn K (.ref CF) "__class__"=some (some (.builtin "object.__class__")))
  (w5:PySem.W.mroIn K CF (.type "object")=some true)
  (w6:PySem.W.mroIn K CF (.type "BaseException")=some true)
  :∃ fd:FuncData,(∀ (s:Shared) (v:Value),BindsTo s fd ⟨[v],[]⟩ [("_law_script",v)])/\∀ base:Heap,K.In base->base.Ns mainGlobals mg->aW l.prog w K mg base cU 7 fa fd ["_law_script"] (jm K):=by
 have e:=hfa.symm.trans (PySem.W.mg_of X G a28)
 cases e
 have TG:re mg:=⟨PySem.W.mg_none_of X G z0,PySem.W.mg_none_of X G z1,PySem.W.mg_none_of X G z2,PySem.W.mg_none_of X G z3,PySem.W.mg_none_of X G z4,PySem.W.mg_none_of X G z5⟩
 have TS:py mg:=⟨PySem.W.mg_none_of X G z6,PySem.W.mg_none_of X G z7,PySem.W.mg_none_of X G z8,PySem.W.mg_none_of X G z2,PySem.W.mg_none_of X G z3,PySem.W.mg_none_of X G z9,PySem.W.mg_none_of X G z10,PySem.W.mg_none_of X G z0,PySem.W.mg_none_of X G z11⟩
 have TL:rf mg:=⟨PySem.W.mg_none_of X G z7,PySem.W.mg_none_of X G z0,PySem.W.mg_none_of X G z2,PySem.W.mg_none_of X G z10⟩
 have TX:r0 mg:=⟨PySem.W.mg_none_of X G z3,PySem.W.mg_none_of X G z9⟩
 have TZ:rZ mg:=⟨PySem.W.mg_none_of X G z0,PySem.W.mg_none_of X G z12,PySem.W.mg_none_of X G z3⟩
 have TT:sq K mg CF:=⟨PySem.W.mg_none_of X G zAny,TS.int,TS.len,TS.tuple,TS.str,⟨_,PySem.W.mg_of X G zF,⟨_,rfl⟩⟩,⟨_,PySem.W.mg_of X G zM,⟨_,rfl⟩⟩,PySem.W.mg_of X G yCF,xCF⟩
 have TQ:su K mg CF:=⟨PySem.W.mg_of X G yCF,xCF⟩
 have TA:sr K mg CF CD C1 C2 C3 C4 C5 C6 C8 C9:=⟨TS.len,TS.isinstance,PySem.W.mg_none_of X G zV,⟨_,PySem.W.mg_of X G yCD,rfl⟩,⟨_,PySem.W.mg_of X G yC1,rfl⟩,⟨_,PySem.W.mg_of X G yC2,rfl⟩,⟨_,PySem.W.mg_of X G yC3,rfl⟩,⟨_,PySem.W.mg_of X G yC4,rfl⟩,⟨_,PySem.W.mg_of X G yC5,rfl⟩,⟨_,PySem.W.mg_of X G yC6,rfl⟩,⟨_,PySem.W.mg_of X G yC9,rfl⟩,⟨_,PySem.W.mg_of X G yC8,rfl⟩,⟨_,PySem.W.mg_of X G yCF,rfl⟩,⟨⟨_,w1⟩,w2,w3,w4,w5,w6⟩,kV,kD,k_C1,k_C2,k_C3,k_C4,k_C5,k_C6,k_C8,k_C9⟩
 have TI:r6 mg:=⟨TS.isinstance,TS.tuple,TS.len,TS.abs,PySem.W.mg_none_of X G zMax,⟨_,PySem.W.mg_of X G zW,⟨_,rfl⟩⟩,⟨_,PySem.W.mg_of X G zS,⟨_,rfl⟩⟩⟩
 have TJ:r9 K mg CF:=⟨TS.tuple,TI.g_WISHER,TI.g_SPOILER,PySem.W.mg_of X G yCF,xCF⟩
 obtain⟨_,_,kV,dc,pm,an,cd,ct,_,rfl,_,_⟩:=F28.ex
 refine⟨PySem.W.fnOf "law" "law" (b_ j6) (bM j6) (am j6) .none kV dc pm an cd ct,fun s v=>.of_eq rfl,fun base _ _=>?_⟩
 have G1:=eO l.prog w base X G a1 F1 F1.b1 (pz F1 TS)
 have G2:=eO l.prog w base X G a2 F2 F2.b3 (pG F2 TI)
 have G3:=eO l.prog w base X G a3 F3 F3.b2 (pA F3 TS G1)
 have G4:=eO l.prog w base X G a4 F4 F4.b1 (lT F4 TX)
 have G5:=eO l.prog w base X G a5 F5 F5.b1 (ni F5 G4)
 have G6:=eO l.prog w base X G a6 F6 F6.b1 (lV F6 G5)
 have G7:=mV l.prog w base X G a7 F7 F7.b1 (m_ F7 TT)
 have G8:=mV l.prog w base X G a8 F8 F8.b1 (lD F8 G7)
 have G9:=eO l.prog w base X G a9 F9 F9.b2 (nk F9 TI G2 G3)
 have G10:=mV l.prog w base X G a10 F10 F10.b2 (pH F10 TJ G8 G9)
 have G11:=mV l.prog w base X G a11 F11 F11.b1 (nn F11 TJ G10)
 have G12:=eO l.prog w base X G a12 F12 F12.b2 (m7 F12 TG)
 have G13:=eO l.prog w base X G a13 F13 F13.b1 (ly F13 TS)
 have G14:=eO l.prog w base X G a14 F14 F14.b2 (lw F14)
 have G15:=eO l.prog w base X G a15 F15 F15.b1 (nb F15 TL)
 have G16:=eO l.prog w base X G a16 F16 F16.b2 (nc F16 TL)
 have G17:=eO l.prog w base X G a17 F17 F17.b3 (ng F17 TZ)
 have G18:=eO l.prog w base X G a18 F18 F18.b3 (nh F18 TZ)
 have G19:=eO l.prog w base X G a19 F19 F19.b1 (lP F19 TA)
 have G20:=eO l.prog w base X G a20 F20 F20.b3 (pr F20 TG G14)
 have G21:=eO l.prog w base X G a21 F21 F21.b1 (m8 F21 TG G12 G14 G20)
 have G22:=eO l.prog w base X G a22 F22 F22.b1 (lW F22 TX)
 have G23:=eO l.prog w base X G a23 F23 F23.b2 (pK F23 TL G15 G16)
 have G24:=eO l.prog w base X G a24 F24 F24.b1 (pL F24 G23)
 have G25:=eO l.prog w base X G a25 F25 F25.b1 (mj F25 TQ G11)
 have G26:=eO l.prog w base X G a26 F26 F26.b1 (ml F26 TS G13)
 have G27:=eO l.prog w base X G a27 F27 F27.b2 (nv F27 TS G26)
 exact pM F28 TS G21 G12 G14 G22 G6 G18 G17 G24 G25 G19 G27
theorem walk {l:PySem.W.OpenLaw}{q:Program}{loose:List Str}{XP:(Str->Option Value)->Heap->Prop}{YP:World->Heap->Prop}{d:DefRec}{K:Params->PySem.W.Frag}(hn:l.most=some 63)(hdf:d.params.defaults=[])
  (hY:∀ (w:World) (h:Heap),YP w h->(K w.params).In h)
  (F:∀ (w:World) (mg:Str->Option Value) (fa:Addr) (h:Heap),(K w.params).In h->h.Ns mainGlobals mg->mg d.name=some (.ref fa)->
   ∃ fd:FuncData,(∀ (s:Shared) (u:Value),BindsTo s fd ⟨[u],[]⟩ [("_law_script",u)])/\∀ base:Heap,(K w.params).In base->base.Ns mainGlobals mg->aW l.prog w (K w.params) mg base cU 7 fa fd ["_law_script"] (jm (K w.params))):
  PySem.W.WalkO q loose XP YP l.row.toRowW d [] (fun f vs=>PySem.call f vs):=
 L2.walk_of (n:=63) (k:=7) (x:="_law_script") (CX:=fun _=>cU) (sp:=fun w=>jm (K w.params)) hn (by decide) hdf ⟨rfl,by decide,by decide⟩ hY F (fun _ _ a ns hl _ hS=>⟨a,ns,rfl,hS,hl,fun _=>rfl⟩) fun _ _ _ _ _ z=>z
end K86
open PySem PySem.W PySem.Calls PyProof.Rows
set_option maxRecDepth 100000
set_option maxHeartbeats 0
noncomputable def K86.vQ:Program:=view PySem.Challenge.pw_oathduel_k86_papers_written_down [1,2,3,4,5,6,7,8,9,10,12,13,15,16,17,19,20,21,22,23,24,25,26,27,28,30,31,32,33,34,35,36,37,38,39,40,41,42,43,44,45,46]
theorem K86.said:OpenLaw.wellSaid PySem.Challenge.rw_oathduel_k86_papers_written_down=true:=(congrFun Fast.te9446332074065402090 PySem.Challenge.rw_oathduel_k86_papers_written_down).trans (by kernel_rfl)
theorem K86.seen (w:World)(os:OsState):HD.lookAt PySem.Challenge.pw_oathduel_k86_papers_written_down 11 (some (.ref 6)) 3082 w os (HD.seenAt PySem.Challenge.pw_oathduel_k86_papers_written_down K86.vQ [] (fun s=>xlAt K86.vQ [] s&&recOk [] s) true w)=some (true,openGood K86.vQ []):=by kernel_rfl
local macro_rules|`(tactic|o_head $H)=>`(tactic|refine HD.head (q:=K86.vQ) (loose:=[]) (lv:=[]) $H (N:=6164) (HD.left (by kernel_rfl) (fun s=>by kernel_rfl) (by kernel_rfl) (by kernel_rfl) (fun w=>by kernel_rfl) K86.seen (fun w os=>by kernel_rfl)) (by rfl) (by rfl) (by rfl) (by rfl) (by assumption) (by decide+kernel) ⟨rfl,rfl,rfl,rfl,rfl,by decide+kernel⟩ ?hw ?hc)
theorem PySem.Challenge.cw_oathduel_k86_papers_written_down_holds : PySem.Challenge.rw_oathduel_k86_papers_written_down.Holds := by
 w_on
 refine holds_law K86.said fun said=>?_
 k_head
 (case hw=>w_witness2)
 k_fill
 refine K86.walk (l:=PySem.Challenge.rw_oathduel_k86_papers_written_down) rfl rfl (fun w h Y=>PySem.W.kIn_of Y) ?F
 case F=>
  intro w mg fa h KX G hmg
  refine' K86.all_mk KX G hmg ?a1 ?F1 ?a2 ?F2 ?a3 ?F3 ?a4 ?F4 ?a5 ?F5 ?a6 ?F6 ?a7 ?F7 ?a8 ?F8 ?a9 ?F9 ?a10 ?F10 ?a11 ?F11 ?a12 ?F12 ?a13 ?F13 ?a14 ?F14 ?a15 ?F15 ?a16 ?F16 ?a17 ?F17 ?a18 ?F18 ?a19 ?F19 ?a20 ?F20 ?a21 ?F21 ?a22 ?F22 ?a23 ?F23 ?a24 ?F24 ?a25 ?F25 ?a26 ?F26 ?a27 ?F27 ?a28 ?F28 ?z0 ?z1 ?z2 ?z3 ?z4 ?z5 ?z6 ?z7 ?z8 ?z9 ?z10 ?z11 ?z12 ?yCD ?yCF ?yC1 ?yC2 ?yC3 ?yC4 ?yC5 ?yC6 ?yC8 ?yC9 ?zV ?zAny ?zF ?zM ?zW ?zS ?zMax ?xCF ?kV ?kD ?k_C1 ?k_C2 ?k_C3 ?k_C4 ?k_C5 ?k_C6 ?k_C8 ?k_C9 ?w1 ?w2 ?w3 ?w4 ?w5 ?w6
  (case yCD|yCF|yC1|yC2|yC3|yC4|yC5|yC6|yC8|yC9|zV|zAny|zF|zM|zW|zS|zMax|a1|a2|a3|a4|a5|a6|a7|a8|a9|a10|a11|a12|a13|a14|a15|a16|a17|a18|a19|a20|a21|a22|a23|a24|a25|a26|a27|a28|z0|z1|z2|z3|z4|z5|z6|z7|z8|z9|z10|z11|z12=>k_is)
  (case F1|F2|F3|F4|F5|F6|F7|F8|F9|F10|F11|F12|F13|F14|F15|F16|F17|F18|F19|F20|F21|F22|F23|F24|F25|F26|F27|F28=>refine' L2.fun_mk ?l ?c ?k;(case l=>k_is);(case c=>k_is);(case k=>k_is))
  (case xCF=>k_exc)
  (case kV=>kit_is)
  (case kD=>kit_is)
  (case k_C1=>kit_is)
  (case k_C2=>kit_is)
  (case k_C3=>kit_is)
  (case k_C4=>kit_is)
  (case k_C5=>kit_is)
  (case k_C6=>kit_is)
  (case k_C8=>kit_is)
  (case k_C9=>kit_is)
  (case w1=>k_is)
  (case w2=>k_is)
  (case w3=>k_is)
  (case w4=>k_is)
  (case w5=>k_is)
  (case w6=>k_is)
