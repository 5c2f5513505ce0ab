import PyProof.Rows.All
import Wide.All
import OpenK.AllK
import Wide.FinOn
import Lean
import PyProof.EqAt
import PyProof.EqKinds
import PyProof.TupleCall
import PySem.Challenge.RW_oathduel_k85_sentences_written_down
set_option Elab.async false
set_option linter.all false
set_option maxRecDepth 100000
namespace L2
open PySem PySem.Spec PyProof.Rows
abbrev bH:=Sum Int Str
def fQ:bH->Value->Bool
 |.inl k,v=>Value.isInt k v
 |.inr x,v=>Value.isStrOf x v
def rZ (w:World):bH->Int
 |.inl k=>hashInt k
 |.inr x=>hashStr w x
theorem aR:∀ {k:bH} {v:Value},fQ k v=true->(∃ i t,k=Sum.inl i/\v=Value.int i t)\/(∃ x t,k=Sum.inr x/\v=Value.str x t)
 |.inl i,v,h=>by
  obtain⟨t,e⟩:=Value.isInt_shape (k:=i) (v:=v) h
  exact .inl ⟨i,t,rfl,e⟩
 |.inr x,v,h=>by
  obtain⟨t,e⟩:=Value.isStrOf_shape (x:=x) (v:=v) h
  exact .inr ⟨x,t,rfl,e⟩
theorem ki (i:Int)(t:Tok):fQ (.inl i) (.int i t)=true:=by simp [fQ,Value.isInt]
theorem kj (x:Str)(t:Tok):fQ (.inr x) (.str x t)=true:=by simp [fQ,Value.isStrOf]
theorem pi (a b:Int):decide ((Sum.inl a:bH)=Sum.inl b)=(a == b):=by
 by_cases e:a=b
 ·subst e;simp
 ·have h:¬ (Sum.inl a:bH)=Sum.inl b:=fun q=>e (Sum.inl.inj q)
  rw[decide_eq_false h]
  exact (beq_eq_false_iff_ne.mpr e).symm
theorem pj (a b:Str):decide ((Sum.inr a:bH)=Sum.inr b)=decide (a=b):=by
 by_cases e:a=b
 ·subst e;simp
 ·have h:¬ (Sum.inr a:bH)=Sum.inr b:=fun q=>e (Sum.inr.inj q)
  rw[decide_eq_false h,decide_eq_false e]
theorem pk (a:Int)(b:Str):decide ((Sum.inl a:bH)=Sum.inr b)=false:=decide_eq_false (fun q=>nomatch q)
theorem pq (a:Str)(b:Int):decide ((Sum.inr a:bH)=Sum.inl b)=false:=decide_eq_false (fun q=>nomatch q)
def aW (prog:Program)(w:World):PySem.KeyKind prog w bH where
 is:=fQ
 hash:=rZ w
 inj:=fun v a b ha hb=>by
  rcases aR ha with⟨i,t,rfl,rfl⟩|⟨x,t,rfl,rfl⟩
  ·rcases aR hb with⟨j,u,rfl,e⟩|⟨y,u,rfl,e⟩
   ·injection e with e1 _;rw[e1]
   ·exact nomatch e
  ·rcases aR hb with⟨j,u,rfl,e⟩|⟨y,u,rfl,e⟩
   ·exact nomatch e
   ·injection e with e1 _;rw[e1]
 byValue:=fun k v h=>by
  rcases aR h with⟨i,t,rfl,rfl⟩|⟨x,t,rfl,rfl⟩<;>rfl
 pyHash:=fun hv h=>by
  rcases aR hv with⟨i,t,rfl,rfl⟩|⟨x,t,rfl,rfl⟩
  ·exact wpAny_pyHash_int h
  ·exact wpAny_pyHash_str h
 eqBool:=fun hu hv h=>by
  rcases aR hu with⟨i,t,rfl,rfl⟩|⟨x,t,rfl,rfl⟩
  ·rcases aR hv with⟨j,u,rfl,rfl⟩|⟨y,u,rfl,rfl⟩
   ·rw[pi] at h;exact wpAny_eqBool_int h
   ·rw[pk] at h;exact SeqAt.EqAt.int_str i t y u _ _ _ _ h
  ·rcases aR hv with⟨j,u,rfl,rfl⟩|⟨y,u,rfl,rfl⟩
   ·rw[pq] at h;exact SeqAt.EqAt.str_int x t j u _ _ _ _ h
   ·rw[pj] at h;exact wpAny_eqBool_str h
 «strs»:=fun k x t v h=>by
  rcases aR h with⟨i,u,rfl,e⟩|⟨y,u,rfl,e⟩
  ·exact nomatch e
  ·injection e with e1 _
   subst e1
   cases v<;>rfl
theorem gP (prog:Program)(w:World)(i:Int)(t:Tok):(aW prog w).is (.inl i) (.int i t)=true:=ki i t
theorem gQ (prog:Program)(w:World)(x:Str)(t:Tok):(aW prog w).is (.inr x) (.str x t)=true:=kj x t
end L2
namespace L2
open PySem PySem.Spec PyProof.Rows
inductive V where
 |non|bl (b:Bool)|int (i:Int)|str (x:Str)|byt (b:Array UInt8)|flt (b:UInt64)|ref (a:Addr)|ty (n:String)
 deriving DecidableEq
def RelV:V->Value->Prop
 |.non,u=>u=Value.none
 |.bl b,u=>u=Value.bool b
 |.int i,u=>∃ t,u=Value.int i t
 |.str x,u=>∃ t,u=Value.str x t
 |.byt b,u=>∃ t,u=Value.bytes b t
 |.flt b,u=>∃ t,u=Value.float b t
 |.ref a,u=>u=Value.ref a
 |.ty n,u=>u=Value.type n
abbrev Vals:List V->List Value->Prop:=Paired RelV
theorem Vals.length {xs:List V}{us:List Value}(r:Vals xs us):xs.length=us.length:=Paired.length r
theorem Vals.get:∀ {xs:List V} {us:List Value} {i:Nat} {x:V},Vals xs us->xs[i]? =some x->∃ u,us[i]? =some u/\RelV x u
 |_,_,_,_,.nil,e=>by simp at e
 |_,_,0,_,.cons r _,e=>by simp at e;subst e;exact⟨_,rfl,r⟩
 |_,_,i+1,x,.cons _ t,e=>by
  obtain⟨u,h1,h2⟩:=Vals.get (i:=i) (x:=x) t (by simpa using e)
  exact⟨u,by simpa using h1,h2⟩
theorem Vals.set {x:V}{u:Value}(r:RelV x u):∀ {xs:List V} {us:List Value} (i:Nat),Vals xs us->Vals (xs.set i x) (us.set i u)
 |_,_,_,.nil=>.nil
 |_,_,0,.cons _ t=>.cons r t
 |_,_,i+1,.cons q t=>.cons q (Vals.set r i t)
theorem Vals.append:∀ {xs ys:List V} {us ws:List Value},Vals xs us->Vals ys ws->Vals (xs++ys) (us++ws)
 |_,_,_,_,.nil,s=>s
 |_,_,_,_,.cons r t,s=>.cons r (Vals.append t s)
theorem Vals.take:∀ {xs:List V} {us:List Value} (n:Nat),Vals xs us->Vals (xs.take n) (us.take n)
 |_,_,0,_=>.nil
 |_,_,_+1,.nil=>.nil
 |_,_,n+1,.cons r t=>.cons r (Vals.take n t)
theorem Vals.drop:∀ {xs:List V} {us:List Value} (n:Nat),Vals xs us->Vals (xs.drop n) (us.drop n)
 |_,_,0,r=>r
 |_,_,_+1,.nil=>.nil
 |_,_,n+1,.cons _ t=>Vals.drop n t
theorem Vals.none_of:∀ {xs:List V} {us:List Value} {i:Nat},Vals xs us->xs[i]? =none->us[i]? =none:=fun {xs us i} r e=>by
 have h1:=r.length
 have h2:xs.length<=i:=List.getElem?_eq_none_iff.mp e
 exact List.getElem?_eq_none_iff.mpr (by omega)
def RelO:Option V->Option Value->Prop
 |some v,some u=>RelV v u
 |none,none=>True
 |_,_=>False
def KV {κ:Type}:List (κ×V)->List (κ×Value)->Prop:=Paired fun (p:κ×V) (q:κ×Value)=>p.1=q.1/\RelV p.2 q.2
def kV:bH->V
 |.inl i=>.int i
 |.inr x=>.str x
inductive HO where
 |lst (xs:List V)
 |tup (xs:List V)
 |dK (kvs:List (bH×V))|dT (kvs:List (List bH×V))
 |set (S:Int->Bool) (n:Nat)
 |ins (C dx:Addr) (fs:List (Str×V))
 |own (x:Addr)
 |xd (fs:List (Str×V))
 |met (f x:Addr)
 |rng (lo hi:Int)
 |frz (o:Obj) (u:HO)
 |tbl (ps:Array Value)
 |ext (φ:Heap->Prop)
abbrev Hp:=Addr->Option HO
def upd (H:Hp)(a:Addr)(o:HO):Hp:=fun b=>if b=a then some o else H b
theorem ad {H:Hp}{a:Addr}{o:HO}:upd H a o a=some o:=by unfold upd;rw[if_pos rfl]
theorem av {H:Hp}{a b:Addr}{o:HO}(h:b≠a):upd H a o b=H b:=by unfold upd;rw[if_neg h]
theorem cO {H:Hp}{a:Addr}{o u:HO}:upd (upd H a o) a u=upd H a u:=by
 funext b;unfold upd;split<;>rfl
theorem oP {H:Hp}{a b:Addr}{o u:HO}(h:H a=some o)(h':H b=some u)(d:o≠u):a≠b:=by
 intro e;subst e;rw[h] at h';exact d (Option.some.inj h')
theorem ap {H:Hp}{a b:Addr}{o:HO}(h:H a=some o)(h':H b=none):a≠b:=by
 intro e;subst e;rw[h] at h';cases h'
section
variable (P:Program)(w:World)
def ObjOk (H:Hp)(h:Heap)(a:Addr):HO->Prop
 |.lst xs=>xs.length<=sizeLine/\∃ (its:List Value) (n:Nat),Vals xs its/\h.get? a=some {cls:=.type "list",data:=.seq its.toArray n}
 |.tup xs=>xs.length<=sizeLine/\∃ its:List Value,Vals xs its/\IsTup h a its.toArray
 |.dK kvs=>kvs.length<=sizeLine/\(a == sysModules)=false/\∃ vs,KV kvs vs/\h.DictOf (aW P w) a vs
 |.dT kvs=>kvs.length<=sizeLine/\(a == sysModules)=false/\∃ xs:List (List bH×Addr×Value),
   Paired (fun (p:List bH×V) (q:List bH×Addr×Value)=>p.1=q.1/\H q.2.1=some (.tup (p.1.map kV))/\RelV p.2 q.2.2) kvs xs/\
   ∃ o es ep,h.get? a=some o/\o.ExactDict/\o.data=.dict es ep/\es.toList=xs.map (entryOfKey (tupleKind (aW P w)))/\(xs.map (·.1)).Nodup
 |.set S n=>h.SetOf (intKind P w) a S n
 |.ins C dx fs=>H dx=some (.own a)/\fs.length<=1000/\dx≠a/\h.get? a=some (PySem.W.instObj C dx)/\
   ∃ mA,h.Ns1 dx mA/\(∀ f,RelO (fs.lookup f) (mA f))/\PySem.Within mA (fs.map (·.1))
 |.own _=>∃ o,h.get? a=some o
 |.xd fs=>∃ mA,h.Ns1 a mA/\∀ f,RelO (fs.lookup f) (mA f)
 |.rng lo hi=>∃ t u v,h.get? a=some {cls:=.type "range",data:=.fields #[.int lo t,.int hi u,.int 1 v]}
 |.frz o u=>h.get? a=some o/\ObjOk H h a u
 |.tbl ps=>h.get? a=some {cls:=.none,data:=.fields ps}
 |.met f x=>h.get? a=some (PySem.W.methodObj (.ref f) (.ref x))
 |.ext φ=>φ h/\(∃ o,h.get? a=some o)/\∀ h1 h2:Heap,φ h1->(∀ o,h1.get? a=some o->h2.get? a=some o)->φ h2
def HOk (H:Hp)(h:Heap):Prop:=∀ a o,H a=some o->ObjOk P w H h a o
end
section
variable {P:Program}{w:World}{H H':Hp}{h h':Heap}{a:Addr}{o:HO}
theorem ObjOk.lt (x:ObjOk P w H h a o):a < h.objs.size:=by
 cases o with
 |lst xs=>obtain⟨_,_,_,_,e⟩:=x;exact Heap.lt_size e
 |tup xs=>obtain⟨_,_,_,p⟩:=x;exact p.lt
 |dK kvs=>obtain⟨_,_,_,_,o,_,_,e,_⟩:=x;exact Heap.lt_size e
 |dT kvs=>obtain⟨_,_,_,_,o,_,_,e,_⟩:=x;exact Heap.lt_size e
 |set S n=>obtain⟨o,_,_,_,e,_⟩:=x;exact Heap.lt_size e
 |ins C dx fs=>obtain⟨_,_,_,e,_⟩:=x;exact Heap.lt_size e
 |own y=>obtain⟨_,e⟩:=x;exact Heap.lt_size e
 |xd fs=>obtain⟨_,⟨_,_,_,e,_⟩,_⟩:=x;exact Heap.lt_size e
 |rng lo hi=>obtain⟨_,_,_,e⟩:=x;exact Heap.lt_size e
 |frz ob u=>obtain⟨e,_⟩:=x;exact Heap.lt_size e
 |tbl ps=>exact Heap.lt_size (show h.get? a=some _ from x)
 |met f y=>exact Heap.lt_size (show h.get? a=some _ from x)
 |ext φ=>obtain⟨_,⟨_,e⟩,_⟩:=x;exact Heap.lt_size e
theorem Paired.mapP {α β:Type}{F G:α->β->Prop}:∀ {l₁:List α} {l₂:List β},Paired F l₁ l₂->(∀ a b,F a b->G a b)->Paired G l₁ l₂
 |_,_,.nil,_=>.nil
 |_,_,.cons r t,f=>.cons (f _ _ r) (Paired.mapP t f)
theorem ObjOk.stay (x:ObjOk P w H h a o)(k:∀ b u,(b=a\/H b=some (.own a))->h.get? b=some u->h'.get? b=some u)
  (ho:∀ b,H b=some (.own a)->H' b=some (.own a)) (ht:∀ b xs,H b=some (.tup xs)->H' b=some (.tup xs)):ObjOk P w H' h' a o:=by
 induction o with
 |lst xs=>obtain⟨z,its,n,r,e⟩:=x;exact⟨z,its,n,r,k _ _ (.inl rfl) e⟩
 |tup xs=>obtain⟨z,its,r,ob,e,c⟩:=x;exact⟨z,its,r,ob,k _ _ (.inl rfl) e,c⟩
 |dK kvs=>obtain⟨z,y,vs,r,ob,es,ep,e,c⟩:=x;exact⟨z,y,vs,r,ob,es,ep,k _ _ (.inl rfl) e,c⟩
 |dT kvs=>
  obtain⟨z,y,xs,r,ob,es,ep,e,c⟩:=x
  exact⟨z,y,xs,Paired.mapP r fun p q z=>⟨z.1,ht _ _ z.2.1,z.2.2⟩,ob,es,ep,k _ _ (.inl rfl) e,c⟩
 |set S n=>obtain⟨ob,es,ep,t,e,c⟩:=x;exact⟨ob,es,ep,t,k _ _ (.inl rfl) e,c⟩
 |ins C dx fs=>
  obtain⟨d,z,ne,e,mA,⟨od,es,ep,e2,c⟩,r⟩:=x
  exact⟨ho _ d,z,ne,k _ _ (.inl rfl) e,mA,⟨od,es,ep,k _ _ (.inr d) e2,c⟩,r⟩
 |own y=>obtain⟨ob,e⟩:=x;exact⟨ob,k _ _ (.inl rfl) e⟩
 |xd fs=>obtain⟨mA,⟨od,es,ep,e,c⟩,r⟩:=x;exact⟨mA,⟨od,es,ep,k _ _ (.inl rfl) e,c⟩,r⟩
 |rng lo hi=>obtain⟨t,u,v,e⟩:=x;exact⟨t,u,v,k _ _ (.inl rfl) e⟩
 |frz ob u ih=>obtain⟨e,q⟩:=x;exact⟨k _ _ (.inl rfl) e,ih q⟩
 |tbl ps=>
  have e:h.get? a=some {cls:=.none,data:=.fields ps}:=x
  show h'.get? a=some {cls:=.none,data:=.fields ps}
  exact k a _ (.inl rfl) e
 |met f y=>
  have e:h.get? a=some (PySem.W.methodObj (.ref f) (.ref y)):=x
  show h'.get? a=some (PySem.W.methodObj (.ref f) (.ref y))
  exact k a _ (.inl rfl) e
 |ext φ=>obtain⟨p,⟨o,e⟩,st⟩:=x;exact⟨st _ _ p fun o q=>k _ _ (.inl rfl) q,⟨o,k _ _ (.inl rfl) e⟩,st⟩
theorem HOk.lt (x:HOk P w H h)(e:H a=some o):a < h.objs.size:=(x a o e).lt
theorem HOk.fresh (x:HOk P w H h)(e:h.objs.size<=a):H a=none:=by
 cases q:H a with
 |none=>rfl
 |some u=>exact absurd (Nat.lt_of_lt_of_le (x.lt q) e) (Nat.lt_irrefl _)
theorem HOk.kept (x:HOk P w H h)(k:∀ b u,h.get? b=some u->h'.get? b=some u):HOk P w H h':=fun a o e=>
 (x a o e).stay (fun b u _ q=>k b u q) (fun _ q=>q) fun _ _ q=>q
theorem HOk.laid (x:HOk P w H h)(k:∀ b u,h.get? b=some u->h'.get? b=some u)(hp:h.objs.size<=a)(new:ObjOk P w (upd H a o) h' a o):HOk P w (upd H a o) h':=fun b u e=>by
 have hn:=x.fresh hp
 by_cases hb:b=a
 ·subst hb;rw[ad] at e;cases e;exact new
 ·rw[av hb] at e
  exact (x b u e).stay (fun c v _ q=>k c v q) (fun c q=>by rw[av (ap q hn)];exact q) fun c xs q=>by rw[av (ap q hn)];exact q
end
def Rd (H:Hp)(a:Addr)(u:HO):Prop:=H a=some u\/∃ o,H a=some (.frz o u)
theorem Rd.ok {P:Program}{w:World}{H:Hp}{h:Heap}{a:Addr}{u:HO}(r:Rd H a u)(x:HOk P w H h):ObjOk P w H h a u:=by
 rcases r with r|⟨o,r⟩
 ·exact x a u r
 ·obtain⟨_,q⟩:=x a _ r
  exact q
def qK:Option HO->Prop
 |some (.lst _)=>True
 |some (.dK _)=>True
 |some (.dT _)=>True
 |some (.set _ _)=>True
 |some (.ins _ _ _)=>True
 |some (.ext _)=>True
 |_=>False
section
variable {P:Program}{w:World}{H:Hp}{h h':Heap}{x e:Addr}{o':HO}
theorem HOk.write (ok:HOk P w H h)(mu:qK (H x))(he:e=x\/H e=some (.own x))(k:∀ b u,b≠e->h.get? b=some u->h'.get? b=some u)(heo:∃ u,h'.get? e=some u)
  (new:ObjOk P w (upd H x o') h' x o'):HOk P w (upd H x o') h':=fun b u q=>by
 have nown:∀ c y,H c=some (.own y)->c≠x:=fun c y r z=>by subst z;rw[r] at mu;exact mu
 have ntup:∀ c xs,H c=some (.tup xs)->c≠x:=fun c xs r z=>by subst z;rw[r] at mu;exact mu
 by_cases hb:b=x
 ·subst hb;rw[ad] at q;cases q;exact new
 ·rw[av hb] at q
  by_cases hbe:b=e
  ·have q':H b=some (.own x):=by
    rcases he with z|z
    ·exact absurd (hbe.trans z) hb
    ·rw[hbe];exact z
   rw[q] at q';cases q'
   obtain⟨v,hv⟩:=heo
   exact⟨v,by rw[hbe];exact hv⟩
  ·refine (ok b u q).stay (fun c v hc r=>k c v ?_ r) (fun c r=>by rw[av (nown c b r)];exact r) fun c xs r=>by rw[av (ntup c xs r)];exact r
   rcases hc with rfl|hc
   ·exact hbe
   ·rintro rfl
    rcases he with z|z
    ·exact nown c b hc z
    ·rw[hc] at z;cases z;exact hb rfl
end
structure Un (fs ex:List Addr)(H H':Hp)(h h':Heap):Prop where
 keep:∀ b o,h.get? b=some o->H b=none->b∉fs->b∉ex->h'.get? b=some o
 slot:∀ b o,h.get? b=some o->H b=none->b∈fs->b∉ex->∃ sl,h'.get? b=some {o with slots:=sl}
 free:∀ b o,h.get? b=some o->H b=none->b∉ex->H' b=none
 there:∀ b o,h.get? b=some o->b∉ex->∃ o',h'.get? b=some o'
 tups:∀ b xs,H b=some (.tup xs)->H' b=some (.tup xs)
 frzs:∀ b o u,H b=some (.frz o u)->H' b=some (.frz o u)
 tbls:∀ b ps,H b=some (.tbl ps)->∃ more,H' b=some (.tbl (ps++more))
section
variable {fs fs' ex ex':List Addr}{H H1 H2:Hp}{h h1 h2 h':Heap}{a x e:Addr}{o:HO}
theorem Un.any (u:Un fs ex H H1 h h1){b:Addr}{ob:Obj}(q:h.get? b=some ob)(n:H b=none)(hx:b∉ex):∃ sl,h1.get? b=some {ob with slots:=sl}:=by
 by_cases hb:b∈fs
 ·exact u.slot b ob q n hb hx
 ·exact⟨ob.slots,u.keep b ob q n hb hx⟩
theorem Un.kept (k:∀ b u,h.get? b=some u->h'.get? b=some u):Un fs ex H H h h':=
 ⟨fun b ob q _ _ _=>k b ob q,fun b ob q _ _ _=>⟨ob.slots,k b ob q⟩,fun _ _ _ n _=>n,fun b ob q _=>⟨ob,k b ob q⟩,fun _ _ q=>q,fun _ _ _ q=>q,fun _ ps q=>⟨#[],by rw[q];simp⟩⟩
theorem Un.refl:Un fs ex H H h h:=Un.kept fun _ _ q=>q
theorem Un.laid (k:∀ b u,h.get? b=some u->h'.get? b=some u)(hp:h.objs.size<=a)(hn:H a=none):Un fs ex H (upd H a o) h h' where
 keep:=fun b u q _ _ _=>k b u q
 slot:=fun b u q _ _ _=>⟨u.slots,k b u q⟩
 free:=fun b u q n _=>by rw[av (Nat.ne_of_lt (Nat.lt_of_lt_of_le (Heap.lt_size q) hp))];exact n
 there:=fun b u q _=>⟨u,k b u q⟩
 tups:=fun b xs q=>by rw[av (ap q hn)];exact q
 frzs:=fun b u xs q=>by rw[av (ap q hn)];exact q
 tbls:=fun b ps q=>⟨#[],by rw[av (ap q hn),q];simp⟩
theorem Un.write (mu:qK (H x))(he:e=x\/H e=some (.own x))(k:∀ b u,b≠e->h.get? b=some u->h'.get? b=some u)(heo:∃ u,h'.get? e=some u):Un fs ex H (upd H x o) h h':=by
 have hx:∀ b,H b=none->b≠x:=fun b n z=>by subst z;rw[n] at mu;exact mu
 have hb:∀ b,H b=none->b≠e:=fun b n z=>by
  subst z
  rcases he with r|r
  ·exact hx b n r
  ·rw[n] at r;cases r
 have hm:∀ b u,H b=some u->¬ qK (some u)->b≠x:=fun b u q nm z=>by subst z;rw[q] at mu;exact nm mu
 refine⟨fun b u q n _ _=>k b u (hb b n) q,fun b u q n _ _=>⟨u.slots,k b u (hb b n) q⟩,fun b u q n _=>by rw[av (hx b n)];exact n,fun b u q _=>?_,
  fun b xs q=>by rw[av (hm b _ q fun z=>z)];exact q,fun b u xs q=>by rw[av (hm b _ q fun z=>z)];exact q,fun b ps q=>⟨#[],by rw[av (hm b _ q fun z=>z),q];simp⟩⟩
 by_cases hbe:b=e
 ·subst hbe;exact heo
 ·exact⟨u,k b u hbe q⟩
end
def rQ (h:Heap)(H:Hp):List Addr:=(List.range h.objs.size).filter fun a=>(H a).isSome
def gl (h:Heap)(H:Hp):Heap:=PySem.W.hideAll h (rQ h H)
theorem kl (h:Heap)(H:Hp):(gl h H).objs.size=h.objs.size:=PySem.W.hideAll_size _ _
theorem lr {h:Heap}{H:Hp}{b:Addr}{o:Obj}(e:h.get? b=some o)(n:H b=none):(gl h H).get? b=some o:=
 PySem.W.hideAll_get _ e fun hm=>by
  have q:(H b).isSome=true:=(List.mem_filter.mp hm).2
  rw[n] at q;simp at q
theorem nE {h:Heap}{H:Hp}{b:Addr}{o:Obj}(e:(gl h H).get? b=some o):h.get? b=some o/\H b=none:=by
 have e':h.get? b=some o:=PySem.W.of_hideAll (rQ h H) e
 refine⟨e',?_⟩
 cases q:H b with
 |none=>rfl
 |some x=>
  have hm:b∈rQ h H:=List.mem_filter.mpr ⟨List.mem_range.mpr (Heap.lt_size e'),by simp [q]⟩
  have z:(gl h H).get? b=none:=PySem.W.hideAll_none (rQ h H) hm
  rw[z] at e;cases e
end L2
namespace L2
open PySem PySem.Spec PyProof.Rows
structure Mod (K:PySem.W.Frag)(mg:Str->Option Value)(base:Heap):Prop where
 kin:K.In base
 glob:base.Ns mainGlobals mg
 blt:∃ mb,base.Ns builtinsNs mb/\∀ x:Str,x≠"__name__"->mb x=bootBuiltins x
 nolimit:base.NoLimit
structure Cx where
 prog:Program
 w:World
 K:PySem.W.Frag
 mg:Str->Option Value
 base:Heap
 A:Around
 N:List Str
 s₀:Shared
 H₀:Hp
 env:Env
 outer:List Env
 stack:List Env
 ex:List Addr
 fn:Str->Bool
 calm:Bool
 pn:List (Addr×Obj)
 xe:Value->Shared->Prop
def cu (l:List Env):List Addr:=l.filterMap (·.frame)
abbrev Cx.fs (X:Cx):List Addr:=cu X.outer
def r6 (sc:Scope)(x:Str):Prop:=sc.names.lookup x=some .local\/sc.names.lookup x=some .cell\/sc.names.lookup x=some .free
def qL (sc:Scope)(x:Str):Prop:=sc.names.lookup x=some .local\/sc.names.lookup x=some .cell
def r9 (env:Env)(h:Heap)(m:Str->Option Value)(x:Str)(u:Value):Prop:=
 (env.kindOf x=some .local/\m x=some u)\/((env.kindOf x=some .cell\/env.kindOf x=some .free)/\∃ c,env.cells.lookup x=some c/\h.IsCell c (some u))
structure Cx.Ok (X:Cx):Prop where
 mod:Mod X.K X.mg X.base
 kind:X.env.scope.kind=.function
 glob:X.env.globals=mainGlobals
 blt:X.env.builtins=builtinsNs
 above:X.s₀.heap.objs.size<=X.env.locals
 inj:∀ x y c,X.env.cells.lookup x=some c->X.env.cells.lookup y=some c->x=y
 has:∀ x,(X.env.kindOf x=some .cell\/X.env.kindOf x=some .free)->∃ c,X.env.cells.lookup x=some c
 cab:∀ x c,X.fn x=true->X.env.cells.lookup x=some c->X.s₀.heap.objs.size<=c
 hd:X.calm=true->X.A.handled=none
 frames:X.A.frames=some X.stack
 stk:X.stack=X.outer\/(X.stack=X.env::X.outer/\X.env.frame=some X.env.locals)
 exf:∀ b∈X.ex,b≠X.env.locals/\∀ x c,X.env.cells.lookup x=some c->c≠b
 bs:∀ b o,X.base.get? b=some o->X.s₀.heap.get? b=some o/\X.H₀ b=none
 bsz:X.base.objs.size<=X.s₀.heap.objs.size
 noex:∀ b o,X.base.get? b=some o->b∉X.ex
 exfs:∀ b∈X.ex,b∉X.fs
 funs:X.s₀.heap.FunFrames X.base X.outer
 frf:∀ b∈X.fs,X.H₀ b=none
structure Inv (X:Cx)(pins:List (Addr×Obj))(σ:List (Option V))(H:Hp)(s:Shared):Prop where
 ok:X.Ok
 os:s.os=X.s₀.os
 bare:AllBare s.gens
 base:Un X.fs X.ex X.H₀ H X.s₀.heap s.heap
 loc:∃ m,s.heap.Ns X.env.locals m/\∀ (i:Nat) (x:Str) (v:V),X.N[i]? =some x->σ[i]? =some (some v)->r6 X.env.scope x->∃ u,RelV v u/\r9 X.env s.heap m x u
 cell:∀ x c,X.env.cells.lookup x=some c->∃ v,s.heap.IsCell c v
 free:H X.env.locals=none
 freeC:∀ x c,X.env.cells.lookup x=some c->H c=none
 pin:∀ p∈X.pn++pins,s.heap.get? p.1=some p.2/\H p.1=none/\p.1≠X.env.locals/\p.1∉X.fs/\∀ v,p.2.data≠.cell v
 hok:HOk X.prog X.w H s.heap
 len:σ.length=X.N.length
section
variable {X:Cx}{pins:List (Addr×Obj)}{σ:List (Option V)}{H H':Hp}{s:Shared}{h':Heap}
theorem Cx.Ok.nofr (ok:X.Ok){b:Addr}{o:Obj}(e:X.base.get? b=some o):b∉X.fs:=fun hb=>by
 have:=(ok.funs.mem hb).1
 rw[e] at this;cases this
theorem Inv.bs (I:Inv X pins σ H s):∀ b o,X.base.get? b=some o->s.heap.get? b=some o/\H b=none:=fun b o e=>
 ⟨I.base.keep b o (I.ok.bs b o e).1 (I.ok.bs b o e).2 (I.ok.nofr e) (I.ok.noex b o e),I.base.free b o (I.ok.bs b o e).1 (I.ok.bs b o e).2 (I.ok.noex b o e)⟩
theorem Inv.bk (I:Inv X pins σ H s):∀ b o,X.base.get? b=some o->s.heap.get? b=some o:=fun b o e=>(I.bs b o e).1
theorem Inv.mod (I:Inv X pins σ H s):Mod X.K X.mg X.base:=I.ok.mod
theorem Inv.kIn (I:Inv X pins σ H s):X.K.In s.heap:=I.ok.mod.kin.keeps I.bk
theorem Inv.lt (I:Inv X pins σ H s):X.env.locals < s.heap.objs.size:=let ⟨_,hn,_⟩:=I.loc;hn.lt
theorem Inv.sz (I:Inv X pins σ H s):X.s₀.heap.objs.size<=s.heap.objs.size:=Nat.le_trans I.ok.above (Nat.le_of_lt I.lt)
theorem Inv.nofs (I:Inv X pins σ H s){a:Addr}(h:s.heap.objs.size<=a):a∉X.fs:=fun hb=>by
 obtain⟨_,o,ho,_⟩:=I.ok.funs.mem hb
 exact absurd (Nat.lt_of_lt_of_le (Heap.lt_size ho) (Nat.le_trans I.sz h)) (Nat.lt_irrefl _)
theorem Inv.cne (I:Inv X pins σ H s):∀ x c,X.env.cells.lookup x=some c->c≠X.env.locals:=fun x c e z=>by
 obtain⟨v,o,ho,hd⟩:=I.cell x c e
 obtain⟨m,⟨o',es,ep,ho',hd',_⟩,_⟩:=I.loc
 rw[z,ho'] at ho;cases ho;rw[hd'] at hd;cases hd
theorem Inv.funs (I:Inv X pins σ H s):s.heap.FunFrames X.base X.outer:=by
 have all:∀ (l:List Env),(∀ b∈cu l,b∈X.fs)->X.s₀.heap.FunFrames X.base l->s.heap.FunFrames X.base l:=by
  intro l
  induction l with
  |nil=>intro _ _;trivial
  |cons env r ih=>
   intro hs hl
   obtain⟨hk,⟨L,o,hf,hn,ho,hd⟩,hr⟩:=hl
   have hL:L∈X.fs:=hs L (by unfold cu;rw[List.filterMap_cons,hf];exact List.mem_cons_self)
   obtain⟨sl,e⟩:=I.base.slot L o ho (I.ok.frf L hL) hL fun z=>I.ok.exfs L z hL
   exact⟨hk,⟨L,_,hf,hn,e,hd⟩,ih (fun b hb=>hs b (by unfold cu;rw[List.filterMap_cons,hf];exact List.mem_cons_of_mem _ hb)) hr⟩
 exact all X.outer (fun _ hb=>hb) I.ok.funs
theorem Inv.stack (I:Inv X pins σ H s):s.heap.FunFrames X.base X.stack:=by
 rcases I.ok.stk with e|⟨e,hf⟩
 ·rw[e];exact I.funs
 ·rw[e]
  obtain⟨m,hn,_⟩:=I.loc
  refine .cons (by rw[I.ok.kind];decide) hf hn ?_ I.funs
  exact Heap.get?_none_of_le (Nat.le_trans I.ok.bsz I.ok.above)
theorem Inv.stkSub (I:Inv X pins σ H s):∀ b∈cu X.stack,b∈X.env.locals::X.fs:=fun b hb=>by
 rcases I.ok.stk with e|⟨e,hf⟩
 ·rw[e] at hb;exact List.mem_cons_of_mem _ hb
 ·rw[e] at hb
  unfold cu at hb
  rw[List.filterMap_cons,hf] at hb
  exact hb
theorem Inv.stkFree (I:Inv X pins σ H s):∀ b∈cu X.stack,H b=none:=fun b hb=>by
 rcases List.mem_cons.mp (I.stkSub b hb) with e|hb
 ·rw[e];exact I.free
 ·obtain⟨_,o,ho,_⟩:=I.ok.funs.mem hb
  exact I.base.free b o ho (I.ok.frf b hb) fun z=>I.ok.exfs b z hb
theorem Inv.step {g':Array GenState}{t':Nat}{d':Drawn}{ch:List Addr}(I:Inv X pins σ H s)
  (hch:∀ b∈ch,(b∈X.ex\/X.s₀.heap.objs.size<=b)/\b≠X.env.locals/\(∀ x c,X.env.cells.lookup x=some c->c≠b)/\∀ p∈X.pn++pins,p.1≠b)
  (keep:∀ b o,b≠X.env.locals->b∉X.fs->b∉ch->s.heap.get? b=some o->H b=none->h'.get? b=some o)
  (slot:∀ b o,b≠X.env.locals->b∈X.fs->b∉ch->s.heap.get? b=some o->H b=none->∃ sl,h'.get? b=some {o with slots:=sl}) (free:∀ b o,b∉ch->s.heap.get? b=some o->H b=none->H' b=none)
  (there:∀ b o,b∉ch->s.heap.get? b=some o->∃ o',h'.get? b=some o')
  (tups:∀ b xs,H b=some (.tup xs)->H' b=some (.tup xs)) (frzs:∀ b o u,H b=some (.frz o u)->H' b=some (.frz o u)) (tbls:∀ b ps,H b=some (.tbl ps)->∃ more,H' b=some (.tbl (ps++more)))
  (ns:∀ m,s.heap.Ns X.env.locals m->h'.Ns X.env.locals m) (hok:HOk X.prog X.w H' h') (hg:AllBare g'):
  Inv X pins σ H' {s with heap:=h',gens:=g',drawn:=d',toks:=t'}:=by
 have neL:∀ b o,X.s₀.heap.get? b=some o->b≠X.env.locals:=fun b o e=>Nat.ne_of_lt (Nat.lt_of_lt_of_le (Heap.lt_size e) I.ok.above)
 have neC:∀ b o,X.s₀.heap.get? b=some o->b∉X.ex->b∉ch:=fun b o e hx hb=>by
  rcases (hch b hb).1 with z|z
  ·exact hx z
  ·exact absurd (Nat.lt_of_lt_of_le (Heap.lt_size e) z) (Nat.lt_irrefl _)
 have cellK:∀ x c,X.env.cells.lookup x=some c->∀ v,s.heap.IsCell c v->h'.IsCell c v:=fun x c e v ⟨o,ho,hd⟩=>by
  have nch:c∉ch:=fun z=>(hch c z).2.2.1 x c e rfl
  by_cases hc:c∈X.fs
  ·obtain⟨sl,q⟩:=slot c o (I.cne x c e) hc nch ho (I.freeC x c e)
   exact⟨_,q,hd⟩
  ·exact⟨o,keep c o (I.cne x c e) hc nch ho (I.freeC x c e),hd⟩
 refine⟨I.ok,I.os,hg,⟨fun b o e n hb hx=>?_,fun b o e n hb hx=>?_,fun b o e n hx=>?_,fun b o e hx=>?_,fun b xs e=>tups b xs (I.base.tups b xs e),fun b o xs e=>frzs b o xs (I.base.frzs b o xs e),fun b ps e=>?_⟩,?_,fun x c e=>?_,?_,fun x c e=>?_,fun p hp=>?_,hok,I.len⟩
 ·exact keep b o (neL b o e) hb (neC b o e hx) (I.base.keep b o e n hb hx) (I.base.free b o e n hx)
 ·obtain⟨sl,e1⟩:=I.base.slot b o e n hb hx
  obtain⟨sl',e2⟩:=slot b _ (neL b o e) hb (neC b o e hx) e1 (I.base.free b o e n hx)
  exact⟨sl',e2⟩
 ·obtain⟨o',e1⟩:=I.base.there b o e hx
  exact free b o' (neC b o e hx) e1 (I.base.free b o e n hx)
 ·obtain⟨o',e1⟩:=I.base.there b o e hx
  exact there b o' (neC b o e hx) e1
 ·obtain⟨m1,e1⟩:=I.base.tbls b ps e
  obtain⟨m2,e2⟩:=tbls b _ e1
  exact⟨m1++m2,by rw[e2,Array.append_assoc]⟩
 ·obtain⟨m,hn,hl⟩:=I.loc
  refine⟨m,ns m hn,fun i x v e1 e2 e3=>?_⟩
  obtain⟨u,r,l⟩:=hl i x v e1 e2 e3
  refine⟨u,r,?_⟩
  rcases l with l|⟨k,c,e,z⟩
  ·exact .inl l
  ·exact .inr ⟨k,c,e,cellK x c e _ z⟩
 ·obtain⟨v,z⟩:=I.cell x c e
  exact⟨v,cellK x c e v z⟩
 ·obtain⟨m,⟨o,_,_,ho,_⟩,_⟩:=I.loc
  exact free _ o (fun z=>(hch _ z).2.1 rfl) ho I.free
 ·obtain⟨v,o,ho,hd⟩:=I.cell x c e
  exact free c o (fun z=>(hch c z).2.2.1 x c e rfl) ho (I.freeC x c e)
 ·obtain⟨e,n,ne,nf,d⟩:=I.pin p hp
  have nch:p.1∉ch:=fun z=>(hch p.1 z).2.2.2 p hp rfl
  exact⟨keep p.1 p.2 ne nf nch e n,free p.1 p.2 nch e n,ne,nf,d⟩
theorem Inv.un {t':Nat}(I:Inv X pins σ H s)(u:Un X.fs [] H H' s.heap h')(hok:HOk X.prog X.w H' h'):Inv X pins σ H' {s with heap:=h',toks:=t'}:=by
 obtain⟨m,⟨o,es,ep,ho,r⟩,_⟩:=id I.loc
 obtain⟨sl,hL⟩:=u.any ho I.free (by simp)
 exact I.step (g':=s.gens) (d':=s.drawn) (ch:=[]) (fun _ z=>nomatch z) (fun b o _ hb _ e n=>u.keep b o e n hb (by simp)) (fun b o _ hb _ e n=>u.slot b o e n hb (by simp)) (fun b o _ e n=>u.free b o e n (by simp)) (fun b o _ e=>u.there b o e (by simp)) u.tups u.frzs u.tbls (fun m' hm=>by
  obtain⟨o',es',ep',ho',r'⟩:=hm
  rw[ho] at ho';cases ho'
  exact⟨_,es',ep',hL,r'⟩) hok I.bare
theorem Inv.call {g':Array GenState}{t':Nat}{d':Drawn}{ch:List Addr}(I:Inv X pins σ H s)(u:Un (cu X.stack) ch H H' s.heap h')(hok:HOk X.prog X.w H' h')(hg:AllBare g')
  (hch:∀ b∈ch,(b∈X.ex\/X.s₀.heap.objs.size<=b)/\b≠X.env.locals/\(∀ x c,X.env.cells.lookup x=some c->c≠b)/\∀ p∈X.pn++pins,p.1≠b):
  Inv X pins σ H' {s with heap:=h',gens:=g',drawn:=d',toks:=t'}:=by
 obtain⟨m,⟨o,es,ep,ho,r⟩,_⟩:=id I.loc
 obtain⟨sl,hL⟩:=u.any ho I.free fun z=>(hch _ z).2.1 rfl
 exact I.step (ch:=ch) hch (fun b o hL hb hc e n=>u.keep b o e n (fun z=>(List.mem_cons.mp (I.stkSub b z)).elim hL hb) hc) (fun b o _ _ hc e n=>u.any e n hc) (fun b o hc e n=>u.free b o e n hc) (fun b o hc e=>u.there b o e hc) u.tups u.frzs u.tbls (fun m' hm=>by
  obtain⟨o',es',ep',ho',r'⟩:=hm
  rw[ho] at ho';cases ho'
  exact⟨_,es',ep',hL,r'⟩) hok hg
theorem Inv.turned {t':Nat}{it:Addr}(I:Inv X pins σ H s)(k:∀ b o,b≠it->s.heap.get? b=some o->h'.get? b=some o)(hn:H it=none)(hL:it≠X.env.locals)
  (h1:it∈X.ex\/X.s₀.heap.objs.size<=it) (h2:∀ x c,X.env.cells.lookup x=some c->c≠it) (h3:∀ p∈X.pn++pins,p.1≠it):Inv X pins σ H {s with heap:=h',toks:=t'}:=by
 have nit:∀ b u,H b=some u->b≠it:=fun b u e z=>by rw[z,hn] at e;cases e
 refine I.step (g':=s.gens) (d':=s.drawn) (ch:=[it]) (fun b hb=>?_) (fun b o _ _ hc e _=>k b o (fun z=>hc (by simp [z])) e) (fun b o _ _ hc e _=>⟨o.slots,k b o (fun z=>hc (by simp [z])) e⟩) (fun _ _ _ _ n=>n)
  (fun b o hc e=>⟨o,k b o (fun z=>hc (by simp [z])) e⟩) (fun _ _ e=>e) (fun _ _ _ e=>e) (fun b ps e=>⟨#[],by rw[e];simp⟩) (fun m hm=>?_) (fun b u e=>?_) I.bare
 ·have e:b=it:=by simpa using hb
  subst e
  exact⟨h1,hL,h2,h3⟩
 ·obtain⟨o,es,ep,ho,r⟩:=hm
  exact⟨o,es,ep,k _ o (Ne.symm hL) ho,r⟩
 ·refine (I.hok b u e).stay (fun c v hc q=>k c v ?_ q) (fun _ q=>q) fun _ _ q=>q
  rcases hc with z|z
  ·rw[z];exact nit b u e
  ·exact nit c _ z
theorem Inv.tok (I:Inv X pins σ H s)(t:Nat):Inv X pins σ H {s with toks:=t}:=I.un (h':=s.heap) (t':=t) Un.refl I.hok
theorem Inv.kept {t':Nat}(I:Inv X pins σ H s)(k:∀ b u,s.heap.get? b=some u->h'.get? b=some u):Inv X pins σ H {s with heap:=h',toks:=t'}:=I.un (Un.kept k) (I.hok.kept k)
theorem Inv.laid {a:Addr}{o:HO}{t':Nat}(I:Inv X pins σ H s)(k:∀ b u,s.heap.get? b=some u->h'.get? b=some u)(hp:s.heap.objs.size<=a)(new:ObjOk X.prog X.w (upd H a o) h' a o):
  Inv X pins σ (upd H a o) {s with heap:=h',toks:=t'}:=I.un (Un.laid k hp (I.hok.fresh hp)) (I.hok.laid k hp new)
theorem Inv.write {x e:Addr}{o:HO}{t':Nat}(I:Inv X pins σ H s)(mu:qK (H x))(he:e=x\/H e=some (.own x))(k:∀ b u,b≠e->s.heap.get? b=some u->h'.get? b=some u)(heo:∃ u,h'.get? e=some u)
  (new:ObjOk X.prog X.w (upd H x o) h' x o):Inv X pins σ (upd H x o) {s with heap:=h',toks:=t'}:=I.un (Un.write mu he k heo) (I.hok.write mu he k heo new)
theorem Inv.pins_of {pins':List (Addr×Obj)}(I:Inv X pins σ H s)(h:∀ p∈pins',s.heap.get? p.1=some p.2/\H p.1=none/\p.1≠X.env.locals/\p.1∉X.fs/\∀ v,p.2.data≠.cell v):Inv X pins' σ H s:=
 ⟨I.ok,I.os,I.bare,I.base,I.loc,I.cell,I.free,I.freeC,fun p hp=>(List.mem_append.mp hp).elim (fun z=>I.pin p (List.mem_append_left _ z)) (h p),I.hok,I.len⟩
theorem eV {N:List Str}(hN:N.Nodup){i j:Nat}{x:Str}(a:N[i]? =some x) (b:N[j]? =some x):i=j:=by
 obtain⟨h1,e1⟩:=List.getElem?_eq_some_iff.mp a
 obtain⟨h2,e2⟩:=List.getElem?_eq_some_iff.mp b
 exact (List.getElem_inj hN).mp (e1.trans e2.symm)
theorem fR {M:Model}{A:Around}{E:Value->Shared->Prop}{i:Nat}{x:Str}{v:V}{u:Value}{Q:Unit->Shared->Prop}(I:Inv X pins σ H s)(hN:X.N.Nodup)(hi:X.N[i]? =some x) (hx:qL X.env.scope x) (r:RelV v u)
  (h:∀ s',Inv X pins (σ.set i (some v)) H s'->(∃ a,Heap.SameBut a s.heap s'.heap/\(a=X.env.locals\/X.env.cells.lookup x=some a))->Q () s') (hf:X.fn x=true\/X.env.scope.names.lookup x=some .local:=by first|exact .inl rfl|exact .inr rfl|assumption):wpAny M A (storeName X.env x u) Q E s:=by
 obtain⟨m,hn,hl⟩:=id I.loc
 have hcls:(X.env.scope.kind == .class || (X.env.scope.kind == .module&&X.env.locals != X.env.globals))=false:=by rw[I.ok.kind];rfl
 have hiσ:i < σ.length:=by rw[I.len];exact (List.getElem?_eq_some_iff.mp hi).1
 have cne:=I.cne
 have tracked:∀ {a:Addr} {h':Heap},(∃ o,s.heap.get? a=some o/\H a=none)->Heap.SameBut a s.heap h'->HOk X.prog X.w H h':=fun {a h'} ha hs b ob e=>by
  obtain⟨_,_,hfree⟩:=ha
  refine (I.hok b ob e).stay (fun c w' hc q=>(hs.2 c ?_).trans q) (fun _ q=>q) fun _ _ q=>q
  rintro rfl
  rcases hc with rfl|hc
  ·rw[hfree] at e;cases e
  ·rw[hfree] at hc;cases hc
 rcases hx with hk|hk
 ·refine wpAny_storeName_local hk hn (fun h' hn' hs=>?_) hcls
  obtain⟨oL,_,_,hoL,_⟩:=id hn
  refine h _ ⟨I.ok,I.os,I.bare,⟨fun b o e n hb hx=>?_,fun b o e n hb hx=>?_,I.base.free,fun b o e hx=>?_,I.base.tups,I.base.frzs,I.base.tbls⟩,⟨_,hn',fun j y v' e1 e2 e3=>?_⟩,fun y c e=>?_,I.free,I.freeC,fun p hp=>?_,tracked ⟨oL,hoL,I.free⟩ hs,by simpa using I.len⟩ ⟨_,hs,.inl rfl⟩
  ·exact (hs.2 b (Nat.ne_of_lt (Nat.lt_of_lt_of_le (Heap.lt_size e) I.ok.above))).trans (I.base.keep b o e n hb hx)
  ·obtain⟨sl,e1⟩:=I.base.slot b o e n hb hx
   exact⟨sl,(hs.2 b (Nat.ne_of_lt (Nat.lt_of_lt_of_le (Heap.lt_size e) I.ok.above))).trans e1⟩
  ·obtain⟨o',e1⟩:=I.base.there b o e hx
   exact⟨o',(hs.2 b (Nat.ne_of_lt (Nat.lt_of_lt_of_le (Heap.lt_size e) I.ok.above))).trans e1⟩
  ·by_cases hj:j=i
   ·subst hj
    rw[hi] at e1;cases e1
    rw[List.getElem?_set_self hiσ] at e2
    cases e2
    exact⟨u,r,.inl ⟨hk,by simp⟩⟩
   ·rw[List.getElem?_set_ne (Ne.symm hj)] at e2
    obtain⟨u',r',q⟩:=hl j y v' e1 e2 e3
    refine⟨u',r',?_⟩
    rcases q with⟨k,e⟩|⟨k,c,e,z⟩
    ·refine .inl ⟨k,?_⟩
     have:y≠x:=fun e=>hj (eV hN e1 (e▸hi))
     simp [this,e]
    ·exact .inr ⟨k,c,e,z.sameBut hs (cne y c e)⟩
  ·obtain⟨w',z⟩:=I.cell y c e
   exact⟨w',z.sameBut hs (cne y c e)⟩
  ·obtain⟨e,n,ne,nf,d⟩:=I.pin p hp
   exact⟨(hs.2 p.1 ne).trans e,n,ne,nf,d⟩
 ·have hfn:X.fn x=true:=by
   rcases hf with z|z
   ·exact z
   ·rw[z] at hk;cases hk
  obtain⟨c,hc⟩:=I.ok.has x (.inl hk)
  obtain⟨w',z⟩:=I.cell x c hc
  refine wpAny_storeName_cell I.ok.kind hk hc z (fun h' hc' hs=>?_)
  obtain⟨oc,hoc,hocd⟩:=id z
  refine h {s with heap:=h'} ⟨I.ok,I.os,I.bare,⟨fun b o e n hb hx=>?_,fun b o e n hb hx=>?_,I.base.free,fun b o e hx=>?_,I.base.tups,I.base.frzs,I.base.tbls⟩,⟨m,hn.sameBut hs (Ne.symm (cne x c hc)),fun j y v' e1 e2 e3=>?_⟩,fun y c' e=>?_,I.free,I.freeC,fun p hp=>?_,tracked ⟨oc,hoc,I.freeC x c hc⟩ hs,by simpa using I.len⟩ ⟨c,hs,.inr hc⟩
  ·exact (hs.2 b (Nat.ne_of_lt (Nat.lt_of_lt_of_le (Heap.lt_size e) (I.ok.cab x c hfn hc)))).trans (I.base.keep b o e n hb hx)
  ·obtain⟨sl,e1⟩:=I.base.slot b o e n hb hx
   exact⟨sl,(hs.2 b (Nat.ne_of_lt (Nat.lt_of_lt_of_le (Heap.lt_size e) (I.ok.cab x c hfn hc)))).trans e1⟩
  ·obtain⟨o',e1⟩:=I.base.there b o e hx
   exact⟨o',(hs.2 b (Nat.ne_of_lt (Nat.lt_of_lt_of_le (Heap.lt_size e) (I.ok.cab x c hfn hc)))).trans e1⟩
  ·by_cases hj:j=i
   ·subst hj
    rw[hi] at e1;cases e1
    rw[List.getElem?_set_self hiσ] at e2
    cases e2
    exact⟨u,r,.inr ⟨.inl hk,c,hc,hc'⟩⟩
   ·rw[List.getElem?_set_ne (Ne.symm hj)] at e2
    obtain⟨u',r',q⟩:=hl j y v' e1 e2 e3
    refine⟨u',r',?_⟩
    rcases q with q|⟨k,c',e,z'⟩
    ·exact .inl q
    ·refine .inr ⟨k,c',e,z'.sameBut hs ?_⟩
     rintro rfl
     exact hj (eV hN e1 (I.ok.inj _ _ _ e hc▸hi))
  ·by_cases hcc:c'=c
   ·subst hcc;exact⟨_,hc'⟩
   ·obtain⟨w2,z2⟩:=I.cell y c' e
    exact⟨w2,z2.sameBut hs hcc⟩
  ·obtain⟨e,n,ne,nf,d⟩:=I.pin p hp
   refine⟨(hs.2 p.1 ?_).trans e,n,ne,nf,d⟩
   intro q
   rw[q,hoc] at e
   have q':oc=p.2:=Option.some.inj e
   exact d w' (by rw[← q'];exact hocd)
theorem df {M:Model}{A:Around}{E:Value->Shared->Prop}{i:Nat}{x:Str}{v:V}{u:Value}{Q:Unit->Shared->Prop}(I:Inv X pins σ H s)(hN:X.N.Nodup)(hi:X.N[i]? =some x) (hx:qL X.env.scope x) (r:RelV v u)
  (h:∀ s',Inv X pins (σ.set i (some v)) H s'->Q () s') (hf:X.fn x=true\/X.env.scope.names.lookup x=some .local:=by first|exact .inl rfl|exact .inr rfl|assumption):wpAny M A (storeName X.env x u) Q E s:=
 fR I hN hi hx r (fun s' I' _=>h s' I') hf
theorem Inv.call' {s':Shared}{ch:List Addr}(I:Inv X pins σ H s)(ho:s'.os=s.os)(u:Un (cu X.stack) ch H H' s.heap s'.heap)(hok:HOk X.prog X.w H' s'.heap)(hg:AllBare s'.gens)
  (hch:∀ b∈ch,(b∈X.ex\/X.s₀.heap.objs.size<=b)/\b≠X.env.locals/\(∀ x c,X.env.cells.lookup x=some c->c≠b)/\∀ p∈X.pn++pins,p.1≠b):Inv X pins σ H' s':=by
 obtain⟨h',g',d',t',o'⟩:=s'
 have e:o'=s.os:=ho
 subst e
 exact I.call (g':=g') (t':=t') (d':=d') u hok hg hch
end
abbrev XK:=Value->Option Addr->Hp->Prop
abbrev St:=List (Option V)
abbrev VK:=V->Hp->Prop
abbrev TE:=St->Hp->VK->Prop
abbrev TT:=St->Hp->(Bool->Hp->Prop)->Prop
abbrev TA:=St->Hp->(List V->Hp->Prop)->Prop
structure cU where
 nx:St->Hp->Prop
 rt:VK
 bk:St->Hp->Prop:=fun _ _=>False
 ct:St->Hp->Prop:=fun _ _=>False
abbrev TS:=cU->St->Hp->Prop
def EP (X:Cx)(pins:List (Addr×Obj))(σ:St)(Q:VK)(u:Value)(s':Shared):Prop:=∃ v H',Inv X pins σ H' s'/\RelV v u/\Q v H'
def TP (X:Cx)(pins:List (Addr×Obj))(σ:St)(Q:Bool->Hp->Prop)(b:Bool)(s':Shared):Prop:=∃ H',Inv X pins σ H' s'/\Q b H'
def AP (X:Cx)(pins:List (Addr×Obj))(σ:St)(Q:List V->Hp->Prop)(us:List Value)(s':Shared):Prop:=∃ vs H',Inv X pins σ H' s'/\Vals vs us/\Q vs H'
def SP (X:Cx)(pins:List (Addr×Obj))(D:cU)(f:Flow)(s':Shared):Prop:=
 match f with
 |.next=>∃ σ' H',Inv X pins σ' H' s'/\D.nx σ' H'
 |.brk=>∃ σ' H',Inv X pins σ' H' s'/\D.bk σ' H'
 |.cont=>∃ σ' H',Inv X pins σ' H' s'/\D.ct σ' H'
 |.ret u=>∃ v σ' H',Inv X pins σ' H' s'/\RelV v u/\D.rt v H'
def PE (X:Cx)(e:Expr)(t:TE):Prop:=
 ∀ (pins:List (Addr×Obj)) (s:Shared) (σ:St) (H:Hp) (Q:VK),Inv X pins σ H s->t σ H Q->wpAny (model X.prog X.w) X.A (eval e X.env) (EP X pins σ Q) X.xe s
def PT (X:Cx)(e:Expr)(t:TT):Prop:=
 ∀ (pins:List (Addr×Obj)) (s:Shared) (σ:St) (H:Hp) (Q:Bool->Hp->Prop),Inv X pins σ H s->t σ H Q->wpAny (model X.prog X.w) X.A (isTrue e X.env (eval e X.env)) (TP X pins σ Q) X.xe s
def PW (X:Cx)(e:Expr)(t:TT):Prop:=
 ∀ (whole:Sem Value) (pins:List (Addr×Obj)) (s:Shared) (σ:St) (H:Hp) (Q:Bool->Hp->Prop),Inv X pins σ H s->t σ H Q->wpAny (model X.prog X.w) X.A (isTrue e X.env whole) (TP X pins σ Q) X.xe s
theorem PW.pt {X:Cx}{e:Expr}{t:TT}(h:PW X e t):PT X e t:=h _
def PA (X:Cx)(es:List Expr)(t:TA):Prop:=
 ∀ (pos:Pos) (pins:List (Addr×Obj)) (s:Shared) (σ:St) (H:Hp) (Q:List V->Hp->Prop),Inv X pins σ H s->t σ H Q->wpAny (model X.prog X.w) X.A (spliced (backTo pos (starEach es X.env))) (AP X pins σ Q) X.xe s
def PS (X:Cx)(st:Stmt)(t:TS):Prop:=
 ∀ (pins:List (Addr×Obj)) (s:Shared) (σ:St) (H:Hp) (D:cU),Inv X pins σ H s->t D σ H->wpAny (model X.prog X.w) X.A (exec st X.env) (SP X pins D) X.xe s
def PSs (X:Cx)(st:List Stmt)(t:TS):Prop:=
 ∀ (pins:List (Addr×Obj)) (s:Shared) (σ:St) (H:Hp) (D:cU),Inv X pins σ H s->t D σ H->wpAny (model X.prog X.w) X.A (execs st X.env) (SP X pins D) X.xe s
theorem aX {α:Type}{t:Sem α}{Q Q':α->Shared->Prop}{M:Model}{A:Around}{E:Value->Shared->Prop}{s:Shared}(h:wpAny M A t Q E s)(hQ:∀ a s,Q a s->Q' a s):wpAny M A t Q' E s:=wpAny_mono h hQ fun _ _ x=>x
end L2
namespace L2
open PySem PySem.Spec PyProof.Rows
section
variable {X:Cx}
inductive oQ (i:Nat)(σ:St)(H:Hp)(Q:VK):Prop
 |mk (v:V)(h:σ[i]? =some (some v)) (q:Q v H):oQ i σ H Q
def bB (i:Nat):TE:=fun σ H Q=>oQ i σ H Q
def tC (v:V):TE:=fun _ H Q=>Q v H
theorem pw {i:Nat}{x:Str}{pos:Pos}(hN:X.N[i]? =some x) (hv:r6 X.env.scope x) (hd:(x == ("__debug__":Str))=false:=by decide) (hcd:(x == ("__classdict__":Str))=false:=by decide):PE X (.Name x pos) (bB i):=by
 intro pins s σ H Q I h
 obtain⟨v,e,h⟩:=h
 obtain⟨m,hn,hl⟩:=I.loc
 obtain⟨u,r,l⟩:=hl i x v hN e hv
 have fin:EP X pins σ Q u s:=⟨v,H,I,r,h⟩
 rcases l with⟨hk,hm⟩|⟨hk,c,hc,hcell⟩
 ·exact wpAny_Name (wpAny_loadName_local I.ok.kind hk hn hm fin) hd
 ·rcases hk with hk|hk
  ·exact wpAny_Name (wpAny_loadName_cell I.ok.kind hk hc hcell fin) hd
  ·exact wpAny_Name (wpAny_loadName_free I.ok.kind hk hc hcell fin hcd) hd
theorem af {i j pos}:PE X (.Constant (.int i) j pos) (tC (.int i)):=fun _ _ _ H _ I h=>wpAny_Constant_int ⟨.int i,H,I.tok _,⟨_,rfl⟩,h⟩
theorem cm {b j pos}:PE X (.Constant (.bool b) j pos) (tC (.bl b)):=fun _ _ _ H _ I h=>Constant_bool ⟨.bl b,H,I,rfl,h⟩
theorem cw {j pos}:PE X (.Constant .none j pos) (tC .non):=fun _ _ _ H _ I h=>Constant_none ⟨.non,H,I,rfl,h⟩
theorem am {x j pos}:PE X (.Constant (.str x) j pos) (tC (.str x)):=fun _ _ _ H _ I h=>Calls.Constant_str ⟨.str x,H,I.tok _,⟨_,rfl⟩,h⟩
def Gl (X:Cx)(x:Str):Prop:=X.env.kindOf x=some .globalImplicit
theorem dg {E:Value->Shared->Prop}{pins:List (Addr×Obj)}{s:Shared}{σ:St}{H:Hp}{x:Str}{u:Value}{pos:Pos}{Q:Value->Shared->Prop}(I:Inv X pins σ H s)(hg:Gl X x)(hm:X.mg x=some u)(h:Q u s)
  (hd:(x == ("__debug__":Str))=false:=by decide):wpAny (model X.prog X.w) X.A (eval (.Name x pos) X.env) Q E s:=
 Calls.Name_function_global I.ok.kind hg (Calls.loadGlobal_global (by rw[I.ok.glob];exact I.mod.glob.keeps I.bk) hm h) hd
theorem gm {E:Value->Shared->Prop}{pins:List (Addr×Obj)}{s:Shared}{σ:St}{H:Hp}{x:Str}{u:Value}{pos:Pos}{Q:Value->Shared->Prop}(I:Inv X pins σ H s)(hg:Gl X x)(hm:X.mg x=none)(hv:bootBuiltins x=some u)(h:Q u s)
  (hn:x≠"__name__":=by decide) (hd:(x == ("__debug__":Str))=false:=by decide):wpAny (model X.prog X.w) X.A (eval (.Name x pos) X.env) Q E s:=by
 obtain⟨mb,h1,h2⟩:=I.mod.blt
 exact Calls.Name_function_global I.ok.kind hg (Calls.loadGlobal_builtin (by rw[I.ok.glob];exact I.mod.glob.keeps I.bk) hm (by rw[I.ok.blt];exact h1.keeps I.bk) ((h2 x hn).trans hv) h) hd
theorem nF {x:Str}{v:V}{u:Value}{pos:Pos}(hg:Gl X x)(hm:X.mg x=some u)(r:RelV v u)(hd:(x == ("__debug__":Str))=false:=by decide):PE X (.Name x pos) (tC v):=
 fun _ _ _ H _ I h=>dg I hg hm ⟨v,H,I,r,h⟩ hd
theorem bf {x:Str}{v:V}{u:Value}{pos:Pos}(hg:Gl X x)(hm:X.mg x=none)(hv:bootBuiltins x=some u)(r:RelV v u)(hn:x≠"__name__":=by decide)(hd:(x == ("__debug__":Str))=false:=by decide):PE X (.Name x pos) (tC v):=
 fun _ _ _ H _ I h=>gm I hg hm hv ⟨v,H,I,r,h⟩ hn hd
variable {a b:Expr}{ta tb:TE}{pos:Pos}
inductive px (x:V)(Q:Bool->Hp->Prop)(H:Hp):Prop
 |mk (c:Bool)(h:x=.bl c)(q:Q c H):px x Q H
def tB (t:TE):TT:=fun σ H Q=>t σ H fun x H1=>px x Q H1
theorem aZ {e:Expr}{t:TE}(h:PE X e t)(he:∀ whole,isTrue e X.env whole=(do let v ← whole;standAt e.pos;holding [v] (truthy v)):=by intro _;rfl):PT X e (tB t):=by
 intro pins s σ H Q I hw
 refine isTrue_plain (aX (h pins s σ H _ I hw) fun v s1 ⟨x,H1,I1,r1,q1⟩=>?_) (he _)
 obtain⟨d,rfl,q⟩:=q1
 cases r1
 exact wpAny_truthy_bool ⟨H1,I1,q⟩
variable {tA tB':TT}{rest:List Expr}
def qM (t u:TT):TT:=fun σ H Q=>t σ H fun c H1=>if c=true then u σ H1 Q else Q false H1
def sP (t u:TT):TT:=fun σ H Q=>t σ H fun c H1=>if c=true then Q true H1 else u σ H1 Q
def r_ (t:TT):TT:=fun σ H Q=>t σ H fun c H1=>Q (!c) H1
theorem eJ (ha:PT X a tA):PW X (.BoolOp .And [a] pos) tA:=by
 intro wh pins s σ H Q I h
 refine isTrue_and (aX (ha pins s σ H Q I h) fun c s1 e=>?_)
 cases c with
 |true=>exact isTrue_and_nil e
 |false=>exact e
theorem br (ha:PT X a tA):PW X (.BoolOp .Or [a] pos) tA:=by
 intro wh pins s σ H Q I h
 refine isTrue_or (aX (ha pins s σ H Q I h) fun c s1 e=>?_)
 cases c with
 |false=>exact isTrue_or_nil e
 |true=>exact e
theorem gn (ha:PT X a tA)(hb:PW X (.BoolOp .And (b::rest) pos) tB'):PW X (.BoolOp .And (a::b::rest) pos) (qM tA tB'):=by
 intro wh pins s σ H Q I h
 refine isTrue_and (aX (ha pins s σ H _ I h) fun c s1 ⟨H1,I1,q1⟩=>?_)
 cases c with
 |true=>exact hb wh pins s1 σ H1 Q I1 q1
 |false=>exact⟨H1,I1,q1⟩
theorem bD (ha:PT X a tA)(hb:PW X (.BoolOp .Or (b::rest) pos) tB'):PW X (.BoolOp .Or (a::b::rest) pos) (sP tA tB'):=by
 intro wh pins s σ H Q I h
 refine isTrue_or (aX (ha pins s σ H _ I h) fun c s1 ⟨H1,I1,q1⟩=>?_)
 cases c with
 |true=>exact⟨H1,I1,q1⟩
 |false=>exact hb wh pins s1 σ H1 Q I1 q1
theorem a_ (ha:PT X a tA):PT X (.UnaryOp .Not a pos) (r_ tA):=by
 intro pins s σ H Q I h
 exact isTrue_not (ha pins s σ H (fun c H1=>Q (!c) H1) I h)
def qN (ta tb:TE):TE:=fun σ H Q=>ta σ H fun x H1=>∃ c,x=.bl c/\if c=true then tb σ H1 Q else Q (.bl false) H1
def qO (ta:TE):TE:=fun σ H Q=>ta σ H fun x H1=>∃ c,x=.bl c/\Q (.bl (!c)) H1
theorem iI {op}{t:TE}(h:PE X a t):PE X (.BoolOp op [a] pos) t:=fun pins s σ H Q I hw=>BoolOp_one (h pins s σ H Q I hw)
theorem iJ (ha:PE X a ta)(hb:PE X (.BoolOp .And (b::rest) pos) tb):PE X (.BoolOp .And (a::b::rest) pos) (qN ta tb):=by
 intro pins s σ H Q I h
 refine BoolOp_and (aX (ha pins s σ H _ I h) fun v s1 ⟨x,H1,I1,r1,q1⟩=>?_)
 obtain⟨c,rfl,q1⟩:=q1
 cases r1
 refine wpAny_truthy_bool ?_
 cases c with
 |true=>exact hb pins s1 σ H1 Q I1 q1
 |false=>exact⟨.bl false,H1,I1,rfl,q1⟩
theorem lu (ha:PE X a ta):PE X (.UnaryOp .Not a pos) (qO ta):=by
 intro pins s σ H Q I h
 refine UnaryOp_ (aX (ha pins s σ H _ I h) fun v s1 ⟨x,H1,I1,r1,q1⟩=>?_)
 obtain⟨c,rfl,q1⟩:=q1
 cases r1
 exact not_of (wpAny_truthy_bool ⟨.bl (!c),H1,I1,rfl,q1⟩)
def tm (t:TT)(ta tb:TE):TE:=fun σ H Q=>t σ H fun c H1=>if c=true then ta σ H1 Q else tb σ H1 Q
theorem eX {c:Expr}(hc:PT X c tA)(ha:PE X a ta)(hb:PE X b tb):PE X (.IfExp c a b pos) (tm tA ta tb):=by
 intro pins s σ H Q I h
 refine wpAny_IfExp (aX (hc pins s σ H _ I h) fun d s1 ⟨H1,I1,q1⟩=>?_)
 cases d with
 |true=>exact ha pins s1 σ H1 Q I1 q1
 |false=>exact hb pins s1 σ H1 Q I1 q1
end
end L2
namespace L2
open PySem PySem.Spec PyProof.Rows
def SqL (K:PySem.W.Frag)(H:Hp)(a:Addr)(xs:List V):Prop:=
 Rd H a (.lst xs)\/
  ∃ (o:Obj) (its:Array Value) (n:Nat),K.lookup a=some o/\o.cls=.type "list"/\o.dict=none/\o.data=.seq its n/\its.size<=sizeLine/\Vals xs its.toList
def SqT (K:PySem.W.Frag)(H:Hp)(a:Addr)(xs:List V):Prop:=
 Rd H a (.tup xs)\/
  ∃ (o:Obj) (its:Array Value) (n:Nat),K.lookup a=some o/\o.cls=.type "tuple"/\o.data=.seq its n/\its.size<=sizeLine/\Vals xs its.toList
def sd:Value->Option V
 |.none=>some .non
 |.bool b=>some (.bl b)
 |.int i _=>some (.int i)
 |.str x _=>some (.str x)
 |.bytes b _=>some (.byt b)
 |.float b _=>some (.flt b)
 |.ref a=>some (.ref a)
 |.type n=>some (.ty n)
 |_=>none
theorem RelV.abs {x:V}{u:Value}(r:RelV x u):sd u=some x:=by
 cases x with
 |non=>cases r;rfl
 |bl _=>cases r;rfl
 |int _=>obtain⟨t,rfl⟩:=r;rfl
 |str _=>obtain⟨t,rfl⟩:=r;rfl
 |byt _=>obtain⟨t,rfl⟩:=r;rfl
 |flt _=>obtain⟨t,rfl⟩:=r;rfl
 |ref _=>cases r;rfl
 |ty _=>cases r;rfl
theorem RelV.inj {x y:V}{u:Value}(r:RelV x u)(q:RelV y u):x=y:=Option.some.inj (r.abs.symm.trans q.abs)
theorem Vals.inj:∀ {xs ys:List V} {us:List Value},Vals xs us->Vals ys us->xs=ys
 |_,_,_,.nil,.nil=>rfl
 |_,_,_,.cons r t,.cons r' t'=>by rw[r.inj r',Vals.inj t t']
section
variable {X:Cx}{pins:List (Addr×Obj)}{σ:St}{H:Hp}{s:Shared}{a:Addr}{xs ys:List V}
theorem SqL.of {K:PySem.W.Frag}(h:H a=some (.lst xs)):SqL K H a xs:=.inl (.inl h)
theorem SqT.of {K:PySem.W.Frag}(h:H a=some (.tup xs)):SqT K H a xs:=.inl (.inl h)
theorem Inv.list (I:Inv X pins σ H s)(h:SqL X.K H a xs):∃ its:List Value,Vals xs its/\PlainL s.heap a its.toArray/\xs.length<=sizeLine:=by
 rcases h with h|⟨o,its,n,hk,hc,hd,hs,hz,r⟩
 ·obtain⟨z,its,n,r,e⟩:=h.ok I.hok
  exact⟨its,r,⟨_,n,e,rfl,rfl,rfl⟩,z⟩
 ·refine⟨its.toList,r,⟨o,n,I.kIn a o hk,hc,hd,by simpa using hs⟩,?_⟩
  have e:=r.length
  simp only [Array.length_toList] at e
  omega
theorem Inv.tuple (I:Inv X pins σ H s)(h:SqT X.K H a xs):∃ its:List Value,Vals xs its/\IsTup s.heap a its.toArray/\xs.length<=sizeLine:=by
 rcases h with h|⟨o,its,n,hk,hc,hs,hz,r⟩
 ·obtain⟨z,its,r,p⟩:=h.ok I.hok
  exact⟨its,r,p,z⟩
 ·refine⟨its.toList,r,⟨o,I.kIn a o hk,hc,n,by simpa using hs⟩,?_⟩
  have e:=r.length
  simp only [Array.length_toList] at e
  omega
theorem Inv.list_inj (I:Inv X pins σ H s)(h:SqL X.K H a xs)(h':SqL X.K H a ys):xs=ys:=by
 obtain⟨its,r,⟨o,n,e,_,_,d⟩,_⟩:=I.list h
 obtain⟨its',r',⟨o',n',e',_,_,d'⟩,_⟩:=I.list h'
 rw[e] at e';cases e'
 rw[d] at d'
 injection d' with d1 _
 have:its=its':=by simpa using congrArg Array.toList d1
 subst this
 exact r.inj r'
theorem Inv.tuple_inj (I:Inv X pins σ H s)(h:SqT X.K H a xs)(h':SqT X.K H a ys):xs=ys:=by
 obtain⟨its,r,⟨o,e,_,n,d⟩,_⟩:=I.tuple h
 obtain⟨its',r',⟨o',e',_,n',d'⟩,_⟩:=I.tuple h'
 rw[e] at e';cases e'
 rw[d] at d'
 injection d' with d1 _
 have:its=its':=by simpa using congrArg Array.toList d1
 subst this
 exact r.inj r'
end
abbrev Cx.wish (X:Cx)(E:Value->Shared->Prop):Cx:={X with xe:=E}
abbrev Cx.nox (X:Cx):Cx:=X.wish fun _ _=>False
theorem Cx.Ok.wish {X:Cx}(ok:X.Ok)(E:Value->Shared->Prop):(X.wish E).Ok:=
 ⟨ok.mod,ok.kind,ok.glob,ok.blt,ok.above,ok.inj,ok.has,ok.cab,ok.hd,ok.frames,ok.stk,ok.exf,ok.bs,ok.bsz,ok.noex,ok.exfs,ok.funs,ok.frf⟩
theorem Cx.Ok.unwish {X:Cx}{E:Value->Shared->Prop}(ok:(X.wish E).Ok):X.Ok:=
 ⟨ok.mod,ok.kind,ok.glob,ok.blt,ok.above,ok.inj,ok.has,ok.cab,ok.hd,ok.frames,ok.stk,ok.exf,ok.bs,ok.bsz,ok.noex,ok.exfs,ok.funs,ok.frf⟩
section
variable {X:Cx}{pins:List (Addr×Obj)}{σ:St}{H:Hp}{s:Shared}{E:Value->Shared->Prop}
theorem Inv.wish (I:Inv X pins σ H s)(E:Value->Shared->Prop):Inv (X.wish E) pins σ H s:=⟨I.ok.wish E,I.os,I.bare,I.base,I.loc,I.cell,I.free,I.freeC,I.pin,I.hok,I.len⟩
theorem Inv.unwish (I:Inv (X.wish E) pins σ H s):Inv X pins σ H s:=⟨I.ok.unwish,I.os,I.bare,I.base,I.loc,I.cell,I.free,I.freeC,I.pin,I.hok,I.len⟩
theorem SP.unwish {D:cU}{f:Flow}{s':Shared}(h:SP (X.wish E) pins D f s'):SP X pins D f s':=by
 cases f with
 |next=>obtain⟨σ',H',I,q⟩:=h;exact⟨σ',H',I.unwish,q⟩
 |brk=>obtain⟨σ',H',I,q⟩:=h;exact⟨σ',H',I.unwish,q⟩
 |cont=>obtain⟨σ',H',I,q⟩:=h;exact⟨σ',H',I.unwish,q⟩
 |ret u=>obtain⟨v,σ',H',I,r,q⟩:=h;exact⟨v,σ',H',I.unwish,r,q⟩
theorem PSs.nox {st:List Stmt}{t:TS}(h:PSs X.nox st t):PSs X st t:=fun pins s σ H D I hw=>
 wpAny_mono (h pins s σ H D (I.wish _) hw) (fun _ _ q=>q.unwish) fun _ _ z=>False.elim z
end
section
variable {X:Cx}{st:Stmt}{rest:List Stmt}{t u:TS}{e:Expr}{te:TE}{pos:Pos}
def eY:TS:=fun D σ H=>D.nx σ H
def lw (t u:TS):TS:=fun D σ H=>t {D with nx:=u D} σ H
theorem aq:PSs X [] eY:=fun _ _ σ H _ I h=>wpAny_execs_nil ⟨σ,H,I,h⟩
theorem ae (h1:PS X st t)(h2:PSs X rest u):PSs X (st::rest) (lw t u):=by
 intro pins s σ H D I h
 refine wpAny_execs_cons (aX (h1 pins s σ H {D with nx:=u D} I h) fun f s1 q=>?_)
 cases f with
 |next=>
  obtain⟨σ',H',I',q⟩:=q
  exact h2 pins s1 σ' H' D I' q
 |ret v=>exact q
 |brk=>exact q
 |cont=>exact q
theorem ag (h1:PS X st t):PSs X [st] t:=by
 intro pins s σ H D I h
 refine wpAny_execs_cons (aX (h1 pins s σ H D I h) fun f s1 q=>?_)
 cases f with
 |next=>exact wpAny_execs_nil q
 |ret v=>exact q
 |brk=>exact q
 |cont=>exact q
theorem Inv.quiet {pins:List (Addr×Obj)}{σ:St}{H:Hp}{s:Shared}(I:Inv X pins σ H s):interactive X.env=false:=by simp [interactive,I.ok.kind]
def lx (te:TE):TS:=fun D σ H=>te σ H fun _ H1=>D.nx σ H1
theorem cf (he:PE X e te)(hs:swapsWith e none pos.line X.env=pure false:=by rfl):PS X (.Expr e pos) (lx te):=by
 intro pins s σ H D I h
 exact wpAny_Expr_any (aX (he pins s σ H _ I h) fun v s1 ⟨x,H1,I1,r1,q1⟩=>⟨σ,H1,I1,q1⟩) I.quiet hs
def py (te:TE):TS:=fun D σ H=>te σ H D.rt
theorem au (he:PE X e te):PS X (.Return (some e) pos) (py te):=by
 intro pins s σ H D I h
 exact wpAny_Return_some (aX (he pins s σ H _ I h) fun v s1 ⟨x,H1,I1,r1,q1⟩=>⟨x,σ,H1,I1,r1,q1⟩)
def kn (c:TT)(t u:TS):TS:=fun D σ H=>c σ H fun b H1=>if b=true then t D σ H1 else u D σ H1
theorem aD {c:Expr}{a b:List Stmt}{tc:TT}(hc:PT X c tc)(ha:PSs X a t)(hb:PSs X b u):PS X (.If c a b pos) (kn tc t u):=by
 intro pins s σ H D I h
 refine wpAny_If (aX (hc pins s σ H _ I h) fun d s1 ⟨H1,I1,q1⟩=>?_)
 cases d with
 |true=>exact ha pins s1 σ H1 D I1 q1
 |false=>exact hb pins s1 σ H1 D I1 q1
end
abbrev TG:=V->St->Hp->(St->Hp->Prop)->Prop
abbrev nG:=List V->St->Hp->(St->Hp->Prop)->Prop
def PG (X:Cx)(target:Expr)(t:TG):Prop:=
 ∀ (pins:List (Addr×Obj)) (s:Shared) (σ:St) (H:Hp) (v:V) (u:Value) (Q:St->Hp->Prop),Inv X pins σ H s->RelV v u->t v σ H Q->
  wpAny (model X.prog X.w) X.A (assign target X.env u) (fun _ s'=>∃ σ' H',Inv X pins σ' H' s'/\Q σ' H') X.xe s
def qP (X:Cx)(ts:List Expr)(t:nG):Prop:=
 ∀ (pins:List (Addr×Obj)) (s:Shared) (σ:St) (H:Hp) (vs:List V) (us:List Value) (Q:St->Hp->Prop),Inv X pins σ H s->Vals vs us->t vs σ H Q->
  wpAny (model X.prog X.w) X.A (assignInOrder ((assignEach ts X.env).map (·.2)) us) (fun _ s'=>∃ σ' H',Inv X pins σ' H' s'/\Q σ' H') X.xe s
abbrev pz:=V->V->V->Hp->(Hp->Prop)->Prop
def qQ (X:Cx)(t:pz):Prop:=
 ∀ (pins:List (Addr×Obj)) (s:Shared) (σ:St) (H:Hp) (o i v:V) (ov iv u:Value) (Q:Hp->Prop),Inv X pins σ H s->RelV o ov->RelV i iv->RelV v u->t o i v H Q->
  wpAny (model X.prog X.w) X.A (setItem ov iv u) (fun _ s'=>∃ H',Inv X pins σ H' s'/\Q H') X.xe s
section
variable {X:Cx}{pos:Pos}
def bW (i:Nat):TG:=fun v σ H Q=>Q (σ.set i (some v)) H
theorem az {i:Nat}{x:Str}(hN:X.N.Nodup)(hi:X.N[i]? =some x) (hx:qL X.env.scope x) (hf:X.fn x=true\/X.env.scope.names.lookup x=some .local:=by first|exact .inl rfl|exact .inr rfl|assumption):PG X (.Name x pos) (bW i):=by
 intro pins s σ H v u Q I r h
 exact wpAny_assign_Name (df I hN hi hx r (fun s' I'=>⟨_,H,I',h⟩) hf)
def se:nG:=fun vs σ H Q=>vs=[]/\Q σ H
def qR (t:TG)(u:nG):nG:=fun vs σ H Q=>∃ v r,vs=v::r/\t v σ H fun σ' H'=>u r σ' H' Q
theorem gp:qP X [] se:=by
 intro pins s σ H vs us Q I r h
 obtain⟨e,h⟩:=h
 subst e
 cases r
 exact assignInOrder_nil ⟨σ,H,I,h⟩
theorem b6 {e:Expr}{es:List Expr}{t:TG}{u:nG}(h1:PG X e t)(h2:qP X es u)
  (hs:(assignEach (e::es) X.env).map (·.2)=assign e X.env::(assignEach es X.env).map (·.2):=by rfl):qP X (e::es) (qR t u):=by
 intro pins s σ H vs us Q I r h
 obtain⟨v,vr,e1,h⟩:=h
 subst e1
 cases r with
 |cons r rr=>
  rw[hs]
  refine assignInOrder_cons (aX (h1 pins s σ H _ _ _ I r h) fun _ s1 ⟨σ1,H1,I1,q1⟩=>?_)
  exact h2 pins s1 σ1 H1 _ _ Q I1 rr q1
def sf (K:PySem.W.Frag)(n:Nat)(t:nG):TG:=fun v σ H Q=>∃ a xs,v=.ref a/\SqT K H a xs/\xs.length=n/\t xs σ H Q
theorem pA {es:List Expr}{k:Nat}{t:nG}{n:Nat}(hc:X.calm=true)(h:qP X es t)
  (hn:(assignEach es X.env).length=n:=by rfl) (hst:(assignEach es X.env).findIdx? (·.1)=none:=by rfl):PG X (.Tuple es k pos) (sf X.K n t):=by
 intro pins s σ H v u Q I r hw
 obtain⟨a,xs,e1,hq,hl,hw⟩:=hw
 subst e1
 cases r
 obtain⟨its,rv,ht,hz⟩:=I.tuple hq
 refine assign_Tuple_tuple (I.ok.hd hc) ht (by simp [hn,← hl,rv.length]) hst fun h' hx=>?_
 have I1:Inv X pins σ H {s with heap:=h'}:=I.kept (t':=s.toks) fun b o e=>hx b o (Nat.ne_of_lt (Heap.lt_size e)) e
 exact h pins _ σ H xs _ Q I1 (by simpa using rv) hw
def si (to ti:TE)(t:pz):TG:=fun v σ H Q=>to σ H fun o H1=>ti σ H1 fun i H2=>t o i v H2 fun H3=>Q σ H3
theorem gq {o i:Expr}{to ti:TE}{t:pz}(ho:PE X o to)(hi:PE X i ti)(hs:qQ X t)
  (ha:∀ v,assign (.Subscript o i pos) X.env v=(do
   let ov ← holding [v] (eval o X.env)
   let iv ← holding [v,ov] (eval i X.env)
   standAt pos
   holding [v,ov,iv] (setItem ov iv v)
   release [v,ov,iv] []):=by intro _;rfl):PG X (.Subscript o i pos) (si to ti t):=by
 intro pins s σ H v u Q I r h
 rw[ha]
 refine wpAny_bind (wpAny_holding (aX (ho pins s σ H _ I h) fun ov s1 ⟨x,H1,I1,r1,q1⟩=>?_))
 refine wpAny_bind (wpAny_holding (aX (hi pins s1 σ H1 _ I1 q1) fun iv s2 ⟨y,H2,I2,r2,q2⟩=>?_))
 refine wpAny_bind (wpAny_standAt (wpAny_bind (wpAny_holding (aX (hs pins s2 σ H2 x y v ov iv u _ I2 r1 r2 r q2) fun _ s3 ⟨H3,I3,q3⟩=>?_))))
 exact wpAny_release ⟨σ,H3,I3,q3⟩
def iK (te:TE)(g:TG):TS:=fun D σ H=>te σ H fun x H1=>g x σ H1 D.nx
theorem dJ {tg e:Expr}{te:TE}{g:TG}(he:PE X e te)(hg:PG X tg g)(hs:swapsWithSole [tg] e pos.line X.env=pure false:=by rfl)(hw:swappedStores [tg] e X.env=pure none:=by rfl)
  (h1:(assignEach [tg] X.env).map (·.2)=[assign tg X.env]:=by rfl):PS X (.Assign [tg] e pos) (iK te g):=by
 intro pins s σ H D I h
 refine wpAny_Assign_stores (aX (he pins s σ H _ I h) fun v s1 ⟨x,H1,I1,r1,q1⟩=>?_) hs hw
 rw[h1]
 exact aX (hg pins s1 σ H1 x v _ I1 r1 q1) fun _ s2 q=>q
theorem ak {i:Nat}{x:Str}{e:Expr}{te:TE}{pos':Pos}(hN:X.N.Nodup)(hi:X.N[i]? =some x) (hx:qL X.env.scope x) (he:PE X e te) (hs:swapsWith e (some (.Name x pos')) pos.line X.env=pure false:=by rfl) (hf:X.fn x=true\/X.env.scope.names.lookup x=some .local:=by first|exact .inl rfl|exact .inr rfl|assumption):
  PS X (.Assign [.Name x pos'] e pos) (iK te (bW i)):=by
 intro pins s σ H D I h
 refine wpAny_Assign_Name (aX (he pins s σ H _ I h) fun v s1 ⟨y,H1,I1,r1,q1⟩=>?_) hs
 exact df I1 hN hi hx r1 (fun s2 I2=>⟨_,H1,I2,q1⟩) hf
end
section
variable {X:Cx}{pos:Pos}
end
structure It where
 go:Nat->Hp->Prop
 yld:Nat->Hp->V->Hp->Prop
 stop:Nat->Hp->Prop
def eZ (X:Cx)(pins:List (Addr×Obj))(H:Hp)(b:Addr):Prop:=
 H b=none/\b≠X.env.locals/\b∉X.fs/\(b∈X.ex\/X.s₀.heap.objs.size<=b)/\(∀ x c,X.env.cells.lookup x=some c->c≠b)/\∀ p∈X.pn++pins,p.1≠b
theorem Inv.fpOk {X:Cx}{pins:List (Addr×Obj)}{σ:St}{H H':Hp}{s:Shared}{b:Addr}(I:Inv X pins σ H s)(hb:s.heap.objs.size<=b)(hn:H' b=none):eZ X pins H' b:=by
 refine⟨hn,Nat.ne_of_gt (Nat.lt_of_lt_of_le I.lt hb),I.nofs hb,.inr (Nat.le_trans I.sz hb),fun x c e z=>?_,fun p hp z=>?_⟩
 ·obtain⟨v,q⟩:=I.cell x c e
  exact absurd (Nat.lt_of_lt_of_le q.lt (by rw[z];exact hb)) (Nat.lt_irrefl _)
 ·exact absurd (Nat.lt_of_lt_of_le (Heap.lt_size (I.pin p hp).1) (by rw[z];exact hb)) (Nat.lt_irrefl _)
structure ly (P:Program)(w:World)(K:PySem.W.Frag)(tg:Expr)(J:It)(fp:List Addr)(it:Addr)(tn:Nat->Heap->Prop):Prop where
 mem:it∈fp
 obj:∀ i h,tn i h->∀ b∈fp,∃ o,h.get? b=some o/\∀ v,o.data≠.cell v
 keep:∀ i h h',tn i h->(∀ b∈fp,∀ o,h.get? b=some o->h'.get? b=some o)->tn i h'
 item:∀ (X:Cx),X.prog=P->X.w=w->X.K=K->X.calm=true->∀ (i:Nat) (pins:List (Addr×Obj)) (s:Shared) (σ:St) (H:Hp) (E:Value->Shared->Prop),Inv X pins σ H s->(∀ b∈fp,eZ X pins H b)->tn i s.heap->J.go i H->
  wpAny (model P w) X.A (pyNext (.ref it)) (fun r s1=>∃ u,r=some u/\
   wpAny (model P w) X.A (letOwnedTupleGo tg (.ref it) u) (fun _ s2=>∃ x H',Inv X pins σ H' s2/\RelV x u/\J.yld i H x H'/\tn (i+1) s2.heap/\∀ b∈fp,H' b=none) E s1) E s
 done:∀ (X:Cx),X.prog=P->X.w=w->X.K=K->X.calm=true->∀ (i:Nat) (pins:List (Addr×Obj)) (s:Shared) (σ:St) (H:Hp) (E:Value->Shared->Prop),Inv X pins σ H s->(∀ b∈fp,eZ X pins H b)->tn i s.heap->J.stop i H->
  wpAny (model P w) X.A (pyNext (.ref it)) (fun r s1=>r=none/\Inv X pins σ H s1) E s
 self:∀ (A:Around) (i:Nat) (s:Shared) (Q:Value->Shared->Prop) (E:Value->Shared->Prop),tn i s.heap->Q (.ref it) s->wpAny (model P w) A (pyIter (.ref it)) Q E s
abbrev TI:=St->Hp->(It->Hp->Prop)->Prop
def sQ (X:Cx)(pins:List (Addr×Obj))(σ:St)(tg:Expr)(R:It->Hp->Prop)(itv:Value)(s2:Shared):Prop:=
 ∃ (it:Addr) (fp:List Addr) (tn:Nat->Heap->Prop) (J:It) (H':Hp),itv=.ref it/\Inv X pins σ H' s2/\ly X.prog X.w X.K tg J fp it tn/\tn 0 s2.heap/\(∀ b∈fp,eZ X pins H' b)/\R J H'
def PI (X:Cx)(tg iter:Expr)(wi:TI):Prop:=
 ∀ (pins:List (Addr×Obj)) (s:Shared) (σ:St) (H:Hp) (R:It->Hp->Prop),Inv X pins σ H s->wi σ H R->
  wpAny (model X.prog X.w) X.A (eval iter X.env) (fun v s1=>wpAny (model X.prog X.w) X.A (pyIter v) (sQ X pins σ tg R) X.xe s1) X.xe s
theorem jw {M:Model}{A:Around}{E:Value->Shared->Prop}{s:Shared}{tg:Expr}{it:Addr}{u:Value}{o:Obj}{n:String}{vs:Array Value}{Q:Unit->Shared->Prop}(ho:s.heap.get? it=some o)(hc:o.cls=.type n)(hd:o.data=.fields vs)
  (hn:["enumerate","zip","dict_itemiterator","dict_reverseitemiterator","odict_iterator","itertools.zip_longest","itertools.pairwise"].contains n=false) (hQ:Q () s):wpAny M A (letOwnedTupleGo tg (.ref it) u) Q E s:=by
 unfold letOwnedTupleGo
 cases tg<;>first
  |exact wpAny_pure hQ
  |(cases u<;>first
    |exact wpAny_pure hQ
    |(refine wpAny_bind (wpAny_load ho ?_)
      rw[hc,hd]
      show wpAny M A (if (["enumerate","zip","dict_itemiterator","dict_reverseitemiterator","odict_iterator","itertools.zip_longest","itertools.pairwise"].contains n&&vs[0]? == some (rawInt _))=true then _ else _) Q E s
      rw[if_neg (by intro h;rw[hn,Bool.false_and] at h;cases h)]
      exact wpAny_pure hQ))
def oR (K:PySem.W.Frag)(a:Addr):It:=
 ⟨fun i H=>∃ xs x,SqL K H a xs/\xs[i]? =some x,fun i H x H'=>H'=H/\∀ xs,SqL K H a xs->xs[i]? =some x,fun i H=>∃ xs,SqL K H a xs/\xs.length<=i⟩
def pB (K:PySem.W.Frag)(a:Addr):It:=
 ⟨fun i H=>∃ xs x,SqT K H a xs/\xs[i]? =some x,fun i H x H'=>H'=H/\∀ xs,SqT K H a xs->xs[i]? =some x,fun i H=>∃ xs,SqT K H a xs/\xs.length<=i⟩
def pC (lo:Int)(n:Nat):It:=⟨fun i _=>i < n,fun i H x H'=>H'=H/\x=.int (lo+i),fun i _=>n<=i⟩
theorem ko {P:Program}{w:World}{K:PySem.W.Frag}{tg:Expr}(a it:Addr):ly P w K tg (oR K a) [it] it (fun i h=>h.IsListIter it a i) where
 mem:=by simp
 obj:=fun i h st b hb=>by
  have e:b=it:=by simpa using hb
  subst e
  obtain⟨o,e,c,d⟩:=st
  exact⟨o,e,fun v z=>by rw[d] at z;cases z⟩
 keep:=fun i h h' st k=>st.at fun o e=>k it (by simp) o e
 item:=by
  intro X hP hw hK hc i pins s σ H E I hf st hg
  subst hP hw hK
  obtain⟨xs,x,hq,hx⟩:=hg
  obtain⟨its,rv,p,hz⟩:=I.list hq
  obtain⟨u,hu,ru⟩:=rv.get hx
  obtain⟨f0,f1,f2,f3,f4,f5⟩:=hf it (by simp)
  refine wpAny_pyNext_list_item st p.isList (x:=u) (by simpa using hu) fun h' st' sb=>?_
  have I1:Inv X pins σ H {s with heap:=h'}:=I.turned (t':=s.toks) (fun b o hb e=>(sb.2 b hb).trans e) f0 f1 f3 f4 f5
  obtain⟨o,e,c,d⟩:=id st'
  exact⟨u,rfl,jw (s:={s with heap:=h'}) e c d (by decide) ⟨x,H,I1,ru,⟨rfl,fun ys hy=>by rw[I.list_inj hy hq];exact hx⟩,st',fun b hb=>(hf b hb).1⟩⟩
 done:=by
  intro X hP hw hK hc i pins s σ H E I hf st hg
  subst hP hw hK
  obtain⟨xs,hq,hx⟩:=hg
  obtain⟨its,rv,p,hz⟩:=I.list hq
  obtain⟨f0,f1,f2,f3,f4,f5⟩:=hf it (by simp)
  have hl:=rv.length
  exact wpAny_pyNext_list_end (I.ok.hd hc) st p.isList (by simp;omega) fun h' eb=>⟨rfl,I.turned (t':=s.toks) (fun b o hb e=>eb b o hb e) f0 f1 f3 f4 f5⟩
 self:=fun _ _ _ _ _ st h=>wpAny_pyIter_listiter st h
theorem iL {P:Program}{w:World}{K:PySem.W.Frag}{tg:Expr}(a it:Addr):ly P w K tg (pB K a) [it] it (fun i h=>h.IsTupleIter it a i) where
 mem:=by simp
 obj:=fun i h st b hb=>by
  have e:b=it:=by simpa using hb
  subst e
  obtain⟨o,e,c,d⟩:=st
  exact⟨o,e,fun v z=>by rw[d] at z;cases z⟩
 keep:=fun i h h' st k=>st.at fun o e=>k it (by simp) o e
 item:=by
  intro X hP hw hK hc i pins s σ H E I hf st hg
  subst hP hw hK
  obtain⟨xs,x,hq,hx⟩:=hg
  obtain⟨its,rv,p,hz⟩:=I.tuple hq
  obtain⟨u,hu,ru⟩:=rv.get hx
  obtain⟨f0,f1,f2,f3,f4,f5⟩:=hf it (by simp)
  refine wpAny_pyNext_tuple_item st (show s.heap.IsTuple a its.toArray from p) (x:=u) (by simpa using hu) fun h' st' sb=>?_
  have I1:Inv X pins σ H {s with heap:=h'}:=I.turned (t':=s.toks) (fun b o hb e=>(sb.2 b hb).trans e) f0 f1 f3 f4 f5
  obtain⟨o,e,c,d⟩:=id st'
  exact⟨u,rfl,jw (s:={s with heap:=h'}) e c d (by decide) ⟨x,H,I1,ru,⟨rfl,fun ys hy=>by rw[I.tuple_inj hy hq];exact hx⟩,st',fun b hb=>(hf b hb).1⟩⟩
 done:=by
  intro X hP hw hK hc i pins s σ H E I hf st hg
  subst hP hw hK
  obtain⟨xs,hq,hx⟩:=hg
  obtain⟨its,rv,p,hz⟩:=I.tuple hq
  obtain⟨f0,f1,f2,f3,f4,f5⟩:=hf it (by simp)
  have hl:=rv.length
  exact wpAny_pyNext_tuple_end (I.ok.hd hc) st (show s.heap.IsTuple a its.toArray from p) (by simp;omega) fun h' eb=>⟨rfl,I.turned (t':=s.toks) (fun b o hb e=>eb b o hb e) f0 f1 f3 f4 f5⟩
 self:=fun _ _ _ _ _ st h=>wpAny_pyIter_tupleiter st h
theorem iM {P:Program}{w:World}{K:PySem.W.Frag}{tg:Expr}(it:Addr)(lo:Int)(n:Nat):ly P w K tg (pC lo n) [it] it (fun i h=>IsRangeIter h it (lo+(i:Nat)*1) ((n:Int) - (i:Nat)) 1) where
 mem:=by simp
 obj:=fun i h st b hb=>by
  have e:b=it:=by simpa using hb
  subst e
  exact⟨_,st,fun v z=>by
   have z':Data.fields _=Data.cell v:=z
   cases z'⟩
 keep:=fun i h h' st k=>k it (by simp) _ st
 item:=by
  intro X hP hw hK hc i pins s σ H E I hf st hg
  subst hP hw hK
  obtain⟨f0,f1,f2,f3,f4,f5⟩:=hf it (by simp)
  have W:=Walks.range (prog:=X.prog) (w:=X.w) (I.ok.hd hc) it lo 1 n
  refine W.item i s _ _ hg st fun v h' tk hv st' kk=>?_
  obtain⟨t,rfl⟩:=hv
  have I1:Inv X pins σ H {s with heap:=h',toks:=tk}:=I.turned (fun b o hb e=>kk b o (by simpa using hb) e) f0 f1 f3 f4 f5
  refine⟨_,rfl,jw (s:={s with heap:=h',toks:=tk}) (n:="range_iterator") st' rfl rfl (by decide) ⟨.int (lo+i),H,I1,⟨t,?_⟩,⟨rfl,rfl⟩,st',fun b hb=>(hf b hb).1⟩⟩
  rw[Int.mul_one]
 done:=by
  intro X hP hw hK hc i pins s σ H E I hf st hg
  subst hP hw hK
  obtain⟨f0,f1,f2,f3,f4,f5⟩:=hf it (by simp)
  exact wpAny_pyNext_range_end (I.ok.hd hc) st (by have:n<=i:=hg;omega) fun h' eb=>⟨rfl,I.turned (t':=s.toks) (fun b o hb e=>eb b o hb e) f0 f1 f3 f4 f5⟩
 self:=fun _ _ _ _ _ st h=>wpAny_pyIter_rangeiter st h
end L2
namespace L2
open PySem PySem.Spec PyProof.Rows
section
variable {X:Cx}{tg:Expr}
inductive qS (K:PySem.W.Frag)(x:V)(H:Hp)(R:It->Hp->Prop):Prop
 |mk (a:Addr)(h:x=.ref a)(e:∃ xs,SqL K H a xs)(r:R (oR K a) H):qS K x H R
inductive qT (K:PySem.W.Frag)(x:V)(H:Hp)(R:It->Hp->Prop):Prop
 |mk (a:Addr)(h:x=.ref a)(e:∃ xs,SqT K H a xs)(r:R (pB K a) H):qT K x H R
def qU (K:PySem.W.Frag)(tl:TE):TI:=fun σ H R=>tl σ H fun x H1=>qS K x H1 R
def sj (K:PySem.W.Frag)(tl:TE):TI:=fun σ H R=>tl σ H fun x H1=>qT K x H1 R
theorem bn {l:Expr}{tl:TE}(hl:PE X l tl):PI X tg l (qU X.K tl):=by
 intro pins s σ H R I h
 refine aX (hl pins s σ H _ I h) fun v s1 ⟨x,H1,I1,r1,q1⟩=>?_
 obtain⟨a,e,⟨xs,hq⟩,q⟩:=q1
 subst e
 cases r1
 obtain⟨its,rv,p,hz⟩:=I1.list hq
 refine wpAny_pyIter_list p.isList ?_
 refine⟨s1.heap.objs.size,[s1.heap.objs.size],_,_,H1,rfl,I1.kept (t':=s1.toks) fun b o e=>Heap.get?_push_of_some _ e,ko a _,⟨_,Heap.get?_push_size _ rfl,rfl,rfl⟩,fun b hb=>?_,q⟩
 have e:b=s1.heap.objs.size:=by simpa using hb
 subst e
 exact I1.fpOk (Nat.le_refl _) (I1.hok.fresh (Nat.le_refl _))
theorem gr {l:Expr}{tl:TE}(hl:PE X l tl):PI X tg l (sj X.K tl):=by
 intro pins s σ H R I h
 refine aX (hl pins s σ H _ I h) fun v s1 ⟨x,H1,I1,r1,q1⟩=>?_
 obtain⟨a,e,⟨xs,hq⟩,q⟩:=q1
 subst e
 cases r1
 obtain⟨its,rv,p,hz⟩:=I1.tuple hq
 refine wpAny_pyIter_tuple (show s1.heap.IsTuple a its.toArray from p) ?_
 refine⟨s1.heap.objs.size,[s1.heap.objs.size],_,_,H1,rfl,I1.kept (t':=s1.toks) fun b o e=>Heap.get?_push_of_some _ e,iL a _,⟨_,Heap.get?_push_size _ rfl,rfl,rfl⟩,fun b hb=>?_,q⟩
 have e:b=s1.heap.objs.size:=by simpa using hb
 subst e
 exact I1.fpOk (Nat.le_refl _) (I1.hok.fresh (Nat.le_refl _))
theorem lz {pins:List (Addr×Obj)}{σ:St}{H:Hp}{s:Shared}{R:It->Hp->Prop}{E:Value->Shared->Prop}{lo hi:Int}{t u v:Tok}{tk:Nat}(I:Inv X pins σ H s)(h1:-(2 ^ 62)<=lo)(h2:lo < 2 ^ 62)(h3:-(2 ^ 62)<=hi)(h4:hi < 2 ^ 62)
  (q:R (pC lo (hi - lo).toNat) H):wpAny (model X.prog X.w) X.A (pyIter (.ref s.heap.objs.size)) (sQ X pins σ tg R) E {s with heap:=s.heap.push {cls:=.type "range",data:=.fields #[.int lo t,.int hi u,.int 1 v]},toks:=tk}:=by
 refine wpAny_pyIter_range (IsRange.new ..) (small_one h1 h2 h3 h4) ?_
 have I1:Inv X pins σ H {s with heap:=s.heap.push {cls:=.type "range",data:=.fields #[.int lo t,.int hi u,.int 1 v]},toks:=tk}:=I.kept fun b o e=>Heap.get?_push_of_some _ e
 refine⟨(s.heap.push {cls:=.type "range",data:=.fields #[.int lo t,.int hi u,.int 1 v]}).objs.size,[(s.heap.push {cls:=.type "range",data:=.fields #[.int lo t,.int hi u,.int 1 v]}).objs.size],_,_,H,rfl,
  I1.kept (t':=tk) fun b o e=>Heap.get?_push_of_some _ e,iM _ lo (hi - lo).toNat,?_,fun b hb=>?_,q⟩
 ·have e1:lo+((0:Nat):Int)*1=lo:=by simp
  have e2:(((hi - lo).toNat:Nat):Int) - ((0:Nat):Int)=Builtin.Range.rangeSize lo hi 1:=by rw[rangeSize_one];split<;>omega
  show IsRangeIter _ _ (lo+((0:Nat):Int)*1) ((((hi - lo).toNat:Nat):Int) - ((0:Nat):Int)) 1
  rw[e1,e2]
  exact Heap.get?_push_size _ rfl
 ·have e:b=(s.heap.push {cls:=.type "range",data:=.fields #[.int lo t,.int hi u,.int 1 v]}).objs.size:=by simpa using hb
  subst e
  exact I1.fpOk (Nat.le_refl _) (I1.hok.fresh (Nat.le_refl _))
def qV (ta:TA):TI:=fun σ H R=>ta σ H fun vs H1=>∃ j:Int,vs=[.int j]/\ -(2 ^ 62)<=j/\j < 2 ^ 62/\R (pC 0 j.toNat) H1
theorem cn {a:Expr}{ta:TA}{p pos:Pos}(hg:Gl X "range")(hm:X.mg "range"=none)(ha:PA X [a] ta)(hs:starEach [a] X.env=[(false,eval a X.env)]:=by rfl):PI X tg (.Call (.Name "range" p) [a] [] pos) (qV ta):=by
 intro pins s σ H R I h
 refine Call_ (gm I hg hm boot_range (PyProof.Rows.callWith_type1 (aX (ha pos pins s σ H _ I h) fun us s1 ⟨vs,H1,I1,r1,q1⟩=>?_) hs rfl))
 obtain⟨j,e,q1,q2,q⟩:=q1
 subst e
 cases r1 with
 |cons r rr=>
  cases rr
  obtain⟨t,rfl⟩:=r
  exact call_range_1 (lz I1 (by omega) (by omega) q1 q2 (by simpa using q))
def sk (wi:TI)(g:TG)(tb:TS):TS:=fun D σ H=>wi σ H fun J H1=>∃ W:Nat->Nat->St->Hp->Prop,(∃ m,W 0 m σ H1)/\∀ i m σ H,W i m σ H->
 (J.stop i H/\D.nx σ H)\/(J.go i H/\∃ N:St->Hp->Prop,(∀ σ' H',N σ' H'->∃ m',m' < m/\W (i+1) m' σ' H')/\∀ x H',J.yld i H x H'->g x σ H' fun σ2 H2=>tb {D with nx:=N,ct:=N,bk:=D.nx} σ2 H2)
def dL (fp:List Addr)(h:Heap):List (Addr×Obj):=fp.filterMap fun b=>(h.get? b).map fun o=>(b,o)
theorem bK {fp:List Addr}{h:Heap}{b:Addr}{o:Obj}(hb:b∈fp)(e:h.get? b=some o):(b,o)∈dL fp h:=List.mem_filterMap.mpr ⟨b,hb,by rw[e];rfl⟩
theorem kq {fp:List Addr}{h:Heap}{p:Addr×Obj}(hp:p∈dL fp h):p.1∈fp/\h.get? p.1=some p.2:=by
 obtain⟨b,hb,e⟩:=List.mem_filterMap.mp hp
 cases q:h.get? b with
 |none=>rw[q] at e;cases e
 |some o=>
  rw[q] at e
  have e':(b,o)=p:=Option.some.inj e
  subst e'
  exact⟨hb,q⟩
theorem Inv.pinned {pins:List (Addr×Obj)}{σ:St}{H:Hp}{s:Shared}{fp:List Addr}(I:Inv X pins σ H s)(hf:∀ b∈fp,eZ X pins H b)(ho:∀ b∈fp,∃ o,s.heap.get? b=some o/\∀ v,o.data≠.cell v):Inv X (pins++dL fp s.heap) σ H s:=
 I.pins_of fun p hp=>(List.mem_append.mp hp).elim (fun z=>I.pin p (List.mem_append_right _ z)) fun z=>by
  obtain⟨hb,e⟩:=kq z
  obtain⟨f0,f1,f2,_⟩:=hf p.1 hb
  obtain⟨o,e',d⟩:=ho p.1 hb
  rw[e] at e';cases e'
  exact⟨e,f0,f1,f2,d⟩
theorem Inv.unpinned {pins pl:List (Addr×Obj)}{σ:St}{H:Hp}{s:Shared}(I:Inv X (pins++pl) σ H s):Inv X pins σ H s:=I.pins_of fun p hp=>I.pin p (List.mem_append_right _ (List.mem_append_left _ hp))
theorem cj {iter:Expr}{body:List Stmt}{wi:TI}{g:TG}{tb:TS}{pos:Pos}(hp:PassesOwn (model X.prog X.w) X.A X.env X.xe)(hc:X.calm=true)(hi:PI X tg iter wi)(hg:PG X tg g)(hb:PSs X body tb)
  (hs:∀ x,foldedSetIterable iter X.env x=pure x:=by intro _;rfl):PS X (.For tg iter body [] pos) (sk wi g tb):=by
 intro pins s σ H D I h
 refine wpAny_For (aX (hi pins s σ H _ I h) fun v s1 h1=>aX h1 fun itv s2 h2=>?_) hs
 obtain⟨it,fp,tn,J,H2,e,I2,T,st2,f2,W,⟨m0,w0⟩,turn⟩:=h2
 subst e
 have stat:∀ {H':Hp},(∀ b∈fp,H' b=none)->∀ b∈fp,eZ X pins H' b:=fun hn b hb=>⟨hn b hb,(f2 b hb).2⟩
 refine codeAny_forLoop_any (fun n s'=>∃ i σ' H',Inv X pins σ' H' s'/\tn i s'.heap/\(∀ b∈fp,H' b=none)/\W i n σ' H') ?_ m0 ⟨0,σ,H2,I2,st2,fun b hb=>(f2 b hb).1,w0⟩
 rintro n s3 ⟨i,σ3,H3,I3,st3,fr3,w3⟩
 rcases turn i n σ3 H3 w3 with⟨stop,qn⟩|⟨go,N,hN,step⟩
 ·refine wpAny_passesOwn hp (aX (T.done X rfl rfl rfl hc i pins s3 σ3 H3 X.xe I3 (stat fr3) st3 stop) fun r s4 ⟨hr,I4⟩=>?_)
  subst hr
  exact wpAny_execs_nil ⟨σ3,H3,I4,qn⟩
 ·refine wpAny_passesOwn hp (aX (T.item X rfl rfl rfl hc i pins s3 σ3 H3 X.xe I3 (stat fr3) st3 go) fun r s4 ⟨u,hr,h4⟩=>?_)
  subst hr
  refine wpAny_passesOwn hp (aX h4 fun _ s5 ⟨x,H5,I5,r5,y5,st5,fr5⟩=>?_)
  have I5':=I5.pinned (stat fr5) (T.obj _ _ st5)
  refine wpAny_passesOwn hp (aX (hg _ s5 σ3 H5 x u _ I5' r5 (step x H5 y5)) fun _ s6 ⟨σ6,H6,I6,q6⟩=>?_)
  refine wpAny_passesOwn hp (aX (hb _ s6 σ6 H6 _ I6 q6) fun f s7 q7=>?_)
  have again:∀ {σ7:St} {H7:Hp},Inv X (pins++dL fp s5.heap) σ7 H7 s7->N σ7 H7->∃ m,m < n/\∃ i σ' H',Inv X pins σ' H' s7/\tn i s7.heap/\(∀ b∈fp,H' b=none)/\W i m σ' H':=fun {σ7 H7} I7 n7=>by
   obtain⟨m',hm,w7⟩:=hN σ7 H7 n7
   refine⟨m',hm,i+1,σ7,H7,I7.unpinned,T.keep _ _ _ st5 fun b hb o e=>(I7.pin (b,o) (List.mem_append_right _ (List.mem_append_right _ (bK hb e)))).1,fun b hb=>?_,w7⟩
   obtain⟨o,e,d⟩:=T.obj _ _ st5 b hb
   exact (I7.pin (b,o) (List.mem_append_right _ (List.mem_append_right _ (bK hb e)))).2.1
  cases f with
  |next=>obtain⟨σ7,H7,I7,n7⟩:=q7;exact again I7 n7
  |cont=>obtain⟨σ7,H7,I7,n7⟩:=q7;exact again I7 n7
  |brk=>obtain⟨σ7,H7,I7,q7⟩:=q7;exact⟨σ7,H7,I7.unpinned,q7⟩
  |ret v=>obtain⟨x7,σ7,H7,I7,r7,q7⟩:=q7;exact⟨x7,σ7,H7,I7.unpinned,r7,q7⟩
end
theorem dh {K:PySem.W.Frag}{a:Addr}{xs:List V}{g:TG}{tb:TS}{D:cU}{σ:St}{H:Hp}(Pv:Nat->St->Hp->Prop)(h0:Pv 0 σ H)(hl:∀ i σ H,i<=xs.length->Pv i σ H->SqL K H a xs)
  (hs:∀ i x σ H,xs[i]? =some x->Pv i σ H->g x σ H fun σ2 H2=>tb {D with nx:=Pv (i+1),ct:=Pv (i+1),bk:=D.nx} σ2 H2) (hd:∀ σ H,Pv xs.length σ H->D.nx σ H):
  ∃ W:Nat->Nat->St->Hp->Prop,(∃ m,W 0 m σ H)/\∀ i m σ H,W i m σ H->
   ((oR K a).stop i H/\D.nx σ H)\/((oR K a).go i H/\∃ N:St->Hp->Prop,(∀ σ' H',N σ' H'->∃ m',m' < m/\W (i+1) m' σ' H')/\∀ x H',(oR K a).yld i H x H'->g x σ H' fun σ2 H2=>tb {D with nx:=N,ct:=N,bk:=D.nx} σ2 H2):=by
 refine⟨fun i m σ H=>m=xs.length - i/\i<=xs.length/\Pv i σ H,⟨xs.length,by simp,Nat.zero_le _,h0⟩,?_⟩
 rintro i m σ H ⟨rfl,hi,p⟩
 have q:=hl i σ H hi p
 by_cases hlt:i < xs.length
 ·refine .inr ⟨⟨xs,xs[i],q,by simp [hlt]⟩,Pv (i+1),fun σ' H' p'=>⟨xs.length - (i+1),by omega,rfl,hlt,p'⟩,fun x H' y=>?_⟩
  obtain⟨e,y⟩:=y
  subst e
  exact hs i x σ _ (y xs q) p
 ·have e:i=xs.length:=by omega
  subst e
  exact .inl ⟨⟨xs,q,Nat.le_refl _⟩,hd σ H p⟩
theorem nH {K:PySem.W.Frag}{a:Addr}{xs:List V}{g:TG}{tb:TS}{D:cU}{σ:St}{H:Hp}(Pv:Nat->St->Hp->Prop)(h0:Pv 0 σ H)(hl:∀ i σ H,i<=xs.length->Pv i σ H->SqT K H a xs)
  (hs:∀ i x σ H,xs[i]? =some x->Pv i σ H->g x σ H fun σ2 H2=>tb {D with nx:=Pv (i+1),ct:=Pv (i+1),bk:=D.nx} σ2 H2) (hd:∀ σ H,Pv xs.length σ H->D.nx σ H):
  ∃ W:Nat->Nat->St->Hp->Prop,(∃ m,W 0 m σ H)/\∀ i m σ H,W i m σ H->
   ((pB K a).stop i H/\D.nx σ H)\/((pB K a).go i H/\∃ N:St->Hp->Prop,(∀ σ' H',N σ' H'->∃ m',m' < m/\W (i+1) m' σ' H')/\∀ x H',(pB K a).yld i H x H'->g x σ H' fun σ2 H2=>tb {D with nx:=N,ct:=N,bk:=D.nx} σ2 H2):=by
 refine⟨fun i m σ H=>m=xs.length - i/\i<=xs.length/\Pv i σ H,⟨xs.length,by simp,Nat.zero_le _,h0⟩,?_⟩
 rintro i m σ H ⟨rfl,hi,p⟩
 have q:=hl i σ H hi p
 by_cases hlt:i < xs.length
 ·refine .inr ⟨⟨xs,xs[i],q,by simp [hlt]⟩,Pv (i+1),fun σ' H' p'=>⟨xs.length - (i+1),by omega,rfl,hlt,p'⟩,fun x H' y=>?_⟩
  obtain⟨e,y⟩:=y
  subst e
  exact hs i x σ _ (y xs q) p
 ·have e:i=xs.length:=by omega
  subst e
  exact .inl ⟨⟨xs,q,Nat.le_refl _⟩,hd σ H p⟩
theorem cP {lo:Int}{n:Nat}{g:TG}{tb:TS}{D:cU}{σ:St}{H:Hp}(Pv:Nat->St->Hp->Prop)(h0:Pv 0 σ H)
  (hs:∀ i σ H,i < n->Pv i σ H->g (.int (lo+i)) σ H fun σ2 H2=>tb {D with nx:=Pv (i+1),ct:=Pv (i+1),bk:=D.nx} σ2 H2) (hd:∀ σ H,Pv n σ H->D.nx σ H):
  ∃ W:Nat->Nat->St->Hp->Prop,(∃ m,W 0 m σ H)/\∀ i m σ H,W i m σ H->
   ((pC lo n).stop i H/\D.nx σ H)\/((pC lo n).go i H/\∃ N:St->Hp->Prop,(∀ σ' H',N σ' H'->∃ m',m' < m/\W (i+1) m' σ' H')/\∀ x H',(pC lo n).yld i H x H'->g x σ H' fun σ2 H2=>tb {D with nx:=N,ct:=N,bk:=D.nx} σ2 H2):=by
 refine⟨fun i m σ H=>m=n - i/\i<=n/\Pv i σ H,⟨n,by simp,Nat.zero_le _,h0⟩,?_⟩
 rintro i m σ H ⟨rfl,hi,p⟩
 by_cases hlt:i < n
 ·refine .inr ⟨hlt,Pv (i+1),fun σ' H' p'=>⟨n - (i+1),by omega,rfl,hlt,p'⟩,fun x H' y=>?_⟩
  obtain⟨e,y⟩:=y
  subst e y
  exact hs i σ _ hlt p
 ·have e:i=n:=by omega
  subst e
  exact .inl ⟨Nat.le_refl _,hd σ H p⟩
end L2
namespace L2
open PySem PySem.Spec PyProof.Rows
abbrev R2:=V->V->Hp->VK->Prop
def OpR (X:Cx)(f:Value->Value->Sem Value)(r:R2):Prop:=
 ∀ (pins:List (Addr×Obj)) (s:Shared) (σ:St) (H:Hp) (x y:V) (v u:Value) (Q:VK),Inv X pins σ H s->RelV x v->RelV y u->r x y H Q->
  wpAny (model X.prog X.w) X.A (f v u) (EP X pins σ Q) X.xe s
def sm (X:Cx)(f:Value->Sem Value)(r:V->Hp->VK->Prop):Prop:=
 ∀ (pins:List (Addr×Obj)) (s:Shared) (σ:St) (H:Hp) (x:V) (v:Value) (Q:VK),Inv X pins σ H s->RelV x v->r x H Q->
  wpAny (model X.prog X.w) X.A (f v) (EP X pins σ Q) X.xe s
def bP (X:Cx)(f:Value)(r:List V->Hp->VK->Prop):Prop:=
 ∀ (pins:List (Addr×Obj)) (s:Shared) (σ:St) (H:Hp) (xs:List V) (us:List Value) (Q:VK),Inv X pins σ H s->Vals xs us->r xs H Q->
  wpAny (model X.prog X.w) X.A (call f us) (EP X pins σ Q) X.xe s
def sq (X:Cx)(r:V->Hp->(Bool->Hp->Prop)->Prop):Prop:=
 ∀ (pins:List (Addr×Obj)) (s:Shared) (σ:St) (H:Hp) (x:V) (v:Value) (Q:Bool->Hp->Prop),Inv X pins σ H s->RelV x v->r x H Q->
  wpAny (model X.prog X.w) X.A (truthy v) (TP X pins σ Q) X.xe s
def eM (r:R2)(ta tb:TE):TE:=fun σ H Q=>ta σ H fun x H1=>tb σ H1 fun y H2=>r x y H2 Q
def tq (r:V->Hp->VK->Prop)(ta:TE):TE:=fun σ H Q=>ta σ H fun x H1=>r x H1 Q
inductive sR (C:Int->Int->Prop)(g:Int->Int->V)(x y:V)(H:Hp)(Q:VK):Prop
 |mk (i j:Int)(hx:x=.int i)(hy:y=.int j)(c:C i j)(q:Q (g i j) H):sR C g x y H Q
inductive sS (g:Int->Int->V)(x y:V)(H:Hp)(Q:VK):Prop
 |mk (i j:Int)(hx:x=.int i)(hy:y=.int j)(q:Q (g i j) H):sS g x y H Q
inductive sT (g:Int->V)(x:V)(H:Hp)(Q:VK):Prop
 |mk (i:Int)(hx:x=.int i)(q:Q (g i) H):sT g x H Q
def rI (C:Int->Int->Prop)(g:Int->Int->V):R2:=fun x y H Q=>sR C g x y H Q
def nz (g:Int->Int->V):R2:=fun x y H Q=>sS g x y H Q
def rU (g:Int->V):V->Hp->VK->Prop:=fun x H Q=>sT g x H Q
section
variable {X:Cx}{a b c:Expr}{ta tb tc:TE}{pos:Pos}
theorem pD (ha:PE X a ta)(hb:PE X b tb){pins:List (Addr×Obj)}{s:Shared}{σ:St}{H:Hp}{R:V->V->Hp->Prop}(I:Inv X pins σ H s)
  (h:ta σ H fun x H1=>tb σ H1 fun y H2=>R x y H2) {Q:Value->Shared->Prop} {f:Value->Value->Sem Value}
  (hf:∀ v u s2 x y H2,Inv X pins σ H2 s2->RelV x v->RelV y u->R x y H2->wpAny (model X.prog X.w) X.A (f v u) Q X.xe s2):
  wpAny (model X.prog X.w) X.A (eval a X.env) (fun v s₁=>wpAny (model X.prog X.w) X.A (eval b X.env) (fun u s₂=>wpAny (model X.prog X.w) X.A (f v u) Q X.xe s₂) X.xe s₁) X.xe s:=by
 refine aX (ha pins s σ H _ I h) fun v s1 ⟨x,H1,I1,r1,q1⟩=>?_
 refine aX (hb pins s1 σ H1 _ I1 q1) fun u s2 ⟨y,H2,I2,r2,q2⟩=>?_
 exact hf v u s2 x y H2 I2 r1 r2 q2
theorem aj {op:Operator}{r:R2}(ho:OpR X (binaryOp op) r)(ha:PE X a ta)(hb:PE X b tb):PE X (.BinOp a op b pos) (eM r ta tb):=by
 intro pins s σ H Q I h
 exact wpAny_BinOp (pD ha hb I h fun v u s2 x y H2 I2 rx ry q=>ho pins s2 σ H2 x y v u Q I2 rx ry q)
theorem fS {op:UnaryOp}{r:V->Hp->VK->Prop}(ho:sm X (unaryOp op) r)(ha:PE X a ta):PE X (.UnaryOp op a pos) (tq r ta):=by
 intro pins s σ H Q I h
 exact UnaryOp_ (aX (ha pins s σ H _ I h) fun v s1 ⟨x,H1,I1,r1,q1⟩=>ho pins s1 σ H1 x v Q I1 r1 q1)
theorem rR {f:Value->Value->Sem Value}{C:Int->Int->Prop}{g:Int->Int->Int}
  (rule:∀ (i j:Int) (t u:Tok) (s:Shared) (Q:Value->Shared->Prop) (E:Value->Shared->Prop),C i j->Q (.int (g i j) s.toks) {s with toks:=s.toks+1}->wpAny (model X.prog X.w) X.A (f (.int i t) (.int j u)) Q E s):
  OpR X f (rI C fun i j=>.int (g i j)):=by
 intro pins s σ H x y v u Q I rx ry h
 obtain⟨i,j,rfl,rfl,hc,q⟩:=h
 obtain⟨t,rfl⟩:=rx
 obtain⟨t',rfl⟩:=ry
 exact rule i j t t' s _ _ hc ⟨.int (g i j),H,I.tok _,⟨_,rfl⟩,q⟩
theorem pE {f:Value->Value->Sem Value}{g:Int->Int->Int}
  (rule:∀ (i j:Int) (t u:Tok) (s:Shared) (Q:Value->Shared->Prop) (E:Value->Shared->Prop),Q (.int (g i j) s.toks) {s with toks:=s.toks+1}->wpAny (model X.prog X.w) X.A (f (.int i t) (.int j u)) Q E s):
  OpR X f (nz fun i j=>.int (g i j)):=by
 intro pins s σ H x y v u Q I rx ry h
 obtain⟨i,j,rfl,rfl,q⟩:=h
 obtain⟨t,rfl⟩:=rx
 obtain⟨t',rfl⟩:=ry
 exact rule i j t t' s _ _ ⟨.int (g i j),H,I.tok _,⟨_,rfl⟩,q⟩
theorem pF {f:Value->Value->Sem Value}{g:Int->Int->Bool}
  (rule:∀ (i j:Int) (t u:Tok) (s:Shared) (Q:Value->Shared->Prop) (E:Value->Shared->Prop),Q (.bool (g i j)) s->wpAny (model X.prog X.w) X.A (f (.int i t) (.int j u)) Q E s):
  OpR X f (nz fun i j=>.bl (g i j)):=by
 intro pins s σ H x y v u Q I rx ry h
 obtain⟨i,j,rfl,rfl,q⟩:=h
 obtain⟨t,rfl⟩:=rx
 obtain⟨t',rfl⟩:=ry
 exact rule i j t t' s _ _ ⟨.bl (g i j),H,I,rfl,q⟩
def qW (i j:Int):Prop:=0 < j/\j < 1073741824
def CMul (i j:Int):Prop:=(-(2 ^ 64) < i/\i < 2 ^ 64)\/(-(2 ^ 64) < j/\j < 2 ^ 64)
theorem CMul.ok {i j:Int}(h:CMul i j):IntMulOk i j:=by
 rcases h with⟨h1,h2⟩|⟨h1,h2⟩
 ·exact .of_left (intBits_le_64 h1 h2)
 ·exact .of_right (intBits_le_64 h1 h2)
theorem iN (k:Nat):(0:Int)<=2 ^ k:=by
 rw[two_pow_cast]
 exact Int.natCast_nonneg _
theorem aY:OpR X (binaryOp .Add) (nz fun i j=>.int (i+j)):=pE fun _ _ _ _ _ _ _ q=>add_int q
theorem iO:OpR X (binaryOp .Sub) (nz fun i j=>.int (i - j)):=pE fun _ _ _ _ _ _ _ q=>sub_int q
theorem bU:OpR X (binaryOp .Mult) (rI CMul fun i j=>.int (i*j)):=rR fun _ _ _ _ _ _ _ hc q=>mul_int q hc.ok
theorem bg:OpR X (binaryOp .FloorDiv) (rI qW fun i j=>.int (i / j)):=rR fun i j _ _ _ _ _ hc q=>by
 have h1:(0:Int) < j:=hc.1
 have h2:j < 1073741824:=hc.2
 exact floordiv_int (by omega) (by rw[Int.fdiv_eq_ediv_of_nonneg i (by omega)];exact q) (.inl (PyProof.noPylong_small (by omega)))
theorem aA:OpR X (binaryOp .Mod) (rI (fun _ j=>0 < j) fun i j=>.int (i % j)):=rR fun i j _ _ _ _ _ hc q=>by
 have h1:(0:Int) < j:=hc
 exact mod_int' (by omega) (by rw[Int.fmod_eq_emod_of_nonneg i (by omega)];exact q)
theorem pG:OpR X (binaryOp .RShift) (rI (fun _ j=>0<=j) fun i j=>.int (i / 2 ^ j.toNat)):=rR fun i j _ _ _ _ _ hc q=>
 rshift_int hc (by rw[Int.fdiv_eq_ediv_of_nonneg i (iN _)];exact q)
theorem pH:OpR X (binaryOp .BitAnd) (nz fun i j=>.int (Builtin.bitAnd i j)):=pE fun _ _ _ _ _ _ _ q=>and_int q
theorem tu {f:Value->Sem Value}{g:Int->Int}
  (rule:∀ (i:Int) (t:Tok) (s:Shared) (Q:Value->Shared->Prop) (E:Value->Shared->Prop),Q (.int (g i) s.toks) {s with toks:=s.toks+1}->wpAny (model X.prog X.w) X.A (f (.int i t)) Q E s):
  sm X f (rU fun i=>.int (g i)):=by
 intro pins s σ H x v Q I rx h
 obtain⟨i,rfl,q⟩:=h
 obtain⟨t,rfl⟩:=rx
 exact rule i t s _ _ ⟨.int (g i),H,I.tok _,⟨_,rfl⟩,q⟩
theorem dM:sm X (unaryOp .USub) (rU fun i=>.int (-i)):=tu fun _ _ _ _ _ q=>neg_int q
end
def qX:V->V->Bool
 |.non,.non=>true|.non,.int _=>true|.int _,.non=>true|.non,.bl _=>true|.bl _,.non=>true|.non,.str _=>true|.str _,.non=>true
 |.int _,.int _=>true|.bl _,.bl _=>true|.str _,.str _=>true|.byt _,.byt _=>true
 |.int _,.str _=>true|.str _,.int _=>true|.bl _,.str _=>true|.str _,.bl _=>true
 |_,_=>false
def sr:R2:=fun x y H Q=>qX x y=true/\Q (.bl (decide (x=y))) H
def su:R2:=fun x y H Q=>qX x y=true/\Q (.bl (!decide (x=y))) H
theorem jx {i j:Int}:decide (V.int i=V.int j)=(i == j):=by
 rw[Bool.eq_iff_iff]
 simp
theorem lA {i j:Bool}:decide (V.bl i=V.bl j)=(i == j):=by
 rw[Bool.eq_iff_iff]
 simp
theorem jy {i j:Str}:decide (V.str i=V.str j)=(i == j):=by
 rw[Bool.eq_iff_iff]
 simp
theorem jz {i j:Array UInt8}:decide (V.byt i=V.byt j)=(i.toList == j.toList):=by
 rw[Bool.eq_iff_iff]
 cases i
 cases j
 simp
section
variable {X:Cx}{a b c:Expr}{ta tb tc:TE}{pos:Pos}
theorem aB {pins:List (Addr×Obj)}{σ:St}{H:Hp}{s:Shared}{Q:VK}{k k':Bool}(I:Inv X pins σ H s)(q:Q (.bl k) H)(e:k=k'):EP X pins σ Q (.bool k') s:=by
 subst e
 exact⟨.bl k,H,I,rfl,q⟩
theorem qY:OpR X (compareOp .Eq) sr:=by
 intro pins s σ H x y v u Q I rx ry h
 obtain⟨hs,q⟩:=h
 cases x with
 |non=>
  cases rx
  cases y with
  |non=>cases ry;exact PySem.EqNone.eq_none_none (aB I q (by simp))
  |bl j=>cases ry;exact PySem.EqNone.eq_none_bool (aB I q (by simp))
  |int j=>obtain⟨t',rfl⟩:=ry;exact PySem.EqNone.eq_none_int (aB I q (by simp))
  |str j=>obtain⟨t',rfl⟩:=ry;exact PySem.EqNone.eq_none_str (aB I q (by simp))
  |_=>exact absurd (show false=true from hs) Bool.false_ne_true
 |bl i=>
  cases rx
  cases y with
  |non=>cases ry;exact PySem.EqNone.eq_bool_none (aB I q (by simp))
  |bl j=>cases ry;exact eq_bool (aB I q lA)
  |str j=>obtain⟨t',rfl⟩:=ry;exact PySem.EqMixed.eq_bool_str (aB I q (by simp))
  |_=>exact absurd (show false=true from hs) Bool.false_ne_true
 |int i=>
  obtain⟨t,rfl⟩:=rx
  cases y with
  |non=>cases ry;exact PySem.EqNone.eq_int_none (aB I q (by simp))
  |int j=>obtain⟨t',rfl⟩:=ry;exact eq_int (aB I q jx)
  |str j=>obtain⟨t',rfl⟩:=ry;exact PySem.EqMixed.eq_int_str (aB I q (by simp))
  |_=>exact absurd (show false=true from hs) Bool.false_ne_true
 |str i=>
  obtain⟨t,rfl⟩:=rx
  cases y with
  |non=>cases ry;exact PySem.EqNone.eq_str_none (aB I q (by simp))
  |bl j=>cases ry;exact PySem.EqMixed.eq_str_bool (aB I q (by simp))
  |int j=>obtain⟨t',rfl⟩:=ry;exact PySem.EqMixed.eq_str_int (aB I q (by simp))
  |str j=>obtain⟨t',rfl⟩:=ry;exact eq_str (aB I q jy)
  |_=>exact absurd (show false=true from hs) Bool.false_ne_true
 |byt i=>
  obtain⟨t,rfl⟩:=rx
  cases y with
  |byt j=>obtain⟨t',rfl⟩:=ry;exact PySem.W.eq_bytes (aB I q jz)
  |_=>exact absurd (show false=true from hs) Bool.false_ne_true
 |_=>cases y<;>exact absurd (show false=true from hs) Bool.false_ne_true
theorem qZ:OpR X (compareOp .NotEq) su:=by
 intro pins s σ H x y v u Q I rx ry h
 obtain⟨hs,q⟩:=h
 cases x with
 |non=>
  cases rx
  cases y with
  |non=>cases ry;exact PySem.EqNone.ne_none_none (aB I q (by simp))
  |bl j=>cases ry;exact PySem.EqNone.ne_none_bool (aB I q (by simp))
  |int j=>obtain⟨t',rfl⟩:=ry;exact PySem.EqNone.ne_none_int (aB I q (by simp))
  |str j=>obtain⟨t',rfl⟩:=ry;exact PySem.EqNone.ne_none_str (aB I q (by simp))
  |_=>exact absurd (show false=true from hs) Bool.false_ne_true
 |bl i=>
  cases rx
  cases y with
  |non=>cases ry;exact PySem.EqNone.ne_bool_none (aB I q (by simp))
  |bl j=>cases ry;exact ne_bool (aB I q (congrArg not lA))
  |str j=>obtain⟨t',rfl⟩:=ry;exact PySem.EqMixed.ne_bool_str (aB I q (by simp))
  |_=>exact absurd (show false=true from hs) Bool.false_ne_true
 |int i=>
  obtain⟨t,rfl⟩:=rx
  cases y with
  |non=>cases ry;exact PySem.EqNone.ne_int_none (aB I q (by simp))
  |int j=>obtain⟨t',rfl⟩:=ry;exact ne_int (aB I q (congrArg not jx))
  |str j=>obtain⟨t',rfl⟩:=ry;exact PySem.EqMixed.ne_int_str (aB I q (by simp))
  |_=>exact absurd (show false=true from hs) Bool.false_ne_true
 |str i=>
  obtain⟨t,rfl⟩:=rx
  cases y with
  |non=>cases ry;exact PySem.EqNone.ne_str_none (aB I q (by simp))
  |bl j=>cases ry;exact PySem.EqMixed.ne_str_bool (aB I q (by simp))
  |int j=>obtain⟨t',rfl⟩:=ry;exact PySem.EqMixed.ne_str_int (aB I q (by simp))
  |str j=>obtain⟨t',rfl⟩:=ry;exact ne_str (aB I q (congrArg not jy))
  |_=>exact absurd (show false=true from hs) Bool.false_ne_true
 |byt i=>
  obtain⟨t,rfl⟩:=rx
  cases y with
  |byt j=>obtain⟨t',rfl⟩:=ry;exact PySem.W.ne_bytes (aB I q (congrArg not jz))
  |_=>exact absurd (show false=true from hs) Bool.false_ne_true
 |_=>cases y<;>exact absurd (show false=true from hs) Bool.false_ne_true
theorem jA:OpR X (compareOp .Lt) (nz fun i j=>.bl (decide (i < j))):=pF fun _ _ _ _ _ _ _ q=>lt_int q
theorem oS:OpR X (compareOp .LtE) (nz fun i j=>.bl (decide (i<=j))):=pF fun _ _ _ _ _ _ _ q=>le_int q
theorem di:OpR X (compareOp .Gt) (nz fun i j=>.bl (decide (j < i))):=pF fun _ _ _ _ _ _ _ q=>gt_int q
theorem pI:OpR X (compareOp .Is) (fun x y H Q=>y=.non/\Q (.bl (decide (x=.non))) H):=by
 intro pins s σ H x y v u Q I rx ry h
 obtain⟨rfl,q⟩:=h
 cases ry
 refine is_none_gen (aB I q ?_)
 cases x<;>first
  |(cases rx;rfl)
  |(obtain⟨t,rfl⟩:=rx;rfl)
theorem nI:OpR X (compareOp .IsNot) (fun x y H Q=>y=.non/\Q (.bl (!decide (x=.non))) H):=by
 intro pins s σ H x y v u Q I rx ry h
 obtain⟨rfl,q⟩:=h
 cases ry
 refine isnot_none_gen (aB I q ?_)
 cases x<;>first
  |(cases rx;rfl)
  |(obtain⟨t,rfl⟩:=rx;rfl)
theorem gu:OpR X (compareOp .NotIn) (fun x y H Q=>∃ i j,x=.str i/\y=.str j/\Q (.bl (!(!(Builtin.Str.occurrences j i 0 j.length 1).isEmpty))) H):=by
 intro pins s σ H x y v u Q I rx ry h
 obtain⟨i,j,rfl,rfl,q⟩:=h
 obtain⟨t,rfl⟩:=rx
 obtain⟨t',rfl⟩:=ry
 exact notIn_str (aB I q rfl)
theorem OpR.or {f:Value->Value->Sem Value}{r r':R2}(h:OpR X f r)(h':OpR X f r'):OpR X f (fun x y H Q=>r x y H Q\/r' x y H Q):=by
 intro pins s σ H x y v u Q I rx ry q
 rcases q with q|q
 ·exact h pins s σ H x y v u Q I rx ry q
 ·exact h' pins s σ H x y v u Q I rx ry q
theorem ar (b:Expr){op:CmpOp}(h:op≠.In:=by decide)(h2:op≠.NotIn:=by decide):behindInMarks op b=false:=by
 have e1:(op == CmpOp.In)=false:=by cases op<;>first|rfl|exact absurd rfl h
 have e2:(op == CmpOp.NotIn)=false:=by cases op<;>first|rfl|exact absurd rfl h2
 cases b<;>simp [behindInMarks,e1,e2]
theorem cx {op:CmpOp}{r:R2}(ho:OpR X (compareOp op) r)(ha:PE X a ta)(hb:PE X b tb)(hm:behindInMarks op b=false):PE X (.Compare a [op] [b] pos) (eM r ta tb):=by
 intro pins s σ H Q I h
 exact wpAny_Compare1 (pD ha hb I h fun v u s2 x y H2 I2 rx ry q=>ho pins s2 σ H2 x y v u Q I2 rx ry q) hm
def er (t:TE):TT:=fun σ H Q=>t σ H fun x H'=>px x Q H'
theorem ao {op:CmpOp}{r:R2}(ho:OpR X (compareOp op) r)(ha:PE X a ta)(hb:PE X b tb)(hm:behindInMarks op b=false):PT X (.Compare a [op] [b] pos) (er (eM r ta tb)):=by
 intro pins s σ H Q I h
 refine wpAny_isTrue_Compare1 (aX (ha pins s σ H _ I h) fun v s1 ⟨x,H1,I1,r1,q1⟩=>aX (hb pins s1 σ H1 _ I1 q1) fun u s2 ⟨y,H2,I2,r2,q2⟩=>
  aX (ho pins s2 σ H2 x y v u _ I2 r1 r2 q2) fun c s3 ⟨z,H3,I3,r3,k,e,q3⟩=>?_) hm
 subst e
 cases r3
 exact wpAny_truthy_bool ⟨H3,I3,q3⟩
def pJ (r r':R2)(ta tb tc:TE):TE:=fun σ H Q=>ta σ H fun x H1=>tb σ H1 fun y H2=>r x y H2 fun z H3=>∃ k,z=.bl k/\
 (if k=true then tc σ H3 fun w' H4=>r' y w' H4 Q else Q (.bl false) H3)
theorem lB {op op':CmpOp}{r r':R2}(ho:OpR X (compareOp op) r)(ho':OpR X (compareOp op') r')(ha:PE X a ta)(hb:PE X b tb)(hc:PE X c tc)
  (hm:lastMarks [op,op'] [b,c]=false:=by with_unfolding_all rfl):PT X (.Compare a [op,op'] [b,c] pos) (er (pJ r r' ta tb tc)):=by
 intro pins s σ H Q I h
 refine isTrue_chain (aX (ha pins s σ H _ I h) fun v s1 ⟨x,H1,I1,r1,q1⟩=>test_link (aX (hb pins s1 σ H1 _ I1 q1) fun u s2 ⟨y,H2,I2,r2,q2⟩=>
  aX (ho pins s2 σ H2 x y v u _ I2 r1 r2 q2) fun d s3 ⟨z,H3,I3,r3,k,e,q3⟩=>?_)) hm
 subst e
 cases r3
 refine wpAny_truthy_bool ?_
 cases k with
 |false=>
  obtain⟨k',e',q'⟩:=q3
  cases e'
  exact ite_ff ⟨H3,I3,q'⟩
 |true=>
  refine ite_tt (test_last (aX (hc pins s3 σ H3 _ I3 q3) fun w' s4 ⟨z',H4,I4,r4,q4⟩=>aX (ho' pins s4 σ H4 y z' u w' _ I4 r2 r4 q4) fun d' s5 ⟨z2,H5,I5,r5,k2,e2,q5⟩=>?_))
  subst e2
  cases r5
  exact wpAny_truthy_bool ⟨H5,I5,q5⟩
def q0 (K:PySem.W.Frag)(x:V)(H:Hp)(k:Bool):Prop:=
 match x with
 |.non=>k=false
 |.bl b=>k=b
 |.int i=>k=(i != 0)
 |.str y=>y.length<=sizeLine/\k=((y.length:Int) != 0)
 |.byt y=>y.size<=sizeLine/\k=((y.size:Int) != 0)
 |.ref p=>(∃ xs,SqL K H p xs/\k=!xs.isEmpty)\/(∃ xs,SqT K H p xs/\k=!xs.isEmpty)\/∃ kvs,H p=some (.dK kvs)/\k=!kvs.isEmpty
 |_=>False
theorem iP {κ:Type}{kvs:List (κ×V)}{vs:List (κ×Value)}(r:KV kvs vs):(!vs.isEmpty)=!kvs.isEmpty:=by
 cases r<;>rfl
theorem e_ {xs:List V}{its:List Value}(r:Vals xs its):(!its.toArray.isEmpty)=!xs.isEmpty:=by
 cases r<;>simp
theorem dN:(sizeLine:Nat) < 2 ^ 63:=by rw[sizeLine_eq];decide
theorem pK:sq X (fun x H Q=>∃ k,q0 X.K x H k/\Q k H):=by
 intro pins s σ H x v Q I rx h
 obtain⟨k,e,q⟩:=h
 have hl:=dN
 have hs:sizeLine=16777216:=sizeLine_eq
 cases x with
 |non=>
  cases rx
  have e':k=false:=e
  subst e'
  exact truthy_none ⟨H,I,q⟩
 |bl b=>
  cases rx
  have e':k=b:=e
  subst e'
  exact wpAny_truthy_bool ⟨H,I,q⟩
 |int i=>
  obtain⟨t,rfl⟩:=rx
  have e':k=(i != 0):=e
  subst e'
  exact PySem.P.truthy_int ⟨H,I,q⟩
 |str y=>
  obtain⟨t,rfl⟩:=rx
  obtain⟨hy,e'⟩:y.length<=sizeLine/\k=((y.length:Int) != 0):=e
  subst e'
  exact PySem.P.truthy_str (by omega) ⟨H,I.tok _,q⟩
 |byt y=>
  obtain⟨t,rfl⟩:=rx
  obtain⟨hy,e'⟩:y.size<=sizeLine/\k=((y.size:Int) != 0):=e
  subst e'
  exact PySem.W.truthy_bytes (by omega) ⟨H,I.tok _,q⟩
 |ref p=>
  cases rx
  have e':(∃ xs,SqL X.K H p xs/\k=!xs.isEmpty)\/(∃ xs,SqT X.K H p xs/\k=!xs.isEmpty)\/∃ kvs,H p=some (.dK kvs)/\k=!kvs.isEmpty:=e
  rcases e' with⟨xs,hx,e'⟩|⟨xs,hx,e'⟩|⟨kvs,hx,e'⟩
  ·subst e'
   obtain⟨its,r,pl,hz⟩:=I.list hx
   have hlen:=r.length
   exact wpAny_truthy_list pl.isList (by simp only [List.size_toArray];omega) ⟨H,I.tok _,by rw[e_ r];exact q⟩
  ·subst e'
   obtain⟨its,r,pl,hz⟩:=I.tuple hx
   have hlen:=r.length
   exact truthy_tuple pl (by simp only [List.size_toArray];omega) ⟨H,I.tok _,by rw[e_ r];exact q⟩
  ·subst e'
   obtain⟨hz,hS,vs,r,m⟩:kvs.length<=sizeLine/\(p == sysModules)=false/\∃ vs,KV kvs vs/\s.heap.DictOf (aW X.prog X.w) p vs:=I.hok p _ hx
   have hlen:kvs.length=vs.length:=Paired.length r
   exact wpAny_truthy_dict hS m (by omega) ⟨H,I.tok _,by rw[iP r];exact q⟩
 |_=>exact (show False from e).elim
theorem fb (ha:PE X a ta)(he:∀ whole,isTrue a X.env whole=(do let v ← whole;standAt a.pos;holding [v] (truthy v))):
  PT X a (fun σ H Q=>ta σ H fun x H'=>∃ k,q0 X.K x H' k/\Q k H'):=by
 intro pins s σ H Q I h
 exact isTrue_plain (aX (ha pins s σ H _ I h) fun v s1 ⟨x,H1,I1,r1,q1⟩=>pK pins s1 σ H1 x v Q I1 r1 q1) (he _)
theorem aN:OpR X (binaryOp .Add) (fun x y H Q=>∃ i j,x=.str i/\y=.str j/\i.length+j.length<=sizeLine/\Q (.str (i++j)) H):=by
 intro pins s σ H x y v u Q I rx ry h
 obtain⟨i,j,rfl,rfl,hz,q⟩:=h
 obtain⟨t,rfl⟩:=rx
 obtain⟨t',rfl⟩:=ry
 exact add_str (fun t' tk=>⟨.str (i++j),H,I.tok _,⟨_,rfl⟩,q⟩) hz
theorem bQ {x:V}{us:List Value}(r:Vals [x] us):∃ u,us=[u]/\RelV x u:=by
 cases r with
 |cons r1 r2=>cases r2;exact⟨_,rfl,r1⟩
theorem jB {x y:V}{us:List Value}(r:Vals [x,y] us):∃ u w',us=[u,w']/\RelV x u/\RelV y w':=by
 cases r with
 |cons r1 r2=>
  cases r2 with
  |cons r3 r4=>cases r4;exact⟨_,_,rfl,r1,r3⟩
theorem cD:bP X (.builtin "abs") (fun xs H Q=>∃ i,xs=[.int i]/\Q (.int (if i < 0 then -i else i)) H):=by
 intro pins s σ H xs us Q I r h
 obtain⟨i,rfl,q⟩:=h
 obtain⟨u,rfl,t,rfl⟩:=bQ r
 exact call_abs_int fun u tk=>⟨.int (if i < 0 then -i else i),H,I.tok _,⟨_,rfl⟩,q⟩
theorem kr (hc:X.calm=true):bP X (.builtin "min") (fun xs H Q=>∃ i j,xs=[.int i,.int j]/\Q (.int (if j < i then j else i)) H):=by
 intro pins s σ H xs us Q I r h
 obtain⟨i,j,rfl,q⟩:=h
 obtain⟨u,w',rfl,⟨t,rfl⟩,⟨t',rfl⟩⟩:=jB r
 refine min_two_ints (I.ok.hd hc) fun h' tk k=>⟨_,H,I.kept k,?_,q⟩
 by_cases hj:j < i
 ·rw[if_pos hj,if_pos hj];exact⟨_,rfl⟩
 ·rw[if_neg hj,if_neg hj];exact⟨_,rfl⟩
theorem dO:bP X (.type "int") (fun xs H Q=>(∃ i,xs=[.int i]/\Q (.int i) H)\/∃ k,xs=[.bl k]/\Q (.int (if k then 1 else 0)) H):=by
 intro pins s σ H xs us Q I r h
 rcases h with⟨i,rfl,q⟩|⟨k,rfl,q⟩
 ·obtain⟨u,rfl,t,rfl⟩:=bQ r
  exact call_int_int ⟨.int i,H,I,⟨_,rfl⟩,q⟩
 ·obtain⟨u,rfl,r1⟩:=bQ r
  cases r1
  exact call_int_bool ⟨.int (if k then 1 else 0),H,I.tok _,⟨_,rfl⟩,q⟩
theorem dj:bP X (.type "str") (fun xs H Q=>∃ i,xs=[.int i]/\i.natAbs.log2 < 1920/\Q (.str (toString i)) H):=by
 intro pins s σ H xs us Q I r h
 obtain⟨i,rfl,hz,q⟩:=h
 obtain⟨u,rfl,t,rfl⟩:=bQ r
 exact PySem.P.str_of_int hz ⟨.str _,H,I.tok _,⟨_,rfl⟩,q⟩
def sv (K:PySem.W.Frag)(x:V)(H:Hp)(n:Nat):Prop:=
 match x with
 |.str y=>y.length<=sizeLine/\n=y.length
 |.byt y=>y.size<=sizeLine/\n=y.size
 |.ref p=>(∃ xs,SqL K H p xs/\n=xs.length)\/∃ xs,SqT K H p xs/\n=xs.length
 |_=>False
inductive nJ (K:PySem.W.Frag)(xs:List V)(H:Hp)(Q:VK):Prop
 |mk (x:V)(n:Nat)(h:xs=[x])(l:sv K x H n)(q:Q (.int n) H):nJ K xs H Q
theorem aJ:bP X (.builtin "len") (nJ X.K):=by
 intro pins s σ H xs us Q I r h
 obtain⟨x,n,rfl,e,q⟩:=h
 obtain⟨u,rfl,rx⟩:=bQ r
 have hl:=dN
 have hs:sizeLine=16777216:=sizeLine_eq
 cases x with
 |str y=>
  obtain⟨t,rfl⟩:=rx
  obtain⟨hy,e'⟩:y.length<=sizeLine/\n=y.length:=e
  subst e'
  exact len_str (by omega) ⟨.int _,H,I.tok _,⟨_,rfl⟩,q⟩
 |byt y=>
  obtain⟨t,rfl⟩:=rx
  obtain⟨hy,e'⟩:y.size<=sizeLine/\n=y.size:=e
  subst e'
  exact PySem.W.len_bytes (by omega) ⟨.int _,H,I.tok _,⟨_,rfl⟩,q⟩
 |ref p=>
  cases rx
  have e':(∃ xs,SqL X.K H p xs/\n=xs.length)\/∃ xs,SqT X.K H p xs/\n=xs.length:=e
  rcases e' with⟨xs,hx,e'⟩|⟨xs,hx,e'⟩
  ·subst e'
   obtain⟨its,r',pl,hz⟩:=I.list hx
   have hlen:=r'.length
   exact Calls.call_len_list pl.isList (by simp only [List.size_toArray];omega) ⟨.int xs.length,H,I.tok _,⟨_,by simp only [List.size_toArray];rw[hlen]⟩,q⟩
  ·subst e'
   obtain⟨its,r',pl,hz⟩:=I.tuple hx
   have hlen:=r'.length
   exact len_tuple pl (by simp only [List.size_toArray];omega) ⟨.int xs.length,H,I.tok _,⟨_,by simp only [List.size_toArray];rw[hlen]⟩,q⟩
 |_=>exact (show False from e).elim
end
end L2
namespace L2
open PySem PySem.Spec PyProof.Rows
structure ObjM (h:Heap)(x dx C:Addr)(mA:Str->Option Value):Prop where
 obj:h.get? x=some (PySem.W.instObj C dx)
 ns:h.Ns1 dx mA
 ne:dx≠x
theorem kt {h:Heap}{dx:Addr}{mA:Str->Option Value}(n:h.Ns1 dx mA):∃ od,h.get? dx=some od/\∀ name,PySem.W.lookIn name od=some (mA name):=by
 obtain⟨o,es,ep,ho,hd,hk,_,hm⟩:=n
 refine⟨o,ho,fun name=>?_⟩
 have e:=hm name
 unfold nsFind findBy at e
 rw[← Array.find?_toList] at e
 unfold PySem.W.lookIn
 rw[hd]
 dsimp only
 split
 ·rename_i y q
  rw[q] at e
  exact congrArg some e
 ·rename_i q
  rw[q] at e
  have a:es.toList.any (·.refKey)=false:=by
   rw[List.any_eq_false]
   intro y hy
   obtain⟨z,t,hkey⟩:=hk y (Array.mem_toList_iff.mp hy)
   simp [DictEntry.refKey,hkey]
  have a':¬ es.toList.any (·.refKey)=true:=by rw[a];exact Bool.false_ne_true
  rw[if_neg a']
  exact congrArg some e
theorem ObjM.look {h:Heap}{x dx C:Addr}{mA:Str->Option Value}(I:ObjM h x dx C mA):∃ od,PySem.W.InstAt h x (PySem.W.instObj C dx) C (some od)/\∀ name,PySem.W.lookIn name od=some (mA name):=
 let ⟨od,ho,hl⟩:=kt I.ns
 ⟨od,⟨I.obj,rfl,rfl,ho⟩,hl⟩
section
variable {prog:Program}{w:World}{A:Around}{E:Value->Shared->Prop}{s:Shared}{K:PySem.W.Frag}{x dx C f:Addr}{mA:Str->Option Value}{name:Str}{v:Value}
end
theorem RelO.some_of {v:V}{o:Option Value}(r:RelO (some v) o):∃ u,o=some u/\RelV v u:=by
 cases o with
 |none=>exact (show False from r).elim
 |some u=>exact⟨u,rfl,r⟩
section
variable {P:Program}{w:World}{H H':Hp}{h h':Heap}{a C dx:Addr}{fs fs':List (Str×V)}
theorem nK (hok:HOk P w H h)(e:H a=some (.ins C dx fs)):∃ mA,ObjM h a dx C mA/\(∀ f,RelO (fs.lookup f) (mA f))/\PySem.Within mA (fs.map (·.1))/\fs.length<=1000/\H dx=some (.own a):=by
 obtain⟨d,z,ne,ob,mA,n,r,q⟩:=(show ObjOk P w H h a (.ins C dx fs) from hok a _ e)
 exact⟨mA,⟨ob,n,ne⟩,r,q,z,d⟩
end
structure Cls (K:PySem.W.Frag)(C:Addr):Prop where
 pg:PySem.W.plainGet K C Str.empty=true
 hd:PySem.W.hasDictIn K C=true
 po:PySem.W.plainOver K C=true
 sa:PySem.W.findIn K (.ref C) "__setattr__"=some (some (.builtin "object.__setattr__"))
theorem Cls.get {K:PySem.W.Frag}{C:Addr}(c:Cls K C)(f:Str):PySem.W.plainGet K C f=true:=c.pg
section
variable {X:Cx}{pins:List (Addr×Obj)}{σ:St}{H:Hp}{s:Shared}{a C dx:Addr}{fs:List (Str×V)}{f:Str}{v:V}{A:Around}{E:Value->Shared->Prop}
end
section
variable {X:Cx}{o e value:Expr}{f:Str}{pos pos' tpos:Pos}{ta tv:TE}
end
section
variable {X:Cx}{pins:List (Addr×Obj)}{σ:St}{H:Hp}{s:Shared}{A:Around}{E:Value->Shared->Prop}{Q:Value->Shared->Prop}{c:Value}{b:Bool}
inductive dk (K:PySem.W.Frag)(H:Hp):V->Value->Prop where
 |non:dk K H .non (.type "NoneType")
 |bl (x:Bool):dk K H (.bl x) (.type "bool")
 |int (i:Int):dk K H (.int i) (.type "int")
 |str (x:Str):dk K H (.str x) (.type "str")
 |flt (x:UInt64):dk K H (.flt x) (.type "float")
 |lst {a:Addr} {xs:List V} (e:H a=some (.lst xs)):dk K H (.ref a) (.type "list")
 |frz {a:Addr} {o:Obj} {xs:List V} (e:H a=some (.frz o (.lst xs))):dk K H (.ref a) (.type "list")
 |tup {a:Addr} {xs:List V} (e:H a=some (.tup xs)):dk K H (.ref a) (.type "tuple")
 |dK {a:Addr} {kvs:List (bH×V)} (e:H a=some (.dK kvs)):dk K H (.ref a) (.type "dict")
 |dT {a:Addr} {kvs:List (List bH×V)} (e:H a=some (.dT kvs)):dk K H (.ref a) (.type "dict")
 |ins {a C dx:Addr} {fs:List (Str×V)} (e:H a=some (.ins C dx fs)) (cl:Cls K C) (ha:PySem.W.findIn K (.ref C) "__class__"=some (some (.builtin "object.__class__")))
   (hn:PySem.W.specialIn K (.builtin "object.__class__") "__get__"=some (some (.builtin "getset_descriptor.__get__"))) (htk:PySem.W.takesIn K (.builtin "object.__class__")=some true)
   (hm:PySem.W.mroIn K C (.type "object")=some true):dk K H (.ref a) (.ref C)
theorem ku {x:V}{u t:Value}(I:Inv X pins σ H s)(rx:RelV x u)(ty:dk X.K H x t)(e:PySem.W.kitOne X.K t c=some b)(h:∀ tk,Q (.bool b) {s with toks:=tk}):
  wpAny (model X.prog X.w) A (call (.builtin "isinstance") [u,c]) Q E s:=by
 cases ty with
 |non=>cases (show u=Value.none from rx);exact PySem.W.kia_one PySem.W.kitx_none I.kIn True.intro e (fun z=>nomatch z) h
 |bl y=>cases (show u=Value.bool y from rx);exact PySem.W.kia_one PySem.W.kitx_bool I.kIn True.intro e (fun z=>nomatch z) h
 |int i=>obtain⟨t,q⟩:=(show ∃ t,u=Value.int i t from rx);cases q;exact PySem.W.kia_one PySem.W.kitx_int I.kIn True.intro e (fun z=>nomatch z) h
 |str y=>obtain⟨t,q⟩:=(show ∃ t,u=Value.str y t from rx);cases q;exact PySem.W.kia_one PySem.W.kitx_str I.kIn True.intro e (fun z=>nomatch z) h
 |flt y=>obtain⟨t,q⟩:=(show ∃ t,u=Value.float y t from rx);cases q;exact PySem.W.kia_one PySem.W.kitx_float I.kIn True.intro e (fun z=>nomatch z) h
 |@lst a xs ea=>
  cases (show u=Value.ref a from rx)
  obtain⟨_,_,n,_,h1⟩:=(show ObjOk X.prog X.w H s.heap a (.lst xs) from I.hok a _ ea)
  exact PySem.W.kia_one PySem.W.kitx_list I.kIn ⟨_,h1,rfl⟩ e (fun z=>nomatch z) h
 |@frz a ob xs ea=>
  cases (show u=Value.ref a from rx)
  obtain⟨_,_,_,n,_,h1⟩:=(show ObjOk X.prog X.w H s.heap a (.frz ob (.lst xs)) from I.hok a _ ea)
  exact PySem.W.kia_one PySem.W.kitx_list I.kIn ⟨_,h1,rfl⟩ e (fun z=>nomatch z) h
 |@tup a xs ea=>
  cases (show u=Value.ref a from rx)
  obtain⟨_,_,_,p⟩:=(show ObjOk X.prog X.w H s.heap a (.tup xs) from I.hok a _ ea)
  obtain⟨o,h1,h2,_⟩:=p
  exact PySem.W.kia_one PySem.W.kitx_tuple I.kIn ⟨o,h1,h2⟩ e (fun z=>nomatch z) h
 |@dK a kvs ea=>
  cases (show u=Value.ref a from rx)
  obtain⟨_,_,vs,_,p⟩:=(show ObjOk X.prog X.w H s.heap a (.dK kvs) from I.hok a _ ea)
  obtain⟨o,es,ep,h1,h2,_⟩:=p
  exact PySem.W.kia_one PySem.W.kitx_dict I.kIn ⟨o,h1,h2.1⟩ e (fun z=>nomatch z) h
 |@dT a kvs ea=>
  cases (show u=Value.ref a from rx)
  obtain⟨_,_,xs,_,o,es,ep,h1,h2,_⟩:=(show ObjOk X.prog X.w H s.heap a (.dT kvs) from I.hok a _ ea)
  exact PySem.W.kia_one PySem.W.kitx_dict I.kIn ⟨o,h1,h2.1⟩ e (fun z=>nomatch z) h
 |@ins a C dx fs ea cl ha hn htk hm=>
  cases (show u=Value.ref a from rx)
  obtain⟨mA,O,_⟩:=nK I.hok ea
  obtain⟨od,J,_⟩:=O.look
  exact PySem.W.kia_one (PySem.W.kitx_own (cl.get _) cl.hd ha hn htk hm) I.kIn J e (fun z=>nomatch z) h
end
end L2
namespace L2
open PySem PySem.Spec PyProof.Rows
structure Room (k:Nat)(A:Around):Prop where
 hd:A.handled=none
 dp:A.depth+3*k+5 < recursionLimit
 un:A.units+16*k+200 < cLine
theorem Room.mono {j k:Nat}{A:Around}(r:Room k A)(h:j<=k):Room j A:=⟨r.hd,by have:=r.dp;omega,by have:=r.un;omega⟩
theorem Room.deeper {k:Nat}{A:Around}(r:Room (k+1) A)(env:Env):Room k (A.deeper env):=
 ⟨r.hd,by have:=r.dp;show A.depth+1+3*k+5 < _;omega,by have:=r.un;show A.units+3+16*k+200 < _;omega⟩
theorem Room.depth {k:Nat}{A:Around}(r:Room k A):A.depth < recursionLimit:=by have:=r.dp;omega
theorem Room.units {k:Nat}{A:Around}(r:Room k A):A.units+64 < cLine:=by have:=r.un;omega
def fO:TA:=fun _ H Q=>Q [] H
def fc (ta:TE)(tr:TA):TA:=fun σ H Q=>ta σ H fun x H1=>tr σ H1 fun xs H2=>Q (x::xs) H2
section
variable {X:Cx}{e:Expr}{es:List Expr}{te:TE}{t:TA}{pos:Pos}
theorem ac:PA X [] fO:=fun _ _ _ _ H Q I h=>Calls.spliced_nil ⟨[],H,I,.nil,h⟩
theorem aa (ha:PE X e te)(hr:PA X es t)(hs:starEach (e::es) X.env=(false,eval e X.env)::starEach es X.env:=by rfl):PA X (e::es) (fc te t):=by
 intro pos pins s σ H Q I h
 rw[hs]
 show wpAny _ _ (spliced ((false,eval e X.env)::backTo pos (starEach es X.env))) _ _ s
 refine Calls.spliced_cons (aX (ha pins s σ H _ I h) fun u s1 ⟨x,H1,I1,r1,q1⟩=>?_)
 exact aX (hr pos pins s1 σ H1 _ I1 q1) fun us s2 ⟨xs,H2,I2,r2,q2⟩=>⟨x::xs,H2,I2,.cons r1 r2,q2⟩
def pL (t:TA):TE:=fun σ H Q=>t σ H fun xs H1=>xs.length<=sizeLine/\∀ p,H1 p=none->Q (.ref p) (upd H1 p (.tup xs))
def pM (t:TA):TE:=fun σ H Q=>t σ H fun xs H1=>xs.length<=sizeLine/\∀ p,H1 p=none->Q (.ref p) (upd H1 p (.lst xs))
theorem b7 {x1}(h:PA X es t):PE X (.Tuple es x1 pos) (pL t):=by
 intro pins s σ H Q I hq
 refine wpAny_Tuple_spliced (aX (h pos pins s σ H _ I hq) fun us s1 ⟨xs,H1,I1,r,z,q⟩=>⟨by rw[← r.length];exact z,?_⟩)
 have hf:H1 s1.heap.objs.size=none:=I1.hok.fresh (Nat.le_refl _)
 refine⟨.ref s1.heap.objs.size,upd H1 s1.heap.objs.size (.tup xs),I1.laid (t':=s1.toks) (fun b u e=>Heap.get?_push_of_some _ e) (Nat.le_refl _) ?_,rfl,q _ hf⟩
 exact⟨z,us,r,⟨_,Heap.get?_push_size _ rfl,rfl,_,rfl⟩⟩
theorem bu (h:PA X es t):PE X (.List es pos) (pM t):=by
 intro pins s σ H Q I hq
 refine wpAny_List_spliced (aX (h pos pins s σ H _ I hq) fun us s1 ⟨xs,H1,I1,r,z,q⟩=>⟨by rw[← r.length];exact z,?_⟩)
 have hf:H1 s1.heap.objs.size=none:=I1.hok.fresh (Nat.le_refl _)
 refine⟨.ref s1.heap.objs.size,upd H1 s1.heap.objs.size (.lst xs),I1.laid (t':=s1.toks) (fun b u e=>Heap.get?_push_of_some _ e) (Nat.le_refl _) ?_,rfl,q _ hf⟩
 exact⟨z,us,0,r,Heap.get?_push_size _ rfl⟩
end
abbrev Sp:=List V->Hp->VK->XK->Prop
abbrev lq:=List Env->Hp->Shared->XK->Value->Shared->Prop
structure nM (P:Program)(w:World)(K:PySem.W.Frag)(mg:Str->Option Value)(base:Heap)(A:Around)(outer:List Env)(s:Shared)(H:Hp):Prop where
 frames:A.frames=some outer
 mod:Mod K mg base
 bs:∀ b o,base.get? b=some o->s.heap.get? b=some o/\H b=none
 bsz:base.objs.size<=s.heap.objs.size
 funs:s.heap.FunFrames base outer
 frf:∀ b∈cu outer,H b=none
 hok:HOk P w H s.heap
 bare:AllBare s.gens
def CE (outer:List Env)(P:Program)(w:World)(H:Hp)(s:Shared)(Q:VK)(u:Value)(s':Shared):Prop:=
 ∃ v H',s'.os=s.os/\AllBare s'.gens/\Un (cu outer) [] H H' s.heap s'.heap/\HOk P w H' s'.heap/\RelV v u/\Q v H'
def CR (CX:lq)(outer:List Env)(P:Program)(w:World)(H:Hp)(s:Shared)(Q:VK)(E:XK)(r:Result)(s':Shared):Prop:=
 match r with
 |.ok (.ret u)=>CE outer P w H s Q u s'
 |.ok _=>False
 |.error e=>CX outer H s E e s'
structure aU (P:Program)(w:World)(K:PySem.W.Frag)(mg:Str->Option Value)(base:Heap)(CX:lq)(k:Nat)(f:Addr)(fd:FuncData)(ps:List Str)(sp:Sp):Prop where
 len:∀ vs H Q E,sp vs H Q E->vs.length=ps.length
 run:∀ (A:Around) (outer:List Env) (s:Shared) (H:Hp) (args:Args) (us:List Value) (vs:List V) (Q:VK) (E:XK),Room k A->nM P w K mg base A outer s H->BindsTo s fd args (ps.zip us)->Vals vs us->sp vs H Q E->
  codeAny (model P w) A (.call (.ref f) args) (CR CX outer P w H s Q E) s
section
variable {X:Cx}{pins:List (Addr×Obj)}{σ:St}{H:Hp}{s s':Shared}
theorem Inv.env0 (I:Inv X pins σ H s):nM X.prog X.w X.K X.mg X.base X.A X.stack s H:=
 ⟨I.ok.frames,I.ok.mod,I.bs,Nat.le_trans I.ok.bsz I.sz,I.stack,I.stkFree,I.hok,I.bare⟩
theorem Inv.after {Q:VK}{u:Value}(I:Inv X pins σ H s)(h:CE X.stack X.prog X.w H s Q u s'):EP X pins σ Q u s':=by
 obtain⟨v,H',os,bare,un,hok,r,q⟩:=h
 obtain⟨hh,g,d,t,os'⟩:=s'
 obtain rfl:os'=s.os:=os
 exact⟨v,H',I.call (h':=hh) (g':=g) (d':=d) (t':=t) (ch:=[]) un hok bare (fun b z=>absurd z (by simp)),r,q⟩
end
def jC (sp:Sp)(dvs:List V)(E:XK)(t:TA):TE:=fun σ H Q=>t σ H fun vs H1=>sp (vs++dvs) H1 Q E
def Binds (K:PySem.W.Frag)(fd:FuncData)(ps:List Str)(ds:List Value):Prop:=
 ∀ (s:Shared) (us:List Value),K.In s.heap->(us++ds).length=ps.length->BindsTo s fd ⟨us,[]⟩ (ps.zip (us++ds))
theorem Binds.all {K:PySem.W.Frag}{fd:FuncData}{ps:List Str}(h:∀ us:List Value,us.length=ps.length->bindArgs fd ⟨us,[]⟩=pure (ps.zip us)):Binds K fd ps []:=fun s us _ hl=>by
 rw[List.append_nil] at hl ⊢
 exact .of_eq (h us hl)
def fe (CX:lq)(X:Cx)(E:XK):Prop:=∀ (pins:List (Addr×Obj)) (σ:St) (H:Hp) (s:Shared) (e:Value) (s':Shared),Inv X pins σ H s->CX X.stack H s E e s'->X.xe e s'
section
variable {X:Cx}{CX:lq}{k:Nat}{f C:Addr}{fd:FuncData}{ps:List Str}{sp:Sp}{dvs:List V}{ds:List Value}{E:XK}{x m:Str}{p pos apos:Pos}{e o:Expr}{es:List Expr}{ta:TE}{t:TA}
theorem pN {pins:List (Addr×Obj)}{σ:St}{H:Hp}{s:Shared}{Q:VK}{us:List Value}{vs:List V}(F:aU X.prog X.w X.K X.mg X.base CX k f fd ps sp)(hr:Room k X.A)(hb:Binds X.K fd ps ds)(hd:Vals dvs ds)(hx:fe CX X E)
  (I:Inv X pins σ H s) (r:Vals vs us) (h:sp (vs++dvs) H Q E):wpAny (model X.prog X.w) X.A (call (.ref f) us) (EP X pins σ Q) X.xe s:=by
 have r2:Vals (vs++dvs) (us++ds):=r.append hd
 have hl:(us++ds).length=ps.length:=by rw[← r2.length];exact F.len _ _ _ _ h
 refine wpAny_call (codeAny_mono (F.run X.A X.stack s H ⟨us,[]⟩ (us++ds) (vs++dvs) Q E hr I.env0 (hb s us I.kIn hl) r2 h) fun r s' hq=>?_)
 cases r with
 |error e=>exact hx pins σ H s e s' I hq
 |ok fl=>
  cases fl with
  |ret u=>exact I.after hq
  |next=>exact False.elim hq
  |brk=>exact False.elim hq
  |cont=>exact False.elim hq
theorem gv (F:aU X.prog X.w X.K X.mg X.base CX k f fd ps sp)(hr:Room k X.A)(hg:Gl X x)(hm:X.mg x=some (.ref f))(hk:PySem.W.keepIn X.K (.ref f)=true)(hb:Binds X.K fd ps ds)(hd:Vals dvs ds)(hx:fe CX X E)
  (ha:PA X (e::es) t) (hdb:(x == ("__debug__":Str))=false:=by decide) (he:starEach (e::es) X.env=(false,eval e X.env)::starEach es X.env:=by rfl) (hpl:(backTo pos (starEach es X.env)).any (·.1)=false:=by rfl):
  PE X (.Call (.Name x p) (e::es) [] pos) (jC sp dvs E t):=by
 intro pins s σ H Q I h
 refine wpAny_Call_Name_kw (dg I hg hm ?_ hdb)
 refine PySem.W.callWith_K (h₀:=X.base) I.ok.mod.kin hk (aX (ha pos pins s σ H _ I h) fun us s1 ⟨vs,H1,I1,r,q⟩=>⟨I1.kIn,?_⟩) he hpl
 exact pN F hr hb hd hx I1 r q
end
section
variable {X:Cx}{CX:lq}{k:Nat}{f C:Addr}{fd:FuncData}{ps ks:List Str}{sp:Sp}{E:XK}{x m:Str}{p pos apos kpos:Pos}{e o:Expr}{es:List Expr}{kws:List Keyword}{te ta:TE}{t tk:TA}{nm:Option Str}
variable {g:List Value->List Value->List Value}{gV:List V->List V->List V}
end
structure ax (N P:List Str)(sc:Scope):Prop where
 kind:sc.kind=.function
 co:sc.isCoroutine=false
 gen:sc.isGenerator=false
 nd:N.Nodup
 pre:N.take P.length=P
 par:∀ x∈P,sc.names.lookup x=some .local\/sc.names.lookup x=some .cell
 nofree:∀ y∈sc.names,y.2≠.free
theorem fT {kindOf:Str->Option NameKind}{x:Str}:∀ {binds:List (Str×Value)} {m:Str->Option Value},(∀ v,(x,v)∉binds)->bindL kindOf binds m x=m x
 |[],_,_=>rfl
 |(n,v)::r,m,h=>by
  unfold bindL
  rw[fT fun w hw=>h w (List.mem_cons_of_mem _ hw)]
  split
  ·have:x≠n:=by rintro rfl;exact h v List.mem_cons_self
   simp [this]
  ·rfl
theorem fU {kindOf:Str->Option NameKind}{x:Str}:∀ {binds:List (Str×Value)} {m:Str->Option Value},(∀ v,(x,v)∉binds)->bindC kindOf binds m x=m x
 |[],_,_=>rfl
 |(n,v)::r,m,h=>by
  unfold bindC
  rw[fU fun w hw=>h w (List.mem_cons_of_mem _ hw)]
  split
  ·rfl
  ·have:x≠n:=by rintro rfl;exact h v List.mem_cons_self
   simp [this]
theorem fV {kindOf:Str->Option NameKind}{x:Str}{v:Value}:∀ {P:List Str} {vs:List Value} {i:Nat} {m:Str->Option Value},P.Nodup->P[i]? =some x->vs[i]? =some v->kindOf x=some .local->
  bindL kindOf (P.zip vs) m x=some v
 |[],_,_,_,_,h,_,_=>by simp at h
 |_::_,[],_,_,_,_,h,_=>by simp at h
 |p::P,w::vs,0,m,nd,h1,h2,hk=>by
  simp at h1 h2;subst h1;subst h2
  show bindL kindOf ((p,w)::P.zip vs) m p=_
  unfold bindL
  rw[fT fun v hv=>(List.nodup_cons.mp nd).1 (List.of_mem_zip hv).1,if_pos hk]
  simp
 |p::P,w::vs,i+1,m,nd,h1,h2,hk=>by
  show bindL kindOf ((p,w)::P.zip vs) m x=_
  unfold bindL
  exact fV (i:=i) (List.nodup_cons.mp nd).2 (by simpa using h1) (by simpa using h2) hk
theorem fW {kindOf:Str->Option NameKind}{x:Str}{v:Value}:∀ {P:List Str} {vs:List Value} {i:Nat} {m:Str->Option Value},P.Nodup->P[i]? =some x->vs[i]? =some v->kindOf x≠some .local->
  bindC kindOf (P.zip vs) m x=some v
 |[],_,_,_,_,h,_,_=>by simp at h
 |_::_,[],_,_,_,_,h,_=>by simp at h
 |p::P,w::vs,0,m,nd,h1,h2,hk=>by
  simp at h1 h2;subst h1;subst h2
  show bindC kindOf ((p,w)::P.zip vs) m p=_
  unfold bindC
  rw[fU fun v hv=>(List.nodup_cons.mp nd).1 (List.of_mem_zip hv).1,if_neg hk]
  simp
 |p::P,w::vs,i+1,m,nd,h1,h2,hk=>by
  show bindC kindOf ((p,w)::P.zip vs) m x=_
  unfold bindC
  exact fW (i:=i) (List.nodup_cons.mp nd).2 (by simpa using h1) (by simpa using h2) hk
def dl (N:List Str)(vs:List V):St:=vs.map some++List.replicate (N.length - vs.length) none
def bd (CX:lq)(P:Program)(w:World)(K:PySem.W.Frag)(mg:Str->Option Value)(base:Heap)(N:List Str)(qual:Str)(scope:Scope)(f:Addr)(cd:Value)(A:Around)(outer:List Env)(s:Shared)(H:Hp)(E:XK):Cx where
 prog:=P
 w:=w
 K:=K
 mg:=mg
 base:=base
 A:=A.deeper (envOfC qual scope s.heap.objs.size f cd)
 N:=N
 s₀:=s
 H₀:=H
 env:=envOfC qual scope s.heap.objs.size f cd
 outer:=outer
 stack:=envOfC qual scope s.heap.objs.size f cd::outer
 ex:=[]
 calm:=true
 fn:=fun _=>true
 pn:=[]
 xe:=fun e s'=>wpAny (model P w) (A.deeper (envOfC qual scope s.heap.objs.size f cd)) (leaving (envOfC qual scope s.heap.objs.size f cd) e) (fun _ s''=>CX outer H s E e s'') (fun e' s''=>CX outer H s E e' s'') s'
theorem gR {sc:Scope}{n:Nat}{x:Str}(h:sc.names.lookup x=some .cell):∃ c,(cellsFrom n sc.names []).lookup x=some c:=by
 have q:=PySem.W.cellsFrom_some sc.names n [] (.inl h)
 exact Option.isSome_iff_exists.mp q
theorem kx {CX:lq}{P:Program}{w:World}{K:PySem.W.Frag}{mg:Str->Option Value}{base:Heap}{N ps:List Str}{qual:Str}{scope:Scope}{f:Addr}{cd:Value}{A:Around}{outer:List Env}{s s1:Shared}{H:Hp}{E:XK}{us:List Value}{vs:List V}
  (S:ax N ps scope) (hd:A.handled=none) (e0:nM P w K mg base A outer s H) (hl:vs.length=ps.length) (r:Vals vs us)
  (x:InCallC s s.heap.objs.size (bindL (envOfC qual scope s.heap.objs.size f cd).kindOf (ps.zip us) fun _=>none) (cellsFrom (s.heap.objs.size+1) scope.names []) (bindC (envOfC qual scope s.heap.objs.size f cd).kindOf (ps.zip us) fun _=>none) s1):
  Inv (bd CX P w K mg base N qual scope f cd A outer s H E) [] (dl N vs) H s1:=by
 have hpl:ps.length<=N.length:=by have:=congrArg List.length S.pre;rw[List.length_take] at this;omega
 obtain⟨h1,tk,rfl,hk⟩:=x.done
 have noA:∀ b:Addr,b∉(bd CX P w K mg base N qual scope f cd A outer s H E).ex:=fun b z=>absurd (show b∈([]:List Addr) from z) (by simp)
 refine⟨⟨e0.mod,S.kind,rfl,rfl,Nat.le_refl _,fun y z c h1 h2=>?_,fun y hy=>?_,fun y c _ h=>?_,fun _=>hd,Around.frames_deeper e0.frames,.inr ⟨rfl,rfl⟩,fun b z=>absurd z (noA b),e0.bs,e0.bsz,fun b _ _=>noA b,fun b z=>absurd z (noA b),e0.funs,e0.frf⟩,
  rfl,e0.bare,Un.kept hk,⟨_,x.toInCall.ns,fun i y v h1 h2 h3=>?_⟩,fun y c h=>⟨_,x.cell y c h⟩,e0.hok.fresh (Nat.le_refl _),fun y c h=>?_,fun p hp=>absurd (show p∈([]:List (Addr×Obj)) from hp) (by simp),e0.hok.kept hk,?_⟩
 ·exact name_of_addr x.apart (PySem.mem_of_lookup h1) (PySem.mem_of_lookup h2)
 ·have hy:scope.names.lookup y=some .cell\/scope.names.lookup y=some .free:=hy
  rcases hy with hy|hy
  ·exact gR hy
  ·exact absurd rfl (S.nofree _ (PySem.mem_of_lookup hy))
 ·exact Nat.le_of_lt (x.above y c (PySem.mem_of_lookup h))
 ·have hi:i < vs.length:=by
   unfold dl at h2
   by_cases hi:i < vs.length
   ·exact hi
   ·rw[List.getElem?_append_right (by simpa using hi)] at h2
    rw[List.getElem?_replicate] at h2
    split at h2<;>cases h2
  have ha:vs[i]? =some v:=by
   unfold dl at h2
   rw[List.getElem?_append_left (by simpa using hi),List.getElem?_map] at h2
   cases e:vs[i]? with
   |none=>rw[e] at h2;cases h2
   |some a=>rw[e] at h2;cases h2;rfl
  obtain⟨u,hu,rv⟩:=r.get ha
  have hp:ps[i]? =some y:=by
   rw[← S.pre,List.getElem?_take_of_lt (by omega)];exact h1
  have ndP:ps.Nodup:=by rw[← S.pre];exact S.nd.sublist (List.take_sublist _ _)
  refine⟨u,rv,?_⟩
  rcases S.par y (List.mem_of_getElem? hp) with k|k
  ·exact .inl ⟨k,fV ndP hp hu k⟩
  ·obtain⟨c,e⟩:=gR (n:=s.heap.objs.size+1) k
   refine .inr ⟨.inl k,c,e,?_⟩
   have q:=x.cell y c e
   rw[fW ndP hp hu (by show scope.names.lookup y≠_;rw[k];decide)] at q
   exact q
 ·exact e0.hok.fresh (Nat.le_of_lt (x.above y c (PySem.mem_of_lookup h)))
 ·unfold dl
  show _=N.length
  rw[List.length_append,List.length_map,List.length_replicate]
  omega
theorem oU {CX:lq}{P:Program}{w:World}{K:PySem.W.Frag}{mg:Str->Option Value}{base:Heap}{k:Nat}{f:Addr}{name qual:Str}{params:Arguments}{body:List Stmt}{scope:Scope}{dV kV doc pm cdv ct oc:Value}{an od:Option Addr}
  {osl:Array (Option Value)} {N ps:List Str} {sp:Sp} (lk:K.lookup f=some ⟨oc,od,.func (PySem.W.fnOf name qual params body scope dV kV doc pm an cdv ct),osl⟩) (hcd:PySem.W.codeIn K cdv qual=true) (S:ax N ps scope)
  (len:∀ vs H Q E,sp vs H Q E->vs.length=ps.length)
  (hbody:∀ (A:Around) (outer:List Env) (s:Shared) (H:Hp) (vs:List V) (Q:VK) (E:XK),Room k (A.deeper (envOfC qual scope s.heap.objs.size f cdv))->sp vs H Q E->
   ∃ t,PSs (bd CX P w K mg base N qual scope f cdv A outer s H E) body t/\t {nx:=fun _ H'=>Q .non H',rt:=Q} (dl N vs) H):
  aU P w K mg base CX (k+1) f (PySem.W.fnOf name qual params body scope dV kV doc pm an cdv ct) ps sp:=by
 refine⟨len,fun A outer s H args us vs Q E hr e0 hb r hsp=>?_⟩
 have hl:=len _ _ _ _ hsp
 have KX:K.In s.heap:=e0.mod.kin.keeps fun b o e=>(e0.bs b o e).1
 have lim:s.heap.NoLimit:=e0.mod.nolimit.keeps fun b o e=>(e0.bs b o e).1
 have hkind:∀ y∈ps.zip us,scope.names.lookup y.1=some .local\/(scope.names.lookup y.1=some .cell/\((cellsFrom (s.heap.objs.size+1) scope.names []).lookup y.1).isSome=true):=fun⟨n,v⟩ hy=>by
  rcases S.par n (List.of_mem_zip hy).1 with q|q
  ·exact .inl q
  ·exact .inr ⟨q,PySem.W.cellsFrom_some _ _ _ (.inl q)⟩
 refine codeAny_call_function hr.depth (KX _ _ lk) rfl S.co S.gen rfl (PySem.W.codeRec_of KX hcd) (hb _ _ _ _ ?_)
 refine wpAny_newFunctionEnv_cells S.kind hkind fun env he s1 x=>?_
 subst he
 refine⟨lim.keeps x.toInCall.keep,codeAny_func ?_⟩
 obtain⟨t,ht,hq⟩:=hbody A outer s H vs Q E (hr.deeper _) hsp
 have I:Inv (bd CX P w K mg base N qual scope f cdv A outer s H E) [] (dl N vs) H s1:=kx S hr.hd e0 hl r x
 refine wpAny_mono (ht [] s1 (dl N vs) H _ I hq) (fun fl s' hs=>?_) fun e s' hs=>hs
 have fin:∀ {σ':St} {H':Hp} {v:V} {u:Value},Inv (bd CX P w K mg base N qual scope f cdv A outer s H E) [] σ' H' s'->RelV v u->Q v H'->CE outer P w H s Q u s':=
  fun {σ' H' v u} J rv q=>⟨v,H',J.os,J.bare,J.base,J.hok,rv,q⟩
 cases fl with
 |ret u=>
  obtain⟨v,σ',H',J,rv,q⟩:=hs
  exact fin J rv q
 |next=>
  obtain⟨σ',H',J,q⟩:=hs
  exact fin (v:=V.non) (u:=Value.none) J rfl q
 |brk=>
  obtain⟨_,_,_,q⟩:=hs
  exact False.elim q
 |cont=>
  obtain⟨_,_,_,q⟩:=hs
  exact False.elim q
end L2
namespace L2
open PySem PySem.Spec PyProof.Rows
section
variable {X:Cx}{x:Str}{p pos:Pos}{e:Expr}{es:List Expr}{t:TA}{id T:String}{r:List V->Hp->VK->Prop}
def q_ (r:List V->Hp->VK->Prop)(t:TA):TE:=fun σ H Q=>t σ H fun vs H1=>r vs H1 Q
theorem ai (hc:bP X (.builtin id) r)(hg:Gl X x)(hm:X.mg x=none)(hv:bootBuiltins x=some (.builtin id))(ha:PA X (e::es) t)(hn:x≠"__name__":=by decide)(hdb:(x == ("__debug__":Str))=false:=by decide)
  (he:starEach (e::es) X.env=(false,eval e X.env)::starEach es X.env:=by rfl) (hpl:(backTo pos (starEach es X.env)).any (·.1)=false:=by rfl):PE X (.Call (.Name x p) (e::es) [] pos) (q_ r t):=by
 intro pins s σ H Q I h
 refine wpAny_Call_Name_kw (gm I hg hm hv ?_ hn hdb)
 exact PyProof.Rows.callWith_builtin1 (aX (ha pos pins s σ H _ I h) fun us s1 ⟨vs,H1,I1,r1,q1⟩=>hc pins s1 σ H1 vs us Q I1 r1 q1) he hpl
theorem aP (hc:bP X (.type T) r)(hg:Gl X x)(hm:X.mg x=none)(hv:bootBuiltins x=some (.type T))(ha:PA X (e::es) t)(hn:x≠"__name__":=by decide)(hdb:(x == ("__debug__":Str))=false:=by decide)
  (he:starEach (e::es) X.env=(false,eval e X.env)::starEach es X.env:=by rfl) (hpl:(backTo pos (starEach es X.env)).any (·.1)=false:=by rfl):PE X (.Call (.Name x p) (e::es) [] pos) (q_ r t):=by
 intro pins s σ H Q I h
 refine wpAny_Call_Name_kw (gm I hg hm hv ?_ hn hdb)
 exact PyProof.Rows.callWith_type1 (aX (ha pos pins s σ H _ I h) fun us s1 ⟨vs,H1,I1,r1,q1⟩=>hc pins s1 σ H1 vs us Q I1 r1 q1) he hpl
end
end L2
namespace HT
open PySem PyProof.Rows
section
open PySem.SeqAt
open PySem.AutoSeq1 (wpAny_loadPart')
open PySem.MeetsSeq PySem.MeetsSeq2 PySem.MeetsSeq3
end
section
variable {prog:Program}{w:World}{A:Around}{E:Value->Shared->Prop}{s:Shared}
theorem cat_tup {t b:Addr}{vs ws:List Value}{Q:Value->Shared->Prop}(ht:IsTup s.heap t vs.toArray)(hb:IsTup s.heap b ws.toArray)(hv:vs≠[])
  (h1:ws=[]->Q (.ref t) s) (h2:ws≠[]->Q (.ref s.heap.objs.size) {s with heap:=s.heap.push {cls:=.type "tuple",data:=.seq (vs++ws).toArray}})
  (hsz:vs.length+ws.length<=sizeLine):wpAny (model prog w) A (binaryOp .Add (.ref t) (.ref b)) Q E s:=by
 obtain⟨⟨cls,dd,data,sl⟩,ho,hc,n,hd⟩:=id ht
 obtain⟨⟨cls2,dd2,data2,sl2⟩,ho2,hc2,n2,hd2⟩:=id hb
 simp only at hc hd hc2 hd2
 subst hc hd hc2 hd2
 have e:vs.toArray++ws.toArray=(vs++ws).toArray:=by simp
 by_cases hw:ws=[]
 ·exact concat_meets ⟨_,ho,rfl⟩ ⟨_,ho2,rfl⟩ noFill_tuple_add seq_tuple_add PySem.F.slot_tuple_add PySem.F.entry_tuple_add (PySem.F.args_tuple_add_2 _ _)
   (tuple_addW1 t b vs.toArray ws.toArray n n2 dd dd2 sl sl2 (by simpa using hv) (by simp [hw])) ⟨ho,ho2,h1 hw⟩
 ·refine concat_meets ⟨_,ho,rfl⟩ ⟨_,ho2,rfl⟩ noFill_tuple_add seq_tuple_add PySem.F.slot_tuple_add PySem.F.entry_tuple_add (PySem.F.args_tuple_add_2 _ _)
   (tuple_addW2 t b vs.toArray ws.toArray n n2 dd dd2 sl sl2 (by simpa using hv) (by simpa using hw) (by rw[List.size_toArray,List.size_toArray];exact hsz)) ⟨ho,ho2,?_⟩
  rw[e]
  exact h2 hw
def sIx (n d:Nat):Option Int->Nat
 |none=>d
 |some v=>if v < 0 then (v+(n:Int)).toNat else min v.toNat n
theorem sIx_nat (n d k:Nat):sIx n d (some (k:Int))=min k n:=by
 show (if (k:Int) < 0 then ((k:Int)+(n:Int)).toNat else min (k:Int).toNat n)=min k n
 rw[if_neg (by omega),Int.toNat_natCast]
end
end HT
namespace L2
open PySem PySem.Spec PyProof.Rows
abbrev TO:=St->Hp->(Option Int->Hp->Prop)->Prop
def PO (X:Cx)(e:Option Expr)(t:TO):Prop:=
 ∀ (pins:List (Addr×Obj)) (s:Shared) (σ:St) (H:Hp) (Q:Option Int->Hp->Prop),Inv X pins σ H s->t σ H Q->
  wpAny (model X.prog X.w) X.A (evalPart e X.env) (fun u s'=>∃ o H',Inv X pins σ H' s'/\IsPart u o/\Q o H') X.xe s
def dm:TO:=fun _ H Q=>Q none H
def gS (t:TE):TO:=fun σ H Q=>t σ H fun x H1=>∃ i,x=.int i/\Q (some i) H1
theorem fh {ns:List Int}:∀ {us:List Value},Vals (ns.map V.int) us->IntsAre us ns:=by
 induction ns with
 |nil=>intro us r;rw[List.map_nil] at r;cases r;exact .nil
 |cons n ns ih=>
  intro us r
  rw[List.map_cons] at r
  cases r with
  |cons r1 r2=>
   obtain⟨t,e⟩:=r1
   subst e
   exact .cons n t (ih r2)
section
variable {X:Cx}{e:Expr}{te:TE}{lo hi:Option Expr}{tl th:TO}{pos p2:Pos}
theorem aO:PO X none dm:=by
 intro pins s σ H Q I h
 rw[evalPart_none]
 exact wpAny_pure ⟨none,H,I,.none,h⟩
theorem aC (h:PE X e te):PO X (some e) (gS te):=by
 intro pins s σ H Q I hw
 rw[evalPart_some]
 refine aX (h pins s σ H _ I hw) fun u s1 ⟨x,H1,I1,r1,q1⟩=>?_
 obtain⟨i,rfl,q⟩:=q1
 obtain⟨t,rfl⟩:=r1
 exact⟨some i,H1,I1,.int i t,q⟩
def sw (X:Cx)(r:V->Option Int->Option Int->Hp->VK->Prop):Prop:=
 ∀ (pins:List (Addr×Obj)) (s:Shared) (σ:St) (H:Hp) (x:V) (v vl vu:Value) (lo hi:Option Int) (sl:Addr) (Q:VK),Inv X pins σ H s->RelV x v->s.heap.IsSliceOf sl vl vu .none->IsPart vl lo->IsPart vu hi->r x lo hi H Q->
  ∃ T id,typeLookup (.type T) "__getitem__"=pure (some (.builtin id))/\s.TypeIs v T/\wpAny (model X.prog X.w) X.A (getItem v (.ref sl)) (EP X pins σ Q) X.xe s
def rc (r:V->Option Int->Option Int->Hp->VK->Prop)(te:TE)(tl th:TO):TE:=fun σ H Q=>te σ H fun x H1=>tl σ H1 fun l H2=>th σ H2 fun u H3=>r x l u H3 Q
theorem aE {r:V->Option Int->Option Int->Hp->VK->Prop}(hr:sw X r)(he:PE X e te)(hl:PO X lo tl)(hu:PO X hi th):PE X (.Subscript e (.Slice lo hi none p2) pos) (rc r te tl th):=by
 intro pins s σ H Q I h
 refine Subscript_ (aX (he pins s σ H _ I h) fun v s1 ⟨x,H1,I1,r1,q1⟩=>?_)
 refine wpAny_Slice (aX (hl pins s1 σ H1 _ I1 q1) fun vl s2 ⟨l,H2,I2,pl,q2⟩=>aX (hu pins s2 σ H2 _ I2 q2) fun vu s3 ⟨u,H3,I3,pu,q3⟩=>?_)
 rw[evalPart_none]
 refine wpAny_pure ?_
 have I4:Inv X pins σ H3 {s3 with heap:=s3.heap.push {cls:=.type "slice",data:=.fields #[vl,vu,.none]}}:=I3.kept (t':=s3.toks) fun b ob q=>Heap.get?_push_of_some _ q
 obtain⟨T,id,hT,ht,hg⟩:=hr pins {s3 with heap:=s3.heap.push {cls:=.type "slice",data:=.fields #[vl,vu,.none]}} σ H3 x v vl vu l u s3.heap.objs.size Q I4 r1 (Heap.IsSliceOf.new ..) pl pu q3
 show wpAny (model X.prog X.w) X.A (subscriptTail e (.Slice lo hi none p2) v (.ref s3.heap.objs.size)) (EP X pins σ Q) X.xe {s3 with heap:=s3.heap.push {cls:=.type "slice",data:=.fields #[vl,vu,.none]}}
 exact tail_any (ops:=[.ref s3.heap.objs.size,v]) ht hT hg (by with_unfolding_all rfl)
def b8 (xs:List V)(lo hi:Option Int):List V:=(xs.drop (HT.sIx xs.length 0 lo)).take (HT.sIx xs.length xs.length hi - HT.sIx xs.length 0 lo)
theorem gT (xs:List V)(lo hi:Option Int):(b8 xs lo hi).length<=xs.length:=by
 unfold b8
 rw[List.length_take,List.length_drop]
 omega
def re (K:PySem.W.Frag):R2:=fun x y H Q=>∃ a b xs ys,x=.ref a/\y=.ref b/\SqT K H a xs/\SqT K H b ys/\xs≠[]/\xs.length+ys.length<=sizeLine/\
 (ys=[]->Q (.ref a) H)/\(ys≠[]->∀ p,H p=none->Q (.ref p) (upd H p (.tup (xs++ys))))
theorem Vals.nil_iff {xs:List V}{us:List Value}(r:Vals xs us):us=[]↔xs=[]:=by
 cases r with
 |nil=>simp
 |cons _ _=>simp
theorem nN:OpR X (binaryOp .Add) (re X.K):=by
 intro pins s σ H x y v u Q I rx ry h
 obtain⟨a,b,xs,ys,rfl,rfl,ha,hb,hx,hz,q1,q2⟩:=h
 cases rx
 cases ry
 obtain⟨its,r1,p1,_⟩:=I.tuple ha
 obtain⟨its2,r2,p2,_⟩:=I.tuple hb
 refine HT.cat_tup p1 p2 (fun z=>hx (r1.nil_iff.mp z)) (fun z=>⟨.ref a,H,I,rfl,q1 (r2.nil_iff.mp z)⟩) (fun z=>?_) (by rw[← r1.length,← r2.length];exact hz)
 refine⟨.ref s.heap.objs.size,_,I.laid (t':=s.toks) (o:=.tup (xs++ys)) (fun b ob q=>Heap.get?_push_of_some _ q) (Nat.le_refl _) ?_,rfl,q2 (fun w=>z (r2.nil_iff.mpr w)) _ (I.hok.fresh (Nat.le_refl _))⟩
 exact⟨by rw[List.length_append];exact hz,_,r1.append r2,IsTup.new _ _⟩
end
end L2
namespace L2
open PySem PySem.Spec PyProof.Rows
def jD (n:Nat)(i:Int):Option Nat:=if 0<=i then (if i < n then some i.toNat else none) else if -(n:Int)<=i then some (i+n).toNat else none
def fX {α:Type}(xs:List α)(i:Int):Option α:=(jD xs.length i).bind fun j=>xs[j]?
theorem jE {n:Nat}{i:Int}{j:Nat}(h:jD n i=some j):seqIndex? i n=some j/\j < n/\ -(n:Int)<=i/\i < n:=by
 unfold jD at h
 by_cases h0:0<=i
 ·rw[if_pos h0] at h
  by_cases h1:i < n
  ·rw[if_pos h1] at h
   have e:i.toNat=j:=Option.some.inj h
   exact⟨by rw[seqIndex_of h0 h1,e],by omega,by omega,h1⟩
  ·rw[if_neg h1] at h;cases h
 ·rw[if_neg h0] at h
  by_cases h1:-(n:Int)<=i
  ·rw[if_pos h1] at h
   have e:(i+n).toNat=j:=Option.some.inj h
   exact⟨by rw[seqIndex_neg (by omega) h1,e],by omega,h1,by omega⟩
  ·rw[if_neg h1] at h;cases h
theorem gw {α:Type}{xs:List α}{i:Int}{v:α}(h:fX xs i=some v):∃ j,seqIndex? i xs.length=some j/\xs[j]? =some v/\j < xs.length/\ -(xs.length:Int)<=i/\i < xs.length:=by
 unfold fX at h
 cases e:jD xs.length i with
 |none=>rw[e] at h;cases h
 |some j=>
  rw[e] at h
  obtain⟨h1,h2,h3,h4⟩:=jE e
  exact⟨j,h1,h,h2,h3,h4⟩
theorem nO {α:Type}{xs:List α}{j:Nat}{v:α}(h:xs[j]? =some v):fX xs (j:Int)=some v:=by
 have hj:j < xs.length:=(List.getElem?_eq_some_iff.mp h).1
 have e:jD xs.length (j:Int)=some j:=by
  unfold jD
  rw[if_pos (by omega),if_pos (by omega)];simp
 unfold fX;rw[e];exact h
def nP (b:Expr):Prop:=∀ o i,subscripted b false o i=operate [o,i] (getItem o i)
def IxR (X:Cx)(r:R2):Prop:=
 ∀ (value slice:Expr) (pins:List (Addr×Obj)) (s:Shared) (σ:St) (H:Hp) (x y:V) (v u:Value) (Q:VK),Inv X pins σ H s->RelV x v->RelV y u->r x y H Q->
  subscripted slice false v u=operate [v,u] (getItem v u)->wpAny (model X.prog X.w) X.A (subscriptTail value slice v u) (EP X pins σ Q) X.xe s
def oV (X:Cx)(id:String)(r:V->List V->Hp->VK->Prop):Prop:=
 ∀ (pins:List (Addr×Obj)) (s:Shared) (σ:St) (H:Hp) (x:V) (xs:List V) (v:Value) (us:List Value) (Q:VK),Inv X pins σ H s->RelV x v->Vals xs us->r x xs H Q->
  wpAny (model X.prog X.w) X.A (call (.builtin id) (v::us)) (EP X pins σ Q) X.xe s
section
variable {X:Cx}{a b:Expr}{ta tb:TE}{pos:Pos}
theorem IxR.or {r r':R2}(h:IxR X r)(h':IxR X r'):IxR X (fun x y H Q=>r x y H Q\/r' x y H Q):=by
 intro value slice pins s σ H x y v u Q I rx ry q hs
 rcases q with q|q
 ·exact h value slice pins s σ H x y v u Q I rx ry q hs
 ·exact h' value slice pins s σ H x y v u Q I rx ry q hs
theorem aF {r:R2}(hr:IxR X r)(ha:PE X a ta)(hb:PE X b tb)(hs:nP b):PE X (.Subscript a b pos) (eM r ta tb):=by
 intro pins s σ H Q I h
 exact Subscript_ (pD ha hb I h fun v u s2 x y H2 I2 rx ry q=>hr a b pins s2 σ H2 x y v u Q I2 rx ry q (hs _ _))
inductive rf (K:PySem.W.Frag)(x y:V)(H:Hp)(Q:VK):Prop
 |mk (p:Addr)(xs:List V)(i:Int)(v:V)(hx:x=.ref p)(hy:y=.int i)(h:SqL K H p xs)(e:fX xs i=some v)(q:Q v H):rf K x y H Q
inductive rg (K:PySem.W.Frag)(x y:V)(H:Hp)(Q:VK):Prop
 |mk (p:Addr)(xs:List V)(i:Int)(v:V)(hx:x=.ref p)(hy:y=.int i)(h:SqT K H p xs)(e:fX xs i=some v)(q:Q v H):rg K x y H Q
inductive rh (x y:V)(H:Hp)(Q:VK):Prop
 |mk (z:Str)(i:Int)(c:Nat)(hx:x=.str z)(hy:y=.int i)(h:z.length<=sizeLine)(e:fX z.cps.toList i=some c)(q:Q (.str ⟨#[c]⟩) H):rh x y H Q
def rj (K:PySem.W.Frag):R2:=fun x y H Q=>rf K x y H Q
def rk (K:PySem.W.Frag):R2:=fun x y H Q=>rg K x y H Q
def rl:R2:=fun x y H Q=>rh x y H Q
theorem ix_list:IxR X (rj X.K):=by
 intro value slice pins s σ H x y v u Q I rx ry h hs
 obtain⟨p,xs,i,z,rfl,rfl,hq,he,q⟩:=h
 cases rx
 obtain⟨t,rfl⟩:=ry
 obtain⟨its,r,pl,hz⟩:=I.list hq
 obtain⟨j,h1,h2,h3,h4,h5⟩:=gw he
 obtain⟨w,ew,rw'⟩:=r.get h2
 have hl:=r.length
 have hn:=dN
 have fin:EP X pins σ Q w s:=⟨z,H,I,rw',q⟩
 by_cases h0:0<=i
 ·have hj:i.toNat=j:=by
   rw[seqIndex_of h0 h5] at h1
   exact Option.some.inj h1
  exact item_listR pl.isList h0 (by omega) (by rw[hj];simpa using ew) fin hs
 ·have hj:(i+(its.toArray.size:Int)).toNat=j:=by
   rw[seqIndex_neg (by omega) h4] at h1
   rw[List.size_toArray,← hl]
   exact Option.some.inj h1
  exact subscriptTail_builtinR (x:=w) pl.isList.typeIs slot_list_getitem.lookup
   (wpAny_getItem_list_neg (Q:=fun r s'=>r=w/\EP X pins σ Q r s') pl.isList (by omega) (by rw[List.size_toArray]<;>omega) (by omega) (by rw[hj];simpa using ew) ⟨rfl,fin⟩) hs
theorem ix_tup:IxR X (rk X.K):=by
 intro value slice pins s σ H x y v u Q I rx ry h hs
 obtain⟨p,xs,i,z,rfl,rfl,hq,he,q⟩:=h
 cases rx
 obtain⟨t,rfl⟩:=ry
 obtain⟨its,r,pl,hz⟩:=I.tuple hq
 obtain⟨j,h1,h2,h3,h4,h5⟩:=gw he
 obtain⟨w,ew,rw'⟩:=r.get h2
 have hl:=r.length
 have hn:=dN
 have fin:EP X pins σ Q w s:=⟨z,H,I,rw',q⟩
 exact subscriptTail_builtinR (x:=w) pl.typeIs slot_tuple_getitem.lookup
  (getItem_tuple (j:=j) (Q:=fun r s'=>r=w/\EP X pins σ Q r s') pl (by omega) (by omega) (by rw[List.size_toArray,← hl];exact h1) (by simpa using ew) ⟨rfl,fin⟩) hs
theorem pO:IxR X rl:=by
 intro value slice pins s σ H x y v u Q I rx ry h hs
 obtain⟨z,i,c,rfl,rfl,hz,he,q⟩:=h
 obtain⟨t,rfl⟩:=rx
 obtain⟨t',rfl⟩:=ry
 obtain⟨j,h1,h2,h3,h4,h5⟩:=gw he
 have hl:z.cps.toList.length=z.length:=by simp [Str.length]
 rw[hl] at h1 h4 h5
 have hn:=dN
 exact tail_any (typeIs_str s z t) slot_str_getitem.lookup (getItem_str (c:=c) (by
  have e1:decide (i < -(2 ^ 63:Int))=false:=decide_eq_false (by omega)
  have e2:decide (i>=2 ^ 63)=false:=decide_eq_false (by omega)
  rw[e1,e2,Bool.or_false]) (by rw[h1];simpa using h2) ⟨.str ⟨#[c]⟩,H,I.tok _,⟨_,rfl⟩,q⟩) hs
def rS (K:PySem.W.Frag):R2:=fun x y H Q=>rj K x y H Q\/rk K x y H Q\/rl x y H Q
theorem ay:IxR X (rS X.K):=ix_list.or (ix_tup.or pO)
theorem iQ (its:List Value)(n j:Nat)(u:Value):Obj.mapSeq (·.setIfInBounds j u) {cls:=.type "list",data:=.seq its.toArray n}={cls:=.type "list",data:=.seq (its.set j u).toArray n}:=by
 simp [Obj.mapSeq]
theorem Inv.lst {pins:List (Addr×Obj)}{σ:St}{H:Hp}{s:Shared}{p:Addr}{xs:List V}(I:Inv X pins σ H s)(h:H p=some (.lst xs)):
  ∃ (its:List Value) (n:Nat),Vals xs its/\s.heap.get? p=some {cls:=.type "list",data:=.seq its.toArray n}/\xs.length<=sizeLine:=by
 obtain⟨z,its,n,r,e⟩:=I.hok p _ h
 exact⟨its,n,r,e,z⟩
theorem Inv.lstUpd {pins:List (Addr×Obj)}{σ:St}{H:Hp}{s:Shared}{p:Addr}{xs ys:List V}{its its':List Value}{n n':Nat}{f:Obj->Obj}(I:Inv X pins σ H s)(h:H p=some (.lst xs))
  (ho:s.heap.get? p=some {cls:=.type "list",data:=.seq its.toArray n}) (hf:f {cls:=.type "list",data:=.seq its.toArray n}={cls:=.type "list",data:=.seq its'.toArray n'}) (r:Vals ys its') (hz:ys.length<=sizeLine) (t:Nat):
  Inv X pins σ (upd H p (.lst ys)) {s with heap:=s.heap.update p f,toks:=t}:=by
 have e:(s.heap.update p f).get? p=some {cls:=.type "list",data:=.seq its'.toArray n'}:=by
  rw[Heap.get?_update_self f ho (by rw[hf]<;>rfl),hf]
 refine I.write (x:=p) (e:=p) (by rw[h];trivial) (.inl rfl) (fun b u hb q=>(Heap.get?_update_other _ _ (Ne.symm hb)).trans q) ⟨_,e⟩ ?_
 exact⟨hz,its',n',r,e⟩
def rm:V->V->V->Hp->(Hp->Prop)->Prop:=fun o i v H Q=>∃ p xs k j,o=.ref p/\i=.int k/\H p=some (.lst xs)/\jD xs.length k=some j/\Q (upd H p (.lst (xs.set j v)))
theorem dn:qQ X rm:=by
 intro pins s σ H o i v ov iv u Q I ro ri rv h
 obtain⟨p,xs,k,j,rfl,rfl,hp,hj,q⟩:=h
 cases ro
 obtain⟨t,rfl⟩:=ri
 obtain⟨its,n,r,ho,hz⟩:=I.lst hp
 obtain⟨h1,h2,h3,h4⟩:=jE hj
 have hl:=r.length
 have hn:=dN
 have I':Inv X pins σ (upd H p (.lst (xs.set j v))) {s with heap:=s.heap.update p (Obj.mapSeq (·.setIfInBounds j u))}:=
  I.lstUpd hp ho (iQ its n j u) (r.set rv j) (by rw[List.length_set];exact hz) s.toks
 by_cases h0:0<=k
 ·have hk:k.toNat=j:=by
   rw[seqIndex_of h0 h4] at h1
   exact Option.some.inj h1
  exact PySem.W.ki_setAt ho h0 (by omega) (by rw[List.size_toArray,← hl];exact h4) (by rw[hk];exact⟨_,I',q⟩)
 ·have hk:(k+(its.toArray.size:Int)).toNat=j:=by
   rw[seqIndex_neg (by omega) h3] at h1
   rw[List.size_toArray,← hl]
   exact Option.some.inj h1
  exact PySem.W.ki_setBack ho (by omega) (by rw[List.size_toArray,← hl];exact h3) (by omega) (by rw[hk];exact⟨_,I',q⟩)
theorem gx (lo hi:Option Int)(n:Nat):(sliceBounds lo hi none n).1=((HT.sIx n 0 lo:Nat):Int)/\(sliceBounds lo hi none n).2.1=((HT.sIx n n hi:Nat):Int)/\(sliceBounds lo hi none n).2.2=1:=by
 refine⟨?_,?_,rfl⟩
 ·cases lo with
  |none=>simp [sliceBounds,HT.sIx]
  |some i=>
   simp only [sliceBounds,HT.sIx,Option.getD_none,show (1:Int) > 0 by decide,if_true]
   by_cases h:i < 0
   ·simp only [h,if_true]<;>omega
   ·simp only [h,if_false]<;>omega
 ·cases hi with
  |none=>simp [sliceBounds,HT.sIx]
  |some i=>
   simp only [sliceBounds,HT.sIx,Option.getD_none,show (1:Int) > 0 by decide,if_true]
   by_cases h:i < 0
   ·simp only [h,if_true]<;>omega
   ·simp only [h,if_false]<;>omega
theorem fP (its:List Value)(lo hi:Option Int):slicePick its.toArray lo hi none=((its.drop (HT.sIx its.length 0 lo)).take (HT.sIx its.length its.length hi - HT.sIx its.length 0 lo)).toArray:=by
 obtain⟨h1,h2,h3⟩:=gx lo hi its.toArray.size
 unfold slicePick
 rw[h1,h2,h3]
 simp only [sliceRange_one,pick_run,List.size_toArray]<;>rfl
def sx (K:PySem.W.Frag):V->Option Int->Option Int->Hp->VK->Prop:=fun x lo hi H Q=>∃ a xs,x=.ref a/\SqL K H a xs/\∀ p,H p=none->Q (.ref p) (upd H p (.lst (b8 xs lo hi)))
theorem cQ:sw X (sx X.K):=by
 intro pins s σ H x v vl vu lo hi sl Q I rx hs pl pu h
 obtain⟨a,xs,rfl,hx,q⟩:=h
 cases rx
 obtain⟨its,r,ht,hz⟩:=I.list hx
 have hlen:=r.length
 refine⟨"list",_,slot_list_getitem.lookup,ht.isList.typeIs,?_⟩
 refine wpAny_getItem_list_slice ht.isList hs pl pu .none (by simp) ?_ (by rw[List.size_toArray]<;>omega)
 rw[fP,← hlen]
 refine⟨.ref s.heap.objs.size,_,I.laid (t':=s.toks) (o:=.lst (b8 xs lo hi)) (fun b ob q=>Heap.get?_push_of_some _ q) (Nat.le_refl _) ?_,rfl,q _ (I.hok.fresh (Nat.le_refl _))⟩
 exact⟨Nat.le_trans (gT xs lo hi) hz,_,0,(r.drop (HT.sIx xs.length 0 lo)).take (HT.sIx xs.length xs.length hi - HT.sIx xs.length 0 lo),Heap.get?_push_size _ rfl⟩
def cW:V->Bool
 |.non=>true
 |.bl _=>true
 |.int _=>true
 |.str _=>true
 |_=>false
def lC:V->V->Bool
 |.non,.non=>true
 |.bl a,.bl b=>a == b
 |.bl a,.int b=>(if a then 1 else 0) == b
 |.int a,.bl b=>a == (if b then 1 else 0)
 |.int a,.int b=>a == b
 |.str a,.str b=>a == b
 |_,_=>false
theorem pP {A:Around}{s:Shared}{y x:V}{u v:Value}(ry:RelV y u)(rx:RelV x v)(fy:cW y=true)(fx:cW x=true):SeqAt.EqAt A s u v (lC y x):=by
 cases y with
 |non=>
  cases ry
  cases x with
  |non=>cases rx;exact SeqAt.EqAt.same _
  |bl b=>cases rx;exact SeqAt.EqAt.none_bool b
  |int b=>obtain⟨t,rfl⟩:=rx;exact SeqAt.EqAt.none_int b t
  |str b=>obtain⟨t,rfl⟩:=rx;exact SeqAt.EqAt.none_str b t
  |_=>exact absurd (show false=true from fx) Bool.false_ne_true
 |bl a=>
  cases ry
  cases x with
  |non=>cases rx;exact SeqAt.EqAt.bool_none a
  |bl b=>cases rx;exact SeqAt.EqAt.bool_bool a b
  |int b=>obtain⟨t,rfl⟩:=rx;exact SeqAt.EqAt.bool_int a b t
  |str b=>obtain⟨t,rfl⟩:=rx;exact SeqAt.EqAt.bool_str a b t
  |_=>exact absurd (show false=true from fx) Bool.false_ne_true
 |int a=>
  obtain⟨t',rfl⟩:=ry
  cases x with
  |non=>cases rx;exact SeqAt.EqAt.int_none a t'
  |bl b=>cases rx;exact SeqAt.EqAt.int_bool a t' b
  |int b=>obtain⟨t,rfl⟩:=rx;exact SeqAt.EqAt.int_int a t' b t
  |str b=>obtain⟨t,rfl⟩:=rx;exact SeqAt.EqAt.int_str a t' b t
  |_=>exact absurd (show false=true from fx) Bool.false_ne_true
 |str a=>
  obtain⟨t',rfl⟩:=ry
  cases x with
  |non=>cases rx;exact SeqAt.EqAt.str_none a t'
  |bl b=>cases rx;exact SeqAt.EqAt.str_bool a t' b
  |int b=>obtain⟨t,rfl⟩:=rx;exact SeqAt.EqAt.str_int a t' b t
  |str b=>obtain⟨t,rfl⟩:=rx;exact SeqAt.EqAt.str_str a t' b t
  |_=>exact absurd (show false=true from fx) Bool.false_ne_true
 |_=>exact absurd (show false=true from fy) Bool.false_ne_true
def nQ (x:V)(u:Value):Bool:=match u with
 |.none=>lC .non x
 |.bool b=>lC (.bl b) x
 |.int i _=>lC (.int i) x
 |.str z _=>lC (.str z) x
 |_=>false
theorem lD {x y:V}{u:Value}(r:RelV y u)(f:cW y=true):nQ x u=lC y x:=by
 cases y with
 |non=>cases r;rfl
 |bl b=>cases r;rfl
 |int i=>obtain⟨t,rfl⟩:=r;rfl
 |str z=>obtain⟨t,rfl⟩:=r;rfl
 |_=>exact absurd (show false=true from f) Bool.false_ne_true
theorem gy {x:V}:∀ {xs:List V} {us:List Value},Vals xs us->xs.all cW=true->us.any (nQ x)=xs.any fun y=>lC y x
 |_,_,.nil,_=>rfl
 |y::xs,u::us,.cons r t,f=>by
  rw[List.all_cons,Bool.and_eq_true] at f
  rw[List.any_cons,List.any_cons,lD r f.1,gy t f.2]
theorem fi {A:Around}{s:Shared}{x:V}{v:Value}(rx:RelV x v)(fx:cW x=true):∀ {xs:List V} {us:List Value},Vals xs us->xs.all cW=true->∀ u∈us,SeqAt.EqAt A s u v (nQ x u)
 |_,_,.nil,_=>fun u hu=>by cases hu
 |y::xs,u::us,.cons r t,f=>fun u' hu=>by
  rw[List.all_cons,Bool.and_eq_true] at f
  rcases List.mem_cons.mp hu with rfl|hu
  ·rw[lD r f.1];exact pP r rx f.1 fx
  ·exact fi rx fx t f.2 u' hu
def nA (x:V)(xs:List V):Bool:=xs.any fun y=>lC y x
inductive sU (K:PySem.W.Frag)(neg:Bool)(x y:V)(H:Hp)(Q:VK):Prop
 |mk (p:Addr)(xs:List V)(hy:y=.ref p)(h:SqL K H p xs\/SqT K H p xs)(fx:cW x=true)(fs:xs.all cW=true)(q:Q (.bl (if neg then !nA x xs else nA x xs)) H):sU K neg x y H Q
def sV (K:PySem.W.Frag)(neg:Bool):R2:=fun x y H Q=>sU K neg x y H Q
theorem fY:OpR X (compareOp .In) (sV X.K false):=by
 intro pins s σ H x y v u Q I rx ry h
 obtain⟨p,xs,rfl,hq,fx,fs,q⟩:=h
 cases ry
 rcases hq with hq|hq
 ·obtain⟨its,r,pl,hz⟩:=I.list hq
  refine SeqAt.in_listAt (nQ x) pl.isList (fun w hw=>fi rx fx r fs w (by simpa using hw)) ⟨.bl _,H,I,rfl,?_⟩
  rw[show its.toArray.any (nQ x)=its.any (nQ x) by simp,gy r fs]
  exact q
 ·obtain⟨its,r,pl,hz⟩:=I.tuple hq
  refine SeqAt.in_tupleAt (nQ x) pl (fun w hw=>fi rx fx r fs w (by simpa using hw)) ⟨.bl _,H,I,rfl,?_⟩
  rw[show its.toArray.any (nQ x)=its.any (nQ x) by simp,gy r fs]
  exact q
theorem dq:bP X (.type "list") (fun xs H Q=>∃ p ys,xs=[.ref p]/\(SqL X.K H p ys\/SqT X.K H p ys)/\∀ l,H l=none->Q (.ref l) (upd H l (.lst ys))):=by
 intro pins s σ H xs us Q I r h
 obtain⟨p,ys,rfl,hq,q⟩:=h
 obtain⟨u,rfl,rx⟩:=bQ r
 cases rx
 have fin:∀ (its:List Value),Vals ys its->ys.length<=sizeLine->∀ (h':Heap) (c':Nat),(∀ b o',s.heap.get? b=some o'->h'.get? b=some o')->
   h'.get? s.heap.objs.size=some {cls:=.type "list",dict:=none,data:=.seq its.toArray c',slots:=#[]}->EP X pins σ Q (.ref s.heap.objs.size) {s with heap:=h'}:=fun its r' hz h' c' kp e=>
  ⟨.ref s.heap.objs.size,_,I.laid (t':=s.toks) kp (Nat.le_refl _) (show ObjOk X.prog X.w _ h' _ (.lst ys) from ⟨hz,its,c',r',e⟩),rfl,q _ (I.hok.fresh (Nat.le_refl _))⟩
 rcases hq with hq|hq
 ·obtain⟨its,r',pl,hz⟩:=I.list hq
  have hlen:=r'.length
  obtain⟨o,ho,hc,n,hd⟩:=pl.isList
  exact call_list_seq p (.inl rfl) ho hc hd (fun h' c' kp e=>fin its r' hz h' c' kp e) (by simp only [List.size_toArray]<;>omega)
 ·obtain⟨its,r',pl,hz⟩:=I.tuple hq
  have hlen:=r'.length
  obtain⟨o,ho,hc,n,hd⟩:=pl
  exact call_list_seq p (.inr rfl) ho hc hd (fun h' c' kp e=>fin its r' hz h' c' kp e) (by simp only [List.size_toArray]<;>omega)
theorem bN:bP X (.type "tuple") (fun xs H Q=>∃ p ys,xs=[.ref p]/\((SqL X.K H p ys/\∀ l,H l=none->Q (.ref l) (upd H l (.tup ys)))\/(SqT X.K H p ys/\Q (.ref p) H))):=by
 intro pins s σ H xs us Q I r h
 obtain⟨p,ys,rfl,h⟩:=h
 obtain⟨u,rfl,rx⟩:=bQ r
 cases rx
 rcases h with⟨hq,q⟩|⟨hq,q⟩
 ·obtain⟨its,r',pl,hz⟩:=I.list hq
  have hlen:=r'.length
  refine call_tuple_list pl.isList (fun h' kp=>?_) (by simp only [List.size_toArray]<;>omega)
  have I1:Inv X pins σ H {s with heap:=h'}:=I.kept (t':=s.toks) kp
  have I2:Inv X pins σ (upd H h'.objs.size (.tup ys)) {s with heap:=h'.push {cls:=.type "tuple",data:=.seq its.toArray}}:=
   I1.laid (t':=s.toks) (fun b o e=>Heap.get?_push_of_some _ e) (Nat.le_refl _) (show ObjOk X.prog X.w _ _ _ (.tup ys) from ⟨hz,its,r',IsTup.new _ _⟩)
  exact⟨.ref h'.objs.size,_,I2,rfl,q _ (I1.hok.fresh (Nat.le_refl _))⟩
 ·obtain⟨its,r',pl,hz⟩:=I.tuple hq
  exact call_tuple_same pl ⟨.ref p,H,I,rfl,q⟩
def sy (K:PySem.W.Frag)(T:String)(x:V)(H:Hp):Prop:=match x with
 |.str _=>T="str"
 |.int _=>T="int"
 |.ref p=>(T="list"/\∃ xs,SqL K H p xs)\/(T="tuple"/\∃ o,K.lookup p=some o/\o.cls=.type "tuple"/\o.dict=none)\/
   (T="dict"/\((∃ kvs,H p=some (.dK kvs))\/∃ kvs,H p=some (.dT kvs)))\/(T="set"/\∃ S n,H p=some (.set S n))
 |_=>False
theorem lE {pins:List (Addr×Obj)}{σ:St}{H:Hp}{s:Shared}{T:String}{x:V}{v:Value}(I:Inv X pins σ H s)(r:RelV x v)(ty:sy X.K T x H):
  s.TypeIs v T/\∀ a,v=.ref a->∃ ob,s.heap.get? a=some ob/\ob.dict=none:=by
 cases x with
 |str z=>
  obtain⟨t,rfl⟩:=r
  cases (show T="str" from ty)
  exact⟨typeIs_str s z t,fun _ e=>nomatch e⟩
 |int i=>
  obtain⟨t,rfl⟩:=r
  cases (show T="int" from ty)
  exact⟨typeIs_int s i t,fun _ e=>nomatch e⟩
 |ref p=>
  cases r
  rcases ty with⟨rfl,xs,hq⟩|⟨rfl,o,hk,hc,hd⟩|⟨rfl,hk⟩|⟨rfl,S,n,hk⟩
  ·obtain⟨its,_,pl,_⟩:=I.list hq
   refine⟨pl.isList.typeIs,fun a e=>?_⟩
   cases e
   obtain⟨o,n,e,c,hd,_⟩:=pl
   exact⟨o,e,hd⟩
  ·refine⟨⟨o,I.kIn p o hk,hc⟩,fun a e=>?_⟩
   cases e
   exact⟨o,I.kIn _ o hk,hd⟩
  ·have z:∃ o,s.heap.get? p=some o/\o.ExactDict:=by
    rcases hk with⟨kvs,hk⟩|⟨kvs,hk⟩
    ·obtain⟨_,_,_,_,o,_,_,e,ex,_⟩:=I.hok p _ hk
     exact⟨o,e,ex⟩
    ·obtain⟨_,_,_,_,o,_,_,e,ex,_⟩:=I.hok p _ hk
     exact⟨o,e,ex⟩
   obtain⟨o,e,ex⟩:=z
   refine⟨⟨o,e,ex.1⟩,fun a e2=>?_⟩
   cases e2
   exact⟨o,e,ex.2.1⟩
  ·obtain⟨o,_,_,_,e,ex,_⟩:=I.hok p _ hk
   refine⟨⟨o,e,ex.1⟩,fun a e2=>?_⟩
   cases e2
   exact⟨o,e,ex.2.1⟩
 |_=>exact False.elim ty
def sA (K:PySem.W.Frag)(T:String)(r:V->List V->Hp->VK->Prop)(to:TE):TE:=fun σ H Q=>to σ H fun x H1=>sy K T x H1/\r x [] H1 Q
def sC (K:PySem.W.Frag)(T:String)(r:V->List V->Hp->VK->Prop)(to:TE)(t:TA):TE:=fun σ H Q=>to σ H fun x H1=>sy K T x H1/\t σ H1 fun xs H2=>r x xs H2 Q
variable {o e:Expr}{es:List Expr}{to:TE}{t:TA}{name:Str}{apos cpos:Pos}{T id:String}{r:V->List V->Hp->VK->Prop}
theorem pQ (pa:PlainAttrs T)(slot:Slot T name id)(hty:typeOf (.builtin id)=pure (.type "method_descriptor"))(hm:oV X id r)(ho:PE X o to)
  (hbase:attributeBase o name X.env (eval o X.env)=eval o X.env:=by rfl) (hline:(apos.endLine == cpos.line)=true:=by rfl):PE X (.Call (.Attribute o name apos) [] [] cpos) (sA X.K T r to):=by
 intro pins s σ H Q I h
 refine wpAny_Call_method0_late hbase hline (aX (ho pins s σ H _ I h) fun v s1 ⟨x,H1,I1,r1,ty,q1⟩=>?_)
 obtain⟨h1,h2⟩:=lE I1 r1 ty
 exact⟨T,id,pa,slot,hty,h1,h2,Calls.callWith_builtin rfl (PySem.evalArgs_none (hm pins s1 σ H1 x [] v [] Q I1 r1 .nil q1))⟩
theorem bi (pa:PlainAttrs T)(slot:Slot T name id)(hty:typeOf (.builtin id)=pure (.type "method_descriptor"))(hm:oV X id r)(ho:PE X o to)(ha:PA X (e::es) t)
  (hbase:attributeBase o name X.env (eval o X.env)=eval o X.env:=by rfl)
  (hfew:((backTo cpos (starEach (e::es) X.env)).all (fun x=>!x.1)&&(backToKw cpos (keywordEach [] X.env)).all (fun x=>x.1.isSome)
   &&decide ((e::es).length+([]:List Keyword).length+(if ([]:List Keyword).isEmpty then 0 else 1) < 30))=true:=by rfl)
  (hline:(apos.endLine == cpos.line)=true:=by rfl) (hs:starEach (e::es) X.env=(false,eval e X.env)::starEach es X.env:=by rfl) (hplain:(backTo cpos (starEach es X.env)).any (·.1)=false:=by rfl):
  PE X (.Call (.Attribute o name apos) (e::es) [] cpos) (sC X.K T r to t):=by
 intro pins s σ H Q I h
 refine wpAny_Call_method_late hbase hfew hline rfl (aX (ho pins s σ H _ I h) fun v s1 ⟨x,H1,I1,r1,ty,q1⟩=>?_)
 obtain⟨h1,h2⟩:=lE I1 r1 ty
 refine⟨T,id,pa,slot,hty,h1,h2,?_⟩
 have hA:=ha cpos pins s1 σ H1 _ I1 q1
 rw[hs] at hA ⊢
 refine Calls.callWith_builtin (by show (false || (backTo cpos (starEach es X.env)).any (·.1))=false;rw[hplain]<;>rfl) (Calls.evalArgs_plain ?_)
 exact aX hA fun us s2 ⟨vs,H2,I2,r2,q2⟩=>hm pins s2 σ H2 x vs v us Q I2 r1 r2 q2
end
end L2
namespace L2
open PySem PySem.Spec PyProof.Rows
def sD (X:Cx)(id:String)(r:V->List V->Hp->VK->Prop):Prop:=
 ∀ (pins:List (Addr×Obj)) (s:Shared) (σ:St) (H:Hp) (x:V) (xs:List V) (v:Value) (us:List Value) (Q:VK),Inv X pins σ H s->RelV x v->Vals xs us->r x xs H Q->
  wpAny (model X.prog X.w) X.A (call (.builtin id) (v::us)) (EP X pins σ Q) X.xe s
theorem Vals.one:∀ {x:V} {us:List Value},Vals [x] us->∃ u,us=[u]/\RelV x u
 |_,_,.cons r .nil=>⟨_,rfl,r⟩
theorem Vals.zero:∀ {us:List Value},Vals [] us->us=[]
 |_,.nil=>rfl
theorem Vals.rep {xs:List V}{us:List Value}(h:Vals xs us):∀ k:Nat,Vals (List.replicate k xs).flatten (List.replicate k us).flatten
 |0=>.nil
 |k+1=>by
  rw[List.replicate_succ,List.replicate_succ,List.flatten_cons,List.flatten_cons]
  exact Vals.append h (Vals.rep h k)
theorem fZ (its:List Value):∀ (k:Nat) (acc:List Value),
  List.foldl (fun x1 x2=>x1++x2) acc.toArray (List.replicate k its.toArray)=(acc++(List.replicate k its).flatten).toArray
 |0,acc=>by simp
 |k+1,acc=>by
  have e:acc.toArray++its.toArray=(acc++its).toArray:=by simp
  have e2:(acc++its)++(List.replicate k its).flatten=acc++(List.replicate (k+1) its).flatten:=by
   rw[List.replicate_succ,List.flatten_cons,List.append_assoc]
  rw[← e2,← fZ its k (acc++its),← e,List.replicate_succ,List.foldl_cons]
section
variable {X:Cx}{pins:List (Addr×Obj)}{σ:St}{H:Hp}{s:Shared}{l b:Addr}{xs ys zs:List V}
theorem Inv.lset {its its':List Value}{n:Nat}{f:Array Value->Array Value}{t':Nat}(I:Inv X pins σ H s)(hH:H l=some (.lst xs))
  (e:s.heap.get? l=some {cls:=.type "list",data:=.seq its.toArray n}) (hf:f its.toArray=its'.toArray) (hv:Vals ys its') (hz:ys.length<=sizeLine):
  Inv X pins σ (upd H l (.lst ys)) {s with heap:=s.heap.update l (Obj.mapSeq f),toks:=t'}:=by
 have q:=PySem.IsL.update e f
 rw[hf] at q
 refine I.write (x:=l) (e:=l) (by rw[hH];exact trivial) (.inl rfl) (fun b' u hb hu=>(Heap.get?_update_other s.heap (Obj.mapSeq f) (Ne.symm hb)).trans hu) ⟨_,q⟩ ?_
 exact⟨hz,its',_,hv,q⟩
theorem Inv.lnew {its:List Value}{t':Nat}(I:Inv X pins σ H s)(hv:Vals ys its)(hz:ys.length<=sizeLine):
  Inv X pins σ (upd H s.heap.objs.size (.lst ys)) {s with heap:=s.heap.push {cls:=.type "list",data:=.seq its.toArray},toks:=t'}:=
 I.laid (fun _ _ q=>Heap.get?_push_of_some _ q) (Nat.le_refl _) ⟨hz,its,0,hv,Heap.get?_push_size _ rfl⟩
theorem Inv.fresh (I:Inv X pins σ H s):H s.heap.objs.size=none:=I.hok.fresh (Nat.le_refl _)
theorem Inv.lstM (I:Inv X pins σ H s)(hH:H l=some (.lst xs)):xs.length<=sizeLine/\∃ (its:List Value) (n:Nat),Vals xs its/\xs.length=its.length/\s.heap.get? l=some {cls:=.type "list",data:=.seq its.toArray n}:=by
 obtain⟨z,its,n,r,e⟩:=I.hok l _ hH
 exact⟨z,its,n,r,r.length,e⟩
theorem gU {n:Nat}(h:n<=sizeLine):Builtin.List.listTooLong n=false:=by
 unfold Builtin.List.listTooLong
 exact decide_eq_false (by omega)
end
section
variable {X:Cx}
inductive rn (x:V)(vs:List V)(H:Hp)(Q:VK):Prop
 |mk (l:Addr)(xs:List V)(y:V)(hx:x=.ref l)(hv:vs=[y])(h:H l=some (.lst xs))(z:xs.length < sizeLine)(q:Q .non (upd H l (.lst (xs++[y])))):rn x vs H Q
def gz:V->List V->Hp->VK->Prop:=fun x vs H Q=>rn x vs H Q
theorem bL:sD X "list.append" gz:=by
 intro pins s σ H x vs v us Q I rx rv h
 obtain⟨l,xs,y,rfl,rfl,hH,hz,q⟩:=h
 cases rx
 obtain⟨u,rfl,ru⟩:=rv.one
 obtain⟨z,its,n,r,hl,e⟩:=I.lstM hH
 refine call_meets F.slot_list_append ⟨_,e,rfl⟩ F.entry_list_append (F.args_list_append_2 _ _) (PySem.list_append l its.toArray n u (by rw[List.size_toArray];omega)) ⟨e,?_⟩
 refine⟨.non,_,I.lset (its':=its++[u]) hH e (by simp) (r.append (.cons ru .nil)) ?_,rfl,q⟩
 rw[List.length_append,List.length_singleton]
 omega
def nR:V->List V->Hp->VK->Prop:=fun x vs H Q=>∃ l b xs zs,x=.ref l/\vs=[.ref b]/\H l=some (.lst xs)/\H b=some (.lst zs)/\xs.length+zs.length<=sizeLine/\Q .non (upd H l (.lst (xs++zs)))
theorem ky:sD X "list.extend" nR:=by
 intro pins s σ H x vs v us Q I rx rv h
 obtain⟨l,b,xs,zs,rfl,rfl,hH,hB,hz,q⟩:=h
 cases rx
 obtain⟨u,rfl,ru⟩:=rv.one
 cases ru
 obtain⟨z,its,n,r,hl,e⟩:=I.lstM hH
 obtain⟨z2,its2,n2,r2,hl2,e2⟩:=I.lstM hB
 have hsz:its.toArray.size+its2.toArray.size<=sizeLine:=by rw[List.size_toArray,List.size_toArray];omega
 have hlong:¬ (!its.toArray.isEmpty&&Builtin.List.listTooLong (its.toArray.size+its2.toArray.size))=true:=by
  rw[gU hsz,Bool.and_false]
  exact Bool.false_ne_true
 refine call_meets F.slot_list_extend ⟨_,e,rfl⟩ F.entry_list_extend (F.args_list_extend_2 _ _)
  (AutoSeq1.list_extend_list_list_0 l its.toArray n b its2.toArray n2 hlong (by rw[List.size_toArray];omega) (by omega)) ⟨e,e2,?_⟩
 refine⟨.non,_,I.lset (its':=its++its2) hH e (by simp) (r.append r2) ?_,rfl,q⟩
 rw[List.length_append]
 omega
def pR:V->List V->Hp->VK->Prop:=fun x vs H Q=>∃ l xs,x=.ref l/\vs=[]/\H l=some (.lst xs)/\Q .non (upd H l (.lst []))
theorem lF:sD X "list.clear" pR:=by
 intro pins s σ H x vs v us Q I rx rv h
 obtain⟨l,xs,rfl,rfl,hH,q⟩:=h
 cases rx
 have hus:=rv.zero
 subst hus
 obtain⟨z,its,n,r,hl,e⟩:=I.lstM hH
 refine call_meets F.slot_list_clear ⟨_,e,rfl⟩ F.entry_list_clear (F.args_list_clear_1 _) (AutoSeq1.list_clear_list_0 l its.toArray n (by rw[List.size_toArray];omega)) ⟨e,?_⟩
 exact⟨.non,_,I.lset (its':=[]) (ys:=[]) hH e rfl .nil (Nat.zero_le _),rfl,q⟩
def sE:R2:=fun x y H Q=>∃ l b xs zs,x=.ref l/\y=.ref b/\H l=some (.lst xs)/\H b=some (.lst zs)/\xs.length+zs.length<=sizeLine/\∀ p,H p=none->Q (.ref p) (upd H p (.lst (xs++zs)))
theorem iR:OpR X (binaryOp .Add) sE:=by
 intro pins s σ H x y v u Q I rx ry h
 obtain⟨l,b,xs,zs,rfl,rfl,hH,hB,hz,q⟩:=h
 cases rx
 cases ry
 obtain⟨z,its,n,r,hl,e⟩:=I.lstM hH
 obtain⟨z2,its2,n2,r2,hl2,e2⟩:=I.lstM hB
 refine PySem.P.add_list e e2 ?_ (by rw[List.size_toArray,List.size_toArray];omega)
 have ea:its.toArray++its2.toArray=(its++its2).toArray:=by simp
 rw[ea]
 exact⟨.ref _,_,I.lnew (t':=s.toks) (r.append r2) (by rw[List.length_append];omega),rfl,q _ I.fresh⟩
def sF:R2:=fun x y H Q=>∃ l k xs,x=.ref l/\y=.int k/\H l=some (.lst xs)/\ -(2 ^ 63)<=k/\k < 2 ^ 63/\xs.length*k.toNat<=sizeLine/\
 ∀ p,H p=none->Q (.ref p) (upd H p (.lst (List.replicate k.toNat xs).flatten))
theorem nS {α:Type}(xs:List α)(k:Nat):(List.replicate k xs).flatten.length=k*xs.length:=by
 induction k with
 |zero=>simp
 |succ k ih=>rw[List.replicate_succ,List.flatten_cons,List.length_append,ih,Nat.succ_mul,Nat.add_comm]
theorem pS:OpR X (binaryOp .Mult) sF:=by
 intro pins s σ H x y v u Q I rx ry h
 obtain⟨l,k,xs,rfl,rfl,hH,h1,h2,hz,q⟩:=h
 cases rx
 obtain⟨t,rfl⟩:=ry
 obtain⟨z,its,n,r,hl,e⟩:=I.lstM hH
 have hlen:its.toArray.size*k.toNat<=sizeLine:=by rw[List.size_toArray,← hl];exact hz
 have hcap:¬ its.toArray.size*k.toNat > (2 ^ 63 - 1) / 8:=by
  have:(sizeLine:Nat)<=(2 ^ 63 - 1) / 8:=by decide
  omega
 have hfit:¬ (!Builtin.List.listFitsIndex k)=true:=by
  rw[fitsIndex_both h1 h2]
  exact Bool.false_ne_true
 have hlong:¬ Builtin.List.listTooLong (its.toArray.size*k.toNat)=true:=by
  rw[gU hlen]
  exact Bool.false_ne_true
 have hnew:List.foldl (fun x1 x2=>x1++x2) #[] (List.replicate (if its.toArray.isEmpty=true then 0 else k.toNat) its.toArray)=(List.replicate k.toNat its).flatten.toArray:=by
  have f0:∀ m:Nat,List.foldl (fun x1 x2=>x1++x2) #[] (List.replicate m its.toArray)=(List.replicate m its).flatten.toArray:=fun m=>by
   have:=fZ its m []
   rw[List.nil_append] at this
   exact this
  rw[f0]
  cases its with
  |nil=>simp
  |cons a r'=>rw[if_neg (by simp)]
 refine wpAny_binaryOp_repeat_ref (T:="list") (U:="int") (by decide) ⟨_,e,rfl⟩ (fun s'=>typeIs_int s' k t) noFill_list_mul F.fills_int_mul F.slot_int_rmul repeat_list F.slot_int_index.lookup
  (call_meets F.slot_int_rmul (typeIs_int s k t) F.entry_int_rmul (F.args_int_rmul_2 _ _) (int___rmul___int_list k t l its.toArray n)
   ⟨e,rfl,⟨_,e,rfl⟩,call_meets F.slot_list_mul ⟨_,e,rfl⟩ F.entry_list_mul (F.args_list_mul_2 _ _) (AutoListH.list___mul___list_int_3 l its.toArray n k t hfit hcap hlong) ⟨e,?_⟩⟩)
 rw[hnew]
 exact⟨.ref _,_,I.lnew (t':=s.toks) (r.rep k.toNat) (by rw[nS,Nat.mul_comm];exact hz),rfl,q _ I.fresh⟩
end
section
variable {prog:Program}{w:World}{A:Around}{E:Value->Shared->Prop}{s:Shared}
set_option maxRecDepth 100000 in
end
section
variable {X:Cx}
end
end L2
namespace L2
open PySem PySem.Spec PyProof.Rows
section
variable {κ:Type} [DecidableEq κ]
def dQ (kvs:List (κ×V))(k:κ):Option V:=(kvs.find? fun kv=>decide (kv.1=k)).map (·.2)
def dR (kvs:List (κ×V))(k:κ)(v:V):List (κ×V):=
 if (kvs.any fun kv=>decide (kv.1=k))=true then kvs.map (fun kv=>if kv.1=k then (kv.1,v) else kv) else kvs++[(k,v)]
theorem dr {p:κ×V}{r:List (κ×V)}{k:κ}(e:p.1=k):dQ (p::r) k=some p.2:=by simp [dQ,List.find?_cons,e]
theorem dt {p:κ×V}{r:List (κ×V)}{k:κ}(e:¬ p.1=k):dQ (p::r) k=dQ r k:=by simp [dQ,List.find?_cons,e]
theorem gW (k:κ):∀ kvs:List (κ×V),(kvs.any fun kv=>decide (kv.1=k))=(dQ kvs k).isSome
 |[]=>rfl
 |p::r=>by
  rw[List.any_cons]
  by_cases e:p.1=k
  ·simp only [dr e,decide_eq_true e,Bool.true_or,Option.isSome_some]
  ·rw[dt e,decide_eq_false e,Bool.false_or];exact gW k r
theorem eu (kvs:List (κ×V))(k:κ)(v:V):(dR kvs k v).length<=kvs.length+1:=by
 unfold dR
 split
 ·rw[List.length_map];omega
 ·rw[List.length_append,List.length_cons,List.length_nil];omega
theorem RelO.isSome_eq {o:Option V}{u:Option Value}(r:RelO o u):o.isSome=u.isSome:=by
 cases o with
 |none=>cases u with
  |none=>rfl
  |some _=>exact (show False from r).elim
 |some _=>cases u with
  |none=>exact (show False from r).elim
  |some _=>rfl
theorem KV.val {kvs:List (κ×V)}{vs:List (κ×Value)}(r:KV kvs vs)(k:κ):RelO (dQ kvs k) (valueAt vs k):=by
 unfold KV at r
 induction r with
 |nil=>exact True.intro
 |@cons p q ps qs h t ih=>
  obtain⟨h1,h2⟩:=h
  by_cases e:p.1=k
  ·have e':q.1=k:=h1.symm.trans e
   have b:valueAt (q::qs) k=some q.2:=by simp [valueAt,List.find?_cons,e']
   rw[dr e,b];exact h2
  ·have e':¬ q.1=k:=fun z=>e (h1.trans z)
   have b:valueAt (q::qs) k=valueAt qs k:=by simp [valueAt,List.find?_cons,e']
   rw[dt e,b];exact ih
theorem KV.any {kvs:List (κ×V)}{vs:List (κ×Value)}(r:KV kvs vs)(k:κ):(kvs.any fun kv=>decide (kv.1=k))=vs.any fun kv=>decide (kv.1=k):=by
 unfold KV at r
 induction r with
 |nil=>rfl
 |cons h t ih=>rw[List.any_cons,List.any_cons,ih,h.1]
theorem KV.repl {kvs:List (κ×V)}{vs:List (κ×Value)}(r:KV kvs vs)(k:κ){y:V}{u:Value}(ry:RelV y u):
  KV (kvs.map fun kv=>if kv.1=k then (kv.1,y) else kv) (vs.map fun kv=>if kv.1=k then (kv.1,u) else kv):=by
 unfold KV at r ⊢
 induction r with
 |nil=>exact .nil
 |@cons p q ps qs h t ih=>
  rw[List.map_cons,List.map_cons]
  refine .cons ?_ ih
  obtain⟨h1,h2⟩:=h
  by_cases e:p.1=k
  ·rw[if_pos e,if_pos (h1.symm.trans e)];exact⟨h1,ry⟩
  ·rw[if_neg e,if_neg (fun z=>e (h1.trans z))];exact⟨h1,h2⟩
theorem KV.put {kvs:List (κ×V)}{vs:List (κ×Value)}(r:KV kvs vs)(k:κ){y:V}{u:Value}(ry:RelV y u):KV (dR kvs k y) (stored vs k u):=by
 unfold dR stored
 rw[r.any k]
 by_cases e:(vs.any fun kv=>decide (kv.1=k))=true
 ·rw[if_pos e,if_pos e];exact r.repl k ry
 ·rw[if_neg e,if_neg e];exact Paired.snoc r ⟨rfl,ry⟩
theorem KV.length {kvs:List (κ×V)}{vs:List (κ×Value)}(r:KV kvs vs):kvs.length=vs.length:=Paired.length r
end
theorem lG {P:Program}{w:World}{k:bH}{u:Value}(r:RelV (kV k) u):(aW P w).is k u=true:=by
 cases k with
 |inl i=>obtain⟨t,e⟩:=(show ∃ t,u=Value.int i t from r);subst e;exact gP P w i t
 |inr x=>obtain⟨t,e⟩:=(show ∃ t,u=Value.str x t from r);subst e;exact gQ P w x t
theorem f_ {P:Program}{w:World}:∀ {ks:List bH} {us:List Value},Vals (ks.map kV) us->ItemsAre (aW P w) ks us
 |[],_,r=>by rw[List.map_nil] at r;cases r;exact .nil
 |k::ks,_,r=>by
  rw[List.map_cons] at r
  cases r with
  |cons h t=>exact .cons (lG h) (f_ t)
abbrev KT (H:Hp):List (List bH×V)->List (List bH×Addr×Value)->Prop:=Paired fun p q=>p.1=q.1/\H q.2.1=some (.tup (p.1.map kV))/\RelV p.2 q.2.2
theorem KT.val {H:Hp}{kvs:List (List bH×V)}{xs:List (List bH×Addr×Value)}(r:KT H kvs xs)(k:List bH):RelO (dQ kvs k) ((atKey xs k).map (·.2)):=by
 induction r with
 |nil=>exact True.intro
 |@cons p q ps qs h t ih=>
  obtain⟨h1,_,h2⟩:=h
  by_cases e:p.1=k
  ·have e':q.1=k:=h1.symm.trans e
   have b:atKey (q::qs) k=some q.2:=by simp [atKey,List.find?_cons,e']
   rw[dr e,b];exact h2
  ·have e':¬ q.1=k:=fun z=>e (h1.trans z)
   have b:atKey (q::qs) k=atKey qs k:=by simp [atKey,List.find?_cons,e']
   rw[dt e,b];exact ih
theorem KT.repl {H:Hp}{kvs:List (List bH×V)}{xs:List (List bH×Addr×Value)}(r:KT H kvs xs)(k:List bH){y:V}{u:Value}(ry:RelV y u):
  KT H (kvs.map fun kv=>if kv.1=k then (kv.1,y) else kv) (xs.map (putAt k u)):=by
 induction r with
 |nil=>exact .nil
 |@cons p q ps qs h t ih=>
  rw[List.map_cons,List.map_cons]
  refine .cons ?_ ih
  obtain⟨h1,h2,h3⟩:=h
  unfold putAt
  by_cases e:p.1=k
  ·rw[if_pos e,if_pos (h1.symm.trans e)];exact⟨h1,h2,ry⟩
  ·rw[if_neg e,if_neg (fun z=>e (h1.trans z))];exact⟨h1,h2,h3⟩
theorem KT.put {H:Hp}{kvs:List (List bH×V)}{xs:List (List bH×Addr×Value)}(r:KT H kvs xs)(k:List bH){b:Addr}{y:V}{u:Value}(hb:H b=some (.tup (k.map kV)))(ry:RelV y u):
  KT H (dR kvs k y) (storedH xs k b u):=by
 have e:(kvs.any fun kv=>decide (kv.1=k))=(atKey xs k).isSome:=by
  rw[gW,(r.val k).isSome_eq,Option.isSome_map]
 unfold dR storedH
 rw[e]
 by_cases q:(atKey xs k).isSome=true
 ·rw[if_pos q,if_pos q];exact r.repl k ry
 ·rw[if_neg q,if_neg q];exact Paired.snoc r ⟨rfl,hb,ry⟩
theorem KT.keeps {H H':Hp}{kvs:List (List bH×V)}{xs:List (List bH×Addr×Value)}(r:KT H kvs xs)(ht:∀ b ys,H b=some (.tup ys)->H' b=some (.tup ys)):KT H' kvs xs:=
 Paired.mapP r fun _ _ z=>⟨z.1,ht _ _ z.2.1,z.2.2⟩
section
variable {P:Program}{w:World}{H:Hp}{h:Heap}{a:Addr}
theorem oW {u:HO}(ok:HOk P w H h)(e:Rd H a u):ObjOk P w H h a u:=e.ok ok
theorem lH {kvs:List (bH×V)}(ok:HOk P w H h)(e:Rd H a (.dK kvs)):kvs.length<=sizeLine/\(a == sysModules)=false/\∃ vs,KV kvs vs/\h.DictOf (aW P w) a vs:=
 show ObjOk P w H h a (.dK kvs) from oW ok e
theorem rp {kvs:List (bH×V)}(ok:HOk P w H h)(e:H a=some (.dK kvs)):kvs.length<=sizeLine/\(a == sysModules)=false/\∃ vs,KV kvs vs/\h.DictOf (aW P w) a vs:=lH ok (.inl e)
theorem iS {ks:List bH}(ok:HOk P w H h)(e:H a=some (.tup (ks.map kV))):(tupleKind (aW P w)).is h ks a:=by
 obtain⟨_,its,r,o,h1,h2,n,h3⟩:=(show ObjOk P w H h a (.tup (ks.map kV)) from ok a _ e)
 exact⟨o,its.toArray,n,h1,h2,h3,by simpa using f_ r⟩
theorem lI {kvs:List (List bH×V)}(ok:HOk P w H h)(e:Rd H a (.dT kvs)):kvs.length<=sizeLine/\(a == sysModules)=false/\
  ∃ xs,KT H kvs xs/\h.DictOfH (tupleKind (aW P w)) a xs:=by
 obtain⟨z,y,xs,r,o,es,ep,h1,h2,h3,h4,h5⟩:=(show ObjOk P w H h a (.dT kvs) from oW ok e)
 refine⟨z,y,xs,r,o,es,ep,h1,h2,h3,h4,fun x hx=>?_,h5⟩
 have all:∀ {l:List (List bH×V)} {m:List (List bH×Addr×Value)},KT H l m->∀ x∈m,(tupleKind (aW P w)).is h x.1 x.2.1:=by
  intro l m q
  induction q with
  |nil=>intro x hx;exact nomatch hx
  |@cons p q ps qs hq t ih=>
   intro x hx
   rcases List.mem_cons.mp hx with e|hx
   ·subst e
    exact iS ok (by rw[← hq.1];exact hq.2.1)
   ·exact ih x hx
 exact all r x hx
theorem rq {kvs:List (List bH×V)}(ok:HOk P w H h)(e:H a=some (.dT kvs)):kvs.length<=sizeLine/\(a == sysModules)=false/\
  ∃ xs,KT H kvs xs/\h.DictOfH (tupleKind (aW P w)) a xs:=lI ok (.inl e)
end
def DGet (H:Hp)(a:Addr)(y:V)(r:Option V):Prop:=
 (∃ kvs k,Rd H a (.dK kvs)/\y=kV k/\r=dQ kvs k)\/∃ kvs k b,Rd H a (.dT kvs)/\y=.ref b/\H b=some (.tup (k.map kV))/\r=dQ kvs k
def DPut (H:Hp)(a:Addr)(y v:V)(H':Hp):Prop:=
 (∃ kvs k,H a=some (.dK kvs)/\y=kV k/\kvs.length < sizeLine/\H'=upd H a (.dK (dR kvs k v)))\/
 ∃ kvs k b,H a=some (.dT kvs)/\y=.ref b/\H b=some (.tup (k.map kV))/\kvs.length < sizeLine/\H'=upd H a (.dT (dR kvs k v))
theorem DGet.k {H:Hp}{a:Addr}{kvs:List (bH×V)}{k:bH}(e:H a=some (.dK kvs)):DGet H a (kV k) (dQ kvs k):=.inl ⟨kvs,k,.inl e,rfl,rfl⟩
theorem DPut.k {H:Hp}{a:Addr}{kvs:List (bH×V)}{k:bH}{v:V}(e:H a=some (.dK kvs))(hl:kvs.length < sizeLine):DPut H a (kV k) v (upd H a (.dK (dR kvs k v))):=.inl ⟨kvs,k,e,rfl,hl,rfl⟩
section
variable {X:Cx}{pins:List (Addr×Obj)}{σ:St}{H:Hp}{s:Shared}{a:Addr}{y v:V}{u r:Value}{o:Option V}{A:Around}{E:Value->Shared->Prop}
theorem Inv.big (I:Inv X pins σ H s):sysModules < s.heap.objs.size:=by
 have h:mainGlobals < s.heap.objs.size:=(I.mod.glob.keeps I.bk).lt
 exact Nat.lt_trans (by decide) h
theorem kA {Q:Value->Shared->Prop}(hu:A.units+1 < cLine)(I:Inv X pins σ H s)(g:DGet H a y (some v))(ry:RelV y u)(h:∀ w' s',Inv X pins σ H s'->RelV v w'->Q w' s'):
  wpAny (model X.prog X.w) A (getItem (.ref a) u) Q E s:=by
 rcases g with⟨kvs,k,e,ey,l⟩|⟨kvs,k,b,e,ey,eb,l⟩
 ·subst ey
  obtain⟨z,hd,vs,rel,dd⟩:=lH I.hok e
  obtain⟨w',hw,rw'⟩:=RelO.some_of (v:=v) (o:=valueAt vs k) (by rw[l];exact rel.val k)
  exact wpAny_getItem_of (lG ry) dd.mapOf hw (h w' _ (I.tok _) rw')
 ·subst ey
  cases (show u=Value.ref b from ry)
  obtain⟨z,hd,xs,rel,dd⟩:=lI I.hok e
  obtain⟨w',hw,rw'⟩:=RelO.some_of (v:=v) (o:=(atKey xs k).map (·.2)) (by rw[l];exact rel.val k)
  obtain⟨p,hp,hp2⟩:=Option.map_eq_some_iff.mp hw
  refine wpAny_getItem_heap (tupleKind_room_in1 hu) (iS I.hok eb) dd hp ?_
  rw[hp2]
  exact h w' _ (I.tok _) rw'
theorem jF {h':Heap}{t':Nat}{ob:HO}(I:Inv X pins σ H s)(mu:qK (H a))(hs:Heap.SameBut a s.heap h')(he:∃ q,h'.get? a=some q)(new:ObjOk X.prog X.w (upd H a ob) h' a ob):
  Inv X pins σ (upd H a ob) {s with heap:=h',toks:=t'}:=
 I.write (x:=a) (e:=a) mu (.inl rfl) (fun b q hb z=>(hs.2 b hb).trans z) he new
theorem pT {P:Program}{w:World}{H':Hp}{h':Heap}{kvs:List (bH×V)}{vs:List (bH×Value)}(z:kvs.length<=sizeLine)(hd:(a == sysModules)=false)(rel:KV kvs vs)(dd:h'.DictOf (aW P w) a vs):
  ObjOk P w H' h' a (.dK kvs):=⟨z,hd,vs,rel,dd⟩
theorem kB {H':Hp}{Q:Unit->Shared->Prop}(hu:A.units+1 < cLine)(I:Inv X pins σ H s)(g:DPut H a y v H')(ry:RelV y u)(rv:RelV v r)(h:∀ s',Inv X pins σ H' s'->Q () s'):
  wpAny (model X.prog X.w) A (setItem (.ref a) u r) Q E s:=by
 rcases g with⟨kvs,k,e,ey,l,eH⟩|⟨kvs,k,b,e,ey,eb,l,eH⟩
 ·subst ey eH
  obtain⟨z,hd,vs,rel,dd⟩:=rp I.hok e
  have hz:vs.length<=sizeLine:=by rw[← rel.length];exact z
  have hl:(dR kvs k v).length<=sizeLine:=by have:=eu kvs k v;omega
  refine wpAny_setItem_pairs (hsz:=hz) (lG ry) dd fun h' dd' hs=>h _ ?_
  have he:∃ q,h'.get? a=some q:=let ⟨q,_,_,hq,_⟩:=dd';⟨q,hq⟩
  exact jF I (by rw[e];exact True.intro) hs he (pT hl hd (rel.put k rv) dd')
 ·subst ey eH
  cases (show u=Value.ref b from ry)
  obtain⟨z,hd,xs,rel,dd⟩:=rq I.hok e
  have hz:xs.length<=sizeLine:=by rw[← Paired.length rel];exact z
  have hl:(dR kvs k v).length<=sizeLine:=by have:=eu kvs k v;omega
  refine wpAny_setItem_heap (hsz:=hz) (tupleKind_room_in1 hu) (iS I.hok eb) dd fun h' dd' hs=>h _ ?_
  obtain⟨q,es,ep,hq,h2,h3,h4,_,h5⟩:=dd'
  refine jF I (by rw[e];exact True.intro) hs ⟨q,hq⟩ ⟨hl,hd,_,(rel.put k eb rv).keeps fun c ys ec=>?_,q,es,ep,hq,h2,h3,h4,h5⟩
  rw[av (oP ec e (fun z=>nomatch z))]
  exact ec
end
section
variable {X:Cx}{pins:List (Addr×Obj)}{σ:St}{H:Hp}{s:Shared}{a:Addr}{kvs:List (bH×V)}{k:bH}{u:Value}{A:Around}{E:Value->Shared->Prop}
end
def rz (i:Expr):Prop:=∀ ov iv,subscripted i false ov iv=operate [ov,iv] (getItem ov iv)
theorem nT {prog:Program}{w:World}{A:Around}{E:Value->Shared->Prop}{s:Shared}{env:Env}{value slice:Expr}{pos:Pos}{T id:String}{Q:Value->Shared->Prop}
  (hl:typeLookup (.type T) "__getitem__"=pure (some (.builtin id))) (hs:rz slice)
  (h:wpAny (model prog w) A (eval value env) (fun o s₁=>wpAny (model prog w) A (eval slice env) (fun i s₂=>s₂.TypeIs o T/\wpAny (model prog w) A (getItem o i) Q E s₂) E s₁) E s):
  wpAny (model prog w) A (eval (.Subscript value slice pos) env) Q E s:=by
 refine Subscript_ (wpAny_mono h (fun o s₁ h₁=>wpAny_mono h₁ (fun i s₂ h₂=>?_) fun _ _ x=>x) fun _ _ x=>x)
 obtain⟨hT,h₂⟩:=h₂
 unfold subscriptTail
 refine wpAny_bind ?_
 rw[getitemInPython_of_ne hT.not_modules]
 refine wpAny_bind (wpAny_specialOf hT hl ?_)
 have fin:wpAny (model prog w) A (subscripted slice false o i) (fun r s₃=>wpAny (model prog w) A (letTemporaryGo value o r >>=fun _=>pure r) Q E s₃) E s₂:=by
  rw[hs o i]
  exact wpAny_operating (wpAny_mono h₂ (fun r s₃ h₃=>wpAny_bind (wpAny_letTemporaryGo (wpAny_pure h₃))) fun _ _ x=>x)
 first
  |exact wpAny_pure (wpAny_bind fin)
  |exact wpAny_bind (wpAny_pure (wpAny_bind fin))
  |exact wpAny_bind fin
theorem gX {X:Cx}{pins:List (Addr×Obj)}{σ:St}{H:Hp}{s:Shared}{a:Addr}{y:V}{o:Option V}(I:Inv X pins σ H s)(g:DGet H a y o):s.TypeIs (.ref a) "dict":=by
 rcases g with⟨kvs,k,e,_,_⟩|⟨kvs,k,b,e,_,_,_⟩
 ·obtain⟨_,_,vs,_,dd⟩:=lH I.hok e
  exact dd.typeIs
 ·obtain⟨_,_,xs,_,dd⟩:=lI I.hok e
  exact dd.typeIs
def oX (td ty:TE):TE:=fun σ H Q=>td σ H fun x H1=>ty σ H1 fun y H2=>∃ a v,x=.ref a/\DGet H2 a y (some v)/\Q v H2
def rA (td ty tv:TE):TS:=fun D σ H=>tv σ H fun v H1=>td σ H1 fun x H2=>ty σ H2 fun y H3=>∃ a H4,x=.ref a/\DPut H3 a y v H4/\D.nx σ H4
section
variable {X:Cx}{o i e value:Expr}{pos pos' tpos:Pos}{td ty tv:TE}
theorem jG (hu:X.A.units+1 < cLine)(ho:PE X o td)(hi:PE X i ty)(hs:rz i):PE X (.Subscript o i pos) (oX td ty):=by
 intro pins s σ H Q I h
 refine nT PySem.F.slot_dict_getitem.lookup hs (aX (ho pins s σ H _ I h) fun u s1 ⟨x,H1,I1,rx,q1⟩=>aX (hi pins s1 σ H1 _ I1 q1) fun iv s2 ⟨y,H2,I2,ry,a,v,ex,g,q2⟩=>?_)
 subst ex
 obtain rfl:u=Value.ref a:=rx
 exact⟨gX I2 g,kA hu I2 g ry fun w' s3 I3 rw'=>⟨v,H2,I3,rw',q2⟩⟩
theorem jH (hu:X.A.units+1 < cLine)(ho:PE X o td)(hi:PE X i ty)(hv:PE X value tv)(hs:swapsWith value (some (.Subscript o i pos')) pos.line X.env=pure false):
  PS X (.Assign [.Subscript o i pos'] value pos) (rA td ty tv):=by
 intro pins s σ H D I h
 refine wpAny_Assign_Subscript (aX (hv pins s σ H _ I h) fun r s1 ⟨v,H1,I1,rv,q1⟩=>aX (ho pins s1 σ H1 _ I1 q1) fun u s2 ⟨x,H2,I2,rx,q2⟩=>aX (hi pins s2 σ H2 _ I2 q2) fun iv s3 ⟨y,H3,I3,ry,a,H4,ex,g,q3⟩=>?_) hs
 subst ex
 obtain rfl:u=Value.ref a:=rx
 exact kB hu I3 g ry rv fun s4 I4=>⟨σ,H4,I4,q3⟩
end
theorem lJ {P:Program}{w:World}{H:Hp}(h:Heap)(hb:sysModules < h.objs.size):ObjOk P w H (h.push {cls:=.type "dict",data:=.dict #[]}) h.objs.size (.dK []):=
 ⟨Nat.zero_le _,beq_eq_false_iff_ne.mpr (Ne.symm (Nat.ne_of_lt hb)),[],.nil,Heap.DictOf.new h⟩
def pU:TE:=fun _ H Q=>∀ p,H p=none->Q (.ref p) (upd H p (.dK []))
section
variable {X:Cx}{pos:Pos}
theorem gY:PE X (.Dict [] [] pos) pU:=fun pins s σ H Q I h=>
 wpAny_Dict_empty ⟨.ref s.heap.objs.size,_,I.laid (a:=s.heap.objs.size) (o:=.dK []) (t':=s.toks) (fun _ _ q=>Heap.get?_push_of_some _ q) (Nat.le_refl _) (lJ s.heap I.big),rfl,h _ (I.hok.fresh (Nat.le_refl _))⟩
end
section
variable {X:Cx}{pins:List (Addr×Obj)}{σ:St}{H:Hp}{s:Shared}{a:Addr}{y d:V}{u r:Value}{o:Option V}{A:Around}{E:Value->Shared->Prop}
end
section
variable {X:Cx}{o e f:Expr}{apos cpos:Pos}{td ty tx:TE}
end
section
variable {X:Cx}{pins:List (Addr×Obj)}{σ:St}{H:Hp}{s:Shared}{a:Addr}{kvs:List (bH×V)}{A:Around}{E:Value->Shared->Prop}
end
section
variable {X:Cx}{pins:List (Addr×Obj)}{σ:St}{H:Hp}{s:Shared}{a:Addr}{y:V}{u:Value}{A:Around}{E:Value->Shared->Prop}
end
end L2
namespace Att
open PySem PySem.W PySem.Calls PyProof.Rows
theorem eI {P:Params}{h:Heap}:∀ (ns:List Int) (vs:List Value),WellAll P h vs (ns.map WData.int)->IntsAre vs ns:=by
 intro ns
 induction ns with
 |nil=>
  intro vs w
  rw[List.map_nil] at w
  cases w
  exact .nil
 |cons n ns ih=>
  intro vs w
  rw[List.map_cons] at w
  cases w with
  |cons a b=>
   cases a
   exact .cons _ _ (ih _ b)
theorem kC {l:OpenLaw}{n:Nat}(hn:l.most=some n){P:Params}{h:Heap}{args:List WData}{vals:List Value}
  (hpre:l.row.toRowW.claim.pre args=true) (hwl:WellAll P h vals args):
  ∃ a vs ns,vals=[Value.ref a]/\args=[WData.list (ns.map WData.int)]/\h.get? a=some {cls:=.type "list",data:=.seq vs.toArray}/\IntsAre vs ns/\ns.length<=n:=by
 have hsh:WShape.hasAll [] args [.list .int]=true:=(pre_splitW hpre).1
 have hc:l.pre.holds [] {args:=args}=true:=(pre_splitW hpre).2
 obtain⟨d,r,rfl,h1,h2⟩:=hasAllW_cons hsh
 obtain rfl:=hasAllW_nil h2
 obtain⟨xs,rfl,h3⟩:=hasW_list h1
 obtain⟨ns,rfl⟩:=items_int h3
 have hlen:ns.length<=n:=by
  unfold OpenLaw.pre at hc
  have h4:(WTm.not (.lt (.lit (.int (n:Int))) (.len (.arg 0)))).holds [] {args:=[.list (ns.map .int)]}=true:=by
   have h4:=(holds_andW hc).1
   rw[hn] at h4
   exact h4
  have h5:=condW_of h4 (w_not (w_lt w_lit (w_len_list (w_arg rfl))))
  rw[List.length_map] at h5
  refine Nat.le_of_not_lt fun q=>?_
  have q':(n:Int) < ((ns.length:Nat):Int):=by omega
  first
   |(rw[decide_eq_true q'] at h5;exact absurd h5 (by decide))
   |(simp at h5;omega)
 cases hwl with
 |cons w1 w2=>
  cases w2
  cases w1 with
  |list ho hall=>exact⟨_,_,ns,rfl,rfl,ho,eI ns _ hall,hlen⟩
theorem kE (l:OpenLaw)(args:List WData):l.row.toRowW.claim.post args (.bool true) args=true:=
 postW_of (r:=l.row.toRowW) (X:=(true == true))
  (show WShape.has [] (.bool true) .bool=true by first|rfl|decide|simp [WShape.has,WShape.arms,WShape.armsAll])
  (show (WTm.eq .res (.lit (.bool true))).value [] {args:=args,res:=some (.bool true),after:=args}=some (.bool (true == true)) from w_eq_bool (w_res rfl) w_lit) rfl
theorem attach_call {l:OpenLaw}{n:Nat}{q:Program}{loose:List Str}{XP:(Str->Option Value)->Heap->Prop}{YP:World->Heap->Prop}{d:DefRec}
  (hn:l.most=some n) (hdf:d.params.defaults=[])
  (call:∀ (w:World) (s₀ s₁:Shared) (mg mb:Str->Option Value) (fa:Addr) (o:Obj) (pm cd doc:Value) (a:Addr) (vs:List Value) (ns:List Int),
   Ground q loose [] XP w s₀ mg mb s₁.heap->YP w s₁.heap->
   s₁.heap.get? fa=some o->o.data=.func (docDef d.name d.params d.body d.scope pm cd doc)->s₁.heap.CodeRec cd d.name->mg d.name=some (.ref fa)->
   s₁.heap.get? a=some {cls:=.type "list",data:=.seq vs.toArray}->IntsAre vs ns->ns.length<=n->s₁.gens=#[]->
   codeAny (model l.prog w) callerA (.call (.ref fa) ⟨[.ref a],[]⟩) (fun r s'=>r=.ok (.ret (.bool true))/\OldK s₁.heap s'.heap/\s'.os=s₁.os/\AllBare s'.gens) s₁):
  WalkO q loose XP YP l.row.toRowW d [] (fun f vs=>PySem.call f vs):=by
 intro w s₀ s₁ mg mb G Y fa o pm cd doc dV kV ho hd hcd hD hmg hg args vals as hpre hlay hrd hwl hlo
 obtain rfl:dV=.none:=Dflts.none hD hdf
 obtain rfl:kV=.none:=Dflts.noKw hD
 obtain⟨a,vs,ns,rfl,rfl,hobj,hints,hlen⟩:=kC hn hpre hwl
 refine enter_call (codeAny_mono (call w s₀ s₁ mg mb fa o pm cd doc a vs ns G Y ho (fd_plain hd) hcd hmg hobj hints hlen hg) fun r s' hq=>?_)
 obtain⟨rfl,h2,h3,h4⟩:=hq
 exact⟨.inl ⟨.bool true,.bool true,[],rfl,fun _=>rfl,.bool true,kE l _,fun _=>⟨List.Pairwise.nil,fun _ hm=>(nomatch hm)⟩⟩,h2,h3,h4⟩
section
variable {prog:Program}{w:World}{A:Around}{E:Value->Shared->Prop}{s:Shared}{K:Frag}
end
end Att
namespace L2
open PySem PySem.Spec PyProof.Rows
theorem dS:∀ {vs:List Value} {ns:List Int},IntsAre vs ns->Vals (ns.map V.int) vs
 |_,_,.nil=>.nil
 |_,_,.cons n t h=>.cons ⟨t,rfl⟩ (dS h)
def pV (H:Hp):Prop:=∀ b,H b=none\/∃ o xs,H b=some (.frz o (.lst xs))
theorem lK {P:Program}{w:World}{K:PySem.W.Frag}{mg mb:Str->Option Value}{CX:lq}{k:Nat}{fa a:Addr}{fd:FuncData}{x:Str}{sp:Sp}{s₁:Shared}{vs:List Value}{ns:List Int}
  (KX:K.In s₁.heap) (hns:s₁.heap.Ns mainGlobals mg) (hb:s₁.heap.Ns builtinsNs mb) (hbb:∀ x:Str,x≠"__name__"->mb x=bootBuiltins x) (hlim:s₁.heap.NoLimit) (hg:s₁.gens=#[])
  (ha:s₁.heap.get? a=some {cls:=.type "list",data:=.seq vs.toArray}) (hi:IntsAre vs ns) (hl:ns.length<=sizeLine) (hr:Room k callerA)
  (F:∀ base:Heap,K.In base->base.Ns mainGlobals mg->aU P w K mg base CX k fa fd [x] sp) (hbind:∀ (s:Shared) (u:Value),BindsTo s fd ⟨[u],[]⟩ [(x,u)])
  (hsp:∀ H:Hp,pV H->SqL K H a (ns.map V.int)->sp [.ref a] H (fun v _=>v=.bl true) fun _ _ _=>False)
  (hCX:∀ H e s',CX [] H s₁ (fun _ _ _=>False) e s'->False):
  codeAny (model P w) callerA (.call (.ref fa) ⟨[.ref a],[]⟩) (fun r s'=>r=.ok (.ret (.bool true))/\OldK s₁.heap s'.heap/\s'.os=s₁.os/\AllBare s'.gens) s₁:=by
 have rv:=dS hi
 have lenV:=hi.length
 have core:∀ H:Hp,pV H->SqL K H a (ns.map V.int)->HOk P w H s₁.heap->(∀ b,H b≠none->b=a)->(H a≠none->K.lookup a=none)->
   codeAny (model P w) callerA (.call (.ref fa) ⟨[.ref a],[]⟩) (fun r s'=>r=.ok (.ret (.bool true))/\OldK s₁.heap s'.heap/\s'.os=s₁.os/\AllBare s'.gens) s₁:=by
  intro H hO hS hok hA hK
  have base_of:∀ {b:Addr} {o:Obj},s₁.heap.get? b=some o->H b=none->(gl s₁.heap H).get? b=some o:=fun e n=>lr e n
  have noA:∀ {b:Addr} {o:Obj} {es:Array DictEntry} {ep:Nat},s₁.heap.get? b=some o->o.data=.dict es ep->H b=none:=fun {b o es ep} e d=>by
   cases q:H b with
   |none=>rfl
   |some u=>
    have e':b=a:=hA b (by rw[q];simp)
    subst e'
    rw[ha] at e;cases e
    have d':Data.seq vs.toArray _=Data.dict es ep:=d
    cases d'
  have nsK:∀ {b:Addr} {m:Str->Option Value},s₁.heap.Ns b m->(gl s₁.heap H).Ns b m:=fun {b m} ⟨o,es,ep,e,d,r⟩=>⟨o,es,ep,base_of e (noA e d),d,r⟩
  have hKb:K.In (gl s₁.heap H):=fun b o e=>base_of (KX b o e) (by
   cases q:H b with
   |none=>rfl
   |some u=>
    have e':b=a:=hA b (by rw[q];simp)
    subst e'
    rw[hK (by rw[q];simp)] at e;cases e)
  have hM:Mod K mg (gl s₁.heap H):=⟨hKb,nsK hns,⟨mb,nsK hb,hbb⟩,let ⟨mc,h1,h2⟩:=hlim;⟨mc,nsK h1,h2⟩⟩
  have e0:nM P w K mg (gl s₁.heap H) callerA [] s₁ H:=⟨rfl,hM,fun b o e=>nE e,Nat.le_of_eq (kl _ _),trivial,fun b hb=>absurd (show b∈([]:List Addr) from hb) (by simp),hok,.of_eq hg⟩
  refine codeAny_mono ((F _ hKb (nsK hns)).run callerA [] s₁ H ⟨[.ref a],[]⟩ [.ref a] [.ref a] _ _ hr e0 (hbind s₁ (.ref a)) (.cons rfl .nil) (hsp H hO hS)) fun r s' h=>?_
  cases r with
  |error e=>exact (hCX H e s' h).elim
  |ok fl=>
   cases fl with
   |next=>exact False.elim h
   |brk=>exact False.elim h
   |cont=>exact False.elim h
   |ret u=>
    obtain⟨v,H',os,bare,un,hok',r',q⟩:=h
    have q':v=.bl true:=q
    subst q'
    obtain rfl:u=Value.bool true:=r'
    refine⟨rfl,OldK.of_keep fun b o e=>?_,os,bare⟩
    cases q:H b with
    |none=>exact un.keep b o e q (by intro z;exact absurd (show b∈([]:List Addr) from z) (by simp)) (by simp)
    |some u=>
     rcases hO b with z|⟨ob,xs,z⟩
     ·rw[q] at z;cases z
     ·have z2:=un.frzs b ob _ z
      obtain⟨e1,_⟩:=hok b _ z
      obtain⟨e2,_⟩:=hok' b _ z2
      rw[e] at e1;cases e1
      exact e2
 cases hk:K.lookup a with
 |some o=>
  have e:=KX a o hk
  rw[ha] at e
  cases e
  refine core (fun _=>none) (fun _=>.inl rfl) (.inr ⟨_,vs.toArray,_,hk,rfl,rfl,rfl,by rw[List.size_toArray,lenV];exact hl,by simpa using rv⟩) (fun b u z=>by have z':(none:Option HO)=some u:=z;cases z') (fun b z=>absurd rfl z) fun z=>absurd rfl z
 |none=>
  refine core (fun b=>if b=a then some (.frz {cls:=.type "list",data:=.seq vs.toArray} (.lst (ns.map V.int))) else none) (fun b=>?_) (.inl (.inr ⟨{cls:=.type "list",data:=.seq vs.toArray},if_pos rfl⟩)) (fun b u z=>?_) (fun b z=>?_) fun _=>hk
  ·by_cases hb:b=a
   ·exact .inr ⟨_,_,if_pos hb⟩
   ·exact .inl (if_neg hb)
  ·by_cases hb:b=a
   ·have z':=(if_pos hb).symm.trans z
    cases z'
    subst hb
    exact⟨ha,by rw[List.length_map];exact hl,vs,_,rv,ha⟩
   ·have z':=(if_neg hb).symm.trans z
    cases z'
  ·by_cases hb:b=a
   ·exact hb
   ·exact absurd (if_neg hb) z
end L2
namespace L2
open PySem PySem.Spec PyProof.Rows
theorem walk_of {l:PySem.W.OpenLaw}{n k:Nat}{q:Program}{loose:List Str}{XP:(Str->Option Value)->Heap->Prop}{YP:World->Heap->Prop}{d:DefRec}{K:Params->PySem.W.Frag}{CX:World->lq}{sp:World->Sp}{x:Str}
  (hn:l.most=some n) (hn2:n<=sizeLine) (hdf:d.params.defaults=[]) (hr:Room k callerA)
  (hY:∀ (w:World) (h:Heap),YP w h->(K w.params).In h)
  (F:∀ (w:World) (mg:Str->Option Value) (fa:Addr) (h:Heap),(K w.params).In h->h.Ns mainGlobals mg->mg d.name=some (.ref fa)->
   ∃ fd:FuncData,(∀ (s:Shared) (u:Value),BindsTo s fd ⟨[u],[]⟩ [(x,u)])/\
    ∀ base:Heap,(K w.params).In base->base.Ns mainGlobals mg->aU l.prog w (K w.params) mg base (CX w) k fa fd [x] (sp w))
  (hsp:∀ (w:World) (H:Hp) (a:Addr) (ns:List Int),ns.length<=n->pV H->SqL (K w.params) H a (ns.map V.int)->sp w [.ref a] H (fun v _=>v=.bl true) fun _ _ _=>False)
  (hCX:∀ (w:World) (H:Hp) (s:Shared) (e:Value) (s':Shared),CX w [] H s (fun _ _ _=>False) e s'->False):
  PySem.W.WalkO q loose XP YP l.row.toRowW d [] (fun f vs=>PySem.call f vs):=by
 refine Att.attach_call hn hdf fun w s₀ s₁ mg mb fa o pm cd doc a vs ns G Y ho hd hcd hmg hobj hints hlen hg=>?_
 have KX:=hY w _ Y
 obtain⟨fd,hb,hF⟩:=F w mg fa _ KX G.T.g hmg
 exact lK KX G.T.g G.T.b G.T.builtins G.T.nolimit hg hobj hints (Nat.le_trans hlen hn2) hr hF hb (fun H hO hS=>hsp w H a ns hlen hO hS) fun H e s'=>hCX w H s₁ e s'
end L2
namespace L2
open PySem PySem.Spec PyProof.Rows
def cg (s:Stmt):Arguments:=match s with
 |.FunctionDef _ a _ _ _ _ _ _ _ _=>a
 |_=>{posonlyargs:=[],args:=[],vararg:=none,kwonlyargs:=[],kw_defaults:=[],kwarg:=none,defaults:=[]}
def bO (s:Stmt):List Stmt:=match s with
 |.FunctionDef _ _ b _ _ _ _ _ _ _=>b
 |_=>[]
def al (s:Stmt):Scope:=match s with
 |.FunctionDef _ _ _ _ _ _ sc _ _ _=>sc
 |_=>{kind:=.function,names:=[],isGenerator:=false,isCoroutine:=false}
abbrev cX:lq:=fun _ _ _ _ _ _=>False
abbrev E0:XK:=fun _ _ _=>False
theorem rB {X:Cx}:fe cX X E0:=fun _ _ _ _ _ _ _ h=>h.elim
structure Fun (K:PySem.W.Frag)(x qual:Str)(st:Stmt)(f:Addr)(fd:FuncData):Prop where
 ex:∃ (oc:Value) (od:Option Addr) (kV doc pm:Value) (an:Option Addr) (cdv ct:Value) (osl:Array (Option Value)),
  fd=PySem.W.fnOf x qual (cg st) (bO st) (al st) .none kV doc pm an cdv ct/\K.lookup f=some ⟨oc,od,.func fd,osl⟩/\PySem.W.codeIn K cdv qual=true
 kp:PySem.W.keepIn K (.ref f)=true
section
variable {P:Program}{w:World}{K:PySem.W.Frag}{mg:Str->Option Value}{base:Heap}
theorem Fun.ok {x qual:Str}{st:Stmt}{f:Addr}{fd:FuncData}{N ps:List Str}{k:Nat}{sp:Sp}(F:Fun K x qual st f fd)(S:ax N ps (al st))(len:∀ vs H Q E,sp vs H Q E->vs.length=ps.length)
  (hbody:∀ (cdv:Value) (A:Around) (outer:List Env) (s:Shared) (H:Hp) (vs:List V) (Q:VK) (E:XK),Room k (A.deeper (envOfC qual (al st) s.heap.objs.size f cdv))->sp vs H Q E->
   ∃ t,PSs (bd cX P w K mg base N qual (al st) f cdv A outer s H E).nox (bO st) t/\t {nx:=fun _ H'=>Q .non H',rt:=Q} (dl N vs) H):aU P w K mg base cX (k+1) f fd ps sp:=by
 obtain⟨oc,od,kV,doc,pm,an,cdv,ct,osl,rfl,lk,hcd⟩:=F.ex
 refine oU lk hcd S len fun A outer s H vs Q E hr hsp=>?_
 obtain⟨t,h,q⟩:=hbody cdv A outer s H vs Q E hr hsp
 exact⟨t,h.nox,q⟩
theorem Fun.binds {x qual:Str}{st:Stmt}{f:Addr}{fd:FuncData}{ps:List Str}(F:Fun K x qual st f fd)
  (h:∀ (kV doc pm:Value) (an:Option Addr) (cdv ct:Value) (us:List Value),us.length=ps.length->bindArgs (PySem.W.fnOf x qual (cg st) (bO st) (al st) .none kV doc pm an cdv ct) ⟨us,[]⟩=pure (ps.zip us)):Binds K fd ps []:=by
 obtain⟨oc,od,kV,doc,pm,an,cdv,ct,osl,rfl,lk,hcd⟩:=F.ex
 exact .all (h kV doc pm an cdv ct)
theorem fun_mk {x qual:Str}{st:Stmt}{f:Addr}{oc:Value}{od an:Option Addr}{osl:Array (Option Value)}{kV doc pm cdv ct:Value}(l:K.lookup f=some ⟨oc,od,.func (PySem.W.fnOf x qual (cg st) (bO st) (al st) .none kV doc pm an cdv ct),osl⟩)
  (c:PySem.W.codeIn K cdv qual=true) (k:PySem.W.keepIn K (.ref f)=true):Fun K x qual st f (PySem.W.fnOf x qual (cg st) (bO st) (al st) .none kV doc pm an cdv ct):=⟨⟨oc,od,kV,doc,pm,an,cdv,ct,osl,rfl,l,c⟩,k⟩
end
theorem oY {A:Around}{k:Nat}(hr:Room k A):A.units+1 < cLine:=Nat.lt_of_le_of_lt (Nat.add_le_add_left (by decide:1<=64) _) hr.units
theorem aQ {n:Nat}(h:n<=1000):n < sizeLine:=Nat.lt_of_le_of_lt h (by decide)
section
variable {X:Cx}
theorem pv (i:Nat){x:Str}{pos:Pos}(hN:X.N[i]? =some x:=by rfl) (hv:r6 X.env.scope x:=by first|exact Or.inl rfl|exact Or.inr (Or.inl rfl)|exact Or.inr (Or.inr rfl)) (hd:(x == ("__debug__":Str))=false:=by decide)
  (hcd:(x == ("__classdict__":Str))=false:=by decide):PE X (.Name x pos) (bB i):=pw hN hv hd hcd
end
theorem aV {A B:Prop}(h:B):if false=true then A else B:=by
 rw[if_neg Bool.false_ne_true]
 exact h
theorem aM {A B:Prop}(h:A):if true=true then A else B:=by
 rw[if_pos rfl]
 exact h
theorem bv {c A B:Prop} [Decidable c] (h1:c->A)(h2:¬ c->B):if c then A else B:=by
 by_cases h:c
 ·rw[if_pos h]
  exact h1 h
 ·rw[if_neg h]
  exact h2 h
def Same (H H':Hp):Prop:=∀ b o,H b=some o->H' b=some o
theorem Same.refl (H:Hp):Same H H:=fun _ _ h=>h
theorem Same.trans {H H1 H2:Hp}(a:Same H H1)(b:Same H1 H2):Same H H2:=fun c o h=>b c o (a c o h)
theorem Same.free {H H':Hp}(e:Same H H'){l:Addr}(h:H' l=Option.none):H l=Option.none:=by
 cases q:H l with
 |none=>rfl
 |some o=>
  rw[e l o q] at h
  cases h
theorem Same.seq {K:PySem.W.Frag}{H H':Hp}{a:Addr}{xs:List V}(e:Same H H')(h:SqL K H a xs):SqL K H' a xs:=by
 rcases h with (h|⟨o,h⟩)|h
 ·exact .inl (.inl (e _ _ h))
 ·exact .inl (.inr ⟨o,e _ _ h⟩)
 ·exact .inr h
section
variable {κ:Type} [DecidableEq κ]
theorem jI:∀ {l:List κ} {k:κ},l.Nodup->¬ k∈l->(l++[k]).Nodup
 |[],k,_,_=>by simp
 |a::r,k,h,hk=>by
  obtain⟨h1,h2⟩:=List.nodup_cons.mp h
  show (a::(r++[k])).Nodup
  refine List.nodup_cons.mpr ⟨fun m=>?_,jI h2 fun m=>hk (List.mem_cons.mpr (Or.inr m))⟩
  rcases List.mem_append.mp m with q|q
  ·exact h1 q
  ·exact hk (List.mem_cons.mpr (Or.inl (List.mem_singleton.mp q).symm))
end
end L2
set_option maxHeartbeats 4000000
set_option maxHeartbeats 4000000
namespace L2
open PySem
end L2
namespace L2
open PySem PySem.Spec PyProof.Rows
mutual
def RD (H:Hp):PyData->V->Prop
 |.none,v=>v=.non
 |.bool b,v=>v=.bl b
 |.int i,v=>v=.int i
 |.str x,v=>v=.str x
 |.list ds,v=>∃ a xs,v=.ref a/\H a=some (.lst xs)/\dU H ds xs
 |.tuple ds,v=>∃ a xs,v=.ref a/\H a=some (.tup xs)/\dU H ds xs
 |.dict _,_=>False
def dU (H:Hp):List PyData->List V->Prop
 |[],xs=>xs=[]
 |d::ds,xs=>∃ y ys,xs=y::ys/\RD H d y/\dU H ds ys
end
theorem eN {H:Hp}{ds:List PyData}{a:Addr}{xs:List V}(h:H a=some (.lst xs))(r:dU H ds xs):RD H (.list ds) (.ref a):=by
 unfold RD
 exact⟨a,xs,rfl,h,r⟩
theorem fj {H:Hp}{ds:List PyData}{a:Addr}{xs:List V}(h:H a=some (.tup xs))(r:dU H ds xs):RD H (.tuple ds) (.ref a):=by
 unfold RD
 exact⟨a,xs,rfl,h,r⟩
theorem bR {H:Hp}{ds:List PyData}{v:V}(h:RD H (.list ds) v):∃ a xs,v=.ref a/\H a=some (.lst xs)/\dU H ds xs:=by
 unfold RD at h
 exact h
theorem bz {H:Hp}{ds:List PyData}{v:V}(h:RD H (.tuple ds) v):∃ a xs,v=.ref a/\H a=some (.tup xs)/\dU H ds xs:=by
 unfold RD at h
 exact h
theorem lL {H:Hp}(i:Int):RD H (.int i) (.int i):=by unfold RD;rfl
theorem pW {H:Hp}(x:Str):RD H (.str x) (.str x):=by unfold RD;rfl
theorem cR {H:Hp}:dU H [] []:=by unfold dU;rfl
theorem cE {H:Hp}{d:PyData}{ds:List PyData}{y:V}{ys:List V}(h:RD H d y)(t:dU H ds ys):dU H (d::ds) (y::ys):=by
 unfold dU
 exact⟨y,ys,rfl,h,t⟩
theorem bj {H:Hp}{xs:List V}(h:dU H [] xs):xs=[]:=by
 unfold dU at h
 exact h
theorem aS {H:Hp}{d:PyData}{ds:List PyData}{xs:List V}(h:dU H (d::ds) xs):∃ y ys,xs=y::ys/\RD H d y/\dU H ds ys:=by
 unfold dU at h
 exact h
theorem fk {H:Hp}:∀ ns:List Int,dU H (ns.map PyData.int) (ns.map V.int)
 |[]=>cR
 |n::r=>cE (lL n) (fk r)
theorem du {H:Hp}:∀ {ds:List PyData} {xs:List V},dU H ds xs->xs.length=ds.length
 |[],_,h=>by
  rw[bj h]
  rfl
 |d::ds,_,h=>by
  obtain⟨y,ys,rfl,_,t⟩:=aS h
  rw[List.length_cons,List.length_cons,du t]
theorem dv {H:Hp}:∀ {ds:List PyData} {xs:List V} {j:Nat} {v:V},dU H ds xs->xs[j]? =some v->RD H (ds.getD j .none) v
 |[],_,_,_,h,e=>by rw[bj h] at e;cases e
 |d::ds,_,j,v,h,e=>by
  obtain⟨y,ys,rfl,h1,t⟩:=aS h
  cases j with
  |zero=>
   have e':y=v:=by simpa using e
   subst e'
   exact h1
  |succ j=>exact dv (ds:=ds) t (by simpa using e)
mutual
theorem bY {H H':Hp}(k:Same H H'):∀ (d:PyData) (v:V),RD H d v->RD H' d v
 |.none,v,h=>by unfold RD at h ⊢;exact h
 |.bool b,v,h=>by unfold RD at h ⊢;exact h
 |.int i,v,h=>by unfold RD at h ⊢;exact h
 |.str x,v,h=>by unfold RD at h ⊢;exact h
 |.list ds,v,h=>by
  obtain⟨a,xs,e,h1,h2⟩:=bR h
  subst e
  exact eN (k _ _ h1) (fm k ds xs h2)
 |.tuple ds,v,h=>by
  obtain⟨a,xs,e,h1,h2⟩:=bz h
  subst e
  exact fj (k _ _ h1) (fm k ds xs h2)
 |.dict _,v,h=>by
  unfold RD at h
  exact h.elim
theorem fm {H H':Hp}(k:Same H H'):∀ (ds:List PyData) (xs:List V),dU H ds xs->dU H' ds xs
 |[],xs,h=>by
  rw[bj h]
  exact cR
 |d::ds,xs,h=>by
  obtain⟨y,ys,e,h1,h2⟩:=aS h
  subst e
  exact cE (bY k d y h1) (fm k ds ys h2)
end
section
variable {X:Cx}{pins:List (Addr×Obj)}{σ:St}{H:Hp}{s:Shared}
mutual
theorem cF (I:Inv X pins σ H s):∀ (d:PyData) (x:V) (v:Value),RD H d x->RelV x v->∃ as,Reads s.heap v d as
 |.none,x,v,h,r=>by
  unfold RD at h
  subst h
  cases r
  exact⟨[],.none⟩
 |.bool b,x,v,h,r=>by
  unfold RD at h
  subst h
  cases r
  exact⟨[],.bool b⟩
 |.int i,x,v,h,r=>by
  unfold RD at h
  subst h
  obtain⟨t,rfl⟩:=r
  exact⟨[],.int i t⟩
 |.str y,x,v,h,r=>by
  unfold RD at h
  subst h
  obtain⟨t,rfl⟩:=r
  exact⟨[],.str y t⟩
 |.list ds,x,v,h,r=>by
  obtain⟨a,xs,e,h1,h2⟩:=bR h
  subst e
  cases r
  obtain⟨its,rv,⟨o,n,e1,e2,_,e4⟩,_⟩:=I.list (SqL.of h1)
  obtain⟨as,q⟩:=dW I ds xs its h2 rv
  exact⟨a::as,.list e1 e2 e4 (by simpa using q)⟩
 |.tuple ds,x,v,h,r=>by
  obtain⟨a,xs,e,h1,h2⟩:=bz h
  subst e
  cases r
  obtain⟨its,rv,⟨o,e1,e2,n,e4⟩,_⟩:=I.tuple (SqT.of h1)
  obtain⟨as,q⟩:=dW I ds xs its h2 rv
  exact⟨as,.tuple e1 e2 e4 (by simpa using q)⟩
 |.dict _,x,v,h,_=>by
  unfold RD at h
  exact h.elim
theorem dW (I:Inv X pins σ H s):∀ (ds:List PyData) (xs:List V) (vs:List Value),dU H ds xs->Vals xs vs->∃ as,ReadsAll s.heap vs ds as
 |[],xs,vs,h,r=>by
  rw[bj h] at r
  cases r
  exact⟨[],.nil⟩
 |d::ds,xs,vs,h,r=>by
  obtain⟨y,ys,e,h1,h2⟩:=aS h
  subst e
  cases r with
  |cons r1 r2=>
   obtain⟨as,q1⟩:=cF I d y _ h1 r1
   obtain⟨bs,q2⟩:=dW I ds ys _ h2 r2
   exact⟨as++bs,.cons q1 q2⟩
end
end
section
variable {X:Cx}
inductive rD (x y:V)(H:Hp)(Q:VK):Prop
 |mk (da db:PyData)(ra:RD H da x)(rb:RD H db y)(sa:SeqAt.shaped da=true)(sb:SeqAt.shaped db=true)(q:Q (.bl (PyData.eqv da db)) H):rD x y H Q
inductive rE (x y:V)(H:Hp)(Q:VK):Prop
 |mk (da db:PyData)(ra:RD H da x)(rb:RD H db y)(sa:SeqAt.shaped da=true)(sb:SeqAt.shaped db=true)(q:Q (.bl (!PyData.eqv da db)) H):rE x y H Q
def pX:R2:=fun x y H Q=>rD x y H Q
def pY:R2:=fun x y H Q=>rE x y H Q
theorem pZ (hu:X.A.units+64 < cLine):OpR X (compareOp .Eq) pX:=by
 intro pins s σ H x y v u Q I rx ry h
 obtain⟨da,db,ra,rb,sa,sb,q⟩:=h
 obtain⟨as,qa⟩:=cF I da x v ra rx
 obtain⟨bs,qb⟩:=cF I db y u rb ry
 exact eq_dataH qa qb sa sb hu ⟨.bl _,H,I,rfl,q⟩
theorem p0 (hu:X.A.units+64 < cLine):OpR X (compareOp .NotEq) pY:=by
 intro pins s σ H x y v u Q I rx ry h
 obtain⟨da,db,ra,rb,sa,sb,q⟩:=h
 obtain⟨as,qa⟩:=cF I da x v ra rx
 obtain⟨bs,qb⟩:=cF I db y u rb ry
 exact ne_dataH qa qb sa sb hu ⟨.bl _,H,I,rfl,q⟩
theorem aL (hu:X.A.units+64 < cLine):OpR X (compareOp .Eq) (fun x y H Q=>sr x y H Q\/pX x y H Q):=OpR.or qY (pZ hu)
theorem bM (hu:X.A.units+64 < cLine):OpR X (compareOp .NotEq) (fun x y H Q=>su x y H Q\/pY x y H Q):=OpR.or qZ (p0 hu)
theorem aG:bP X (.builtin "isinstance") (fun xs H Q=>∃ x t c b,xs=[x,.ty c]/\dk X.K H x t/\PySem.W.kitOne X.K t (.type c)=some b/\Q (.bl b) H):=by
 intro pins s σ H xs us Q I r h
 obtain⟨x,t,c,b,rfl,ty,e,q⟩:=h
 obtain⟨u,w',rfl,rx,ry⟩:=jB r
 obtain rfl:w'=Value.type c:=ry
 exact ku I rx ty e fun tk=>⟨.bl b,H,I.tok _,rfl,q⟩
def bo (T c:String):Option Bool:=if (Value.type T == Value.type c)=true then some true else if PySem.W.kitMeta c=true then (fastBuiltinMro T).map (·.contains (Value.type c)) else none
theorem aw {K:PySem.W.Frag}{T c:String}{b:Bool}(h:bo T c=some b):PySem.W.kitOne K (.type T) (.type c)=some b:=h
def dX:PyData->String
 |.none=>"NoneType"
 |.bool _=>"bool"
 |.int _=>"int"
 |.str _=>"str"
 |.list _=>"list"
 |.tuple _=>"tuple"
 |.dict _=>"dict"
theorem eB {K:PySem.W.Frag}{H:Hp}:∀ (d:PyData) (v:V),RD H d v->dk K H v (.type (dX d))
 |.none,v,h=>by
  unfold RD at h
  subst h
  exact .non
 |.bool b,v,h=>by
  unfold RD at h
  subst h
  exact .bl b
 |.int i,v,h=>by
  unfold RD at h
  subst h
  exact .int i
 |.str x,v,h=>by
  unfold RD at h
  subst h
  exact .str x
 |.list ds,v,h=>by
  obtain⟨a,xs,e,h1,_⟩:=bR h
  subst e
  exact .lst h1
 |.tuple ds,v,h=>by
  obtain⟨a,xs,e,h1,_⟩:=bz h
  subst e
  exact .tup h1
 |.dict _,v,h=>by
  unfold RD at h
  exact h.elim
def p7:PyData->Bool
 |.tuple _=>true
 |_=>false
def fo:PyData->Bool
 |.int _=>true
 |.bool _=>true
 |_=>false
def gA:PyData->Bool
 |.bool _=>true
 |_=>false
def cS:PyData->Bool
 |.dict _=>true
 |_=>false
theorem lM:bo "NoneType" "tuple"=some false/\bo "bool" "tuple"=some false/\bo "int" "tuple"=some false/\bo "str" "tuple"=some false/\bo "list" "tuple"=some false/\bo "tuple" "tuple"=some true:=by
 refine⟨?_,?_,?_,?_,?_,?_⟩<;>decide+kernel
theorem p8:bo "NoneType" "int"=some false/\bo "bool" "int"=some true/\bo "int" "int"=some true/\bo "str" "int"=some false/\bo "list" "int"=some false/\bo "tuple" "int"=some false:=by
 refine⟨?_,?_,?_,?_,?_,?_⟩<;>decide+kernel
theorem nU:bo "NoneType" "bool"=some false/\bo "bool" "bool"=some true/\bo "int" "bool"=some false/\bo "str" "bool"=some false/\bo "list" "bool"=some false/\bo "tuple" "bool"=some false:=by
 refine⟨?_,?_,?_,?_,?_,?_⟩<;>decide+kernel
theorem gb {K:PySem.W.Frag}(d:PyData)(h:cS d=false):PySem.W.kitOne K (.type (dX d)) (.type "tuple")=some (p7 d):=by
 obtain⟨h1,h2,h3,h4,h5,h6⟩:=lM
 cases d with
 |none=>exact aw h1
 |bool _=>exact aw h2
 |int _=>exact aw h3
 |str _=>exact aw h4
 |list _=>exact aw h5
 |tuple _=>exact aw h6
 |dict _=>cases h
theorem jJ {K:PySem.W.Frag}(d:PyData)(h:cS d=false):PySem.W.kitOne K (.type (dX d)) (.type "int")=some (fo d):=by
 obtain⟨h1,h2,h3,h4,h5,h6⟩:=p8
 cases d with
 |none=>exact aw h1
 |bool _=>exact aw h2
 |int _=>exact aw h3
 |str _=>exact aw h4
 |list _=>exact aw h5
 |tuple _=>exact aw h6
 |dict _=>cases h
theorem gZ {K:PySem.W.Frag}(d:PyData)(h:cS d=false):PySem.W.kitOne K (.type (dX d)) (.type "bool")=some (gA d):=by
 obtain⟨h1,h2,h3,h4,h5,h6⟩:=nU
 cases d with
 |none=>exact aw h1
 |bool _=>exact aw h2
 |int _=>exact aw h3
 |str _=>exact aw h4
 |list _=>exact aw h5
 |tuple _=>exact aw h6
 |dict _=>cases h
theorem b5 {H:Hp}{d:PyData}{v:V}(h:RD H d v):cS d=false:=by
 cases d with
 |dict _=>
  unfold RD at h
  exact h.elim
 |_=>rfl
def nV:V->List V->Hp->VK->Prop:=fun x vs H Q=>∃ l xs i y,x=.ref l/\vs=[.int i,y]/\H l=some (.lst xs)/\0<=i/\i<=xs.length/\xs.length < sizeLine/\Q .non (upd H l (.lst (xs.take i.toNat++y::xs.drop i.toNat)))
theorem kF:oV X "list.insert" nV:=by
 intro pins s σ H x vs v us Q I rx rv h
 obtain⟨l,xs,i,y,rfl,rfl,hH,h0,h1,hz,q⟩:=h
 cases rx
 obtain⟨u1,u2,rfl,⟨t,rfl⟩,ry⟩:=jB rv
 obtain⟨z,its,n,r,hl,e⟩:=I.lstM hH
 have hs:(sizeLine:Nat)=16777216:=sizeLine_eq
 have hfit:¬ (!Builtin.List.listFitsIndex i)=true:=by
  rw[fitsIndex_both (by omega) (by omega)]
  exact Bool.false_ne_true
 refine call_meets F.slot_list_insert ⟨_,e,rfl⟩ F.entry_list_insert (F.args_list_insert_3 _ _ _) (AutoListH.list_insert_list_int_val_1 l its.toArray n i t u2 hfit (by rw[List.size_toArray];omega)) ⟨e,?_⟩
 refine⟨.non,_,I.lset (its':=its.take i.toNat++u2::its.drop i.toNat) hH e ?_ ((r.take _).append (.cons ry (r.drop _))) ?_,rfl,q⟩
 ·have h2:¬ i < 0:=by omega
  have h3:min i.toNat its.toArray.size=i.toNat:=by rw[List.size_toArray];omega
  show (its.toArray.extract 0 (if i < 0 then (i+((its.toArray.size:Nat):Int)).toNat else min i.toNat its.toArray.size)).push u2++its.toArray.extract (if i < 0 then (i+((its.toArray.size:Nat):Int)).toNat else min i.toNat its.toArray.size)=_
  rw[if_neg h2,h3]
  apply Array.toList_inj.mp
  simp
  exact List.take_of_length_le (by simp)
 ·rw[List.length_append,List.length_cons,List.length_take,List.length_drop]
  omega
end
structure Fn (P:Program)(w:World)(K:PySem.W.Frag)(mg:Str->Option Value)(base:Heap)(k:Nat)(x:Str)(f:Addr)(fd:FuncData)(ps:List Str)(sp:Sp):Prop where
 ok:aU P w K mg base cX k f fd ps sp
 b:Binds K fd ps []
 kp:PySem.W.keepIn K (.ref f)=true
 at_:mg x=some (.ref f)
section
variable {X:Cx}{j k:Nat}{f:Addr}{fd:FuncData}{ps:List Str}{sp:Sp}{x:Str}{p pos:Pos}{e:Expr}{es:List Expr}{t:TA}
theorem aI (G:Fn X.prog X.w X.K X.mg X.base j x f fd ps sp)(hr:Room k X.A)(hjk:j<=k)(hg:Gl X x)(ha:PA X (e::es) t)(hdb:(x == ("__debug__":Str))=false:=by decide)
  (he:starEach (e::es) X.env=(false,eval e X.env)::starEach es X.env:=by rfl) (hpl:(backTo pos (starEach es X.env)).any (·.1)=false:=by rfl):PE X (.Call (.Name x p) (e::es) [] pos) (jC sp [] E0 t):=
 gv G.ok (hr.mono hjk) hg G.at_ G.kp G.b .nil rB ha hdb he hpl
end
theorem ah {H:Hp}{p:Addr}(h:H p=none)(o:HO):Same H (upd H p o):=fun b u q=>by rw[av (ap q h)];exact q
theorem Same.upd_new {H0 H:Hp}{p:Addr}(k:Same H0 H)(h:H0 p=none)(o:HO):Same H0 (upd H p o):=fun b u q=>by rw[av (ap q h)];exact k b u q
theorem lN {α:Type}{xs:List α}{i:Int}(h0:0<=i)(h1:i < xs.length):∃ v,xs[i.toNat]? =some v/\fX xs i=some v:=by
 have hk:i.toNat < xs.length:=by omega
 have ek:i=((i.toNat:Nat):Int):=by omega
 have q:fX xs ((i.toNat:Nat):Int)=some xs[i.toNat]:=nO (List.getElem?_eq_getElem hk)
 rw[← ek] at q
 exact⟨_,List.getElem?_eq_getElem hk,q⟩
theorem g7 {ns:List Int}{i:Int}(h0:0<=i)(h1:i < ns.length):∃ v,ns[i.toNat]? =some v/\fX (ns.map V.int) i=some (.int v):=by
 obtain⟨v,h2,h3⟩:=lN (xs:=ns.map V.int) h0 (by rw[List.length_map];exact h1)
 rw[List.getElem?_map] at h2
 cases e:ns[i.toNat]? with
 |none=>rw[e] at h2;cases h2
 |some z=>
  rw[e] at h2
  have h2':V.int z=v:=by simpa using h2
  subst h2'
  exact⟨z,rfl,h3⟩
end L2
namespace L2
open PySem PySem.Spec PyProof.Rows
def AllIn (f:Str->Option Addr):List (Str×Addr)->Prop
 |[]=>True
 |p::r=>f p.1=some p.2/\AllIn f r
theorem AllIn.look {f:Str->Option Addr}:∀ {cl:List (Str×Addr)},AllIn f cl->∀ {y:Str} {c:Addr},cl.lookup y=some c->f y=some c
 |[],_,y,c,e=>by cases e
 |(n,a)::r,h,y,c,e=>by
  rw[List.lookup_cons] at e
  cases q:(y == n) with
  |true=>
   rw[q] at e
   have e1:y=n:=eq_of_beq q
   have e2:a=c:=Option.some.inj e
   rw[e1,← e2]
   exact h.1
  |false=>
   rw[q] at e
   exact AllIn.look h.2 e
def ba (X:Cx)(scope:Scope)(cl:List (Str×Addr))(NY:List Str)(C:Addr)(fp:List Addr)(s₀:Shared)(H₀:Hp):Cx where
 prog:=X.prog
 w:=X.w
 K:=X.K
 mg:=X.mg
 base:=X.base
 A:=X.A
 N:=NY
 s₀:=s₀
 H₀:=H₀
 env:=compEnvC scope (cellsFrom (C+1) scope.names cl) C X.env
 outer:=X.stack
 stack:=X.stack
 ex:=fp
 fn:=fun x=>(cl.lookup x).isNone
 calm:=X.calm
 pn:=[]
 xe:=fun _ _=>False
structure CompSc (X:Cx)(scope:Scope)(cl:List (Str×Addr))(NY:List Str)(idx:List (Option Nat)):Prop where
 clos:closureFor scope X.env=pure cl
 all:AllIn (fun y=>X.env.cells.lookup y) cl
 c2:∀ n,((relabel scope X.env).names.all fun q=>!(decide (q.2=.cell) || decide (q.2=.free)) || ((cellsFrom n scope.names cl).lookup q.1).isSome)=true
 ix:((NY.zip idx).all fun p=>match p.2 with
  |none=>true
  |some i=>decide (X.N[i]? =some p.1)&&(decide (X.env.kindOf p.1=some .cell) || decide (X.env.kindOf p.1=some .free))&&(decide ((relabel scope X.env).names.lookup p.1=some .cell) || decide ((relabel scope X.env).names.lookup p.1=some .free))&&(scope.names.all fun q=>!decide (q.2=.cell) || !decide (q.1=p.1)))=true
 len:idx.length=NY.length
 kind:scope.kind=.function
 names:∀ y∈scope.names,y.2=.local->scope.names.lookup y.1=some .local
theorem bc:∀ (names:List (Str×NameKind)) (n:Nat) (acc:List (Str×Addr)),cellsFrom n names acc=cellsFrom n names []++acc
 |[],_,_=>rfl
 |(x,k)::r,n,acc=>by
  unfold cellsFrom
  split
  ·rw[bc r (n+1) ((x,n)::acc),bc r (n+1) [(x,n)],List.append_assoc]
   rfl
  ·exact bc r n acc
theorem dY:∀ {names:List (Str×NameKind)} {n:Nat} {y:Str} {c:Addr},(y,c)∈cellsFrom n names []->(y,NameKind.cell)∈names
 |(x,k)::r,n,y,c,h=>by
  unfold cellsFrom at h
  split at h
  ·rename_i hk
   rw[bc] at h
   rcases List.mem_append.mp h with h|h
   ·exact List.mem_cons_of_mem _ (dY h)
   ·cases List.mem_singleton.mp h
    rw[eq_of_beq hk]
    exact List.mem_cons_self
  ·exact List.mem_cons_of_mem _ (dY h)
theorem fq {names:List (Str×NameKind)}{n:Nat}{cl:List (Str×Addr)}{y:Str}{c:Addr}(h:(cellsFrom n names cl).lookup y=some c):(y,c)∈cellsFrom n names []\/cl.lookup y=some c:=by
 rw[bc,List.lookup_append] at h
 cases e:(cellsFrom n names []).lookup y with
 |some d=>
  rw[e] at h
  cases h
  exact .inl (PySem.mem_of_lookup e)
 |none=>
  rw[e] at h
  exact .inr h
theorem lO {names:List (Str×NameKind)}{n:Nat}{cl:List (Str×Addr)}{y:Str}(hn:∀ q∈names,q.2=NameKind.cell->q.1≠y):(cellsFrom n names cl).lookup y=cl.lookup y:=by
 rw[bc,List.lookup_append]
 cases e:(cellsFrom n names []).lookup y with
 |some d=>exact absurd rfl (hn _ (dY (PySem.mem_of_lookup e)) rfl)
 |none=>rfl
theorem cY {M:Model}{A:Around}{E:Value->Shared->Prop}{s:Shared}{scope:Scope}{globals:Addr}{closure:List (Str×Addr)}{qual:Str}{outer:Env}{Q:Env->Shared->Prop}
  (hQ:∀ h',h'.Ns s.heap.objs.size (fun _=>none)->(∀ b o,s.heap.get? b=some o->h'.get? b=some o)->CellsOk h' (s.heap.objs.size+1) (cellsFrom (s.heap.objs.size+1) scope.names [])->
   Q (newEnv scope s.heap.objs.size globals (cellsFrom (s.heap.objs.size+1) scope.names closure) qual none .none (some outer) outer.builtins) {s with heap:=h'}):
  wpAny M A (newFunctionEnv scope globals closure [] qual none .none (some outer)) Q E s:=by
 simp only [newFunctionEnv,Option.isSome_some,if_true]
 refine wpAny_bind (wpAny_alloc ?_)
 refine wpAny_bind (wpAny_layCells _ (fun name kind cells=>by cases hkc:kind == NameKind.cell<;>simp [hkc]) _ _ _ _ ?_)
 have ok:=cellsFrom_ok scope.names (s.heap.push {cls:=.type "dict",data:=.dict #[]}) (s.heap.objs.size+1) [] ⟨fun _ _ hm=>(nomatch hm),List.Pairwise.nil⟩ (by rw[Heap.size_push];exact Nat.le_refl _)
 rw[Heap.size_push] at ok
 rw[show ({s with heap:=s.heap.push {cls:=.type "dict",data:=.dict #[]}}:Shared).heap.objs.size=s.heap.objs.size+1 from Heap.size_push ..]
 refine wpAny_bind ?_
 rw[List.forIn_nil]
 exact wpAny_pure (wpAny_pure (hQ _ ((Heap.Ns.new s.heap (.type "dict")).keeps (pushCells_keeps _ _)) (fun b o e=>pushCells_keeps _ _ b o (Heap.get?_push_of_some _ e)) ok))
def lP (idx:List (Option Nat))(σ:St):St:=idx.map fun o=>match o with
 |none=>none
 |some i=>(σ[i]?).getD none
section
variable {X:Cx}{scope:Scope}{cl:List (Str×Addr)}{NY:List Str}{idx:List (Option Nat)}
theorem CompSc.look (S:CompSc X scope cl NY idx){y:Str}(n:Nat)(h:(relabel scope X.env).names.lookup y=some .cell\/(relabel scope X.env).names.lookup y=some .free):∃ c,(cellsFrom n scope.names cl).lookup y=some c:=by
 have hm:∃ k,(y,k)∈(relabel scope X.env).names/\(k=.cell\/k=.free):=by
  rcases h with h|h
  ·exact⟨_,PySem.mem_of_lookup h,.inl rfl⟩
  ·exact⟨_,PySem.mem_of_lookup h,.inr rfl⟩
 obtain⟨k,hk,hkk⟩:=hm
 have q:=List.all_eq_true.mp (S.c2 n) _ hk
 have e:(decide (k=NameKind.cell) || decide (k=NameKind.free))=true:=by
  rcases hkk with rfl|rfl
  ·rfl
  ·rfl
 have q':(!(decide (k=NameKind.cell) || decide (k=NameKind.free)) || ((cellsFrom n scope.names cl).lookup y).isSome)=true:=q
 rw[e] at q'
 exact Option.isSome_iff_exists.mp q'
theorem g9 {pins:List (Addr×Obj)}{σ:St}{H:Hp}{s:Shared}{fp:List Addr}{h₁:Heap}{m:Str->Option Value}{tk:Nat}(S:CompSc X scope cl NY idx)(I:Inv X pins σ H s)
  (f2:∀ b∈fp,eZ X pins H b) (hfl:∀ b∈fp,b < s.heap.objs.size) (hns:h₁.Ns s.heap.objs.size m) (old:∀ b o,s.heap.get? b=some o->h₁.get? b=some o) (hcs:CellsOk h₁ (s.heap.objs.size+1) (cellsFrom (s.heap.objs.size+1) scope.names [])):
  Inv (ba X scope cl NY s.heap.objs.size fp s H) [] (lP idx σ) H {s with heap:=h₁,toks:=tk}:=by
 have hC:H s.heap.objs.size=none:=I.hok.fresh (Nat.le_refl _)
 have hcl:∀ {x:Str} {c:Addr},cl.lookup x=some c->X.env.cells.lookup x=some c:=fun e=>S.all.look e
 have cellLt:∀ {x:Str} {c:Addr},X.env.cells.lookup x=some c->c < s.heap.objs.size:=fun {x c} e=>by
  obtain⟨v,z⟩:=I.cell x c e
  exact z.lt
 have two:∀ {x:Str} {c:Addr},(cellsFrom (s.heap.objs.size+1) scope.names cl).lookup x=some c->((x,c)∈cellsFrom (s.heap.objs.size+1) scope.names []/\s.heap.objs.size < c/\h₁.IsCell c none)\/(X.env.cells.lookup x=some c/\c < s.heap.objs.size):=fun {x c} e=>by
  rcases fq e with h|h
  ·exact .inl ⟨h,(hcs.empty x c h).2,(hcs.empty x c h).1⟩
  ·exact .inr ⟨hcl h,cellLt (hcl h)⟩
 have inj:∀ x y c,(cellsFrom (s.heap.objs.size+1) scope.names cl).lookup x=some c->(cellsFrom (s.heap.objs.size+1) scope.names cl).lookup y=some c->x=y:=fun x y c h1 h2=>by
  rcases two h1 with a|a<;>rcases two h2 with b|b
  ·exact name_of_addr hcs.apart a.1 b.1
  ·exact absurd (Nat.lt_trans a.2.1 b.2) (Nat.lt_irrefl _)
  ·exact absurd (Nat.lt_trans b.2.1 a.2) (Nat.lt_irrefl _)
  ·exact I.ok.inj x y c a.1 b.1
 have ne:∀ b∈fp,∀ x c,(cellsFrom (s.heap.objs.size+1) scope.names cl).lookup x=some c->c≠b:=fun b hb x c e=>by
  rcases two e with a|a
  ·exact Nat.ne_of_gt (Nat.lt_trans (hfl b hb) a.2.1)
  ·exact (f2 b hb).2.2.2.2.1 x c a.1
 have fr:∀ x c,(cellsFrom (s.heap.objs.size+1) scope.names cl).lookup x=some c->H c=none:=fun x c e=>by
  rcases two e with a|a
  ·exact I.hok.fresh (Nat.le_of_lt a.2.1)
  ·exact I.freeC x c a.1
 have cab:∀ x c,(cl.lookup x).isNone=true->(cellsFrom (s.heap.objs.size+1) scope.names cl).lookup x=some c->s.heap.objs.size<=c:=fun x c hf e=>by
  rcases fq e with h|h
  ·exact Nat.le_of_succ_le (hcs.empty x c h).2
  ·rw[h] at hf
   cases hf
 refine⟨⟨I.ok.mod,?_,I.ok.glob,I.ok.blt,Nat.le_refl _,inj,fun x hx=>S.look _ hx,cab,I.ok.hd,I.ok.frames,.inl rfl,fun b hb=>⟨Nat.ne_of_lt (hfl b hb),ne b hb⟩,
  I.bs,Nat.le_trans I.ok.bsz I.sz,fun b o e hb=>?_,fun b hb hz=>?_,I.stack,I.stkFree⟩,rfl,I.bare,Un.kept old,⟨m,hns,fun j y v h1 h2 h3=>?_⟩,fun x c e=>?_,hC,fr,fun p hp=>absurd (show p∈([]:List (Addr×Obj)) from hp) (by simp),I.hok.kept old,?_⟩
 ·exact S.kind
 ·rcases (f2 b hb).2.2.2.1 with z|z
  ·exact I.ok.noex b o e z
  ·exact absurd (Nat.lt_of_lt_of_le (Heap.lt_size e) (Nat.le_trans I.ok.bsz z)) (Nat.lt_irrefl _)
 ·rcases List.mem_cons.mp (I.stkSub b hz) with e|e
  ·exact (f2 b hb).2.1 e
  ·exact (f2 b hb).2.2.1 e
 ·
  have h2':(lP idx σ)[j]? =some (some v):=h2
  unfold lP at h2'
  rw[List.getElem?_map] at h2'
  cases ej:idx[j]? with
  |none=>rw[ej] at h2';cases h2'
  |some o=>
   rw[ej] at h2'
   cases o with
   |none=>cases h2'
   |some i=>
    have e3:(σ[i]?).getD none=some v:=by simpa using h2'
    have e4:σ[i]? =some (some v):=by
     cases q:σ[i]? with
     |none=>rw[q] at e3;cases e3
     |some z=>
      rw[q] at e3
      exact congrArg some e3
    have hz:(NY.zip idx)[j]? =some (y,some i):=by
     rw[List.getElem?_zip_eq_some]
     exact⟨h1,ej⟩
    have q:=List.all_eq_true.mp S.ix _ (List.mem_of_getElem? hz)
    have q':(decide (X.N[i]? =some y)&&(decide (X.env.kindOf y=some .cell) || decide (X.env.kindOf y=some .free))&&(decide ((relabel scope X.env).names.lookup y=some .cell) || decide ((relabel scope X.env).names.lookup y=some .free))&&(scope.names.all fun q=>!decide (q.2=.cell) || !decide (q.1=y)))=true:=q
    rw[Bool.and_eq_true,Bool.and_eq_true,Bool.and_eq_true,Bool.or_eq_true,Bool.or_eq_true] at q'
    obtain⟨⟨⟨q1,q2⟩,q3⟩,q4⟩:=q'
    have q5:∀ q∈scope.names,q.2=NameKind.cell->q.1≠y:=fun q hq e1 e2=>by
     have:=List.all_eq_true.mp q4 q hq
     rw[decide_eq_true e1,decide_eq_true e2] at this
     cases this
    have q1':=of_decide_eq_true q1
    have q2':X.env.kindOf y=some .cell\/X.env.kindOf y=some .free:=q2.elim (fun z=>.inl (of_decide_eq_true z)) fun z=>.inr (of_decide_eq_true z)
    have q3':(relabel scope X.env).names.lookup y=some .cell\/(relabel scope X.env).names.lookup y=some .free:=q3.elim (fun z=>.inl (of_decide_eq_true z)) fun z=>.inr (of_decide_eq_true z)
    obtain⟨mX,_,hl⟩:=I.loc
    obtain⟨u,ru,lk⟩:=hl i y v q1' e4 (.inr q2')
    refine⟨u,ru,.inr ⟨q3',?_⟩⟩
    obtain⟨c,hc0⟩:=S.look (s.heap.objs.size+1) q3'
    have hc:=hc0
    rw[lO q5] at hc
    rcases lk with⟨hk,_⟩|⟨_,c',hc',hcell⟩
    ·rcases q2' with z|z
     ·rw[hk] at z;cases z
     ·rw[hk] at z;cases z
    ·have e5:=hcl hc
     rw[hc'] at e5
     cases e5
     obtain⟨oc,ho,hd⟩:=hcell
     exact⟨_,hc0,oc,old _ _ ho,hd⟩
 ·rcases two e with a|a
  ·exact⟨none,a.2.2⟩
  ·obtain⟨v,oc,ho,hd⟩:=I.cell x c a.1
   exact⟨v,oc,old _ _ ho,hd⟩
 ·unfold lP
  rw[List.length_map]
  exact S.len
end
def oZ (Y:Cx)(ifs:List Expr)(t:TT):Prop:=
 ∀ (pins:List (Addr×Obj)) (s:Shared) (σ:St) (H:Hp) (Q:Bool->Hp->Prop),Inv Y pins σ H s->t σ H Q->
  wpAny (model Y.prog Y.w) Y.A (forIn ifs true fun c r=>if r=true then do let ok ← isTrue c Y.env (eval c Y.env);pure (ForInStep.yield ok) else pure (ForInStep.yield r)) (TP Y pins σ Q) Y.xe s
def rT:TT:=fun _ H Q=>Q true H
theorem bE {i:Nat}{x:V}{σ:St}{H:Hp}{A B:St->Hp->Prop}(h:A (σ.set i (some x)) H):bW i x σ H (fun σ3 H3=>rT σ3 H3 fun b H4=>if b=true then A σ3 H4 else B σ3 H4):=by
 show (if true=true then A (σ.set i (some x)) H else B (σ.set i (some x)) H)
 exact aM h
theorem bp {Y:Cx}:oZ Y [] rT:=fun pins s σ H Q I h=>wpAny_tests_nil ⟨H,I,h⟩
theorem jK {Y:Cx}{c:Expr}{t:TT}(h:PT Y c t):oZ Y [c] t:=fun pins s σ H Q I hw=>wpAny_tests_one (h pins s σ H Q I hw)
def eD (J:It)(D:Addr)(g:TG)(tt:TT)(te:TE)(σ0:St)(H1:Hp)(Q:VK):Prop:=
 ∃ W:Nat->Nat->St->List V->Hp->Prop,(∃ m,W 0 m σ0 [] (upd H1 D (.lst [])))/\∀ i m σ ys H,W i m σ ys H->H D=some (.lst ys)/\
  ((J.stop i H/\Q (.ref D) H)\/(J.go i H/\∃ N:St->List V->Hp->Prop,(∀ σ' ys' H',N σ' ys' H'->∃ m',m' < m/\W (i+1) m' σ' ys' H')/\
   ∀ x H2,J.yld i H x H2->g x σ H2 fun σ3 H3=>tt σ3 H3 fun b H4=>if b=true then te σ3 H4 fun y H5=>H5 D=some (.lst ys)/\ys.length < sizeLine/\N σ3 (ys++[y]) (upd H5 D (.lst (ys++[y]))) else N σ3 ys H4))
def g_ (idx:List (Option Nat))(wi:TI)(g:TG)(tt:TT)(te:TE):TE:=fun σ H Q=>wi σ H fun J H1=>∀ D,H1 D=none->eD J D g tt te (lP idx σ) H1 Q
section
variable {prog:Program}{w:World}{A:Around}{R:Result->Shared->Prop}{s:Shared}
theorem cG {elt target iter:Expr}{ifs:List Expr}{scope:Scope}{pos:Pos}{it acc:Value}{env:Env}(I:Nat->Shared->Prop)
  (turn:∀ n s,I n s->wpAny (model prog w) A (pyNext it) (fun r s₁=>match r with
   |none=>R (.ok .next) s₁
   |some v=>wpAny (model prog w) A (letOwnedTupleGo target it v) (fun _ s₀=>wpAny (model prog w) A (assign target env v) (fun _ s₂=>
     wpAny (model prog w) A (forIn ifs true fun c r=>if r=true then do let ok ← isTrue c env (eval c env);pure (ForInStep.yield ok) else pure (ForInStep.yield r)) (fun ok s₃=>
      if ok=true then wpAny (model prog w) A (eval elt env) (fun x s₄=>
       wpAny (model prog w) A (call (.builtin "list.append") [acc,x]) (fun _ s₅=>∃ m,m < n/\I m s₅) (fun _ _=>False) s₄) (fun _ _=>False) s₃
      else ∃ m,m < n/\I m s₃) (fun _ _=>False) s₂) (fun _ _=>False) s₀) (fun _ _=>False) s₁) (fun _ _=>False) s)
  (n:Nat) (h:I n s):
  codeAny (model prog w) A (.compLoop (.ListComp elt [⟨target,iter,ifs,0⟩] scope pos) 0 it acc env) R s:=by
 refine codeAny_loop rfl I (fun n s hI=>?_) n h
 show wpAny _ A ((compTurn (.ListComp elt [⟨target,iter,ifs,0⟩] scope pos) 0 it acc env).onRaise (fun x=>do noteFrame x env;theTreesLotGoes x)) _ _ s
 refine wpAny_noted ?_
 rw[compTurn_list]
 have no:∀ {α:Type} {t:Sem α} {Q:α->Shared->Prop} {E:Value->Shared->Prop} {s:Shared},wpAny (model prog w) A t Q (fun _ _=>False) s->wpAny (model prog w) A t Q E s:=fun hq=>wpAny_mono hq (fun _ _ z=>z) fun _ _ z=>z.elim
 refine wpAny_bind (wpAny_standAt (wpAny_bind (wpAny_mono (turn n s hI) (fun r s₁ h₁=>?_) fun _ _ h'=>h'.elim)))
 cases r with
 |none=>exact wpAny_pure h₁
 |some v=>
  refine wpAny_bind (wpAny_mono h₁ (fun _ s₀ h₀=>?_) fun _ _ h'=>h'.elim)
  refine wpAny_bind (wpAny_mono h₀ (fun _ s₂ h₂=>wpAny_bind (wpAny_mono h₂ (fun ok s₃ h₃=>?_) fun _ _ h'=>h'.elim)) fun _ _ h'=>h'.elim)
  cases ok with
  |false=>exact wpAny_pure ⟨rfl,h₃⟩
  |true=>
   exact wpAny_bind (wpAny_bind (wpAny_mono h₃ (fun x s₄ h₄=>wpAny_bind (wpAny_mono h₄ (fun _ s₅ h₅=>wpAny_pure (wpAny_pure ⟨rfl,h₅⟩)) fun _ _ h'=>h'.elim)) fun _ _ h'=>h'.elim))
end
section
variable {X:Cx}{scope:Scope}{cl:List (Str×Addr)}{NY:List Str}{idx:List (Option Nat)}{elt iter target:Expr}{ifs:List Expr}{pos:Pos}{wi:TI}{g:TG}{tt:TT}{te:TE}
structure CompEnd (X:Cx)(pins:List (Addr×Obj))(σ:St)(H:Hp)(C:Addr)(s:Shared):Prop where
 inv:Inv X pins σ H s
 ns:∃ m,s.heap.Ns C m
 free:H C=none
 loc:C≠X.env.locals
 young:X.s₀.heap.objs.size<=C
 cells:∀ x c,X.env.cells.lookup x=some c->c≠C
 pin:∀ p∈X.pn++pins,p.1≠C
theorem CompEnd.gone {pins:List (Addr×Obj)}{σ:St}{H:Hp}{C:Addr}{s:Shared}{h':Heap}(e:CompEnd X pins σ H C s)(hs:Heap.SameBut C s.heap h'):Inv X pins σ H {s with heap:=h'}:=
 e.inv.turned (t':=s.toks) (fun b o hb q=>(hs.2 b hb).trans q) e.free e.loc (.inr e.young) e.cells e.pin
theorem hG {pins:List (Addr×Obj)}{σ:St}{H:Hp}{s:Shared}{Q:VK}{RR:Value->Addr->Result->Shared->Prop}(hcalm:X.calm=true)(S:CompSc X scope cl NY idx)(hi:PI X target iter wi)
  (hg:∀ C fp s₀ H₀,PG (ba X scope cl NY C fp s₀ H₀) target g) (ht:∀ C fp s₀ H₀,oZ (ba X scope cl NY C fp s₀ H₀) ifs tt) (he:∀ C fp s₀ H₀,PE (ba X scope cl NY C fp s₀ H₀) elt te)
  (I:Inv X pins σ H s) (h:g_ idx wi g tt te σ H Q)
  (hRR:∀ D C H' s',CompEnd X pins σ H' C s'->Q (.ref D) H'->RR (.ref D) C (.ok .next) s'):
  wpAny (model X.prog X.w) X.A (eval iter X.env) (fun x s₁=>wpAny (model X.prog X.w) X.A (pyIter x) (fun it s₂=>wpAny (model X.prog X.w) X.A (newList []) (fun acc s₃=>
   wpAny (model X.prog X.w) X.A (newFunctionEnv scope X.env.globals cl [] X.env.qual none .none (some X.env)) (fun cenv s₄=>
    codeAny (model X.prog X.w) X.A (.compStart (.ListComp elt [⟨target,iter,ifs,0⟩] scope pos) 0 it acc {cenv with scope:=relabel scope X.env}) (RR acc cenv.locals) s₄) X.xe s₃) X.xe s₂) X.xe s₁) X.xe s:=by
 refine aX (hi pins s σ H _ I h) fun v s1 h1=>aX h1 fun itv s2 h2=>?_
 obtain⟨it,fp,tn,J,H2,e,I2,T,st2,f2,r2⟩:=h2
 subst e
 have hD:H2 s2.heap.objs.size=none:=I2.hok.fresh (Nat.le_refl _)
 have r3:=r2 s2.heap.objs.size hD
 have I3:Inv X pins σ (upd H2 s2.heap.objs.size (.lst [])) {s2 with heap:=s2.heap.push {cls:=.type "list",data:=.seq ([]:List Value).toArray}}:=
  I2.laid (t':=s2.toks) (fun b u q=>Heap.get?_push_of_some _ q) (Nat.le_refl _) ⟨Nat.zero_le _,[],0,.nil,Heap.get?_push_size _ rfl⟩
 refine wpAny_newObj_type (cY fun h₁ hns hsb hcs=>?_)
 dsimp only at hns hsb hcs ⊢
 have hfl0:∀ b∈fp,b < s2.heap.objs.size:=fun b hb=>by
  obtain⟨o,q,_⟩:=T.obj 0 _ st2 b hb
  exact Heap.lt_size q
 have neD:∀ b∈fp,b≠s2.heap.objs.size:=fun b hb=>Nat.ne_of_lt (hfl0 b hb)
 have f3:∀ b∈fp,eZ X pins (upd H2 s2.heap.objs.size (.lst [])) b:=fun b hb=>⟨by rw[av (neD b hb)];exact (f2 b hb).1,(f2 b hb).2⟩
 generalize hs3:({s2 with heap:=s2.heap.push {cls:=.type "list",data:=.seq ([]:List Value).toArray}}:Shared)=s3 at I3
 have es3:s3.heap=s2.heap.push {cls:=.type "list",data:=.seq ([]:List Value).toArray}:=by rw[← hs3]
 have hfl:∀ b∈fp,b < s3.heap.objs.size:=fun b hb=>by
  rw[es3,Heap.size_push]
  exact Nat.lt_succ_of_lt (hfl0 b hb)
 have hns':h₁.Ns s3.heap.objs.size (fun _=>none):=by rw[es3];exact hns
 have old:∀ b o,s3.heap.get? b=some o->h₁.get? b=some o:=fun b o q=>by
  rw[es3] at q
  exact hsb b o q
 have hcs':CellsOk h₁ (s3.heap.objs.size+1) (cellsFrom (s3.heap.objs.size+1) scope.names []):=by rw[es3];exact hcs
 have st3:tn 0 h₁:=T.keep _ _ _ st2 fun b hb o q=>old b o (by rw[es3];exact Heap.get?_push_of_some _ q)
 have IY0:=g9 (tk:=s2.toks) S I3 f3 hfl hns' old hcs'
 have e4:({s3 with heap:=h₁,toks:=s2.toks}:Shared)={s2 with heap:=h₁,toks:=s2.toks}:=by rw[← hs3]
 rw[e4] at IY0
 have eC:s3.heap.objs.size=(s2.heap.push {cls:=.type "list",data:=.seq ([]:List Value).toArray}).objs.size:=by rw[es3]
 have hC3:s3.heap.get? s3.heap.objs.size=none:=Heap.get?_none_of_le (Nat.le_refl _)
 obtain⟨W,⟨m0,w0⟩,turn⟩:=r3
 have loop:∀ s4:Shared,s4={s2 with heap:=h₁,toks:=s2.toks}->
   codeAny (model X.prog X.w) X.A (.compLoop (.ListComp elt [⟨target,iter,ifs,0⟩] scope pos) 0 (.ref it) (.ref s2.heap.objs.size) (compEnvC scope (cellsFrom (s3.heap.objs.size+1) scope.names cl) s3.heap.objs.size X.env)) (RR (.ref s2.heap.objs.size) s3.heap.objs.size) s4:=by
  rintro s4 rfl
  have stat:∀ {H':Hp},(∀ b∈fp,H' b=none)->∀ b∈fp,eZ (ba X scope cl NY s3.heap.objs.size fp s3 (upd H2 s2.heap.objs.size (.lst []))) [] H' b:=fun {H'} hn b hb=>
   ⟨hn b hb,Nat.ne_of_lt (hfl b hb),(fun z=>(IY0.ok.exfs b hb) z),.inl hb,fun x c e=>(IY0.ok.exf b hb).2 x c e,fun p hp=>absurd (show p∈([]:List (Addr×Obj)) from hp) (by simp)⟩
  refine cG (fun n s'=>∃ i σ' ys H',Inv (ba X scope cl NY s3.heap.objs.size fp s3 (upd H2 s2.heap.objs.size (.lst []))) [] σ' H' s'/\tn i s'.heap/\(∀ b∈fp,H' b=none)/\W i n σ' ys H') ?_ m0
   ⟨0,_,[],_,IY0,st3,fun b hb=>(f3 b hb).1,w0⟩
  rintro n s5 ⟨i,σ5,ys,H5,I5,st5,fr5,w5⟩
  obtain⟨hacc,alt⟩:=turn i n σ5 ys H5 w5
  rcases alt with⟨stop,qn⟩|⟨go,N,hN,step⟩
  ·refine aX (T.done (ba X scope cl NY s3.heap.objs.size fp s3 (upd H2 s2.heap.objs.size (.lst []))) rfl rfl rfl hcalm i [] s5 σ5 H5 (fun _ _=>False) I5 (stat fr5) st5 stop) fun r s6 ⟨hr,I6⟩=>?_
   subst hr
   have I7:Inv X pins σ H5 s6:=I3.call' (s':=s6) (ch:=fp) I6.os I6.base I6.hok I6.bare fun b hb=>⟨(f3 b hb).2.2.2.1,(f3 b hb).2.1,(f3 b hb).2.2.2.2.1,(f3 b hb).2.2.2.2.2⟩
   refine hRR _ _ H5 s6 ⟨I7,?_,I6.free,Nat.ne_of_gt I3.lt,I3.sz,fun x c e=>?_,fun p hp z=>?_⟩ qn
   ·obtain⟨m,hn,_⟩:=I6.loc
    exact⟨m,hn⟩
   ·obtain⟨v,q⟩:=I3.cell x c e
    exact Nat.ne_of_lt q.lt
   ·have q:=(I3.pin p hp).1
    rw[z,hC3] at q
    cases q
  ·refine aX (T.item (ba X scope cl NY s3.heap.objs.size fp s3 (upd H2 s2.heap.objs.size (.lst []))) rfl rfl rfl hcalm i [] s5 σ5 H5 (fun _ _=>False) I5 (stat fr5) st5 go) fun r s6 ⟨u,hr,h6⟩=>?_
   subst hr
   refine aX h6 fun _ s7 ⟨x,H7,I7,r7,y7,st7,fr7⟩=>?_
   have I7':=I7.pinned (stat fr7) (T.obj _ _ st7)
   have back:∀ {σ8:St} {ys8:List V} {H8:Hp} {s8:Shared},Inv (ba X scope cl NY s3.heap.objs.size fp s3 (upd H2 s2.heap.objs.size (.lst []))) ([]++dL fp s7.heap) σ8 H8 s8->N σ8 ys8 H8->
     ∃ m,m < n/\∃ i σ' ys H',Inv (ba X scope cl NY s3.heap.objs.size fp s3 (upd H2 s2.heap.objs.size (.lst []))) [] σ' H' s8/\tn i s8.heap/\(∀ b∈fp,H' b=none)/\W i m σ' ys H':=fun {σ8 ys8 H8 s8} I8 n8=>by
    obtain⟨m',hm,w8⟩:=hN σ8 ys8 H8 n8
    refine⟨m',hm,i+1,σ8,ys8,H8,I8.unpinned,T.keep _ _ _ st7 fun b hb o e=>(I8.pin (b,o) (List.mem_append_right _ (List.mem_append_right _ (bK hb e)))).1,fun b hb=>?_,w8⟩
    obtain⟨o,e,d⟩:=T.obj _ _ st7 b hb
    exact (I8.pin (b,o) (List.mem_append_right _ (List.mem_append_right _ (bK hb e)))).2.1
   refine aX (hg _ _ _ _ _ s7 σ5 H7 x u _ I7' r7 (step x H7 y7)) fun _ s8 ⟨σ8,H8,I8,q8⟩=>?_
   refine aX (ht _ _ _ _ _ s8 σ8 H8 _ I8 q8) fun ok s9 ⟨H9,I9,q9⟩=>?_
   cases ok with
   |false=>exact aV (back I9 q9)
   |true=>
    refine aM ?_
    refine aX (he _ _ _ _ _ s9 σ8 H9 _ I9 q9) fun y s10 ⟨yv,H10,I10,r10,hD10,hz10,n10⟩=>?_
    refine aX (bL _ s10 σ8 H10 (.ref s2.heap.objs.size) [yv] (.ref s2.heap.objs.size) [y] (fun v H'=>v=.non/\H'=upd H10 s2.heap.objs.size (.lst (ys++[yv]))) I10 rfl (.cons r10 .nil) ⟨_,ys,yv,rfl,rfl,hD10,hz10,rfl,rfl⟩) fun _ s11 ⟨_,H11,I11,_,_,e11⟩=>?_
    subst e11
    exact back I11 n10
 have e5:(compEnvC scope (cellsFrom (s3.heap.objs.size+1) scope.names cl) s3.heap.objs.size X.env)={newEnv scope (s2.heap.push {cls:=.type "list",data:=.seq ([]:List Value).toArray}).objs.size X.env.globals (cellsFrom ((s2.heap.push {cls:=.type "list",data:=.seq ([]:List Value).toArray}).objs.size+1) scope.names cl) X.env.qual none .none (some X.env) X.env.builtins with scope:=relabel scope X.env}:=by
  rw[es3]
  rfl
 have L1:=loop _ rfl
 rw[eC] at L1
 exact codeAny_compStart_list L1 (T.self _ 0 _ _ _ st3 L1)
theorem bw (hcalm:X.calm=true)(S:CompSc X scope cl NY idx)(hi:PI X target iter wi)(hg:∀ C fp s₀ H₀,PG (ba X scope cl NY C fp s₀ H₀) target g)(ht:∀ C fp s₀ H₀,oZ (ba X scope cl NY C fp s₀ H₀) ifs tt)
  (he:∀ C fp s₀ H₀,PE (ba X scope cl NY C fp s₀ H₀) elt te) (hs:∀ x,foldedSetIterable iter X.env x=pure x:=by intro _;rfl):PE X (.ListComp elt [⟨target,iter,ifs,0⟩] scope pos) (g_ idx wi g tt te):=by
 intro pins s σ H Q I h
 rw[eval_ListComp]
 refine wpAny_comprehension_free (use:=none) rfl hs S.clos S.kind S.names ?_
 refine hG (RR:=fun acc C=>compPost (model X.prog X.w) X.A X.xe none (EP X pins σ Q) acc C) hcalm S hi hg ht he I h ?_
 intro D C H' s' e q
 obtain⟨m,hn⟩:=e.ns
 exact⟨m,hn,fun h' hs'=>⟨.ref D,H',e.gone hs',rfl,q⟩⟩
def lQ (i:Nat)(te:TE):TS:=fun D σ H=>te σ H fun v H1=>D.nx (σ.set i (some v)) H1
theorem iT {i:Nat}{x:Str}{pos' spos:Pos}(hN:X.N.Nodup)(hx:X.N[i]? =some x) (hl:X.env.scope.names.lookup x=some .local) (hcalm:X.calm=true) (S:CompSc X scope cl NY idx) (hi:PI X target iter wi)
  (hg:∀ C fp s₀ H₀,PG (ba X scope cl NY C fp s₀ H₀) target g) (ht:∀ C fp s₀ H₀,oZ (ba X scope cl NY C fp s₀ H₀) ifs tt) (he:∀ C fp s₀ H₀,PE (ba X scope cl NY C fp s₀ H₀) elt te)
  (hsw:swapsWith (.ListComp elt [⟨target,iter,ifs,0⟩] scope pos) (some (.Name x pos')) spos.line X.env=pure true) (hs:∀ x,foldedSetIterable iter X.env x=pure x:=by intro _;rfl):
  PS X (.Assign [.Name x pos'] (.ListComp elt [⟨target,iter,ifs,0⟩] scope pos) spos) (lQ i (g_ idx wi g tt te)):=by
 intro pins s σ H D I h
 rw[exec_Assign_Name_used _ _ _ _ hsw]
 refine wpAny_bind (wpAny_standAt (wpAny_bind ?_))
 show wpAny _ X.A (do let _ ← comprehension (.ListComp elt [⟨target,iter,ifs,0⟩] scope pos) scope X.env _ (newList []) false (eval iter X.env) (some (assign (.Name x pos') X.env))) _ _ s
 refine wpAny_bind (wpAny_mono (wpAny_comprehension_free (use:=some (assign (.Name x pos') X.env)) (Q:=fun _ s'=>∃ σ' H',Inv X pins σ' H' s'/\D.nx σ' H') rfl hs S.clos S.kind S.names ?_) (fun _ s' hq=>wpAny_pure (wpAny_pure hq)) fun _ _ e=>e)
 refine hG (RR:=fun acc C=>compPost (model X.prog X.w) X.A X.xe (some (assign (.Name x pos') X.env)) (fun _ s'=>∃ σ' H',Inv X pins σ' H' s'/\D.nx σ' H') acc C) hcalm S hi hg ht he I h ?_
 intro D' C H' s' e q
 refine wpAny_assign_Name (fR e.inv hN hx (.inl hl) (v:=.ref D') (u:=.ref D') rfl (fun s'' I'' sb=>?_) (.inr hl))
 obtain⟨a,hsb,ha⟩:=sb
 have neC:C≠a:=by
  rcases ha with rfl|ha
  ·exact e.loc
  ·exact fun z=>e.cells _ _ ha z.symm
 obtain⟨m,hn⟩:=e.ns
 have e2:CompEnd X pins (σ.set i (some (.ref D'))) H' C s'':=⟨I'',⟨m,hn.sameBut hsb neC⟩,e.free,e.loc,e.young,e.cells,e.pin⟩
 exact⟨m,hn.sameBut hsb neC,fun h' hs'=>⟨_,H',e2.gone hs',q⟩⟩
end
section
variable {K:PySem.W.Frag}{a D:Addr}{xs:List V}{g:TG}{tt:TT}{te:TE}{σ0:St}{H1:Hp}{Q:VK}
theorem bA (Pv:Nat->St->List V->Hp->Prop)(h0:Pv 0 σ0 [] (upd H1 D (.lst [])))(hd:∀ i σ ys H,i<=xs.length->Pv i σ ys H->H D=some (.lst ys)/\SqL K H a xs)
  (hs:∀ i x σ ys H,xs[i]? =some x->Pv i σ ys H->g x σ H fun σ3 H3=>tt σ3 H3 fun b H4=>if b=true then te σ3 H4 fun y H5=>H5 D=some (.lst ys)/\ys.length < sizeLine/\Pv (i+1) σ3 (ys++[y]) (upd H5 D (.lst (ys++[y]))) else Pv (i+1) σ3 ys H4)
  (hq:∀ σ ys H,Pv xs.length σ ys H->Q (.ref D) H):eD (oR K a) D g tt te σ0 H1 Q:=by
 refine⟨fun i m σ ys H=>m=xs.length - i/\i<=xs.length/\Pv i σ ys H,⟨xs.length,by simp,Nat.zero_le _,h0⟩,?_⟩
 rintro i m σ ys H ⟨rfl,hi,p⟩
 obtain⟨hD,q⟩:=hd i σ ys H hi p
 refine⟨hD,?_⟩
 by_cases hlt:i < xs.length
 ·refine .inr ⟨⟨xs,xs[i],q,by simp [hlt]⟩,Pv (i+1),fun σ' ys' H' p'=>⟨xs.length - (i+1),by omega,rfl,hlt,p'⟩,fun x H' y=>?_⟩
  obtain⟨e,y⟩:=y
  subst e
  exact hs i x σ ys _ (y xs q) p
 ·have e:i=xs.length:=by omega
  subst e
  exact .inl ⟨⟨xs,q,Nat.le_refl _⟩,hq σ ys H p⟩
theorem hJ (Pv:Nat->St->List V->Hp->Prop)(h0:Pv 0 σ0 [] (upd H1 D (.lst [])))(hd:∀ i σ ys H,i<=xs.length->Pv i σ ys H->H D=some (.lst ys)/\SqT K H a xs)
  (hs:∀ i x σ ys H,xs[i]? =some x->Pv i σ ys H->g x σ H fun σ3 H3=>tt σ3 H3 fun b H4=>if b=true then te σ3 H4 fun y H5=>H5 D=some (.lst ys)/\ys.length < sizeLine/\Pv (i+1) σ3 (ys++[y]) (upd H5 D (.lst (ys++[y]))) else Pv (i+1) σ3 ys H4)
  (hq:∀ σ ys H,Pv xs.length σ ys H->Q (.ref D) H):eD (pB K a) D g tt te σ0 H1 Q:=by
 refine⟨fun i m σ ys H=>m=xs.length - i/\i<=xs.length/\Pv i σ ys H,⟨xs.length,by simp,Nat.zero_le _,h0⟩,?_⟩
 rintro i m σ ys H ⟨rfl,hi,p⟩
 obtain⟨hD,q⟩:=hd i σ ys H hi p
 refine⟨hD,?_⟩
 by_cases hlt:i < xs.length
 ·refine .inr ⟨⟨xs,xs[i],q,by simp [hlt]⟩,Pv (i+1),fun σ' ys' H' p'=>⟨xs.length - (i+1),by omega,rfl,hlt,p'⟩,fun x H' y=>?_⟩
  obtain⟨e,y⟩:=y
  subst e
  exact hs i x σ ys _ (y xs q) p
 ·have e:i=xs.length:=by omega
  subst e
  exact .inl ⟨⟨xs,q,Nat.le_refl _⟩,hq σ ys H p⟩
theorem iU {lo:Int}{n:Nat}(Pv:Nat->St->List V->Hp->Prop)(h0:Pv 0 σ0 [] (upd H1 D (.lst [])))(hd:∀ i σ ys H,i<=n->Pv i σ ys H->H D=some (.lst ys))
  (hs:∀ i σ ys H,i < n->Pv i σ ys H->g (.int (lo+i)) σ H fun σ3 H3=>tt σ3 H3 fun b H4=>if b=true then te σ3 H4 fun y H5=>H5 D=some (.lst ys)/\ys.length < sizeLine/\Pv (i+1) σ3 (ys++[y]) (upd H5 D (.lst (ys++[y]))) else Pv (i+1) σ3 ys H4)
  (hq:∀ σ ys H,Pv n σ ys H->Q (.ref D) H):eD (pC lo n) D g tt te σ0 H1 Q:=by
 refine⟨fun i m σ ys H=>m=n - i/\i<=n/\Pv i σ ys H,⟨n,by simp,Nat.zero_le _,h0⟩,?_⟩
 rintro i m σ ys H ⟨rfl,hi,p⟩
 refine⟨hd i σ ys H hi p,?_⟩
 by_cases hlt:i < n
 ·refine .inr ⟨hlt,Pv (i+1),fun σ' ys' H' p'=>⟨n - (i+1),by omega,rfl,hlt,p'⟩,fun x H' y=>?_⟩
  obtain⟨e,y⟩:=y
  subst e y
  exact hs i σ ys _ hlt p
 ·have e:i=n:=by omega
  subst e
  exact .inl ⟨Nat.le_refl _,hq σ ys H p⟩
end
end L2
namespace L2
open PySem PySem.Spec PyProof.Rows
section
variable {X:Cx}{pos:Pos}
def sG (K:PySem.W.Frag)(n:Nat)(t:nG):TG:=fun v σ H Q=>∃ a xs,v=.ref a/\SqL K H a xs/\xs.length=n/\t xs σ H Q
theorem lR {es:List Expr}{k:Nat}{t:nG}{n:Nat}(hc:X.calm=true)(h:qP X es t)
  (hn:(assignEach es X.env).length=n:=by rfl) (hst:(assignEach es X.env).findIdx? (·.1)=none:=by rfl):PG X (.Tuple es k pos) (sG X.K n t):=by
 intro pins s σ H v u Q I r hw
 obtain⟨a,xs,e1,hq,hl,hw⟩:=hw
 subst e1
 cases r
 obtain⟨its,rv,pl,hz⟩:=I.list hq
 rw[assign_Tuple]
 refine wpAny_bind (wpAny_standAt ?_)
 unfold unpack
 have hsz:(assignEach es X.env).length=its.toArray.size:=by
  rw[hn,List.size_toArray,← rv.length]
  exact hl.symm
 rw[hsz,hst]
 refine wpAny_bind (wpAny_holding (PySem.W.kun_itemsOf (I.ok.hd hc) pl.isList fun h' hx=>?_))
 have I1:Inv X pins σ H {s with heap:=h'}:=I.kept (t':=s.toks) fun b o e=>hx b o (Nat.ne_of_lt (Heap.lt_size e)) e
 exact h pins _ σ H xs _ Q I1 (by simpa using rv) hw
theorem lS (hc:X.calm=true):bP X (.builtin "sum") (fun xs H Q=>∃ (p:Addr) (ns:List Int),xs=[.ref p]/\SqL X.K H p (ns.map V.int)/\Q (.int ns.sum) H):=by
 intro pins s σ H xs us Q I r h
 obtain⟨p,ns,rfl,hq,q⟩:=h
 obtain⟨u,rfl,ru⟩:=bQ r
 cases ru
 obtain⟨its,rv,pl,hz⟩:=I.list hq
 have hi:IntsAre its ns:=fh rv
 obtain⟨zs,ez⟩:=hi.allInts.items
 have hl:=pl.isList
 rw[ez] at hl
 refine sum_intListG (I.ok.hd hc) hl fun h' tk t' hk=>?_
 have e1:numsOf its=zs.toList.map (·.1):=by
  rw[← nums_intItems,← ez]
 have e2:preSum (numAt zs) zs.size=ns.sum:=by
  rw[preSum_eq,List.take_of_length_le (by simp),← e1,hi.numsOf]
 rw[e2]
 exact⟨.int ns.sum,H,I.kept hk,⟨_,rfl⟩,q⟩
theorem iV {ss:List Str}:∀ {us:List Value},Vals (ss.map V.str) us->StrsAre us ss:=by
 induction ss with
 |nil=>intro us r;rw[List.map_nil] at r;cases r;exact .nil
 |cons n ns ih=>
  intro us r
  rw[List.map_cons] at r
  cases r with
  |cons r1 r2=>
   obtain⟨t,e⟩:=r1
   subst e
   exact .cons n t (ih r2)
theorem cy:oV X "str.join" (fun x vs H Q=>∃ (sep:Str) (p:Addr) (ys:List Str),x=.str sep/\vs=[.ref p]/\SqL X.K H p (ys.map V.str)/\(ys.map (·.length)).sum+ys.length*sep.length<=16777216/\Q (.str (Txt.join sep ys)) H):=by
 intro pins s σ H x vs v us Q I rx rv h
 obtain⟨sep,p,ys,rfl,rfl,hq,hz,q⟩:=h
 obtain⟨t,rfl⟩:=rx
 obtain⟨u,rfl,ru⟩:=bQ rv
 cases ru
 obtain⟨its,r,pl,_⟩:=I.list hq
 exact join_list pl.isList (by simpa using iV r) hz fun t' k=>⟨.str _,H,I.tok _,⟨_,rfl⟩,q⟩
def lT:V->Bool
 |.bl _=>true
 |.non=>true
 |_=>false
def dw:V->Bool
 |.bl b=>b
 |_=>false
theorem jL {prog:Program}{w:World}{A:Around}{ys:List V}{its:List Value}(r:Vals ys its)(hb:ys.all lT=true):TruthOf prog w A (fun i v=>its.toArray[i]? =some v) (fun i=>(ys[i]?).elim false dw):=by
 intro i v s Q E hv hq
 have hv':its[i]? =some v:=by simpa using hv
 cases e:ys[i]? with
 |none=>
  rw[r.none_of e] at hv'
  cases hv'
 |some y=>
  obtain⟨u,hu,ru⟩:=r.get e
  rw[hu] at hv'
  cases hv'
  have hq':Q ((ys[i]?).elim false dw) s:=hq
  rw[e] at hq'
  have hy:=List.all_eq_true.mp hb y (List.mem_of_getElem? e)
  cases y with
  |bl b=>
   cases ru
   exact wpAny_truthy_bool hq'
  |non=>
   cases ru
   exact truthy_none hq'
  |_=>cases hy
theorem kG (ys:List V):(List.range ys.length).any (fun i=>(ys[i]?).elim false dw)=ys.any dw:=by
 rw[Bool.eq_iff_iff]
 simp only [List.any_eq_true,List.mem_range]
 constructor
 ·rintro⟨i,hi,h⟩
  refine⟨ys[i],List.getElem_mem hi,?_⟩
  simpa [hi] using h
 ·rintro⟨y,hy,h⟩
  obtain⟨i,hi,rfl⟩:=List.getElem_of_mem hy
  exact⟨i,hi,by simpa [hi] using h⟩
theorem kH (ys:List V):(List.range ys.length).all (fun i=>(ys[i]?).elim false dw)=ys.all dw:=by
 rw[Bool.eq_iff_iff]
 simp only [List.all_eq_true,List.mem_range]
 constructor
 ·intro h y hy
  obtain⟨i,hi,rfl⟩:=List.getElem_of_mem hy
  simpa [hi] using h i hi
 ·intro h i hi
  simpa [hi] using h ys[i] (List.getElem_mem hi)
theorem lU (hc:X.calm=true):bP X (.builtin "any") (fun xs H Q=>∃ (p:Addr) (ys:List V),xs=[.ref p]/\SqL X.K H p ys/\ys.all lT=true/\Q (.bl (ys.any dw)) H):=by
 intro pins s σ H xs us Q I r h
 obtain⟨p,ys,rfl,hq,hb,q⟩:=h
 obtain⟨u,rfl,ru⟩:=bQ r
 cases ru
 obtain⟨its,rv,pl,hz⟩:=I.list hq
 have hl:=pl.isList
 obtain⟨o,ho,_⟩:=id hl
 have hlt:p < s.heap.objs.size:=Heap.lt_size ho
 refine call_any_walk (wpAny_pyIter_list hl ?_)
 refine⟨s.heap.objs.size,_,_,_,_,_,_,rfl,Walks.list (A:=X.A.in1) (I.ok.hd hc) s.heap.objs.size p (Nat.ne_of_lt hlt) its.toArray,⟨⟨_,Heap.get?_push_size _ rfl,rfl,rfl⟩,hl.push _⟩,jL rv hb,fun h' tk hk=>?_⟩
 have e:(List.range its.toArray.size).any (fun i=>(ys[i]?).elim false dw)=ys.any dw:=by
  rw[List.size_toArray,← rv.length]
  exact kG ys
 rw[e]
 refine⟨.bl _,H,I.kept fun b o e=>hk b o ?_ (Heap.get?_push_of_some _ e),rfl,q⟩
 intro hm
 exact absurd (List.mem_singleton.mp hm) (Nat.ne_of_lt (Heap.lt_size e))
theorem hR (hc:X.calm=true):bP X (.builtin "all") (fun xs H Q=>∃ (p:Addr) (ys:List V),xs=[.ref p]/\SqL X.K H p ys/\ys.all lT=true/\Q (.bl (ys.all dw)) H):=by
 intro pins s σ H xs us Q I r h
 obtain⟨p,ys,rfl,hq,hb,q⟩:=h
 obtain⟨u,rfl,ru⟩:=bQ r
 cases ru
 obtain⟨its,rv,pl,hz⟩:=I.list hq
 have hl:=pl.isList
 obtain⟨o,ho,_⟩:=id hl
 have hlt:p < s.heap.objs.size:=Heap.lt_size ho
 refine call_all_walk (wpAny_pyIter_list hl ?_)
 refine⟨s.heap.objs.size,_,_,_,_,_,_,rfl,Walks.list (A:=X.A.in1) (I.ok.hd hc) s.heap.objs.size p (Nat.ne_of_lt hlt) its.toArray,⟨⟨_,Heap.get?_push_size _ rfl,rfl,rfl⟩,hl.push _⟩,jL rv hb,fun h' tk hk=>?_⟩
 have e:(List.range its.toArray.size).all (fun i=>(ys[i]?).elim false dw)=ys.all dw:=by
  rw[List.size_toArray,← rv.length]
  exact kH ys
 rw[e]
 refine⟨.bl _,H,I.kept fun b o e=>hk b o ?_ (Heap.get?_push_of_some _ e),rfl,q⟩
 intro hm
 exact absurd (List.mem_singleton.mp hm) (Nat.ne_of_lt (Heap.lt_size e))
theorem gc {its:List Value}{ns:List Int}(hi:IntsAre its ns):∀ (js:List Nat),∃ ms:List Int,Vals (ms.map V.int) (js.filterMap (its.toArray[·]?))/\ms.length<=js.length
 |[]=>⟨[],.nil,Nat.le_refl _⟩
 |j::r=>by
  obtain⟨ms,h1,h2⟩:=gc hi r
  rw[List.filterMap_cons]
  cases e:its.toArray[j]? with
  |none=>exact⟨ms,h1,by rw[List.length_cons];omega⟩
  |some v=>
   have ev:its[j]? =some v:=by simpa using e
   obtain⟨a,t,rfl⟩:=hi.allInts v (by simpa using List.mem_of_getElem? ev)
   exact⟨a::ms,.cons ⟨t,rfl⟩ h1,by rw[List.length_cons,List.length_cons];omega⟩
def sH (K:PySem.W.Frag):V->Option Int->Option Int->Option Int->Hp->VK->Prop:=fun x lo hi st H Q=>∃ (a:Addr) (ns:List Int) (c:Int),x=.ref a/\SqL K H a (ns.map V.int)/\st=some c/\0 < c/\ns.length<=1000/\∀ (p:Addr) (ms:List Int),H p=none->ms.length<=1000->Q (.ref p) (upd H p (.lst (List.map V.int ms)))
theorem kI {lo hi c:Int}{n:Nat}(h0:0 < c)(h1:0<=lo)(h2:hi<=n):(sliceRange lo hi c).length<=n:=by
 unfold sliceRange
 rw[List.length_map,List.length_range,if_pos h0]
 by_cases h:lo < hi
 ·rw[if_pos h]
  have h3:(hi - lo)*1<=(hi - lo)*c:=Int.mul_le_mul_of_nonneg_left (by omega) (by omega)
  have h4:(hi - lo+c - 1) / c < hi - lo+1:=by
   refine Int.ediv_lt_of_lt_mul h0 ?_
   rw[Int.add_mul]
   omega
  omega
 ·rw[if_neg h]
  exact Nat.zero_le _
theorem kJ {e:Expr}{te:TE}{lo hi:Option Expr}{est:Expr}{tl th ts:TO}{p2:Pos}(he:PE X e te)(hl:PO X lo tl)(hu:PO X hi th)(hst:PO X (some est) ts):
  PE X (.Subscript e (.Slice lo hi (some est) p2) pos) (fun σ H Q=>te σ H fun x H1=>tl σ H1 fun l H2=>th σ H2 fun u H3=>ts σ H3 fun c H4=>sH X.K x l u c H4 Q):=by
 intro pins s σ H Q I h
 refine Subscript_ (aX (he pins s σ H _ I h) fun v s1 ⟨x,H1,I1,r1,q1⟩=>?_)
 refine wpAny_Slice (aX (hl pins s1 σ H1 _ I1 q1) fun vl s2 ⟨l,H2,I2,pl,q2⟩=>aX (hu pins s2 σ H2 _ I2 q2) fun vu s3 ⟨u,H3,I3,pu,q3⟩=>aX (hst pins s3 σ H3 _ I3 q3) fun vs s4 ⟨c,H4,I4,ps,q4⟩=>?_)
 obtain⟨a,ns,c',rfl,hS,rfl,hc,hlen,q⟩:=q4
 cases r1
 have I5:Inv X pins σ H4 {s4 with heap:=s4.heap.push {cls:=.type "slice",data:=.fields #[vl,vu,vs]}}:=I4.kept (t':=s4.toks) fun b ob q=>Heap.get?_push_of_some _ q
 obtain⟨its,r,ht,hz⟩:=I5.list hS
 have hlen2:=r.length
 rw[List.length_map] at hlen2
 obtain⟨ms,hv,hm⟩:=gc (fh r) (sliceRange (sliceBounds l u (some c') its.toArray.size).1 (sliceBounds l u (some c') its.toArray.size).2.1 (sliceBounds l u (some c') its.toArray.size).2.2)
 have hms:ms.length<=1000:=by
  refine Nat.le_trans hm (Nat.le_trans (kI (n:=its.toArray.size) hc ?_ ?_) (by rw[List.size_toArray];omega))
  ·cases l with
   |none=>simp [sliceBounds,hc]
   |some i=>
    simp only [sliceBounds,Option.getD_some,if_pos hc]
    split<;>omega
  ·cases u with
   |none=>simp [sliceBounds,hc]
   |some i=>
    simp only [sliceBounds,Option.getD_some,if_pos hc]
    split<;>omega
 show wpAny (model X.prog X.w) X.A (subscriptTail e (.Slice lo hi (some est) p2) (.ref a) (.ref s4.heap.objs.size)) (EP X pins σ Q) X.xe {s4 with heap:=s4.heap.push {cls:=.type "slice",data:=.fields #[vl,vu,vs]}}
 refine tail_any (ops:=[.ref a,.ref s4.heap.objs.size]) ht.isList.typeIs slot_list_getitem.lookup ?_ (by with_unfolding_all rfl)
 refine wpAny_getItem_list_slice ht.isList (Heap.IsSliceOf.new ..) pl pu ps (by intro z;have:c'=0:=Option.some.inj z;omega) ?_ (by rw[List.size_toArray,sizeLine_eq];omega)
 refine⟨.ref _,_,I5.laid (t':=s4.toks) (o:=.lst (ms.map V.int)) (fun b ob q=>Heap.get?_push_of_some _ q) (Nat.le_refl _) ?_,rfl,q _ ms (I5.hok.fresh (Nat.le_refl _)) hms⟩
 refine⟨by rw[List.length_map];exact Nat.le_of_lt (aQ hms),_,0,hv,?_⟩
 exact Heap.get?_push_size _ rfl
end
theorem ft:∀ (l:List Value) (ks:List Int),l.length=ks.length->(∀ (i:Nat) (v:Value),l[i]? =some v->∃ (k:Int) (t:Tok),ks[i]? =some k/\v=.int k t)->IntsAre l ks
 |[],[],_,_=>.nil
 |[],_::_,h,_=>by cases h
 |_::_,[],h,_=>by cases h
 |v::l,k::ks,h,f=>by
  obtain⟨k',t,e1,e2⟩:=f 0 v rfl
  have e1':k=k':=Option.some.inj e1
  subst e1' e2
  exact .cons k t (ft l ks (by simpa using h) fun i u hu=>f (i+1) u (by simpa using hu))
theorem hU {κ:Type}:∀ {kvs:List (κ×V)} {vs:List (κ×Value)} {i:Nat} {q:κ×Value},KV kvs vs->vs[i]? =some q->∃ p,kvs[i]? =some p/\p.1=q.1/\RelV p.2 q.2
 |_,_,_,_,.nil,e=>by cases e
 |_,_,0,_,.cons r _,e=>by
  have e':=Option.some.inj e
  subst e'
  exact⟨_,rfl,r.1,r.2⟩
 |_,_,i+1,q,.cons _ t,e=>by
  obtain⟨p,h1,h2⟩:=hU (i:=i) (q:=q) t (by simpa using e)
  exact⟨p,by simpa using h1,h2⟩
section
variable {X:Cx}
theorem eF (hc:X.calm=true):bP X (.builtin "sorted") (fun xs H Q=>∃ (p:Addr) (kvs:List (bH×V)) (ks:List Int),xs=[.ref p]/\H p=some (.dK kvs)/\kvs.map (·.1)=ks.map Sum.inl/\ks.length < 64/\
  ∀ (l:Addr) (ns':List Int),H l=none->List.Perm ns' ks->List.Pairwise (·<=·) ns'->Q (.ref l) (upd H l (.lst (List.map V.int ns')))):=by
 intro pins s σ H xs us Q I r h
 obtain⟨p,kvs,ks,rfl,hp,hk,h64,q⟩:=h
 obtain⟨u,rfl,ru⟩:=bQ r
 cases ru
 obtain⟨z,hd,vs,rel,dd⟩:kvs.length<=sizeLine/\(p == sysModules)=false/\∃ vs,KV kvs vs/\s.heap.DictOf (aW X.prog X.w) p vs:=I.hok p _ hp
 obtain⟨ep,hat⟩:=dd.dictAt
 have hlen:kvs.length=vs.length:=Paired.length rel
 have hkl:ks.length=kvs.length:=by
  have e:=congrArg List.length hk
  rw[List.length_map,List.length_map] at e
  exact e.symm
 refine Calls.call_function_entry kind_sorted plain_sorted entry_sorted (args_sorted1 _) ?_
 unfold Builtin.«sorted»
 refine wpAny_bind (m:=checkCount "sorted" 1 1 _) (wpAny_pure ?_)
 refine wpAny_bind (PySem.W.kdu_collect (A:=X.A.in1) (PySem.W.kdl_dict (knd:=aW X.prog X.w) (kvs:=vs) (ep:=ep) hd) (I.ok.hd hc) hat (by omega) fun h' tk acc hkp hacc=>?_)
 have hl:acc.toList.length=vs.length:=by rw[Array.length_toList];exact hacc.1
 have hints:IntsAre acc.toList ks:=by
  refine ft _ _ (by rw[hl];omega) fun i v hv=>?_
  obtain⟨k,x,hx,hkv⟩:=hacc.2 i v (by rw[← Array.getElem?_toList];exact hv)
  obtain⟨q1,hq1,hq2,_⟩:=hU rel hx
  have e1:(kvs.map (·.1))[i]? =some k:=by rw[List.getElem?_map,hq1];exact congrArg some hq2
  rw[hk,List.getElem?_map] at e1
  cases e2:ks[i]? with
  |none=>rw[e2] at e1;cases e1
  |some n=>
   rw[e2] at e1
   have e3:(Sum.inl n:bH)=k:=Option.some.inj e1
   subst e3
   obtain⟨t,et⟩:=Value.isInt_shape (k:=n) (v:=v) hkv
   exact⟨n,t,rfl,et⟩
 refine wpAny_bind (wpAny_newList ?_ (by rw[hl];omega))
 have I1:Inv X pins σ H {s with heap:=h',toks:=tk}:=I.kept hkp
 have hoL:(h'.push (seqObj "list" acc.toList.toArray 0)).get? h'.objs.size=some (seqObj "list" acc.toList.toArray 0):=Heap.get?_push_size _ rfl
 refine wpAny_bind (wpAny_holding (wpAny_call_entry slot_list_sort ⟨_,hoL,rfl⟩ entry_list_sort (list_sort_tree hoL hints (by omega) fun out ns' a1 a2 a3=>⟨_,rfl,?_⟩) (args_list_sort _)))
 refine wpAny_pure ⟨_,rfl,?_⟩
 have hn:=I1.hok.fresh (a:=h'.objs.size) (Nat.le_refl _)
 obtain⟨e,he⟩:=sortedHeap_at (out:=out) hoL
 have I2:Inv X pins σ (upd H h'.objs.size (.lst (ns'.map V.int))) {s with heap:=sortedHeap (h'.push (seqObj "list" acc.toList.toArray 0)) h'.objs.size acc.toList out,toks:=tk}:=by
  refine I1.laid (t':=tk) (fun b o eb=>?_) (Nat.le_refl _) ?_
  ·have hb:b < h'.objs.size:=Heap.lt_size eb
   rw[sortedHeap_old (Nat.ne_of_lt hb) (by rw[size_push'];exact Nat.lt_succ_of_lt hb)]
   exact Heap.get?_push_of_some _ eb
  ·refine⟨?_,out.toList,e,?_,?_⟩
   ·rw[List.length_map,a2.length_eq]
    exact Nat.le_of_lt (aQ (by omega))
   ·exact dS a1
   ·simpa using he
 exact⟨.ref h'.objs.size,_,I2,rfl,q _ ns' hn a2 a3⟩
end
end L2
namespace L2
open PySem PySem.Spec PyProof.Rows
section
variable {X:Cx}
end
end L2
namespace L2
section
open PySem
variable {X:Cx}{K:PySem.W.Frag}
theorem nW (e:X.K=K):IxR X (rS K):=by subst e;exact ay
theorem iW (e:X.K=K):OpR X (compareOp .In) (sV K false):=by subst e;exact fY
theorem kK (e:X.K=K):bP X (.builtin "len") (nJ K):=by subst e;exact aJ
end
end L2
namespace OD
open PySem L2
def bI (i:Int):Int:=if i < 0 then -i else i
def rF:Int->List Int->Prop
 |_,[]=>True
 |b,l::r=>b < bI l/\rF (bI l) r
def c8 (n:Int)(ls:List Int):Prop:=rF 0 ls/\∀ l∈ls,bI l<=n
theorem lV (n:Int):c8 n []:=⟨trivial,fun _ h=>nomatch h⟩
def fu (c:List Int):PyData:=.tuple (c.map .int)
def bJ (t:Str)(cs:List (List Int)):PyData:=.tuple [.str t,.list (cs.map fu)]
def WS (t:Str):Prop:=∀ ch∈t.cps.toList,ch=119\/ch=115
structure tz (most:Int)(t:Str)(cs:List (List Int)):Prop where
 len:(t.length:Int)<=most
 ws:WS t
 many:cs.length<=16
 cl:∀ c∈cs,c8 t.length c
def dP (ps:List (Int×Int)):List (bH×V):=ps.map fun q=>(Sum.inl q.1,V.int q.2)
def iX (ps:List (Int×Int))(k s:Int):List (Int×Int):=if (ps.any fun q=>decide (q.1=k))=true then ps.map (fun q=>if q.1=k then (q.1,s) else q) else ps++[(k,s)]
theorem p9 (ps:List (Int×Int))(k:Int):((dP ps).any fun kv=>decide (kv.1=(Sum.inl k:bH)))=ps.any fun q=>decide (q.1=k):=by
 unfold dP
 rw[List.any_map]
 congr 1
 funext q
 show decide ((Sum.inl q.1:bH)=Sum.inl k)=decide (q.1=k)
 by_cases e:q.1=k
 ·rw[decide_eq_true e,decide_eq_true (by rw[e])]
 ·rw[decide_eq_false e,decide_eq_false fun z=>e (Sum.inl.inj z)]
theorem lW (ps:List (Int×Int))(k s:Int):dR (dP ps) (Sum.inl k) (V.int s)=dP (iX ps k s):=by
 unfold dR iX
 rw[p9]
 by_cases h:(ps.any fun q=>decide (q.1=k))=true
 ·rw[if_pos h,if_pos h]
  unfold dP
  rw[List.map_map,List.map_map]
  congr 1
  funext q
  show (if (Sum.inl q.1:bH)=Sum.inl k then ((Sum.inl q.1:bH),V.int s) else (Sum.inl q.1,V.int q.2))=(Sum.inl (if q.1=k then (q.1,s) else q).1,V.int (if q.1=k then (q.1,s) else q).2)
  by_cases e:q.1=k
  ·rw[if_pos (by rw[e]),if_pos e]
  ·rw[if_neg (fun z=>e (Sum.inl.inj z)),if_neg e]
 ·rw[if_neg h,if_neg h]
  unfold dP
  rw[List.map_append]
  rfl
theorem jM (ps:List (Int×Int)):(dP ps).map (·.1)=(ps.map (·.1)).map Sum.inl:=by
 unfold dP
 rw[List.map_map,List.map_map]
 rfl
def ge (ps:List (Int×Int))(k:Int):Option Int:=(ps.find? fun q=>decide (q.1=k)).map (·.2)
theorem p_ (ps:List (Int×Int))(k:Int):dQ (dP ps) (Sum.inl k:bH)=(ge ps k).map V.int:=by
 induction ps with
 |nil=>rfl
 |cons q r ih=>
  show dQ (((Sum.inl q.1:bH),V.int q.2)::dP r) (Sum.inl k)=_
  by_cases e:q.1=k
  ·rw[dr (by rw[e])]
   simp [ge,List.find?_cons,e]
  ·rw[dt (fun z=>e (Sum.inl.inj z)),ih]
   simp [ge,List.find?_cons,e]
structure DOk (n:Int)(ps:List (Int×Int)):Prop where
 nd:(ps.map (·.1)).Nodup
 rng:∀ q∈ps,1<=q.1/\q.1<=n
 sg:∀ q∈ps,q.2=1\/q.2=-1
theorem DOk.nil (n:Int):DOk n []:=⟨List.nodup_nil,(fun _ h=>nomatch h),(fun _ h=>nomatch h)⟩
theorem DOk.put {n k s:Int}{ps:List (Int×Int)}(h:DOk n ps)(h1:1<=k/\k<=n)(hs:s=1\/s=-1):DOk n (iX ps k s)/\(iX ps k s).length<=ps.length+1:=by
 unfold iX
 by_cases a:(ps.any fun q=>decide (q.1=k))=true
 ·rw[if_pos a]
  have e:(ps.map fun q=>if q.1=k then (q.1,s) else q).map (·.1)=ps.map (·.1):=by
   rw[List.map_map]
   congr 1
   funext q
   show (if q.1=k then (q.1,s) else q).1=q.1
   split<;>rfl
  refine⟨⟨by rw[e];exact h.nd,fun q hq=>?_,fun q hq=>?_⟩,by rw[List.length_map];omega⟩
  ·obtain⟨q',hq',rfl⟩:=List.mem_map.mp hq
   split
   ·exact h.rng q' hq'
   ·exact h.rng q' hq'
  ·obtain⟨q',hq',rfl⟩:=List.mem_map.mp hq
   split
   ·exact hs
   ·exact h.sg q' hq'
 ·rw[if_neg a]
  refine⟨⟨?_,fun q hq=>?_,fun q hq=>?_⟩,by rw[List.length_append];exact Nat.le_refl _⟩
  ·rw[List.map_append]
   refine jI h.nd fun m=>a ?_
   obtain⟨q,hq,e⟩:=List.mem_map.mp m
   exact List.any_eq_true.mpr ⟨q,hq,decide_eq_true e⟩
  ·rcases List.mem_append.mp hq with z|z
   ·exact h.rng q z
   ·rw[List.mem_singleton.mp z]
    exact h1
  ·rcases List.mem_append.mp hq with z|z
   ·exact h.sg q z
   ·rw[List.mem_singleton.mp z]
    exact hs
def nB (ps:List (Int×Int))(k:Int):Int:=(ge ps k).getD 1
theorem DOk.look {n k:Int}{ps:List (Int×Int)}(h:DOk n ps)(hk:k∈ps.map (·.1)):ge ps k=some (nB ps k)/\(nB ps k=1\/nB ps k=-1):=by
 obtain⟨q,hq,e⟩:=List.mem_map.mp hk
 unfold nB ge
 cases f:ps.find? fun q=>decide (q.1=k) with
 |none=>
  have:=List.find?_eq_none.mp f q hq
  exact absurd (decide_eq_true e) this
 |some z=>exact⟨rfl,h.sg z (List.mem_of_find?_eq_some f)⟩
theorem hV {k s:Int}(hk:1<=k)(hs:s=1\/s=-1):bI (k*s)=k:=by
 unfold bI
 rcases hs with rfl|rfl
 ·rw[Int.mul_one,if_neg (by omega)]
 ·rw[if_pos (by omega)]
  omega
theorem lX {f:Int->Int}:∀ (ks:List Int) (b:Int),0<=b->(∀ k∈ks,b < k)->ks.Pairwise (· < ·)->(∀ k∈ks,f k=1\/f k=-1)->rF b (ks.map fun k=>k*f k)
 |[],_,_,_,_,_=>trivial
 |k::r,b,h0,hb,hp,hf=>by
  have hk:=hb k List.mem_cons_self
  have e:=hV (s:=f k) (show 1<=k by omega) (hf k List.mem_cons_self)
  obtain⟨p1,p2⟩:=List.pairwise_cons.mp hp
  show b < bI (k*f k)/\rF (bI (k*f k)) (r.map fun k=>k*f k)
  rw[e]
  exact⟨hk,lX r k (by omega) p1 p2 fun z hz=>hf z (List.mem_cons_of_mem _ hz)⟩
theorem cH:∀ {ks:List Int},ks.Pairwise (·<=·)->ks.Nodup->ks.Pairwise (· < ·)
 |[],_,_=>List.Pairwise.nil
 |k::r,hp,hn=>by
  obtain⟨p1,p2⟩:=List.pairwise_cons.mp hp
  obtain⟨n1,n2⟩:=List.nodup_cons.mp hn
  refine List.pairwise_cons.mpr ⟨fun z hz=>?_,cH p2 n2⟩
  have:=p1 z hz
  have:k≠z:=fun e=>n1 (e▸hz)
  omega
theorem DOk.clause {n:Int}{ps:List (Int×Int)}{ks:List Int}(h:DOk n ps)(hp:ks.Perm (ps.map (·.1)))(hs:ks.Pairwise (·<=·)):c8 n (ks.map fun k=>k*nB ps k):=by
 have hm:∀ k∈ks,k∈ps.map (·.1):=fun k hk=>hp.mem_iff.mp hk
 have hr:∀ k∈ks,1<=k/\k<=n:=fun k hk=>by
  obtain⟨q,hq,e⟩:=List.mem_map.mp (hm k hk)
  rw[← e]
  exact h.rng q hq
 refine⟨lX ks 0 (Int.le_refl 0) (fun k hk=>by have:=(hr k hk).1;omega) (cH hs (hp.nodup_iff.mpr h.nd)) fun k hk=>(h.look (hm k hk)).2,fun l hl=>?_⟩
 obtain⟨k,hk,rfl⟩:=List.mem_map.mp hl
 rw[hV (hr k hk).1 (h.look (hm k hk)).2]
 exact (hr k hk).2
theorem cI {ns:List Int}{i:Nat}{x:V}(h:(ns.map V.int)[i]? =some x):∃ z,x=.int z/\ns[i]? =some z:=by
 rw[List.getElem?_map] at h
 cases e:ns[i]? with
 |none=>rw[e] at h;cases h
 |some z=>
  rw[e] at h
  exact⟨z,(Option.some.inj h).symm,rfl⟩
theorem lY (ns:List Int)(lo hi:Option Int):∃ ms:List Int,b8 (ns.map V.int) lo hi=ms.map V.int/\ms.length<=ns.length:=by
 unfold b8
 rw[List.length_map]
 refine⟨(ns.drop (HT.sIx ns.length 0 lo)).take (HT.sIx ns.length ns.length hi - HT.sIx ns.length 0 lo),?_,?_⟩
 ·rw[← List.map_drop,← List.map_take]
 ·rw[List.length_take,List.length_drop]
  omega
end OD
namespace OD
open PySem L2
theorem jN (a b:Str):(a++b).cps.toList=a.cps.toList++b.cps.toList:=by
 show (a.cps++b.cps).toList=_
 simp
theorem hW {e:Str}(he:e.cps.toList=[]):∀ ss:List Str,(Str.join e ss).cps.toList=(ss.map fun s=>s.cps.toList).flatten
 |[]=>rfl
 |[x]=>by
  show x.cps.toList=_
  simp
 |x::y::r=>by
  show ((x++e)++Str.join e (y::r)).cps.toList=_
  rw[jN,jN,he,hW he (y::r)]
  simp
def fv (s:Str):Prop:=s=⟨#[119]⟩\/s=⟨#[115]⟩
theorem fw:∀ {ss:List Str},(∀ s∈ss,fv s)->(ss.map fun s=>s.cps.toList).flatten.length=ss.length/\∀ ch∈(ss.map fun s=>s.cps.toList).flatten,ch=119\/ch=115
 |[],_=>⟨rfl,fun _ h=>nomatch h⟩
 |s::r,h=>by
  obtain⟨h1,h2⟩:=fw (ss:=r) fun z hz=>h z (List.mem_cons_of_mem _ hz)
  rw[List.map_cons,List.flatten_cons]
  rcases h s List.mem_cons_self with rfl|rfl
  ·refine⟨by rw[List.length_append,h1];show 1+r.length=r.length+1;omega,fun ch hc=>?_⟩
   rcases List.mem_append.mp hc with z|z
   ·exact .inl (by simpa using z)
   ·exact h2 ch z
  ·refine⟨by rw[List.length_append,h1];show 1+r.length=r.length+1;omega,fun ch hc=>?_⟩
   rcases List.mem_append.mp hc with z|z
   ·exact .inr (by simpa using z)
   ·exact h2 ch z
theorem rG:(Str.ofString "").cps.toList=[]:=by decide+kernel
theorem lZ {ss:List Str}(h:∀ s∈ss,fv s):(Txt.join "" ss).length=ss.length/\WS (Txt.join "" ss):=by
 have e:Txt.join (Str.ofString "") ss=Str.join (Str.ofString "") ss:=eq_of_beq (PyProof.Rows.join_plain_closes _ ss)
 obtain⟨h1,h2⟩:=fw h
 have e2:=hW rG ss
 refine⟨?_,?_⟩
 ·rw[e]
  show (Str.join (Str.ofString "") ss).cps.size=_
  rw[← Array.length_toList,e2]
  exact h1
 ·intro ch hc
  rw[e,e2] at hc
  exact h2 ch hc
theorem gf:∀ {ss:List Str},(∀ s∈ss,fv s)->(ss.map fun s=>s.length).sum=ss.length
 |[],_=>rfl
 |s::r,h=>by
  rw[List.map_cons,List.sum_cons,gf fun z hz=>h z (List.mem_cons_of_mem _ hz),List.length_cons]
  rcases h s List.mem_cons_self with rfl|rfl
  ·show 1+_=_;omega
  ·show 1+_=_;omega
theorem rH {j:Int}(h0:0<=j)(h1:j < 2):∃ c,fX (Str.ofString "ws").cps.toList j=some c/\fv ⟨#[c]⟩:=by
 rcases (by omega:j=0\/j=1) with rfl|rfl
 ·exact⟨119,by decide+kernel,.inl rfl⟩
 ·exact⟨115,by decide+kernel,.inr rfl⟩
def CL (H:Hp)(c:List Int)(v:V):Prop:=∃ t,v=.ref t/\H t=some (.tup (c.map V.int))
def CLs (H:Hp):List (List Int)->List V->Prop:=Paired (CL H)
theorem CL.mono {H H':Hp}{c:List Int}{v:V}(h:CL H c v)(k:Same H H'):CL H' c v:=let ⟨t,e,z⟩:=h;⟨t,e,k _ _ z⟩
theorem CL.upd {H:Hp}{c:List Int}{v:V}{q:Addr}{xs:List V}{o:HO}(h:CL H c v)(hq:H q=some (.lst xs)):CL (upd H q o) c v:=by
 obtain⟨t,e,z⟩:=h
 exact⟨t,e,by rw[av (oP z hq (by intro w;cases w))];exact z⟩
theorem CLs.mono {H H':Hp}(k:Same H H'):∀ {cs:List (List Int)} {xs:List V},CLs H cs xs->CLs H' cs xs
 |_,_,.nil=>.nil
 |_,_,.cons h t=>.cons (h.mono k) (CLs.mono k t)
theorem CLs.upd {H:Hp}{q:Addr}{ys:List V}{o:HO}(hq:H q=some (.lst ys)):∀ {cs:List (List Int)} {xs:List V},CLs H cs xs->CLs (upd H q o) cs xs
 |_,_,.nil=>.nil
 |_,_,.cons h t=>.cons (h.upd hq) (CLs.upd hq t)
theorem CLs.snoc {H:Hp}{c:List Int}{v:V}(h:CL H c v){cs:List (List Int)}{xs:List V}(t:CLs H cs xs):CLs H (cs++[c]) (xs++[v]):=Paired.snoc t h
theorem CLs.length {H:Hp}{cs:List (List Int)}{xs:List V}(h:CLs H cs xs):cs.length=xs.length:=Paired.length h
theorem CLs.get {H:Hp}:∀ {cs:List (List Int)} {xs:List V} {j:Nat} {v:V},CLs H cs xs->xs[j]? =some v->∃ c,cs[j]? =some c/\CL H c v
 |_,_,_,_,.nil,e=>by cases e
 |_,_,0,_,.cons h _,e=>⟨_,rfl,by have e':=Option.some.inj e;subst e';exact h⟩
 |_,_,j+1,v,.cons _ t,e=>by
  obtain⟨c,h1,h2⟩:=CLs.get (j:=j) (v:=v) t (by simpa using e)
  exact⟨c,by simpa using h1,h2⟩
theorem CL.rd {H:Hp}{c:List Int}{v:V}(h:CL H c v):RD H (fu c) v:=by
 obtain⟨t,rfl,z⟩:=h
 exact fj z (fk c)
theorem CLs.rds {H:Hp}:∀ {cs:List (List Int)} {xs:List V},CLs H cs xs->dU H (cs.map fu) xs
 |_,_,.nil=>cR
 |_,_,.cons h t=>cE h.rd (CLs.rds t)
theorem CL.of {H:Hp}{c:List Int}{v:V}(h:RD H (fu c) v):CL H c v:=by
 obtain⟨a,xs,rfl,h1,h2⟩:=bz h
 refine⟨a,rfl,?_⟩
 rw[h1]
 have:∀ (ns:List Int) (xs:List V),dU H (ns.map PyData.int) xs->xs=ns.map V.int:=by
  intro ns
  induction ns with
  |nil=>intro xs r;exact bj r
  |cons n r ih=>
   intro xs z
   obtain⟨y,ys,rfl,e,t⟩:=aS z
   have e':y=.int n:=by
    unfold RD at e
    exact e
   rw[e',ih ys t]
   rfl
 rw[this c xs h2]
theorem CLs.of {H:Hp}:∀ {cs:List (List Int)} {xs:List V},dU H (cs.map fu) xs->CLs H cs xs
 |[],xs,h=>by
  rw[bj h]
  exact .nil
 |c::cs,xs,h=>by
  obtain⟨y,ys,rfl,h1,h2⟩:=aS h
  exact .cons (CL.of h1) (CLs.of h2)
theorem bZ {H:Hp}{p q:Addr}{t:Str}{cs:List (List Int)}{xs:List V}(hp:H p=some (.tup [.str t,.ref q]))(hq:H q=some (.lst xs))(h:CLs H cs xs):RD H (bJ t cs) (.ref p):=
 fj hp (cE (pW t) (cE (eN hq h.rds) cR))
theorem cJ {H:Hp}{v:V}{t:Str}{cs:List (List Int)}(h:RD H (bJ t cs) v):∃ p q xs,v=.ref p/\H p=some (.tup [.str t,.ref q])/\H q=some (.lst xs)/\CLs H cs xs:=by
 obtain⟨p,ys,rfl,h1,h2⟩:=bz h
 obtain⟨y,zs,rfl,h3,h4⟩:=aS h2
 obtain⟨z,ws,rfl,h5,h6⟩:=aS h4
 have h7:=bj h6
 subst h7
 obtain⟨q,xs,rfl,h8,h9⟩:=bR h5
 have e:y=.str t:=by
  unfold RD at h3
  exact h3
 subst e
 exact⟨p,q,xs,rfl,h1,h8,CLs.of h9⟩
theorem c9:∀ cs:List (List Int),PyData.canLayAll0 (cs.map fu)=true
 |[]=>rfl
 |c::r=>by
  show (PyData.canLayAll0 (c.map PyData.int)&&PyData.canLayAll0 (r.map fu))=true
  rw[PySem.W.ke_canLayAll0,c9 r]
  rfl
theorem dZ:∀ cs:List (List Int),PyData.depthAll (cs.map fu)<=1
 |[]=>Nat.zero_le _
 |c::r=>by
  have h:=dZ r
  show max (PyData.depthAll (c.map PyData.int)+1) (PyData.depthAll (r.map fu))<=1
  rw[PySem.W.ke_depthAll]
  omega
theorem d_ {d:PyData}(h1:d.canLay0=true)(h2:d.depth<=64):SeqAt.shaped d=true:=by
 unfold SeqAt.shaped
 rw[h1,decide_eq_true h2]
 rfl
theorem iY (cs:List (List Int)):SeqAt.shaped (.list (cs.map fu))=true:=by
 refine d_ (c9 cs) ?_
 have:=dZ cs
 show PyData.depthAll (cs.map fu)+1<=64
 omega
theorem kL (c:List Int):SeqAt.shaped (fu c)=true:=d_ (PySem.W.ke_canLayAll0 c) (by show PyData.depthAll (c.map PyData.int)+1<=64;rw[PySem.W.ke_depthAll];omega)
theorem hX:SeqAt.shaped (.list [])=true:=by decide+kernel
theorem hZ:SeqAt.shaped (.tuple [])=true:=by decide+kernel
theorem h_ (cs:List (List Int)):PyData.eqv (.list (cs.map fu)) (.list [])=decide (cs=[]):=by
 cases cs with
 |nil=>simp [PyData.eqv,PyData.eqvAll]
 |cons n r=>simp [PyData.eqv,PyData.eqvAll]
mutual
theorem fz:∀ d:PyData,d.canLay0=true->PyData.eqv d d=true
 |.none,_=>rfl
 |.bool b,_=>by simp [PyData.eqv]
 |.int i,_=>by simp [PyData.eqv]
 |.str x,_=>by simp [PyData.eqv]
 |.list ds,h=>by
  show PyData.eqvAll ds ds=true
  exact cK ds h
 |.tuple ds,h=>by
  show PyData.eqvAll ds ds=true
  exact cK ds h
 |.dict _,h=>by cases h
theorem cK:∀ ds:List PyData,PyData.canLayAll0 ds=true->PyData.eqvAll ds ds=true
 |[],_=>rfl
 |d::r,h=>by
  have h':d.canLay0=true/\PyData.canLayAll0 r=true:=by simpa [PyData.canLayAll0] using h
  show (PyData.eqv d d&&PyData.eqvAll r r)=true
  rw[fz d h'.1,cK r h'.2]
  rfl
end
theorem rJ {t:Str}(h:WS t):PyData.strOk t=true:=by
 unfold PyData.strOk
 rw[← Array.all_toList]
 refine List.all_eq_true.mpr fun ch hc=>decide_eq_true ?_
 rcases h ch hc with rfl|rfl
 ·decide
 ·decide
theorem eG {t:Str}(h:WS t)(cs:List (List Int)):SeqAt.shaped (bJ t cs)=true:=by
 refine d_ ?_ ?_
 ·show (PyData.strOk t&&(PyData.canLayAll0 (cs.map fu)&&true))=true
  rw[rJ h,c9]
  rfl
 ·have:=dZ cs
  show max 0 (max (PyData.depthAll (cs.map fu)+1) 0)+1<=64
  omega
abbrev l7:R2:=rI (fun _ j=>0 < j) fun i j=>V.int (i % j)
abbrev qc:R2:=rI qW fun i j=>V.int (i / j)
abbrev tD:R2:=nz fun i j=>V.bl (decide (j < i))
abbrev nX:R2:=fun x y H Q=>sr x y H Q\/pX x y H Q
abbrev qh:R2:=fun x y H Q=>su x y H Q\/pY x y H Q
theorem kM {D:cU}{σ:St}{H:Hp}{bits mm:Int}(h3:σ[3]? =some (some (.int bits))) (h4:σ[4]? =some (some (.int mm))) (m0:0<=mm) (m1:mm<=16) (h:∀ z:Int,0<=z->z<=16->D.nx (σ.set 4 (some (.int z))) H) (he:σ.set 4 (some (.int mm))=σ):
  kn (er (eM tD (eM l7 (bB 3) (tC (.int 3))) (tC (.int 0)))) (iK (eM qc (bB 4) (tC (.int 3))) (bW 4)) eY D σ H:=by
 refine⟨_,h3,_,_,rfl,rfl,(by show (0:Int) < 3;decide),_,_,rfl,rfl,_,rfl,bv (fun _=>?_) (fun _=>?_)⟩
 ·exact⟨_,h4,_,_,rfl,rfl,⟨by decide,by decide⟩,h _ (by omega) (by omega)⟩
 ·have z:=h mm m0 m1
  rw[he] at z
  exact z
theorem iZ {D:cU}{σ:St}{H:Hp}{m:Int}{pc:Addr}{lc:List Int}{n:Int}(h9:σ[9]? =some (some (.int m))) (hpc:H pc=some (.tup (lc.map V.int))) (hlc:c8 n lc) (he:σ.set 10 (some (.ref pc))=σ)
  (h:∀ (pc':Addr) (lc':List Int) (H':Hp),Same H H'->H' pc'=some (.tup (lc'.map V.int))->c8 n lc'->D.nx (σ.set 10 (some (.ref pc'))) H'):
  kn (er (eM nX (eM l7 (bB 9) (tC (.int 40))) (tC (.int 7)))) (iK (pL fO) (bW 10)) eY D σ H:=by
 refine⟨_,h9,_,_,rfl,rfl,(by show (0:Int) < 40;decide),.inl ⟨rfl,_,rfl,bv (fun _=>?_) (fun _=>?_)⟩⟩
 ·exact⟨Nat.zero_le _,fun p hp=>h p [] _ (ah hp _) ad (lV n)⟩
 ·have z:=h pc lc H (Same.refl H) hpc hlc
  rw[he] at z
  exact z
theorem i0 {K:PySem.W.Frag}{D:cU}{σ:St}{H:Hp}{m:Int}{pc q:Addr}{lc:List Int}{n:Int}{xs:List V}{cs:List (List Int)}(h6:σ[6]? =some (some (.ref q))) (h9:σ[9]? =some (some (.int m))) (m0:0<=m) (hpc:H pc=some (.tup (lc.map V.int))) (hlc:c8 n lc) (he:σ.set 10 (some (.ref pc))=σ)
  (hq:H q=some (.lst xs)) (hcs:CLs H cs xs) (hall:∀ c∈cs,c8 n c)
  (h:∀ (pc':Addr) (lc':List Int) (H':Hp),Same H H'->H' pc'=some (.tup (lc'.map V.int))->c8 n lc'->D.nx (σ.set 10 (some (.ref pc'))) H'):
  kn (qM (er (eM nX (eM l7 (eM qc (bB 9) (tC (.int 40))) (tC (.int 9))) (tC (.int 3)))) (er (eM qh (bB 6) (pM fO))))
   (iK (eM (rS K) (bB 6) (eM l7 (eM qc (bB 9) (tC (.int 400))) (q_ (nJ K) (fc (bB 6) fO)))) (bW 10)) eY D σ H:=by
 have stay:∀ H',Same H H'->D.nx σ H':=fun H' k=>by
  have z:=h pc lc H' k (k _ _ hpc) hlc
  rw[he] at z
  exact z
 refine⟨_,h9,_,_,rfl,rfl,⟨by decide,by decide⟩,_,_,rfl,rfl,(by show (0:Int) < 9;decide),.inl ⟨rfl,_,rfl,bv (fun _=>?_) (fun _=>?_)⟩⟩
 ·refine⟨_,h6,Nat.zero_le _,fun e he'=>.inr ⟨.list (cs.map fu),.list [],eN (by rw[av (ap hq he')];exact hq) (hcs.mono (ah he' _)).rds,eN ad cR,iY cs,hX,_,rfl,?_⟩⟩
  rw[h_]
  have k1:Same H (upd H e (.lst [])):=ah he' _
  refine bv (fun g=>?_) (fun g=>?_)
  ·have hne:cs≠[]:=fun z=>by
    rw[decide_eq_true z] at g
    cases g
   have hl:0 < xs.length:=by
    rw[← hcs.length]
    cases cs with
    |nil=>exact absurd rfl hne
    |cons _ _=>exact Nat.succ_pos _
   have j0:=Int.emod_nonneg (m / 400) (show (xs.length:Int)≠0 by omega)
   have j1:=Int.emod_lt_of_pos (m / 400) (show (0:Int) < xs.length by omega)
   obtain⟨v,hv,hva⟩:=lN (xs:=xs) j0 j1
   obtain⟨c,hc,t,rfl,ht⟩:=hcs.get hv
   refine⟨_,h6,_,h9,_,_,rfl,rfl,⟨by decide,by decide⟩,_,h6,.ref q,_,rfl,.inl ⟨_,SqL.of (k1 _ _ hq),rfl⟩,_,_,rfl,rfl,(by show (0:Int) < (xs.length:Int);omega),.inl ⟨q,xs,_,.ref t,rfl,rfl,SqL.of (k1 _ _ hq),hva,?_⟩⟩
   exact h t c _ k1 (k1 _ _ ht) (hall c (List.mem_of_getElem? hc))
  ·exact stay _ k1
 ·exact stay H (Same.refl H)
theorem ia {K:PySem.W.Frag}{D:cU}{σ:St}{H:Hp}{m:Int}{pc q:Addr}{lc:List Int}{n:Int}{xs:List V}{cs:List (List Int)}(h6:σ[6]? =some (some (.ref q))) (h9:σ[9]? =some (some (.int m))) (h10:σ[10]? =some (some (.ref pc))) (hpc:H pc=some (.tup (lc.map V.int))) (hlc:c8 n lc)
  (hq:H q=some (.lst xs)) (hcs:CLs H cs xs) (hall:∀ c∈cs,c8 n c) (hlen:cs.length < 900)
  (h:∀ (xs':List V) (cs':List (List Int)) (H':Hp),(∀ b o,H b=some o->b≠q->H' b=some o)->H' q=some (.lst xs')->CLs H' cs' xs'->(∀ c∈cs',c8 n c)->cs'.length<=cs.length+1->D.nx σ H'):
  kn (sP (er (eM qh (bB 10) (pL fO))) (er (eM nX (eM l7 (bB 9) (tC (.int 40))) (tC (.int 7))))) (lx (sC K "list" gz (bB 6) (fc (bB 10) fO))) eY D σ H:=by
 refine⟨_,h10,Nat.zero_le _,fun e he=>.inr ⟨fu lc,.tuple [],fj (by rw[av (ap hpc he)];exact hpc) (fk lc),fj ad cR,kL lc,hZ,_,rfl,?_⟩⟩
 have k1:Same H (upd H e (.tup [])):=ah he _
 generalize upd H e (.tup [])=H1 at k1
 have hq1:=k1 _ _ hq
 have app:lx (sC K "list" gz (bB 6) (fc (bB 10) fO)) D σ H1:=by
  refine⟨_,h6,.inl ⟨rfl,_,SqL.of hq1⟩,_,h10,q,xs,_,rfl,rfl,hq1,(by rw[← hcs.length];exact aQ (by omega)),?_⟩
  have c1:=(hcs.mono k1).upd (o:=.lst (xs++[.ref pc])) hq1
  have c2:CL (upd H1 q (.lst (xs++[.ref pc]))) lc (.ref pc):=CL.upd ⟨pc,rfl,k1 _ _ hpc⟩ hq1
  refine h _ (cs++[lc]) _ (fun b o hb hbq=>by rw[av hbq];exact k1 b o hb) ad (CLs.snoc c2 c1) (fun c hc=>?_) (by rw[List.length_append];exact Nat.le_refl _)
  rcases List.mem_append.mp hc with z|z
  ·exact hall c z
  ·rw[List.mem_singleton.mp z]
   exact hlc
 refine bv (fun _=>aM app) (fun _=>?_)
 refine⟨_,h9,_,_,rfl,rfl,(by show (0:Int) < 40;decide),.inl ⟨rfl,_,rfl,bv (fun _=>app) (fun _=>?_)⟩⟩
 exact h xs cs H1 (fun b o hb _=>k1 b o hb) hq1 (hcs.mono k1) hall (by omega)
end OD
namespace OD
open PySem L2
section
variable {K:PySem.W.Frag}{a D:Addr}{xs:List V}{tt:TT}{te:TE}{σ0:St}{H1:Hp}{Q:VK}
theorem i3 (rest:St)(p:V->Bool)(f:V->V)(e0:σ0=none::rest)(ha:H1 a=some (.lst xs))(hD:H1 D=none)(hlen:xs.length<=900)
  (ht:∀ x∈xs,∀ (H':Hp) (R:Bool->Hp->Prop),Same H1 H'->R (p x) H'->tt (some x::rest) H' R)
  (he:∀ x∈xs,p x=true->∀ (H':Hp) (R:VK),Same H1 H'->R (f x) H'->te (some x::rest) H' R)
  (hq:Q (.ref D) (upd H1 D (.lst ((xs.filter p).map f)))):eD (oR K a) D (bW 0) tt te σ0 H1 Q:=by
 have na:a≠D:=ap ha hD
 refine bA (K:=K) (a:=a) (xs:=xs) (fun i σ ys H2=>(∃ v0,σ=v0::rest)/\ys=((xs.take i).filter p).map f/\H2=upd H1 D (.lst ys)) ⟨⟨none,e0⟩,rfl,rfl⟩ ?_ ?_ ?_
 ·rintro i σ ys H2 _ ⟨_,_,rfl⟩
  exact⟨ad,SqL.of (by rw[av na];exact ha)⟩
 ·rintro i x σ ys H2 hx ⟨⟨v0,rfl⟩,hys,rfl⟩
  have hm:=List.mem_of_getElem? hx
  have e:xs.take (i+1)=xs.take i++[x]:=by rw[List.take_add_one,hx];rfl
  refine ht x hm _ _ (ah hD _) ?_
  cases hp:p x with
  |true=>
   refine aM (he x hm hp _ _ (ah hD _) ⟨ad,?_,⟨_,rfl⟩,?_,cO⟩)
   ·have:ys.length<=xs.length:=by
     rw[hys,List.length_map]
     exact Nat.le_trans (List.length_filter_le _ _) (by rw[List.length_take];omega)
    exact aQ (by omega)
   ·rw[e,List.filter_append,List.map_append,← hys]
    simp [hp]
  |false=>
   refine aV ⟨⟨_,rfl⟩,?_,rfl⟩
   rw[e,List.filter_append,List.map_append,← hys]
   simp [hp]
 ·rintro σ ys H2 ⟨_,hys,rfl⟩
  rw[List.take_of_length_le (Nat.le_refl _)] at hys
  rw[hys]
  exact hq
end
end OD
namespace OD
open PySem L2
theorem l8 {d:PyData}(h:SeqAt.shaped d=true):d.canLay0=true:=by
 unfold SeqAt.shaped at h
 rw[Bool.and_eq_true] at h
 exact h.1
theorem l_ {d:PyData}{x y:V}{H:Hp}{Q:VK}(hx:RD H d x)(hy:RD H d y)(hs:SeqAt.shaped d=true)(q:Q (.bl true) H):nX x y H Q:=
 .inr ⟨d,d,hx,hy,hs,hs,by rw[fz d (l8 hs)];exact q⟩
theorem ma {d:PyData}{x y:V}{H:Hp}{Q:VK}(hx:RD H d x)(hy:RD H d y)(hs:SeqAt.shaped d=true)(q:Q (.bl false) H):qh x y H Q:=
 .inr ⟨d,d,hx,hy,hs,hs,by rw[fz d (l8 hs)];exact q⟩
theorem qJ {x y:V}{A B:Prop}(h:x=y)(b:B):if (!decide (x=y))=true then A else B:=by
 rw[decide_eq_true h]
 exact aV b
theorem tE {i j:Int}{A B:Prop}(h:¬ i < j)(b:B):if decide (i < j)=true then A else B:=by
 rw[decide_eq_false h]
 exact aV b
theorem sW:bo "tuple" "tuple"=some true:=by decide+kernel
theorem tG:bo "list" "list"=some true:=by decide+kernel
theorem sX:bo "str" "str"=some true:=by decide+kernel
end OD
namespace L2
open PySem PySem.Spec PyProof.Rows
section
variable {X:Cx}
def bX (mg:Str->Option Value)(x:Str)(v:V):Prop:=∃ u,mg x=some u/\RelV v u
theorem aT {x:Str}{v:V}{pos:Pos}(hg:Gl X x)(hm:bX X.mg x v)(hd:(x == ("__debug__":Str))=false:=by decide):PE X (.Name x pos) (tC v):=by
 obtain⟨u,h1,h2⟩:=hm
 exact nF hg h1 h2 hd
end
end L2
namespace OD
open PySem L2
end OD
namespace L2
open PySem PySem.Spec PyProof.Rows
section
variable {X:Cx}{tg:Expr}
end
end L2
namespace OD
open PySem L2
end OD
namespace OD
open PySem L2
end OD
namespace OD
open PySem L2
section
variable {K:PySem.W.Frag}{a D:Addr}{xs:List V}{tt:TT}{te:TE}{σ0:St}{H1:Hp}{Q:VK}
end
end OD
namespace L2
open PySem PySem.Spec PyProof.Rows
structure Flies (P:Program)(w:World)(outer:List Env)(H:Hp)(s:Shared)(H':Hp)(B:Heap)(ea:Addr)(cls a0:Value)(s':Shared):Prop where
 os:s'.os=s.os
 bare:AllBare s'.gens
 fly:Heap.FlyingW B outer ea cls a0 s'.heap
 hok:HOk P w H' B
 keep:∀ b o,s.heap.get? b=some o->H b=none->b∉cu outer->B.get? b=some o
 thr:∀ b o,s.heap.get? b=some o->b∉cu outer->∃ o',B.get? b=some o'
 slot:∀ b o,s.heap.get? b=some o->H b=none->b∈cu outer->∃ sl,s'.heap.get? b=some {o with slots:=sl}
 free:∀ b o,s.heap.get? b=some o->H b=none->H' b=none
 tups:∀ b xs,H b=some (.tup xs)->H' b=some (.tup xs)
 frzs:∀ b o u,H b=some (.frz o u)->H' b=some (.frz o u)
 tbls:∀ b ps,H b=some (.tbl ps)->∃ more,H' b=some (.tbl (ps++more))
def cb (P:Program)(w:World):lq:=fun outer H s E e s'=>∃ (H':Hp) (B:Heap) (ea:Addr) (cls a0:Value),e=.ref ea/\Flies P w outer H s H' B ea cls a0 s'/\E cls none H'
section
variable {P:Program}{w:World}{outer:List Env}{H H':Hp}{s s':Shared}{B h':Heap}{ea:Addr}{cls a0:Value}
theorem Flies.slotted (f:Flies P w outer H s H' B ea cls a0 s')(up:s'.heap.UpToSlots h'){b:Addr}{o:Obj}(e:s.heap.get? b=some o)(n:H b=none)(hb:b∈cu outer):∃ sl,h'.get? b=some {o with slots:=sl}:=by
 obtain⟨sl,e1⟩:=f.slot b o e n hb
 obtain⟨_,o1,e2,nf⟩:=f.fly.2.2.1.mem (b:=b) hb
 rw[e1] at e2
 cases e2
 obtain⟨sl',e3⟩:=up b _ e1 nf
 exact⟨sl',e3⟩
theorem Flies.un (f:Flies P w outer H s H' B ea cls a0 s')(st:B.StaysIn h')(up:s'.heap.UpToSlots h')(frf:∀ b∈cu outer,H b=none):Un (cu outer) [] H H' s.heap h' where
 keep:=fun b o e n hb _=>st b o (f.keep b o e n hb)
 slot:=fun b o e n hb _=>f.slotted up e n hb
 free:=fun b o e n _=>f.free b o e n
 there:=fun b o e _=>by
  by_cases hb:b∈cu outer
  ·obtain⟨sl,q⟩:=f.slotted up e (frf b hb) hb
   exact⟨_,q⟩
  ·obtain⟨o',q⟩:=f.thr b o e hb
   exact⟨o',st b o' q⟩
 tups:=f.tups
 frzs:=f.frzs
 tbls:=f.tbls
end
theorem ObjOk.some {P:Program}{w:World}{H:Hp}{h:Heap}{a:Addr}{o:HO}(x:ObjOk P w H h a o):∃ u,h.get? a=Option.some u:=by
 cases o with
 |lst xs=>obtain⟨_,_,_,_,e⟩:=x;exact⟨_,e⟩
 |tup xs=>obtain⟨_,_,_,ob,e,_⟩:=x;exact⟨_,e⟩
 |dK kvs=>obtain⟨_,_,_,_,o,_,_,e,_⟩:=x;exact⟨_,e⟩
 |dT kvs=>obtain⟨_,_,_,_,o,_,_,e,_⟩:=x;exact⟨_,e⟩
 |set S n=>obtain⟨o,_,_,_,e,_⟩:=x;exact⟨_,e⟩
 |ins C dx fs=>obtain⟨_,_,_,e,_⟩:=x;exact⟨_,e⟩
 |own y=>obtain⟨_,e⟩:=x;exact⟨_,e⟩
 |xd fs=>obtain⟨_,⟨_,_,_,e,_⟩,_⟩:=x;exact⟨_,e⟩
 |rng lo hi=>obtain⟨_,_,_,e⟩:=x;exact⟨_,e⟩
 |frz ob u=>obtain⟨e,_⟩:=x;exact⟨_,e⟩
 |tbl ps=>exact⟨_,x⟩
 |met f y=>exact⟨_,x⟩
 |ext φ=>obtain⟨_,e,_⟩:=x;exact e
theorem HOk.hid {P:Program}{w:World}{H:Hp}{h:Heap}{l:List Addr}(x:HOk P w H h)(n:∀ b∈l,H b=none):HOk P w H (PySem.W.hideAll h l):=fun a o e=>
 (x a o e).stay (fun b u hb q=>PySem.W.hideAll_get _ q fun hm=>by
  rcases hb with rfl|hb
  ·rw[n b hm] at e;cases e
  ·rw[n b hm] at hb;cases hb) (fun _ q=>q) fun _ _ q=>q
section
variable {P:Program}{w:World}{K:PySem.W.Frag}{mg:Str->Option Value}{base:Heap}{N:List Str}{qual:Str}{scope:Scope}{f:Addr}{cd:Value}{A:Around}{outer:List Env}{s:Shared}{H:Hp}{E:XK}
theorem rK:fe (cb P w) (bd (cb P w) P w K mg base N qual scope f cd A outer s H E) E:=by
 intro pins σ H1 s1 e s2 I h
 obtain⟨H',B,ea,cls,a0,rfl,fl,hE⟩:=h
 have hlt:∀ b o,s.heap.get? b=some o->b∉cu outer->b∉cu (envOfC qual scope s.heap.objs.size f cd::outer):=fun b o e hb hm=>by
  rcases List.mem_filterMap.mp hm with⟨env,he,hf⟩
  rcases List.mem_cons.mp he with rfl|he
  ·have:s.heap.objs.size=b:=Option.some.inj hf
   exact absurd (Heap.lt_size e) (by rw[this];exact Nat.lt_irrefl b)
  ·exact hb (List.mem_filterMap.mpr ⟨env,he,hf⟩)
 have hsub:∀ b,b∈cu outer->b∈cu (envOfC qual scope s.heap.objs.size f cd::outer):=fun b hb=>by
  rcases List.mem_filterMap.mp hb with⟨env,he,hf⟩
  exact List.mem_filterMap.mpr ⟨env,List.mem_cons_of_mem _ he,hf⟩
 show wpAny (model P w) _ (leaving (envOfC qual scope s.heap.objs.size f cd) (.ref ea)) _ _ s2
 refine wpAny_leaves_onW (base:=B) (cls:=cls) (a0:=a0) (outer:=outer) (L:=s.heap.objs.size) I.ok.frames rfl fl.fly fun h' fly' up=>⟨H',B,ea,cls,a0,rfl,⟨?_,fl.bare,fly',fl.hok,fun b o e n hb=>?_,fun b o e hb=>?_,fun b o e n hb=>?_,fun b o e n=>?_,fun b xs e=>?_,fun b o u e=>?_,fun b ps e=>?_⟩,hE⟩
 ·exact fl.os.trans I.os
 ·exact fl.keep b o (I.base.keep b o e n hb (by intro z;cases z)) (I.base.free b o e n (by intro z;cases z)) (hlt b o e hb)
 ·obtain⟨o1,e1⟩:=I.base.there b o e (by intro z;cases z)
  exact fl.thr b o1 e1 (hlt b o e hb)
 ·obtain⟨sl,e1⟩:=I.base.slot b o e n hb (by intro z;cases z)
  obtain⟨sl2,e2⟩:=fl.slotted up e1 (I.base.free b o e n (by intro z;cases z)) (hsub b hb)
  exact⟨sl2,e2⟩
 ·obtain⟨o1,e1⟩:=I.base.there b o e (by intro z;cases z)
  exact fl.free b o1 e1 (I.base.free b o e n (by intro z;cases z))
 ·exact fl.tups b xs (I.base.tups b xs e)
 ·exact fl.frzs b o u (I.base.frzs b o u e)
 ·obtain⟨m1,e1⟩:=I.base.tbls b ps e
  obtain⟨m2,e2⟩:=fl.tbls b _ e1
  exact⟨m1++m2,by rw[e2,Array.append_assoc]⟩
theorem rL {pins:List (Addr×Obj)}{σ:St}{H1:Hp}{s1:Shared}{h2:Heap}{ea:Addr}{cls:Value}{vs:List Value}(I:Inv (bd (cb P w) P w K mg base N qual scope f cd A outer s H E) pins σ H1 s1)(hx:Heap.MadeExcOf s1.heap h2 ea cls vs)(hE:E cls none H1):
  (bd (cb P w) P w K mg base N qual scope f cd A outer s H E).xe (.ref ea) {s1 with heap:=h2}:=by
 have hlt:∀ b o,s.heap.get? b=some o->b∉cu outer->b∉cu (envOfC qual scope s.heap.objs.size f cd::outer):=fun b o e hb hm=>by
  rcases List.mem_filterMap.mp hm with⟨env,he,hf⟩
  rcases List.mem_cons.mp he with rfl|he
  ·have:s.heap.objs.size=b:=Option.some.inj hf
   exact absurd (Heap.lt_size e) (by rw[this];exact Nat.lt_irrefl b)
  ·exact hb (List.mem_filterMap.mpr ⟨env,he,hf⟩)
 have hsub:∀ b,b∈cu outer->b∈cu (envOfC qual scope s.heap.objs.size f cd::outer):=fun b hb=>by
  rcases List.mem_filterMap.mp hb with⟨env,he,hf⟩
  exact List.mem_filterMap.mpr ⟨env,List.mem_cons_of_mem _ he,hf⟩
 have hst:s1.heap.FunFrames base (envOfC qual scope s.heap.objs.size f cd::outer):=I.stack
 have hfr:∀ b∈cu (envOfC qual scope s.heap.objs.size f cd::outer),H1 b=none:=I.stkFree
 have hin:∀ env∈(envOfC qual scope s.heap.objs.size f cd::outer),∀ b,env.frame=some b->b∈cu (envOfC qual scope s.heap.objs.size f cd::outer):=fun env he b hb=>List.mem_filterMap.mpr ⟨env,he,hb⟩
 have hff:=PySem.W.funFrames_hide hst hin
 show wpAny (model P w) _ (leaving (envOfC qual scope s.heap.objs.size f cd) (.ref ea)) _ _ {s1 with heap:=h2}
 refine wpAny_leaves_madeW (base:=PySem.W.hideAll s1.heap (cu (envOfC qual scope s.heap.objs.size f cd::outer))) (h:=s1.heap) (outer:=outer) (L:=s.heap.objs.size) I.ok.frames rfl (fun b o q=>PySem.W.of_hideAll _ q) hff hx fun h' t fly tup bt up=>⟨H1,_,ea,cls,_,rfl,⟨?_,I.bare,fly,I.hok.hid hfr,fun b o e n hb=>?_,fun b o e hb=>?_,fun b o e n hb=>?_,fun b o e n=>?_,fun b xs e=>?_,fun b o u e=>?_,fun b ps e=>?_⟩,hE⟩
 ·exact I.os
 ·exact PySem.W.hideAll_get _ (I.base.keep b o e n hb (by intro z;cases z)) (hlt b o e hb)
 ·obtain⟨o1,e1⟩:=I.base.there b o e (by intro z;cases z)
  exact⟨o1,PySem.W.hideAll_get _ e1 (hlt b o e hb)⟩
 ·obtain⟨sl,e1⟩:=I.base.slot b o e n hb (by intro z;cases z)
  obtain⟨_,o1,e2,nf⟩:=hst.mem (b:=b) (hsub b hb)
  rw[e1] at e2
  cases e2
  obtain⟨sl',e3⟩:=up b _ (hx.keeps b _ e1) nf
  exact⟨sl',e3⟩
 ·exact I.base.free b o e n (by intro z;cases z)
 ·exact I.base.tups b xs e
 ·exact I.base.frzs b o u e
 ·exact I.base.tbls b ps e
end
theorem Fun.okX {P:Program}{w:World}{K:PySem.W.Frag}{mg:Str->Option Value}{base:Heap}{x qual:Str}{st:Stmt}{f:Addr}{fd:FuncData}{N ps:List Str}{k:Nat}{sp:Sp}(F:Fun K x qual st f fd)(S:ax N ps (al st))(len:∀ vs H Q E,sp vs H Q E->vs.length=ps.length)
  (hbody:∀ (cdv:Value) (A:Around) (outer:List Env) (s:Shared) (H:Hp) (vs:List V) (Q:VK) (E:XK),Room k (A.deeper (envOfC qual (al st) s.heap.objs.size f cdv))->sp vs H Q E->
   ∃ t,PSs (bd (cb P w) P w K mg base N qual (al st) f cdv A outer s H E) (bO st) t/\t {nx:=fun _ H'=>Q .non H',rt:=Q} (dl N vs) H):aU P w K mg base (cb P w) (k+1) f fd ps sp:=by
 obtain⟨oc,od,kV,doc,pm,an,cdv,ct,osl,rfl,lk,hcd⟩:=F.ex
 refine oU lk hcd S len fun A outer s H vs Q E hr hsp=>?_
 obtain⟨t,h,q⟩:=hbody cdv A outer s H vs Q E hr hsp
 exact⟨t,h,q⟩
end L2
namespace L2
open PySem PySem.Spec PyProof.Rows
def qi (h:Heap)(C:Addr)(bmB:List Value)(newId:String):Prop:=
 ∃ (bm:List Value) (N:Addr) (nm q:Str) (bs:List Value) (hdct:Bool) (sn:List Str) (sub:List Value) (ab:Bool) (col:Option Bool) (dd:Option Addr) (k0 k1 k2 k3 k5:Option Value) (mN:Str->Option Value),
  h.get? C=some (excClassObj nm q C N bs bm hdct sn sub ab col dd k0 k1 k2 k3 k5 newId)/\h.Ns N mN/\mN "__init__"=none/\OwnTail h bmB bm
theorem jO {K:PySem.W.Frag}{h:Heap}{C:Addr}{bmB:List Value}{newId:String}(X:K.In h)(q:PySem.W.excIn K C bmB newId=true):qi h C bmB newId:=by
 unfold PySem.W.excIn at q
 split at q
 case h_2=>cases q
 case h_1 dd cd sl ho=>
  split at q
  case h_2=>cases q
  case h_1 C' bm k0 k1 k2 k3 n k5 hm hs=>
   rw[Bool.and_eq_true,Bool.and_eq_true,Bool.and_eq_true,Bool.and_eq_true,Bool.and_eq_true] at q
   obtain⟨⟨⟨⟨⟨q1,q2⟩,q3⟩,q4⟩,q5⟩,q6⟩:=q
   have e1:C'=C:=beq_iff_eq.mp q1
   have e2:n=newId:=beq_iff_eq.mp q2
   have e6:=beq_iff_eq.mp q6
   subst e1 e2
   obtain⟨nm,bs,mro,ns,qn,hd,sn,sub,ab,col,del⟩:=cd
   have em:mro=.ref C'::bm:=hm
   have ed:del=false:=by simpa using q3
   have es:sl=#[k0,k1,k2,k3,some (.builtin n),k5]:=Array.toList_inj.mp hs
   subst em ed es
   exact⟨bm,ns,nm,qn,bs,hd,sn,sub,ab,col,dd,k0,k1,k2,k3,k5,_,X _ _ ho,.of_isNs (PySem.W.isNs_of_in X q5),PySem.W.nsMap_none_of_in X q5 e6,PySem.W.tail_of_in X q4⟩
def qj (C:Addr)(E:XK)(t:TA):TS:=fun _ σ H=>t σ H fun vs H1=>vs.length<=sizeLine/\E (.ref C) none H1
section
variable {P:Program}{w:World}{K:PySem.W.Frag}{mg:Str->Option Value}{base:Heap}{N:List Str}{qual:Str}{scope:Scope}{f:Addr}{cd:Value}{A:Around}{outer:List Env}{s:Shared}{H:Hp}{E:XK}
theorem cp {x:Str}{C:Addr}{B newId initId:String}{bmB:List Value}{e:Expr}{es:List Expr}{t:TA}{np cpos pos:Pos}(q:PySem.W.excIn K C bmB newId=true)(FB:ExcBaseFacts B newId initId bmB)(hm:mg x=some (.ref C))
  (hg:Gl (bd (cb P w) P w K mg base N qual scope f cd A outer s H E) x) (ha:PA (bd (cb P w) P w K mg base N qual scope f cd A outer s H E) (e::es) t) (hd:(x == ("__debug__":Str))=false:=by decide)
  (he:starEach (e::es) (envOfC qual scope s.heap.objs.size f cd)=(false,eval e (envOfC qual scope s.heap.objs.size f cd))::starEach es (envOfC qual scope s.heap.objs.size f cd):=by rfl)
  (hpl:(backTo cpos (starEach (e::es) (envOfC qual scope s.heap.objs.size f cd))).any (·.1)=false:=by rfl):
  PS (bd (cb P w) P w K mg base N qual scope f cd A outer s H E) (.Raise (some (.Call (.Name x np) (e::es) [] cpos)) none pos) (qj C E t):=by
 intro pins s1 σ H1 D I h
 obtain⟨bm,N',nm,q',bs,hdct,sn,sub,ab,col,dd,k0,k1,k2,k3,k5,mN,h1,h2,h3,h4⟩:=jO I.mod.kin q
 refine wpAny_Raise_call_subT (C:=C) (nm:=nm) (q:=q') (N:=N') (bs:=bs) (bm:=bm) (hdct:=hdct) (sn:=sn) (sub:=sub) (ab:=ab) (col:=col) (dd:=dd) (k0:=k0) (k1:=k1) (k2:=k2) (k3:=k3) (k5:=k5) (mN:=mN) FB (h4.hasType FB.hasBase) (I.ok.hd rfl) hpl h3 (dg I hg hm ⟨rfl,?_⟩ hd)
 show wpAny _ _ (evalArgs (.ref C) true (backTo cpos (starEach (e::es) (envOfC qual scope s.heap.objs.size f cd))) []) _ _ s1
 rw[he]
 have hsp:=ha cpos pins s1 σ H1 _ I h
 have hsp':wpAny (model P w) _ (spliced (backTo cpos (starEach (e::es) (envOfC qual scope s.heap.objs.size f cd)))) _ _ s1:=hsp
 rw[he] at hsp'
 refine Calls.evalArgs_plain (wpAny_mono hsp' (fun us s2 hz=>?_) fun _ _ z=>z)
 obtain⟨vs,H2,I2,r,z,hE⟩:=hz
 refine⟨rfl,?_,I2.bk _ _ h1,h2.keeps I2.bk,h4.keeps I2.bk,fun h' ea hx=>rL I2 hx hE⟩
 show us.length<=sizeLine
 rw[← r.length]
 exact z
end
def gB (ea C:Addr):HO:=.ext fun h=>∃ (o:Obj) (vs:Array Value),h.get? ea=some o/\o.cls=.ref C/\o.data=.fields vs
abbrev XQ:=Value->St->Hp->Prop
def XP (X:Cx)(pins:List (Addr×Obj))(EX:XQ)(e:Value)(s':Shared):Prop:=
 ∃ (σ1:St) (H1:Hp) (s1:Shared) (H':Hp) (B:Heap) (ea:Addr) (cls a0:Value),e=.ref ea/\Inv X pins σ1 H1 s1/\Flies X.prog X.w X.stack H1 s1 H' B ea cls a0 s'/\EX cls σ1 H'
abbrev rV:=XQ->TE
abbrev rW:=XQ->TS
def sI (X:Cx)(e:Expr)(t:rV):Prop:=
 ∀ (pins:List (Addr×Obj)) (s:Shared) (σ:St) (H:Hp) (Q:VK) (EX:XQ),Inv X pins σ H s->t EX σ H Q->wpAny (model X.prog X.w) X.A (eval e X.env) (EP X pins σ Q) (XP X pins EX) s
def sY (X:Cx)(st:List Stmt)(t:rW):Prop:=
 ∀ (pins:List (Addr×Obj)) (s:Shared) (σ:St) (H:Hp) (D:cU) (EX:XQ),Inv X pins σ H s->t EX D σ H->wpAny (model X.prog X.w) X.A (execs st X.env) (SP X pins D) (XP X pins EX) s
def md (sp:Sp)(t:TA):rV:=fun EX σ H Q=>t σ H fun vs H1=>sp vs H1 Q fun cls _ H'=>EX cls σ H'
def rM (i:Nat)(t:rV):rW:=fun EX D σ H=>t EX σ H fun x H1=>D.nx (σ.set i (some x)) H1
section
variable {X:Cx}{k:Nat}{f:Addr}{fd:FuncData}{ps:List Str}{sp:Sp}{x:Str}{p pos:Pos}{e:Expr}{es:List Expr}{t:TA}
theorem me (hno:∀ e s,X.xe e s->False)(F:aU X.prog X.w X.K X.mg X.base (cb X.prog X.w) k f fd ps sp)(hr:Room k X.A)(hg:Gl X x)(hm:X.mg x=some (.ref f))(hk:PySem.W.keepIn X.K (.ref f)=true)(hb:Binds X.K fd ps [])
  (ha:PA X (e::es) t) (hdb:(x == ("__debug__":Str))=false:=by decide) (he:starEach (e::es) X.env=(false,eval e X.env)::starEach es X.env:=by rfl) (hpl:(backTo pos (starEach es X.env)).any (·.1)=false:=by rfl):
  sI X (.Call (.Name x p) (e::es) [] pos) (md sp t):=by
 intro pins s σ H Q EX I h
 refine wpAny_Call_Name_kw (dg I hg hm ?_ hdb)
 refine PySem.W.callWith_K (h₀:=X.base) I.ok.mod.kin hk (wpAny_mono (ha pos pins s σ H _ I h) (fun us s1 ⟨vs,H1,I1,r,q⟩=>⟨I1.kIn,?_⟩) fun e' s' z=>(hno e' s' z).elim) he hpl
 have hl:us.length=ps.length:=by rw[← r.length];exact F.len _ _ _ _ q
 have hbs:=hb s1 us I1.kIn (by rw[List.append_nil];exact hl)
 rw[List.append_nil] at hbs
 refine wpAny_call (codeAny_mono (F.run X.A X.stack s1 H1 ⟨us,[]⟩ us vs Q (fun cls _ H'=>EX cls σ H') hr I1.env0 hbs r q) fun res s' hq=>?_)
 cases res with
 |error e'=>
  obtain⟨H',B,ea,cls,a0,rfl,fl,hE⟩:=hq
  exact⟨σ,H1,s1,H',B,ea,cls,a0,rfl,I1,fl,hE⟩
 |ok fl=>
  cases fl with
  |ret u=>exact I1.after hq
  |next=>exact False.elim hq
  |brk=>exact False.elim hq
  |cont=>exact False.elim hq
theorem nY {i:Nat}{y:Str}{te:rV}{pos':Pos}(hN:X.N.Nodup)(hi:X.N[i]? =some y) (hy:qL X.env.scope y) (he:sI X e te) (hs:swapsWith e (some (.Name y pos')) pos.line X.env=pure false:=by rfl) (hf:X.fn y=true\/X.env.scope.names.lookup y=some .local:=by first|exact .inl rfl|exact .inr rfl|assumption):
  sY X [.Assign [.Name y pos'] e pos] (rM i te):=by
 intro pins s σ H D EX I h
 refine wpAny_execs_cons (wpAny_Assign_Name (wpAny_mono (he pins s σ H _ EX I h) (fun v s1 ⟨z,H1,I1,r1,q1⟩=>?_) fun _ _ z=>z) hs)
 exact df I1 hN hi hy r1 (fun s2 I2=>wpAny_execs_nil ⟨_,H1,I2,q1⟩) hf
end
abbrev Cx.inExc (X:Cx)(ea:Addr)(E:Value->Shared->Prop):Cx:={X with A:=X.A.mark (some (.ref ea)),calm:=false,xe:=E}
section
variable {X:Cx}{pins:List (Addr×Obj)}{σ:St}{H:Hp}{s:Shared}{ea:Addr}{E:Value->Shared->Prop}
theorem Inv.inExc (I:Inv X pins σ H s)(ea:Addr)(E:Value->Shared->Prop):Inv (X.inExc ea E) pins σ H s:=
 ⟨⟨I.ok.mod,I.ok.kind,I.ok.glob,I.ok.blt,I.ok.above,I.ok.inj,I.ok.has,I.ok.cab,(fun z=>(Bool.false_ne_true z).elim),I.ok.frames,I.ok.stk,I.ok.exf,I.ok.bs,I.ok.bsz,I.ok.noex,I.ok.exfs,I.ok.funs,I.ok.frf⟩,I.os,I.bare,I.base,I.loc,I.cell,I.free,I.freeC,I.pin,I.hok,I.len⟩
theorem Inv.outExc (hd:X.A.handled=none)(I:Inv (X.inExc ea E) pins σ H s):Inv X pins σ H s:=
 ⟨⟨I.ok.mod,I.ok.kind,I.ok.glob,I.ok.blt,I.ok.above,I.ok.inj,I.ok.has,I.ok.cab,fun _=>hd,I.ok.frames,I.ok.stk,I.ok.exf,I.ok.bs,I.ok.bsz,I.ok.noex,I.ok.exfs,I.ok.funs,I.ok.frf⟩,I.os,I.bare,I.base,I.loc,I.cell,I.free,I.freeC,I.pin,I.hok,I.len⟩
theorem eO {M:Model}{A:Around}{i:Nat}{n:Str}{pos:Pos}{Q:Unit->Shared->Prop}(I:Inv X pins σ H s)(hN:X.N.Nodup)(hi:X.N[i]? =some n) (hk:X.env.scope.names.lookup n=some .local)
  (h:∀ s',Inv X pins (σ.set i none) H s'->Q () s'):wpAny M A (do bindName X.env n .none;unbindBehindTheSuite X.env n pos) Q E s:=by
 obtain⟨m,hn,hl⟩:=id I.loc
 have hiσ:i < σ.length:=by rw[I.len];exact (List.getElem?_eq_some_iff.mp hi).1
 have hcls:(X.env.scope.kind == .class || (X.env.scope.kind == .module&&X.env.locals != X.env.globals))=false:=by rw[I.ok.kind];rfl
 obtain⟨oL,_,_,hoL,_⟩:=id hn
 refine wpAny_nameGoes_keeps hk hn hcls fun h' v hn' hs=>?_
 have nL:∀ b o,X.s₀.heap.get? b=some o->b≠X.env.locals:=fun b o e=>Nat.ne_of_lt (Nat.lt_of_lt_of_le (Heap.lt_size e) I.ok.above)
 refine h _ ⟨I.ok,I.os,I.bare,⟨fun b o e n hb hx=>(hs.2 b (nL b o e)).trans (I.base.keep b o e n hb hx),fun b o e n hb hx=>?_,I.base.free,fun b o e hx=>?_,I.base.tups,I.base.frzs,I.base.tbls⟩,⟨_,hn',fun j y v' e1 e2 e3=>?_⟩,fun y c e=>?_,I.free,I.freeC,fun p hp=>?_,fun b ob e=>?_,by simpa using I.len⟩
 ·obtain⟨sl,e1⟩:=I.base.slot b o e n hb hx
  exact⟨sl,(hs.2 b (nL b o e)).trans e1⟩
 ·obtain⟨o',e1⟩:=I.base.there b o e hx
  exact⟨o',(hs.2 b (nL b o e)).trans e1⟩
 ·by_cases hj:j=i
  ·subst hj
   rw[List.getElem?_set_self hiσ] at e2
   cases e2
  ·rw[List.getElem?_set_ne (Ne.symm hj)] at e2
   obtain⟨u',r',q⟩:=hl j y v' e1 e2 e3
   refine⟨u',r',?_⟩
   rcases q with⟨kk,e⟩|⟨kk,c,e,z⟩
   ·refine .inl ⟨kk,?_⟩
    have:y≠n:=fun e=>hj (eV hN e1 (e▸hi))
    simp [this,e]
   ·exact .inr ⟨kk,c,e,z.sameBut hs (I.cne y c e)⟩
 ·obtain⟨w',z⟩:=I.cell y c e
  exact⟨w',z.sameBut hs (I.cne y c e)⟩
 ·obtain⟨e,n,ne,nf,d⟩:=I.pin p hp
  exact⟨(hs.2 p.1 ne).trans e,n,ne,nf,d⟩
 ·refine (I.hok b ob e).stay (fun c w' hc q=>(hs.2 c ?_).trans q) (fun _ q=>q) fun _ _ q=>q
  rintro rfl
  rcases hc with rfl|hc
  ·rw[I.free] at e;cases e
  ·rw[I.free] at hc;cases hc
end
section
variable {P:Program}{w:World}{outer:List Env}{H H':Hp}{s s':Shared}{B h':Heap}{ea C:Addr}{a0:Value}
theorem Flies.away (f:Flies P w outer H s H' B ea (.ref C) a0 s'){b:Addr}{o:Obj}(e:s.heap.get? b=some o):b≠ea:=by
 rintro rfl
 by_cases hb:b∈cu outer
 ·obtain⟨_,o1,e2,nf⟩:=f.fly.2.2.1.mem (b:=b) hb
  obtain⟨oe,vs,e3,_,hd,_⟩:=f.fly.first
  rw[e2] at e3
  cases e3
  exact nf vs hd
 ·obtain⟨o',q⟩:=f.thr b o e hb
  rw[f.fly.2.1] at q
  cases q
theorem Flies.fresh (f:Flies P w outer H s H' B ea (.ref C) a0 s'):H' ea=none:=by
 cases q:H' ea with
 |none=>rfl
 |some u=>
  have hx:=f.hok ea u q
  have:∃ o,B.get? ea=some o:=ObjOk.some hx
  obtain⟨o,e⟩:=this
  rw[f.fly.2.1] at e
  cases e
theorem Flies.unX (f:Flies P w outer H s H' B ea (.ref C) a0 s')(st:B.StaysIn h')(up:s'.heap.UpToSlots h')(frf:∀ b∈cu outer,H b=none):Un (cu outer) [] H (upd H' ea (gB ea C)) s.heap h':=by
 have u:=f.un st up frf
 have fr:=f.fresh
 refine⟨u.keep,u.slot,fun b o e n hx=>?_,u.there,fun b xs e=>?_,fun b o v e=>?_,fun b ps e=>?_⟩
 ·rw[av (f.away e)]
  exact u.free b o e n hx
 ·have z:=u.tups b xs e
  rw[av (ap z fr)]
  exact z
 ·have z:=u.frzs b o v e
  rw[av (ap z fr)]
  exact z
 ·obtain⟨more,z⟩:=u.tbls b ps e
  exact⟨more,by rw[av (ap z fr)];exact z⟩
theorem Flies.hokX (f:Flies P w outer H s H' B ea (.ref C) a0 s')(fl:Heap.FlyingW B outer ea (.ref C) a0 h'):HOk P w (upd H' ea (gB ea C)) h':=fun b u q=>by
 have fr:=f.fresh
 by_cases hb:b=ea
 ·subst hb
  rw[ad] at q
  cases q
  obtain⟨oe,vs,e1,e2,e3,_⟩:=fl.first
  exact⟨⟨oe,vs,e1,e2,e3⟩,⟨oe,e1⟩,fun h1 h2 ⟨o,vs,z1,z2,z3⟩ k=>⟨o,vs,k o z1,z2,z3⟩⟩
 ·rw[av hb] at q
  exact (f.hok b u q).stay (fun c v _ z=>fl.1 c v z) (fun c z=>by rw[av (ap z fr)];exact z) fun c xs z=>by rw[av (ap z fr)];exact z
end
def sJ (C:Addr)(i:Nat)(tb:rW)(ts:TS):TS:=fun D σ H=>
 tb (fun cls σ1 H'=>cls=.ref C/\∀ ea,H' ea=none->ts {nx:=fun σ2 H2=>D.nx (σ2.set i none) H2,rt:=D.rt,bk:=fun σ2 H2=>D.bk (σ2.set i none) H2,ct:=fun σ2 H2=>D.ct (σ2.set i none) H2} (σ1.set i (some (.ref ea))) (upd H' ea (gB ea C))) D σ H
section
variable {X:Cx}
theorem qk {body:List Stmt}{x n:Str}{C:Addr}{newId:String}{bmB:List Value}{b₀:Stmt}{suite:List Stmt}{np hpos pos:Pos}{i:Nat}{tb:rW}{ts:TS}(hN:X.N.Nodup)(hi:X.N[i]? =some n) (hk:X.env.scope.names.lookup n=some .local)
  (hst:X.stack=X.env::X.outer) (hfr:X.env.frame=some X.env.locals) (hcalm:X.calm=true) (q:PySem.W.excIn X.K C bmB newId=true) (hbase:bmB.contains (.type "BaseException")=true) (hm:X.mg x=some (.ref C)) (hg:Gl X x)
  (hb:sY X body tb) (hs:∀ ea E,PSs (X.inExc ea E) (b₀::suite) ts) (hd:(x == ("__debug__":Str))=false:=by decide) (hf:X.fn n=true\/X.env.scope.names.lookup n=some .local:=by first|exact .inl rfl|exact .inr rfl|assumption):
  PS X (.Try body [.ExceptHandler (some (.Name x np)) (some n) (b₀::suite) hpos] [] [] pos) (sJ C i tb ts):=by
 intro pins s σ H D I h
 refine wpAny_Try_except (wpAny_mono (hb pins s σ H D _ I h) (fun fl s1 q1=>?_) fun e s1 q1=>?_)
 ·cases fl with
  |next=>exact wpAny_execs_nil q1
  |ret v=>exact q1
  |brk=>exact q1
  |cont=>exact q1
 obtain⟨σ1,H1,s0,H',B,ea,cls,a0,rfl,I1,fl,rfl,kk⟩:=q1
 have hA:X.A.frames=some (X.env::X.outer):=by rw[← hst];exact I1.ok.frames
 have fly:Heap.FlyingW B (X.env::X.outer) ea (.ref C) a0 s1.heap:=by rw[← hst];exact fl.fly
 refine wpAny_looks_onW hA hfr fly fun h4 held up4=>?_
 refine wpAny_landsW held fun h5 fly5 up5=>?_
 have up15:=up4.trans up5
 have I5:Inv X pins σ1 H' {s1 with heap:=h5}:=I1.call' (s':={s1 with heap:=h5}) fl.os (fl.un fly5.1 up15 I1.stkFree) (fl.hok.kept fly5.1) fl.bare fun b z=>nomatch z
 obtain⟨ob,hob,hobc⟩:=fly5.there
 obtain⟨bm,N',nm,q',bs,hdct,sn,sub,ab,col,dd,k0,k1,k2,k3,k5,mN,c1,c2,c3,c4⟩:=jO I5.kIn q
 refine wpAny_handleBy_cons (codeAny_handlers_test (dg (I5.inExc ea (fun _ _=>False)) hg hm ?_ hd)) (by intro z;cases z)
 refine wpAny_excMatches_sub_self c1 hob hobc (c4.hasType hbase) (codeAny_handlers_suite_as ?_)
 refine lands_againW fly5 fun h6 fly6 up6=>?_
 have up16:=up15.trans up6
 have fly6':Heap.FlyingW B X.stack ea (.ref C) a0 h6:=by rw[hst];exact fly6
 have I6:Inv X pins σ1 (upd H' ea (gB ea C)) {s1 with heap:=h6}:=I1.call' (s':={s1 with heap:=h6}) fl.os (fl.unX fly6.1 up16 I1.stkFree) (fl.hokX fly6') fl.bare fun b z=>nomatch z
 refine df (i:=i) (v:=.ref ea) I6 hN hi (.inl hk) rfl (fun s7 I7=>?_) hf
 refine wpAny_mono (hs ea _ pins s7 _ _ _ (I7.inExc ea _) (kk ea fl.fresh)) (fun f s8 q8=>?_) fun _ _ z=>z
 have hd0:X.A.handled=none:=I.ok.hd hcalm
 cases f with
 |next=>
  obtain⟨σ8,H8,I8,z8⟩:=q8
  exact eO (I8.outExc hd0) hN hi hk fun s9 I9=>⟨_,H8,I9,z8⟩
 |brk=>
  obtain⟨σ8,H8,I8,z8⟩:=q8
  exact eO (I8.outExc hd0) hN hi hk fun s9 I9=>⟨_,H8,I9,z8⟩
 |cont=>
  obtain⟨σ8,H8,I8,z8⟩:=q8
  exact eO (I8.outExc hd0) hN hi hk fun s9 I9=>⟨_,H8,I9,z8⟩
 |ret u=>
  obtain⟨v,σ8,H8,I8,r8,z8⟩:=q8
  exact eO (I8.outExc hd0) hN hi hk fun s9 I9=>⟨v,_,H8,I9,r8,z8⟩
end
end L2
namespace L2
open PySem PySem.Spec PyProof.Rows
structure nZ (P:Program)(w:World)(K:PySem.W.Frag)(mg:Str->Option Value)(base:Heap)(k:Nat)(x:Str)(f:Addr)(fd:FuncData)(ps:List Str)(sp:Sp):Prop where
 ok:aU P w K mg base (cb P w) k f fd ps sp
 b:Binds K fd ps []
 kp:PySem.W.keepIn K (.ref f)=true
 at_:mg x=some (.ref f)
section
variable {X:Cx}{j k:Nat}{f:Addr}{fd:FuncData}{ps:List Str}{sp:Sp}{x:Str}{p pos:Pos}{e:Expr}{es:List Expr}{t:TA}
theorem ql (G:nZ X.prog X.w X.K X.mg X.base j x f fd ps sp)(hno:∀ e s,X.xe e s->False)(hr:Room k X.A)(hjk:j<=k)(hg:Gl X x)(ha:PA X (e::es) t)(hdb:(x == ("__debug__":Str))=false:=by decide)
  (he:starEach (e::es) X.env=(false,eval e X.env)::starEach es X.env:=by rfl) (hpl:(backTo pos (starEach es X.env)).any (·.1)=false:=by rfl):sI X (.Call (.Name x p) (e::es) [] pos) (md sp t):=
 me hno G.ok (hr.mono hjk) hg G.at_ G.kp G.b ha hdb he hpl
end
section
variable {P:Program}{w:World}{K:PySem.W.Frag}{mg:Str->Option Value}{base:Heap}{N:List Str}{qual:Str}{scope:Scope}{f:Addr}{cd:Value}{A:Around}{outer:List Env}{s:Shared}{H:Hp}{E:XK}
theorem mf {j k:Nat}{f':Addr}{fd:FuncData}{ps:List Str}{sp:Sp}{x:Str}{p pos:Pos}{e:Expr}{es:List Expr}{t:TA}(G:nZ P w K mg base j x f' fd ps sp)(hr:Room k (bd (cb P w) P w K mg base N qual scope f cd A outer s H E).A)(hjk:j<=k)
  (hg:Gl (bd (cb P w) P w K mg base N qual scope f cd A outer s H E) x) (ha:PA (bd (cb P w) P w K mg base N qual scope f cd A outer s H E) (e::es) t) (hdb:(x == ("__debug__":Str))=false:=by decide)
  (he:starEach (e::es) (bd (cb P w) P w K mg base N qual scope f cd A outer s H E).env=(false,eval e (bd (cb P w) P w K mg base N qual scope f cd A outer s H E).env)::starEach es (bd (cb P w) P w K mg base N qual scope f cd A outer s H E).env:=by rfl)
  (hpl:(backTo pos (starEach es (bd (cb P w) P w K mg base N qual scope f cd A outer s H E).env)).any (·.1)=false:=by rfl):
  PE (bd (cb P w) P w K mg base N qual scope f cd A outer s H E) (.Call (.Name x p) (e::es) [] pos) (jC sp [] E t):=
 gv G.ok (hr.mono hjk) hg G.at_ G.kp G.b .nil rK ha hdb he hpl
end
structure cL (K:PySem.W.Frag)(C:Addr):Prop where
 cls:∃ cd,PySem.W.clsIn K C=some cd
 ga:PySem.W.findIn K (.ref C) "__getattribute__"=some (some (.builtin "BaseException.__getattribute__"))
 gt:PySem.W.findIn K (.ref C) "__getattr__"=some none
 at_:PySem.W.findIn K (.ref C) "__class__"=some (some (.builtin "object.__class__"))
 ob:PySem.W.mroIn K C (.type "object")=some true
 be:PySem.W.mroIn K C (.type "BaseException")=some true
section
variable {prog:Program}{w:World}{A:Around}{E:Value->Shared->Prop}{h:Heap}{g:Array GenState}{d:Drawn}{t:Nat}{os:OsState}{a C:Addr}{o:Obj}{vs:Array Value}{K:PySem.W.Frag}
theorem mh {M:Model}(hx:h.get? a=some o)(hc:o.cls=.ref C):PySem.W.Looks M h (typeOf (.ref a)) (.ref C):=by
 rw[← hc]
 exact (PySem.W.Looks.ld hx).andThen .now
theorem i4 {R:Result->Shared->Prop}(X:K.In h)(T:cL K C)(hx:h.get? a=some o)(hc:o.cls=.ref C)(hq:R (.ok (.ret (.ref C))) ⟨h,g,d,t,os⟩):
  codeAny (model prog w) A (.call (.builtin "getset_descriptor.__get__") ⟨[.builtin "object.__class__",.ref a,.ref C],[]⟩) R ⟨h,g,d,t,os⟩:=by
 have hT5:(⟨h,g,d,t,os⟩:Shared).TypeIs (.builtin "object.__class__") "getset_descriptor":=F.typeOf_object_class
 have L1:=PySem.W.looks_mroIn (M:=model prog w) X T.ob
 refine codeAny_call_builtin F.slot_gs_get.plain F.entry_gs_get (F.slot_gs_get.check _ _ _ _ _ _ _ _ hT5 (F.args_gs_get _ _ _) ?_)
 repeat (any_goals (first|assumption|(with_reducible refine wpAny_loadPart_at hx ?_;rw[hc])|(rw[F.owner_object_class];with_reducible refine L1.at ?_)|wp_step))
 refine⟨Code.quiet_builtin _ (by decide+kernel),codeAny_builtin F.entry_object_class ?_⟩
 repeat (any_goals (first|assumption|(with_reducible refine wpAny_loadPart_at hx ?_;rw[hc])|wp_step))
theorem gD {tk:Tok}{Q:Fin->Shared->Prop}(X:K.In h)(T:cL K C)(hx:h.get? a=some o)(hc:o.cls=.ref C)(hq:Q (.done (.ret (.ref C))) ⟨h,g,d,t,os⟩):
  wpAny (model prog w) A (Builtin.«object.__getattribute__» ⟨[.ref a,.str "__class__" tk],[]⟩) Q E ⟨h,g,d,t,os⟩:=by
 have hT5:(⟨h,g,d,t,os⟩:Shared).TypeIs (.builtin "object.__class__") "getset_descriptor":=F.typeOf_object_class
 have f5:=F.typeOf_object_class
 have f6:=F.slot_gs_get.lookup
 have f7:=F.slot_gs_set.lookup
 have L1:=PySem.W.looks_findIn (M:=model prog w) X T.at_
 repeat (any_goals (first|assumption|(with_reducible refine wpAny_loadPart_at hx ?_;rw[hc])|with_reducible refine L1.at ?_|wp_step))
 refine i4 X T hx hc ?_
 repeat (any_goals (first|assumption|wp_step))
theorem kO {M:Model}{nameV:Value}{Q:Unit->Shared->Prop}(X:K.In h)(T:cL K C)(hx:h.get? a=some o)(hc:o.cls=.ref C)(hq:Q () ⟨h,g,d,t,os⟩):
  wpAny M A (checkBuiltinCall "BaseException.__getattribute__" ⟨[.ref a,nameV],[]⟩) Q E ⟨h,g,d,t,os⟩:=by
 have f1:builtinKind "BaseException.__getattribute__"=some .slot:=by decide+kernel
 have f2:splitId "BaseException.__getattribute__"=some ("BaseException","__getattribute__"):=by decide+kernel
 have f3:=F.args_bexc_ga (.ref a) nameV
 have L1:=PySem.W.looks_mroIn (M:=M) X T.be
 simp only [checkBuiltinCall,f1,f2]
 refine wpAny_bind ?_
 unfold isInstance
 repeat (first|(with_reducible refine wpAny_loadPart_at hx ?_;rw[hc])|with_reducible refine L1.at ?_|wp_step)
 exact hq
theorem kP {tk:Tok}{Q:Value->Shared->Prop}(X:K.In h)(T:cL K C)(hx:h.get? a=some o)(hc:o.cls=.ref C)(hq:Q (.ref C) ⟨h,g,d,t,os⟩):
  wpAny (model prog w) A (getAttrBy (.ref a) (.str "__class__" tk) false) Q E ⟨h,g,d,t,os⟩:=by
 have f3:=PySem.F.attr_ValueError.ga.bind (.ref a)
 have hx2:(Value.builtin "BaseException.__getattribute__" == Value.builtin "object.__getattribute__")=false:=by decide+kernel
 have hx1:(onTheHeap (Value.ref C)&&Value.builtin "BaseException.__getattribute__" == Value.builtin "object.__getattribute__")=false:=by rw[hx2];rfl
 have L1:=PySem.W.looks_findIn (M:=model prog w) X T.ga
 have L2:=PySem.W.looks_findIn (M:=model prog w) X T.gt
 repeat (any_goals (first|assumption|(with_reducible refine wpAny_loadPart_at hx ?_;rw[hc])|with_reducible refine L1.at ?_|with_reducible refine L2.at ?_|wp_step))
 refine codeAny_call_builtin PySem.F.attr_ValueError.ga.plain F.entry_bexc_ga (kO X T hx hc (gD X T hx hc ?_))
 repeat (any_goals (first|assumption|wp_step))
theorem ib {Q:Option Value->Shared->Prop}(X:K.In h)(T:cL K C)(hx:h.get? a=some o)(hc:o.cls=.ref C)(hq:Q (some (.ref C)) ⟨h,g,d,t+1,os⟩):
  wpAny (model prog w) A (getAttr? (.ref a) "__class__") Q E ⟨h,g,d,t,os⟩:=by
 unfold getAttr? getAttrBy?
 repeat (any_goals (first|assumption|with_reducible apply kP X T hx hc|wp_step))
theorem mi (T:cL K C):PySem.W.KitX K (.ref a) (.ref C) (fun h=>∃ o,h.get? a=some o/\o.cls=.ref C) where
 ty:=fun M h _ ⟨o,h1,h2⟩=>mh h1 h2
 it:=fun _ _ X _=>by
  obtain⟨_,q⟩:=T.cls
  unfold PySem.W.clsIn at q
  split at q
  ·rename_i ho
   intro A' Q' E' s' k z
   unfold isType loadHead
   exact wpAny_bind (wpAny_loadPart (k _ _ (X _ _ ho)) (wpAny_pure z))
  ·cases q
 ne:=fun h tp dd its n sl X htp=>by
  refine Bool.eq_false_iff.mpr fun z=>?_
  have e:C=tp:=Value.ref.inj (beq_iff_eq.mp z)
  subst e
  obtain⟨_,q⟩:=T.cls
  unfold PySem.W.clsIn at q
  split at q
  ·rename_i ho
   have y:=(X _ _ ho).symm.trans htp
   cases y
  ·cases q
 ca:=fun {_ _ _ _ _ s} X ⟨o,h1,h2⟩ k=>by
  obtain⟨hh,g,d,t,os⟩:=s
  exact ib X T h1 h2 k
end
def sK (K:PySem.W.Frag):List V->Hp->VK->Prop:=fun xs H Q=>∃ (ea C:Addr) (cv:V) (c:Value) (b:Bool),xs=[.ref ea,cv]/\(match cv with|.ref a=>c=.ref a|.ty n=>c=.type n|_=>False)/\H ea=some (gB ea C)/\cL K C/\PySem.W.kitOne K (.ref C) c=some b/\Q (.bl b) H
section
variable {X:Cx}
theorem aH:bP X (.builtin "isinstance") (sK X.K):=by
 intro pins s σ H xs us Q I r h
 obtain⟨ea,C,cv,c,b,rfl,hc,he,T,e,q⟩:=h
 obtain⟨u,w',rfl,rx,ry⟩:=jB r
 cases (show u=Value.ref ea from rx)
 have hw:w'=c:=by
  cases cv with
  |ref a=>exact (show w'=Value.ref a from ry).trans (show c=Value.ref a from hc).symm
  |ty n=>exact (show w'=Value.type n from ry).trans (show c=Value.type n from hc).symm
  |_=>exact hc.elim
 subst hw
 obtain⟨⟨o,vs,h1,h2,_⟩,_⟩:=(show ObjOk X.prog X.w H s.heap ea (gB ea C) from I.hok ea _ he)
 exact PySem.W.kia_one (mi T) I.kIn ⟨o,h1,h2⟩ e (fun z=>nomatch z) fun tk=>⟨.bl b,H,I.tok _,rfl,q⟩
end
theorem mj (K:PySem.W.Frag)(C:Addr):PySem.W.kitOne K (.ref C) (.ref C)=some true:=by
 unfold PySem.W.kitOne
 rw[if_pos (by simp)]
end L2
namespace OD
open PySem L2
end OD
namespace Srt
open PySem PySem.W PyProof.Rows
section
variable (key:Nat->Int)
variable {key}
end
end Srt
namespace Srt
open PySem PySem.W PyProof.Rows
end Srt
namespace Srt
open PySem PySem.W PySem.Spec PyProof.Rows
section
variable {prog:Program}{w:World}{A:Around}{E:Value->Shared->Prop}{s:Shared}
end
end Srt
namespace L2
open PySem PySem.Spec PyProof.Rows
section
variable {X:Cx}
end
end L2
namespace L2
open PySem PySem.Spec PyProof.Rows
section
variable {X:Cx}
def ml:V->Option Int->Option Int->Hp->VK->Prop:=fun x lo hi H Q=>∃ t,x=.str t/\t.length<=sizeLine/\Q (.str (Txt.slice t lo hi)) H
theorem bF:sw X ml:=by
 intro pins s σ H x v vl vu lo hi sl Q I rx hs pl pu h
 obtain⟨t,rfl,hz,q⟩:=h
 obtain⟨k,rfl⟩:=rx
 refine⟨"str",_,F.slot_str_getitem.lookup,typeIs_str _ _ _,?_⟩
 have key:∀ (t':Tok) (n:Nat),EP X pins σ Q (.str (Txt.slice t lo hi) t') {s with toks:=n}:=fun t' n=>⟨.str _,H,I.tok _,⟨_,rfl⟩,q⟩
 have hz2:=Nat.le_trans (Txt.slice_le t lo hi) hz
 cases pl with
 |none=>
  cases pu with
  |none=>exact wpAny_getItem_str_slice (l:=none) (u:=none) (st:=none) hs rfl (post_val_or_str ⟨hz2,key⟩)
  |int j uj=>exact wpAny_getItem_str_slice (l:=none) (u:=some (j,uj)) (st:=none) hs rfl (post_val_or_str ⟨hz2,key⟩)
 |int i ui=>
  cases pu with
  |none=>exact wpAny_getItem_str_slice (l:=some (i,ui)) (u:=none) (st:=none) hs rfl (post_val_or_str ⟨hz2,key⟩)
  |int j uj=>exact wpAny_getItem_str_slice (l:=some (i,ui)) (u:=some (j,uj)) (st:=none) hs rfl (post_val_or_str ⟨hz2,key⟩)
def o3 (K:PySem.W.Frag):R2:=fun x y H Q=>∃ a b xs ys,x=.ref a/\y=.ref b/\SqT K H a xs/\SqT K H b ys/\ys≠[]/\xs.length+ys.length<=sizeLine/\
 (xs=[]->Q (.ref b) H)/\(xs≠[]->∀ p,H p=none->Q (.ref p) (upd H p (.tup (xs++ys))))
theorem n6:OpR X (binaryOp .Add) (o3 X.K):=by
 intro pins s σ H x y v u Q I rx ry h
 obtain⟨a,b,xs,ys,rfl,rfl,ha,hb,hy,hz,q1,q2⟩:=h
 by_cases hx:xs=[]
 ·cases rx
  cases ry
  obtain⟨its,r1,p1,_⟩:=I.tuple ha
  obtain⟨its2,r2,p2,_⟩:=I.tuple hb
  have hw:=r1.nil_iff.mpr hx
  obtain⟨⟨cls,dd,data,sl⟩,ho,hc,n,hd⟩:=id p1
  obtain⟨⟨cls2,dd2,data2,sl2⟩,ho2,hc2,n2,hd2⟩:=id p2
  simp only at hc hd hc2 hd2
  subst hc hd hc2 hd2
  exact concat_meets ⟨_,ho,rfl⟩ ⟨_,ho2,rfl⟩ noFill_tuple_add seq_tuple_add PySem.F.slot_tuple_add PySem.F.entry_tuple_add (PySem.F.args_tuple_add_2 _ _)
   (tuple_addW0 a b its.toArray its2.toArray n n2 dd dd2 sl sl2 (by simp [hw])) ⟨ho,ho2,.ref b,H,I,rfl,q1 hx⟩
 ·exact nN pins s σ H _ _ v u Q I rx ry ⟨a,b,xs,ys,rfl,rfl,ha,hb,hx,hz,fun z=>absurd z hy,fun _=>q2 hx⟩
end
theorem mn {x:Str}{j:Int}(h0:0<=j)(h2:j<=x.length):Txt.slice x none (some j)=⟨(x.cps.toList.take j.toNat).toArray⟩:=by
 have z:=slice_closes_toL (x:=x) h0 h2
 rw[eq_of_beq z]
 simp
theorem i5 {x:Str}{i:Int}(h0:0<=i)(h2:i<=x.length):Txt.slice x (some i) none=⟨(x.cps.toList.drop i.toNat).toArray⟩:=by
 have z:=slice_closes_fromL (x:=x) h0 h2 rfl
 rw[eq_of_beq z]
 congr 2
 refine List.take_of_length_le ?_
 rw[List.length_drop,Array.length_toList]
 have:x.cps.size=x.length:=rfl
 omega
end L2
namespace OD
open PySem L2
theorem fA {α β:Type}{F:α->β->Prop}:∀ {xs ys:List α} {us ws:List β},Paired F xs us->Paired F ys ws->Paired F (xs++ys) (us++ws)
 |_,_,_,_,.nil,h=>h
 |_,_,_,_,.cons h t,g=>.cons h (fA t g)
end OD
namespace L2
open PySem PySem.Spec PyProof.Rows
def qm (x:Str):It:=⟨fun i _=>i < x.cps.size,fun i H v H'=>H'=H/\∃ c,x.cps[i]? =some c/\v=.str ⟨#[c]⟩,fun i _=>x.cps.size<=i⟩
theorem mo {P:Program}{w:World}{K:PySem.W.Frag}{tg:Expr}{ty:String}{x:Str}{t:Tok}(it:Addr)(hty:ty="str_ascii_iterator"\/ty="str_iterator"):ly P w K tg (qm x) [it] it (fun i h=>h.IsStrIter it ty x t i) where
 mem:=by simp
 obj:=fun i h st b hb=>by
  have e:b=it:=by simpa using hb
  subst e
  obtain⟨o,e,c,d⟩:=st
  exact⟨o,e,fun v z=>by rw[d] at z;cases z⟩
 keep:=fun i h h' st k=>by
  obtain⟨o,e,c⟩:=st
  exact⟨o,k it (by simp) o e,c⟩
 item:=by
  intro X hP hw hK hc i pins s σ H E I hf st hg
  subst hP hw hK
  obtain⟨f0,f1,f2,f3,f4,f5⟩:=hf it (by simp)
  have hx:x.cps[i]? =some (x.cps[i]'hg):=Array.getElem?_eq_getElem hg
  have fin:∀ h',h'.IsStrIter it ty x t (i+1)->Heap.SameBut it s.heap h'->∃ u,some (Value.str ⟨#[x.cps[i]'hg]⟩ s.toks)=some u/\
    wpAny (model X.prog X.w) X.A (letOwnedTupleGo tg (.ref it) u) (fun _ s2=>∃ x_1 H',Inv X pins σ H' s2/\RelV x_1 u/\(qm x).yld i H x_1 H'/\s2.heap.IsStrIter it ty x t (i+1)/\∀ b∈[it],H' b=none) E {s with heap:=h',toks:=s.toks+1}:=fun h' st' sb=>by
   have I1:Inv X pins σ H {s with heap:=h',toks:=s.toks+1}:=I.turned (fun b o hb e=>(sb.2 b hb).trans e) f0 f1 f3 f4 f5
   obtain⟨o,e,c,d⟩:=id st'
   refine⟨_,rfl,jw (s:={s with heap:=h',toks:=s.toks+1}) e c d (by rcases hty with rfl|rfl<;>decide) ⟨.str ⟨#[x.cps[i]'hg]⟩,H,I1,⟨_,rfl⟩,⟨rfl,_,hx,rfl⟩,st',fun b hb=>(hf b hb).1⟩⟩
  rcases hty with rfl|rfl
  ·exact wpAny_pyNext_ascii_item st hx fin
  ·exact wpAny_pyNext_wide_item st hx fin
 done:=by
  intro X hP hw hK hc i pins s σ H E I hf st hg
  subst hP hw hK
  obtain⟨f0,f1,f2,f3,f4,f5⟩:=hf it (by simp)
  have hx:x.cps[i]? =none:=Array.getElem?_eq_none hg
  rcases hty with rfl|rfl
  ·exact wpAny_pyNext_ascii_end (I.ok.hd hc) st hx fun h' eb=>⟨rfl,I.turned (t':=s.toks) (fun b o hb e=>eb b o hb e) f0 f1 f3 f4 f5⟩
  ·exact wpAny_pyNext_wide_end (I.ok.hd hc) st hx fun h' eb=>⟨rfl,I.turned (t':=s.toks) (fun b o hb e=>eb b o hb e) f0 f1 f3 f4 f5⟩
 self:=fun A i s Q E st h=>by
  rcases hty with rfl|rfl
  ·exact wpAny_pyIter_striter_ascii st h
  ·exact wpAny_pyIter_striter_wide st h
section
variable {X:Cx}{tg:Expr}
def sL (tl:TE):TI:=fun σ H R=>tl σ H fun v H1=>∃ x,v=.str x/\R (qm x) H1
theorem i6 {l:Expr}{tl:TE}(hl:PE X l tl):PI X tg l (sL tl):=by
 intro pins s σ H R I h
 refine aX (hl pins s σ H _ I h) fun v s1 ⟨x,H1,I1,r1,q1⟩=>?_
 obtain⟨x,rfl,q⟩:=q1
 obtain⟨t,rfl⟩:=r1
 refine wpAny_pyIter_strU ?_
 refine⟨s1.heap.objs.size,[s1.heap.objs.size],_,_,H1,rfl,I1.kept (t':=s1.toks) fun b o e=>Heap.get?_push_of_some _ e,mo (ty:=strIterType x) (x:=x) (t:=t) _ ?_,⟨_,Heap.get?_push_size _ rfl,rfl,rfl⟩,fun b hb=>?_,q⟩
 ·unfold strIterType
  split
  ·exact .inl rfl
  ·exact .inr rfl
 have e:b=s1.heap.objs.size:=by simpa using hb
 subst e
 exact I1.fpOk (Nat.le_refl _) (I1.hok.fresh (Nat.le_refl _))
theorem ic:oV X "str.strip" (fun x vs H Q=>∃ a b:Str,x=.str a/\vs=[.str b]/\a.length<=sizeLine/\Q (.str (Txt.stripChars a b)) H):=by
 intro pins s σ H x vs v us Q I rx rv h
 obtain⟨a,b,rfl,rfl,hz,q⟩:=h
 obtain⟨t,rfl⟩:=rx
 obtain⟨u,rfl,ru⟩:=bQ rv
 obtain⟨t2,rfl⟩:=ru
 exact call_gives F.slot_str_strip (typeIs_str s a t) F.entry_str_strip (F.args_str_strip_2 _ _) (gives_str_strip_chars a b t t2) (post_val_or_made (fun _=>fits_stripped _ _ _ hz) fun t' k=>⟨.str _,H,I.tok _,⟨_,rfl⟩,q⟩)
def mq (x:Str)(n:Int):Str:=⟨(List.replicate n.toNat x.cps).foldl (·++·) #[]⟩
theorem n9:OpR X (binaryOp .Mult) (fun x y H Q=>∃ (a:Str) (n:Int),x=.str a/\y=.int n/\1 < n/\n < 1000/\0 < a.length/\¬ ((a.length:Int) > (2 ^ 63 - 1) / n)/\Builtin.Str.tooLong (a.length*n.toNat)=false/\(mq a n).length<=sizeLine/\Q (.str (mq a n)) H):=by
 intro pins s σ H x y v u Q I rx ry h
 obtain⟨a,n,rfl,rfl,h1,h2,h3,h4,hl,hz,q⟩:=h
 obtain⟨t,rfl⟩:=rx
 obtain⟨t2,rfl⟩:=ry
 refine P.mul_str ?_ (fun _ _=>?_) (fun _ _=>hl) ?_
 ·rw[decide_eq_false (by omega),decide_eq_false (by omega)]
  rfl
 ·exact h4
 ·rw[if_neg (by omega),if_neg (by
   have e1:(n == 1)=false:=by rw[beq_eq_false_iff_ne];omega
   have e2:(a.length == 0)=false:=by rw[beq_eq_false_iff_ne];omega
   rw[e1,e2];decide)]
  exact⟨hz,.str _,H,I.tok _,⟨_,rfl⟩,q⟩
end
end L2
namespace OD
open PySem L2
def qo:PyData->Bool
 |.str _=>true
 |_=>false
def i7:PyData->Bool
 |.list _=>true
 |_=>false
theorem qp:bo "NoneType" "str"=some false/\bo "bool" "str"=some false/\bo "int" "str"=some false/\bo "str" "str"=some true/\bo "list" "str"=some false/\bo "tuple" "str"=some false:=by
 refine⟨?_,?_,?_,?_,?_,?_⟩<;>decide+kernel
theorem n_:bo "NoneType" "list"=some false/\bo "bool" "list"=some false/\bo "int" "list"=some false/\bo "str" "list"=some false/\bo "list" "list"=some true/\bo "tuple" "list"=some false:=by
 refine⟨?_,?_,?_,?_,?_,?_⟩<;>decide+kernel
theorem og {K:PySem.W.Frag}(d:PyData)(h:cS d=false):PySem.W.kitOne K (.type (dX d)) (.type "str")=some (qo d):=by
 obtain⟨h1,h2,h3,h4,h5,h6⟩:=qp
 cases d with
 |none=>exact aw h1
 |bool _=>exact aw h2
 |int _=>exact aw h3
 |str _=>exact aw h4
 |list _=>exact aw h5
 |tuple _=>exact aw h6
 |dict _=>cases h
theorem mr {K:PySem.W.Frag}(d:PyData)(h:cS d=false):PySem.W.kitOne K (.type (dX d)) (.type "list")=some (i7 d):=by
 obtain⟨h1,h2,h3,h4,h5,h6⟩:=n_
 cases d with
 |none=>exact aw h1
 |bool _=>exact aw h2
 |int _=>exact aw h3
 |str _=>exact aw h4
 |list _=>exact aw h5
 |tuple _=>exact aw h6
 |dict _=>cases h
def c_ (most:Int):Int->List PyData->Bool
 |_,[]=>true
 |b,.int i::r=>if b < bI i/\bI i<=most then c_ most (bI i) r else false
 |_,_::_=>false
def de (most:Int):PyData->Bool
 |.tuple ds=>c_ most 0 ds
 |_=>false
theorem kQ {α:Type}{l:List α}{i:Nat}(d:α)(h:i < l.length):l.drop i=l.getD i d::l.drop (i+1):=by
 rw[List.drop_eq_getElem_cons h]
 congr 1
 simp [List.getD,h]
theorem oh {d:PyData}(h:∀ z,d≠.int z):(fo d&&!gA d)=false:=by
 cases d with
 |int z=>exact absurd rfl (h z)
 |_=>rfl
theorem mt {most b:Int}{d:PyData}{r:List PyData}(h:∀ z,d≠.int z):c_ most b (d::r)=false:=by
 cases d with
 |int z=>exact absurd rfl (h z)
 |_=>rfl
theorem ie {most b z:Int}{r:List PyData}:c_ most b (.int z::r)=if b < bI z/\bI z<=most then c_ most (bI z) r else false:=rfl
theorem qq (d:PyData):(∃ z,d=.int z)\/∀ z,d≠.int z:=by
 cases d with
 |int z=>exact .inl ⟨z,rfl⟩
 |_=>exact .inr (fun z h=>by cases h)
theorem i8 {H:Hp}{z:Int}{v:V}(h:RD H (.int z) v):v=.int z:=by
 unfold RD at h
 exact h
theorem fB {H:Hp}{z:Str}{v:V}(h:RD H (.str z) v):v=.str z:=by
 unfold RD at h
 exact h
def kR (c:Nat):Bool:=c == 119 || c == 115
def ee (t:Str):Bool:=t.cps.toList.all kR
def i9:PyData->Bool
 |.str t=>ee t
 |_=>false
def cM:PyData->Bool
 |.tuple [d0,.list es]=>match d0 with
  |.str t=>ee t&&es.all (de t.length)
  |_=>false
 |_=>false
theorem cZ {α:Type}{p:α->Bool}:∀ {l:List α},l.all p=true->l.takeWhile p=l
 |[],_=>rfl
 |a::l,h=>by
  rw[List.all_cons,Bool.and_eq_true] at h
  rw[List.takeWhile_cons,if_pos h.1,cZ h.2]
theorem ck {α:Type}{p:α->Bool}:∀ {l:List α},l.all p=false->(l.takeWhile p).length < l.length
 |[],h=>nomatch h
 |a::l,h=>by
  rw[List.takeWhile_cons]
  cases ha:p a with
  |false=>
   rw[if_neg Bool.false_ne_true]
   exact Nat.succ_pos _
  |true=>
   rw[List.all_cons,ha,Bool.true_and] at h
   rw[if_pos rfl]
   exact Nat.succ_lt_succ (ck h)
theorem b9 {α:Type}{p:α->Bool}:∀ {l:List α},l.all p=false->(l.drop (l.takeWhile p).length).all p=false
 |[],h=>nomatch h
 |a::l,h=>by
  rw[List.takeWhile_cons]
  cases ha:p a with
  |false=>
   rw[if_neg Bool.false_ne_true]
   exact h
  |true=>
   rw[List.all_cons,ha,Bool.true_and] at h
   rw[if_pos rfl]
   exact b9 h
theorem fC (x y:Str):decide (V.str (Txt.stripChars x y)=V.str (Str.ofString ""))=x.cps.toList.all y.cps.contains:=by
 have hx:x.cps.toList.length=x.length:=Array.length_toList
 have he:∀ z:Str,V.str z=V.str (Str.ofString "")↔z.length=0:=fun z=>by
  constructor
  ·intro e
   rw[V.str.inj e]
   decide+kernel
  ·intro e
   have e1:z.cps=#[]:=Array.eq_empty_of_size_eq_zero e
   have e2:(Str.ofString "").cps=#[]:=by decide+kernel
   have e3:z=Str.ofString "":=by
    cases z with
    |mk c=>
     have e4:Str.ofString ""=⟨(Str.ofString "").cps⟩:=rfl
     rw[e4,e2]
     exact congrArg Str.mk e1
   rw[e3]
 show decide (V.str (Txt.stripBy y.cps.contains true true x)=_)=_
 unfold Txt.stripBy
 rw[Bool.eq_iff_iff,decide_eq_true_iff,he]
 cases g:x.cps.toList.all y.cps.contains with
 |true=>
  have lo:stripLo y.cps.contains true x=x.length:=by
   show (x.cps.toList.takeWhile y.cps.contains).length=_
   rw[cZ g,hx]
  have hi:stripHi y.cps.contains true x (stripLo y.cps.contains true x)<=x.length:=Nat.sub_le _ _
  refine⟨fun _=>rfl,fun _=>?_⟩
  split
  ·rename_i hs
   unfold stripSame at hs
   rw[lo,Bool.and_eq_true] at hs
   exact eq_of_beq hs.1
  ·unfold stripped Builtin.Str.strSub
   show (x.cps.extract _ _).size=0
   rw[Array.size_extract,lo]
   have:x.cps.size=x.length:=rfl
   rw[lo] at hi
   omega
 |false=>
  have lo:stripLo y.cps.contains true x < x.length:=by
   rw[← hx]
   exact ck g
  have hi:stripLo y.cps.contains true x < stripHi y.cps.contains true x (stripLo y.cps.contains true x):=by
   show _ < x.length - ((x.cps.toList.drop (stripLo y.cps.contains true x)).reverse.takeWhile y.cps.contains).length
   have z:=b9 g
   have z2:((x.cps.toList.drop (stripLo y.cps.contains true x)).reverse).all y.cps.contains=false:=by
    rw[List.all_reverse]
    exact z
   have z3:=ck z2
   rw[List.length_reverse,List.length_drop,hx] at z3
   omega
  have hi2:stripHi y.cps.contains true x (stripLo y.cps.contains true x)<=x.length:=Nat.sub_le _ _
  refine⟨fun h=>?_,fun h=>nomatch h⟩
  exfalso
  revert h
  split
  ·intro h
   omega
  ·intro h
   have h':(x.cps.extract (stripLo y.cps.contains true x) (stripHi y.cps.contains true x (stripLo y.cps.contains true x))).size=0:=h
   rw[Array.size_extract] at h'
   have:x.cps.size=x.length:=rfl
   omega
theorem qr (x:Str):x.cps.toList.all (Str.ofString "ws").cps.contains=ee x:=by
 unfold ee
 congr 1
 funext c
 have e:(Str.ofString "ws").cps=#[119,115]:=by decide+kernel
 rw[e]
 unfold kR
 rw[Bool.eq_iff_iff]
 simp
theorem qt (c:Nat):nA (.str ⟨#[c]⟩) [.str (Str.ofString "w"),.str (Str.ofString "s")]=kR c:=by
 have e1:Str.ofString "w"=⟨#[119]⟩:=by decide+kernel
 have e2:Str.ofString "s"=⟨#[115]⟩:=by decide+kernel
 have key:∀ a b:Nat,((⟨#[a]⟩:Str) == ⟨#[b]⟩)=(b == a):=fun a b=>by
  rw[Bool.eq_iff_iff,beq_iff_eq,beq_iff_eq]
  constructor
  ·intro z
   have z2:#[a]=#[b]:=congrArg Str.cps z
   have z3:[a]=[b]:=congrArg Array.toList z2
   exact (List.cons.inj z3).1.symm
  ·intro z
   rw[z]
 unfold nA kR
 rw[e1,e2]
 show ((⟨#[119]⟩:Str) == ⟨#[c]⟩ || ((⟨#[115]⟩:Str) == ⟨#[c]⟩ || false))=_
 rw[key,key,Bool.or_false]
theorem gE {α:Type}(l:List α)(f:α->Bool):(l.map fun x=>V.bl (f x)).all lT=true/\(l.map fun x=>V.bl (f x)).all dw=l.all f:=by
 constructor
 ·rw[List.all_map]
  exact List.all_eq_true.mpr fun _ _=>rfl
 ·rw[List.all_map]
  rfl
section
variable {D:Addr}{tt:TT}{te:TE}{σ0:St}{H1:Hp}{Q:VK}
end
end OD
namespace OD
open PySem L2
end OD
namespace TB
open PySem PySem.SetTable
end TB
namespace TB
open PySem PySem.SetTable
end TB
namespace TB
open PySem PySem.SetTable
end TB
namespace SW
open PySem PySem.SetTable TB
section
variable {prog:Program}{w:World}{A:Around}{E:Value->Shared->Prop}{s:Shared}
end
end SW
namespace SW
open PySem PySem.SetTable TB
section
variable {prog:Program}{w:World}{A:Around}{E:Value->Shared->Prop}{s:Shared}
end
end SW
namespace SW
open PySem PySem.SetTable TB
namespace Two
variable {α β:Type}{R:α->β->Prop}
end Two
section
variable {prog:Program}{w:World}{A:Around}{E:Value->Shared->Prop}{s:Shared}
end
end SW
namespace SW
open PySem PySem.SetTable TB
section
variable {prog:Program}{w:World}{A:Around}{E:Value->Shared->Prop}{s:Shared}
end
end SW
namespace SW
open PySem PySem.SetTable TB
section
variable {prog:Program}{w:World}{A:Around}{E:Value->Shared->Prop}{s:Shared}
variable {κ:Type}
end
end SW
namespace SW
open PySem PySem.SetTable TB
section
variable {prog:Program}{w:World}{A:Around}{E:Value->Shared->Prop}{κ:Type}
end
end SW
namespace SW
open PySem PySem.SetTable TB
section
variable {prog:Program}{w:World}{A:Around}{E:Value->Shared->Prop}{s:Shared}{κ:Type}
end
end SW
namespace SW
open PySem PySem.SetTable TB
section
variable {prog:Program}{w:World}{A:Around}{E:Value->Shared->Prop}{s:Shared}{κ:Type}
end
end SW
namespace SW
open PySem TB
end SW
namespace L2
open PySem PySem.Spec PyProof.Rows
section
variable {X:Cx}
end
end L2
namespace L2
open PySem PySem.Spec PyProof.Rows
section
variable {X:Cx}
end
end L2
namespace OD
open PySem L2
end OD
namespace L2
open PySem
section
variable {K:PySem.W.Frag}{a b D:Addr}{xs ys:List V}{n:Nat}{g:TG}{tt:TT}{te:TE}{σ0:St}{H1:Hp}{Q:VK}
end
end L2
namespace HT
open PySem PyProof.Rows
section
variable {prog:Program}{w:World}{A:Around}{E:Value->Shared->Prop}{s:Shared}
end
end HT
namespace L2
open PySem PySem.Spec PyProof.Rows
section
variable {X:Cx}
end
end L2
namespace L2
open PySem
theorem kT {e:Expr}{es:List Expr}{env:Env}(h:∀ v p,e≠.Starred v p):starEach (e::es) env=(false,eval e env)::starEach es env:=by
 cases e<;>first|rfl|exact absurd rfl (h _ _)
@[irreducible] def PEi (X:Cx) (e:Expr) (t:TE):Prop:=PE X e t
@[irreducible] def PAi (X:Cx) (es:List Expr) (t:TA):Prop:=PA X es t
section
variable {X:Cx}{e a b:Expr}{es:List Expr}{te ta tb:TE}{t:TA}{pos:Pos}
theorem PEi.mk (h:PE X e te):PEi X e te:=by
 unfold PEi
 exact h
theorem PAi.nil:PAi X [] fO:=by
 unfold PAi
 exact ac
theorem PAi.cons (h:PEi X e te)(g:PAi X es t)(s:∀ v p,e≠.Starred v p):PAi X (e::es) (fc te t):=by
 unfold PEi at h
 unfold PAi at g ⊢
 exact aa h g (kT s)
theorem PEi.lst (h:PAi X es t):PEi X (.List es pos) (pM t):=by
 unfold PAi at h
 unfold PEi
 exact bu h
end
end L2
namespace SW
open PySem TB
end SW
namespace L2
open PySem PySem.Spec PyProof.Rows
section
variable {X:Cx}
end
end L2
namespace KA
open PySem PyProof.Rows
section
variable {prog:Program}{w:World}{A:Around}{E:Value->Shared->Prop}{s:Shared}{h0:Heap}{a kS:Addr}{vs:List Value}{kz:List Int}{keys:Array Value}{e e1:Nat}{P:PySem.Fin->Shared->Prop}
end
end KA
namespace L2
open PySem PySem.Spec PyProof.Rows
section
variable {X:Cx}
end
end L2
namespace KX
open PySem PyProof.Rows
section
variable {prog:Program}{w:World}{A:Around}{R:Result->Shared->Prop}{I:Addr}{fp wr:List Addr}{n:Nat}{P:Nat->Value->Prop}{St:Nat->Heap->Prop}{kw:List (Str×Value)}
end
section
variable {prog:Program}{w:World}{A:Around}{E:Value->Shared->Prop}{s:Shared}
end
end KX
namespace L2
open PySem PySem.Spec PyProof.Rows
section
variable {X:Cx}
end
end L2
namespace OD
open PySem L2
end OD
namespace OD
open PySem L2
end OD
namespace OD
open PySem L2
end OD
namespace OD
open PySem L2
section
variable {K:PySem.W.Frag}{a D:Addr}{xs:List V}{tt:TT}{te:TE}{σ0:St}{H1:Hp}{Q:VK}
end
end OD
namespace OD
open PySem L2
end OD
namespace L2
open PySem PySem.Spec PyProof.Rows
end L2
namespace OD
open PySem L2
end OD
namespace L2
open PySem PySem.Spec PyProof.Rows
section
variable {M:Model}{A:Around}{E:Value->Shared->Prop}{s:Shared}{B:Heap}{env:Env}{outer:List Env}{L e:Addr}{dx:Option Addr}{cls a0:Value}
end
end L2
namespace L2
open PySem PySem.Spec PyProof.Rows
section
variable {P:Program}{w:World}{outer:List Env}{H H':Hp}{s s':Shared}{B h':Heap}{ea:Addr}{dx:Option Addr}{cls a0:Value}
end
section
variable {P:Program}{w:World}{K:PySem.W.Frag}{mg:Str->Option Value}{base:Heap}{N:List Str}{qual:Str}{scope:Scope}{f:Addr}{cd:Value}{A:Around}{outer:List Env}{s:Shared}{H:Hp}{E:XK}
end
end L2
namespace L2
open PySem PySem.Spec PyProof.Rows
section
variable {prog:Program}{w:World}{A:Around}{E:Value->Shared->Prop}{h:Heap}{g:Array GenState}{d:Drawn}{t:Nat}{os:OsState}
variable {nm q:Str}{C N:Addr}{bs bm bmB:List Value}{hdct:Bool}{sn:List Str}{sub:List Value}{ab:Bool}{col:Option Bool}{dd:Option Addr}{k0 k1 k2 k3 k5:Option Value}{B newId initId:String}
end
end L2
namespace L2
open PySem PySem.Spec PyProof.Rows
section
variable {prog:Program}{w:World}{A:Around}{E:Value->Shared->Prop}{h:Heap}{g:Array GenState}{d:Drawn}{t:Nat}{os:OsState}{a dx C:Addr}{o:Obj}{mA:Str->Option Value}{K:PySem.W.Frag}{x:Str}{v:Value}
end
end L2
namespace L2
open PySem PySem.Spec PyProof.Rows
section
variable {X:Cx}{j k:Nat}{C f:Addr}{fd:FuncData}{ps:List Str}{sp:Sp}{x m:Str}{p pos apos:Pos}{o e:Expr}{es:List Expr}{ta:TE}{t:TA}
end
end L2
namespace L2
open PySem PySem.Spec PyProof.Rows
end L2
namespace L2
open PySem PySem.Spec PyProof.Rows
section
variable {M:Model}{A:Around}{E:Value->Shared->Prop}{env:Env}{C N:Addr}{nm q:Str}{bs bm:List Value}{hdct ab:Bool}{sn:List Str}{sub:List Value}{col:Option Bool}{dd:Option Addr}{k0 k1 k2 k3 k5:Option Value}{newId:String}
end
end L2
namespace L2
open PySem
section
variable {K:PySem.W.Frag}{a D:Addr}{xs:List V}{g:TG}{tt:TT}{te:TE}{σ0:St}{H1:Hp}{Q:VK}
end
end L2
namespace L2
open PySem
theorem eQ {X:Cx}{st:Stmt}{rest:List Stmt}{t:TS}{G:TS->Prop}(h:PS X st t)(k:∃ u,PSs X rest u/\G (lw t u)):∃ v,PSs X (st::rest) v/\G v:=by
 obtain⟨u,hu,g⟩:=k
 exact⟨_,ae h hu,g⟩
@[irreducible] def PSi (X:Cx) (st:Stmt) (t:TS):Prop:=PS X st t
@[irreducible] def PSsi (X:Cx) (sts:List Stmt) (t:TS):Prop:=PSs X sts t
section
variable {X:Cx}{e a b:Expr}{te ta tb:TE}{pos:Pos}{st:Stmt}{t u:TS}
theorem fD (h:PSi X st t):PSsi X [st] t:=by
 unfold PSi at h
 unfold PSsi
 exact ag h
theorem i_ {c:Expr}{a b:List Stmt}{tc:TT}(hc:PT X c tc)(ha:PSsi X a t)(hb:PSs X b u):PSi X (.If c a b pos) (kn tc t u):=by
 unfold PSsi at ha
 unfold PSi
 exact aD hc ha hb
theorem oj {tg:Expr}{g:TG}(he:PEi X e te)(hg:PG X tg g)(hs:swapsWithSole [tg] e pos.line X.env=pure false:=by rfl)(hw:swappedStores [tg] e X.env=pure none:=by rfl)
  (h1:(assignEach [tg] X.env).map (·.2)=[assign tg X.env]:=by rfl):PSi X (.Assign [tg] e pos) (iK te g):=by
 unfold PEi at he
 unfold PSi
 exact dJ he hg hs hw h1
theorem fE {rest:List Stmt}{G:TS->Prop}(h:PSi X st t)(k:∃ u,PSs X rest u/\G (lw t u)):∃ v,PSs X (st::rest) v/\G v:=by
 unfold PSi at h
 exact eQ h k
end
end L2
namespace HD
open PySem PySem.W PySem.Calls PyProof.Rows
noncomputable def kU (sp:SharedT->Thread->Option (SharedT×Thread))(ok th:Thread->Bool)(n:Nat):SharedT->Thread->Option SharedT:=
 @Nat.rec (fun _=>SharedT->Thread->Option SharedT) (fun _ _=>none)
  (fun _ ih s t=>@Bool.rec (fun _=>Option SharedT)
   (@Bool.rec (fun _=>Option SharedT) none
    (@Option.rec (SharedT×Thread) (fun _=>Option SharedT) none
     (fun r=>@Prod.rec SharedT Thread (fun _=>Option SharedT) (fun s' t'=>@Bool.rec (fun _=>Option SharedT) none (ih s' t') (Nat.ble s'.toks 1000000000)) r) (sp s t)) (ok t))
   (some s) (th t)) n
theorem jP {tb:String->Option Builtin}{p:Program}{w:World}{n₀:Nat}{ann:Option Value}:∀ (n:Nat) (s s':SharedT) (t:Thread),
  kU (stepT (denote tb) p w) (stepOk n₀ ann) through n s t=some s'->topRun tb p w n₀ ann n s.abs t=some s'.abs
 |0,s,s',t,h=>by cases h
 |n+1,s,s',t,h=>by
  have h:@Bool.rec (fun _=>Option SharedT)
   (@Bool.rec (fun _=>Option SharedT) none
    (@Option.rec (SharedT×Thread) (fun _=>Option SharedT) none
     (fun r=>@Prod.rec SharedT Thread (fun _=>Option SharedT) (fun s' t'=>@Bool.rec (fun _=>Option SharedT) none (kU (stepT (denote tb) p w) (stepOk n₀ ann) through n s' t') (Nat.ble s'.toks 1000000000)) r) (stepT (denote tb) p w s t)) (stepOk n₀ ann t))
   (some s) (through t)=some s':=h
  unfold topRun
  cases ht:through t with
  |true=>rw[ht] at h;cases h;rfl
  |false=>
   rw[ht] at h
   cases hk:stepOk n₀ ann t with
   |false=>rw[hk] at h;cases h
   |true=>
    rw[hk] at h
    cases hs:stepT (denote tb) p w s t with
    |none=>rw[hs] at h;cases h
    |some r=>
     obtain⟨s₂,t₂⟩:=r
     rw[hs] at h
     replace h:@Bool.rec (fun _=>Option SharedT) none (kU (stepT (denote tb) p w) (stepOk n₀ ann) through n s₂ t₂) (Nat.ble s₂.toks 1000000000)=some s':=h
     rw[stepT_spec hs]
     cases hb:Nat.ble s₂.toks 1000000000 with
     |false=>rw[hb] at h;cases h
     |true=>rw[hb] at h;exact jP n _ _ _ h
noncomputable def gF (l:List Obj):BT->Nat->Option (BT×Nat):=
 @List.rec Obj (fun _=>BT->Nat->Option (BT×Nat)) (fun T n=>some (T,n))
  (fun o _ ih T n=>@Bool.rec (fun _=>Option (BT×Nat)) none (ih (T.ins n o) (n+1)) (((T.ins n o).get n).isSome)) l
theorem gg {life:Life}:∀ (l:List Obj) (T T':BT) (n n':Nat),gF l T n=some (T',n')->absHeap T' n' life=⟨(absHeap T n life).objs++l.toArray,life⟩
 |[],T,T',n,n',h=>by
  cases h
  show absHeap T n life=Heap.mk ((absHeap T n life).objs++#[]) life
  rw[Array.append_empty]
  rfl
 |o::l,T,T',n,n',h=>by
  replace h:@Bool.rec (fun _=>Option (BT×Nat)) none (gF l (T.ins n o) (n+1)) (((T.ins n o).get n).isSome)=some (T',n'):=h
  cases hb:((T.ins n o).get n).isSome with
  |false=>rw[hb] at h;cases h
  |true=>
   rw[hb] at h
   rw[gg l _ _ _ _ h,absHeap_ins hb]
   show Heap.mk ((absHeap T n life).objs.push o++l.toArray) life=_
   congr 1
   apply Array.ext'
   simp
noncomputable def look {β:Type}(sp:SharedT->Thread->Option (SharedT×Thread))(ok th:Thread->Bool)(M:Nat)(os:OsState)(P:Params)(st:Thread)(F:Shared->β):Option β:=
 @Option.rec (BT×Nat) (fun _=>Option β) none
  (fun r=>@Prod.rec BT Nat (fun _=>Option β) (fun T n=>@Option.rec SharedT (fun _=>Option β) none (fun s=>some (F s.abs)) (kU sp ok th M ⟨T,n,(boot_heap P).life,Array.mk [],boot_drawn,boot_toks,os⟩ st)) r)
  (gF (boot_heap P).objs.toList .nil 0)
theorem oo {β:Type}{tb:String->Option Builtin}{p:Program}{w:World}{n₀:Nat}{ann:Option Value}{M:Nat}{os:OsState}{F:Shared->β}{b:β}
  (h:look (stepT (denote tb) p w) (stepOk n₀ ann) through M os w.params (topStub p) F=some b):
  ∃ s,topRun tb p w n₀ ann M ⟨boot_heap w.params,Array.mk [],boot_drawn,boot_toks,os⟩ (topStub p)=some s/\F s=b:=by
 unfold look at h
 cases hi:gF (boot_heap w.params).objs.toList .nil 0 with
 |none=>rw[hi] at h;cases h
 |some r=>
  obtain⟨T,n⟩:=r
  rw[hi] at h
  replace h:@Option.rec SharedT (fun _=>Option β) none (fun s=>some (F s.abs)) (kU (stepT (denote tb) p w) (stepOk n₀ ann) through M ⟨T,n,(boot_heap w.params).life,Array.mk [],boot_drawn,boot_toks,os⟩ (topStub p))=some b:=h
  cases hr:kU (stepT (denote tb) p w) (stepOk n₀ ann) through M ⟨T,n,(boot_heap w.params).life,Array.mk [],boot_drawn,boot_toks,os⟩ (topStub p) with
  |none=>rw[hr] at h;cases h
  |some s=>
   rw[hr] at h
   have e:=gg (life:=(boot_heap w.params).life) _ _ _ _ _ hi
   have e0:(absHeap .nil 0 (boot_heap w.params).life).objs=#[]:=rfl
   rw[e0] at e
   have e1:absHeap T n (boot_heap w.params).life=boot_heap w.params:=by
    rw[e]
    show Heap.mk (#[]++(boot_heap w.params).objs.toList.toArray) _=_
    rw[Array.empty_append]
   have hr':=jP _ _ _ _ hr
   refine⟨s.abs,?_,Option.some.inj h⟩
   rw[← hr']
   show _=topRun tb p w n₀ ann M ⟨absHeap T n (boot_heap w.params).life,Array.mk [],boot_drawn,boot_toks,os⟩ (topStub p)
   rw[e1]
noncomputable def seenAt (p q:Program)(loose:List Str)(Xt:Shared->Bool)(g0:Bool)(w:World)(s:Shared):=((staticsOk (Fast.tw5923862056798008813 p.main.body) (boot_heap w.params) s.heap&&namesBound p s.heap&&gensDone s&&laidKept (boot_heap w.params) s.heap),Fast.tw4187177175401517315 q loose (Fast.tw5923862056798008813 p.main.body) Xt g0 s)
noncomputable def lookAt {β:Type}(p:Program)(m₀:Nat)(ann:Option Value)(M:Nat)(w:World)(os:OsState)(F:Shared->β):Option β:=
 look (Fast.tw10156331382660048174 (Fast.tw11892475500146522536 Fast.tw14364793385576792824) p w) (Fast.tw6613529449190102663 m₀ ann) through M os w.params (topStub p) F
theorem gh {β:Type}{p:Program}{m₀:Nat}{ann:Option Value}{M:Nat}{w:World}{os:OsState}{F:Shared->β}{b:β}(h:lookAt p m₀ ann M w os F=some b):
  ∃ s,topRun treeTable p w m₀ ann M ⟨boot_heap w.params,Array.mk [],boot_drawn,boot_toks,os⟩ (topStub p)=some s/\F s=b:=by
 unfold lookAt at h
 rw[← Fast.te10156331382660048174,← Fast.te11892475500146522536,← Fast.te14364793385576792824,← Fast.te6613529449190102663] at h
 exact oo h
theorem left {p q:Program}{loose:List Str}{Xt:Shared->Bool}{α:Type}{Yf:Shared->α}{Ya:World->α}{N:Nat}{g0:Bool}{m₀:Nat}{ann:Option Value}{M:Nat}
  (e:opening p=plainProg p.main.scope.names) (f:∀ s,fenceModules? p s=some s) (hN:Nat.ble 600 N=true) (le:Nat.ble M N=true)
  (size:∀ w:World,((boot_heap w.params).isNs mainGlobals&&(Array.mk []:Array GenState).size == 0,(boot_heap w.params).objs.size,(boot_heap w.params).nsMap mainGlobals "__annotations__")=(true,m₀,ann))
  (h1:∀ (w:World) (os:OsState),lookAt p m₀ ann M w os (seenAt p q loose Xt g0 w)=some (true,openGood q loose)) (h2:∀ (w:World) (os:OsState),lookAt p m₀ ann M w os Yf=some (Ya w)):
  LeftO p q loose Xt Yf Ya N g0:=fun w=>by
 obtain⟨⟨h0,gs,d,k,os⟩,a,b⟩:=Option.map_eq_some_iff.mp (boot_open e hN f w)
 obtain⟨rfl,rfl,rfl,rfl⟩:h0=boot_heap w.params/\gs=Array.mk []/\d=boot_drawn/\k=boot_toks:=by simpa using b
 obtain⟨z1,z2,z3⟩:_/\_/\_:=by simpa only [Prod.mk.injEq] using size w
 obtain⟨s,r,l⟩:=gh (h1 w os)
 obtain⟨s',r',l3⟩:=gh (h2 w os)
 rw[r] at r'
 cases r'
 unfold seenAt at l
 rw[← Fast.te5923862056798008813,← Fast.te4187177175401517315] at l
 obtain⟨l1,l2⟩:_/\_:=by simpa only [Prod.mk.injEq] using l
 have r:=topRun_mono (N - M) _ _ _ _ r
 rw[show M+(N - M)=N by have:=Nat.le_of_ble_eq_true le;omega] at r
 have t:topFrom treeTable p w N ⟨boot_heap w.params,Array.mk [],boot_drawn,boot_toks,os⟩=some s:=by
  unfold topFrom
  dsimp only
  rw[z1,z2,z3,r]
  show (match staticsOk (importedModules p.main.body) (boot_heap w.params) s.heap&&namesBound p s.heap&&gensDone s&&laidKept (boot_heap w.params) s.heap with|true=>_|false=>_)=_
  rw[l1]
 unfold openEnds
 rw[a]
 show (topFrom treeTable p w N _).map _=_
 rw[t]
 exact congrArg some (Prod.ext l2 l3)
theorem head {r:OpenRow}{q:Program}{loose:List Str}{lv:List (Str×WData)}(H:Hook){d:DefRec}{kwd:List (Str×Expr)}{N:Nat}
  (lf:LeftO r.prog q loose (fun s=>xlAt q lv s&&recOk r.records s) H.obs H.val N) (hdef:defOf q r.name=some (d,kwd)) (hp:r.prog.theDef r.name=some (d.params,d.body,d.scope)) (hk:kwWritten? d.params.kwonlyargs d.params.kw_defaults=some kwd)
  (hwr:(!r.writes || r.records.isEmpty)=true) (k1:r.wellSaid=true) (ok:(chainsOk q&&opensWell r.prog&&(frees r.toRowW&&r.within.isEmpty))=true) (hb:r.prog.bare) (hw:r.toRowW.promised)
  (hc:WalkO q loose (XL q lv) H.says r.toRowW d kwd fun f vs=>PySem.call f vs):r.Holds:=
 holds_open lf H.of H.keeps (fun s e=>xl_of s (Bool.and_eq_true_iff.mp e).1) XL.keeps hdef hp hk (fun s e=>recFacts_of (Bool.and_eq_true_iff.mp e).2) hwr k1 ok hb hw hc
end HD
namespace L2
open PySem PySem.Spec PyProof.Rows
section
variable {prog:Program}{w:World}{A:Around}{E:Value->Shared->Prop}{h:Heap}{g:Array GenState}{d:Drawn}{t:Nat}{os:OsState}{x C:Addr}{K:PySem.W.Frag}{f:Str}{v:Value}{vs:Array Value}
end
end L2
namespace L2
open PySem PySem.Spec PyProof.Rows
section
variable {X:Cx}{o e:Expr}{es:List Expr}{ta:TE}{t:TA}{apos pos:Pos}{D:Addr}
end
section
variable {X:Cx}{e:Expr}{te:TE}{p1 p2 p3 pos:Pos}{a b:Str}{j k:Nat}
end
section
variable {X:Cx}{o value:Expr}{f:Str}{pos pos':Pos}{ta tv:TE}
end
section
variable {P:Program}{w:World}{K:PySem.W.Frag}{mg:Str->Option Value}{base:Heap}{N:List Str}{qual:Str}{scope:Scope}{f:Addr}{cd:Value}{A:Around}{outer:List Env}{s:Shared}{H:Hp}{E:XK}
end
end L2
namespace L2
open PySem PySem.Spec PyProof.Rows
section
variable {X:Cx}{pins:List (Addr×Obj)}{σ:St}{H:Hp}{s:Shared}{h':Heap}
end
section
variable {P:Program}{w:World}{K:PySem.W.Frag}{mg:Str->Option Value}{base:Heap}{N:List Str}{qual:Str}{scope:Scope}{f:Addr}{cd:Value}{A:Around}{outer:List Env}{s:Shared}{H:Hp}{E:XK}
end
end L2
namespace L2
open PySem PySem.Spec PyProof.Rows
section
variable {P:Program}{w:World}{K:PySem.W.Frag}{mg:Str->Option Value}{base:Heap}{N:List Str}{qual:Str}{scope:Scope}{f:Addr}{cd:Value}{A:Around}{outer:List Env}{s:Shared}{H:Hp}{E:XK}
end
section
variable {X:Cx}{j k:Nat}{f:Addr}{fd:FuncData}{ps:List Str}{sp:Sp}{x:Str}{p pos:Pos}{e:Expr}{es:List Expr}{t:TA}
end
section
variable {P:Program}{w:World}{outer:List Env}{H H':Hp}{s s':Shared}{B h':Heap}{ea C d:Addr}{dx:Option Addr}{cls a0:Value}
end
section
variable {X:Cx}
end
section
variable {X:Cx}{e:Expr}{f:Str}{pos:Pos}{ta:TE}
end
end L2
namespace L2
open PySem PySem.Spec PyProof.Rows
section
variable {K:PySem.W.Frag}{x qual:Str}{st:Stmt}{f:Addr}{fd:FuncData}{p q r s t:Str}
theorem eg {P:List Value->Prop}{n:Nat}(h:∀ (x:Value) (us:List Value),us.length=n->P (x::us))(us:List Value)(e:us.length=n+1):P us:=by
 obtain⟨x,r,rfl⟩:=List.exists_cons_of_length_eq_add_one e
 exact h x r (Nat.succ.inj e)
theorem ja {P:List Value->Prop}(h:P [])(us:List Value)(e:us.length=0):P us:=by
 rw[List.length_eq_zero_iff.mp e]
 exact h
theorem Fun.b1 (F:Fun K x qual st f fd)(h:∀ kV doc pm an cdv ct u,bindArgs (PySem.W.fnOf x qual (cg st) (bO st) (al st) .none kV doc pm an cdv ct) ⟨[u],[]⟩=pure [(p,u)]:=by intros;rfl):Binds K fd [p] []:=
 F.binds fun a b c d e f=>eg fun u=>ja (h a b c d e f u)
theorem Fun.b2 (F:Fun K x qual st f fd)(h:∀ kV doc pm an cdv ct u v,bindArgs (PySem.W.fnOf x qual (cg st) (bO st) (al st) .none kV doc pm an cdv ct) ⟨[u,v],[]⟩=pure [(p,u),(q,v)]:=by intros;rfl):Binds K fd [p,q] []:=
 F.binds fun a b c d e f=>eg fun u=>eg fun v=>ja (h a b c d e f u v)
theorem Fun.b3 (F:Fun K x qual st f fd)(h:∀ kV doc pm an cdv ct u v w,bindArgs (PySem.W.fnOf x qual (cg st) (bO st) (al st) .none kV doc pm an cdv ct) ⟨[u,v,w],[]⟩=pure [(p,u),(q,v),(r,w)]:=by intros;rfl):Binds K fd [p,q,r] []:=
 F.binds fun a b c d e f=>eg fun u=>eg fun v=>eg fun w=>ja (h a b c d e f u v w)
variable {h:Heap}{mg:Str->Option Value}{k:Nat}{ps:List Str}{sp:Sp}
theorem fF (P:Program)(w:World)(base:Heap)(X:K.In h)(G:h.Ns mainGlobals mg)(a:PySem.W.nsIn K mainGlobals x=some (some (.ref f)))(F:Fun K x qual st f fd)(b:Binds K fd ps [])(ok:aU P w K mg base cX k f fd ps sp):Fn P w K mg base k x f fd ps sp:=⟨ok,b,F.kp,PySem.W.mg_of X G a⟩
theorem mv (P:Program)(w:World)(base:Heap)(X:K.In h)(G:h.Ns mainGlobals mg)(a:PySem.W.nsIn K mainGlobals x=some (some (.ref f)))(F:Fun K x qual st f fd)(b:Binds K fd ps [])(ok:aU P w K mg base (cb P w) k f fd ps sp):nZ P w K mg base k x f fd ps sp:=⟨ok,b,F.kp,PySem.W.mg_of X G a⟩
end
end L2
namespace L2
open PySem PySem.Spec PyProof.Rows
end L2
namespace L2
open PySem PySem.Spec PyProof.Rows
def Cx.wx (X:Cx)(xe:Value->Shared->Prop):Cx:={X with xe:=xe}
section
variable {X:Cx}{xe:Value->Shared->Prop}{pins:List (Addr×Obj)}{σ:St}{H:Hp}{s:Shared}
theorem Inv.wx (I:Inv X pins σ H s):Inv (X.wx xe) pins σ H s:=
 ⟨⟨I.ok.mod,I.ok.kind,I.ok.glob,I.ok.blt,I.ok.above,I.ok.inj,I.ok.has,I.ok.cab,I.ok.hd,I.ok.frames,I.ok.stk,I.ok.exf,I.ok.bs,I.ok.bsz,I.ok.noex,I.ok.exfs,I.ok.funs,I.ok.frf⟩,I.os,I.bare,I.base,I.loc,I.cell,I.free,I.freeC,I.pin,I.hok,I.len⟩
theorem Inv.unwx (I:Inv (X.wx xe) pins σ H s):Inv X pins σ H s:=
 ⟨⟨I.ok.mod,I.ok.kind,I.ok.glob,I.ok.blt,I.ok.above,I.ok.inj,I.ok.has,I.ok.cab,I.ok.hd,I.ok.frames,I.ok.stk,I.ok.exf,I.ok.bs,I.ok.bsz,I.ok.noex,I.ok.exfs,I.ok.funs,I.ok.frf⟩,I.os,I.bare,I.base,I.loc,I.cell,I.free,I.freeC,I.pin,I.hok,I.len⟩
end
section
variable {M:Model}{A:Around}{E:Value->Shared->Prop}{s:Shared}
theorem jb {B:Heap}{env:Env}{outer:List Env}{L e:Addr}{cls a0 fl:Value}{Q:Unit->Shared->Prop}(hfr:A.frames=some (env::outer))(hf:env.frame=some L)(st:B.StaysIn s.heap)(en:B.get? e=none)(ff:s.heap.FunFrames B (env::outer))(tr:s.heap.TracedAtW B e cls a0 fl)
  (hQ:∀ h',Heap.FlyingW B outer e cls a0 h'->s.heap.UpToSlots h'->Q () {s with heap:=h'}):wpAny M A (leaving env (.ref e)) Q E s:=by
 unfold leaving
 have fin:∀ h1,Heap.NotedW B (env::outer) e cls a0 (rawInt L) s.heap h1->wpAny M A (setFlight (.ref e) none) Q E {s with heap:=h1}:=fun h1 ⟨n1,n2,n3,n4⟩=>
  wpAny_landsW (s:={s with heap:=h1}) (L:=L) ⟨n1,en,n2,n3⟩ fun h2 f2 u2=>by
   obtain⟨g1,g2,⟨_,_,g3⟩,g4⟩:=f2
   exact hQ h2 ⟨g1,g2,g3,g4⟩ (Heap.UpToSlots.trans n4 u2)
 by_cases hz:fl=rawInt L
 ·subst hz
  exact wpAny_bind (wpAny_noteFrame_againW hf tr (fin _ ⟨st,ff,tr,fun b o q _=>⟨o.slots,q⟩⟩))
 refine wpAny_bind ?_
 obtain⟨oe,vs,T,oT,ts,e1,⟨e2,e3⟩,e4,e5,e6,e7,e8,e9,e10⟩:=tr
 subst e2
 unfold noteFrame
 simp only [hf]
 refine wpAny_bind (wpAny_field e1 e4 e5 ?_)
 rw[if_pos (by simp:(Value.ref T != Value.none)=true)]
 refine wpAny_bind (wpAny_field e8 e9 e10 ?_)
 rw[if_neg (fun q=>hz (eq_of_beq q))]
 refine wpAny_bind (wpAny_setField e8 e9 (Array.getElem?_eq_some_iff.mp e10).1 ?_)
 have ot:∀ b,b≠T->(s.heap.update T (Obj.mapFields (·.setIfInBounds 3 Value.none))).get? b=s.heap.get? b:=fun b hb=>Heap.get?_update_other _ _ (Ne.symm hb)
 have nr:∀ b o,s.heap.get? b=some o->(∀ vs,o.data≠.fields vs)->b≠T:=fun b o q nf z=>by
  rw[z,e8] at q
  cases q
  exact nf ts e9
 refine wpAny_entryW hfr (ff.of_keeps fun b o q nf=>⟨o,(ot b (nr b o q nf)).trans q,rfl⟩) hf ((ot e (Ne.symm e7)).trans e1) (fun b o q=>(ot b fun z=>by rw[z,e6] at q;cases q).trans (st b o q)) en e4 (Array.getElem?_eq_some_iff.mp e5).1 e3
  fun h1 ⟨n1,n2,n3,n4⟩=>fin h1 ⟨n1,n2,n3,fun b o q nf=>n4 b o ((ot b (nr b o q nf)).trans q) nf⟩
end
theorem fG {h h' B B':Heap}{C:Addr}(st:B'.StaysIn B)(hs:Heap.SameBut C h h'):∀ {l:List Env},(∀ env∈l,env.frame≠some C)->h.FunFrames B l->h'.FunFrames B' l
 |[],_,_=>trivial
 |env::_,hC,⟨k,⟨L,o,hf,hn,ho,hd⟩,r⟩=>⟨k,⟨L,o,hf,PySem.W.fresh_of_stays st hn,(hs.2 L fun z=>hC env (.head _) (by rw[← z];exact hf)).trans ho,hd⟩,fG st hs (fun e he=>hC e (.tail _ he)) r⟩
section
variable {prog:Program}{w:World}{A:Around}{R:Result->Shared->Prop}{s:Shared}
theorem jc {elt target iter:Expr}{ifs:List Expr}{scope:Scope}{pos:Pos}{it acc:Value}{env:Env}(EX:Value->Shared->Prop)(I:Nat->Shared->Prop)
  (turn:∀ n s,I n s->wpAny (model prog w) A (pyNext it) (fun r s₁=>match r with
   |none=>R (.ok .next) s₁
   |some v=>wpAny (model prog w) A (letOwnedTupleGo target it v) (fun _ s₀=>wpAny (model prog w) A (assign target env v) (fun _ s₂=>
     wpAny (model prog w) A (forIn ifs true fun c r=>if r=true then do let ok ← isTrue c env (eval c env);pure (ForInStep.yield ok) else pure (ForInStep.yield r)) (fun ok s₃=>
      if ok=true then wpAny (model prog w) A (eval elt env) (fun x s₄=>
       wpAny (model prog w) A (call (.builtin "list.append") [acc,x]) (fun _ s₅=>∃ m,m < n/\I m s₅) EX s₄) EX s₃
      else ∃ m,m < n/\I m s₃) EX s₂) EX s₀) EX s₁) EX s)
  (hx:∀ e s,EX e s->notedBy (model prog w) A env (fun e' s'=>R (.error e') s') e s)
  (n:Nat) (h:I n s):
  codeAny (model prog w) A (.compLoop (.ListComp elt [⟨target,iter,ifs,0⟩] scope pos) 0 it acc env) R s:=by
 refine codeAny_loop rfl I (fun n s hI=>?_) n h
 show wpAny _ A ((compTurn (.ListComp elt [⟨target,iter,ifs,0⟩] scope pos) 0 it acc env).onRaise (fun x=>do noteFrame x env;theTreesLotGoes x)) _ _ s
 refine wpAny_noted (wpAny_mono (Q:=fun f s'=>(f=.done .next/\R (.ok .next) s')\/(f=.again (.compLoop (.ListComp elt [⟨target,iter,ifs,0⟩] scope pos) 0 it acc env)/\∃ m,m < n/\I m s')) (E:=EX) ?_ (fun f s' q=>?_) hx)
 ·rw[compTurn_list]
  refine wpAny_bind (wpAny_standAt (wpAny_bind (wpAny_mono (turn n s hI) (fun r s₁ h₁=>?_) fun _ _ q=>q)))
  cases r with
  |none=>exact wpAny_pure (.inl ⟨rfl,h₁⟩)
  |some v=>
   refine wpAny_bind (wpAny_mono h₁ (fun _ s₀ h₀=>?_) fun _ _ q=>q)
   refine wpAny_bind (wpAny_mono h₀ (fun _ s₂ h₂=>wpAny_bind (wpAny_mono h₂ (fun ok s₃ h₃=>?_) fun _ _ q=>q)) fun _ _ q=>q)
   cases ok with
   |false=>exact wpAny_pure (.inr ⟨rfl,h₃⟩)
   |true=>exact wpAny_bind (wpAny_bind (wpAny_mono h₃ (fun x s₄ h₄=>wpAny_bind (wpAny_mono h₄ (fun _ s₅ h₅=>wpAny_pure (wpAny_pure (.inr ⟨rfl,h₅⟩))) fun _ _ q=>q)) fun _ _ q=>q))
 ·rcases q with⟨rfl,q⟩|⟨rfl,q⟩
  ·exact q
  ·exact⟨rfl,q⟩
end
def XC (Y:Cx)(E:XK):Value->Shared->Prop:=fun e s'=>∃ pins σ H s,Inv Y pins σ H s/\cb Y.prog Y.w Y.stack H s E e s'
abbrev bh (X:Cx)(E:XK)(scope:Scope)(cl:List (Str×Addr))(NY:List Str)(C:Addr)(fp:List Addr)(s₀:Shared)(H₀:Hp):Cx:=(ba X scope cl NY C fp s₀ H₀).wx (XC (ba X scope cl NY C fp s₀ H₀) E)
theorem rN {Y:Cx}{E:XK}:fe (cb Y.prog Y.w) (Y.wx (XC Y E)) E:=fun pins σ H s e s' I h=>⟨pins,σ,H,s,I.unwx,h⟩
section
variable {X:Cx}{scope:Scope}{cl:List (Str×Addr)}{NY:List Str}{idx:List (Option Nat)}{elt iter target:Expr}{ifs:List Expr}{pos:Pos}{wi:TI}{g:TG}{tt:TT}{te:TE}{E:XK}
theorem kW {pins:List (Addr×Obj)}{σ:St}{H:Hp}{s:Shared}{Q:VK}{RR:Value->Addr->Result->Shared->Prop}(hcalm:X.calm=true)(S:CompSc X scope cl NY idx)(hi:PI X target iter wi)
  (hg:∀ C fp s₀ H₀,PG (bh X E scope cl NY C fp s₀ H₀) target g) (ht:∀ C fp s₀ H₀,oZ (bh X E scope cl NY C fp s₀ H₀) ifs tt) (he:∀ C fp s₀ H₀,PE (bh X E scope cl NY C fp s₀ H₀) elt te)
  (I:Inv X pins σ H s) (h:g_ idx wi g tt te σ H Q)
  (hRR:∀ D C H' s',CompEnd X pins σ H' C s'->Q (.ref D) H'->RR (.ref D) C (.ok .next) s')
  (hXX:∀ D C H' s' e s'',CompEnd X pins σ H' C s'->C∉cu X.stack->cb X.prog X.w X.stack H' s' E e s''->notedBy (model X.prog X.w) X.A X.env (fun e' s2=>RR (.ref D) C (.error e') s2) e s''):
  wpAny (model X.prog X.w) X.A (eval iter X.env) (fun x s₁=>wpAny (model X.prog X.w) X.A (pyIter x) (fun it s₂=>wpAny (model X.prog X.w) X.A (newList []) (fun acc s₃=>
   wpAny (model X.prog X.w) X.A (newFunctionEnv scope X.env.globals cl [] X.env.qual none .none (some X.env)) (fun cenv s₄=>
    codeAny (model X.prog X.w) X.A (.compStart (.ListComp elt [⟨target,iter,ifs,0⟩] scope pos) 0 it acc {cenv with scope:=relabel scope X.env}) (RR acc cenv.locals) s₄) X.xe s₃) X.xe s₂) X.xe s₁) X.xe s:=by
 refine aX (hi pins s σ H _ I h) fun v s1 h1=>aX h1 fun itv s2 h2=>?_
 obtain⟨it,fp,tn,J,H2,e,I2,T,st2,f2,r2⟩:=h2
 subst e
 have hD:H2 s2.heap.objs.size=none:=I2.hok.fresh (Nat.le_refl _)
 have r3:=r2 s2.heap.objs.size hD
 have I3:Inv X pins σ (upd H2 s2.heap.objs.size (.lst [])) {s2 with heap:=s2.heap.push {cls:=.type "list",data:=.seq ([]:List Value).toArray}}:=
  I2.laid (t':=s2.toks) (fun b u q=>Heap.get?_push_of_some _ q) (Nat.le_refl _) ⟨Nat.zero_le _,[],0,.nil,Heap.get?_push_size _ rfl⟩
 refine wpAny_newObj_type (cY fun h₁ hns hsb hcs=>?_)
 dsimp only at hns hsb hcs ⊢
 have hfl0:∀ b∈fp,b < s2.heap.objs.size:=fun b hb=>by
  obtain⟨o,q,_⟩:=T.obj 0 _ st2 b hb
  exact Heap.lt_size q
 have neD:∀ b∈fp,b≠s2.heap.objs.size:=fun b hb=>Nat.ne_of_lt (hfl0 b hb)
 have f3:∀ b∈fp,eZ X pins (upd H2 s2.heap.objs.size (.lst [])) b:=fun b hb=>⟨by rw[av (neD b hb)];exact (f2 b hb).1,(f2 b hb).2⟩
 generalize hs3:({s2 with heap:=s2.heap.push {cls:=.type "list",data:=.seq ([]:List Value).toArray}}:Shared)=s3 at I3
 have es3:s3.heap=s2.heap.push {cls:=.type "list",data:=.seq ([]:List Value).toArray}:=by rw[← hs3]
 have hfl:∀ b∈fp,b < s3.heap.objs.size:=fun b hb=>by
  rw[es3,Heap.size_push]
  exact Nat.lt_succ_of_lt (hfl0 b hb)
 have hns':h₁.Ns s3.heap.objs.size (fun _=>none):=by rw[es3];exact hns
 have old:∀ b o,s3.heap.get? b=some o->h₁.get? b=some o:=fun b o q=>by
  rw[es3] at q
  exact hsb b o q
 have hcs':CellsOk h₁ (s3.heap.objs.size+1) (cellsFrom (s3.heap.objs.size+1) scope.names []):=by rw[es3];exact hcs
 have st3:tn 0 h₁:=T.keep _ _ _ st2 fun b hb o q=>old b o (by rw[es3];exact Heap.get?_push_of_some _ q)
 have IY0:=g9 (tk:=s2.toks) S I3 f3 hfl hns' old hcs'
 have e4:({s3 with heap:=h₁,toks:=s2.toks}:Shared)={s2 with heap:=h₁,toks:=s2.toks}:=by rw[← hs3]
 rw[e4] at IY0
 have eC:s3.heap.objs.size=(s2.heap.push {cls:=.type "list",data:=.seq ([]:List Value).toArray}).objs.size:=by rw[es3]
 have hC3:s3.heap.get? s3.heap.objs.size=none:=Heap.get?_none_of_le (Nat.le_refl _)
 have hCs:s3.heap.objs.size∉cu X.stack:=fun hm=>by
  obtain⟨_,o,q,_⟩:=I3.stack.mem hm
  rw[hC3] at q
  cases q
 obtain⟨W,⟨m0,w0⟩,turn⟩:=r3
 generalize hY:ba X scope cl NY s3.heap.objs.size fp s3 (upd H2 s2.heap.objs.size (.lst []))=Y at IY0
 have hg':PG (Y.wx (XC Y E)) target g:=by rw[← hY];exact hg _ _ _ _
 have ht':oZ (Y.wx (XC Y E)) ifs tt:=by rw[← hY];exact ht _ _ _ _
 have he':PE (Y.wx (XC Y E)) elt te:=by rw[← hY];exact he _ _ _ _
 have eE:Y.env=compEnvC scope (cellsFrom (s3.heap.objs.size+1) scope.names cl) s3.heap.objs.size X.env:=by rw[← hY];rfl
 have eP:Y.prog=X.prog:=by rw[← hY];rfl
 have eW:Y.w=X.w:=by rw[← hY];rfl
 have eA:Y.A=X.A:=by rw[← hY];rfl
 have eK:Y.K=X.K:=by rw[← hY];rfl
 have eL:Y.env.locals=s3.heap.objs.size:=by rw[← hY];rfl
 have eS:Y.stack=X.stack:=by rw[← hY];rfl
 have hcY:Y.calm=true:=by rw[← hY];exact hcalm
 have eex:Y.ex=fp:=by rw[← hY];rfl
 have efs:Y.fs=cu X.stack:=by rw[← hY];rfl
 have epn:Y.pn=[]:=by rw[← hY];rfl
 have endAt:∀ {pins':List (Addr×Obj)} {σ':St} {H5:Hp} {s6:Shared},Inv Y pins' σ' H5 s6->CompEnd X pins σ H5 s3.heap.objs.size s6:=fun {pins' σ' H5 s6} I6=>by
  subst hY
  have I7:Inv X pins σ H5 s6:=I3.call' (s':=s6) (ch:=fp) I6.os I6.base I6.hok I6.bare fun b hb=>⟨(f3 b hb).2.2.2.1,(f3 b hb).2.1,(f3 b hb).2.2.2.2.1,(f3 b hb).2.2.2.2.2⟩
  refine⟨I7,?_,I6.free,Nat.ne_of_gt I3.lt,I3.sz,fun x c e=>?_,fun p hp z=>?_⟩
  ·obtain⟨m,hn,_⟩:=I6.loc
   exact⟨m,hn⟩
  ·obtain⟨v,q⟩:=I3.cell x c e
   exact Nat.ne_of_lt q.lt
  ·have q:=(I3.pin p hp).1
   rw[z,hC3] at q
   cases q
 have loop:∀ s4:Shared,s4={s2 with heap:=h₁,toks:=s2.toks}->
   codeAny (model X.prog X.w) X.A (.compLoop (.ListComp elt [⟨target,iter,ifs,0⟩] scope pos) 0 (.ref it) (.ref s2.heap.objs.size) (compEnvC scope (cellsFrom (s3.heap.objs.size+1) scope.names cl) s3.heap.objs.size X.env)) (RR (.ref s2.heap.objs.size) s3.heap.objs.size) s4:=by
  rintro s4 rfl
  rw[← eE,← eP,← eW,← eA]
  have stat:∀ {H':Hp},(∀ b∈fp,H' b=none)->∀ b∈fp,eZ (Y.wx (XC Y E)) [] H' b:=fun {H'} hn b hb=>by
   have hb':b∈Y.ex:=by rw[eex];exact hb
   exact⟨hn b hb,(IY0.ok.exf b hb').1,(IY0.ok.exfs b hb'),.inl hb',fun x c e=>(IY0.ok.exf b hb').2 x c e,fun p hp=>absurd (show p∈Y.pn++[] from hp) (by rw[epn];simp)⟩
  have T':=T
  rw[← eP,← eW,← eK] at T'
  refine jc (XC Y E) (fun n s'=>∃ i σ' ys H',Inv (Y.wx (XC Y E)) [] σ' H' s'/\tn i s'.heap/\(∀ b∈fp,H' b=none)/\W i n σ' ys H') ?_ ?_ m0
   ⟨0,_,[],_,IY0.wx,st3,fun b hb=>(f3 b hb).1,w0⟩
  ·rintro n s5 ⟨i,σ5,ys,H5,I5,st5,fr5,w5⟩
   obtain⟨hacc,alt⟩:=turn i n σ5 ys H5 w5
   rcases alt with⟨stop,qn⟩|⟨go,N,hN,step⟩
   ·refine aX (T'.done (Y.wx (XC Y E)) rfl rfl rfl hcY i [] s5 σ5 H5 _ I5 (stat fr5) st5 stop) fun r s6 ⟨hr,I6⟩=>?_
    subst hr
    exact hRR _ _ H5 s6 (endAt I6.unwx) qn
   ·refine aX (T'.item (Y.wx (XC Y E)) rfl rfl rfl hcY i [] s5 σ5 H5 _ I5 (stat fr5) st5 go) fun r s6 ⟨u,hr,h6⟩=>?_
    subst hr
    refine aX h6 fun _ s7 ⟨x,H7,I7,r7,y7,st7,fr7⟩=>?_
    have I7':=I7.pinned (stat fr7) (T.obj _ _ st7)
    have back:∀ {σ8:St} {ys8:List V} {H8:Hp} {s8:Shared},Inv (Y.wx (XC Y E)) ([]++dL fp s7.heap) σ8 H8 s8->N σ8 ys8 H8->
      ∃ m,m < n/\∃ i σ' ys H',Inv (Y.wx (XC Y E)) [] σ' H' s8/\tn i s8.heap/\(∀ b∈fp,H' b=none)/\W i m σ' ys H':=fun {σ8 ys8 H8 s8} I8 n8=>by
     obtain⟨m',hm,w8⟩:=hN σ8 ys8 H8 n8
     refine⟨m',hm,i+1,σ8,ys8,H8,I8.unpinned,T.keep _ _ _ st7 fun b hb o e=>(I8.pin (b,o) (List.mem_append_right _ (List.mem_append_right _ (bK hb e)))).1,fun b hb=>?_,w8⟩
     obtain⟨o,e,d⟩:=T.obj _ _ st7 b hb
     exact (I8.pin (b,o) (List.mem_append_right _ (List.mem_append_right _ (bK hb e)))).2.1
    refine aX (hg' _ s7 σ5 H7 x u _ I7' r7 (step x H7 y7)) fun _ s8 ⟨σ8,H8,I8,q8⟩=>?_
    refine aX (ht' _ s8 σ8 H8 _ I8 q8) fun ok s9 ⟨H9,I9,q9⟩=>?_
    cases ok with
    |false=>exact aV (back I9 q9)
    |true=>
     refine aM ?_
     refine aX (he' _ s9 σ8 H9 _ I9 q9) fun y s10 ⟨yv,H10,I10,r10,hD10,hz10,n10⟩=>?_
     refine aX (bL _ s10 σ8 H10 (.ref s2.heap.objs.size) [yv] (.ref s2.heap.objs.size) [y] (fun v H'=>v=.non/\H'=upd H10 s2.heap.objs.size (.lst (ys++[yv]))) I10 rfl (.cons r10 .nil) ⟨_,ys,yv,rfl,rfl,hD10,hz10,rfl,rfl⟩) fun _ s11 ⟨_,H11,I11,_,_,e11⟩=>?_
     subst e11
     exact back I11 n10
  ·rintro e s5 ⟨pins',σ',H5,s6,I6,hx⟩
   rw[eP,eW,eA,eE]
   rw[eP,eW,eS] at hx
   exact hXX (s2.heap.objs.size) _ H5 s6 e s5 (endAt I6) hCs hx
 have L1:=loop _ rfl
 rw[eC] at L1
 exact codeAny_compStart_list L1 (T.self _ 0 _ _ _ st3 L1)
end
section
variable {P:Program}{w:World}{K:PySem.W.Frag}{mg:Str->Option Value}{base:Heap}{N:List Str}{qual:Str}{scope:Scope}{f:Addr}{cd:Value}{A:Around}{outer:List Env}{s:Shared}{H:Hp}{E:XK}
 {scp:Scope} {cl:List (Str×Addr)} {NY:List Str} {idx:List (Option Nat)} {elt iter target:Expr} {ifs:List Expr} {pos:Pos} {wi:TI} {g:TG} {tt:TT} {te:TE}
theorem ig {pins:List (Addr×Obj)}{σ:St}{H1:Hp}{s1 s2:Shared}{C:Addr}{e:Value}{Q:Value->Shared->Prop}{acc:Value}(ce:CompEnd (bd (cb P w) P w K mg base N qual scope f cd A outer s H E) pins σ H1 C s1)(hC:C∉cu (envOfC qual scope s.heap.objs.size f cd::outer))
  (hx:cb P w (envOfC qual scope s.heap.objs.size f cd::outer) H1 s1 E e s2):
  notedBy (model P w) (bd (cb P w) P w K mg base N qual scope f cd A outer s H E).A (bd (cb P w) P w K mg base N qual scope f cd A outer s H E).env
   (fun e' s3=>compPost (model P w) (bd (cb P w) P w K mg base N qual scope f cd A outer s H E).A (bd (cb P w) P w K mg base N qual scope f cd A outer s H E).xe none Q acc C (.error e') s3) e s2:=by
 obtain⟨H',B,ea,cls,a0,rfl,fl,hE⟩:=hx
 have I:=ce.inv
 have hA:(bd (cb P w) P w K mg base N qual scope f cd A outer s H E).A.frames=some (envOfC qual scope s.heap.objs.size f cd::outer):=I.ok.frames
 refine wpAny_looks_onW hA (L:=s.heap.objs.size) rfl fl.fly fun h4 held up4=>?_
 obtain⟨m,nsC⟩:=ce.ns
 obtain⟨oC,es,ep,gC,dC,rC⟩:=id nsC
 have bC:B.get? C=some oC:=fl.keep C oC gC ce.free hC
 have cC:h4.get? C=some oC:=held.1 _ _ bC
 refine⟨m,⟨oC,es,ep,cC,dC,rC⟩,fun h5 sb cenv _=>?_⟩
 have hlt:∀ b o,s.heap.get? b=some o->b∉cu outer->b∉cu (envOfC qual scope s.heap.objs.size f cd::outer):=fun b o e hb hm=>by
  rcases List.mem_filterMap.mp hm with⟨env,he,hf⟩
  rcases List.mem_cons.mp he with rfl|he
  ·have:s.heap.objs.size=b:=Option.some.inj hf
   exact absurd (Heap.lt_size e) (by rw[this];exact Nat.lt_irrefl b)
  ·exact hb (List.mem_filterMap.mpr ⟨env,he,hf⟩)
 have hsub:∀ b,b∈cu outer->b∈cu (envOfC qual scope s.heap.objs.size f cd::outer):=fun b hb=>by
  rcases List.mem_filterMap.mp hb with⟨env,he,hf⟩
  exact List.mem_filterMap.mpr ⟨env,List.mem_cons_of_mem _ he,hf⟩
 have nC:∀ b o,s.heap.get? b=some o->b∉[C]:=fun b o q z=>by
  rw[List.mem_singleton.mp z] at q
  exact absurd (Heap.lt_size q) (Nat.not_lt.mpr ce.young)
 have eaC:ea≠C:=fun z=>by
  have:=held.2.1
  rw[z,bC] at this
  cases this
 have sB:(PySem.W.hideAll B [C]).StaysIn B:=fun b o q=>PySem.W.of_hideAll _ q
 have sB5:(PySem.W.hideAll B [C]).StaysIn h5:=fun b o q=>by
  have hb:b≠C:=fun z=>by
   rw[z,PySem.W.hideAll_none [C] (List.mem_singleton.mpr rfl)] at q
   cases q
  exact (sb.2 b hb).trans (held.1 b o (sB b o q))
 have ff5:h5.FunFrames (PySem.W.hideAll B [C]) (envOfC qual scope s.heap.objs.size f cd::outer):=fG sB sb (fun env he z=>hC (List.mem_filterMap.mpr ⟨env,he,z⟩)) held.2.2.1
 obtain⟨oe,vs,T,oT,ts,e1,e2,e4,e5,e6,e7,e8,e9,e10⟩:=held.2.2.2
 have TC:T≠C:=fun z=>by rw[z,bC] at e6;cases e6
 have g1:h5.get? ea=some oe:=(sb.2 ea eaC).trans e1
 have g8:h5.get? T=some oT:=(sb.2 T TC).trans e8
 have hsz3:3 < ts.size:=(Array.getElem?_eq_some_iff.mp e10).1
 unfold PySem.passOn
 refine wpAny_bind (wpAny_field (s:={s2 with heap:=h5}) g1 e4 e5 ?_)
 rw[if_neg (by simp:¬ ((Value.ref T == Value.none)=true))]
 refine wpAny_bind ?_
 unfold setFlight
 refine wpAny_bind (wpAny_field (s:={s2 with heap:=h5}) g1 e4 e5 ?_)
 rw[if_pos (by simp:(Value.ref T != Value.none)=true)]
 refine wpAny_setField (s:={s2 with heap:=h5}) g8 e9 hsz3 ?_
 have ot:∀ (x:Value) b,b≠T->(h5.update T (Obj.mapFields (·.setIfInBounds 3 x))).get? b=h5.get? b:=fun x b hb=>Heap.get?_update_other _ _ (Ne.symm hb)
 have nr:∀ b o,h5.get? b=some o->(∀ vs,o.data≠.fields vs)->b≠T:=fun b o q nf z=>by
  rw[z,g8] at q
  cases q
  exact nf ts e9
 have eT:(PySem.W.hideAll B [C]).get? T=none:=PySem.W.fresh_of_stays sB e6
 refine wpAny_throw ?_
 show wpAny (model P w) _ (leaving (envOfC qual scope s.heap.objs.size f cd) (.ref ea)) _ _ _
 refine jb (B:=PySem.W.hideAll B [C]) (cls:=cls) (a0:=a0) (fl:=cenv.frame.elim Value.none fun f=>rawInt f) (L:=s.heap.objs.size) hA rfl (fun b o q=>(ot _ b fun z=>by rw[z,eT] at q;cases q).trans (sB5 b o q)) (PySem.W.fresh_of_stays sB held.2.1)
  (ff5.of_keeps fun b o q nf=>⟨o,(ot _ b (nr b o q nf)).trans q,rfl⟩) ⟨oe,vs,T,_,_,(ot _ ea (Ne.symm e7)).trans g1,e2,e4,e5,eT,e7,Heap.get?_update_self _ g8 (Obj.isFreed_of_fields (Obj.data_mapFields e9 _)),Obj.data_mapFields e9 _,by simp [hsz3]⟩ fun h7 fly7 up7=>?_
 refine⟨H',_,ea,cls,a0,rfl,⟨?_,fl.bare,fly7,fl.hok.hid (fun b hb=>?_),fun b o e n hb=>?_,fun b o e hb=>?_,fun b o e n hb=>?_,fun b o e n=>?_,fun b xs e=>?_,fun b o u e=>?_,fun b ps e=>?_⟩,hE⟩
 ·exact fl.os.trans I.os
 ·rw[List.mem_singleton.mp hb]
  exact fl.free C oC gC ce.free
 ·exact PySem.W.hideAll_get _ (fl.keep b o (I.base.keep b o e n hb (by intro z;cases z)) (I.base.free b o e n (by intro z;cases z)) (hlt b o e hb)) (nC b o e)
 ·obtain⟨o1,e1⟩:=I.base.there b o e (by intro z;cases z)
  obtain⟨o2,e2⟩:=fl.thr b o1 e1 (hlt b o e hb)
  exact⟨o2,PySem.W.hideAll_get _ e2 (nC b o e)⟩
 ·obtain⟨sl,e1⟩:=I.base.slot b o e n hb (by intro z;cases z)
  obtain⟨sl2,e2⟩:=fl.slotted up4 e1 (I.base.free b o e n (by intro z;cases z)) (hsub b hb)
  have e3:h5.get? b=some {o with slots:=sl2}:=(sb.2 b fun z=>nC b o e (List.mem_singleton.mpr z)).trans e2
  obtain⟨_,o1,q1,nf⟩:=ff5.mem (b:=b) (hsub b hb)
  rw[e3] at q1
  cases q1
  obtain⟨sl3,q3⟩:=up7 b _ ((ot _ b (nr b _ e3 nf)).trans e3) nf
  exact⟨sl3,q3⟩
 ·obtain⟨o1,e1⟩:=I.base.there b o e (by intro z;cases z)
  exact fl.free b o1 e1 (I.base.free b o e n (by intro z;cases z))
 ·exact fl.tups b xs (I.base.tups b xs e)
 ·exact fl.frzs b o u (I.base.frzs b o u e)
 ·obtain⟨m1,e1⟩:=I.base.tbls b ps e
  obtain⟨m2,e2⟩:=fl.tbls b _ e1
  exact⟨m1++m2,by rw[e2,Array.append_assoc]⟩
theorem ii (S:CompSc (bd (cb P w) P w K mg base N qual scope f cd A outer s H E) scp cl NY idx)(hi:PI (bd (cb P w) P w K mg base N qual scope f cd A outer s H E) target iter wi)
  (hg:∀ C fp s₀ H₀,PG (bh (bd (cb P w) P w K mg base N qual scope f cd A outer s H E) E scp cl NY C fp s₀ H₀) target g) (ht:∀ C fp s₀ H₀,oZ (bh (bd (cb P w) P w K mg base N qual scope f cd A outer s H E) E scp cl NY C fp s₀ H₀) ifs tt)
  (he:∀ C fp s₀ H₀,PE (bh (bd (cb P w) P w K mg base N qual scope f cd A outer s H E) E scp cl NY C fp s₀ H₀) elt te) (hs:∀ x,foldedSetIterable iter (bd (cb P w) P w K mg base N qual scope f cd A outer s H E).env x=pure x:=by intro _;rfl):
  PE (bd (cb P w) P w K mg base N qual scope f cd A outer s H E) (.ListComp elt [⟨target,iter,ifs,0⟩] scp pos) (g_ idx wi g tt te):=by
 intro pins s1 σ H1 Q I h
 rw[eval_ListComp]
 refine wpAny_comprehension_free (use:=none) rfl hs S.clos S.kind S.names ?_
 refine kW (E:=E) (RR:=fun acc C=>compPost (model P w) (bd (cb P w) P w K mg base N qual scope f cd A outer s H E).A (bd (cb P w) P w K mg base N qual scope f cd A outer s H E).xe none (EP (bd (cb P w) P w K mg base N qual scope f cd A outer s H E) pins σ Q) acc C) rfl S hi hg ht he I h (fun D C H' s' e q=>?_) fun D C H' s' e s2 ce hC hx=>ig ce hC hx
 obtain⟨m,hn⟩:=e.ns
 exact⟨m,hn,fun h' hs'=>⟨.ref D,H',e.gone hs',rfl,q⟩⟩
theorem jQ {X:Cx}{E:XK}{scp:Scope}{cl:List (Str×Addr)}{NY:List Str}{C:Addr}{fp:List Addr}{s₀:Shared}{H₀:Hp}{j k:Nat}{f':Addr}{fd:FuncData}{ps:List Str}{sp:Sp}{x:Str}{p pos:Pos}{e:Expr}{es:List Expr}{t:TA}(G:nZ X.prog X.w X.K X.mg X.base j x f' fd ps sp)(hr:Room k X.A)(hjk:j<=k)
  (hg:Gl (bh X E scp cl NY C fp s₀ H₀) x) (ha:PA (bh X E scp cl NY C fp s₀ H₀) (e::es) t) (hdb:(x == ("__debug__":Str))=false:=by decide)
  (he:starEach (e::es) (bh X E scp cl NY C fp s₀ H₀).env=(false,eval e (bh X E scp cl NY C fp s₀ H₀).env)::starEach es (bh X E scp cl NY C fp s₀ H₀).env:=by rfl)
  (hpl:(backTo pos (starEach es (bh X E scp cl NY C fp s₀ H₀).env)).any (·.1)=false:=by rfl):
  PE (bh X E scp cl NY C fp s₀ H₀) (.Call (.Name x p) (e::es) [] pos) (jC sp [] E t):=
 gv (X:=bh X E scp cl NY C fp s₀ H₀) G.ok (hr.mono hjk) hg G.at_ G.kp G.b .nil rN ha hdb he hpl
end
end L2
namespace L2
open PySem PySem.Spec PyProof.Rows Builtin.Str
section
variable {X:Cx}
theorem cN:oV X "str.split" (fun x vs H Q=>∃ a b:Str,x=.str a/\vs=[.str b]/\(b.length == 0)=false/\a.length<=1000000/\∀ l,H l=none->Q (.ref l) (upd H l (.lst ((Txt.split a b).map V.str)))):=by
 intro pins s σ H x vs v us Q I rx rv h
 obtain⟨a,b,rfl,rfl,hb,hz,q⟩:=h
 obtain⟨t,rfl⟩:=rx
 obtain⟨u,rfl,ru⟩:=bQ rv
 obtain⟨t2,rfl⟩:=ru
 have hz':a.length<=sizeLine:=Nat.le_trans hz (by decide)
 have hl:=PyProof.Rows.split_le a b
 have key:∀ (l:List (Str×Tok)) (tk:Nat),l.map (·.1)=Txt.split a b->EP X pins σ Q (.ref s.heap.objs.size) {s with toks:=tk,heap:=s.heap.push {cls:=.type "list",data:=.seq (strValues l).toArray}}:=fun l tk e=>by
  refine⟨.ref s.heap.objs.size,_,I.laid (t':=tk) (o:=.lst ((Txt.split a b).map V.str)) (fun b o q=>Heap.get?_push_of_some _ q) (Nat.le_refl _) ⟨?_,strValues l,_,?_,Heap.get?_push_size _ rfl⟩,rfl,q _ (I.hok.fresh (Nat.le_refl _))⟩
  ·rw[List.length_map]
   exact Nat.le_trans hl (Nat.le_trans (Nat.add_le_add_right hz 2) (by decide))
  ·rw[← e]
   clear e
   induction l with
   |nil=>exact .nil
   |cons p r ih=>exact .cons ⟨_,rfl⟩ ih
 cases h1:(decide (a.length < b.length) || decide (strKind a < strKind b)) with
 |true=>exact call_meets F.slot_str_split (typeIs_str _ _ _) F.entry_str_split (F.args_str_split_2 _ _) (meets_str_split_cannot_occur a b t t2 h1) (key [(a,t)] s.toks (by unfold Txt.split;rw[if_pos h1];rfl))
 |false=>
  cases hf:(occurrences a b 0 a.length (a.length+1)).isEmpty with
  |true=>exact call_meets F.slot_str_split (typeIs_str _ _ _) F.entry_str_split (F.args_str_split_2 _ _) (meets_str_split_not_found a b t t2 h1 hb hf) (key [(a,t)] s.toks (by unfold Txt.split;rw[if_neg (by rw[h1];nofun),if_pos hf];rfl))
  |false=>
   have es:Txt.split a b=partsBetween a (occurrences a b 0 a.length (a.length+1)) b.length:=by
    unfold Txt.split
    rw[if_neg (by rw[h1];nofun),if_neg (by rw[hf];nofun)]
   refine call_meets F.slot_str_split (typeIs_str _ _ _) F.entry_str_split (F.args_str_split_2 _ _) (meets_str_split_sep a b t t2 h1 hb hf hz' (by rw[← es];exact Nat.le_trans hl (Nat.le_trans (Nat.add_le_add_right hz 2) (by decide)))) ?_
   show wants _ _ _ {s with toks:=_,heap:=s.heap.push {cls:=.type "list",data:=.seq (strsFrom s.toks (partsBetween a (occurrences a b 0 a.length (a.length+1)) b.length)).toArray}}
   rw[strsFrom_eq]
   exact key (numbered s.toks _) _ ((numbered_texts _ _).trans es.symm)
theorem jd:oV X "str.startswith" (fun x vs H Q=>∃ a b:Str,x=.str a/\vs=[.str b]/\Q (.bl (Txt.startswith a b)) H):=by
 intro pins s σ H x vs v us Q I rx rv h
 obtain⟨a,b,rfl,rfl,q⟩:=h
 obtain⟨t,rfl⟩:=rx
 obtain⟨u,rfl,ru⟩:=bQ rv
 obtain⟨t2,rfl⟩:=ru
 exact SC.startswith ⟨.bl _,H,I,rfl,q⟩
theorem kX:oV X "str.index" (fun x vs H Q=>∃ (a b:Str) (i:Nat) (rest:List Nat),x=.str a/\vs=[.str b]/\occurrences a b 0 a.length 1=i::rest/\Q (.int i) H):=by
 intro pins s σ H x vs v us Q I rx rv h
 obtain⟨a,b,i,rest,rfl,rfl,ho,q⟩:=h
 obtain⟨t,rfl⟩:=rx
 obtain⟨u,rfl,ru⟩:=bQ rv
 obtain⟨t2,rfl⟩:=ru
 exact SC.index ho ⟨.int i,H,I.tok _,⟨_,rfl⟩,q⟩
theorem kY:bP X (.type "int") (fun xs H Q=>∃ (a:Str) (n:Int),xs=[.str a]/\PySem.intText? a=some n/\a.length<=640/\Q (.int n) H):=by
 intro pins s σ H xs us Q I r h
 obtain⟨a,n,rfl,hn,hl,q⟩:=h
 obtain⟨u,rfl,ru⟩:=bQ r
 obtain⟨t,rfl⟩:=ru
 exact PySem.W.KIN.call_text hn hl ⟨.int n,H,I.tok _,⟨_,rfl⟩,q⟩
end
end L2
namespace OD
open PySem L2 PySem.NumText Builtin.Str
theorem bq {n:Nat}(h:n<=1000000):n < sizeLine:=Nat.lt_of_le_of_lt h (by decide)
theorem bx (a b:Str):decide (V.str a=V.str b)=decide (a.cps.toList=b.cps.toList):=
 decide_eq_decide.mpr ⟨fun z=>by rw[V.str.inj z],fun z=>congrArg V.str (by
  obtain⟨x⟩:=a
  obtain⟨y⟩:=b
  exact congrArg Str.mk (Array.toList_inj.mp z))⟩
def fH (l:List Nat):Bool:=l.head? == some 45
def aK (l:List Nat):List Nat:=if fH l=true then l.tail else l
def b_ (c:Nat):Bool:=decide (48<=c/\c<=57)
def oq (l:List Nat):Option Int:=
 if ((aK l).isEmpty || !(aK l).all b_ || decide (9 < (aK l).length) || (decide ((aK l).head?=some 48)&&!decide (l=[48])))=true then none
 else some (if fH l=true then -(digitsVal (aK l):Nat) else (digitsVal (aK l):Nat))
def bV (t:Str):Option Int:=oq t.cps.toList
theorem ou (l:List Nat):(aK l).length<=l.length/\l.length<=(aK l).length+1:=by
 unfold aK
 split
 ·rw[List.length_tail];omega
 ·omega
theorem mw {t:Str}{n:Int}(h:bV t=some n):PySem.intText? t=some n/\t.length<=10:=by
 unfold bV oq at h
 split at h
 ·cases h
 rename_i hc
 have hc':((aK t.cps.toList).isEmpty || !(aK t.cps.toList).all b_ || decide (9 < (aK t.cps.toList).length) || (decide ((aK t.cps.toList).head?=some 48)&&!decide (t.cps.toList=[48])))=false:=by
  simpa using hc
 simp only [Bool.or_eq_false_iff] at hc'
 obtain⟨⟨⟨c1,c2⟩,c3⟩,_⟩:=hc'
 have hl:t.length<=10:=by
  have e:t.cps.toList.length=t.length:=Array.length_toList
  have:=(ou t.cps.toList).2
  have:=of_decide_eq_false c3
  omega
 refine⟨?_,hl⟩
 have hne:aK t.cps.toList≠[]:=fun z=>by rw[z] at c1;cases c1
 have hd:AllDigits (aK t.cps.toList):=fun c hcm=>by
  have:(aK t.cps.toList).all b_=true:=by simpa using c2
  exact of_decide_eq_true (List.all_eq_true.mp this c hcm)
 have hl':t.length<=4300:=by omega
 injection h with h
 subst h
 cases hn:fH t.cps.toList with
 |true=>
  have e:t.cps.toList=45::aK t.cps.toList:=by
   unfold aK
   rw[hn,if_pos rfl]
   cases hx:t.cps.toList with
   |nil=>rw[hx] at hn;cases hn
   |cons a r=>
    rw[hx] at hn
    have:a=45:=by
     have:(some a == some 45)=true:=hn
     simpa using this
    rw[this];rfl
  rw[if_pos rfl]
  exact intText_neg e hd hne hl'
 |false=>
  have e:aK t.cps.toList=t.cps.toList:=by unfold aK;rw[hn];rfl
  rw[if_neg (by nofun)]
  rw[e] at hd hne ⊢
  exact intText_digits hd hne hl'
theorem je (t:Str):Txt.startswith t (Str.ofString "-")=fH t.cps.toList:=by
 obtain⟨⟨l⟩⟩:=t
 cases l with
 |nil=>decide+kernel
 |cons a r=>
  unfold Txt.startswith subAt fH
  rw[show (Str.ofString "-":Str)=⟨#[45]⟩ from by decide+kernel]
  show (decide _&&(_ == _))=(some a == some 45)
  simp [Str.length]
theorem mx (c:Nat):(!(occurrences (Str.ofString "0123456789") ⟨#[c]⟩ 0 (Str.ofString "0123456789").length 1).isEmpty)=b_ c:=by
 rw[PySem.StrLaws.found_one]
 unfold b_
 rw[show (Str.ofString "0123456789").cps.toList=[48,49,50,51,52,53,54,55,56,57] from by decide+kernel]
 refine decide_eq_decide.mpr ⟨fun h=>?_,fun h=>?_⟩
 ·simp only [List.mem_cons,List.not_mem_nil,or_false] at h
  omega
 ·simp only [List.mem_cons,List.not_mem_nil,or_false]
  omega
theorem my (c:Nat):(Str.ofString "0123456789").cps.contains c=b_ c:=by
 rw[← mx,PySem.StrLaws.found_one,Bool.eq_iff_iff,Array.contains_iff_mem,decide_eq_true_iff,Array.mem_toList_iff]
theorem qu:∀ d:Fin 10,occurrences (Str.ofString "0123456789") ⟨#[48+d.val]⟩ 0 (Str.ofString "0123456789").length 1=[d.val]:=by decide+kernel
theorem ow {c:Nat}(h:b_ c=true):occurrences (Str.ofString "0123456789") ⟨#[c]⟩ 0 (Str.ofString "0123456789").length 1=[c - 48]:=by
 have h':=of_decide_eq_true h
 have:=qu ⟨c - 48,by omega⟩
 have e:48+(c - 48)=c:=by omega
 rw[show (48+(⟨c - 48,by omega⟩:Fin 10).val)=c from e] at this
 exact this
theorem fI (t:Str):Txt.slice t none (some 1)=⟨(t.cps.toList.take 1).toArray⟩:=by
 by_cases h:1<=t.length
 ·exact mn (by decide) (by omega)
 ·obtain⟨⟨l⟩⟩:=t
  cases l with
  |nil=>decide+kernel
  |cons a r=>exact absurd (by show 1<=(a::r).length;simp) h
theorem fJ (t:Str):Txt.slice t (some 1) none=⟨t.cps.toList.tail.toArray⟩:=by
 by_cases h:1<=t.length
 ·rw[i5 (by decide) (by omega)]
  exact congrArg (fun l=>Str.mk (List.toArray l)) (List.drop_one)
 ·obtain⟨⟨l⟩⟩:=t
  cases l with
  |nil=>decide+kernel
  |cons a r=>exact absurd (by show 1<=(a::r).length;simp) h
section
variable {σ0:St}{H1:Hp}{D:Addr}{tt:TT}{te:TE}{Q:VK}
theorem gi {x:Str}(rest:St)(f:Nat->V)(e0:σ0=none::rest)(hD:H1 D=none)(hlen:x.length<=1000000)
  (ht:∀ (v:V) (H':Hp) (R:Bool->Hp->Prop),R true H'->tt (some v::rest) H' R)
  (he:∀ (c:Nat) (H':Hp) (R:VK),Same H1 H'->(∀ H'',Same H' H''->R (f c) H'')->te (some (.str ⟨#[c]⟩)::rest) H' R)
  (hq:∀ H2,Same H1 H2->H2 D=some (.lst (x.cps.toList.map f))->Q (.ref D) H2):eD (qm x) D (bW 0) tt te σ0 H1 Q:=by
 have hx:x.cps.toList.length=x.length:=Array.length_toList
 refine⟨fun i m σ ys H=>m=x.length - i/\i<=x.length/\(∃ v0,σ=v0::rest)/\ys=(x.cps.toList.take i).map f/\H D=some (.lst ys)/\Same H1 H,⟨_,rfl,Nat.zero_le _,⟨none,e0⟩,rfl,ad,ah hD _⟩,?_⟩
 rintro i m σ ys H ⟨rfl,hi,⟨v0,rfl⟩,hys,hd,k⟩
 refine⟨hd,?_⟩
 by_cases hlt:i < x.length
 ·refine .inr ⟨hlt,fun σ ys H=>(∃ v0,σ=v0::rest)/\ys=(x.cps.toList.take (i+1)).map f/\H D=some (.lst ys)/\Same H1 H,fun σ' ys' H' p'=>⟨_,by omega,rfl,hlt,p'⟩,fun v H' y=>?_⟩
  obtain⟨rfl,c,hc,rfl⟩:=y
  refine ht _ _ _ (aM (he c _ _ k fun H4 k4=>⟨k4 _ _ hd,?_,⟨_,rfl⟩,?_,ad,(k.trans k4).upd_new hD _⟩))
  ·rw[hys,List.length_map,List.length_take]
   exact bq (by omega)
  ·rw[List.take_add_one,Array.getElem?_toList,hc,List.map_append,← hys]
   rfl
 ·have e:i=x.length:=by omega
  refine .inl ⟨?_,hq _ k ?_⟩
  ·show x.cps.size<=i
   exact Nat.le_of_eq e.symm
  ·rw[hd,hys,List.take_of_length_le (by omega)]
end
end OD
namespace OD
open PySem L2 PySem.NumText Builtin.Str
theorem kZ {t:Str}{σ:St}{H:Hp}{Q:VK}(h0:σ[0]? =some (some (.str t))) (hz:t.length<=1000000) (h:∀ fg:Str,fg.cps.toList=aK t.cps.toList->fg.length<=1000000->Q (.str fg) H):
  if Txt.startswith t (Str.ofString "-")=true then rc ml (bB 0) (gS (tC (V.int 1))) dm σ H Q else bB 0 σ H Q:=by
 rw[je]
 have hl:t.cps.toList.length=t.length:=Array.length_toList
 refine bv (fun c=>⟨_,h0,1,rfl,t,rfl,Nat.le_trans hz (by decide),?_⟩) fun c=>⟨_,h0,h t ?_ hz⟩
 ·rw[fJ]
  refine h _ ?_ ?_
  ·unfold aK
   rw[if_pos c]
  ·show (t.cps.toList.tail.toArray).size<=_
   rw[List.size_toArray,List.length_tail]
   omega
 ·unfold aK
  rw[if_neg c]
theorem mz {α:Type}(l:List α)(f:α->Bool):(l.map fun x=>V.bl (f x)).all lT=true/\(l.map fun x=>V.bl (f x)).any dw=l.any f:=by
 constructor
 ·rw[List.all_map]
  exact List.all_eq_true.mpr fun _ _=>rfl
 ·rw[List.any_map]
  rfl
theorem bS {t:Str}(h:aK t.cps.toList=[]\/(aK t.cps.toList).all b_=false\/9 < (aK t.cps.toList).length\/((aK t.cps.toList).head?=some 48/\t.cps.toList≠[48])):bV t=none:=by
 unfold bV oq
 refine if_pos ?_
 simp only [Bool.or_eq_true,Bool.and_eq_true,Bool.not_eq_true',decide_eq_true_eq,decide_eq_false_iff_not]
 rcases h with h|h|h|h
 ·exact .inl (.inl (.inl (by rw[h];rfl)))
 ·exact .inl (.inl (.inr h))
 ·exact .inl (.inr h)
 ·exact .inr h
theorem ij {t:Str}(h1:aK t.cps.toList≠[])(h2:(aK t.cps.toList).all b_=true)(h3:(aK t.cps.toList).length<=9)(h4:¬ ((aK t.cps.toList).head?=some 48/\t.cps.toList≠[48])):
  bV t=some (if fH t.cps.toList=true then -((digitsVal (aK t.cps.toList):Nat):Int) else ((digitsVal (aK t.cps.toList):Nat):Int)):=by
 unfold bV oq
 refine if_neg fun h=>?_
 simp only [Bool.or_eq_true,Bool.and_eq_true,Bool.not_eq_true',decide_eq_true_eq,decide_eq_false_iff_not] at h
 rcases h with ((h|h)|h)|h
 ·exact h1 (List.isEmpty_iff.mp h)
 ·rw[h2] at h;cases h
 ·omega
 ·exact h4 h
def cq {α β:Type}(f:α->Option β)(l:List α):Option (List β):=if l.all (fun a=>(f a).isSome)=true then some (l.filterMap f) else none
section
variable {α β:Type}{f:α->Option β}{l:List α}
theorem dy {a:α}(h:a∈l)(e:f a=none):cq f l=none:=if_neg fun z=>by
 have:=List.all_eq_true.mp z a h
 rw[e] at this
 cases this
theorem gG (h:∀ a∈l,(f a).isSome=true):cq f l=some (l.filterMap f):=if_pos (List.all_eq_true.mpr h)
theorem ik {bs:List β}(h:cq f l=some bs){a:α}(ha:a∈l):∃ b,f a=some b/\b∈bs:=by
 unfold cq at h
 split at h
 ·rename_i hc
  injection h with h
  have:=List.all_eq_true.mp hc a ha
  obtain⟨b,hb⟩:=Option.isSome_iff_exists.mp this
  exact⟨b,hb,by rw[← h];exact List.mem_filterMap.mpr ⟨a,ha,hb⟩⟩
 ·cases h
theorem eh {i:Nat}{a:α}{b:β}(h:l[i]? =some a) (e:f a=some b):(l.take (i+1)).filterMap f=(l.take i).filterMap f++[b]:=by
 rw[List.take_add_one,h,List.filterMap_append]
 show _++[a].filterMap f=_
 rw[List.filterMap_cons,e]
 rfl
theorem fK (i:Nat):((l.take i).filterMap f).length<=i:=Nat.le_trans (List.length_filterMap_le _ _) (by rw[List.length_take];omega)
theorem dz {i:Nat}{a:α}{P:α->Prop}(h:l[i]? =some a) (hp:∀ x∈l.take i,P x) (ha:P a):∀ x∈l.take (i+1),P x:=fun x hx=>by
 rw[List.take_add_one,h] at hx
 rcases List.mem_append.mp hx with w|w
 ·exact hp x w
 ·have:x=a:=by simpa using w
  rw[this]
  exact ha
end
theorem cA {x y s:Str}(h:s∈Txt.split x y):s.length<=x.length:=by
 unfold Txt.split at h
 have part:∀ i j,(strSub x i j).length<=x.length:=fun i j=>by
  show (x.cps.extract i j).size<=x.cps.size
  rw[Array.size_extract]
  omega
 split at h
 ·rw[List.mem_singleton.mp h];exact Nat.le_refl _
 ·split at h
  ·rw[List.mem_singleton.mp h];exact Nat.le_refl _
  ·unfold partsBetween at h
   obtain⟨p,_,rfl⟩:=List.mem_map.mp h
   exact part _ _
def eR (row:Str):Option (List Int):=(cq bV (Txt.split row (Str.ofString " "))).bind fun ns=>if ns.getLast?=some 0 then some ns.dropLast else none
def dA (row:Str):Option Str:=if row.cps.toList=[] then none else some (if row.cps.toList=[45] then Str.ofString "" else row)
def cr (x:Str):Option (Str×List (List Int)):=(dA ((Txt.split x (Str.ofString "\n")).headD Str.empty)).bind fun t=>(cq eR (Txt.split x (Str.ofString "\n")).tail).bind fun cs=>if cM (bJ t cs)=true then some (t,cs) else none
theorem il (xs:List V):b8 xs none (some (-1))=xs.dropLast:=by
 unfold b8
 have e1:HT.sIx xs.length 0 none=0:=rfl
 have e2:HT.sIx xs.length xs.length (some (-1))=xs.length - 1:=by
  show (if (-1:Int) < 0 then ((-1:Int)+(xs.length:Int)).toNat else min (-1:Int).toNat xs.length)=_
  rw[if_pos (by decide)]
  omega
 rw[e1,e2,List.drop_zero,Nat.sub_zero,List.dropLast_eq_take]
theorem im (xs:List V)(h:xs.length<=1000000):b8 xs (some 1) none=xs.tail:=by
 unfold b8
 have e1:HT.sIx xs.length 0 (some 1)=min 1 xs.length:=HT.sIx_nat _ 0 1
 have e2:HT.sIx xs.length xs.length none=xs.length:=rfl
 rw[e1,e2]
 cases xs with
 |nil=>rfl
 |cons a r=>
  have e3:min 1 (a::r).length=1:=by rw[List.length_cons];omega
  rw[e3]
  show (r.take ((a::r).length - 1))=r
  exact List.take_of_length_le (by rw[List.length_cons];omega)
theorem jR {α:Type}{xs:List α}(h:xs≠[]):fX xs (-1)=some (xs.getLast h):=by
 have hp:=List.length_pos_iff.mpr h
 have e:jD xs.length (-1)=some (xs.length - 1):=by
  unfold jD
  rw[if_neg (by decide),if_pos (by omega)]
  congr 1
  omega
 unfold fX
 rw[e]
 show xs[xs.length - 1]? =_
 rw[List.getLast_eq_getElem,List.getElem?_eq_getElem]
theorem cT {α:Type}{a:α}{r:List α}:fX (a::r) 0=some a:=by
 unfold fX jD
 rw[if_pos (Int.le_refl 0),if_pos (by rw[List.length_cons];omega)]
 rfl
theorem dB (t:Str)(cs:List (List Int)):cM (bJ t cs)=(ee t&&cs.all fun c=>de t.length (fu c)):=by
 show (ee t&&(cs.map fu).all (de t.length))=_
 rw[List.all_map]
 rfl
end OD
namespace OD
open PySem L2 PySem.NumText Builtin.Str
theorem ox {x:Str}{g:TG}{tb:TS}{D:cU}{σ:St}{H:Hp}(Pv:Nat->St->Hp->Prop)(h0:Pv 0 σ H)
  (hs:∀ i c σ H,x.cps.toList[i]? =some c->Pv i σ H->g (.str ⟨#[c]⟩) σ H fun σ2 H2=>tb {D with nx:=Pv (i+1),ct:=Pv (i+1),bk:=D.nx} σ2 H2) (hd:∀ σ H,Pv x.length σ H->D.nx σ H):
  ∃ W:Nat->Nat->St->Hp->Prop,(∃ m,W 0 m σ H)/\∀ i m σ H,W i m σ H->
   ((qm x).stop i H/\D.nx σ H)\/((qm x).go i H/\∃ N:St->Hp->Prop,(∀ σ' H',N σ' H'->∃ m',m' < m/\W (i+1) m' σ' H')/\∀ v H',(qm x).yld i H v H'->g v σ H' fun σ2 H2=>tb {D with nx:=N,ct:=N,bk:=D.nx} σ2 H2):=by
 refine⟨fun i m σ H=>m=x.length - i/\i<=x.length/\Pv i σ H,⟨x.length,rfl,Nat.zero_le _,h0⟩,?_⟩
 rintro i m σ H ⟨rfl,hi,p⟩
 by_cases hlt:i < x.length
 ·refine .inr ⟨hlt,Pv (i+1),fun σ' H' p'=>⟨x.length - (i+1),by omega,rfl,hlt,p'⟩,fun v H' y=>?_⟩
  obtain⟨rfl,c,hc,rfl⟩:=y
  exact hs i c σ _ (by rw[Array.getElem?_toList];exact hc) p
 ·have e:i=x.length:=by omega
  exact .inl ⟨Nat.le_of_eq e.symm,hd σ H (by rw[← e];exact p)⟩
def cV (t:Str):V:=match bV t with
 |some n=>.int n
 |none=>.non
theorem k_ (ss:List Str):(ss.map cV).all cW=true:=by
 rw[List.all_map]
 refine List.all_eq_true.mpr fun s _=>?_
 show cW (cV s)=true
 unfold cV
 cases bV s<;>rfl
theorem io (n:Int):lC (.int n) .non=false:=rfl
theorem ip:lC .non .non=true:=rfl
theorem oy (ss:List Str):nA .non (ss.map cV)=!ss.all fun a=>(bV a).isSome:=by
 unfold nA
 rw[List.any_map,List.any_eq_not_all_not]
 congr 1
 refine List.all_congr rfl fun s=>?_
 show (!lC (cV s) .non)=_
 unfold cV
 cases bV s with
 |none=>rw[ip];rfl
 |some n=>rw[io];rfl
theorem la {ss:List Str}{ns:List Int}(h:cq bV ss=some ns):ss.map cV=ns.map V.int:=by
 unfold cq at h
 split at h
 ·rename_i hc
  injection h with h
  subst h
  have hc':=List.all_eq_true.mp hc
  clear hc
  induction ss with
  |nil=>rfl
  |cons a r ih=>
   obtain⟨n,hn⟩:=Option.isSome_iff_exists.mp (hc' a List.mem_cons_self)
   rw[List.map_cons,List.filterMap_cons,hn,ih fun x hx=>hc' x (List.mem_cons_of_mem _ hx)]
   show cV a::_=V.int n::_
   unfold cV
   rw[hn]
 ·cases h
theorem iq {l:List Nat}{i c:Nat}(h:l[i]? =some c):digitsVal (l.take (i+1))=digitsVal (l.take i)*10+(c - 48):=by
 rw[List.take_add_one,h]
 exact digitsVal_snoc _ _
theorem ci {A B:TS}{D:cU}{σ:St}{H:Hp}(h:∀ N:St->Hp->Prop,(∀ σ' H',B D σ' H'->N σ' H')->A {D with nx:=N} σ H):lw A B D σ H:=h (fun σ H=>B D σ H) (fun _ _ z=>z)
end OD
namespace L2
open PySem PySem.Spec PyProof.Rows
theorem mB {X:Cx}{K:PySem.W.Frag}(e:X.K=K):OpR X (binaryOp .Add) (o3 K):=by
 subst e
 exact n6
end L2
namespace OD
open PySem L2 Builtin.Str
def cB (i:Int):Str:=Str.ofString (toString i)
theorem ir {i:Int}{n:Nat}(h:i.natAbs<=n):(cB i).length<=n+2:=by
 have:=PyProof.Rows.len_str_of_int i
 unfold cB
 omega
theorem oz {i:Int}{n:Nat}(h:i.natAbs<=n)(hn:n < 2 ^ 64):i.natAbs.log2 < 1920:=by
 by_cases h0:i.natAbs=0
 ·rw[h0];decide
 ·have h1:=(Nat.log2_lt h0 (k:=64)).mpr (by omega)
  omega
def dD (c:List Int):Str:=Txt.join (Str.ofString " ") ((c++[0]).map cB)
def bG (t:Str):Str:=if t.cps.toList=[] then Str.ofString "-" else t
def bT (t:Str)(cs:List (List Int)):List Str:=bG t::cs.map dD
theorem fL {ss:List Str}{n:Nat}(h:∀ s∈ss,s.length<=n):(ss.map (·.length)).sum<=ss.length*n:=by
 induction ss with
 |nil=>exact Nat.zero_le _
 |cons a r ih=>
  rw[List.map_cons,List.sum_cons,List.length_cons,Nat.succ_mul]
  have h1:=h a List.mem_cons_self
  have h2:=ih fun s hs=>h s (List.mem_cons_of_mem _ hs)
  omega
theorem dE (sep:Str)(ss:List Str):(Txt.join sep ss).length=(ss.map (·.length)).sum+(ss.length - 1)*sep.length:=PySem.size_glued sep ss
theorem gH {sep:Str}{ss:List Str}{n m:Nat}(h:∀ s∈ss,s.length<=n)(hl:ss.length<=m)(hs:sep.length=1):(Txt.join sep ss).length<=m*(n+1):=by
 rw[dE,hs]
 have h1:=fL h
 have h2:ss.length*(n+1)<=m*(n+1):=Nat.mul_le_mul_right _ hl
 rw[Nat.mul_succ] at h2
 omega
theorem jS:∀ {ls:List Int} {b:Int} {n:Nat},rF b ls->(∀ l∈ls,bI l<=b+n)->ls.length<=n
 |[],_,_,_,_=>Nat.zero_le _
 |l::r,b,n,⟨h1,h2⟩,h=>by
  have h3:=h l List.mem_cons_self
  have hn:0 < n:=by omega
  have:=jS (ls:=r) (b:=bI l) (n:=n - 1) h2 fun x hx=>by
   have:=h x (List.mem_cons_of_mem _ hx)
   omega
  rw[List.length_cons]
  omega
structure lb (t:Str)(cs:List (List Int)):Prop where
 tl:t.length<=100
 cl:cs.length<=200
 ll:∀ c∈cs,c.length<=12
 nl:∀ c∈cs,∀ l∈c,l.natAbs<=12
theorem dF {n:Int}{c:List Int}(h:c8 n c)(hn:n<=12):c.length<=12/\∀ l∈c,l.natAbs<=12:=by
 have h2:∀ l∈c,l.natAbs<=12:=fun l hl=>by
  have:=h.2 l hl
  unfold bI at this
  split at this<;>omega
 refine⟨jS (b:=0) h.1 fun l hl=>?_,h2⟩
 have:=h.2 l hl
 omega
theorem gj {c:List Int}(h1:c.length<=12)(h2:∀ l∈c,l.natAbs<=12):(∀ s∈(c++[0]).map cB,s.length<=14)/\((c++[0]).map cB).length<=13:=by
 refine⟨fun s hs=>?_,by rw[List.length_map,List.length_append,List.length_singleton];omega⟩
 obtain⟨i,hi,rfl⟩:=List.mem_map.mp hs
 refine ir ?_
 rcases List.mem_append.mp hi with w|w
 ·exact h2 i w
 ·rw[List.mem_singleton.mp w];decide
theorem ei:(Str.ofString " ").length=1:=by decide+kernel
theorem gI:(Str.ofString "\n").length=1:=by decide+kernel
theorem oA {c:List Int}(h1:c.length<=12)(h2:∀ l∈c,l.natAbs<=12):(dD c).length<=195:=by
 obtain⟨a,b⟩:=gj h1 h2
 exact gH a b ei
theorem iu {t:Str}(h:t.length<=100):(bG t).length<=195/\1<=(bG t).length:=by
 unfold bG
 have e:t.cps.toList.length=t.length:=Array.length_toList
 split
 ·rw[show (Str.ofString "-").length=1 from by decide+kernel];omega
 ·rename_i hne
  have:=List.length_pos_iff.mpr hne
  omega
theorem fM {t:Str}{cs:List (List Int)}(h:lb t cs):(bT t cs).length<=201/\∀ s∈bT t cs,s.length<=195:=by
 refine⟨?_,fun s hs=>?_⟩
 ·unfold bT
  rw[List.length_cons,List.length_map]
  have:=h.cl
  omega
 ·rcases List.mem_cons.mp hs with rfl|hs
  ·exact (iu h.tl).1
  ·obtain⟨c,hc,rfl⟩:=List.mem_map.mp hs
   exact oA (h.ll c hc) (h.nl c hc)
theorem mC {t:Str}{cs:List (List Int)}(h:lb t cs):(Txt.join (Str.ofString "\n") (bT t cs)).length<=40000/\1<=(Txt.join (Str.ofString "\n") (bT t cs)).length:=by
 obtain⟨a,b⟩:=fM h
 refine⟨Nat.le_trans (gH b a gI) (by decide),?_⟩
 rw[dE]
 unfold bT
 rw[List.map_cons,List.sum_cons]
 have:=(iu h.tl).2
 omega
theorem jf (x y:Str):Txt.join y (Txt.split x y)=x:=by
 unfold Txt.split Txt.join
 split
 ·unfold glued;rfl
 ·split
  ·unfold glued;rfl
  ·exact PySem.StrLaws.glued_between_self x y _
theorem lg (x y:Str)(h:y.length=1):((Txt.split x y).map (·.length)).sum+(Txt.split x y).length<=x.length+1:=by
 have e:=congrArg Str.length (jf x y)
 rw[dE,h] at e
 have:=PyProof.Rows.split_pos x y
 omega
theorem jT (o:Str):∀ (ws:List Str) (j:Nat),((ws.set j o).map (·.length)).sum<=(ws.map (·.length)).sum+o.length
 |[],_=>Nat.zero_le _
 |a::r,0=>by
  rw[List.set_cons_zero,List.map_cons,List.map_cons,List.sum_cons,List.sum_cons]
  omega
 |a::r,j+1=>by
  rw[List.set_cons_succ,List.map_cons,List.map_cons,List.sum_cons,List.sum_cons]
  have:=jT o r j
  omega
end OD
namespace K85
open PySem L2 OD
def dG (i:Nat):Stmt:=PySem.Challenge.pw_oathduel_k85_sentences_written_down.main.body.getD i (.Pass ⟨0,0,0,0⟩)
abbrev mD:Stmt:=dG 29
abbrev jg:Stmt:=dG 31
abbrev jh:Stmt:=dG 32
abbrev mE:Stmt:=dG 33
abbrev jj:Stmt:=dG 34
abbrev mF:Stmt:=dG 35
structure qv (mg:Str->Option Value):Prop where
 len:mg "len"=none
 range:mg "range"=none
 tuple:mg "tuple"=none
 list:mg "list"=none
 sorted:mg "sorted"=none
 sum:mg "sum"=none
def gJ (K:PySem.W.Frag):Sp:=fun vs H Q _=>∃ (a:Addr) (ns:List Int) (k:Int),vs=[.ref a,.int k]/\SqL K H a (ns.map V.int)/\0<=k/\∀ c:Int,Q (.int c) H
def dH:Sp:=fun vs H Q _=>∃ c k:Int,vs=[.int c,.int k]/\∀ m:Int,0<=m->m < 2147483587->Q (.int m) H
def jU (K:PySem.W.Frag):Sp:=fun vs H Q _=>∃ (a b:Addr) (ns zs:List Int),vs=[.ref a,.ref b]/\SqL K H a (ns.map V.int)/\H b=some (.lst (zs.map V.int))/\zs.length<=10/\(∀ z∈zs,0 < z/\z < 1073741824)/\
 ∀ (p:Addr) (rs:List Int) (H':Hp),Same H H'->H' p=some (.lst (rs.map V.int))->rs.length=zs.length->(∀ (i:Nat) (r z:Int),rs[i]? =some r->zs[i]? =some z->0<=r/\r < z)->Q (.ref p) H'
def iw (n:Int)(H:Hp)(Q:VK):Prop:=∀ (p:Addr) (ls:List Int) (H':Hp),Same H H'->H' p=some (.tup (ls.map V.int))->c8 n ls->Q (.ref p) H'
def mG:Sp:=fun vs H Q _=>∃ c n:Int,vs=[.int c,.int n]/\0<=n/\n < 1000/\iw n H Q
def jV:Sp:=fun vs H Q _=>∃ c k n:Int,vs=[.int c,.int k,.int n]/\0<=n/\n < 1000/\iw n H Q
def mH (K:PySem.W.Frag):Sp:=fun vs H Q _=>∃ (a:Addr) (ns:List Int) (most:Int),vs=[.ref a,.int most]/\SqL K H a (ns.map V.int)/\ns.length<=63/\0<=most/\most < 20/\
 ∀ (p:Addr) (t:Str) (cs:List (List Int)) (H':Hp),Same H H'->RD H' (bJ t cs) (.ref p)->tz most t cs->Q (.ref p) H'
section
variable {P:Program}{w:World}{K:PySem.W.Frag}{mg:Str->Option Value}{base:Heap}
theorem qw:ax ["_law_script","_law_k"] ["_law_script","_law_k"] (al mD):=⟨rfl,rfl,rfl,by decide+kernel,rfl,by decide+kernel,by decide+kernel⟩
theorem oB {f:Addr}{fd:FuncData}(F:Fun K "_law_cell_at" "_law_cell_at" mD f fd)(T:qv mg):aU P w K mg base cX 1 f fd ["_law_script","_law_k"] (gJ K):=by
 refine F.ok qw (fun vs H Q E h=>?_) (fun cdv A outer s H vs Q E hr h=>?_)
 ·obtain⟨a,ns,k,rfl,_⟩:=h
  rfl
 obtain⟨a,ns,k,rfl,hS,h0,q⟩:=h
 refine⟨_,(ae (aD (ao jA (pv 1) (ai aJ rfl T.len PySem.boot_len (aa (pv 0) ac)) (ar _)) (ag (au (aF ay (pv 0) (pv 1) (fun _ _=>rfl)))) aq)
  (ag (au af))),?_⟩
 refine⟨_,rfl,_,rfl,.ref a,_,rfl,.inl ⟨_,hS,rfl⟩,_,_,rfl,rfl,_,rfl,?_⟩
 refine bv (fun c=>?_) (fun c=>?_)
 ·have c':k < (((ns.map V.int).length:Nat):Int):=of_decide_eq_true c
  rw[List.length_map] at c'
  obtain⟨v,_,hv⟩:=g7 (ns:=ns) h0 c'
  exact⟨_,rfl,_,rfl,.inl ⟨a,_,k,.int v,rfl,rfl,hS,hv,q v⟩⟩
 ·exact q 0
theorem jW:ax ["_law_cell","_law_k","_law_number_here"] ["_law_cell","_law_k"] (al jg):=⟨rfl,rfl,rfl,by decide+kernel,rfl,by decide+kernel,by decide+kernel⟩
theorem mI {f:Addr}{fd:FuncData}(F:Fun K "_law_mixed" "_law_mixed" jg f fd):aU P w K mg base cX 1 f fd ["_law_cell","_law_k"] dH:=by
 have sc:=jW
 refine F.ok jW (fun vs H Q E h=>?_) (fun cdv A outer s H vs Q E hr h=>?_)
 ·obtain⟨c,k,rfl,_⟩:=h
  rfl
 obtain⟨c,k,rfl,q⟩:=h
 refine⟨_,(ae (ak (i:=2) sc.nd rfl (Or.inl rfl) (aj aA (aj aY (aj aY (aj bU (aj aA (pv 0) af) af) (aj bU (pv 1) af)) af) af))
  (ae (ak (i:=2) sc.nd rfl (Or.inl rfl) (aj aA (aj bU (pv 2) (pv 2)) af))
  (ag (au (aj aA (aj bU (pv 2) (pv 2)) af))))),?_⟩
 refine⟨_,rfl,_,_,rfl,rfl,(by show (0:Int) < 2147483647;decide),_,_,rfl,rfl,.inr ⟨by decide,by decide⟩,_,rfl,_,_,rfl,rfl,.inr ⟨by decide,by decide⟩,_,_,rfl,rfl,_,_,rfl,rfl,_,_,rfl,rfl,(by show (0:Int) < 2147483647;decide),?_⟩
 have b1:=Int.emod_nonneg (c % 2147483647*48271+k*69621+11) (show (2147483647:Int)≠0 by decide)
 have b2:=Int.emod_lt_of_pos (c % 2147483647*48271+k*69621+11) (show (0:Int) < 2147483647 by decide)
 generalize (c % 2147483647*48271+k*69621+11) % 2147483647=n at b1 b2
 refine⟨_,rfl,_,rfl,_,_,rfl,rfl,.inl ⟨by omega,by omega⟩,_,_,rfl,rfl,(by show (0:Int) < 2147483629;decide),?_⟩
 have d1:=Int.emod_nonneg (n*n) (show (2147483629:Int)≠0 by decide)
 have d2:=Int.emod_lt_of_pos (n*n) (show (0:Int) < 2147483629 by decide)
 generalize n*n % 2147483629=o at d1 d2
 refine⟨_,rfl,_,rfl,_,_,rfl,rfl,.inl ⟨by omega,by omega⟩,_,_,rfl,rfl,(by show (0:Int) < 2147483587;decide),?_⟩
 exact q _ (Int.emod_nonneg _ (by decide)) (Int.emod_lt_of_pos _ (by decide))
theorem jX:ax ["_law_script","_law_sizes","_law_rest","_law_found","_law_k"] ["_law_script","_law_sizes"] (al jh):=⟨rfl,rfl,rfl,by decide+kernel,rfl,by decide+kernel,by decide+kernel⟩
theorem mJ {f f1 f2:Addr}{fd d1 d2:FuncData}(F:Fun K "_law_first" "_law_first" jh f fd)(T:qv mg)(G_law_cell_at:Fn P w K mg base 1 "_law_cell_at" f1 d1 ["_law_script","_law_k"] (gJ K))(G_law_mixed:Fn P w K mg base 1 "_law_mixed" f2 d2 ["_law_cell","_law_k"] dH):
  aU P w K mg base cX 2 f fd ["_law_script","_law_sizes"] (jU K):=by
 have sc:=jX
 refine F.ok jX (fun vs H Q E h=>?_) (fun cdv A outer s H vs Q E hr h=>?_)
 ·obtain⟨a,b,ns,zs,rfl,_⟩:=h
  rfl
 obtain⟨a,b,ns,zs,rfl,hS,hb,h10,hz,q⟩:=h
 have hu:=hr.units
 have hL:(zs.map V.int).length=zs.length:=List.length_map _
 refine⟨_,(ae (ak (i:=2) sc.nd rfl (Or.inl rfl) (aj bg (aI G_law_cell_at hr (by omega) rfl (aa (pv 0) (aa af ac))) af))
  (ae (ak (i:=3) sc.nd rfl (Or.inl rfl) (bu ac))
  (ae (cj PassesOwn.never rfl (cn rfl T.range (aa (ai aJ rfl T.len PySem.boot_len (aa (pv 1) ac)) ac)) (az (i:=4) sc.nd rfl (Or.inl rfl))
   (ag (aD (ao (aL hu) (aj aA (aI G_law_cell_at hr (by omega) rfl (aa (pv 0) (aa af ac))) af) af (ar _)) (ae (cf (bi PySem.F.plainAttrs_list PySem.F.slot_list_append PySem.F.type_list_append bL (pv 3) (aa (aj aA (pv 2) (aF ay (pv 1) (pv 4) (fun _ _=>rfl))) ac)))
    (ag (ak (i:=2) sc.nd rfl (Or.inl rfl) (aj bg (pv 2) (aF ay (pv 1) (pv 4) (fun _ _=>rfl)))))) (ag (cf (bi PySem.F.plainAttrs_list PySem.F.slot_list_append PySem.F.type_list_append bL (pv 3) (aa (aj aA (aI G_law_mixed hr (by omega) rfl (aa (pv 2) (aa (aj aY (pv 4) af) ac))) (aF ay (pv 1) (pv 4) (fun _ _=>rfl))) ac)))))))
  (ag (au (pv 3)))))),?_⟩
 refine⟨_,rfl,a,ns,0,rfl,hS,Int.le_refl 0,fun c=>?_⟩
 refine⟨_,_,rfl,rfl,⟨by decide,by decide⟩,Nat.zero_le _,fun p hp=>?_⟩
 have hb1:upd H p (.lst []) b=some (.lst (zs.map V.int)):=by rw[av (ap hb hp)];exact hb
 refine⟨_,rfl,.ref b,_,rfl,.inl ⟨_,SqL.of hb1,rfl⟩,_,rfl,(by omega),(by omega),cP (lo:=0)
  (fun i σ H2=>∃ (rs:List Int) (rest:Int) (kv:Option V),σ=[some (.ref a),some (.ref b),some (.int rest),some (.ref p),kv]/\H2 p=some (.lst (rs.map V.int))/\Same H H2/\rs.length=i/\∀ (j:Nat) (r z:Int),rs[j]? =some r->zs[j]? =some z->0<=r/\r < z)
  ⟨[],_,none,rfl,ad,ah hp _,rfl,fun j r z h=>by cases h⟩ ?_ ?_⟩
 ·rintro i σ H2 hi ⟨rs,rest,kv,rfl,hp2,k2,hl,hr2⟩
  have hi':i < zs.length:=by
   have:i < (zs.map V.int).length:=by simpa using hi
   omega
  obtain⟨z,hz1,hz2⟩:=g7 (ns:=zs) (i:=0+(i:Int)) (by omega) (by omega)
  have hz1':zs[i]? =some z:=by simpa using hz1
  obtain⟨z0,z1⟩:=hz z (List.mem_of_getElem? hz1')
  have hb2:=k2 _ _ hb
  have hsz:(rs.map V.int).length < sizeLine:=by rw[List.length_map];exact aQ (by omega)
  have step:∀ x:Int,0<=x->x < z->∀ (j:Nat) (r z':Int),(rs++[x])[j]? =some r->zs[j]? =some z'->0<=r/\r < z':=fun x x0 x1 j r z' h1 h2=>by
   rcases Nat.lt_trichotomy j rs.length with h|h|h
   ·rw[List.getElem?_append_left h] at h1
    exact hr2 j r z' h1 h2
   ·subst h
    rw[List.getElem?_append_right (Nat.le_refl _),Nat.sub_self] at h1
    have e1:x=r:=Option.some.inj h1
    rw[hl,hz1'] at h2
    have e2:z=z':=Option.some.inj h2
    rw[← e1,← e2]
    exact⟨x0,x1⟩
   ·rw[List.getElem?_eq_none (by rw[List.length_append,List.length_singleton];omega)] at h1
    cases h1
  refine⟨_,rfl,a,ns,0,rfl,k2.seq hS,Int.le_refl 0,fun c2=>?_⟩
  refine⟨_,_,rfl,rfl,(by show (0:Int) < 2;decide),.inl ⟨rfl,_,rfl,bv (fun _=>?_) (fun _=>?_)⟩⟩
  ·refine⟨_,rfl,.inl ⟨rfl,_,SqL.of hp2⟩,_,rfl,_,rfl,_,rfl,.inl ⟨b,_,_,.int z,rfl,rfl,SqL.of hb2,hz2,?_⟩⟩
   refine⟨_,_,rfl,rfl,z0,p,_,_,rfl,rfl,hp2,hsz,?_⟩
   have npb:b≠p:=ap hb hp
   refine⟨_,rfl,_,rfl,_,rfl,.inl ⟨b,_,_,.int z,rfl,rfl,SqL.of (by rw[av npb];exact hb2),hz2,_,_,rfl,rfl,⟨z0,z1⟩,?_⟩⟩
   exact⟨rs++[rest % z],_,_,rfl,by rw[ad,List.map_append];rfl,k2.upd_new hp _,by rw[List.length_append,hl];rfl,step _ (Int.emod_nonneg _ (by omega)) (Int.emod_lt_of_pos _ z0)⟩
  ·refine⟨_,rfl,.inl ⟨rfl,_,SqL.of hp2⟩,_,rfl,_,rfl,_,_,rfl,rfl,_,_,rfl,fun m hm0 hm1=>?_⟩
   refine⟨_,rfl,_,rfl,.inl ⟨b,_,_,.int z,rfl,rfl,SqL.of hb2,hz2,?_⟩⟩
   refine⟨_,_,rfl,rfl,z0,p,_,_,rfl,rfl,hp2,hsz,?_⟩
   exact⟨rs++[m % z],_,_,rfl,by rw[ad,List.map_append];rfl,k2.upd_new hp _,by rw[List.length_append,hl];rfl,step _ (Int.emod_nonneg _ (by omega)) (Int.emod_lt_of_pos _ z0)⟩
 ·rintro σ H2 ⟨rs,rest,kv,rfl,hp2,k2,hl,hr2⟩
  refine⟨_,rfl,q p rs H2 k2 hp2 ?_ hr2⟩
  rw[hl]
  simpa using hL
theorem fN {H:Hp}{d l D:Addr}{n:Int}{ps:List (Int×Int)}{ks:List Int}{Q:VK}(hd:H d=some (.dK (dP ps)))(hok:DOk n ps)(hn:n < 1000)(hlen:ps.length<=60)(hl:H l=none)(hp:ks.Perm (ps.map (·.1)))(hD:upd H l (.lst (ks.map V.int)) D=none)(σ0:St)(e0:σ0=[none,some (.ref d)])
  (hq:Q (.ref D) (upd (upd H l (.lst (ks.map V.int))) D (.lst ((ks.map fun k=>k*nB ps k).map V.int)))):
  eD (oR K l) D (bW 0) rT (eM (rI CMul fun i j=>.int (i*j)) (bB 0) (oX (bB 1) (bB 0))) σ0 (upd H l (.lst (ks.map V.int))) Q:=by
 have nld:d≠l:=ap hd hl
 have hd1:upd H l (.lst (ks.map V.int)) d=some (.dK (dP ps)):=by rw[av nld];exact hd
 have nD:d≠D:=ap hd1 hD
 have nl:l≠D:=ap ad hD
 have hkl:ks.length=ps.length:=by rw[hp.length_eq,List.length_map]
 refine bA (K:=K) (a:=l) (xs:=ks.map V.int) (fun i σ ys H2=>(∃ v0,σ=[v0,some (.ref d)])/\ys=((ks.take i).map fun k=>V.int (k*nB ps k))/\H2=upd (upd H l (.lst (ks.map V.int))) D (.lst ys))
  ⟨⟨none,e0⟩,rfl,rfl⟩ ?_ ?_ ?_
 ·rintro i σ ys H2 _ ⟨_,_,rfl⟩
  exact⟨ad,SqL.of (by rw[av nl];exact ad)⟩
 ·rintro i x σ ys H2 hx ⟨⟨v0,rfl⟩,hys,rfl⟩
  obtain⟨k,rfl,hk⟩:=cI hx
  have km:k∈ps.map (·.1):=hp.mem_iff.mp (List.mem_of_getElem? hk)
  obtain⟨hlk,hsg⟩:=hok.look km
  have hd2:upd (upd H l (.lst (ks.map V.int))) D (.lst ys) d=some (.dK (dP ps)):=by rw[av nD];exact hd1
  have hv:DGet (upd (upd H l (.lst (ks.map V.int))) D (.lst ys)) d (.int k) (some (.int (nB ps k))):=by
   have z:=DGet.k (k:=Sum.inl k) hd2
   rw[p_,hlk] at z
   exact z
  have hil:i < ks.length:=(List.getElem?_eq_some_iff.mp hk).1
  have hyl:ys.length<=60:=by
   rw[hys,List.length_map,List.length_take]
   omega
  refine bE ⟨_,rfl,_,rfl,_,rfl,d,_,rfl,hv,_,_,rfl,rfl,.inr ⟨by omega,by omega⟩,ad,aQ (by omega),⟨_,rfl⟩,?_,cO⟩
  rw[hys,List.take_add_one,hk,List.map_append]
  rfl
 ·rintro σ ys H2 ⟨_,hys,rfl⟩
  rw[List.length_map,List.take_of_length_le (Nat.le_refl _)] at hys
  rw[hys]
  rw[List.map_map] at hq
  exact hq
theorem mK:ax ["_law_cell","_law_count","_law_signs","_law_size","_law_j"] ["_law_cell","_law_count"] (al mE):=⟨rfl,rfl,rfl,by decide+kernel,rfl,by decide+kernel,by decide+kernel⟩
theorem oD {f:Addr}{fd:FuncData}(F:Fun K "_law_free_clause" "_law_free_clause" mE f fd)(T:qv mg):aU P w K mg base cX 1 f fd ["_law_cell","_law_count"] mG:=by
 have sc:=mK
 refine F.ok mK (fun vs H Q E h=>?_) (fun cdv A outer s H vs Q E hr h=>?_)
 ·obtain⟨c,n,rfl,_⟩:=h
  rfl
 obtain⟨c,n,rfl,n0,n1,q⟩:=h
 have hu:=hr.units
 have hu1:=oY hr
 refine⟨_,(ae (ak (i:=2) sc.nd rfl (Or.inr rfl) gY)
  (ae (ak (i:=3) sc.nd rfl (Or.inl rfl) (aj aA (pv 0) af))
  (ae (ak (i:=0) sc.nd rfl (Or.inl rfl) (aj bg (pv 0) af))
  (ae (cj PassesOwn.never rfl (cn rfl T.range (aa (pv 3) ac)) (az (i:=4) sc.nd rfl (Or.inl rfl))
   (ag (aD (ao di (pv 1) af (ar _)) (ae (jH hu1 (pv 2) (aj aY af (aj aA (pv 0) (pv 1))) (aj iO af (aj bU af (aj aA (aj bg (pv 0) (pv 1)) af))) rfl)
    (ag (ak (i:=0) sc.nd rfl (Or.inl rfl) (aj bg (pv 0) (aj bU af (pv 1)))))) aq)))
  (ag (au (aP bN rfl T.tuple PyProof.Rows.boot_tuple (aa (bw (NY:=["_law_variable","_law_signs"]) (idx:=[none,some 2]) rfl ⟨by with_unfolding_all rfl,(by with_unfolding_all exact⟨rfl,trivial⟩),fun _=>by rfl,by rfl,by rfl,by rfl,by decide⟩ (bn (ai (eF rfl) rfl T.sorted PyProof.Rows.boot_sorted (aa (pv 2) ac))) (fun _ _ _ _=>(az (i:=0) (show List.Nodup (["_law_variable","_law_signs"]:List Str) by decide+kernel) rfl (Or.inl rfl))) (fun _ _ _ _=>bp) (fun _ _ _ _=>(aj bU (pv 0) (jG hu1 (pv 1) (pv 0) (fun _ _=>rfl))))) ac)))))))),?_⟩
 intro d hd
 have c5:=Int.emod_nonneg c (show (5:Int)≠0 by decide)
 have c5':=Int.emod_lt_of_pos c (show (0:Int) < 5 by decide)
 refine⟨_,rfl,_,_,rfl,rfl,(by show (0:Int) < 5;decide),_,rfl,_,_,rfl,rfl,⟨by decide,by decide⟩,?_⟩
 refine⟨_,rfl,c % 5,rfl,(by omega),(by omega),cP (lo:=0) (n:=(c % 5).toNat)
  (fun i σ H2=>∃ (cc:Int) (ps:List (Int×Int)) (jv:Option V),σ=[some (.int cc),some (.int n),some (.ref d),some (.int (c % 5)),jv]/\H2 d=some (.dK (dP ps))/\Same H H2/\DOk n ps/\ps.length<=i)
  ⟨_,[],none,rfl,ad,ah hd _,DOk.nil n,Nat.le_refl _⟩ ?_ ?_⟩
 ·rintro i σ H2 hi ⟨cc,ps,jv,rfl,hd2,k2,hok,hl⟩
  refine⟨_,rfl,_,_,rfl,rfl,_,rfl,bv (fun g=>?_) (fun g=>?_)⟩
  ·have g':0 < n:=of_decide_eq_true g
   have m1:=Int.emod_nonneg cc (show n≠0 by omega)
   have m2:=Int.emod_lt_of_pos cc g'
   have s1:=Int.emod_nonneg (cc / n) (show (2:Int)≠0 by decide)
   have s2:=Int.emod_lt_of_pos (cc / n) (show (0:Int) < 2 by decide)
   refine⟨_,rfl,_,rfl,_,_,rfl,rfl,⟨g',by omega⟩,_,_,rfl,rfl,(by show (0:Int) < 2;decide),_,_,rfl,rfl,.inl ⟨by decide,by decide⟩,_,_,rfl,rfl,?_⟩
   refine⟨_,rfl,_,rfl,_,rfl,_,_,rfl,rfl,g',_,_,rfl,rfl,d,_,rfl,DPut.k (k:=Sum.inl (1+cc % n)) hd2 (by unfold dP;rw[List.length_map];exact aQ (by omega)),?_⟩
   refine⟨_,rfl,_,rfl,_,_,rfl,rfl,.inl ⟨by decide,by decide⟩,_,_,rfl,rfl,⟨by omega,by omega⟩,?_⟩
   obtain⟨o1,o2⟩:=hok.put (k:=1+cc % n) (s:=1 - 2*(cc / n % 2)) (by omega) (by omega)
   refine⟨_,iX ps (1+cc % n) (1 - 2*(cc / n % 2)),_,rfl,?_,k2.upd_new hd _,o1,by omega⟩
   rw[ad]
   exact congrArg (fun z=>some (HO.dK z)) (lW _ _ _)
  ·exact⟨cc,ps,_,rfl,hd2,k2,hok,by omega⟩
 ·rintro σ H2 ⟨cc,ps,jv,rfl,hd2,k2,hok,hl⟩
  refine⟨_,rfl,d,dP ps,ps.map (·.1),rfl,hd2,jM ps,by rw[List.length_map];omega,fun l ks hl' hperm hpw=>⟨l,rfl,⟨_,SqL.of ad⟩,fun D hD=>?_⟩⟩
  refine fN hd2 hok n1 (by omega) hl' hperm hD _ rfl ?_
  refine⟨D,_,rfl,.inl ⟨SqL.of ad,fun t ht=>?_⟩⟩
  have k3:=k2.upd_new (k2.free hl') (.lst (ks.map V.int))
  have k4:=k3.upd_new (k3.free hD) (.lst ((ks.map fun k=>k*nB ps k).map V.int))
  exact q t _ _ (k4.upd_new (k4.free ht) _) ad (hok.clause hperm hpw)
theorem jY:ax ["_law_cell","_law_k","_law_count","_law_signs","_law_j","_law_other"] ["_law_cell","_law_k","_law_count"] (al jj):=⟨rfl,rfl,rfl,by decide+kernel,rfl,by decide+kernel,by decide+kernel⟩
theorem mL {f f2:Addr}{fd d2:FuncData}(F:Fun K "_law_drawn" "_law_drawn" jj f fd)(T:qv mg)(G_law_mixed:Fn P w K mg base 1 "_law_mixed" f2 d2 ["_law_cell","_law_k"] dH):aU P w K mg base cX 2 f fd ["_law_cell","_law_k","_law_count"] jV:=by
 have sc:=jY
 refine F.ok jY (fun vs H Q E h=>?_) (fun cdv A outer s H vs Q E hr h=>?_)
 ·obtain⟨c,k,n,rfl,_⟩:=h
  rfl
 obtain⟨c,k,n,rfl,n0,n1,q⟩:=h
 have hu:=hr.units
 have hu1:=oY hr
 refine⟨_,(ae (ak (i:=3) sc.nd rfl (Or.inr rfl) gY)
  (ae (cj PassesOwn.never rfl (cn rfl T.range (aa (aj aY af (aj aA (aI G_law_mixed hr (by omega) rfl (aa (pv 0) (aa (aj aY (pv 1) af) ac))) af)) ac)) (az (i:=4) sc.nd rfl (Or.inl rfl))
   (ae (ak (i:=5) sc.nd rfl (Or.inl rfl) (aI G_law_mixed hr (by omega) rfl (aa (pv 0) (aa (aj aY (aj aY af (aj bU af (pv 4))) (pv 1)) ac))))
   (ag (aD (ao di (pv 2) af (ar _)) (ag (jH hu1 (pv 3) (aj aY af (aj aA (pv 5) (pv 2))) (aj iO af (aj bU af (aj aA (aj bg (pv 5) af) af))) rfl)) aq))))
  (ag (au (aP bN rfl T.tuple PyProof.Rows.boot_tuple (aa (bw (NY:=["_law_variable","_law_signs"]) (idx:=[none,some 3]) rfl ⟨by with_unfolding_all rfl,(by with_unfolding_all exact⟨rfl,trivial⟩),fun _=>by rfl,by rfl,by rfl,by rfl,by decide⟩ (bn (ai (eF rfl) rfl T.sorted PyProof.Rows.boot_sorted (aa (pv 3) ac))) (fun _ _ _ _=>(az (i:=0) (show List.Nodup (["_law_variable","_law_signs"]:List Str) by decide+kernel) rfl (Or.inl rfl))) (fun _ _ _ _=>bp) (fun _ _ _ _=>(aj bU (pv 0) (jG hu1 (pv 1) (pv 0) (fun _ _=>rfl))))) ac)))))),?_⟩
 intro d hd
 refine⟨_,rfl,_,rfl,_,_,rfl,rfl,_,_,rfl,fun m hm0 hm1=>?_⟩
 have m4:=Int.emod_nonneg m (show (4:Int)≠0 by decide)
 have m4':=Int.emod_lt_of_pos m (show (0:Int) < 4 by decide)
 refine⟨_,_,rfl,rfl,(by show (0:Int) < 4;decide),_,_,rfl,rfl,1+m % 4,rfl,(by omega),(by omega),cP (lo:=0) (n:=(1+m % 4).toNat)
  (fun i σ H2=>∃ (ps:List (Int×Int)) (jv ov:Option V),σ=[some (.int c),some (.int k),some (.int n),some (.ref d),jv,ov]/\H2 d=some (.dK (dP ps))/\Same H H2/\DOk n ps/\ps.length<=i)
  ⟨[],none,none,rfl,ad,ah hd _,DOk.nil n,Nat.le_refl _⟩ ?_ ?_⟩
 ·rintro i σ H2 hi ⟨ps,jv,ov,rfl,hd2,k2,hok,hl⟩
  refine⟨_,rfl,_,rfl,_,_,rfl,rfl,.inl ⟨by decide,by decide⟩,_,_,rfl,rfl,_,rfl,_,_,rfl,rfl,_,_,rfl,fun o ho0 ho1=>?_⟩
  refine⟨_,rfl,_,_,rfl,rfl,_,rfl,bv (fun g=>?_) (fun g=>?_)⟩
  ·have g':0 < n:=of_decide_eq_true g
   have m1:=Int.emod_nonneg o (show n≠0 by omega)
   have m2:=Int.emod_lt_of_pos o g'
   have s1:=Int.emod_nonneg (o / 1000) (show (2:Int)≠0 by decide)
   have s2:=Int.emod_lt_of_pos (o / 1000) (show (0:Int) < 2 by decide)
   refine⟨_,rfl,_,_,rfl,rfl,⟨by decide,by decide⟩,_,_,rfl,rfl,(by show (0:Int) < 2;decide),_,_,rfl,rfl,.inl ⟨by decide,by decide⟩,_,_,rfl,rfl,?_⟩
   refine⟨_,rfl,_,rfl,_,rfl,_,_,rfl,rfl,g',_,_,rfl,rfl,d,_,rfl,DPut.k (k:=Sum.inl (1+o % n)) hd2 (by unfold dP;rw[List.length_map];exact aQ (by omega)),?_⟩
   obtain⟨o1,o2⟩:=hok.put (k:=1+o % n) (s:=1 - 2*(o / 1000 % 2)) (by omega) (by omega)
   refine⟨iX ps (1+o % n) (1 - 2*(o / 1000 % 2)),_,_,rfl,?_,k2.upd_new hd _,o1,by omega⟩
   rw[ad]
   exact congrArg (fun z=>some (HO.dK z)) (lW _ _ _)
  ·exact⟨ps,_,_,rfl,hd2,k2,hok,by omega⟩
 ·rintro σ H2 ⟨ps,jv,ov,rfl,hd2,k2,hok,hl⟩
  refine⟨_,rfl,d,dP ps,ps.map (·.1),rfl,hd2,jM ps,by rw[List.length_map];omega,fun l ks hl' hperm hpw=>⟨l,rfl,⟨_,SqL.of ad⟩,fun D hD=>?_⟩⟩
  refine fN hd2 hok n1 (by omega) hl' hperm hD _ rfl ?_
  refine⟨D,_,rfl,.inl ⟨SqL.of ad,fun t ht=>?_⟩⟩
  have k3:=k2.upd_new (k2.free hl') (.lst (ks.map V.int))
  have k4:=k3.upd_new (k3.free hD) (.lst ((ks.map fun k=>k*nB ps k).map V.int))
  exact q t _ _ (k4.upd_new (k4.free ht) _) ad (hok.clause hperm hpw)
end
end K85
namespace K85
open PySem L2 OD
section
variable {P:Program}{w:World}{K:PySem.W.Frag}{mg:Str->Option Value}{base:Heap}
theorem rO {rs:List Int}(h:rs.length=3):∃ x y z,rs=[x,y,z]:=by
 match rs,h with
 |[x,y,z],_=>exact⟨x,y,z,rfl⟩
theorem mM {ns:List Int}{r:Int}(h0:0<=r)(h1:r<=16):(b8 (ns.map V.int) (some 1) (some (1+r))).length<=16:=by
 unfold b8
 have e1:HT.sIx (ns.map V.int).length 0 (some 1)=min 1 (ns.map V.int).length:=HT.sIx_nat _ 0 1
 have e2:HT.sIx (ns.map V.int).length (ns.map V.int).length (some (1+r))=min (1+r.toNat) (ns.map V.int).length:=by
  have e:(1+r:Int)=((1+r.toNat:Nat):Int):=by omega
  rw[e]
  exact HT.sIx_nat _ _ _
 rw[e1,e2,List.length_take,List.length_drop]
 omega
theorem mO:ax ["_law_script","_law_most","_law_count","_law_bits","_law_many","_law_turns","_law_clauses","_law_k","_law_cell","_law_number_here","_law_clause"] ["_law_script","_law_most"] (al mF):=⟨rfl,rfl,rfl,by decide+kernel,rfl,by decide+kernel,by decide+kernel⟩
theorem oE {f f1 f2 f3 f4 f5:Addr}{fd d1 d2 d3 d4 d5:FuncData}(F:Fun K "_law_sentence" "_law_sentence" mF f fd)(T:qv mg)(G_law_cell_at:Fn P w K mg base 1 "_law_cell_at" f1 d1 ["_law_script","_law_k"] (gJ K))(G_law_mixed:Fn P w K mg base 1 "_law_mixed" f2 d2 ["_law_cell","_law_k"] dH)
  (G_law_first:Fn P w K mg base 2 "_law_first" f3 d3 ["_law_script","_law_sizes"] (jU K)) (G_law_free_clause:Fn P w K mg base 1 "_law_free_clause" f4 d4 ["_law_cell","_law_count"] mG) (G_law_drawn:Fn P w K mg base 2 "_law_drawn" f5 d5 ["_law_cell","_law_k","_law_count"] jV):
  aU P w K mg base cX 3 f fd ["_law_script","_law_most"] (mH K):=by
 have sc:=mO
 refine F.ok mO (fun vs H Q E h=>?_) (fun cdv A outer s H vs Q E hr h=>?_)
 ·obtain⟨a,ns,most,rfl,_⟩:=h
  rfl
 obtain⟨a,ns,most,rfl,hS,h63,o0,o1,q⟩:=h
 have hu:=hr.units
 refine⟨_,(ae (dJ (aI G_law_first hr (by omega) rfl (aa (pv 0) (aa (bu (aa (aj aY (pv 1) af) (aa af (aa af ac)))) ac))) (lR rfl (b6 (az (i:=2) sc.nd rfl (Or.inr rfl)) (b6 (az (i:=3) sc.nd rfl (Or.inr rfl)) (b6 (az (i:=4) sc.nd rfl (Or.inl rfl)) gp)))))
  (ae (ak (i:=5) sc.nd rfl (Or.inl rfl) (bi PySem.F.plainAttrs_str PySem.F.slot_str_join PySem.F.type_str_join cy am (aa (bw (NY:=["_law_k","_law_bits"]) (idx:=[none,some 3]) rfl ⟨by with_unfolding_all rfl,(by with_unfolding_all exact⟨rfl,trivial⟩),fun _=>by rfl,by rfl,by rfl,by rfl,by decide⟩ (cn rfl T.range (aa (pv 2) ac)) (fun _ _ _ _=>(az (i:=0) (show List.Nodup (["_law_k","_law_bits"]:List Str) by decide+kernel) rfl (Or.inl rfl))) (fun _ _ _ _=>bp) (fun _ _ _ _=>(aF (nW (K:=K) rfl) am (aj pH (aj pG (pv 1) (pv 0)) af) (fun _ _=>rfl)))) ac)))
  (ae (aD (ao (aL hu) (aj aA (aI G_law_cell_at hr (by omega) rfl (aa (pv 0) (aa af ac))) af) af (ar _)) (ag (au (b7 (aa (pv 5) (aa (bw (NY:=["_law_cell","_law_count"]) (idx:=[none,some 2]) rfl ⟨by with_unfolding_all rfl,(by with_unfolding_all exact⟨rfl,trivial⟩),fun _=>by rfl,by rfl,by rfl,by rfl,by decide⟩ (bn (aE cQ (pv 0) (aC af) (aC (aj aY af (pv 4))))) (fun _ _ _ _=>(az (i:=0) (show List.Nodup (["_law_cell","_law_count"]:List Str) by decide+kernel) rfl (Or.inl rfl))) (fun _ _ _ _=>bp) (fun _ _ _ _=>(aI G_law_free_clause hr (by omega) rfl (aa (pv 0) (aa (pv 1) ac))))) ac))))) aq)
  (ae (aD (ao di (aj aA (pv 3) af) af (ar _)) (ag (ak (i:=4) sc.nd rfl (Or.inl rfl) (aj bg (pv 4) af))) aq)
  (ae (ak (i:=6) sc.nd rfl (Or.inl rfl) (bu ac))
  (ae (cj PassesOwn.never rfl (cn rfl T.range (aa (pv 4) ac)) (az (i:=7) sc.nd rfl (Or.inl rfl))
   (ae (ak (i:=8) sc.nd rfl (Or.inl rfl) (ai (lS rfl) rfl T.sum PyProof.Rows.boot_sum (aa (kJ (pv 0) (aC (aj aY af (pv 7))) (aC af) (aC (pv 4))) ac)))
   (ae (ak (i:=9) sc.nd rfl (Or.inl rfl) (aI G_law_mixed hr (by omega) rfl (aa (pv 8) (aa (aj aY (pv 7) af) ac))))
   (ae (ak (i:=10) sc.nd rfl (Or.inl rfl) (aI G_law_drawn hr (by omega) rfl (aa (pv 8) (aa (pv 7) (aa (pv 2) ac)))))
   (ae (aD (ao (aL hu) (aj aA (pv 9) af) af (ar _)) (ag (ak (i:=10) sc.nd rfl (Or.inl rfl) (b7 ac))) aq)
   (ae (aD (PW.pt (gn (ao (aL hu) (aj aA (aj bg (pv 9) af) af) af (ar _)) (eJ (ao (bM hu) (pv 6) (bu ac) (ar _))))) (ag (ak (i:=10) sc.nd rfl (Or.inl rfl) (aF ay (pv 6) (aj aA (aj bg (pv 9) af) (ai aJ rfl T.len PySem.boot_len (aa (pv 6) ac))) (fun _ _=>rfl)))) aq)
   (ag (aD (PW.pt (bD (ao (bM hu) (pv 10) (b7 ac) (ar _)) (br (ao (aL hu) (aj aA (pv 9) af) af (ar _))))) (ag (cf (bi PySem.F.plainAttrs_list PySem.F.slot_list_append PySem.F.type_list_append bL (pv 6) (aa (pv 10) ac)))) aq))))))))
  (ag (au (b7 (aa (pv 5) (aa (pv 6) ac))))))))))),?_⟩
 refine⟨_,rfl,_,rfl,_,_,rfl,rfl,(by show 3<=sizeLine;decide),fun b hb=>?_⟩
 refine⟨a,b,ns,[most+1,4096,17],rfl,(ah hb _).seq hS,ad,(by show 3<=10;decide),fun z hz=>?_,fun p rs H1 k1 hp hlen hrs=>?_⟩
 ·rcases List.mem_cons.mp hz with rfl|hz
  ·omega
  ·rcases List.mem_cons.mp hz with rfl|hz
   ·omega
   ·rw[List.mem_singleton.mp hz]
    omega
 obtain⟨r0,r1,r2,rfl⟩:=rO (rs:=rs) hlen
 obtain⟨x0,x1⟩:=hrs 0 r0 (most+1) rfl rfl
 obtain⟨y0,y1⟩:=hrs 1 r1 4096 rfl rfl
 obtain⟨z0,z1⟩:=hrs 2 r2 17 rfl rfl
 have k1':Same H H1:=(ah hb _).trans k1
 clear k1
 refine⟨p,_,rfl,SqL.of hp,rfl,_,_,rfl,_,_,rfl,_,_,rfl,rfl,?_⟩
 refine⟨rfl,_,rfl,r0,rfl,(by omega),(by omega),fun D hD=>?_⟩
 refine iU (lo:=0) (n:=r0.toNat) (fun i σ ys H2=>(∃ v0,σ=[v0,some (.int r1)])/\(∃ ss:List Str,ys=ss.map V.str/\ss.length=i/\∀ s∈ss,fv s)/\H2=upd H1 D (.lst ys)) ⟨⟨none,rfl⟩,⟨[],rfl,rfl,fun _ h=>nomatch h⟩,rfl⟩ ?_ ?_ ?_
 ·rintro i σ ys H2 _ ⟨_,_,rfl⟩
  exact ad
 ·rintro i σ ys H2 hi ⟨⟨v0,rfl⟩,⟨ss,rfl,hss,hsg⟩,rfl⟩
  have e0:Builtin.bitAnd (r1 / 2 ^ ((0:Int)+(i:Int)).toNat) 1=r1 / 2 ^ ((0:Int)+(i:Int)).toNat % 2:=PyProof.Rows.bitAnd_m1 _
  obtain⟨ch,hch,hs⟩:=rH (j:=Builtin.bitAnd (r1 / 2 ^ ((0:Int)+(i:Int)).toNat) 1) (by rw[e0];exact Int.emod_nonneg _ (by decide)) (by rw[e0];exact Int.emod_lt_of_pos _ (by decide))
  refine bE ⟨_,rfl,_,rfl,_,_,rfl,rfl,(by show (0:Int)<=0+(i:Int);omega),_,_,rfl,rfl,.inr (.inr ⟨_,_,ch,rfl,rfl,(by decide+kernel),hch,ad,(by rw[List.length_map];exact aQ (by omega)),⟨_,rfl⟩,⟨ss++[⟨#[ch]⟩],by rw[List.map_append];rfl,by rw[List.length_append,hss];rfl,fun z hz=>?_⟩,cO⟩)⟩
  rcases List.mem_append.mp hz with w|w
  ·exact hsg z w
  ·rw[List.mem_singleton.mp w]
   exact hs
 rintro σ ys H2 ⟨_,⟨ss,rfl,hss,hsg⟩,rfl⟩
 obtain⟨tl,tw⟩:=lZ hsg
 refine⟨_,D,ss,rfl,rfl,SqL.of ad,?_,?_⟩
 ·rw[gf hsg,show (Str.ofString "").length=0 from by decide+kernel]
  omega
 generalize Txt.join (Str.ofString "") ss=t at tl tw
 have k2:Same H (upd H1 D (.lst (ss.map V.str))):=k1'.upd_new (k1'.free hD) _
 generalize upd H1 D (.lst (ss.map V.str))=H2 at k2
 have tlen:(t.length:Int)=r0:=by omega
 refine⟨_,rfl,a,ns,0,rfl,k2.seq hS,Int.le_refl 0,fun c2=>?_⟩
 refine⟨_,_,rfl,rfl,(by show (0:Int) < 2;decide),.inl ⟨rfl,_,rfl,bv (fun _=>?_) (fun _=>?_)⟩⟩
 ·refine⟨_,rfl,_,rfl,1,rfl,_,rfl,_,_,rfl,rfl,_,rfl,a,_,rfl,k2.seq hS,fun p2 hp2=>⟨p2,rfl,⟨_,SqL.of ad⟩,fun D2 hD2=>?_⟩⟩
  obtain⟨ms,hms,_⟩:=lY ns (some 1) (some (1+r2))
  have hm16:=mM (ns:=ns) z0 (by omega)
  have k3:Same H (upd H2 p2 (.lst (b8 (ns.map V.int) (some 1) (some (1+r2))))):=k2.upd_new (k2.free hp2) _
  have hp3:upd H2 p2 (.lst (b8 (ns.map V.int) (some 1) (some (1+r2)))) p2=some (.lst (b8 (ns.map V.int) (some 1) (some (1+r2)))):=ad
  have nD2:H D2=none:=k3.free hD2
  refine bA (K:=K) (a:=p2) (xs:=b8 (ns.map V.int) (some 1) (some (1+r2))) (fun i σ ys H3=>(∃ v0,σ=[v0,some (.int r0)])/\H3 D2=some (.lst ys)/\Same H H3/\H3 p2=some (.lst (b8 (ns.map V.int) (some 1) (some (1+r2))))/\∃ cs:List (List Int),cs.length=i/\CLs H3 cs ys/\∀ c∈cs,c8 r0 c)
   ⟨⟨none,rfl⟩,ad,k3.upd_new nD2 _,by rw[av (ap hp3 hD2)];exact hp3,[],rfl,.nil,fun _ h=>nomatch h⟩ ?_ ?_ ?_
  ·rintro i σ ys H3 _ ⟨_,h1,_,h2,_⟩
   exact⟨h1,SqL.of h2⟩
  ·rintro i x σ ys H3 hx ⟨⟨v0,rfl⟩,g1,g2,g3,cs,g4,g5,g6⟩
   have hil:i < (b8 (ns.map V.int) (some 1) (some (1+r2))).length:=(List.getElem?_eq_some_iff.mp hx).1
   rw[hms] at hx
   obtain⟨cz,rfl,_⟩:=cI hx
   refine bE ⟨_,rfl,_,rfl,cz,r0,rfl,x0,(by omega),fun t1 ls H4 k4 ht1 hls=>?_⟩
   have h4:=k4 _ _ g1
   have h5:=k4 _ _ g3
   have np:p2≠D2:=ap hp3 hD2
   refine⟨h4,(by rw[← g5.length,g4];exact aQ (by omega)),⟨_,rfl⟩,ad,(g2.trans k4).upd_new nD2 _,by rw[av np];exact h5,cs++[ls],by rw[List.length_append,g4];rfl,CLs.snoc (CL.upd ⟨t1,rfl,ht1⟩ h4) ((g5.mono k4).upd h4),fun c hc=>?_⟩
   rcases List.mem_append.mp hc with w|w
   ·exact g6 c w
   ·rw[List.mem_singleton.mp w]
    exact hls
  ·rintro σ ys H3 ⟨_,g1,g2,g3,cs,g4,g5,g6⟩
   refine⟨(by show 2<=sizeLine;decide),fun p5 hp5=>?_⟩
   have k5:Same H3 (upd H3 p5 (.tup [.str t,.ref D2])):=ah hp5 _
   refine q p5 t cs _ (g2.trans k5) (bZ ad (k5 _ _ g1) (g5.mono k5)) ⟨by omega,tw,by omega,fun c hc=>?_⟩
   rw[tlen]
   exact g6 c hc
 refine kM (bits:=r1) (mm:=r2) rfl rfl z0 (by omega) (fun mm mm0 mm1=>?_) rfl
 refine⟨Nat.zero_le _,fun qa hqa=>?_⟩
 have nqa:H qa=none:=k2.free hqa
 refine⟨_,rfl,mm,rfl,(by omega),(by omega),cP (lo:=0) (n:=mm.toNat)
  (fun i σ H3=>∃ (xs:List V) (cs:List (List Int)) (v7 v8 v9 v10:Option V),σ=[some (.ref a),some (.int most),some (.int r0),some (.int r1),some (.int mm),some (.str t),some (.ref qa),v7,v8,v9,v10]/\H3 qa=some (.lst xs)/\CLs H3 cs xs/\Same H H3/\cs.length<=i/\∀ c∈cs,c8 r0 c)
  ⟨[],[],none,none,none,none,rfl,ad,.nil,k2.upd_new nqa _,Nat.le_refl _,fun _ h=>nomatch h⟩ ?_ ?_⟩
 ·rintro i σ H3 hi ⟨xs,cs,v7,v8,v9,v10,rfl,g1,g2,g3,g4,g5⟩
  refine⟨_,rfl,_,rfl,_,_,rfl,rfl,_,rfl,_,rfl,_,rfl,_,rfl,a,ns,mm,rfl,g3.seq hS,rfl,(by omega),(by omega),fun p3 ms hp3 hms=>?_⟩
  refine⟨p3,ms,rfl,SqL.of ad,?_⟩
  refine⟨_,rfl,_,rfl,_,_,rfl,rfl,_,_,rfl,fun m hm0 hm1=>?_⟩
  refine⟨_,rfl,_,rfl,_,rfl,_,_,r0,rfl,x0,(by omega),fun p4 ls H4 k4 hp4 hls=>?_⟩
  have k5:Same H3 (upd H3 p3 (.lst (ms.map V.int))):=ah hp3 _
  have k6:Same H3 H4:=k5.trans k4
  refine iZ (m:=m) (pc:=p4) (lc:=ls) (n:=r0) rfl hp4 hls rfl fun pc1 lc1 H5 k7 hpc1 hlc1=>?_
  have k8:Same H3 H5:=k6.trans k7
  refine i0 (m:=m) (pc:=pc1) (q:=qa) (lc:=lc1) (n:=r0) (xs:=xs) (cs:=cs) rfl rfl hm0 hpc1 hlc1 rfl (k8 _ _ g1) (g2.mono k8) g5 fun pc2 lc2 H6 k9 hpc2 hlc2=>?_
  have k10:Same H3 H6:=k8.trans k9
  refine ia (m:=m) (pc:=pc2) (q:=qa) (lc:=lc2) (n:=r0) (xs:=xs) (cs:=cs) rfl rfl rfl hpc2 hlc2 (k10 _ _ g1) (g2.mono k10) g5 (by omega) fun xs' cs' H7 keep e1 e2 e3 e4=>?_
  exact⟨xs',cs',_,_,_,_,rfl,e1,e2,fun b o hb=>keep b o (k10 b o (g3 b o hb)) (ap hb nqa),by omega,e3⟩
 ·rintro σ H3 ⟨xs,cs,v7,v8,v9,v10,rfl,g1,g2,g3,g4,g5⟩
  refine⟨_,rfl,_,rfl,(by show 2<=sizeLine;decide),fun p5 hp5=>?_⟩
  have k5:Same H3 (upd H3 p5 (.tup [.str t,.ref qa])):=ah hp5 _
  refine q p5 t cs _ (g3.trans k5) (bZ ad (k5 _ _ g1) (g2.mono k5)) ⟨by omega,tw,by omega,fun c hc=>?_⟩
  rw[tlen]
  exact g5 c hc
end
end K85
namespace K85
open PySem L2 OD
abbrev mP:Stmt:=dG 36
def mQ:Sp:=fun vs H Q _=>∃ (v:V) (t:Str) (cs:List (List Int)),vs=[v]/\RD H (bJ t cs) v/\cs.length<=1000/\∀ (p:Addr) (H':Hp),Same H H'->RD H' (bJ t cs) (.ref p)->Q (.ref p) H'
section
variable {P:Program}{w:World}{K:PySem.W.Frag}{mg:Str->Option Value}{base:Heap}
theorem mR:ax ["_law_sentence_here"] ["_law_sentence_here"] (al mP):=⟨rfl,rfl,rfl,by decide+kernel,rfl,by decide+kernel,by decide+kernel⟩
theorem oF {f:Addr}{fd:FuncData}(F:Fun K "_law_copy" "_law_copy" mP f fd)(T:qv mg):aU P w K mg base cX 1 f fd ["_law_sentence_here"] mQ:=by
 have sc:=mR
 refine F.ok mR (fun vs H Q E h=>?_) (fun cdv A outer s H vs Q E hr h=>?_)
 ·obtain⟨v,t,cs,rfl,_⟩:=h
  rfl
 obtain⟨v,t,cs,rfl,hd,hl,q⟩:=h
 obtain⟨p,qa,xs,rfl,h1,h2,h3⟩:=cJ hd
 refine⟨_,(ag (au (b7 (aa (aF ay (pv 0) af (fun _ _=>rfl)) (aa (aP dq rfl T.list PyProof.Rows.boot_list (aa (aF ay (pv 0) af (fun _ _=>rfl)) ac)) ac))))),?_⟩
 refine⟨_,rfl,.inr (.inl ⟨p,_,0,.str t,rfl,rfl,SqT.of h1,rfl,?_⟩)⟩
 refine⟨_,rfl,.inr (.inl ⟨p,_,1,.ref qa,rfl,rfl,SqT.of h1,rfl,qa,xs,rfl,.inl (SqL.of h2),fun l hl'=>⟨(by show 2<=sizeLine;decide),fun p2 hp2=>?_⟩⟩)⟩
 have k1:Same H (upd H l (.lst xs)):=ah hl' _
 have k2:Same (upd H l (.lst xs)) (upd (upd H l (.lst xs)) p2 (.tup [.str t,.ref l])):=ah hp2 _
 exact q p2 _ (k1.trans k2) (bZ ad (k2 _ _ ad) (h3.mono (k1.trans k2)))
end
end K85
namespace K85
open PySem L2 OD
abbrev qx:Stmt:=dG 12
abbrev qy:Stmt:=dG 14
abbrev jk:Stmt:=dG 15
abbrev gK:Stmt:=dG 16
abbrev jm:Stmt:=dG 30
structure o4 (mg:Str->Option Value):Prop where
 isinstance:mg "isinstance"=none
 int:mg "int"=none
 bool:mg "bool"=none
 tuple:mg "tuple"=none
 list:mg "list"=none
 str:mg "str"=none
 abs:mg "abs"=none
 len:mg "len"=none
 all:mg "all"=none
def jZ:Sp:=fun vs H Q _=>∃ v d,vs=[v]/\RD H d v/\Q (.bl (fo d&&!gA d)) H
def o5:Sp:=fun vs H Q _=>∃ v d most,vs=[v,.int most]/\RD H d v/\Q (.bl (de most d)) H
def j2:Sp:=fun vs H Q _=>∃ v d,vs=[v]/\RD H d v/\(∀ t,d=.str t->t.length<=1000000)/\∀ H',Same H H'->Q (.bl (i9 d)) H'
def sM (d:PyData):Prop:=∀ d0 d1,d=.tuple [d0,d1]->(∀ t,d0=.str t->t.length<=1000000)/\(∀ es,d1=.list es->es.length<=1000000)
def iy:Sp:=fun vs H Q _=>∃ v d,vs=[v]/\RD H d v/\sM d/\∀ H',Same H H'->Q (.bl (cM d)) H'
section
variable {P:Program}{w:World}{K:PySem.W.Frag}{mg:Str->Option Value}{base:Heap}
theorem rP:ax ["thing"] ["thing"] (al qx):=⟨rfl,rfl,rfl,by decide+kernel,rfl,by decide+kernel,by decide+kernel⟩
theorem qz {f:Addr}{fd:FuncData}(F:Fun K "is_number" "is_number" qx f fd)(T:o4 mg):aU P w K mg base cX 1 f fd ["thing"] jZ:=by
 refine F.ok rP (fun vs H Q E h=>?_) (fun cdv A outer s H vs Q E hr h=>?_)
 ·obtain⟨v,d,rfl,_⟩:=h
  rfl
 obtain⟨v,d,rfl,hd,q⟩:=h
 have nd:=b5 hd
 refine⟨_,(ag (au (iJ (ai aG rfl T.isinstance PyProof.Rows.boot_isinstance (aa (pv 0) (aa (bf (v:=.ty "int") rfl T.int PyProof.Rows.boot_int rfl) ac))) (iI (lu (ai aG rfl T.isinstance PyProof.Rows.boot_isinstance (aa (pv 0) (aa (bf (v:=.ty "bool") rfl T.bool PyProof.Rows.boot_bool rfl) ac)))))))),?_⟩
 refine⟨_,rfl,v,_,"int",_,rfl,eB d v hd,jJ d nd,_,rfl,?_⟩
 cases hI:fo d with
 |false=>
  rw[hI] at q
  exact aV q
 |true=>
  rw[hI] at q
  exact aM ⟨_,rfl,v,_,"bool",_,rfl,eB d v hd,gZ d nd,_,rfl,q⟩
theorem oG:ax ["_law_found"] ["_law_found"] (al jm):=⟨rfl,rfl,rfl,by decide+kernel,rfl,by decide+kernel,by decide+kernel⟩
theorem mS {f:Addr}{fd:FuncData}(F:Fun K "_law_whole" "_law_whole" jm f fd)(T:o4 mg):aU P w K mg base cX 1 f fd ["_law_found"] jZ:=by
 refine F.ok oG (fun vs H Q E h=>?_) (fun cdv A outer s H vs Q E hr h=>?_)
 ·obtain⟨v,d,rfl,_⟩:=h
  rfl
 obtain⟨v,d,rfl,hd,q⟩:=h
 have nd:=b5 hd
 refine⟨_,(ag (au (iJ (ai aG rfl T.isinstance PyProof.Rows.boot_isinstance (aa (pv 0) (aa (bf (v:=.ty "int") rfl T.int PyProof.Rows.boot_int rfl) ac))) (iI (lu (ai aG rfl T.isinstance PyProof.Rows.boot_isinstance (aa (pv 0) (aa (bf (v:=.ty "bool") rfl T.bool PyProof.Rows.boot_bool rfl) ac)))))))),?_⟩
 refine⟨_,rfl,v,_,"int",_,rfl,eB d v hd,jJ d nd,_,rfl,?_⟩
 cases hI:fo d with
 |false=>
  rw[hI] at q
  exact aV q
 |true=>
  rw[hI] at q
  exact aM ⟨_,rfl,v,_,"bool",_,rfl,eB d v hd,gZ d nd,_,rfl,q⟩
theorem o6:ax ["thing","most","behind","literal"] ["thing","most"] (al qy):=⟨rfl,rfl,rfl,by decide+kernel,rfl,by decide+kernel,by decide+kernel⟩
theorem qA {f g:Addr}{fd gd:FuncData}(F:Fun K "is_set" "is_set" qy f fd)(T:o4 mg)(Gis_number:Fn P w K mg base 1 "is_number" g gd ["thing"] jZ):aU P w K mg base cX 2 f fd ["thing","most"] o5:=by
 have sc:=o6
 refine F.ok o6 (fun vs H Q E h=>?_) (fun cdv A outer s H vs Q E hr h=>?_)
 ·obtain⟨v,d,most,rfl,_⟩:=h
  rfl
 obtain⟨v,d,most,rfl,hd,q⟩:=h
 have nd:=b5 hd
 refine⟨_,(ae (aD (a_ (aZ (ai aG rfl T.isinstance PyProof.Rows.boot_isinstance (aa (pv 0) (aa (bf (v:=.ty "tuple") rfl T.tuple PyProof.Rows.boot_tuple rfl) ac))))) (ag (au cm)) aq)
  (ae (ak (i:=2) sc.nd rfl (Or.inl rfl) af)
  (ae (cj PassesOwn.never rfl (gr (pv 0)) (az (i:=3) sc.nd rfl (Or.inl rfl))
   (ae (aD (PW.pt (bD (a_ (aZ (aI Gis_number hr (by omega) rfl (aa (pv 3) ac)))) (br (a_ (lB jA oS (pv 2) (ai cD rfl T.abs PyProof.Rows.boot_abs (aa (pv 3) ac)) (pv 1)))))) (ag (au cm)) aq)
   (ag (ak (i:=2) sc.nd rfl (Or.inl rfl) (ai cD rfl T.abs PyProof.Rows.boot_abs (aa (pv 3) ac))))))
  (ag (au cm))))),?_⟩
 refine⟨_,rfl,v,_,"tuple",_,rfl,eB d v hd,gb d nd,_,rfl,?_⟩
 cases d with
 |tuple ds=>
  refine aV ?_
  obtain⟨a,xs,rfl,ha,hx⟩:=bz hd
  have hlen:=du hx
  refine⟨_,rfl,a,rfl,⟨_,SqT.of ha⟩,nH (K:=K) (a:=a) (xs:=xs) (fun i σ H2=>∃ (b:Int) (l:Option V),σ=[some (.ref a),some (.int most),some (.int b),l]/\H2=H/\c_ most b (ds.drop i)=c_ most 0 ds)
   ⟨0,none,rfl,rfl,rfl⟩ (fun i σ H2 _ hp=>by obtain⟨_,_,_,e,_⟩:=hp;rw[e];exact SqT.of ha) ?_ ?_⟩
  ·rintro i y σ H2 hi ⟨b,l,rfl,rfl,hb⟩
   have hil:i < xs.length:=(List.getElem?_eq_some_iff.mp hi).1
   have hy:=dv hx hi
   rw[kQ PyData.none (by omega)] at hb
   refine⟨_,rfl,y,_,rfl,hy,_,rfl,?_⟩
   rcases qq (ds.getD i .none) with⟨z,hz⟩|hz
   ·rw[hz] at hy hb ⊢
    obtain rfl:=i8 hy
    refine aV ?_
    refine⟨_,rfl,_,rfl,z,rfl,_,_,rfl,rfl,_,rfl,?_⟩
    rw[ie] at hb
    refine bv (fun c1=>?_) (fun c1=>?_)
    ·have c1':b < bI z:=of_decide_eq_true c1
     refine⟨_,rfl,_,_,rfl,rfl,_,rfl,?_⟩
     refine bv (fun c2=>?_) (fun c2=>?_)
     ·have c2':¬ bI z<=most:=fun hh=>by
       have e:decide (bI z<=most)=true:=decide_eq_true hh
       rw[show decide ((if z < 0 then -z else z)<=most)=true from e] at c2
       cases c2
      rw[if_neg (by omega)] at hb
      show Q (.bl false) _
      rw[show de most (.tuple ds)=c_ most 0 ds from rfl,← hb] at q
      exact q
     ·have c2':bI z<=most:=Decidable.byContradiction fun hh=>by
       have e:decide (bI z<=most)=false:=decide_eq_false hh
       rw[show decide ((if z < 0 then -z else z)<=most)=false from e] at c2
       exact c2 rfl
      rw[if_pos ⟨c1',c2'⟩] at hb
      refine⟨_,rfl,z,rfl,?_⟩
      exact⟨bI z,some (.int z),rfl,rfl,hb⟩
    ·have c1':¬ b < bI z:=fun hh=>c1 (decide_eq_true hh)
     rw[if_neg (fun hh=>c1' hh.1)] at hb
     refine⟨_,rfl,aM ?_⟩
     show Q (.bl false) _
     rw[show de most (.tuple ds)=c_ most 0 ds from rfl,← hb] at q
     exact q
   ·rw[oh hz]
    rw[mt hz] at hb
    refine aM (aM ?_)
    show Q (.bl false) _
    rw[show de most (.tuple ds)=c_ most 0 ds from rfl,← hb] at q
    exact q
  ·rintro σ H2 ⟨b,l,rfl,rfl,hb⟩
   show Q (.bl true) _
   rw[List.drop_eq_nil_of_le (by omega)] at hb
   rw[show de most (.tuple ds)=c_ most 0 ds from rfl,← hb] at q
   exact q
 |_=>exact aM q
theorem j3:ax ["thing"] ["thing"] (al jk):=⟨rfl,rfl,rfl,by decide+kernel,rfl,by decide+kernel,by decide+kernel⟩
theorem mT {f:Addr}{fd:FuncData}(F:Fun K "is_turns" "is_turns" jk f fd)(T:o4 mg):aU P w K mg base cX 1 f fd ["thing"] j2:=by
 have sc:=j3
 refine F.ok j3 (fun vs H Q E h=>?_) (fun cdv A outer s H vs Q E hr h=>?_)
 ·obtain⟨v,d,rfl,_⟩:=h
  rfl
 obtain⟨v,d,rfl,hd,h9,q⟩:=h
 have nd:=b5 hd
 refine⟨_,(ag (au (iJ (ai aG rfl T.isinstance PyProof.Rows.boot_isinstance (aa (pv 0) (aa (bf (v:=.ty "str") rfl T.str PyProof.Rows.boot_str rfl) ac))) (iI (ai (hR rfl) rfl T.all PyProof.Rows.boot_all (aa (bw (NY:=["sign"]) (idx:=[none]) rfl ⟨by with_unfolding_all rfl,(by with_unfolding_all exact trivial),fun _=>by rfl,by rfl,by rfl,by rfl,by decide⟩ (i6 (pv 0)) (fun _ _ _ _=>(az (i:=0) (show List.Nodup (["sign"]:List Str) by decide+kernel) rfl (Or.inl rfl))) (fun _ _ _ _=>bp) (fun _ _ _ _=>(cx (iW (K:=K) rfl) (pv 0) (b7 (aa am (aa am ac))) (by with_unfolding_all rfl)))) ac)))))),?_⟩
 refine⟨_,rfl,v,_,"str",_,rfl,eB d v hd,og d nd,_,rfl,?_⟩
 cases d with
 |str t=>
  refine aM ?_
  obtain rfl:=fB hd
  refine⟨_,rfl,t,rfl,fun D hD=>?_⟩
  refine gi [] (fun c=>.bl (kR c)) rfl hD (h9 t rfl) (fun _ _ _ r=>r) ?_ ?_
  ·intro c H' R k r
   refine⟨_,rfl,(by show 2<=sizeLine;decide),fun p hp=>⟨p,_,rfl,.inr (SqT.of ad),rfl,rfl,?_⟩⟩
   show R (.bl (nA (.str ⟨#[c]⟩) [.str (Str.ofString "w"),.str (Str.ofString "s")])) _
   rw[qt]
   exact r _ (ah hp _)
  ·intro H2 k2 r2
   refine⟨D,_,rfl,SqL.of r2,(gE _ _).1,?_⟩
   rw[(gE _ _).2]
   exact q H2 k2
 |_=>exact aV (q H (Same.refl _))
theorem jn {ds:List PyData}(h:ds.length≠2):cM (.tuple ds)=false:=by
 match ds,h with
 |[],_=>rfl
 |[_],_=>rfl
 |[_,_],h=>exact absurd rfl h
 |_::b::_::_,_=>cases b<;>rfl
theorem oH {H:Hp}{ds:List PyData}{xs:List V}(h:dU H ds xs)(hl:ds.length=2):∃ d0 d1 x0 x1,ds=[d0,d1]/\xs=[x0,x1]/\RD H d0 x0/\RD H d1 x1:=by
 have hl2:=du h
 match ds,xs,hl,hl2 with
 |[d0,d1],[x0,x1],_,_=>exact⟨d0,d1,x0,x1,rfl,rfl,dv (j:=0) h rfl,dv (j:=1) h rfl⟩
theorem gL {d0 d1:PyData}(h:i9 d0=false):cM (.tuple [d0,d1])=false:=by
 cases d1 with
 |list es=>
  cases d0 with
  |str t=>
   show (ee t&&_)=false
   rw[show ee t=false from h]
   rfl
  |_=>rfl
 |_=>rfl
theorem iz {d0 d1:PyData}(h:i7 d1=false):cM (.tuple [d0,d1])=false:=by
 cases d1 with
 |list es=>cases h
 |_=>rfl
theorem iA:ax ["thing","turns","clauses"] ["thing"] (al gK):=⟨rfl,rfl,rfl,by decide+kernel,rfl,by decide+kernel,by decide+kernel⟩
theorem lh {f f1 f2:Addr}{fd d1 d2:FuncData}(F:Fun K "is_sentence" "is_sentence" gK f fd)(T:o4 mg)(Gis_set:Fn P w K mg base 2 "is_set" f1 d1 ["thing","most"] o5)(Gis_turns:Fn P w K mg base 1 "is_turns" f2 d2 ["thing"] j2):
  aU P w K mg base cX 3 f fd ["thing"] iy:=by
 have sc:=iA
 refine F.ok iA (fun vs H Q E h=>?_) (fun cdv A outer s H vs Q E hr h=>?_)
 ·obtain⟨v,d,rfl,_⟩:=h
  rfl
 obtain⟨v,d,rfl,hd,hz,q⟩:=h
 have hu:=hr.units
 have nd:=b5 hd
 refine⟨_,(ae (aD (PW.pt (bD (a_ (aZ (ai aG rfl T.isinstance PyProof.Rows.boot_isinstance (aa (pv 0) (aa (bf (v:=.ty "tuple") rfl T.tuple PyProof.Rows.boot_tuple rfl) ac))))) (br (ao (bM hu) (ai aJ rfl T.len PySem.boot_len (aa (pv 0) ac)) af (ar _))))) (ag (au cm)) aq)
  (ae (ak (i:=1) sc.nd rfl (Or.inr rfl) (aF ay (pv 0) af (fun _ _=>rfl)))
  (ae (ak (i:=2) sc.nd rfl (Or.inl rfl) (aF ay (pv 0) af (fun _ _=>rfl)))
  (ae (aD (PW.pt (bD (a_ (aZ (aI Gis_turns hr (by omega) rfl (aa (pv 1) ac)))) (br (a_ (aZ (ai aG rfl T.isinstance PyProof.Rows.boot_isinstance (aa (pv 2) (aa (bf (v:=.ty "list") rfl T.list PyProof.Rows.boot_list rfl) ac)))))))) (ag (au cm)) aq)
  (ag (au (ai (hR rfl) rfl T.all PyProof.Rows.boot_all (aa (bw (NY:=["clause","turns"]) (idx:=[none,some 1]) rfl ⟨by with_unfolding_all rfl,(by with_unfolding_all exact⟨rfl,trivial⟩),fun _=>by rfl,by rfl,by rfl,by rfl,by decide⟩ (bn (pv 2)) (fun _ _ _ _=>(az (i:=0) (show List.Nodup (["clause","turns"]:List Str) by decide+kernel) rfl (Or.inl rfl))) (fun _ _ _ _=>bp) (fun _ _ _ _=>(aI Gis_set hr (by omega) rfl (aa (pv 0) (aa (ai (kK (K:=K) rfl) rfl T.len PySem.boot_len (aa (pv 1) ac)) ac))))) ac)))))))),?_⟩
 refine⟨_,rfl,v,_,"tuple",_,rfl,eB d v hd,gb d nd,_,rfl,?_⟩
 cases d with
 |tuple ds=>
  refine aV ?_
  obtain⟨a,xs,rfl,ha,hx⟩:=bz hd
  have hlen:=du hx
  refine⟨_,rfl,.ref a,_,rfl,.inr ⟨_,SqT.of ha,rfl⟩,.inl ⟨rfl,_,rfl,?_⟩⟩
  by_cases h2:ds.length=2
  ·obtain⟨d0,d1,x0,x1,rfl,rfl,r0,r1⟩:=oH hx h2
   refine qJ rfl ?_
   obtain⟨z0,z1⟩:=hz d0 d1 rfl
   refine⟨_,rfl,.inr (.inl ⟨a,[x0,x1],0,x0,rfl,rfl,SqT.of ha,rfl,?_⟩)⟩
   refine⟨_,rfl,.inr (.inl ⟨a,[x0,x1],1,x1,rfl,rfl,SqT.of ha,rfl,?_⟩)⟩
   refine⟨_,rfl,x0,d0,rfl,r0,z0,fun H1 k1=>⟨_,rfl,?_⟩⟩
   cases g0:i9 d0 with
   |false=>
    rw[gL g0] at q
    exact aM (aM (q H1 k1))
   |true=>
    have r1':=bY k1 _ _ r1
    refine aV ⟨_,rfl,x1,_,"list",_,rfl,eB d1 x1 r1',mr d1 (b5 r1'),_,rfl,?_⟩
    cases g1:i7 d1 with
    |false=>
     rw[iz g1] at q
     exact aM (q H1 k1)
    |true=>
     refine aV ?_
     obtain⟨es,rfl⟩:∃ es,d1=.list es:=by
      cases d1 with
      |list es=>exact⟨es,rfl⟩
      |_=>cases g1
     obtain⟨t,rfl⟩:∃ t,d0=.str t:=by
      cases d0 with
      |str t=>exact⟨t,rfl⟩
      |_=>cases g0
     obtain rfl:=fB r0
     obtain⟨b,ys,rfl,hb,hy⟩:=bR r1'
     have hyl:=du hy
     have z1':=z1 es rfl
     refine⟨_,rfl,b,rfl,⟨_,SqL.of hb⟩,fun D hD=>?_⟩
     refine bA (K:=K) (a:=b) (xs:=ys) (fun i σ zs H2=>(∃ v0,σ=[v0,some (.str t)])/\zs=(es.take i).map (fun d=>V.bl (de t.length d))/\H2=upd H1 D (.lst zs)) ⟨⟨none,rfl⟩,rfl,rfl⟩ ?_ ?_ ?_
     ·rintro i σ zs H2 _ ⟨_,_,rfl⟩
      refine⟨ad,SqL.of ?_⟩
      rw[av (ap hb hD)]
      exact hb
     ·rintro i y σ zs H2 hi ⟨⟨v0,rfl⟩,rfl,rfl⟩
      have hil:i < ys.length:=(List.getElem?_eq_some_iff.mp hi).1
      have hyi:=bY (ah hD (.lst ((es.take i).map (fun d=>V.bl (de t.length d))))) _ _ (dv hy hi)
      refine bE ⟨_,rfl,_,rfl,.str t,_,rfl,⟨Nat.le_trans (z0 t rfl) (by decide),rfl⟩,y,_,_,rfl,hyi,ad,?_,⟨_,rfl⟩,?_,cO⟩
      ·rw[List.length_map,List.length_take]
       exact bq (by omega)
      ·have hei:es[i]? =some (es.getD i .none):=by
        rw[List.getD_eq_getElem?_getD,List.getElem?_eq_getElem (by omega)]
        rfl
       rw[List.take_add_one,hei,List.map_append]
       rfl
     ·rintro σ zs H2 ⟨_,rfl,rfl⟩
      rw[List.take_of_length_le (by omega)]
      refine⟨D,_,rfl,SqL.of ad,(gE _ _).1,?_⟩
      rw[(gE _ _).2]
      have e:cM (.tuple [.str t,.list es])=es.all (de t.length):=by
       show (ee t&&_)=_
       rw[show ee t=true from g0]
       rfl
      rw[e] at q
      exact q _ (k1.trans (ah hD _))
  ·rw[jn h2] at q
   have e:(!decide (V.int (xs.length:Int)=V.int 2))=true:=by
    rw[decide_eq_false fun z=>h2 (by have:=V.int.inj z;omega)]
    rfl
   rw[e]
   exact aM (q H (Same.refl _))
 |_=>exact aM (aM (q H (Same.refl _)))
end
end K85
namespace K85
open PySem L2 OD
abbrev mU:Stmt:=dG 23
abbrev jo:Stmt:=dG 24
abbrev mV:Stmt:=dG 38
structure rX (K:PySem.W.Frag)(mg:Str->Option Value)(CN:Addr):Prop where
 any:mg "any"=none
 int:mg "int"=none
 len:mg "len"=none
 tuple:mg "tuple"=none
 str:mg "str"=none
 g_FIGURES:bX mg "FIGURES" (.str (Str.ofString "0123456789"))
 g_MOST_FIGURES:bX mg "MOST_FIGURES" (.int 9)
 m_NoText:mg "NoText"=some (.ref CN)
 x_NoText:PySem.W.excIn K CN [.type "ValueError",.type "Exception",.type "BaseException",.type "object"] "ValueError.__new__"=true
def mW (CN:Addr):Sp:=fun vs H Q E=>∃ t:Str,vs=[.str t]/\t.length<=1000000/\(∀ n,bV t=some n->∀ H',Same H H'->Q (.int n) H')/\(bV t=none->∀ H',Same H H'->E (.ref CN) none H')
section
variable {P:Program}{w:World}{K:PySem.W.Frag}{mg:Str->Option Value}{base:Heap}{CN:Addr}
theorem mY:ax ["piece","figures"] ["piece"] (al mU):=⟨rfl,rfl,rfl,by decide+kernel,rfl,by decide+kernel,by decide+kernel⟩
theorem oI {f:Addr}{fd:FuncData}(F:Fun K "read_number" "read_number" mU f fd)(T:rX K mg CN):aU P w K mg base (cb P w) 1 f fd ["piece"] (mW CN):=by
 have sc:=mY
 refine F.okX mY (fun vs H Q E h=>?_) (fun cdv A outer s H vs Q E hr h=>?_)
 ·obtain⟨t,rfl,_⟩:=h
  rfl
 obtain⟨t,rfl,hz,q,qe⟩:=h
 have hu:=hr.units
 refine⟨_,(ae (ak (i:=1) sc.nd rfl (Or.inl rfl) (eX (aZ (bi PySem.F.plainAttrs_str PySem.F.slot_str_startswith PySem.F.type_str_startswith jd (pv 0) (aa am ac))) (aE bF (pv 0) (aC af) aO) (pv 0)))
  (ae (aD (PW.pt (bD (a_ (fb (pv 1) (fun _=>rfl))) (br (aZ (ai (lU rfl) rfl T.any PyProof.Rows.boot_any (aa (bw (NY:=["sign"]) (idx:=[none]) rfl ⟨by with_unfolding_all rfl,(by with_unfolding_all exact trivial),fun _=>by rfl,by rfl,by rfl,by rfl,by decide⟩ (i6 (pv 1)) (fun _ _ _ _=>(az (i:=0) (show List.Nodup (["sign"]:List Str) by decide+kernel) rfl (Or.inl rfl))) (fun _ _ _ _=>bp) (fun _ _ _ _=>(cx gu (pv 0) (aT rfl T.g_FIGURES) (by with_unfolding_all rfl)))) ac)))))) (ag (cp T.x_NoText PySem.F.excBase_ValueError T.m_NoText rfl (aa am ac))) aq)
  (ae (aD (ao di (ai aJ rfl T.len PySem.boot_len (aa (pv 1) ac)) (aT rfl T.g_MOST_FIGURES) (ar _)) (ag (cp T.x_NoText PySem.F.excBase_ValueError T.m_NoText rfl (aa am ac))) aq)
  (ae (aD (PW.pt (gn (ao (aL hu) (aF ay (pv 1) af (fun _ _=>rfl)) am (ar _)) (eJ (ao (bM hu) (pv 0) am (ar _))))) (ag (cp T.x_NoText PySem.F.excBase_ValueError T.m_NoText rfl (aa am ac))) aq)
  (ag (au (aP kY rfl T.int PyProof.Rows.boot_int (aa (pv 0) ac)))))))),?_⟩
 refine⟨_,rfl,rfl,t,Str.ofString "-",rfl,rfl,_,rfl,?_⟩
 refine kZ rfl hz fun fg ef hl=>?_
 have hlen:fg.length=(aK t.cps.toList).length:=by rw[← ef];exact Array.length_toList.symm
 refine⟨_,rfl,_,⟨Nat.le_trans hl (by decide),rfl⟩,?_⟩
 by_cases h1:aK t.cps.toList=[]
 ·have e:((fg.length:Int) != 0)=false:=by rw[hlen,h1];rfl
  rw[e]
  exact aM (aM ⟨(by show 1<=sizeLine;decide),qe (bS (.inl h1)) _ (Same.refl _)⟩)
 have hp:0 < (aK t.cps.toList).length:=List.length_pos_iff.mpr h1
 have e:((fg.length:Int) != 0)=true:=by
  rw[hlen,bne_iff_ne]
  omega
 rw[e]
 refine aV ?_
 refine⟨_,rfl,fg,rfl,fun D hD=>?_⟩
 refine gi [] (fun c=>.bl (!b_ c)) rfl hD hl (fun _ _ _ r=>r) ?_ ?_
 ·intro c H' R k r
  refine⟨_,rfl,_,_,rfl,rfl,?_⟩
  rw[mx]
  exact r _ (Same.refl _)
 intro H2 k2 r2
 refine⟨D,_,rfl,SqL.of r2,(mz _ _).1,_,rfl,?_⟩
 rw[(mz _ _).2,ef]
 cases h2:(aK t.cps.toList).all b_ with
 |false=>
  have e:((aK t.cps.toList).any fun c=>!b_ c)=true:=by
   rw[List.any_eq_not_all_not]
   simp only [Bool.not_not]
   rw[h2]
   rfl
  rw[e]
  exact aM ⟨(by show 1<=sizeLine;decide),qe (bS (.inr (.inl h2))) _ k2⟩
 |true=>
  have e:((aK t.cps.toList).any fun c=>!b_ c)=false:=by
   rw[List.any_eq_not_all_not]
   simp only [Bool.not_not]
   rw[h2]
   rfl
  rw[e]
  refine aV ?_
  refine⟨_,rfl,.str fg,_,rfl,⟨Nat.le_trans hl (by decide),rfl⟩,_,_,rfl,rfl,_,rfl,?_⟩
  by_cases h3:9 < (aK t.cps.toList).length
  ·rw[decide_eq_true (by omega)]
   exact aM ⟨(by show 1<=sizeLine;decide),qe (bS (.inr (.inr (.inl h3)))) _ k2⟩
  rw[decide_eq_false (by omega)]
  refine aV ?_
  obtain⟨c,r,hcr⟩:=List.exists_cons_of_ne_nil h1
  refine⟨_,rfl,.inr (.inr ⟨fg,0,c,rfl,rfl,Nat.le_trans hl (by decide),by rw[ef,hcr];exact cT,.inl ⟨rfl,_,rfl,?_⟩⟩)⟩
  rw[bx]
  by_cases h4:c=48/\t.cps.toList≠[48]
  ·rw[decide_eq_true (by rw[h4.1];decide+kernel)]
   refine aM ⟨_,rfl,.inl ⟨rfl,_,rfl,?_⟩⟩
   rw[bx,decide_eq_false (by rw[show (Str.ofString "0").cps.toList=[48] from by decide+kernel];exact h4.2)]
   exact aM ⟨(by show 1<=sizeLine;decide),qe (bS (.inr (.inr (.inr ⟨by rw[hcr,h4.1];rfl,h4.2⟩)))) _ k2⟩
  have hs:=ij h1 h2 (by omega) (fun z=>h4 ⟨by rw[hcr] at z;exact Option.some.inj z.1,z.2⟩)
  obtain⟨i1,i2⟩:=mw hs
  have fin:py (q_ (fun xs H Q=>∃ a n,xs=[V.str a]/\intText? a=some n/\a.length<=640/\Q (V.int n) H) (fc (bB 0) fO)) {nx:=fun _ H'=>Q .non H',rt:=Q} [some (.str t),some (.str fg)] H2:=⟨_,rfl,t,_,rfl,i1,by omega,q _ hs _ k2⟩
  refine bv (fun c1=>⟨_,rfl,.inl ⟨rfl,_,rfl,?_⟩⟩) fun c1=>aV fin
  rw[bx]
  have c1':c=48:=by
   have:=of_decide_eq_true c1
   rw[show (Str.ofString "0").cps.toList=[48] from by decide+kernel] at this
   exact (List.cons.inj this).1
  rw[decide_eq_true (by rw[show (Str.ofString "0").cps.toList=[48] from by decide+kernel];exact Decidable.byContradiction fun z=>h4 ⟨c1',z⟩)]
  exact aV fin
end
end K85
namespace K85
open PySem L2 OD
abbrev qB:Stmt:=dG 25
abbrev gM:Stmt:=dG 26
abbrev jp:Stmt:=dG 27
def j4 (CN:Addr):Sp:=fun vs H Q E=>∃ (p:Addr) (ss:List Str),vs=[.ref p]/\H p=some (.lst (ss.map V.str))/\ss.length<=1000000/\(∀ s∈ss,s.length<=1000000)/\
 (∀ ns,cq bV ss=some ns->∀ D H',Same H H'->H' D=some (.lst (ns.map V.int))->Q (.ref D) H')/\(cq bV ss=none->∀ H',Same H H'->E (.ref CN) none H')
def o7 (CN:Addr):Sp:=fun vs H Q E=>∃ row:Str,vs=[.str row]/\row.length<=900000/\
 (∀ c,eR row=some c->∀ D H',Same H H'->H' D=some (.tup (c.map V.int))->Q (.ref D) H')/\(eR row=none->∀ H',Same H H'->E (.ref CN) none H')
def iB (CN:Addr):Sp:=fun vs H Q E=>∃ row:Str,vs=[.str row]/\row.length<=900000/\(∀ t,dA row=some t->Q (.str t) H)/\(dA row=none->E (.ref CN) none H)
def j5 (CN:Addr):Sp:=fun vs H Q E=>∃ x:Str,vs=[.str x]/\x.length<=800000/\
 (∀ t cs,cr x=some (t,cs)->∀ p q xs H',Same H H'->H q=none->H' p=some (.tup [.str t,.ref q])->H' q=some (.lst xs)->CLs H' cs xs->Q (.ref p) H')/\(cr x=none->∀ H',Same H H'->E (.ref CN) none H')
structure sZ (K:PySem.W.Frag)(mg:Str->Option Value)(CN:Addr):Prop where
 g_NO_TURNS:bX mg "NO_TURNS" (.str (Str.ofString "-"))
 m_NoText:mg "NoText"=some (.ref CN)
 x_NoText:PySem.W.excIn K CN [.type "ValueError",.type "Exception",.type "BaseException",.type "object"] "ValueError.__new__"=true
section
variable {P:Program}{w:World}{K:PySem.W.Frag}{mg:Str->Option Value}{base:Heap}{CN:Addr}
theorem j6:ax ["pieces"] ["pieces"] (al jo):=⟨rfl,rfl,rfl,by decide+kernel,rfl,by decide+kernel,by decide+kernel⟩
theorem mZ {f f1:Addr}{fd d1:FuncData}(F:Fun K "read_numbers" "read_numbers" jo f fd)(Gread_number:nZ P w K mg base 1 "read_number" f1 d1 ["piece"] (mW CN)):aU P w K mg base (cb P w) 2 f fd ["pieces"] (j4 CN):=by
 have sc:=j6
 refine F.okX j6 (fun vs H Q E h=>?_) (fun cdv A outer s H vs Q E hr h=>?_)
 ·obtain⟨p,ss,rfl,_⟩:=h
  rfl
 obtain⟨p,ss,rfl,hp,hl,hz,q,qe⟩:=h
 refine⟨_,(ag (au (ii (NY:=["piece"]) (idx:=[none]) ⟨by with_unfolding_all rfl,(by with_unfolding_all exact trivial),fun _=>by rfl,by rfl,by rfl,by rfl,by decide⟩ (bn (pv 0)) (fun _ _ _ _=>(az (i:=0) (show List.Nodup (["piece"]:List Str) by decide+kernel) rfl (Or.inl rfl))) (fun _ _ _ _=>bp) (fun _ _ _ _=>(jQ Gread_number hr (by omega) rfl (aa (pv 0) ac)))))),?_⟩
 refine⟨_,rfl,p,rfl,⟨_,SqL.of hp⟩,fun D hD=>?_⟩
 refine bA (K:=K) (a:=p) (xs:=ss.map V.str) (fun i σ ys H2=>(∃ v0,σ=[v0])/\H2 D=some (.lst ys)/\Same H H2/\ys=((ss.take i).filterMap bV).map V.int/\∀ a∈ss.take i,(bV a).isSome=true) ⟨⟨none,rfl⟩,ad,ah hD _,rfl,fun _ z=>nomatch z⟩ ?_ ?_ ?_
 ·rintro i σ ys H2 _ ⟨_,g1,g2,_⟩
  exact⟨g1,SqL.of (g2 _ _ hp)⟩
 ·rintro i x σ ys H2 hx ⟨⟨v0,rfl⟩,g1,g2,g3,g4⟩
  rw[List.getElem?_map] at hx
  obtain⟨a,ha,rfl⟩:=Option.map_eq_some_iff.mp hx
  have hil:i < ss.length:=(List.getElem?_eq_some_iff.mp ha).1
  have ham:=List.mem_of_getElem? ha
  refine bE ⟨_,rfl,a,rfl,hz a ham,fun n hn H3 k3=>⟨k3 _ _ g1,?_,⟨_,rfl⟩,ad,(g2.trans k3).upd_new hD _,?_,dz ha g4 (by rw[hn];rfl)⟩,fun hn H3 k3=>qe (dy ham hn) _ (g2.trans k3)⟩
  ·rw[g3,List.length_map]
   exact bq (Nat.le_trans (fK i) (by omega))
  ·rw[eh ha hn,List.map_append,g3]
   rfl
 ·rintro σ ys H2 ⟨_,g1,g2,g3,g4⟩
  rw[List.length_map,List.take_of_length_le (Nat.le_refl _)] at g3 g4
  exact q _ (gG g4) D H2 g2 (by rw[g1,g3])
theorem o8:ax ["row","numbers"] ["row"] (al qB):=⟨rfl,rfl,rfl,by decide+kernel,rfl,by decide+kernel,by decide+kernel⟩
theorem qC {f f1:Addr}{fd d1:FuncData}(F:Fun K "read_clause" "read_clause" qB f fd)(T:rX K mg CN)(Gread_numbers:nZ P w K mg base 2 "read_numbers" f1 d1 ["pieces"] (j4 CN)):aU P w K mg base (cb P w) 3 f fd ["row"] (o7 CN):=by
 have sc:=o8
 refine F.okX o8 (fun vs H Q E h=>?_) (fun cdv A outer s H vs Q E hr h=>?_)
 ·obtain⟨row,rfl,_⟩:=h
  rfl
 obtain⟨row,rfl,hz,q,qe⟩:=h
 have hu:=hr.units
 refine⟨_,(ae (ak (i:=1) sc.nd rfl (Or.inl rfl) (mf Gread_numbers hr (by omega) rfl (aa (bi PySem.F.plainAttrs_str PySem.F.slot_str_split PySem.F.type_str_split cN (pv 0) (aa am ac)) ac)))
  (ae (aD (ao (bM hu) (aF ay (pv 1) (fS dM af) (fun _ _=>rfl)) af (ar _)) (ag (cp T.x_NoText PySem.F.excBase_ValueError T.m_NoText rfl (aa am ac))) aq)
  (ag (au (aP bN rfl T.tuple PyProof.Rows.boot_tuple (aa (aE cQ (pv 1) aO (aC (fS dM af))) ac)))))),?_⟩
 refine⟨_,rfl,rfl,row,Str.ofString " ",rfl,rfl,(by decide+kernel),(by omega),fun l hl=>?_⟩
 have hsl:=PyProof.Rows.split_le row (Str.ofString " ")
 refine⟨l,_,rfl,ad,(by omega),fun s hs=>Nat.le_trans (cA hs) (by omega),fun ns hns D H1 k1 hD=>?_,fun hn H1 k1=>qe (by unfold eR;rw[hn];rfl) _ ((ah hl _).trans k1)⟩
 have k1':=(ah hl (.lst ((Txt.split row (Str.ofString " ")).map V.str))).trans k1
 have hne:ns≠[]:=fun z=>by
  have hp:=PyProof.Rows.split_pos row (Str.ofString " ")
  obtain⟨a,r,e⟩:=List.exists_cons_of_length_pos hp
  obtain⟨b,_,hb⟩:=ik hns (a:=a) (by rw[e];exact List.mem_cons_self)
  rw[z] at hb
  cases hb
 have hne':ns.map V.int≠[]:=fun z=>hne (List.map_eq_nil_iff.mp z)
 refine⟨_,rfl,1,rfl,.inl ⟨D,_,_,_,rfl,rfl,SqL.of hD,jR hne',?_⟩⟩
 rw[List.getLast_map]
 refine .inl ⟨rfl,_,rfl,?_⟩
 by_cases h0:ns.getLast hne=0
 ·rw[h0]
  refine qJ rfl ?_
  refine⟨_,rfl,1,rfl,_,rfl,D,_,rfl,SqL.of hD,fun p2 hp2=>⟨p2,_,rfl,.inl ⟨SqL.of ad,fun p3 hp3=>?_⟩⟩⟩
  have k3:=k1'.trans ((ah hp2 (.lst (b8 (ns.map V.int) none (some (-1))))).trans (ah hp3 (.tup (b8 (ns.map V.int) none (some (-1))))))
  refine q ns.dropLast (by unfold eR;rw[hns];show (if _ then _ else _)=_;rw[if_pos (by rw[List.getLast?_eq_some_getLast hne,h0])]) p3 _ k3 ?_
  rw[ad,il,List.map_dropLast]
 ·rw[decide_eq_false fun z=>h0 (V.int.inj z)]
  refine aM ⟨(by show 1<=sizeLine;decide),qe ?_ _ k1'⟩
  unfold eR
  rw[hns]
  show (if _ then _ else _)=_
  rw[if_neg (by rw[List.getLast?_eq_some_getLast hne];exact fun z=>h0 (Option.some.inj z))]
theorem iC:ax ["row"] ["row"] (al gM):=⟨rfl,rfl,rfl,by decide+kernel,rfl,by decide+kernel,by decide+kernel⟩
theorem li {f:Addr}{fd:FuncData}(F:Fun K "read_turns" "read_turns" gM f fd)(T:sZ K mg CN):aU P w K mg base (cb P w) 1 f fd ["row"] (iB CN):=by
 have sc:=iC
 refine F.okX iC (fun vs H Q E h=>?_) (fun cdv A outer s H vs Q E hr h=>?_)
 ·obtain⟨row,rfl,_⟩:=h
  rfl
 obtain⟨row,rfl,hz,q,qe⟩:=h
 have hu:=hr.units
 refine⟨_,(ae (aD (a_ (fb (pv 0) (fun _=>rfl))) (ag (cp T.x_NoText PySem.F.excBase_ValueError T.m_NoText rfl (aa am ac))) aq)
  (ag (au (eX (ao (aL hu) (pv 0) (aT rfl T.g_NO_TURNS) (ar _)) am (pv 0))))),?_⟩
 have hl:row.cps.toList.length=row.length:=Array.length_toList
 refine⟨_,rfl,_,⟨Nat.le_trans hz (by decide),rfl⟩,?_⟩
 by_cases h0:row.cps.toList=[]
 ·have e:((row.length:Int) != 0)=false:=by rw[← hl,h0];rfl
  rw[e]
  exact aM ⟨(by show 1<=sizeLine;decide),qe (if_pos h0)⟩
 ·have e:((row.length:Int) != 0)=true:=by
   have:=List.length_pos_iff.mpr h0
   rw[bne_iff_ne]
   omega
  rw[e]
  refine aV ⟨_,rfl,.inl ⟨rfl,_,rfl,?_⟩⟩
  have q':=q _ (if_neg h0)
  rw[bx,show (Str.ofString "-").cps.toList=[45] from by decide+kernel]
  by_cases h1:row.cps.toList=[45]
  ·rw[if_pos h1] at q'
   rw[decide_eq_true h1]
   exact aM q'
  ·rw[if_neg h1] at q'
   rw[decide_eq_false h1]
   exact aV ⟨_,rfl,q'⟩
theorem dI {x r:Str}{rs:List Str}(h:Txt.split x (Str.ofString "\n")=r::rs):cr x=(dA r).bind fun t=>(cq eR rs).bind fun cs=>if cM (bJ t cs)=true then some (t,cs) else none:=by
 unfold cr
 rw[h]
 rfl
theorem j7:ax ["text","rows","sentence"] ["text"] (al jp):=⟨rfl,rfl,rfl,by decide+kernel,rfl,by decide+kernel,by decide+kernel⟩
theorem m3 {f f1 f2 f3:Addr}{fd d1 d2 d3:FuncData}(F:Fun K "read_sentence" "read_sentence" jp f fd)(T:rX K mg CN)(Gread_turns:nZ P w K mg base 1 "read_turns" f1 d1 ["row"] (iB CN))(Gread_clause:nZ P w K mg base 3 "read_clause" f2 d2 ["row"] (o7 CN))(Gis_sentence:Fn P w K mg base 3 "is_sentence" f3 d3 ["thing"] iy):
  aU P w K mg base (cb P w) 4 f fd ["text"] (j5 CN):=by
 have sc:=j7
 refine F.okX j7 (fun vs H Q E h=>?_) (fun cdv A outer s H vs Q E hr h=>?_)
 ·obtain⟨x,rfl,_⟩:=h
  rfl
 obtain⟨x,rfl,hz,q,qe⟩:=h
 have hu:=hr.units
 refine⟨_,(ae (ak (i:=1) sc.nd rfl (Or.inl rfl) (bi PySem.F.plainAttrs_str PySem.F.slot_str_split PySem.F.type_str_split cN (pv 0) (aa am ac)))
  (ae (ak (i:=2) sc.nd rfl (Or.inl rfl) (b7 (aa (mf Gread_turns hr (by omega) rfl (aa (aF ay (pv 1) af (fun _ _=>rfl)) ac)) (aa (ii (NY:=["row"]) (idx:=[none]) ⟨by with_unfolding_all rfl,(by with_unfolding_all exact trivial),fun _=>by rfl,by rfl,by rfl,by rfl,by decide⟩ (bn (aE cQ (pv 1) (aC af) aO)) (fun _ _ _ _=>(az (i:=0) (show List.Nodup (["row"]:List Str) by decide+kernel) rfl (Or.inl rfl))) (fun _ _ _ _=>bp) (fun _ _ _ _=>(jQ Gread_clause hr (by omega) rfl (aa (pv 0) ac)))) ac))))
  (ae (aD (a_ (aZ (aI Gis_sentence hr (by omega) rfl (aa (pv 2) ac)))) (ag (cp T.x_NoText PySem.F.excBase_ValueError T.m_NoText rfl (aa am ac))) aq)
  (ag (au (pv 2)))))),?_⟩
 refine⟨_,rfl,rfl,x,Str.ofString "\n",rfl,rfl,(by decide+kernel),(by omega),fun l hl=>?_⟩
 have hsl:=PyProof.Rows.split_le x (Str.ofString "\n")
 have hparts:∀ s∈Txt.split x (Str.ofString "\n"),s.length<=800000:=fun s hs=>Nat.le_trans (cA hs) hz
 obtain⟨r,rs,es⟩:=List.exists_cons_of_length_pos (PyProof.Rows.split_pos x (Str.ofString "\n"))
 have hof:=dI es
 rw[es] at hsl hparts ⊢
 have k1:Same H (upd H l (.lst ((r::rs).map V.str))):=ah hl _
 have hl1:upd H l (.lst ((r::rs).map V.str)) l=some (.lst ((r::rs).map V.str)):=ad
 generalize upd H l (.lst ((r::rs).map V.str))=H1 at k1 hl1 ⊢
 have hrl:=hparts r List.mem_cons_self
 refine⟨_,rfl,.inl ⟨l,_,0,.str r,rfl,rfl,SqL.of hl1,cT,?_⟩⟩
 refine⟨r,rfl,by omega,fun t ht=>?_,fun ht=>qe (by rw[hof,ht];rfl) _ k1⟩
 refine⟨_,rfl,1,rfl,l,_,rfl,SqL.of hl1,fun p2 hp2=>?_⟩
 have ect:b8 ((r::rs).map V.str) (some 1) none=rs.map V.str:=im _ (by rw[List.length_map];omega)
 rw[ect]
 have k2:Same H (upd H1 p2 (.lst (rs.map V.str))):=k1.trans (ah hp2 _)
 have hl2:upd H1 p2 (.lst (rs.map V.str)) p2=some (.lst (rs.map V.str)):=ad
 generalize upd H1 p2 (.lst (rs.map V.str))=H2 at k2 hl2 ⊢
 refine⟨p2,rfl,⟨_,SqL.of hl2⟩,fun D hD=>?_⟩
 have nD:H D=none:=k2.free hD
 refine bA (K:=K) (a:=p2) (xs:=rs.map V.str) (fun i σ ys H3=>(∃ v0,σ=[v0])/\H3 D=some (.lst ys)/\Same H H3/\Same H2 H3/\CLs H3 ((rs.take i).filterMap eR) ys/\∀ a∈rs.take i,(eR a).isSome=true) ⟨⟨none,rfl⟩,ad,k2.upd_new nD _,ah hD _,.nil,fun _ z=>nomatch z⟩ ?_ ?_ ?_
 ·rintro i σ ys H3 _ ⟨_,g1,g2,g3,_⟩
  exact⟨g1,SqL.of (g3 _ _ hl2)⟩
 ·rintro i v σ ys H3 hx ⟨⟨v0,rfl⟩,g1,g2,g3,g4,g5⟩
  rw[List.getElem?_map] at hx
  obtain⟨a,ha,rfl⟩:=Option.map_eq_some_iff.mp hx
  have hil:i < rs.length:=(List.getElem?_eq_some_iff.mp ha).1
  have ham:=List.mem_of_getElem? ha
  have hal:=hparts a (List.mem_cons_of_mem _ ham)
  rw[List.length_cons] at hsl
  refine bE ⟨_,rfl,a,rfl,by omega,fun c hc t1 H4 k4 ht1=>?_,fun hn H4 k4=>qe (by rw[hof,ht,dy ham hn];rfl) _ (g2.trans k4)⟩
  have h4:=k4 _ _ g1
  refine⟨h4,?_,⟨_,rfl⟩,ad,(g2.trans k4).upd_new nD _,(g3.trans k4).upd_new hD _,?_,dz ha g5 (by rw[hc];rfl)⟩
  ·rw[← g4.length]
   exact bq (Nat.le_trans (fK i) (by omega))
  ·rw[eh ha hc]
   exact CLs.snoc (CL.upd ⟨t1,rfl,ht1⟩ h4) ((g4.mono k4).upd h4)
 rintro σ ys H3 ⟨_,g1,g2,g3,g4,g5⟩
 rw[List.length_map,List.take_of_length_le (Nat.le_refl _)] at g4 g5
 have hall:=gG g5
 have hcl:(rs.filterMap eR).length<=rs.length:=List.length_filterMap_le _ _
 generalize rs.filterMap eR=cs at g4 hall hcl
 rw[hof,ht,hall] at q qe
 refine⟨(by show 2<=sizeLine;decide),fun p5 hp5=>?_⟩
 have k5:Same H3 (upd H3 p5 (.tup [.str t,.ref D])):=ah hp5 _
 have h5:upd H3 p5 (.tup [.str t,.ref D]) p5=some (.tup [.str t,.ref D]):=ad
 generalize upd H3 p5 (.tup [.str t,.ref D])=H5 at k5 h5 ⊢
 have hsrd:=bZ h5 (k5 _ _ g1) (g4.mono k5)
 have htl:t.length<=800000:=by
  unfold dA at ht
  split at ht
  ·cases ht
  ·injection ht with ht
   rw[← ht]
   split
   ·exact Nat.zero_le _
   ·exact hrl
 refine⟨_,rfl,.ref p5,bJ t cs,rfl,hsrd,fun d0 d1 e=>?_,fun H6 k6=>⟨_,rfl,?_⟩⟩
 ·injection e with e
  injection e with e1 e
  injection e with e2 e
  subst e1 e2
  refine⟨fun t' e=>?_,fun es' e=>?_⟩
  ·injection e with e
   rw[← e]
   omega
  ·injection e with e
   rw[← e,List.length_map]
   rw[List.length_cons] at hsl
   omega
 cases hb:cM (bJ t cs) with
 |true=>
  refine aV ⟨_,rfl,?_⟩
  exact q t cs (by show (if cM (bJ t cs)=true then some (t,cs) else none)=_;rw[hb,if_pos rfl]) p5 D ys H6 (g2.trans (k5.trans k6)) nD (k6 _ _ h5) (k6 _ _ (k5 _ _ g1)) ((g4.mono k5).mono k6)
 |false=>
  refine aM ⟨(by show 1<=sizeLine;decide),qe ?_ _ (g2.trans (k5.trans k6))⟩
  show (if cM (bJ t cs)=true then some (t,cs) else none)=_
  rw[hb,if_neg (by nofun)]
end
end K85
namespace K85
open PySem L2 OD PySem.NumText
abbrev m5:Stmt:=dG 39
abbrev qD:Stmt:=dG 43
structure rY (mg:Str->Option Value):Prop where
 int:mg "int"=none
 len:mg "len"=none
 tuple:mg "tuple"=none
 abs:mg "abs"=none
def m6:Sp:=fun vs H Q _=>∃ t:Str,vs=[.str t]/\t.length<=1000000/\∀ H',Same H H'->Q (cV t) H'
def m7:Sp:=fun vs H Q _=>∃ (p:Addr) (ns:List Int) (most:Int),vs=[.ref p,.int most]/\H p=some (.lst (ns.map V.int))/\Q (.bl (c_ most 0 (ns.map PyData.int))) H
def o9:Sp:=fun vs H Q _=>∃ x:Str,vs=[.str x]/\x.length<=800000/\
 (∀ t cs,cr x=some (t,cs)->∀ p q xs H',Same H H'->H q=none->H' p=some (.tup [.str t,.ref q])->H' q=some (.lst xs)->CLs H' cs xs->Q (.ref p) H')/\(cr x=none->∀ H',Same H H'->Q .non H')
section
variable {P:Program}{w:World}{K:PySem.W.Frag}{mg:Str->Option Value}{base:Heap}{CN:Addr}
theorem m8:ax ["_law_text","_law_figures","_law_number_here","_law_sign"] ["_law_text"] (al mV):=⟨rfl,rfl,rfl,by decide+kernel,rfl,by decide+kernel,by decide+kernel⟩
theorem iD (t:Str):decide (V.str ⟨(t.cps.toList.take 1).toArray⟩=V.str (Str.ofString "-"))=fH t.cps.toList:=by
 rw[bx,show (Str.ofString "-").cps.toList=[45] from by decide+kernel]
 show decide (t.cps.toList.take 1=[45])=_
 unfold fH
 cases t.cps.toList with
 |nil=>rfl
 |cons a r=>
  rw[Bool.eq_iff_iff]
  simp
theorem qE {t:Str}{D:cU}{σ rest:St}{H:Hp}(h0:σ=some (.str t)::some (.str t)::rest)(hz:t.length<=1000000)(h:∀ fg:Str,fg.cps.toList=aK t.cps.toList->fg.length<=1000000->D.nx (some (.str t)::some (.str fg)::rest) H):
  if fH t.cps.toList=true then iK (rc ml (bB 0) (gS (tC (V.int 1))) dm) (bW 1) D σ H else eY D σ H:=by
 subst h0
 have hl:t.cps.toList.length=t.length:=Array.length_toList
 refine bv (fun c=>⟨_,rfl,1,rfl,t,rfl,Nat.le_trans hz (by decide),?_⟩) fun c=>h t ?_ hz
 ·rw[fJ]
  refine h _ ?_ ?_
  ·unfold aK
   rw[if_pos c]
  ·show (t.cps.toList.tail.toArray).size<=_
   rw[List.size_toArray,List.length_tail]
   omega
 ·unfold aK
  rw[if_neg c]
theorem oJ {f:Addr}{fd:FuncData}(F:Fun K "_law_number" "_law_number" mV f fd)(T:rY mg):aU P w K mg base cX 1 f fd ["_law_text"] m6:=by
 have sc:=m8
 refine F.ok m8 (fun vs H Q E h=>?_) (fun cdv A outer s H vs Q E hr h=>?_)
 ·obtain⟨t,rfl,_⟩:=h
  rfl
 obtain⟨t,rfl,hz,q⟩:=h
 have hu:=hr.units
 have htl:t.cps.toList.length=t.length:=Array.length_toList
 have hzs:t.length<=sizeLine:=Nat.le_trans hz (by decide)
 refine⟨_,(ae (ak (i:=1) sc.nd rfl (Or.inl rfl) (pv 0))
  (ae (aD (ao (aL hu) (aE bF (pv 0) aO (aC af)) am (ar _)) (ag (ak (i:=1) sc.nd rfl (Or.inl rfl) (aE bF (pv 0) (aC af) aO))) aq)
  (ae (aD (PW.pt (bD (ao (aL hu) (pv 1) am (ar _)) (bD (ao di (ai aJ rfl T.len PySem.boot_len (aa (pv 1) ac)) af (ar _)) (br (ao (bM hu) (bi PySem.F.plainAttrs_str PySem.F.slot_str_strip PySem.F.type_str_strip ic (pv 1) (aa am ac)) am (ar _)))))) (ag (au cw)) aq)
  (ae (aD (PW.pt (gn (ao (aL hu) (aF ay (pv 1) af (fun _ _=>rfl)) am (ar _)) (eJ (ao (bM hu) (pv 0) am (ar _))))) (ag (au cw)) aq)
  (ae (ak (i:=2) sc.nd rfl (Or.inl rfl) af)
  (ae (cj PassesOwn.never rfl (i6 (pv 1)) (az (i:=3) sc.nd rfl (Or.inl rfl))
   (ag (ak (i:=2) sc.nd rfl (Or.inl rfl) (aj aY (aj bU (pv 2) af) (bi PySem.F.plainAttrs_str PySem.F.slot_str_index PySem.F.type_str_index kX am (aa (pv 3) ac))))))
  (ag (au (aj bU (pv 2) (aF ay (bu (aa af (aa (fS dM af) ac))) (aP dO rfl T.int PyProof.Rows.boot_int (aa (cx (aL hu) (aE bF (pv 0) aO (aC af)) am (ar _)) ac)) (fun _ _=>rfl))))))))))),?_⟩
 refine⟨_,rfl,_,rfl,1,rfl,t,rfl,hzs,?_⟩
 rw[fI]
 refine .inl ⟨rfl,_,rfl,?_⟩
 rw[iD]
 have qn:bV t=none->∀ H',Same H H'->Q .non H':=fun e H' k=>by
  have:=q H' k
  unfold cV at this
  rw[e] at this
  exact this
 refine qE (rest:=[none,none]) rfl hz fun fg ef hl=>?_
 have hlen:fg.length=(aK t.cps.toList).length:=by rw[← ef];exact Array.length_toList.symm
 have hls:fg.length<=sizeLine:=Nat.le_trans hl (by decide)
 refine⟨_,rfl,.inl ⟨rfl,_,rfl,?_⟩⟩
 rw[bx,show (Str.ofString "").cps.toList=[] from by decide+kernel,ef]
 by_cases h1:aK t.cps.toList=[]
 ·rw[decide_eq_true h1]
  exact aM (aM (qn (bS (.inl h1)) _ (Same.refl _)))
 rw[decide_eq_false h1]
 refine aV ⟨_,rfl,.str fg,_,rfl,⟨hls,rfl⟩,_,_,rfl,rfl,_,rfl,?_⟩
 by_cases h3:9 < (aK t.cps.toList).length
 ·rw[decide_eq_true (by omega)]
  exact aM (aM (qn (bS (.inr (.inr (.inl h3)))) _ (Same.refl _)))
 rw[decide_eq_false (by omega)]
 refine aV ⟨_,rfl,rfl,fg,_,rfl,rfl,hls,.inl ⟨rfl,_,rfl,?_⟩⟩
 rw[fC,ef,show (aK t.cps.toList).all (Str.ofString "0123456789").cps.contains=(aK t.cps.toList).all b_ from List.all_congr rfl fun c=>my c]
 cases h2:(aK t.cps.toList).all b_ with
 |false=>exact aM (qn (bS (.inr (.inl h2))) _ (Same.refl _))
 |true=>
 refine aV ?_
 unfold eY
 dsimp only
 refine ci fun N hN=>?_
 obtain⟨c,r,hcr⟩:=List.exists_cons_of_ne_nil h1
 refine⟨_,rfl,.inr (.inr ⟨fg,0,c,rfl,rfl,hls,by rw[ef,hcr];exact cT,.inl ⟨rfl,_,rfl,?_⟩⟩)⟩
 rw[bx,show (Str.ofString "0").cps.toList=[48] from by decide+kernel]
 by_cases h4:c=48/\t.cps.toList≠[48]
 ·rw[decide_eq_true (by rw[h4.1])]
  refine aM ⟨_,rfl,.inl ⟨rfl,_,rfl,?_⟩⟩
  rw[bx,show (Str.ofString "0").cps.toList=[48] from by decide+kernel,decide_eq_false h4.2]
  exact aM (qn (bS (.inr (.inr (.inr ⟨by rw[hcr,h4.1];rfl,h4.2⟩)))) _ (Same.refl _))
 have hs:=ij h1 h2 (by omega) (fun z=>h4 ⟨by rw[hcr] at z;exact Option.some.inj z.1,z.2⟩)
 have fin:N [some (.str t),some (.str fg),none,none] H:=by
  refine hN _ _ ⟨_,rfl,fg,rfl,ox (x:=fg) (fun i σ H2=>∃ v3,σ=[some (.str t),some (.str fg),some (.int (digitsVal ((aK t.cps.toList).take i):Nat)),v3]/\H2=H) ⟨none,rfl,rfl⟩ ?_ ?_⟩
  ·rintro i d σ H2 hd ⟨v3,rfl,rfl⟩
   rw[ef] at hd
   have hf:=List.all_eq_true.mp h2 d (List.mem_of_getElem? hd)
   have hf':=of_decide_eq_true hf
   refine⟨_,rfl,_,_,rfl,rfl,.inr ⟨by decide,by decide⟩,rfl,_,rfl,_,_,d - 48,[],rfl,rfl,ow hf,_,_,rfl,rfl,?_⟩
   refine⟨some (.str ⟨#[d]⟩),?_,rfl⟩
   rw[iq hd,Int.natCast_add,Int.natCast_mul]
   rfl
  ·rintro σ H2 ⟨v3,rfl,rfl⟩
   rw[hlen,List.take_of_length_le (Nat.le_refl _)]
   refine⟨_,rfl,1,rfl,(by show 2<=sizeLine;decide),fun l hl=>⟨_,rfl,1,rfl,t,rfl,hzs,?_⟩⟩
   rw[fI]
   refine .inl ⟨rfl,.inr ⟨_,rfl,?_⟩⟩
   rw[iD]
   have q':=q _ (ah hl (.lst [.int 1,.int (-1)]))
   unfold cV at q'
   rw[hs] at q'
   have q'':Q (.int (if fH t.cps.toList=true then -((digitsVal (aK t.cps.toList):Nat):Int) else ((digitsVal (aK t.cps.toList):Nat):Int))) (upd H2 l (.lst [.int 1,.int (-1)])):=q'
   cases hn:fH t.cps.toList with
   |true=>
    rw[hn,if_pos rfl] at q''
    refine .inl ⟨l,[.int 1,.int (-1)],1,.int (-1),rfl,rfl,SqL.of ad,rfl,_,_,rfl,rfl,.inr ⟨by decide,by decide⟩,?_⟩
    rw[Int.mul_neg,Int.mul_one]
    exact q''
   |false=>
    rw[hn,if_neg (by nofun)] at q''
    refine .inl ⟨l,[.int 1,.int (-1)],0,.int 1,rfl,rfl,SqL.of ad,rfl,_,_,rfl,rfl,.inr ⟨by decide,by decide⟩,?_⟩
    rw[Int.mul_one]
    exact q''
 refine bv (fun c1=>⟨_,rfl,.inl ⟨rfl,_,rfl,qJ ?_ fin⟩⟩) fun _=>aV fin
 have c1':c=48:=(List.cons.inj (of_decide_eq_true c1)).1
 refine of_decide_eq_true ((bx _ _).trans ?_)
 rw[show (Str.ofString "0").cps.toList=[48] from by decide+kernel]
 exact decide_eq_true (Decidable.byContradiction fun z=>h4 ⟨c1',z⟩)
theorem m9:ax ["_law_thing","_law_most","_law_last","_law_one"] ["_law_thing","_law_most"] (al m5):=⟨rfl,rfl,rfl,by decide+kernel,rfl,by decide+kernel,by decide+kernel⟩
theorem oK {f:Addr}{fd:FuncData}(F:Fun K "_law_is_set" "_law_is_set" m5 f fd)(T:rY mg):aU P w K mg base cX 1 f fd ["_law_thing","_law_most"] m7:=by
 have sc:=m9
 refine F.ok m9 (fun vs H Q E h=>?_) (fun cdv A outer s H vs Q E hr h=>?_)
 ·obtain⟨p,ns,most,rfl,_⟩:=h
  rfl
 obtain⟨p,ns,most,rfl,hp,q⟩:=h
 refine⟨_,(ae (ak (i:=2) sc.nd rfl (Or.inl rfl) af)
  (ae (cj PassesOwn.never rfl (bn (pv 0)) (az (i:=3) sc.nd rfl (Or.inl rfl))
   (ae (aD (PW.pt (bD (ao oS (ai cD rfl T.abs PyProof.Rows.boot_abs (aa (pv 3) ac)) (pv 2) (ar _)) (br (ao di (ai cD rfl T.abs PyProof.Rows.boot_abs (aa (pv 3) ac)) (pv 1) (ar _))))) (ag (au cm)) aq)
   (ag (ak (i:=2) sc.nd rfl (Or.inl rfl) (ai cD rfl T.abs PyProof.Rows.boot_abs (aa (pv 3) ac))))))
  (ag (au cm)))),?_⟩
 refine⟨_,rfl,p,rfl,⟨_,SqL.of hp⟩,dh (K:=K) (a:=p) (xs:=ns.map V.int) (fun i σ H2=>∃ (b:Int) (l:Option V),σ=[some (.ref p),some (.int most),some (.int b),l]/\H2=H/\c_ most b ((ns.drop i).map PyData.int)=c_ most 0 (ns.map PyData.int))
  ⟨0,none,rfl,rfl,rfl⟩ (fun i σ H2 _ hp'=>by obtain⟨_,_,_,e,_⟩:=hp';rw[e];exact SqL.of hp) ?_ ?_⟩
 ·rintro i y σ H2 hi ⟨b,l,rfl,rfl,hb⟩
  obtain⟨z,rfl,hz⟩:=cI hi
  have hil:i < ns.length:=(List.getElem?_eq_some_iff.mp hz).1
  rw[List.drop_eq_getElem_cons hil,show ns[i]=z from (List.getElem?_eq_some_iff.mp hz).2,List.map_cons,ie] at hb
  refine⟨_,rfl,z,rfl,_,rfl,_,_,rfl,rfl,_,rfl,?_⟩
  refine bv (fun c1=>?_) (fun c1=>?_)
  ·have c1':bI z<=b:=of_decide_eq_true c1
   rw[if_neg (by omega)] at hb
   rw[← hb] at q
   exact aM q
  ·have c1':¬ bI z<=b:=fun hh=>c1 (decide_eq_true hh)
   refine⟨_,rfl,z,rfl,_,rfl,_,_,rfl,rfl,_,rfl,?_⟩
   refine bv (fun c2=>?_) (fun c2=>?_)
   ·have c2':bI z > most:=of_decide_eq_true c2
    rw[if_neg (by omega)] at hb
    rw[← hb] at q
    exact q
   ·have c2':¬ bI z > most:=fun hh=>c2 (decide_eq_true hh)
    rw[if_pos (by omega)] at hb
    exact⟨_,rfl,z,rfl,bI z,some (.int z),rfl,rfl,hb⟩
 ·rintro σ H2 ⟨b,l,rfl,rfl,hb⟩
  rw[List.length_map,List.drop_length] at hb
  rw[← hb] at q
  exact q
end
end K85
namespace K85
open PySem L2 OD PySem.NumText
section
variable {P:Program}{w:World}{K:PySem.W.Frag}{mg:Str->Option Value}{base:Heap}{CN:Addr}
theorem iE {x r t a:Str}{rs:List Str}{c:List Int}(h:Txt.split x (Str.ofString "\n")=r::rs)(ht:dA r=some t)(ha:a∈rs)(hc:eR a=some c)(hs:de t.length (fu c)=false):cr x=none:=by
 rw[dI h,ht]
 show (cq eR rs).bind _=none
 cases e:cq eR rs with
 |none=>rfl
 |some cs=>
  obtain⟨c',h1,h2⟩:=ik e ha
  rw[hc] at h1
  cases h1
  show (if _ then _ else _)=_
  rw[if_neg]
  rw[dB]
  intro z
  have:=List.all_eq_true.mp (Bool.and_eq_true_iff.mp z).2 c h2
  rw[hs] at this
  cases this
theorem lj {x r t:Str}{rs:List Str}(h:Txt.split x (Str.ofString "\n")=r::rs)(ht:dA r=some t)(hw:ee t=false):cr x=none:=by
 rw[dI h,ht]
 show (cq eR rs).bind _=none
 cases e:cq eR rs with
 |none=>rfl
 |some cs=>
  show (if _ then _ else _)=_
  rw[if_neg]
  rw[dB,hw]
  nofun
theorem o_:ax ["_law_text","_law_rows","_law_turns","_law_clauses","_law_row","_law_numbers"] ["_law_text"] (al qD):=⟨rfl,rfl,rfl,by decide+kernel,rfl,by decide+kernel,by decide+kernel⟩
theorem qF {f f1 f2:Addr}{fd d1 d2:FuncData}(F:Fun K "_law_reader" "_law_reader" qD f fd)(T:rY mg)(G_law_number:Fn P w K mg base 1 "_law_number" f1 d1 ["_law_text"] m6)(G_law_is_set:Fn P w K mg base 1 "_law_is_set" f2 d2 ["_law_thing","_law_most"] m7):
  aU P w K mg base cX 2 f fd ["_law_text"] o9:=by
 have sc:=o_
 refine F.ok o_ (fun vs H Q E h=>?_) (fun cdv A outer s H vs Q E hr h=>?_)
 ·obtain⟨x,rfl,_⟩:=h
  rfl
 obtain⟨x,rfl,hz,q,qe⟩:=h
 have hu:=hr.units
 refine⟨_,(ae (ak (i:=1) sc.nd rfl (Or.inl rfl) (bi PySem.F.plainAttrs_str PySem.F.slot_str_split PySem.F.type_str_split cN (pv 0) (aa am ac)))
  (ae (ak (i:=2) sc.nd rfl (Or.inl rfl) (aF ay (bu (aa (aF ay (pv 1) af (fun _ _=>rfl)) (aa am ac))) (aP dO rfl T.int PyProof.Rows.boot_int (aa (cx (aL hu) (aF ay (pv 1) af (fun _ _=>rfl)) am (ar _)) ac)) (fun _ _=>rfl)))
  (ae (aD (PW.pt (bD (ao (aL hu) (aF ay (pv 1) af (fun _ _=>rfl)) am (ar _)) (br (ao (bM hu) (bi PySem.F.plainAttrs_str PySem.F.slot_str_strip PySem.F.type_str_strip ic (pv 2) (aa am ac)) am (ar _))))) (ag (au cw)) aq)
  (ae (ak (i:=3) sc.nd rfl (Or.inl rfl) (bu ac))
  (ae (cj PassesOwn.never rfl (bn (aE cQ (pv 1) (aC af) aO)) (az (i:=4) sc.nd rfl (Or.inl rfl))
   (ae (iT (i:=5) sc.nd rfl rfl (NY:=["_law_part"]) (idx:=[none]) rfl ⟨by with_unfolding_all rfl,(by with_unfolding_all exact trivial),fun _=>by rfl,by rfl,by rfl,by rfl,by decide⟩ (bn (bi PySem.F.plainAttrs_str PySem.F.slot_str_split PySem.F.type_str_split cN (pv 4) (aa am ac))) (fun _ _ _ _=>(az (i:=0) (show List.Nodup (["_law_part"]:List Str) by decide+kernel) rfl (Or.inl rfl))) (fun _ _ _ _=>bp) (fun _ _ _ _=>(aI G_law_number hr (by omega) rfl (aa (pv 0) ac))) (by with_unfolding_all rfl))
   (ae (aD (PW.pt (bD (ao fY cw (pv 5) (by with_unfolding_all rfl)) (bD (ao (bM hu) (aF ay (pv 5) (fS dM af) (fun _ _=>rfl)) af (ar _)) (br (a_ (aZ (aI G_law_is_set hr (by omega) rfl (aa (aE cQ (pv 5) aO (aC (fS dM af))) (aa (ai aJ rfl T.len PySem.boot_len (aa (pv 2) ac)) ac))))))))) (ag (au cw)) aq)
   (ag (cf (bi PySem.F.plainAttrs_list PySem.F.slot_list_append PySem.F.type_list_append bL (pv 3) (aa (aP bN rfl T.tuple PyProof.Rows.boot_tuple (aa (aE cQ (pv 5) aO (aC (fS dM af))) ac)) ac)))))))
  (ag (au (b7 (aa (pv 2) (aa (pv 3) ac)))))))))),?_⟩
 refine⟨_,rfl,rfl,x,Str.ofString "\n",rfl,rfl,(by decide+kernel),(by omega),fun l hl=>?_⟩
 have hsl:=PyProof.Rows.split_le x (Str.ofString "\n")
 have hparts:∀ s∈Txt.split x (Str.ofString "\n"),s.length<=800000:=fun s hs=>Nat.le_trans (cA hs) hz
 obtain⟨r,rs,es⟩:=List.exists_cons_of_length_pos (PyProof.Rows.split_pos x (Str.ofString "\n"))
 have hof:=dI es
 rw[es] at hsl hparts
 have hof1:=es
 rw[es]
 have k1:Same H (upd H l (.lst ((r::rs).map V.str))):=ah hl _
 have hl1:upd H l (.lst ((r::rs).map V.str)) l=some (.lst ((r::rs).map V.str)):=ad
 generalize upd H l (.lst ((r::rs).map V.str))=H1 at k1 hl1 ⊢
 have hrl:=hparts r List.mem_cons_self
 refine⟨_,rfl,.inl ⟨l,_,0,.str r,rfl,rfl,SqL.of hl1,cT,?_⟩⟩
 refine⟨(by show 2<=sizeLine;decide),fun l2 hl2=>?_⟩
 have k2:Same H (upd H1 l2 (.lst [.str r,.str (Str.ofString "")])):=k1.trans (ah hl2 _)
 have hl1b:=ah hl2 (.lst [.str r,.str (Str.ofString "")]) _ _ hl1
 have hl2b:upd H1 l2 (.lst [.str r,.str (Str.ofString "")]) l2=some (.lst [.str r,.str (Str.ofString "")]):=ad
 refine⟨_,rfl,.inl ⟨l,_,0,.str r,rfl,rfl,SqL.of hl1b,cT,.inl ⟨rfl,.inr ⟨_,rfl,?_⟩⟩⟩⟩
 generalize upd H1 l2 (.lst [.str r,.str (Str.ofString "")])=H2 at k2 hl1b hl2b ⊢
 rw[bx,show (Str.ofString "-").cps.toList=[45] from by decide+kernel]
 have hpick:∃ t,fX [V.str r,V.str (Str.ofString "")] (if decide (r.cps.toList=[45])=true then 1 else 0)=some (.str t)/\t=(if r.cps.toList=[45] then Str.ofString "" else r):=by
  by_cases h1:r.cps.toList=[45]
  ·rw[decide_eq_true h1,if_pos rfl,if_pos h1]
   exact⟨_,rfl,rfl⟩
  ·rw[decide_eq_false h1,if_neg (by nofun),if_neg h1]
   exact⟨_,rfl,rfl⟩
 obtain⟨t,hat,het⟩:=hpick
 have htl:t.length<=800000:=by
  rw[het]
  split
  ·exact Nat.zero_le _
  ·exact hrl
 refine .inl ⟨l2,_,_,_,rfl,rfl,SqL.of hl2b,hat,?_⟩
 refine⟨_,rfl,.inl ⟨l,_,0,.str r,rfl,rfl,SqL.of hl1b,cT,.inl ⟨rfl,_,rfl,?_⟩⟩⟩
 rw[bx,show (Str.ofString "").cps.toList=[] from by decide+kernel]
 by_cases h0:r.cps.toList=[]
 ·rw[decide_eq_true h0]
  exact aM (aM (qe (by rw[hof,show dA r=none from if_pos h0];rfl) _ k2))
 have ht:dA r=some t:=by rw[het];exact if_neg h0
 rw[decide_eq_false h0]
 refine aV ⟨_,rfl,rfl,t,Str.ofString "ws",rfl,rfl,Nat.le_trans htl (by decide),.inl ⟨rfl,_,rfl,?_⟩⟩
 rw[fC,qr]
 cases hw:ee t with
 |false=>exact aM (qe (lj hof1 ht hw) _ k2)
 |true=>
 refine aV ⟨Nat.zero_le _,fun qa hqa=>?_⟩
 have nqa:H qa=none:=k2.free hqa
 have k3:Same H (upd H2 qa (.lst [])):=k2.upd_new nqa _
 have hl1c:=ah hqa (.lst []) _ _ hl1b
 have hqa3:upd H2 qa (.lst []) qa=some (.lst []):=ad
 generalize upd H2 qa (.lst [])=H3 at k3 hl1c hqa3 ⊢
 refine⟨_,rfl,1,rfl,l,_,rfl,SqL.of hl1c,fun p2 hp2=>?_⟩
 have ect:b8 ((r::rs).map V.str) (some 1) none=rs.map V.str:=im _ (by rw[List.length_map];omega)
 rw[ect]
 have np2:H p2=none:=k3.free hp2
 have k4:Same H (upd H3 p2 (.lst (rs.map V.str))):=k3.upd_new np2 _
 have hqa4:=ah hp2 (.lst (rs.map V.str)) _ _ hqa3
 have hp4:upd H3 p2 (.lst (rs.map V.str)) p2=some (.lst (rs.map V.str)):=ad
 have nqp:p2≠qa:=fun z=>by rw[z,hqa3] at hp2;cases hp2
 generalize upd H3 p2 (.lst (rs.map V.str))=H4 at k4 hqa4 hp4 ⊢
 refine⟨p2,rfl,⟨_,SqL.of hp4⟩,dh (K:=K) (a:=p2) (xs:=rs.map V.str)
  (fun i σ H5=>∃ (xs:List V) (v4 v5:Option V),σ=[some (.str x),some (.ref l),some (.str t),some (.ref qa),v4,v5]/\H5 qa=some (.lst xs)/\H5 p2=some (.lst (rs.map V.str))/\Same H H5/\CLs H5 ((rs.take i).filterMap eR) xs/\(∀ a∈rs.take i,(eR a).isSome=true)/\∀ a∈rs.take i,∀ c,eR a=some c->de t.length (fu c)=true)
  ⟨[],none,none,rfl,hqa4,hp4,k4,.nil,(fun _ z=>nomatch z),(fun _ z=>nomatch z)⟩ ?_ ?_ ?_⟩
 ·rintro i σ H5 _ ⟨xs,v4,v5,_,_,g2,_⟩
  exact SqL.of g2
 ·rintro i v σ H5 hx ⟨xs,v4,v5,rfl,g1,g2,g3,g4,g5,g6⟩
  rw[List.getElem?_map] at hx
  obtain⟨a,ha,rfl⟩:=Option.map_eq_some_iff.mp hx
  have hil:i < rs.length:=(List.getElem?_eq_some_iff.mp ha).1
  have ham:=List.mem_of_getElem? ha
  have hal:=hparts a (List.mem_cons_of_mem _ ham)
  rw[List.length_cons] at hsl
  refine⟨_,rfl,rfl,a,Str.ofString " ",rfl,rfl,(by decide+kernel),(by omega),fun l3 hl3=>?_⟩
  have hsl2:=PyProof.Rows.split_le a (Str.ofString " ")
  have hpos2:=PyProof.Rows.split_pos a (Str.ofString " ")
  have hparts2:∀ s∈Txt.split a (Str.ofString " "),s.length<=800000:=fun s hs=>Nat.le_trans (cA hs) hal
  have hclT:eR a=(cq bV (Txt.split a (Str.ofString " "))).bind fun ns=>if ns.getLast?=some 0 then some ns.dropLast else none:=rfl
  generalize Txt.split a (Str.ofString " ")=ss at hsl2 hpos2 hparts2 hclT ⊢
  have k6:Same H5 (upd H5 l3 (.lst (ss.map V.str))):=ah hl3 _
  have h6:upd H5 l3 (.lst (ss.map V.str)) l3=some (.lst (ss.map V.str)):=ad
  generalize upd H5 l3 (.lst (ss.map V.str))=H6 at k6 h6 ⊢
  refine⟨l3,rfl,⟨_,SqL.of h6⟩,fun D hD=>?_⟩
  refine bA (K:=K) (a:=l3) (xs:=ss.map V.str) (fun j σ ys H7=>(∃ v0,σ=[v0])/\H7 D=some (.lst ys)/\Same H6 H7/\ys=(ss.take j).map cV) ⟨⟨none,rfl⟩,ad,ah hD _,rfl⟩ ?_ ?_ ?_
  ·rintro j σ ys H7 _ ⟨_,e1,e2,_⟩
   exact⟨e1,SqL.of (e2 _ _ h6)⟩
  ·rintro j y σ ys H7 hy ⟨⟨v0,rfl⟩,e1,e2,e3⟩
   rw[List.getElem?_map] at hy
   obtain⟨b,hb,rfl⟩:=Option.map_eq_some_iff.mp hy
   have hjl:j < ss.length:=(List.getElem?_eq_some_iff.mp hb).1
   refine bE ⟨_,rfl,b,rfl,Nat.le_trans (hparts2 b (List.mem_of_getElem? hb)) (by decide),fun H8 k8=>⟨k8 _ _ e1,?_,⟨_,rfl⟩,ad,(e2.trans k8).upd_new hD _,?_⟩⟩
   ·rw[e3,List.length_map,List.length_take]
    exact bq (by omega)
   ·rw[List.take_add_one,hb,List.map_append,e3]
    rfl
  rintro σ ys H7 ⟨_,e1,e2,e3⟩
  rw[List.length_map,List.take_of_length_le (Nat.le_refl _)] at e3
  subst e3
  have k7:Same H5 H7:=k6.trans e2
  have g3':=g3.trans k7
  refine⟨_,rfl,D,_,rfl,.inl (SqL.of e1),rfl,k_ ss,_,rfl,?_⟩
  rw[show (if false=true then !nA V.non (ss.map cV) else nA V.non (ss.map cV))=nA V.non (ss.map cV) from rfl,oy]
  cases hall:ss.all fun a=>(bV a).isSome with
  |false=>exact aM (aM (qe (by rw[hof,ht];show (cq eR rs).bind _=none;rw[dy ham (by rw[hclT];unfold cq;rw[hall];rfl)];rfl) _ g3'))
  |true=>
  refine aV ?_
  have hns:cq bV ss=some (ss.filterMap bV):=if_pos hall
  rw[hns] at hclT
  have hnv:=la hns
  have hnl:(ss.filterMap bV).length=ss.length:=by
   have:=congrArg List.length hnv
   rw[List.length_map,List.length_map] at this
   exact this.symm
  generalize ss.filterMap bV=ns at hns hclT hnv hnl
  rw[hnv] at e1
  have hne:ns≠[]:=fun z=>by rw[z] at hnl;exact absurd hpos2 (by rw[← hnl];decide)
  have hne':ns.map V.int≠[]:=fun z=>hne (List.map_eq_nil_iff.mp z)
  refine⟨_,rfl,1,rfl,.inl ⟨D,_,_,_,rfl,rfl,SqL.of e1,jR hne',?_⟩⟩
  rw[List.getLast_map]
  refine .inl ⟨rfl,_,rfl,?_⟩
  by_cases h0:ns.getLast hne=0
  case neg=>
   rw[decide_eq_false fun z=>h0 (V.int.inj z)]
   refine aM (aM (qe ?_ _ g3'))
   rw[hof,ht]
   show (cq eR rs).bind _=none
   rw[dy ham]
   ·rfl
   ·rw[hclT]
    show (if _ then _ else _)=_
    rw[if_neg (by rw[List.getLast?_eq_some_getLast hne];exact fun z=>h0 (Option.some.inj z))]
  have hcla:eR a=some ns.dropLast:=by
   rw[hclT]
   show (if _ then _ else _)=_
   rw[if_pos (by rw[List.getLast?_eq_some_getLast hne,h0])]
  rw[h0]
  refine qJ rfl ?_
  have ecl:b8 (ns.map V.int) none (some (-1))=ns.dropLast.map V.int:=by rw[il,List.map_dropLast]
  refine⟨_,rfl,1,rfl,_,rfl,D,_,rfl,SqL.of e1,fun p3 hp3=>?_⟩
  rw[ecl]
  have k8:Same H5 (upd H7 p3 (.lst (ns.dropLast.map V.int))):=k7.trans (ah hp3 _)
  have e8:=ah hp3 (.lst (ns.dropLast.map V.int)) _ _ e1
  refine⟨_,rfl,.str t,_,rfl,⟨Nat.le_trans htl (by decide),rfl⟩,p3,ns.dropLast,_,rfl,ad,_,rfl,?_⟩
  generalize upd H7 p3 (.lst (ns.dropLast.map V.int))=H8 at k8 e8 ⊢
  rw[show c_ (t.length:Int) 0 (ns.dropLast.map PyData.int)=de t.length (fu ns.dropLast) from rfl]
  cases hset:de t.length (fu ns.dropLast) with
  |false=>exact aM (qe (iE hof1 ht ham hcla hset) _ (g3.trans k8))
  |true=>
  refine aV ⟨_,rfl,.inl ⟨rfl,_,SqL.of (k8 _ _ g1)⟩,_,rfl,1,rfl,_,rfl,D,_,rfl,SqL.of e8,fun p5 hp5=>⟨p5,_,rfl,.inl ⟨SqL.of ad,fun p6 hp6=>?_⟩⟩⟩
  rw[ecl] at hp6 ⊢
  have k9:Same H8 (upd (upd H8 p5 (.lst (ns.dropLast.map V.int))) p6 (.tup (ns.dropLast.map V.int))):=(ah hp5 _).trans (ah hp6 _)
  have h9:upd (upd H8 p5 (.lst (ns.dropLast.map V.int))) p6 (.tup (ns.dropLast.map V.int)) p6=some (.tup (ns.dropLast.map V.int)):=ad
  generalize upd (upd H8 p5 (.lst (ns.dropLast.map V.int))) p6 (.tup (ns.dropLast.map V.int))=H9 at k9 h9 ⊢
  have kk:=k8.trans k9
  have hq9:=kk _ _ g1
  refine⟨qa,xs,_,rfl,rfl,hq9,?_,?_⟩
  ·rw[← g4.length]
   exact bq (Nat.le_trans (fK i) (by omega))
  ·refine⟨_,_,_,rfl,ad,by rw[av nqp];exact kk _ _ g2,(g3.trans kk).upd_new nqa _,?_,dz ha g5 (by rw[hcla];rfl),dz ha g6 fun c hc=>by rw[hcla] at hc;cases hc;exact hset⟩
   rw[eh ha hcla]
   exact CLs.snoc (CL.upd ⟨p6,rfl,h9⟩ hq9) ((g4.mono kk).upd hq9)
 ·rintro σ H5 ⟨xs,v4,v5,rfl,g1,g2,g3,g4,g5,g6⟩
  rw[List.length_map,List.take_of_length_le (Nat.le_refl _)] at g4 g5 g6
  refine⟨_,rfl,_,rfl,(by show 2<=sizeLine;decide),fun p5 hp5=>?_⟩
  have k5:Same H5 (upd H5 p5 (.tup [.str t,.ref qa])):=ah hp5 _
  refine q t (rs.filterMap eR) ?_ p5 qa xs _ (g3.trans k5) nqa ad (k5 _ _ g1) (g4.mono k5)
  rw[hof,ht,gG g5]
  show (if _ then _ else _)=_
  rw[if_pos]
  rw[dB,hw,Bool.true_and]
  refine List.all_eq_true.mpr fun c hc=>?_
  obtain⟨a,ha,hca⟩:=List.mem_filterMap.mp hc
  exact g6 a ha c hca
end
end K85
namespace K85
open PySem L2 OD
abbrev jq:Stmt:=dG 21
abbrev jr:Stmt:=dG 22
abbrev gN:Stmt:=dG 37
structure sN (mg:Str->Option Value):Prop where
 int:mg "int"=none
 str:mg "str"=none
structure s_ (mg:Str->Option Value):Prop where
 g_NO_TURNS:bX mg "NO_TURNS" (.str (Str.ofString "-"))
def gO:Sp:=fun vs H Q _=>∃ (p:Addr) (ns:List Int),vs=[.ref p]/\H p=some (.tup (ns.map V.int))/\ns.length<=13/\(∀ n∈ns,n.natAbs<=12)/\∀ H',Same H H'->Q (.str (Txt.join (Str.ofString " ") (ns.map cB))) H'
def j8:Sp:=fun vs H Q _=>∃ (v:V) (t:Str) (cs:List (List Int)),vs=[v]/\RD H (bJ t cs) v/\lb t cs/\∀ H',Same H H'->Q (.str (Txt.join (Str.ofString "\n") (bT t cs))) H'
def iF:Sp:=fun vs H Q _=>∃ (v:V) (t:Str) (cs:List (List Int)),vs=[v]/\RD H (bJ t cs) v/\lb t cs/\∀ p H',Same H H'->H p=none->H' p=some (.lst ((bT t cs).map V.str))->Q (.ref p) H'
section
variable {P:Program}{w:World}{K:PySem.W.Frag}{mg:Str->Option Value}{base:Heap}
theorem gk {H:Hp}{p D:Addr}{ns:List Int}{σ0:St}{Q:VK}(hp:H p=some (.tup (ns.map V.int)))(hD:H D=none)(hl:ns.length<=13)(hn:∀ n∈ns,n.natAbs<=12)(e0:σ0=[none]){r:List V->Hp->VK->Prop}(hr:∀ i H Q,i.natAbs.log2 < 1920->Q (.str (cB i)) H->r [.int i] H Q)
  (hq:Q (.ref D) (upd H D (.lst ((ns.map cB).map V.str)))):eD (pB K p) D (bW 0) rT (q_ r (fc (bB 0) fO)) σ0 H Q:=by
 refine hJ (K:=K) (a:=p) (xs:=ns.map V.int) (fun i σ ys H2=>(∃ v0,σ=[v0])/\ys=((ns.take i).map cB).map V.str/\H2=upd H D (.lst ys)) ⟨⟨none,e0⟩,rfl,rfl⟩ ?_ ?_ ?_
 ·rintro i σ ys H2 _ ⟨_,_,rfl⟩
  exact⟨ad,SqT.of (by rw[av (ap hp hD)];exact hp)⟩
 ·rintro i x σ ys H2 hx ⟨⟨v0,rfl⟩,rfl,rfl⟩
  obtain⟨z,rfl,hz⟩:=cI hx
  have hil:i < ns.length:=(List.getElem?_eq_some_iff.mp hz).1
  refine bE ⟨_,rfl,hr z _ _ (oz (hn z (List.mem_of_getElem? hz)) (by decide)) ⟨ad,?_,⟨_,rfl⟩,?_,cO⟩⟩
  ·rw[List.length_map,List.length_map,List.length_take]
   exact bq (by omega)
  ·rw[List.take_add_one,hz,List.map_append,List.map_append]
   rfl
 ·rintro σ ys H2 ⟨_,rfl,rfl⟩
  rw[List.length_map,List.take_of_length_le (Nat.le_refl _)]
  exact hq
theorem j9:ax ["parts"] ["parts"] (al jq):=⟨rfl,rfl,rfl,by decide+kernel,rfl,by decide+kernel,by decide+kernel⟩
theorem m_ {f:Addr}{fd:FuncData}(F:Fun K "shown_row" "shown_row" jq f fd)(T:sN mg):aU P w K mg base cX 1 f fd ["parts"] gO:=by
 have sc:=j9
 refine F.ok j9 (fun vs H Q E h=>?_) (fun cdv A outer s H vs Q E hr h=>?_)
 ·obtain⟨p,ns,rfl,_⟩:=h
  rfl
 obtain⟨p,ns,rfl,hp,hl,hn,q⟩:=h
 refine⟨_,(ag (au (bi PySem.F.plainAttrs_str PySem.F.slot_str_join PySem.F.type_str_join cy am (aa (bw (NY:=["part"]) (idx:=[none]) rfl ⟨by with_unfolding_all rfl,(by with_unfolding_all exact trivial),fun _=>by rfl,by rfl,by rfl,by rfl,by decide⟩ (gr (pv 0)) (fun _ _ _ _=>(az (i:=0) (show List.Nodup (["part"]:List Str) by decide+kernel) rfl (Or.inl rfl))) (fun _ _ _ _=>bp) (fun _ _ _ _=>(aP dj rfl T.str PyProof.Rows.boot_str (aa (pv 0) ac)))) ac)))),?_⟩
 refine⟨rfl,_,rfl,p,rfl,⟨_,SqT.of hp⟩,fun D hD=>?_⟩
 refine gk hp hD hl hn rfl (fun i H Q h1 h2=>⟨i,rfl,h1,h2⟩) ?_
 refine⟨_,D,_,rfl,rfl,SqL.of ad,?_,q _ (ah hD _)⟩
 have h1:∀ s∈ns.map cB,s.length<=14:=fun s hs=>by
  obtain⟨i,hi,rfl⟩:=List.mem_map.mp hs
  exact ir (hn i hi)
 have h2:=fL h1
 rw[List.length_map] at h2 ⊢
 rw[ei]
 omega
theorem j_:ax ["sentence","rows"] ["sentence"] (al jr):=⟨rfl,rfl,rfl,by decide+kernel,rfl,by decide+kernel,by decide+kernel⟩
theorem iG {t:Str}{cs:List (List Int)}(h:lb t cs):((bT t cs).map (·.length)).sum+(bT t cs).length*(Str.ofString "\n").length<=16777216:=by
 obtain⟨a,b⟩:=fM h
 have h1:=fL b
 have h2:(bT t cs).length*195<=201*195:=Nat.mul_le_mul_right _ a
 rw[gI]
 omega
theorem lm {p qa:Addr}{t:Str}{σ:St}{H:Hp}{Q:VK}{k:Bool}(hk:k=((t.length:Int) != 0))(h0:σ[0]? =some (some (.ref p))) (h1:H p=some (.tup [.str t,.ref qa])) (h:Q (.str (bG t)) H):
  if k=true then eM (rS K) (bB 0) (tC (V.int 0)) σ H Q else tC (.str (Str.ofString "-")) σ H Q:=by
 have e:t.cps.toList.length=t.length:=Array.length_toList
 subst hk
 unfold bG at h
 by_cases h2:t.cps.toList=[]
 ·rw[if_pos h2] at h
  have:((t.length:Int) != 0)=false:=by rw[← e,h2];rfl
  rw[this]
  exact aV h
 ·rw[if_neg h2] at h
  have hp:=List.length_pos_iff.mpr h2
  have:((t.length:Int) != 0)=true:=by rw[bne_iff_ne];omega
  rw[this]
  exact aM ⟨_,h0,.inr (.inl ⟨p,_,0,.str t,rfl,rfl,SqT.of h1,rfl,h⟩)⟩
theorem nb {f f1:Addr}{fd d1:FuncData}(F:Fun K "shown_sentence" "shown_sentence" jr f fd)(T:s_ mg)(Gshown_row:Fn P w K mg base 1 "shown_row" f1 d1 ["parts"] gO):aU P w K mg base cX 2 f fd ["sentence"] j8:=by
 have sc:=j_
 refine F.ok j_ (fun vs H Q E h=>?_) (fun cdv A outer s H vs Q E hr h=>?_)
 ·obtain⟨v,t,cs,rfl,_⟩:=h
  rfl
 obtain⟨v,t,cs,rfl,hd,ok,q⟩:=h
 obtain⟨p,qa,xs,rfl,h1,h2,h3⟩:=cJ hd
 have htl:=ok.tl
 have hcl:=ok.cl
 have hxl:=h3.length
 refine⟨_,(ae (ak (i:=1) sc.nd rfl (Or.inl rfl) (bu (aa (eX (fb (aF ay (pv 0) af (fun _ _=>rfl)) (fun _=>rfl)) (aF ay (pv 0) af (fun _ _=>rfl)) (aT rfl T.g_NO_TURNS)) ac)))
  (ae (cf (bi PySem.F.plainAttrs_list PySem.F.slot_list_extend PySem.F.type_list_extend ky (pv 1) (aa (bw (NY:=["clause"]) (idx:=[none]) rfl ⟨by with_unfolding_all rfl,(by with_unfolding_all exact trivial),fun _=>by rfl,by rfl,by rfl,by rfl,by decide⟩ (bn (aF ay (pv 0) af (fun _ _=>rfl))) (fun _ _ _ _=>(az (i:=0) (show List.Nodup (["clause"]:List Str) by decide+kernel) rfl (Or.inl rfl))) (fun _ _ _ _=>bp) (fun _ _ _ _=>(aI Gshown_row hr (by omega) rfl (aa (aj (mB (K:=K) rfl) (pv 0) (b7 (aa af ac))) ac)))) ac)))
  (ag (au (bi PySem.F.plainAttrs_str PySem.F.slot_str_join PySem.F.type_str_join cy am (aa (pv 1) ac)))))),?_⟩
 refine⟨_,rfl,.inr (.inl ⟨p,_,0,.str t,rfl,rfl,SqT.of h1,rfl,_,⟨Nat.le_trans htl (by decide),rfl⟩,?_⟩)⟩
 refine lm rfl rfl h1 ⟨(by show 1<=sizeLine;decide),fun l hl=>?_⟩
 have k1:Same H (upd H l (.lst [.str (bG t)])):=ah hl _
 have hl1:upd H l (.lst [.str (bG t)]) l=some (.lst [.str (bG t)]):=ad
 generalize upd H l (.lst [.str (bG t)])=H1 at k1 hl1 ⊢
 refine⟨_,rfl,.inl ⟨rfl,_,SqL.of hl1⟩,_,rfl,.inr (.inl ⟨p,_,1,.ref qa,rfl,rfl,SqT.of (k1 _ _ h1),rfl,qa,rfl,⟨_,SqL.of (k1 _ _ h2)⟩,fun D hD=>?_⟩)⟩
 refine bA (K:=K) (a:=qa) (xs:=xs) (fun i σ ys H2=>(∃ v0,σ=[v0])/\H2 D=some (.lst ys)/\Same H1 H2/\ys=((cs.take i).map dD).map V.str) ⟨⟨none,rfl⟩,ad,ah hD _,rfl⟩ ?_ ?_ ?_
 ·rintro i σ ys H2 _ ⟨_,g1,g2,_⟩
  exact⟨g1,SqL.of (g2 _ _ (k1 _ _ h2))⟩
 ·rintro i x σ ys H2 hx ⟨⟨v0,rfl⟩,g1,g2,g3⟩
  obtain⟨c,hc,hcl'⟩:=h3.get hx
  obtain⟨pc,rfl,hpc⟩:=hcl'.mono (k1.trans g2)
  have hcm:=List.mem_of_getElem? hc
  have hil:i < cs.length:=(List.getElem?_eq_some_iff.mp hc).1
  have fin:∀ H3,Same H2 H3->H3 D=some (.lst ys)/\ys.length < sizeLine/\((∃ v0,[some (V.ref pc)]=[v0])/\upd H3 D (.lst (ys++[.str (dD c)])) D=some (.lst (ys++[.str (dD c)]))/\Same H1 (upd H3 D (.lst (ys++[.str (dD c)])))/\ys++[.str (dD c)]=((cs.take (i+1)).map dD).map V.str):=fun H3 k3=>by
   refine⟨k3 _ _ g1,?_,⟨_,rfl⟩,ad,(g2.trans k3).upd_new hD _,?_⟩
   ·rw[g3,List.length_map,List.length_map,List.length_take]
    exact bq (by omega)
   ·rw[List.take_add_one,hc,List.map_append,List.map_append,g3]
    rfl
  have hrow:∀ (pr:Addr) (H3:Hp),Same H2 H3->H3 pr=some (.tup ((c++[0]).map V.int))->gO [V.ref pr] H3 (fun y H5=>H5 D=some (.lst ys)/\ys.length < sizeLine/\((∃ v0,[some (V.ref pc)]=[v0])/\upd H5 D (.lst (ys++[y])) D=some (.lst (ys++[y]))/\Same H1 (upd H5 D (.lst (ys++[y])))/\ys++[y]=((cs.take (i+1)).map dD).map V.str)) E0:=fun pr H3 k3 hpr=>by
   refine⟨pr,c++[0],rfl,hpr,?_,fun n hn=>?_,fun H4 k4=>fin H4 (k3.trans k4)⟩
   ·have:=ok.ll c hcm
    rw[List.length_append,List.length_singleton]
    omega
   ·rcases List.mem_append.mp hn with w|w
    ·exact ok.nl c hcm n w
    ·rw[List.mem_singleton.mp w]
     decide
  refine bE ⟨_,rfl,(by show 1<=sizeLine;decide),fun p1 hp1=>?_⟩
  have k3:Same H2 (upd H2 p1 (.tup [.int 0])):=ah hp1 _
  refine⟨pc,p1,_,_,rfl,rfl,SqT.of (k3 _ _ hpc),SqT.of ad,nofun,?_,fun he=>?_,fun _ p2 hp2=>hrow p2 _ (k3.trans (ah hp2 _)) (by rw[ad,List.map_append];rfl)⟩
  ·rw[List.length_map]
   have:=ok.ll c hcm
   exact Nat.le_of_lt (bq (by show c.length+1<=_;omega))
  ·have he':c=[]:=List.map_eq_nil_iff.mp he
   exact hrow p1 _ k3 (by rw[he',ad];rfl)
 ·rintro σ ys H2 ⟨_,g1,g2,g3⟩
  rw[← hxl,List.take_of_length_le (Nat.le_refl _)] at g3
  have hl2:=g2 _ _ hl1
  refine⟨l,D,_,_,rfl,rfl,hl2,g1,?_,?_⟩
  ·rw[g3,List.length_map,List.length_map]
   exact Nat.le_of_lt (bq (by show 1+cs.length<=_;omega))
  refine⟨rfl,_,rfl,_,l,bT t cs,rfl,rfl,SqL.of (by rw[ad,g3];rfl),iG ok,q _ ?_⟩
  exact (k1.trans g2).upd_new hl _
theorem iH:ax ["_law_sentence_here","_law_rows","_law_clause"] ["_law_sentence_here"] (al gN):=⟨rfl,rfl,rfl,by decide+kernel,rfl,by decide+kernel,by decide+kernel⟩
theorem ln {f:Addr}{fd:FuncData}(F:Fun K "_law_rows_of" "_law_rows_of" gN f fd)(T:sN mg):aU P w K mg base cX 1 f fd ["_law_sentence_here"] iF:=by
 have sc:=iH
 refine F.ok iH (fun vs H Q E h=>?_) (fun cdv A outer s H vs Q E hr h=>?_)
 ·obtain⟨v,t,cs,rfl,_⟩:=h
  rfl
 obtain⟨v,t,cs,rfl,hd,ok,q⟩:=h
 obtain⟨p,qa,xs,rfl,h1,h2,h3⟩:=cJ hd
 have htl:=ok.tl
 have hcl:=ok.cl
 have hxl:=h3.length
 have hu:=hr.units
 refine⟨_,(ae (ak (i:=1) sc.nd rfl (Or.inl rfl) (bu (aa (aF ay (bu (aa am (aa (aF ay (pv 0) af (fun _ _=>rfl)) ac))) (aP dO rfl T.int PyProof.Rows.boot_int (aa (cx (bM hu) (aF ay (pv 0) af (fun _ _=>rfl)) am (ar _)) ac)) (fun _ _=>rfl)) ac)))
  (ae (cj PassesOwn.never rfl (bn (aF ay (pv 0) af (fun _ _=>rfl))) (az (i:=2) sc.nd rfl (Or.inl rfl))
   (ag (cf (bi PySem.F.plainAttrs_list PySem.F.slot_list_append PySem.F.type_list_append bL (pv 1) (aa (bi PySem.F.plainAttrs_str PySem.F.slot_str_join PySem.F.type_str_join cy am (aa (aj iR (bw (NY:=["_law_literal"]) (idx:=[none]) rfl ⟨by with_unfolding_all rfl,(by with_unfolding_all exact trivial),fun _=>by rfl,by rfl,by rfl,by rfl,by decide⟩ (gr (pv 2)) (fun _ _ _ _=>(az (i:=0) (show List.Nodup (["_law_literal"]:List Str) by decide+kernel) rfl (Or.inl rfl))) (fun _ _ _ _=>bp) (fun _ _ _ _=>(aP dj rfl T.str PyProof.Rows.boot_str (aa (pv 0) ac)))) (bu (aa am ac))) ac)) ac)))))
  (ag (au (pv 1))))),?_⟩
 refine⟨_,rfl,.inr (.inl ⟨p,_,0,.str t,rfl,rfl,SqT.of h1,rfl,(by show 2<=sizeLine;decide),fun l0 hl0=>?_⟩)⟩
 have k0:Same H (upd H l0 (.lst [.str (Str.ofString "-"),.str t])):=ah hl0 _
 refine⟨_,rfl,.inr (.inl ⟨p,_,0,.str t,rfl,rfl,SqT.of (k0 _ _ h1),rfl,.inl ⟨rfl,.inr ⟨_,rfl,?_⟩⟩⟩)⟩
 refine .inl ⟨l0,_,_,.str (bG t),rfl,rfl,SqL.of ad,?_,(by show 1<=sizeLine;decide),fun l hl=>?_⟩
 ·rw[bx,show (Str.ofString "").cps.toList=[] from by decide+kernel]
  unfold bG
  by_cases h0:t.cps.toList=[]
  ·rw[decide_eq_true h0,if_pos h0]
   rfl
  ·rw[decide_eq_false h0,if_neg h0]
   rfl
 have nl:H l=none:=k0.free hl
 have k1:Same H (upd (upd H l0 (.lst [.str (Str.ofString "-"),.str t])) l (.lst [.str (bG t)])):=k0.upd_new nl _
 have hl1:upd (upd H l0 (.lst [.str (Str.ofString "-"),.str t])) l (.lst [.str (bG t)]) l=some (.lst [.str (bG t)]):=ad
 generalize upd (upd H l0 (.lst [.str (Str.ofString "-"),.str t])) l (.lst [.str (bG t)])=H1 at k1 hl1 ⊢
 refine⟨_,rfl,.inr (.inl ⟨p,_,1,.ref qa,rfl,rfl,SqT.of (k1 _ _ h1),rfl,qa,rfl,⟨_,SqL.of (k1 _ _ h2)⟩,dh (K:=K) (a:=qa) (xs:=xs)
  (fun i σ H2=>∃ v2,σ=[some (.ref p),some (.ref l),v2]/\Same H H2/\H2 l=some (.lst ((bG t::(cs.take i).map dD).map V.str))) ⟨none,rfl,k1,hl1⟩ ?_ ?_ ?_⟩)⟩
 ·rintro i σ H2 _ ⟨v2,_,g1,_⟩
  exact SqL.of (g1 _ _ h2)
 ·rintro i x σ H2 hx ⟨v2,rfl,g1,g2⟩
  obtain⟨c,hc,hcl'⟩:=h3.get hx
  obtain⟨pc,rfl,hpc⟩:=hcl'.mono g1
  have hcm:=List.mem_of_getElem? hc
  have hil:i < cs.length:=(List.getElem?_eq_some_iff.mp hc).1
  refine⟨_,rfl,.inl ⟨rfl,_,SqL.of g2⟩,rfl,_,rfl,pc,rfl,⟨_,SqT.of hpc⟩,fun D hD=>?_⟩
  refine gk hpc hD (by have:=ok.ll c hcm;omega) (ok.nl c hcm) rfl (fun i H Q h1 h2=>⟨i,rfl,h1,h2⟩) ?_
  have k3:Same H2 (upd H2 D (.lst ((c.map cB).map V.str))):=ah hD _
  have h3D:upd H2 D (.lst ((c.map cB).map V.str)) D=some (.lst ((c.map cB).map V.str)):=ad
  generalize upd H2 D (.lst ((c.map cB).map V.str))=H3 at k3 h3D ⊢
  refine⟨(by show 1<=sizeLine;decide),fun l4 hl4=>?_⟩
  have k4:Same H3 (upd H3 l4 (.lst [.str (Str.ofString "0")])):=ah hl4 _
  refine⟨D,l4,_,_,rfl,rfl,k4 _ _ h3D,ad,?_,fun l5 hl5=>?_⟩
  ·rw[List.length_map,List.length_map]
   have:=ok.ll c hcm
   exact Nat.le_of_lt (bq (by show c.length+1<=_;omega))
  have k5:Same H2 (upd (upd H3 l4 (.lst [.str (Str.ofString "0")])) l5 (.lst (((c++[0]).map cB).map V.str))):=k3.trans (k4.trans (ah hl5 _))
  have e5:(c.map cB).map V.str++[.str (Str.ofString "0")]=((c++[0]).map cB).map V.str:=by
   rw[List.map_append,List.map_append]
   rfl
  rw[e5]
  obtain⟨pa,pb⟩:=gj (ok.ll c hcm) (ok.nl c hcm)
  refine⟨_,l5,_,rfl,rfl,SqL.of ad,?_,?_⟩
  ·have h2:=fL pa
   rw[ei]
   have:((c++[0]).map cB).length*14<=13*14:=Nat.mul_le_mul_right _ pb
   omega
  refine⟨l,_,_,rfl,rfl,k5 _ _ g2,?_,⟨_,rfl,(g1.trans k5).upd_new nl _,?_⟩⟩
  ·rw[List.length_map,List.length_cons,List.length_map,List.length_take]
   exact bq (by omega)
  ·have e6:(bG t::(cs.take (i+1)).map dD).map V.str=(bG t::(cs.take i).map dD).map V.str++[.str (dD c)]:=by
    simp [List.take_add_one,hc]
   rw[ad,e6]
   rfl
 ·rintro σ H2 ⟨v2,rfl,g1,g2⟩
  rw[← hxl,List.take_of_length_le (Nat.le_refl _)] at g2
  exact⟨_,rfl,q l H2 g1 nl g2⟩
end
end K85
namespace K85
open PySem L2 OD
abbrev nc:Stmt:=dG 40
abbrev ng:Stmt:=dG 41
structure sO (mg:Str->Option Value):Prop where
 len:mg "len"=none
 min:mg "min"=none
 list:mg "list"=none
def nh:Sp:=fun vs H Q _=>∃ (x:Str) (n m:Int),vs=[.str x,.int n,.int m]/\1<=x.length/\x.length<=100000/\0<=n/\n < 4294967296/\0<=m/\m < 4294967296/\∀ y:Str,y.length<=500000->Q (.str y) H
def ni:Sp:=fun vs H Q _=>∃ (p:Addr) (ss:List Str) (n m:Int),vs=[.ref p,.int n,.int m]/\H p=some (.lst (ss.map V.str))/\1<=ss.length/\ss.length<=201/\(∀ s∈ss,s.length<=195)/\0<=n/\n < 4294967296/\0<=m/\m < 4294967296/\
 ∀ (l:Addr) (us:List Str) (H':Hp),Same H H'->H' l=some (.lst (us.map V.str))->us.length<=300->(∀ s∈us,s.length<=500)->Q (.ref l) H'
section
variable {P:Program}{w:World}{K:PySem.W.Frag}{mg:Str->Option Value}{base:Heap}
theorem bb (a b:Str):(a++b).length=a.length+b.length:=Array.size_append
theorem b4 (c:Nat):(⟨#[c]⟩:Str).length=1:=rfl
theorem pe {α:Type}{xs:List α}{i:Int}(h0:0<=i)(h1:i < xs.length):∃ c,fX xs i=some c:=by
 unfold fX jD
 rw[if_pos h0,if_pos h1]
 exact⟨xs[i.toNat]'(by omega),List.getElem?_eq_getElem _⟩
theorem nj:ax ["_law_text","_law_number_here","_law_more","_law_some","_law_sign","_law_at","_law_next_sign"] ["_law_text","_law_number_here","_law_more"] (al nc):=⟨rfl,rfl,rfl,by decide+kernel,rfl,by decide+kernel,by decide+kernel⟩
theorem oM {f:Addr}{fd:FuncData}(F:Fun K "_law_bent_signs" "_law_bent_signs" nc f fd)(T:sO mg):aU P w K mg base cX 1 f fd ["_law_text","_law_number_here","_law_more"] nh:=by
 have sc:=nj
 refine F.ok nj (fun vs H Q E h=>?_) (fun cdv A outer s H vs Q E hr h=>?_)
 ·obtain⟨x,n,m,rfl,_⟩:=h
  rfl
 obtain⟨x,n,m,rfl,hx1,hx2,n0,n1,m0,m1,q⟩:=h
 have hu:=hr.units
 have hxs:x.length<=sizeLine:=Nat.le_trans hx2 (by decide)
 have sl:∀ lo hi,(Txt.slice x lo hi).length<=100000:=fun lo hi=>Nat.le_trans (Txt.slice_le x lo hi) hx2
 have fit:∀ k:Nat,k<=500000->k<=sizeLine:=fun k h=>Nat.le_trans h (by decide)
 refine⟨_,(ae (ak (i:=3) sc.nd rfl (Or.inl rfl) am)
  (ae (ak (i:=3) sc.nd rfl (Or.inl rfl) (aj aN (pv 3) am))
  (ae (aD (ao (aL hu) (aj aA (pv 2) af) af (ar _)) (ag (ak (i:=3) sc.nd rfl (Or.inl rfl) (aj aN am (pv 0)))) aq)
  (ae (ak (i:=4) sc.nd rfl (Or.inl rfl) (aF ay (pv 3) (aj aA (aj bg (pv 2) af) (ai aJ rfl T.len PySem.boot_len (aa (pv 3) ac))) (fun _ _=>rfl)))
  (ae (ak (i:=5) sc.nd rfl (Or.inl rfl) (aj aA (aj bg (pv 1) af) (aj aY (ai aJ rfl T.len PySem.boot_len (aa (pv 0) ac)) af)))
  (ae (aD (ao (aL hu) (aj aA (pv 1) af) af (ar _)) (ag (au (aj aN (aj aN (aE bF (pv 0) aO (aC (pv 5))) (pv 4)) (aE bF (pv 0) (aC (pv 5)) aO)))) aq)
  (ae (aD (ao (aL hu) (aj aA (pv 1) af) af (ar _)) (ag (au (aE bF (pv 0) aO (aC (pv 5))))) aq)
  (ae (ak (i:=5) sc.nd rfl (Or.inl rfl) (ai (kr rfl) rfl T.min PyProof.Rows.boot_min (aa (pv 5) (aa (aj iO (ai aJ rfl T.len PySem.boot_len (aa (pv 0) ac)) af) ac))))
  (ae (aD (ao (aL hu) (aj aA (pv 1) af) af (ar _)) (ag (au (aj aN (aE bF (pv 0) aO (aC (pv 5))) (aE bF (pv 0) (aC (aj aY (pv 5) af)) aO)))) aq)
  (ae (aD (PW.pt (bD (ao (aL hu) (aj aA (pv 1) af) af (ar _)) (br (ao (aL hu) (aj aA (pv 1) af) af (ar _))))) (ag (au (aj aN (aj aN (aE bF (pv 0) aO (aC (pv 5))) (pv 4)) (aE bF (pv 0) (aC (aj aY (pv 5) af)) aO)))) aq)
  (ae (ak (i:=6) sc.nd rfl (Or.inl rfl) (aE bF (pv 0) (aC (aj aY (pv 5) af)) (aC (aj aY (pv 5) af))))
  (ag (au (aj aN (aj aN (aj aN (aE bF (pv 0) aO (aC (pv 5))) (pv 6)) (aF ay (pv 0) (pv 5) (fun _ _=>rfl))) (aE bF (pv 0) (aC (aj aY (pv 5) af)) aO))))))))))))))),?_⟩
 refine⟨_,rfl,_,_,rfl,rfl,(by decide+kernel),?_⟩
 unfold bW
 dsimp only
 refine ci fun N hN=>?_
 have key:∀ so:Str,1<=so.length->so.length<=200000->N [some (.str x),some (.int n),some (.int m),some (.str so),none,none,none] H:=fun so s1 s2=>by
  refine hN _ _ ?_
  have hsl:so.cps.toList.length=so.length:=Array.length_toList
  have hxl:x.cps.toList.length=x.length:=Array.length_toList
  obtain⟨c,hc⟩:=pe (xs:=so.cps.toList) (i:=m / 2 % (so.length:Int)) (Int.emod_nonneg _ (by omega)) (by rw[hsl];exact Int.emod_lt_of_pos _ (by omega))
  refine⟨_,rfl,_,rfl,_,_,rfl,rfl,⟨by decide,by decide⟩,_,rfl,.str so,_,rfl,⟨fit _ (by omega),rfl⟩,_,_,rfl,rfl,(by show (0:Int) < (so.length:Int);omega),.inr (.inr ⟨so,_,c,rfl,rfl,fit _ (by omega),hc,?_⟩)⟩
  have a0:=Int.emod_nonneg (n / 12) (show ((x.length:Int)+1)≠0 by omega)
  have a1:=Int.emod_lt_of_pos (n / 12) (show (0:Int) < (x.length:Int)+1 by omega)
  refine⟨_,rfl,_,_,rfl,rfl,⟨by decide,by decide⟩,_,rfl,.str x,_,rfl,⟨hxs,rfl⟩,_,_,rfl,rfl,_,_,rfl,rfl,(by show (0:Int) < (x.length:Int)+1;omega),?_⟩
  generalize n / 12 % ((x.length:Int)+1)=a at a0 a1 ⊢
  have g1:=sl none (some a)
  have g2:=sl (some a) none
  refine⟨_,rfl,_,_,rfl,rfl,(by show (0:Int) < 12;decide),.inl ⟨rfl,_,rfl,bv (fun _=>?_) (fun _=>?_)⟩⟩
  ·refine⟨_,rfl,_,rfl,_,rfl,x,rfl,hxs,_,rfl,_,_,rfl,rfl,fit _ (by rw[b4];omega),_,rfl,_,rfl,_,rfl,x,rfl,hxs,_,_,rfl,rfl,fit _ (by rw[bb,b4];omega),q _ (by rw[bb,bb,b4];omega)⟩
  refine⟨_,rfl,_,_,rfl,rfl,(by show (0:Int) < 12;decide),.inl ⟨rfl,_,rfl,bv (fun _=>?_) (fun _=>?_)⟩⟩
  ·exact⟨_,rfl,_,rfl,_,rfl,x,rfl,hxs,q _ (by omega)⟩
  refine⟨_,rfl,_,rfl,.str x,_,rfl,⟨hxs,rfl⟩,_,_,rfl,rfl,_,_,rfl,?_⟩
  have b0:0<=(if (x.length:Int) - 1 < a then (x.length:Int) - 1 else a)/\(if (x.length:Int) - 1 < a then (x.length:Int) - 1 else a) < x.length:=by
   split<;>omega
  generalize (if (x.length:Int) - 1 < a then (x.length:Int) - 1 else a)=b at b0 ⊢
  obtain⟨b0,b1⟩:=b0
  have g3:=sl none (some b)
  have g4:=sl (some (b+1)) none
  have g5:=sl (some (b+1)) (some (b+2))
  have g6:=sl (some (b+2)) none
  refine⟨_,rfl,_,_,rfl,rfl,(by show (0:Int) < 12;decide),.inl ⟨rfl,_,rfl,bv (fun _=>?_) (fun _=>?_)⟩⟩
  ·exact⟨_,rfl,_,rfl,_,rfl,x,rfl,hxs,_,rfl,_,rfl,_,_,rfl,rfl,_,rfl,x,rfl,hxs,_,_,rfl,rfl,fit _ (by omega),q _ (by rw[bb];omega)⟩
  have mid:py (eM (fun x y H Q=>∃ i j,x=V.str i/\y=V.str j/\i.length+j.length<=sizeLine/\Q (V.str (i++j)) H) (eM (fun x y H Q=>∃ i j,x=V.str i/\y=V.str j/\i.length+j.length<=sizeLine/\Q (V.str (i++j)) H) (rc ml (bB 0) dm (gS (bB 5))) (bB 4)) (rc ml (bB 0) (gS (eM (nz fun i j=>V.int (i+j)) (bB 5) (tC (V.int 1)))) dm)) {nx:=fun _ H'=>Q .non H',rt:=Q} [some (.str x),some (.int n),some (.int m),some (.str so),some (.str ⟨#[c]⟩),some (.int b),none] H:=
   ⟨_,rfl,_,rfl,_,rfl,x,rfl,hxs,_,rfl,_,_,rfl,rfl,fit _ (by rw[b4];omega),_,rfl,_,rfl,_,_,rfl,rfl,_,rfl,x,rfl,hxs,_,_,rfl,rfl,fit _ (by rw[bb,b4];omega),q _ (by rw[bb,bb,b4];omega)⟩
  refine⟨_,rfl,_,_,rfl,rfl,(by show (0:Int) < 12;decide),.inl ⟨rfl,_,rfl,bv (fun _=>aM mid) (fun _=>?_)⟩⟩
  refine⟨_,rfl,_,_,rfl,rfl,(by show (0:Int) < 12;decide),.inl ⟨rfl,_,rfl,bv (fun _=>mid) (fun _=>?_)⟩⟩
  refine⟨_,rfl,_,rfl,_,_,rfl,rfl,_,rfl,_,rfl,_,_,rfl,rfl,_,rfl,x,rfl,hxs,?_⟩
  obtain⟨c2,hc2⟩:=pe (xs:=x.cps.toList) (i:=b) b0 (by omega)
  exact⟨_,rfl,_,rfl,_,rfl,x,rfl,hxs,_,rfl,_,_,rfl,rfl,fit _ (by omega),_,rfl,_,rfl,.inr (.inr ⟨x,_,c2,rfl,rfl,hxs,hc2,_,_,rfl,rfl,fit _ (by rw[bb,b4];omega),_,rfl,_,rfl,_,_,rfl,rfl,_,rfl,x,rfl,hxs,_,_,rfl,rfl,fit _ (by rw[bb,bb,b4];omega),q _ (by rw[bb,bb,bb,b4];omega)⟩)⟩
 refine⟨_,rfl,_,_,rfl,rfl,(by show (0:Int) < 2;decide),.inl ⟨rfl,_,rfl,bv (fun _=>?_) (fun _=>?_)⟩⟩
 ·refine⟨_,rfl,_,_,rfl,rfl,fit _ (by rw[show (Str.ofString " -0129\nws").length=9 from by decide+kernel];omega),key _ ?_ ?_⟩<;>rw[bb,show (Str.ofString " -0129\nws").length=9 from by decide+kernel]<;>omega
 ·exact key _ (by decide+kernel) (by decide+kernel)
end
end K85
namespace K85
open PySem L2 OD
section
variable {P:Program}{w:World}{K:PySem.W.Frag}{mg:Str->Option Value}{base:Heap}
theorem PSi.mk {X:Cx}{st:Stmt}{t:TS}(h:PS X st t):PSi X st t:=by
 unfold PSi
 exact h
theorem el {X:Cx}{st:Stmt}{sts:List Stmt}{t u:TS}(h:PSi X st t)(g:PSsi X sts u):PSsi X (st::sts) (lw t u):=by
 unfold PSi at h
 unfold PSsi at g ⊢
 exact ae h g
def oddS:List Str:=[Str.ofString "",Str.ofString "00",Str.ofString "01",Str.ofString "-1",Str.ofString "+1",Str.ofString "1_0",Str.ofString "-0",Str.ofString "0",Str.ofString "-",Str.ofString "1",Str.ofString "999999999",Str.ofString "1000000000",Str.ofString "2",Str.ofString "x",Str.ofString "w",Str.ofString "-01"]
theorem qG:∀ o∈oddS,o.length<=10:=by decide+kernel
theorem eo {us:List Str}{i:Int}(h0:0<=i)(h1:i < us.length):∃ u,u∈us/\fX (us.map V.str) i=some (.str u)/\jD (us.map V.str).length i=some i.toNat/\i.toNat < us.length:=by
 refine⟨us[i.toNat]'(by omega),List.getElem_mem _,?_,?_,by omega⟩
 ·unfold fX jD
  rw[if_pos h0,if_pos (by rw[List.length_map];exact h1)]
  show (us.map V.str)[i.toNat]? =_
  rw[List.getElem?_map,List.getElem?_eq_getElem (by omega)]
  rfl
 ·unfold jD
  rw[if_pos h0,if_pos (by rw[List.length_map];exact h1)]
theorem eU (us:List Str)(j:Nat)(u:Str):(us.map V.str).set j (.str u)=(us.set j u).map V.str:=by
 rw[List.map_set]
theorem nk:ax ["_law_rows","_law_number_here","_law_more","_law_at","_law_to","_law_words","_law_odd"] ["_law_rows","_law_number_here","_law_more"] (al ng):=⟨rfl,rfl,rfl,by decide+kernel,rfl,by decide+kernel,by decide+kernel⟩
theorem oN {f:Addr}{fd:FuncData}(F:Fun K "_law_bent_rows" "_law_bent_rows" ng f fd)(T:sO mg):aU P w K mg base cX 1 f fd ["_law_rows","_law_number_here","_law_more"] ni:=by
 have sc:=nk
 refine F.ok nk (fun vs H Q E h=>?_) (fun cdv A outer s H vs Q E hr h=>?_)
 ·obtain⟨p,ss,n,m,rfl,_⟩:=h
  rfl
 obtain⟨p,ss,n,m,rfl,hp,hs1,hs2,hz,n0,n1,m0,m1,q⟩:=h
 have hu:=hr.units
 refine eQ (ak (i:=0) sc.nd rfl (Or.inl rfl) (aP dq rfl T.list PyProof.Rows.boot_list (aa (pv 0) ac))) ?_
 refine eQ (ak (i:=3) sc.nd rfl (Or.inl rfl) (aj aA (aj bg (pv 1) af) (ai aJ rfl T.len PySem.boot_len (aa (pv 0) ac)))) ?_
 refine eQ (ak (i:=4) sc.nd rfl (Or.inl rfl) (aj aA (pv 2) (ai aJ rfl T.len PySem.boot_len (aa (pv 0) ac)))) ?_
 refine fE (i_ (ao (aL hu) (aj aA (pv 1) af) af (ar _)) (fD (PSi.mk (cf (bi PySem.F.plainAttrs_list PySem.F.slot_list_insert PySem.F.type_list_insert kF (pv 0) (aa (pv 4) (aa (aF ay (pv 0) (pv 3) (fun _ _=>rfl)) ac)))))) aq) ?_
 refine fE (i_ (ao (aL hu) (aj aA (pv 1) af) af (ar _)) (fD (PSi.mk (dJ (b7 (aa (aF ay (pv 0) (pv 4) (fun _ _=>rfl)) (aa (aF ay (pv 0) (pv 3) (fun _ _=>rfl)) ac))) (pA rfl (b6 (gq (pv 0) (pv 3) dn) (b6 (gq (pv 0) (pv 4) dn) gp)))))) aq) ?_
 refine fE (i_ (ao di (aj aA (pv 1) af) af (ar _)) (el (PSi.mk (ak (i:=5) sc.nd rfl (Or.inl rfl) (bi PySem.F.plainAttrs_str PySem.F.slot_str_split PySem.F.type_str_split cN (aF ay (pv 0) (pv 3) (fun _ _=>rfl)) (aa am ac))))
   (el (oj (PEi.lst (PAi.cons (PEi.mk am) (PAi.cons (PEi.mk am) (PAi.cons (PEi.mk am) (PAi.cons (PEi.mk am) (PAi.cons (PEi.mk am) (PAi.cons (PEi.mk am) (PAi.cons (PEi.mk am) (PAi.cons (PEi.mk am) (PAi.cons (PEi.mk am) (PAi.cons (PEi.mk am) (PAi.cons (PEi.mk am) (PAi.cons (PEi.mk am) (PAi.cons (PEi.mk am) (PAi.cons (PEi.mk am) (PAi.cons (PEi.mk am) (PAi.cons (PEi.mk am) PAi.nil (fun _ _ z=>nomatch z)) (fun _ _ z=>nomatch z)) (fun _ _ z=>nomatch z)) (fun _ _ z=>nomatch z)) (fun _ _ z=>nomatch z)) (fun _ _ z=>nomatch z)) (fun _ _ z=>nomatch z)) (fun _ _ z=>nomatch z)) (fun _ _ z=>nomatch z)) (fun _ _ z=>nomatch z)) (fun _ _ z=>nomatch z)) (fun _ _ z=>nomatch z)) (fun _ _ z=>nomatch z)) (fun _ _ z=>nomatch z)) (fun _ _ z=>nomatch z)) (fun _ _ z=>nomatch z))) (az (i:=6) sc.nd rfl (Or.inl rfl)))
   (el (PSi.mk (dJ (aF ay (pv 6) (aj aA (aj bg (pv 2) af) af) (fun _ _=>rfl)) (gq (pv 5) (aj aA (aj bg (pv 2) af) (ai aJ rfl T.len PySem.boot_len (aa (pv 5) ac))) dn)))
   (fD (PSi.mk (dJ (bi PySem.F.plainAttrs_str PySem.F.slot_str_join PySem.F.type_str_join cy am (aa (pv 5) ac)) (gq (pv 0) (pv 3) dn))))))) aq) ?_
 refine⟨_,(ag (au (pv 0))),?_⟩
 refine⟨_,rfl,p,_,rfl,.inl (SqL.of hp),fun l hl=>?_⟩
 have k1:Same H (upd H l (.lst (ss.map V.str))):=ah hl _
 have h1:upd H l (.lst (ss.map V.str)) l=some (.lst (ss.map V.str)):=ad
 generalize upd H l (.lst (ss.map V.str))=H1 at k1 h1 ⊢
 have hlen:(ss.map V.str).length=ss.length:=List.length_map _
 refine⟨_,rfl,_,_,rfl,rfl,⟨by decide,by decide⟩,_,rfl,.ref l,_,rfl,.inl ⟨_,SqL.of h1,rfl⟩,_,_,rfl,rfl,(by show (0:Int) < ((ss.map V.str).length:Int);omega),?_⟩
 rw[hlen]
 have a0:=Int.emod_nonneg (n / 12) (show (ss.length:Int)≠0 by omega)
 have a1:=Int.emod_lt_of_pos (n / 12) (show (0:Int) < (ss.length:Int) by omega)
 generalize n / 12 % (ss.length:Int)=a at a0 a1 ⊢
 refine⟨_,rfl,_,rfl,.ref l,_,rfl,.inl ⟨_,SqL.of h1,rfl⟩,_,_,rfl,rfl,(by show (0:Int) < ((ss.map V.str).length:Int);omega),?_⟩
 rw[hlen]
 have b0:=Int.emod_nonneg m (show (ss.length:Int)≠0 by omega)
 have b1:=Int.emod_lt_of_pos m (show (0:Int) < (ss.length:Int) by omega)
 generalize m % (ss.length:Int)=b at b0 b1 ⊢
 unfold bW
 dsimp only
 refine ci fun N1 hN1=>?_
 have key1:∀ (us:List Str) (H2:Hp),Same H H2->H2 l=some (.lst (us.map V.str))->ss.length<=us.length->us.length<=ss.length+1->(∀ s∈us,s.length<=195)->N1 [some (.ref l),some (.int n),some (.int m),some (.int a),some (.int b),none,none] H2:=fun us H2 k2 h2 l1 l2 hu2=>by
  refine hN1 _ _ ?_
  refine ci fun N2 hN2=>?_
  have key2:∀ (us:List Str) (H2:Hp),Same H H2->H2 l=some (.lst (us.map V.str))->ss.length<=us.length->us.length<=ss.length+1->(∀ s∈us,s.length<=195)->N2 [some (.ref l),some (.int n),some (.int m),some (.int a),some (.int b),none,none] H2:=fun us H2 k2 h2 l1 l2 hu2=>by
   refine hN2 _ _ ?_
   refine ci fun N3 hN3=>?_
   have key3:∀ (us:List Str) (v5 v6:Option V) (H2:Hp),Same H H2->H2 l=some (.lst (us.map V.str))->us.length<=300->(∀ s∈us,s.length<=500)->N3 [some (.ref l),some (.int n),some (.int m),some (.int a),some (.int b),v5,v6] H2:=fun us v5 v6 H2 k2 h2 l1 hu2=>hN3 _ _ ⟨_,rfl,q l us H2 k2 h2 l1 hu2⟩
   refine⟨_,rfl,_,_,rfl,rfl,(by show (0:Int) < 12;decide),_,_,rfl,rfl,_,rfl,bv (fun _=>?_) (fun _=>?_)⟩
   ·obtain⟨u,um,ua,ui,ul⟩:=eo (us:=us) a0 (by omega)
    have huu:=hu2 u um
    refine⟨_,rfl,_,rfl,.inl ⟨l,_,_,.str u,rfl,rfl,SqL.of h2,ua,rfl,u,Str.ofString " ",rfl,rfl,(by decide+kernel),(by omega),fun l5 hl5=>?_⟩⟩
    have hsum:=lg u (Str.ofString " ") ei
    have hpos:=PyProof.Rows.split_pos u (Str.ofString " ")
    generalize Txt.split u (Str.ofString " ")=ws at hsum hpos ⊢
    have k3:Same H2 (upd H2 l5 (.lst (ws.map V.str))):=ah hl5 _
    have h3:upd H2 l5 (.lst (ws.map V.str)) l5=some (.lst (ws.map V.str)):=ad
    have nl5:H l5=none:=k2.free hl5
    have n5:l≠l5:=ap h2 hl5
    generalize upd H2 l5 (.lst (ws.map V.str))=H3 at k3 h3 ⊢
    refine⟨(by show 16<=sizeLine;decide),fun l6 hl6=>?_⟩
    have k4:Same H3 (upd H3 l6 (.lst [.str (Str.ofString ""),.str (Str.ofString "00"),.str (Str.ofString "01"),.str (Str.ofString "-1"),.str (Str.ofString "+1"),.str (Str.ofString "1_0"),.str (Str.ofString "-0"),.str (Str.ofString "0"),.str (Str.ofString "-"),.str (Str.ofString "1"),.str (Str.ofString "999999999"),.str (Str.ofString "1000000000"),.str (Str.ofString "2"),.str (Str.ofString "x"),.str (Str.ofString "w"),.str (Str.ofString "-01")])):=ah hl6 _
    have h4:upd H3 l6 (.lst [.str (Str.ofString ""),.str (Str.ofString "00"),.str (Str.ofString "01"),.str (Str.ofString "-1"),.str (Str.ofString "+1"),.str (Str.ofString "1_0"),.str (Str.ofString "-0"),.str (Str.ofString "0"),.str (Str.ofString "-"),.str (Str.ofString "1"),.str (Str.ofString "999999999"),.str (Str.ofString "1000000000"),.str (Str.ofString "2"),.str (Str.ofString "x"),.str (Str.ofString "w"),.str (Str.ofString "-01")]) l6=some (.lst (oddS.map V.str)):=ad
    generalize upd H3 l6 (.lst [.str (Str.ofString ""),.str (Str.ofString "00"),.str (Str.ofString "01"),.str (Str.ofString "-1"),.str (Str.ofString "+1"),.str (Str.ofString "1_0"),.str (Str.ofString "-0"),.str (Str.ofString "0"),.str (Str.ofString "-"),.str (Str.ofString "1"),.str (Str.ofString "999999999"),.str (Str.ofString "1000000000"),.str (Str.ofString "2"),.str (Str.ofString "x"),.str (Str.ofString "w"),.str (Str.ofString "-01")])=H4 at k4 h4 ⊢
    obtain⟨o,om,oa,oi,ol⟩:=eo (us:=oddS) (i:=m / 1000 % 16) (Int.emod_nonneg _ (by decide)) (Int.emod_lt_of_pos _ (by decide))
    refine⟨_,rfl,_,rfl,_,_,rfl,rfl,⟨by decide,by decide⟩,_,_,rfl,rfl,(by show (0:Int) < 16;decide),.inl ⟨l6,_,_,.str o,rfl,rfl,SqL.of h4,oa,?_⟩⟩
    have h5:=k4 _ _ h3
    have hwl:(ws.map V.str).length=ws.length:=List.length_map _
    have c0:=Int.emod_nonneg (m / 100) (show (ws.length:Int)≠0 by omega)
    have c1:=Int.emod_lt_of_pos (m / 100) (show (0:Int) < (ws.length:Int) by omega)
    obtain⟨_,_,_,ji,jl⟩:=eo (us:=ws) c0 c1
    refine⟨_,rfl,_,rfl,_,_,rfl,rfl,⟨by decide,by decide⟩,_,rfl,.ref l5,_,rfl,.inl ⟨_,SqL.of h5,rfl⟩,_,_,rfl,rfl,(by show (0:Int) < ((ws.map V.str).length:Int);omega),l5,_,_,(m / 100 % (ws.length:Int)).toNat,rfl,rfl,h5,by rw[hwl] at ji ⊢;exact ji,?_⟩
    rw[eU]
    have hol:=qG o om
    have hsum2:=jT o ws (m / 100 % (ws.length:Int)).toNat
    have hlen2:(ws.set (m / 100 % (ws.length:Int)).toNat o).length=ws.length:=List.length_set
    generalize ws.set (m / 100 % (ws.length:Int)).toNat o=ws2 at hsum2 hlen2 ⊢
    have h6:H4 l=some (.lst (us.map V.str)):=k4 _ _ (k3 _ _ h2)
    refine⟨rfl,_,rfl,_,l5,ws2,rfl,rfl,SqL.of ad,?_,_,rfl,_,rfl,l,_,a,a.toNat,rfl,rfl,by rw[av n5];exact h6,ui,?_⟩
    ·rw[ei]
     omega
    rw[eU]
    refine key3 _ _ _ _ (((k2.trans (k3.trans k4)).upd_new nl5 _).upd_new hl _) ad (by rw[List.length_set];omega) fun s hs=>?_
    rcases List.mem_or_eq_of_mem_set hs with w|w
    ·exact Nat.le_trans (hu2 s w) (by decide)
    ·rw[w,dE,ei]
     omega
   ·exact key3 us none none H2 k2 h2 (by omega) fun s hs=>Nat.le_trans (hu2 s hs) (by decide)
  refine⟨_,rfl,_,_,rfl,rfl,(by show (0:Int) < 12;decide),.inl ⟨rfl,_,rfl,bv (fun _=>?_) (fun _=>?_)⟩⟩
  ·obtain⟨u,um,ua,ui,ul⟩:=eo (us:=us) a0 (by omega)
   obtain⟨v,vm,va,vi,vl⟩:=eo (us:=us) b0 (by omega)
   refine⟨_,rfl,_,rfl,.inl ⟨l,_,_,.str v,rfl,rfl,SqL.of h2,va,?_⟩⟩
   refine⟨_,rfl,_,rfl,.inl ⟨l,_,_,.str u,rfl,rfl,SqL.of h2,ua,(by show 2<=sizeLine;decide),fun p5 hp5=>?_⟩⟩
   have n5:l≠p5:=ap h2 hp5
   have h3:=ah hp5 (.tup [.str v,.str u]) _ _ h2
   have k3:Same H (upd H2 p5 (.tup [.str v,.str u])):=k2.trans (ah hp5 _)
   refine⟨p5,[.str v,.str u],rfl,SqT.of ad,rfl,?_⟩
   generalize upd H2 p5 (.tup [.str v,.str u])=H3 at h3 k3 ⊢
   refine⟨_,_,rfl,_,rfl,_,rfl,l,_,a,a.toNat,rfl,rfl,h3,ui,?_⟩
   rw[eU]
   refine⟨_,_,rfl,_,rfl,_,rfl,l,_,b,b.toNat,rfl,rfl,ad,by rw[List.length_map,List.length_set,← List.length_map (f:=V.str)];exact vi,?_⟩
   rw[eU,cO]
   refine⟨rfl,key2 _ _ (k3.upd_new hl _) ad (by rw[List.length_set,List.length_set];exact l1) (by rw[List.length_set,List.length_set];exact l2) fun s hs=>?_⟩
   rcases List.mem_or_eq_of_mem_set hs with w|w
   ·rcases List.mem_or_eq_of_mem_set w with w|w
    ·exact hu2 s w
    ·rw[w];exact hu2 v vm
   ·rw[w];exact hu2 u um
  ·exact key2 us H2 k2 h2 l1 l2 hu2
 refine⟨_,rfl,_,_,rfl,rfl,(by show (0:Int) < 12;decide),.inl ⟨rfl,_,rfl,bv (fun _=>?_) (fun _=>?_)⟩⟩
 ·obtain⟨u,um,ua,ui,ul⟩:=eo (us:=ss) a0 (by omega)
  refine⟨_,rfl,.inl ⟨rfl,_,SqL.of h1⟩,_,rfl,_,rfl,_,rfl,.inl ⟨l,_,_,.str u,rfl,rfl,SqL.of h1,ua,?_⟩⟩
  refine⟨l,_,b,_,rfl,rfl,h1,b0,(by omega),bq (by omega),?_⟩
  have e:(ss.map V.str).take b.toNat++.str u::(ss.map V.str).drop b.toNat=(ss.take b.toNat++u::ss.drop b.toNat).map V.str:=by
   rw[List.map_append,List.map_cons,List.map_take,List.map_drop]
  rw[e]
  have hlen2:(ss.take b.toNat++u::ss.drop b.toNat).length=ss.length+1:=by
   rw[List.length_append,List.length_cons,List.length_take,List.length_drop]
   omega
  refine key1 _ _ (k1.upd_new hl _) ad (by omega) (by omega) fun s hs=>?_
  rcases List.mem_append.mp hs with w|w
  ·exact hz s (List.mem_of_mem_take w)
  ·rcases List.mem_cons.mp w with rfl|w
   ·exact hz _ um
   ·exact hz s (List.mem_of_mem_drop w)
 ·exact key1 ss H1 k1 h1 (Nat.le_refl _) (by omega) hz
end
end K85
namespace K85
open PySem L2 OD
abbrev jt:Stmt:=dG 42
structure tf (K:PySem.W.Frag)(mg:Str->Option Value)(CF CD C1 C2 C3 C4 C5 C6 C8 C9:Addr):Prop where
 len:mg "len"=none
 isinstance:mg "isinstance"=none
 ValueError:mg "ValueError"=none
 g_DuelError:bX mg "DuelError" (.ref CD)
 g_NoVariable:bX mg "NoVariable" (.ref C1)
 g_NoFilling:bX mg "NoFilling" (.ref C2)
 g_BadLine:bX mg "BadLine" (.ref C3)
 g_NotWhole:bX mg "NotWhole" (.ref C4)
 g_NoHand:bX mg "NoHand" (.ref C5)
 g_BadStep:bX mg "BadStep" (.ref C6)
 g_NoForm:bX mg "NoForm" (.ref C9)
 g_TooMany:bX mg "TooMany" (.ref C8)
 g_NoText:bX mg "NoText" (.ref CF)
 ask:cL K CF
 kV:PySem.W.kitOne K (.ref CF) (.type "ValueError")=some true
 kD:PySem.W.kitOne K (.ref CF) (.ref CD)=some true
 k1:PySem.W.kitOne K (.ref CF) (.ref C1)=some false
 k2:PySem.W.kitOne K (.ref CF) (.ref C2)=some false
 k3:PySem.W.kitOne K (.ref CF) (.ref C3)=some false
 k4:PySem.W.kitOne K (.ref CF) (.ref C4)=some false
 k5:PySem.W.kitOne K (.ref CF) (.ref C5)=some false
 k6:PySem.W.kitOne K (.ref CF) (.ref C6)=some false
 k8:PySem.W.kitOne K (.ref CF) (.ref C8)=some false
 k9:PySem.W.kitOne K (.ref CF) (.ref C9)=some false
def ka (CF:Addr):Sp:=fun vs H Q _=>∃ ea:Addr,vs=[.ref ea]/\H ea=some (gB ea CF)/\∀ H':Hp,Same H H'->Q (.bl true) H'
section
variable {P:Program}{w:World}{K:PySem.W.Frag}{mg:Str->Option Value}{base:Heap}{CF CD C1 C2 C3 C4 C5 C6 C8 C9:Addr}
theorem kb:ax ["_law_error","_law_told"] ["_law_error"] (al jt):=⟨rfl,rfl,rfl,by decide+kernel,rfl,by decide+kernel,by decide+kernel⟩
theorem nn {f:Addr}{fd:FuncData}(F:Fun K "_law_alone" "_law_alone" jt f fd)(T:tf K mg CF CD C1 C2 C3 C4 C5 C6 C8 C9):aU P w K mg base cX 1 f fd ["_law_error"] (ka CF):=by
 have sc:=kb
 refine F.ok kb (fun vs H Q E h=>?_) (fun cdv A outer s H vs Q E hr h=>?_)
 ·obtain⟨ea,rfl,_⟩:=h
  rfl
 obtain⟨ea,rfl,he,q⟩:=h
 have hu:=hr.units
 have kN:PySem.W.kitOne K (.ref CF) (.ref CF)=some true:=mj K CF
 refine⟨_,(ae (aD (PW.pt (bD (a_ (aZ (ai aH rfl T.isinstance PyProof.Rows.boot_isinstance (aa (pv 0) (aa (aT rfl T.g_DuelError) ac))))) (br (a_ (aZ (ai aH rfl T.isinstance PyProof.Rows.boot_isinstance (aa (pv 0) (aa (bf (v:=.ty "ValueError") rfl T.ValueError PyProof.Rows.Boot.«ValueError» rfl) ac)))))))) (ag (au cm)) aq)
  (ae (ak (i:=1) sc.nd rfl (Or.inl rfl) (bu (aa (ai aH rfl T.isinstance PyProof.Rows.boot_isinstance (aa (pv 0) (aa (aT rfl T.g_NoVariable) ac))) (aa (ai aH rfl T.isinstance PyProof.Rows.boot_isinstance (aa (pv 0) (aa (aT rfl T.g_NoFilling) ac))) (aa (ai aH rfl T.isinstance PyProof.Rows.boot_isinstance (aa (pv 0) (aa (aT rfl T.g_BadLine) ac))) ac)))))
  (ae (ak (i:=1) sc.nd rfl (Or.inl rfl) (aj iR (pv 1) (bu (aa (ai aH rfl T.isinstance PyProof.Rows.boot_isinstance (aa (pv 0) (aa (aT rfl T.g_NotWhole) ac))) (aa (ai aH rfl T.isinstance PyProof.Rows.boot_isinstance (aa (pv 0) (aa (aT rfl T.g_NoHand) ac))) (aa (ai aH rfl T.isinstance PyProof.Rows.boot_isinstance (aa (pv 0) (aa (aT rfl T.g_BadStep) ac))) ac))))))
  (ae (ak (i:=1) sc.nd rfl (Or.inl rfl) (aj iR (pv 1) (bu (aa (ai aH rfl T.isinstance PyProof.Rows.boot_isinstance (aa (pv 0) (aa (aT rfl T.g_NoForm) ac))) (aa (ai aH rfl T.isinstance PyProof.Rows.boot_isinstance (aa (pv 0) (aa (aT rfl T.g_TooMany) ac))) (aa (ai aH rfl T.isinstance PyProof.Rows.boot_isinstance (aa (pv 0) (aa (aT rfl T.g_NoText) ac))) ac))))))
  (ag (au (cx (aL hu) (ai aJ rfl T.len PySem.boot_len (aa (bw (NY:=["_law_one"]) (idx:=[none]) rfl ⟨by with_unfolding_all rfl,(by with_unfolding_all exact trivial),fun _=>by rfl,by rfl,by rfl,by rfl,by decide⟩ (bn (pv 1)) (fun _ _ _ _=>(az (i:=0) (show List.Nodup (["_law_one"]:List Str) by decide+kernel) rfl (Or.inl rfl))) (fun _ _ _ _=>(jK (aZ (pv 0)))) (fun _ _ _ _=>(pv 0))) ac)) af (ar _)))))))),?_⟩
 refine⟨_,rfl,⟨ea,CF,_,_,_,rfl,rfl,he,T.ask,T.kD,true,rfl,aV ?_⟩⟩
 refine⟨_,rfl,⟨ea,CF,.ty "ValueError",.type "ValueError",true,rfl,rfl,he,T.ask,T.kV,true,rfl,aV ?_⟩⟩
 refine⟨_,rfl,⟨ea,CF,_,_,_,rfl,rfl,he,T.ask,T.k1,_,rfl,⟨ea,CF,_,_,_,rfl,rfl,he,T.ask,T.k2,_,rfl,⟨ea,CF,_,_,_,rfl,rfl,he,T.ask,T.k3,(by show 3<=sizeLine;decide),fun l1 hl1=>?_⟩⟩⟩⟩
 have k1:=ah hl1 (.lst [.bl false,.bl false,.bl false])
 have r1:upd H l1 (.lst [.bl false,.bl false,.bl false]) l1=some (.lst [.bl false,.bl false,.bl false]):=ad
 show bW 1 (.ref l1) _ (upd H l1 (.lst [.bl false,.bl false,.bl false])) _
 generalize upd H l1 (.lst [.bl false,.bl false,.bl false])=H1 at k1 r1
 refine⟨_,rfl,_,rfl,⟨ea,CF,_,_,_,rfl,rfl,(k1 _ _ he),T.ask,T.k4,_,rfl,⟨ea,CF,_,_,_,rfl,rfl,(k1 _ _ he),T.ask,T.k5,_,rfl,⟨ea,CF,_,_,_,rfl,rfl,(k1 _ _ he),T.ask,T.k6,(by show 3<=sizeLine;decide),fun l2 hl2=>?_⟩⟩⟩⟩
 have k2:=ah hl2 (.lst [.bl false,.bl false,.bl false])
 refine⟨l1,l2,_,_,rfl,rfl,k2 _ _ r1,ad,(by show 6<=sizeLine;decide),fun l3 hl3=>?_⟩
 have k3:=k1.trans (k2.trans (ah hl3 (.lst [.bl false,.bl false,.bl false,.bl false,.bl false,.bl false])))
 have r3:upd (upd H1 l2 (.lst [.bl false,.bl false,.bl false])) l3 (.lst [.bl false,.bl false,.bl false,.bl false,.bl false,.bl false]) l3=some (.lst [.bl false,.bl false,.bl false,.bl false,.bl false,.bl false]):=ad
 show bW 1 (.ref l3) _ (upd (upd H1 l2 (.lst [.bl false,.bl false,.bl false])) l3 (.lst [.bl false,.bl false,.bl false,.bl false,.bl false,.bl false])) _
 generalize upd (upd H1 l2 (.lst [.bl false,.bl false,.bl false])) l3 (.lst [.bl false,.bl false,.bl false,.bl false,.bl false,.bl false])=H3 at k3 r3
 refine⟨_,rfl,_,rfl,⟨ea,CF,_,_,_,rfl,rfl,(k3 _ _ he),T.ask,T.k9,_,rfl,⟨ea,CF,_,_,_,rfl,rfl,(k3 _ _ he),T.ask,T.k8,_,rfl,⟨ea,CF,_,_,_,rfl,rfl,(k3 _ _ he),T.ask,kN,(by show 3<=sizeLine;decide),fun l4 hl4=>?_⟩⟩⟩⟩
 have k4:=ah hl4 (.lst [.bl false,.bl false,.bl true])
 refine⟨l3,l4,_,_,rfl,rfl,k4 _ _ r3,ad,(by show 9<=sizeLine;decide),fun l5 hl5=>?_⟩
 have k5:=k3.trans (k4.trans (ah hl5 (.lst [.bl false,.bl false,.bl false,.bl false,.bl false,.bl false,.bl false,.bl false,.bl true])))
 have r5:upd (upd H3 l4 (.lst [.bl false,.bl false,.bl true])) l5 (.lst [.bl false,.bl false,.bl false,.bl false,.bl false,.bl false,.bl false,.bl false,.bl true]) l5=some (.lst [.bl false,.bl false,.bl false,.bl false,.bl false,.bl false,.bl false,.bl false,.bl true]):=ad
 generalize e5:upd (upd H3 l4 (.lst [.bl false,.bl false,.bl true])) l5 (.lst [.bl false,.bl false,.bl false,.bl false,.bl false,.bl false,.bl false,.bl false,.bl true])=H5 at k5 r5
 refine⟨_,rfl,l5,rfl,⟨_,SqL.of (by rw[← e5] at r5;exact r5)⟩,fun D hD=>?_⟩
 refine i3 [] (fun x=>match x with|.bl b=>b|_=>false) (fun x=>x) rfl (by rw[← e5] at r5;exact r5) hD (by decide) ?_ ?_ ?_
 ·intro x hx H' R k r
  obtain⟨b,rfl⟩:∃ b,x=.bl b:=by
   simp only [List.mem_cons,List.not_mem_nil,or_false] at hx
   rcases hx with rfl|rfl|rfl|rfl|rfl|rfl|rfl|rfl|rfl<;>exact⟨_,rfl⟩
  exact⟨_,rfl,b,rfl,r⟩
 ·intro x hx _ H' R k r
  exact⟨_,rfl,r⟩
 ·refine⟨.ref D,_,rfl,.inl ⟨_,SqL.of ad,rfl⟩,.inl ⟨rfl,?_⟩⟩
  refine q _ ?_
  rw[← e5] at k5
  exact k5.trans (ah hD _)
end
end K85
namespace K85
open PySem L2 OD
abbrev ju:Stmt:=dG 44
abbrev nt:Stmt:=dG 45
structure tj (K:PySem.W.Frag)(mg:Str->Option Value)(CN:Addr):Prop where
 m_NoText:mg "NoText"=some (.ref CN)
 x_NoText:PySem.W.excIn K CN [.type "ValueError",.type "Exception",.type "BaseException",.type "object"] "ValueError.__new__"=true
def kc (CN:Addr):Sp:=fun vs H Q _=>∃ x:Str,vs=[.str x]/\x.length<=800000/\
 (∀ t cs,cr x=some (t,cs)->∀ l p q xs H',Same H H'->H q=none->H' l=some (.lst [.ref p,.non])->H' p=some (.tup [.str t,.ref q])->H' q=some (.lst xs)->CLs H' cs xs->Q (.ref l) H')/\
 (cr x=none->∀ l ea H',Same H H'->H' l=some (.lst [.non,.ref ea])->H' ea=some (gB ea CN)->Q (.ref l) H')
def nu:Sp:=fun vs H Q _=>∃ (v u:V) (t:Str) (cs:List (List Int)),vs=[v,u]/\RD H (bJ t cs) v/\RD H (bJ t cs) u/\WS t/\∀ H':Hp,Same H H'->Q (.bl true) H'
theorem kd {t:Str}(h:ee t=true):WS t:=fun ch hc=>by
 have:=List.all_eq_true.mp h ch hc
 unfold kR at this
 simpa using this
theorem nv {x t:Str}{cs:List (List Int)}(h:cr x=some (t,cs)):WS t:=by
 unfold cr at h
 obtain⟨t',_,h⟩:=Option.bind_eq_some_iff.mp h
 obtain⟨cs',_,h⟩:=Option.bind_eq_some_iff.mp h
 split at h
 ·rename_i hb
  cases h
  rw[dB] at hb
  exact kd (Bool.and_eq_true_iff.mp hb).1
 ·cases h
section
variable {P:Program}{w:World}{K:PySem.W.Frag}{mg:Str->Option Value}{base:Heap}{CN:Addr}
theorem ke:ax ["_law_text","_law_found","_law_error","e"] ["_law_text"] (al ju):=⟨rfl,rfl,rfl,by decide+kernel,rfl,by decide+kernel,by decide+kernel⟩
theorem nw {f f1:Addr}{fd d1:FuncData}(F:Fun K "_law_asked" "_law_asked" ju f fd)(T:tj K mg CN)(Gread_sentence:nZ P w K mg base 4 "read_sentence" f1 d1 ["text"] (j5 CN)):aU P w K mg base cX 5 f fd ["_law_text"] (kc CN):=by
 have sc:=ke
 refine F.ok ke (fun vs H Q E h=>?_) (fun cdv A outer s H vs Q E hr h=>?_)
 ·obtain⟨x,rfl,_⟩:=h
  rfl
 obtain⟨x,rfl,hz,q,qe⟩:=h
 refine⟨_,(ae (ak (i:=1) sc.nd rfl (Or.inl rfl) cw)
  (ae (ak (i:=2) sc.nd rfl (Or.inl rfl) cw)
  (ae (qk (i:=3) sc.nd rfl rfl rfl rfl rfl T.x_NoText (by decide+kernel) T.m_NoText rfl (nY (i:=1) sc.nd rfl (Or.inl rfl) (ql Gread_sentence (fun _ _ z=>z) hr (by omega) rfl (aa (pv 0) ac))) (fun _ _=>(ag (ak (i:=2) sc.nd rfl (Or.inl rfl) (pv 3)))))
  (ag (au (bu (aa (pv 1) (aa (pv 2) ac)))))))),?_⟩
 refine⟨_,rfl,x,rfl,hz,fun t cs ht p qa xs H1 k1 hqa hp hq hc=>?_,fun hn H1 k1=>⟨rfl,fun ea hea=>?_⟩⟩
 ·refine⟨_,rfl,_,rfl,(by show 2<=sizeLine;decide),fun l hl=>?_⟩
  have k2:Same H1 (upd H1 l (.lst [.ref p,.non])):=ah hl _
  exact q t cs ht l p qa xs _ (k1.trans k2) hqa ad (k2 _ _ hp) (k2 _ _ hq) (hc.mono k2)
 ·refine⟨_,rfl,?_⟩
  refine⟨_,rfl,_,rfl,(by show 2<=sizeLine;decide),fun l hl=>?_⟩
  have k2:Same H1 (upd H1 ea (gB ea CN)):=ah hea _
  have k3:=ah hl (.lst [.non,.ref ea])
  exact qe hn l ea _ (k1.trans (k2.trans k3)) ad (k3 _ _ ad)
theorem ny:ax ["_law_found","_law_due","_law_clause"] ["_law_found","_law_due"] (al nt):=⟨rfl,rfl,rfl,by decide+kernel,rfl,by decide+kernel,by decide+kernel⟩
theorem oO {f f1:Addr}{fd d1:FuncData}(F:Fun K "_law_good" "_law_good" nt f fd)(T:o4 mg)(G_law_whole:Fn P w K mg base 1 "_law_whole" f1 d1 ["_law_found"] jZ):aU P w K mg base cX 2 f fd ["_law_found","_law_due"] nu:=by
 have sc:=ny
 refine F.ok ny (fun vs H Q E h=>?_) (fun cdv A outer s H vs Q E hr h=>?_)
 ·obtain⟨v,u,t,cs,rfl,_⟩:=h
  rfl
 obtain⟨v,u,t,cs,rfl,hd,hd',hw,q⟩:=h
 obtain⟨p,qa,xs,rfl,h1,h2,h3⟩:=cJ hd
 have hu:=hr.units
 refine⟨_,(ae (aD (PW.pt (bD (a_ (aZ (ai aG rfl T.isinstance PyProof.Rows.boot_isinstance (aa (pv 0) (aa (bf (v:=.ty "tuple") rfl T.tuple PyProof.Rows.boot_tuple rfl) ac))))) (br (ao (bM hu) (ai aJ rfl T.len PySem.boot_len (aa (pv 0) ac)) af (ar _))))) (ag (au cm)) aq)
  (ae (aD (PW.pt (bD (a_ (aZ (ai aG rfl T.isinstance PyProof.Rows.boot_isinstance (aa (aF ay (pv 0) af (fun _ _=>rfl)) (aa (bf (v:=.ty "str") rfl T.str PyProof.Rows.boot_str rfl) ac))))) (br (a_ (aZ (ai aG rfl T.isinstance PyProof.Rows.boot_isinstance (aa (aF ay (pv 0) af (fun _ _=>rfl)) (aa (bf (v:=.ty "list") rfl T.list PyProof.Rows.boot_list rfl) ac)))))))) (ag (au cm)) aq)
  (ae (cj PassesOwn.never rfl (bn (aF ay (pv 0) af (fun _ _=>rfl))) (az (i:=2) sc.nd rfl (Or.inl rfl))
   (ag (aD (PW.pt (bD (a_ (aZ (ai aG rfl T.isinstance PyProof.Rows.boot_isinstance (aa (pv 2) (aa (bf (v:=.ty "tuple") rfl T.tuple PyProof.Rows.boot_tuple rfl) ac))))) (br (ao di (ai aJ rfl T.len PySem.boot_len (aa (bw (NY:=["_law_one"]) (idx:=[none]) rfl ⟨by with_unfolding_all rfl,(by with_unfolding_all exact trivial),fun _=>by rfl,by rfl,by rfl,by rfl,by decide⟩ (gr (pv 2)) (fun _ _ _ _=>(az (i:=0) (show List.Nodup (["_law_one"]:List Str) by decide+kernel) rfl (Or.inl rfl))) (fun _ _ _ _=>(jK (a_ (aZ (aI G_law_whole hr (by omega) rfl (aa (pv 0) ac)))))) (fun _ _ _ _=>(pv 0))) ac)) af (ar _))))) (ag (au cm)) aq)))
  (ag (au (cx (aL hu) (pv 0) (pv 1) (ar _))))))),?_⟩
 refine⟨_,rfl,.ref p,_,"tuple",true,rfl,.tup h1,aw sW,true,rfl,aV ?_⟩
 refine⟨_,rfl,.ref p,_,rfl,.inr ⟨_,SqT.of h1,rfl⟩,.inl ⟨rfl,_,rfl,qJ rfl ?_⟩⟩
 refine⟨_,rfl,.inr (.inl ⟨p,_,0,.str t,rfl,rfl,SqT.of h1,rfl,.str t,_,"str",true,rfl,.str t,aw sX,true,rfl,aV ?_⟩)⟩
 refine⟨_,rfl,.inr (.inl ⟨p,_,1,.ref qa,rfl,rfl,SqT.of h1,rfl,.ref qa,_,"list",true,rfl,.lst h2,aw tG,true,rfl,aV ?_⟩)⟩
 refine⟨_,rfl,.inr (.inl ⟨p,_,1,.ref qa,rfl,rfl,SqT.of h1,rfl,qa,rfl,⟨_,SqL.of h2⟩,dh (K:=K) (a:=qa) (xs:=xs)
  (fun i σ H2=>∃ v2,σ=[some (.ref p),some u,v2]/\Same H H2) ⟨none,rfl,Same.refl H⟩ ?_ ?_ ?_⟩)⟩
 ·rintro i σ H2 _ ⟨_,_,k2⟩
  exact SqL.of (k2 _ _ h2)
 ·rintro i x σ H2 hx ⟨v2,rfl,k2⟩
  obtain⟨c,hc,tc,rfl,htc⟩:=h3.get hx
  have htc2:=k2 _ _ htc
  refine⟨_,rfl,.ref tc,_,"tuple",true,rfl,.tup htc2,aw sW,true,rfl,aV ?_⟩
  refine⟨_,rfl,tc,rfl,⟨_,SqT.of htc2⟩,fun D hD=>?_⟩
  refine hJ (K:=K) (a:=tc) (xs:=c.map V.int) (fun j σ ys H3=>(∃ v0,σ=[v0])/\ys=[]/\H3=upd H2 D (.lst [])) ⟨⟨none,rfl⟩,rfl,rfl⟩ ?_ ?_ ?_
  ·rintro j σ ys H3 _ ⟨_,rfl,rfl⟩
   exact⟨ad,SqT.of (by rw[av (ap htc2 hD)];exact htc2)⟩
  ·rintro j y σ ys H3 hy ⟨⟨v0,rfl⟩,rfl,rfl⟩
   obtain⟨z,rfl,_⟩:=cI hy
   exact⟨_,rfl,.int z,.int z,rfl,lL z,true,rfl,aV ⟨⟨_,rfl⟩,rfl,rfl⟩⟩
  rintro σ ys H3 ⟨_,rfl,rfl⟩
  refine⟨.ref D,_,rfl,.inl ⟨_,SqL.of ad,rfl⟩,_,_,rfl,rfl,_,rfl,tE (by show ¬ (0:Int) < ((0:Nat):Int);omega) ?_⟩
  exact⟨_,rfl,k2.trans (ah hD _)⟩
 ·rintro σ H2 ⟨v2,rfl,k2⟩
  exact⟨_,rfl,_,rfl,l_ (bY k2 _ _ hd) (bY k2 _ _ hd') (eG hw cs) (q H2 k2)⟩
end
end K85
namespace K85
open PySem L2 OD
abbrev lp:Stmt:=dG 46
def kf (K:PySem.W.Frag):Sp:=fun vs H Q _=>∃ (a:Addr) (ns:List Int),vs=[.ref a]/\SqL K H a (ns.map V.int)/\ns.length<=63/\∀ H',Q (.bl true) H'
theorem kg {H:Hp}{cs:List (List Int)}{xs:List V}(h:CLs H cs xs):∀ n,CLs H (List.replicate n cs).flatten (List.replicate n xs).flatten
 |0=>.nil
 |n+1=>by
  rw[List.replicate_succ,List.flatten_cons,List.replicate_succ,List.flatten_cons]
  exact fA h (kg h n)
theorem kh (cs:List (List Int)):∀ n,(List.replicate n cs).flatten.length=n*cs.length
 |0=>by rw[Nat.zero_mul];rfl
 |n+1=>by rw[List.replicate_succ,List.flatten_cons,List.length_append,kh cs n,Nat.succ_mul];omega
theorem qH {a b:Str}(ha:WS a)(hb:WS b):WS (a++b):=fun ch hc=>by
 have e:(a++b).cps.toList=a.cps.toList++b.cps.toList:=Array.toList_append
 rw[e] at hc
 rcases List.mem_append.mp hc with w|w
 ·exact ha ch w
 ·exact hb ch w
section
variable {P:Program}{w:World}{K:PySem.W.Frag}{mg:Str->Option Value}{base:Heap}{CN:Addr}
theorem ph:ax ["_law_script","_law_sentence_here","_law_handed","_law_rows","_law_told","_law_number_here","_law_more","_law_text","_law_due","_law_found","_law_error"] ["_law_script"] (al lp):=⟨rfl,rfl,rfl,by decide+kernel,rfl,by decide+kernel,by decide+kernel⟩
theorem qI {f f1 f2 f3 f4 f5 f6 f7 f8 f9 g1 g2 g3:Addr}{fd d1 d2 d3 d4 d5 d6 d7 d8 d9 e1 e2 e3:FuncData}(F:Fun K "law" "law" lp f fd)(T:o4 mg)(G_law_sentence:Fn P w K mg base 3 "_law_sentence" f1 d1 ["_law_script","_law_most"] (mH K))(G_law_cell_at:Fn P w K mg base 1 "_law_cell_at" f2 d2 ["_law_script","_law_k"] (gJ K))
  (G_law_mixed:Fn P w K mg base 1 "_law_mixed" f3 d3 ["_law_cell","_law_k"] dH) (G_law_copy:Fn P w K mg base 1 "_law_copy" f4 d4 ["_law_sentence_here"] mQ) (G_law_rows_of:Fn P w K mg base 1 "_law_rows_of" f5 d5 ["_law_sentence_here"] iF) (Gshown_sentence:Fn P w K mg base 2 "shown_sentence" f6 d6 ["sentence"] j8)
  (G_law_bent_rows:Fn P w K mg base 1 "_law_bent_rows" f7 d7 ["_law_rows","_law_number_here","_law_more"] ni) (G_law_bent_signs:Fn P w K mg base 1 "_law_bent_signs" f8 d8 ["_law_text","_law_number_here","_law_more"] nh) (G_law_reader:Fn P w K mg base 2 "_law_reader" f9 d9 ["_law_text"] o9)
  (G_law_asked:Fn P w K mg base 5 "_law_asked" g1 e1 ["_law_text"] (kc CN)) (G_law_alone:Fn P w K mg base 1 "_law_alone" g2 e2 ["_law_error"] (ka CN)) (G_law_good:Fn P w K mg base 2 "_law_good" g3 e3 ["_law_found","_law_due"] nu):
  aU P w K mg base cX 6 f fd ["_law_script"] (kf K):=by
 have sc:=ph
 refine F.ok ph (fun vs H Q E h=>?_) (fun cdv A outer s H vs Q E hr h=>?_)
 ·obtain⟨a,ns,rfl,_⟩:=h
  rfl
 obtain⟨a,ns,rfl,hS,hl,q⟩:=h
 have hu:=hr.units
 refine⟨_,(ae (ak (i:=1) sc.nd rfl (Or.inl rfl) (aI G_law_sentence hr (by omega) rfl (aa (pv 0) (aa af ac))))
  (ae (aD (ao (aL hu) (aj aA (aI G_law_mixed hr (by omega) rfl (aa (aI G_law_cell_at hr (by omega) rfl (aa (pv 0) (aa af ac))) (aa af ac))) af) af (ar _)) (ag (ak (i:=1) sc.nd rfl (Or.inl rfl) (b7 (aa (aj aN (aF ay (pv 1) af (fun _ _=>rfl)) (aj n9 am af)) (aa (aj pS (aF ay (pv 1) af (fun _ _=>rfl)) af) ac))))) aq)
  (ae (ak (i:=2) sc.nd rfl (Or.inl rfl) (aI G_law_copy hr (by omega) rfl (aa (pv 1) ac)))
  (ae (ak (i:=3) sc.nd rfl (Or.inl rfl) (aI G_law_rows_of hr (by omega) rfl (aa (pv 1) ac)))
  (ae (ak (i:=4) sc.nd rfl (Or.inl rfl) (aI Gshown_sentence hr (by omega) rfl (aa (pv 2) ac)))
  (ae (aD (PW.pt (bD (a_ (aZ (ai aG rfl T.isinstance PyProof.Rows.boot_isinstance (aa (pv 4) (aa (bf (v:=.ty "str") rfl T.str PyProof.Rows.boot_str rfl) ac))))) (bD (ao (bM hu) (pv 4) (bi PySem.F.plainAttrs_str PySem.F.slot_str_join PySem.F.type_str_join cy am (aa (pv 3) ac)) (ar _)) (br (ao (bM hu) (pv 2) (pv 1) (ar _)))))) (ag (au cm)) aq)
  (ae (ak (i:=5) sc.nd rfl (Or.inl rfl) (aI G_law_mixed hr (by omega) rfl (aa (aI G_law_cell_at hr (by omega) rfl (aa (pv 0) (aa af ac))) (aa af ac))))
  (ae (ak (i:=6) sc.nd rfl (Or.inl rfl) (aI G_law_mixed hr (by omega) rfl (aa (aI G_law_cell_at hr (by omega) rfl (aa (pv 0) (aa af ac))) (aa af ac))))
  (ae (aD (ao di (aj aA (pv 5) af) af (ar _)) (ag (ak (i:=3) sc.nd rfl (Or.inl rfl) (aI G_law_bent_rows hr (by omega) rfl (aa (pv 3) (aa (pv 5) (aa (pv 6) ac)))))) aq)
  (ae (ak (i:=7) sc.nd rfl (Or.inl rfl) (bi PySem.F.plainAttrs_str PySem.F.slot_str_join PySem.F.type_str_join cy am (aa (pv 3) ac)))
  (ae (aD (PW.pt (gn (ao jA af (aj aA (pv 5) af) (ar _)) (eJ (ao jA (aj aA (pv 5) af) af (ar _))))) (ag (ak (i:=7) sc.nd rfl (Or.inl rfl) (aI G_law_bent_signs hr (by omega) rfl (aa (pv 7) (aa (pv 5) (aa (pv 6) ac)))))) aq)
  (ae (ak (i:=8) sc.nd rfl (Or.inl rfl) (aI G_law_reader hr (by omega) rfl (aa (pv 7) ac)))
  (ae (dJ (aI G_law_asked hr (by omega) rfl (aa (pv 7) ac)) (lR rfl (b6 (az (i:=9) sc.nd rfl (Or.inl rfl)) (b6 (az (i:=10) sc.nd rfl (Or.inl rfl)) gp))))
  (ae (aD (ao pI (pv 8) cw (ar _)) (ag (au (aI G_law_alone hr (by omega) rfl (aa (pv 10) ac)))) aq)
  (ae (aD (PW.pt (bD (ao nI (pv 10) cw (ar _)) (br (a_ (aZ (aI G_law_good hr (by omega) rfl (aa (pv 9) (aa (pv 8) ac)))))))) (ag (au cm)) aq)
  (ae (cf (pQ PySem.F.plainAttrs_list PySem.F.slot_list_clear PySem.F.type_list_clear lF (aF ay (pv 9) af (fun _ _=>rfl))))
  (ag (au (aI G_law_good hr (by omega) rfl (aa (aF ay (aI G_law_asked hr (by omega) rfl (aa (pv 7) ac)) af (fun _ _=>rfl)) (aa (pv 8) ac))))))))))))))))))))),?_⟩
 refine⟨_,rfl,a,ns,12,rfl,hS,hl,(by decide),(by decide),fun p t cs H1 k1 hd ok=>?_⟩
 have htl:=ok.len
 have hmany:=ok.many
 unfold bW
 dsimp only
 refine ci fun N1 hN1=>?_
 have key1:∀ (p:Addr) (t:Str) (cs:List (List Int)) (H1:Hp),Same H H1->RD H1 (bJ t cs) (.ref p)->lb t cs->WS t->N1 [some (.ref a),some (.ref p),none,none,none,none,none,none,none,none,none] H1:=fun p t cs H1 k1 hd sh ws=>by
  refine hN1 _ _ ?_
  refine⟨_,rfl,.ref p,t,cs,rfl,hd,Nat.le_trans sh.cl (by decide),fun p2 H2 k2 hd2=>?_⟩
  have hdS:=bY k2 _ _ hd
  refine⟨_,rfl,.ref p,t,cs,rfl,hdS,sh,fun l H3 k3 nl hl3=>?_⟩
  have hd3:=bY k3 _ _ hd2
  refine⟨_,rfl,.ref p2,t,cs,rfl,hd3,sh,fun H4 k4=>?_⟩
  refine⟨_,rfl,.str _,_,"str",true,rfl,.str _,aw sX,true,rfl,aV ?_⟩
  have hl4:=k4 _ _ hl3
  have hk4:Same H H4:=k1.trans (k2.trans (k3.trans k4))
  refine⟨_,rfl,rfl,_,rfl,_,l,_,rfl,rfl,SqL.of hl4,iG sh,.inl ⟨rfl,_,rfl,qJ rfl ?_⟩⟩
  refine⟨_,rfl,_,rfl,ma (bY k4 _ _ hd3) (bY (k3.trans k4) _ _ hdS) (eG ws cs) ⟨_,rfl,aV ?_⟩⟩
  refine⟨_,rfl,a,ns,0,rfl,hk4.seq hS,(by decide),fun c1=>⟨_,_,rfl,fun n n0 n1=>?_⟩⟩
  refine⟨_,rfl,a,ns,1,rfl,hk4.seq hS,(by decide),fun c2=>⟨_,_,rfl,fun m m0 m1=>?_⟩⟩
  dsimp only
  refine ci fun N2 hN2=>?_
  have key2:∀ (l:Addr) (us:List Str) (H4:Hp),H4 l=some (.lst (us.map V.str))->us.length<=300->(∀ s∈us,s.length<=500)->(n % 12<=6->us=bT t cs)->
    N2 [some (.ref a),some (.ref p),some (.ref p2),some (.ref l),some (.str (Txt.join (Str.ofString "\n") (bT t cs))),some (.int n),some (.int m),none,none,none,none] H4:=fun l us H4 hl4 u1 u2 u3=>by
   refine hN2 _ _ ?_
   have hj:=gH u2 u1 gI
   have hsum:=fL u2
   have hsum2:us.length*500<=300*500:=Nat.mul_le_mul_right _ u1
   refine⟨rfl,_,rfl,_,l,us,rfl,rfl,SqL.of hl4,by rw[gI];omega,?_⟩
   have hxl:n % 12<=6->1<=(Txt.join (Str.ofString "\n") us).length/\(Txt.join (Str.ofString "\n") us).length<=100000:=fun h=>by
    rw[u3 h]
    have:=mC sh
    omega
   generalize Txt.join (Str.ofString "\n") us=x at hj hxl ⊢
   dsimp only
   refine ci fun N3 hN3=>?_
   have key3:∀ x:Str,x.length<=800000->N3 [some (.ref a),some (.ref p),some (.ref p2),some (.ref l),some (.str (Txt.join (Str.ofString "\n") (bT t cs))),some (.int n),some (.int m),some (.str x),none,none,none] H4:=fun x hx=>by
    refine hN3 _ _ ?_
    cases hs:cr x with
    |none=>
     refine⟨_,rfl,x,rfl,hx,(fun t1 cs1 h1=>nomatch h1.symm.trans hs),fun _ H5 k5=>?_⟩
     refine⟨_,rfl,x,rfl,hx,(fun t1 cs1 h1=>nomatch h1.symm.trans hs),fun _ l6 ea H6 k6 hl6 hea=>?_⟩
     refine⟨l6,_,rfl,SqL.of hl6,rfl,_,_,rfl,_,_,rfl,rfl,?_⟩
     refine⟨_,rfl,rfl,_,rfl,?_⟩
     rw[decide_eq_true rfl]
     exact aM ⟨_,rfl,ea,rfl,hea,fun H7 k7=>q _⟩
    |some r=>
     obtain⟨t1,cs1⟩:=r
     have ws1:=nv hs
     refine⟨_,rfl,x,rfl,hx,fun t' cs' h1 pd qd xd H5 k5 nqd hpd hqd hcd=>?_,(fun h1=>nomatch h1.symm.trans hs)⟩
     rw[hs] at h1
     cases h1
     refine⟨_,rfl,x,rfl,hx,fun t' cs' h1 l6 pf qf xf H6 k6 nqf hl6 hpf hqf hcf=>?_,(fun h1=>nomatch h1.symm.trans hs)⟩
     rw[hs] at h1
     cases h1
     refine⟨l6,_,rfl,SqL.of hl6,rfl,_,_,rfl,_,_,rfl,rfl,?_⟩
     refine⟨_,rfl,rfl,_,rfl,?_⟩
     rw[decide_eq_false (fun z=>nomatch z)]
     refine aV ⟨_,rfl,rfl,_,rfl,?_⟩
     rw[decide_eq_true rfl]
     refine aV ⟨_,rfl,_,rfl,.ref pf,.ref pd,t1,cs1,rfl,bZ hpf hqf hcf,bZ (k6 _ _ hpd) (k6 _ _ hqd) (hcd.mono k6),ws1,fun H7 k7=>⟨_,rfl,aV ?_⟩⟩
     have hpf7:=k7 _ _ hpf
     have hqf7:=k7 _ _ hqf
     refine⟨_,rfl,.inr (.inl ⟨pf,_,1,.ref qf,rfl,rfl,SqT.of hpf7,rfl,.inl ⟨rfl,_,SqL.of hqf7⟩,qf,_,rfl,rfl,hqf7,?_⟩)⟩
     have nq:qd≠qf:=fun z=>by rw[z,nqf] at hqd;cases hqd
     have np:pd≠qf:=fun z=>by rw[z,nqf] at hpd;cases hpd
     have hpd8:upd H7 qf (.lst []) pd=some (.tup [.str t1,.ref qd]):=by rw[av np];exact k7 _ _ (k6 _ _ hpd)
     have hqd8:upd H7 qf (.lst []) qd=some (.lst xd):=by rw[av nq];exact k7 _ _ (k6 _ _ hqd)
     have hcd8:CLs (upd H7 qf (.lst [])) cs1 xd:=((hcd.mono k6).mono k7).upd hqf7
     generalize upd H7 qf (.lst [])=H8 at hpd8 hqd8 hcd8 ⊢
     refine⟨_,rfl,x,rfl,hx,fun t' cs' h1 l9 pg qg xg H9 k9 nqg hl9 hpg hqg hcg=>?_,(fun h1=>nomatch h1.symm.trans hs)⟩
     rw[hs] at h1
     cases h1
     refine .inl ⟨l9,_,0,.ref pg,rfl,rfl,SqL.of hl9,rfl,_,rfl,.ref pg,.ref pd,t1,cs1,rfl,bZ hpg hqg hcg,bZ (k9 _ _ hpd8) (k9 _ _ hqd8) (hcd8.mono k9),ws1,fun H10 k10=>q _⟩
   refine⟨_,rfl,_,_,rfl,rfl,(by show (0:Int) < 12;decide),_,_,rfl,rfl,_,rfl,bv (fun _=>?_) (fun _=>aV (key3 x (by omega)))⟩
   refine⟨_,rfl,_,_,rfl,rfl,(by show (0:Int) < 12;decide),_,_,rfl,rfl,_,rfl,bv (fun c7=>?_) (fun _=>key3 x (by omega))⟩
   have c7':n % 12 < 7:=of_decide_eq_true c7
   obtain⟨x1,x2⟩:=hxl (by omega)
   exact⟨_,rfl,_,rfl,_,rfl,x,n,m,rfl,x1,x2,n0,(by omega),m0,(by omega),fun y hy=>key3 y (by omega)⟩
  obtain⟨r1,r2⟩:=fM sh
  refine⟨_,rfl,_,_,rfl,rfl,(by show (0:Int) < 12;decide),_,_,rfl,rfl,_,rfl,bv (fun c6=>?_) (fun _=>?_)⟩
  ·have c6':6 < n % 12:=of_decide_eq_true c6
   exact⟨_,rfl,_,rfl,_,rfl,l,bT t cs,n,m,rfl,hl4,(by show 1<=(cs.map dD).length+1;omega),r1,r2,n0,(by omega),m0,(by omega),fun l5 us H5 k5 hl5 u1 u2=>key2 l5 us H5 hl5 u1 u2 fun h=>absurd h (by omega)⟩
  ·exact key2 l (bT t cs) H4 hl4 (by omega) (fun s hs=>Nat.le_trans (r2 s hs) (by decide)) fun _=>rfl
 refine⟨_,rfl,a,ns,0,rfl,k1.seq hS,(by decide),fun c1=>⟨_,_,rfl,fun m m0 m1=>?_⟩⟩
 refine⟨_,_,rfl,rfl,(by show (0:Int) < 8;decide),.inl ⟨rfl,_,rfl,bv (fun _=>?_) (fun _=>?_)⟩⟩
 ·obtain⟨pp,qa,zs,ep,h1,h2,h3⟩:=cJ hd
  cases ep
  have hzl:=h3.length
  refine⟨_,rfl,.inr (.inl ⟨p,[.str t,.ref qa],0,.str t,rfl,rfl,SqT.of h1,rfl,?_⟩)⟩
  have e14:(mq (Str.ofString "ws") 14).length=28:=by decide+kernel
  refine⟨Str.ofString "ws",14,rfl,rfl,by decide,by decide,by decide+kernel,by decide+kernel,by decide+kernel,by rw[e14];decide,?_⟩
  refine⟨_,_,rfl,rfl,Nat.le_of_lt (aQ (by omega)),?_⟩
  refine⟨_,rfl,.inr (.inl ⟨p,[.str t,.ref qa],1,.ref qa,rfl,rfl,SqT.of h1,rfl,?_⟩)⟩
  refine⟨qa,12,zs,rfl,rfl,h2,by decide,by decide,?_,fun l2 hl2=>?_⟩
  ·exact Nat.le_of_lt (aQ (by show zs.length*12<=1000;omega))
  have k2:=ah hl2 (.lst (List.replicate (12:Int).toNat zs).flatten)
  have s2:upd H1 l2 (.lst (List.replicate (12:Int).toNat zs).flatten) l2=some (.lst (List.replicate (12:Int).toNat zs).flatten):=ad
  generalize upd H1 l2 (.lst (List.replicate (12:Int).toNat zs).flatten)=H2 at k2 s2 ⊢
  refine⟨(by show 2<=sizeLine;decide),fun p2 hp2=>?_⟩
  have k3:=ah hp2 (.tup [.str (t++mq (Str.ofString "ws") 14),.ref l2])
  refine key1 p2 (t++mq (Str.ofString "ws") 14) (List.replicate 12 cs).flatten _ (k1.trans (k2.trans k3)) (bZ ad (k3 _ _ s2) (kg (h3.mono (k2.trans k3)) 12)) ⟨?_,?_,fun c hc=>?_,fun c hc=>?_⟩ (qH ok.ws (kd (by decide+kernel)))
  ·rw[bb,e14]
   omega
  ·rw[kh]
   omega
  ·obtain⟨l',hl',hc'⟩:=List.mem_flatten.mp hc
   rw[(List.mem_replicate.mp hl').2] at hc'
   exact (dF (ok.cl c hc') htl).1
  ·obtain⟨l',hl',hc'⟩:=List.mem_flatten.mp hc
   rw[(List.mem_replicate.mp hl').2] at hc'
   exact (dF (ok.cl c hc') htl).2
 ·exact key1 p t cs H1 k1 hd ⟨by omega,by omega,fun c hc=>(dF (ok.cl c hc) htl).1,fun c hc=>(dF (ok.cl c hc) htl).2⟩ ok.ws
end
end K85
namespace K85
open PySem L2 OD
theorem all_mk {l:PySem.W.OpenLaw}{w:World}{K:PySem.W.Frag}{h:Heap}{mg:Str->Option Value}{fa f1 f2 f3 f4 f5 f6 f7 f8 f9 f10 f11 f12 f13 f14 f15 f16 f17 f18 f19 f20 f21 f22 f23 f24 f25 f26 f27 f28 f29:Addr}{e1 e2 e3 e4 e5 e6 e7 e8 e9 e10 e11 e12 e13 e14 e15 e16 e17 e18 e19 e20 e21 e22 e23 e24 e25 e26 e27 e28 e29:FuncData}(X:K.In h)(G:h.Ns mainGlobals mg)(hfa:mg "law"=some (.ref fa))
  {CD CF C1 C2 C3 C4 C5 C6 C8 C9:Addr}
  {cdF:ClassData} {tF tM tN:Tok}
  (a1:PySem.W.nsIn K mainGlobals "is_number"=some (some (.ref f1))) (F1:Fun K "is_number" "is_number" qx f1 e1)
  (a2:PySem.W.nsIn K mainGlobals "is_set"=some (some (.ref f2))) (F2:Fun K "is_set" "is_set" qy f2 e2)
  (a3:PySem.W.nsIn K mainGlobals "is_turns"=some (some (.ref f3))) (F3:Fun K "is_turns" "is_turns" jk f3 e3)
  (a4:PySem.W.nsIn K mainGlobals "is_sentence"=some (some (.ref f4))) (F4:Fun K "is_sentence" "is_sentence" gK f4 e4)
  (a5:PySem.W.nsIn K mainGlobals "shown_row"=some (some (.ref f5))) (F5:Fun K "shown_row" "shown_row" jq f5 e5)
  (a6:PySem.W.nsIn K mainGlobals "shown_sentence"=some (some (.ref f6))) (F6:Fun K "shown_sentence" "shown_sentence" jr f6 e6)
  (a7:PySem.W.nsIn K mainGlobals "read_number"=some (some (.ref f7))) (F7:Fun K "read_number" "read_number" mU f7 e7)
  (a8:PySem.W.nsIn K mainGlobals "read_numbers"=some (some (.ref f8))) (F8:Fun K "read_numbers" "read_numbers" jo f8 e8)
  (a9:PySem.W.nsIn K mainGlobals "read_clause"=some (some (.ref f9))) (F9:Fun K "read_clause" "read_clause" qB f9 e9)
  (a10:PySem.W.nsIn K mainGlobals "read_turns"=some (some (.ref f10))) (F10:Fun K "read_turns" "read_turns" gM f10 e10)
  (a11:PySem.W.nsIn K mainGlobals "read_sentence"=some (some (.ref f11))) (F11:Fun K "read_sentence" "read_sentence" jp f11 e11)
  (a12:PySem.W.nsIn K mainGlobals "_law_cell_at"=some (some (.ref f12))) (F12:Fun K "_law_cell_at" "_law_cell_at" mD f12 e12)
  (a13:PySem.W.nsIn K mainGlobals "_law_whole"=some (some (.ref f13))) (F13:Fun K "_law_whole" "_law_whole" jm f13 e13)
  (a14:PySem.W.nsIn K mainGlobals "_law_mixed"=some (some (.ref f14))) (F14:Fun K "_law_mixed" "_law_mixed" jg f14 e14)
  (a15:PySem.W.nsIn K mainGlobals "_law_first"=some (some (.ref f15))) (F15:Fun K "_law_first" "_law_first" jh f15 e15)
  (a16:PySem.W.nsIn K mainGlobals "_law_free_clause"=some (some (.ref f16))) (F16:Fun K "_law_free_clause" "_law_free_clause" mE f16 e16)
  (a17:PySem.W.nsIn K mainGlobals "_law_drawn"=some (some (.ref f17))) (F17:Fun K "_law_drawn" "_law_drawn" jj f17 e17)
  (a18:PySem.W.nsIn K mainGlobals "_law_sentence"=some (some (.ref f18))) (F18:Fun K "_law_sentence" "_law_sentence" mF f18 e18)
  (a19:PySem.W.nsIn K mainGlobals "_law_copy"=some (some (.ref f19))) (F19:Fun K "_law_copy" "_law_copy" mP f19 e19)
  (a20:PySem.W.nsIn K mainGlobals "_law_rows_of"=some (some (.ref f20))) (F20:Fun K "_law_rows_of" "_law_rows_of" gN f20 e20)
  (a21:PySem.W.nsIn K mainGlobals "_law_number"=some (some (.ref f21))) (F21:Fun K "_law_number" "_law_number" mV f21 e21)
  (a22:PySem.W.nsIn K mainGlobals "_law_is_set"=some (some (.ref f22))) (F22:Fun K "_law_is_set" "_law_is_set" m5 f22 e22)
  (a23:PySem.W.nsIn K mainGlobals "_law_bent_signs"=some (some (.ref f23))) (F23:Fun K "_law_bent_signs" "_law_bent_signs" nc f23 e23)
  (a24:PySem.W.nsIn K mainGlobals "_law_bent_rows"=some (some (.ref f24))) (F24:Fun K "_law_bent_rows" "_law_bent_rows" ng f24 e24)
  (a25:PySem.W.nsIn K mainGlobals "_law_alone"=some (some (.ref f25))) (F25:Fun K "_law_alone" "_law_alone" jt f25 e25)
  (a26:PySem.W.nsIn K mainGlobals "_law_reader"=some (some (.ref f26))) (F26:Fun K "_law_reader" "_law_reader" qD f26 e26)
  (a27:PySem.W.nsIn K mainGlobals "_law_asked"=some (some (.ref f27))) (F27:Fun K "_law_asked" "_law_asked" ju f27 e27)
  (a28:PySem.W.nsIn K mainGlobals "_law_good"=some (some (.ref f28))) (F28:Fun K "_law_good" "_law_good" nt f28 e28)
  (a29:PySem.W.nsIn K mainGlobals "law"=some (some (.ref f29))) (F29:Fun K "law" "law" lp f29 e29)
  (z0:PySem.W.nsIn K mainGlobals "len"=some none)
  (z1:PySem.W.nsIn K mainGlobals "range"=some none)
  (z2:PySem.W.nsIn K mainGlobals "tuple"=some none)
  (z3:PySem.W.nsIn K mainGlobals "list"=some none)
  (z4:PySem.W.nsIn K mainGlobals "sorted"=some none)
  (z5:PySem.W.nsIn K mainGlobals "sum"=some none)
  (z6:PySem.W.nsIn K mainGlobals "isinstance"=some none)
  (z7:PySem.W.nsIn K mainGlobals "int"=some none)
  (z8:PySem.W.nsIn K mainGlobals "bool"=some none)
  (z9:PySem.W.nsIn K mainGlobals "str"=some none)
  (z10:PySem.W.nsIn K mainGlobals "abs"=some none)
  (z11:PySem.W.nsIn K mainGlobals "all"=some none)
  (z12:PySem.W.nsIn K mainGlobals "min"=some none)
  (yCD:PySem.W.nsIn K mainGlobals "DuelError"=some (some (.ref CD)))
  (yCF:PySem.W.nsIn K mainGlobals "NoText"=some (some (.ref CF)))
  (yC1:PySem.W.nsIn K mainGlobals "NoVariable"=some (some (.ref C1)))
  (yC2:PySem.W.nsIn K mainGlobals "NoFilling"=some (some (.ref C2)))
  (yC3:PySem.W.nsIn K mainGlobals "BadLine"=some (some (.ref C3)))
  (yC4:PySem.W.nsIn K mainGlobals "NotWhole"=some (some (.ref C4)))
  (yC5:PySem.W.nsIn K mainGlobals "NoHand"=some (some (.ref C5)))
  (yC6:PySem.W.nsIn K mainGlobals "BadStep"=some (some (.ref C6)))
  (yC8:PySem.W.nsIn K mainGlobals "TooMany"=some (some (.ref C8)))
  (yC9:PySem.W.nsIn K mainGlobals "NoForm"=some (some (.ref C9)))
  (zV:PySem.W.nsIn K mainGlobals "ValueError"=some none)
  (zAny:PySem.W.nsIn K mainGlobals "any"=some none)
  (zF:PySem.W.nsIn K mainGlobals "FIGURES"=some (some (.str (Str.ofString "0123456789") tF)))
  (zM:PySem.W.nsIn K mainGlobals "MOST_FIGURES"=some (some (.int 9 tM)))
  (zN:PySem.W.nsIn K mainGlobals "NO_TURNS"=some (some (.str (Str.ofString "-") tN)))
  (xCF:PySem.W.excIn K CF [.type "ValueError",.type "Exception",.type "BaseException",.type "object"] "ValueError.__new__"=true)
  (kV:PySem.W.kitOne K (.ref CF) (.type "ValueError")=some true)
  (kD:PySem.W.kitOne K (.ref CF) (.ref CD)=some true)
  (k_C1:PySem.W.kitOne K (.ref CF) (.ref C1)=some false)
  (k_C2:PySem.W.kitOne K (.ref CF) (.ref C2)=some false)
  (k_C3:PySem.W.kitOne K (.ref CF) (.ref C3)=some false)
  (k_C4:PySem.W.kitOne K (.ref CF) (.ref C4)=some false)
  (k_C5:PySem.W.kitOne K (.ref CF) (.ref C5)=some false)
  (k_C6:PySem.W.kitOne K (.ref CF) (.ref C6)=some false)
  (k_C8:PySem.W.kitOne K (.ref CF) (.ref C8)=some false)
  (k_C9:PySem.W.kitOne K (.ref CF) (.ref C9)=some false)
  (w1:PySem.W.clsIn K CF=some cdF)
  (w2:PySem.W.findIn K (.ref CF) "__getattribute__"=some (some (.builtin "BaseException.__getattribute__")))
  (w3:PySem.W.findIn K (.ref CF) "__getattr__"=some none)
  (w4:PySem.W.findIn K (.ref CF) "__class__"=some (some (.builtin "object.__class__")))
  (w5:PySem.W.mroIn K CF (.type "object")=some true)
  (w6:PySem.W.mroIn K CF (.type "BaseException")=some true)
  :∃ fd:FuncData,(∀ (s:Shared) (v:Value),BindsTo s fd ⟨[v],[]⟩ [("_law_script",v)])/\∀ base:Heap,K.In base->base.Ns mainGlobals mg->aU l.prog w K mg base cX 6 fa fd ["_law_script"] (kf K):=by
 have e:=hfa.symm.trans (PySem.W.mg_of X G a29)
 cases e
 have TG:qv mg:=⟨PySem.W.mg_none_of X G z0,PySem.W.mg_none_of X G z1,PySem.W.mg_none_of X G z2,PySem.W.mg_none_of X G z3,PySem.W.mg_none_of X G z4,PySem.W.mg_none_of X G z5⟩
 have TS:o4 mg:=⟨PySem.W.mg_none_of X G z6,PySem.W.mg_none_of X G z7,PySem.W.mg_none_of X G z8,PySem.W.mg_none_of X G z2,PySem.W.mg_none_of X G z3,PySem.W.mg_none_of X G z9,PySem.W.mg_none_of X G z10,PySem.W.mg_none_of X G z0,PySem.W.mg_none_of X G z11⟩
 have TL:rY mg:=⟨PySem.W.mg_none_of X G z7,PySem.W.mg_none_of X G z0,PySem.W.mg_none_of X G z2,PySem.W.mg_none_of X G z10⟩
 have TX:sN mg:=⟨PySem.W.mg_none_of X G z7,PySem.W.mg_none_of X G z9⟩
 have TZ:sO mg:=⟨PySem.W.mg_none_of X G z0,PySem.W.mg_none_of X G z12,PySem.W.mg_none_of X G z3⟩
 have TN:bX mg "NO_TURNS" (.str (Str.ofString "-")):=⟨_,PySem.W.mg_of X G zN,⟨_,rfl⟩⟩
 have TY:s_ mg:=⟨TN⟩
 have TT:rX K mg CF:=⟨PySem.W.mg_none_of X G zAny,TS.int,TS.len,TS.tuple,TS.str,⟨_,PySem.W.mg_of X G zF,⟨_,rfl⟩⟩,⟨_,PySem.W.mg_of X G zM,⟨_,rfl⟩⟩,PySem.W.mg_of X G yCF,xCF⟩
 have TV:sZ K mg CF:=⟨TN,PySem.W.mg_of X G yCF,xCF⟩
 have TQ:tj K mg CF:=⟨PySem.W.mg_of X G yCF,xCF⟩
 have TA:tf K mg CF CD C1 C2 C3 C4 C5 C6 C8 C9:=⟨TS.len,TS.isinstance,PySem.W.mg_none_of X G zV,⟨_,PySem.W.mg_of X G yCD,rfl⟩,⟨_,PySem.W.mg_of X G yC1,rfl⟩,⟨_,PySem.W.mg_of X G yC2,rfl⟩,⟨_,PySem.W.mg_of X G yC3,rfl⟩,⟨_,PySem.W.mg_of X G yC4,rfl⟩,⟨_,PySem.W.mg_of X G yC5,rfl⟩,⟨_,PySem.W.mg_of X G yC6,rfl⟩,⟨_,PySem.W.mg_of X G yC9,rfl⟩,⟨_,PySem.W.mg_of X G yC8,rfl⟩,⟨_,PySem.W.mg_of X G yCF,rfl⟩,⟨⟨_,w1⟩,w2,w3,w4,w5,w6⟩,kV,kD,k_C1,k_C2,k_C3,k_C4,k_C5,k_C6,k_C8,k_C9⟩
 obtain⟨_,_,kV,dc,pm,an,cd,ct,_,rfl,_,_⟩:=F29.ex
 refine⟨PySem.W.fnOf "law" "law" (cg lp) (bO lp) (al lp) .none kV dc pm an cd ct,fun s v=>.of_eq rfl,fun base _ _=>?_⟩
 have G1:=fF l.prog w base X G a1 F1 F1.b1 (qz F1 TS)
 have G2:=fF l.prog w base X G a2 F2 F2.b2 (qA F2 TS G1)
 have G3:=fF l.prog w base X G a3 F3 F3.b1 (mT F3 TS)
 have G4:=fF l.prog w base X G a4 F4 F4.b1 (lh F4 TS G2 G3)
 have G5:=fF l.prog w base X G a5 F5 F5.b1 (m_ F5 TX)
 have G6:=fF l.prog w base X G a6 F6 F6.b1 (nb F6 TY G5)
 have G7:=mv l.prog w base X G a7 F7 F7.b1 (oI F7 TT)
 have G8:=mv l.prog w base X G a8 F8 F8.b1 (mZ F8 G7)
 have G9:=mv l.prog w base X G a9 F9 F9.b1 (qC F9 TT G8)
 have G10:=mv l.prog w base X G a10 F10 F10.b1 (li F10 TV)
 have G11:=mv l.prog w base X G a11 F11 F11.b1 (m3 F11 TT G10 G9 G4)
 have G12:=fF l.prog w base X G a12 F12 F12.b2 (oB F12 TG)
 have G13:=fF l.prog w base X G a13 F13 F13.b1 (mS F13 TS)
 have G14:=fF l.prog w base X G a14 F14 F14.b2 (mI F14)
 have G15:=fF l.prog w base X G a15 F15 F15.b2 (mJ F15 TG G12 G14)
 have G16:=fF l.prog w base X G a16 F16 F16.b2 (oD F16 TG)
 have G17:=fF l.prog w base X G a17 F17 F17.b3 (mL F17 TG G14)
 have G18:=fF l.prog w base X G a18 F18 F18.b2 (oE F18 TG G12 G14 G15 G16 G17)
 have G19:=fF l.prog w base X G a19 F19 F19.b1 (oF F19 TG)
 have G20:=fF l.prog w base X G a20 F20 F20.b1 (ln F20 TX)
 have G21:=fF l.prog w base X G a21 F21 F21.b1 (oJ F21 TL)
 have G22:=fF l.prog w base X G a22 F22 F22.b2 (oK F22 TL)
 have G23:=fF l.prog w base X G a23 F23 F23.b3 (oM F23 TZ)
 have G24:=fF l.prog w base X G a24 F24 F24.b3 (oN F24 TZ)
 have G25:=fF l.prog w base X G a25 F25 F25.b1 (nn F25 TA)
 have G26:=fF l.prog w base X G a26 F26 F26.b1 (qF F26 TL G21 G22)
 have G27:=fF l.prog w base X G a27 F27 F27.b1 (nw F27 TQ G11)
 have G28:=fF l.prog w base X G a28 F28 F28.b2 (oO F28 TS G13)
 exact qI F29 TS G18 G12 G14 G19 G20 G6 G24 G23 G26 G27 G25 G28
theorem walk {l:PySem.W.OpenLaw}{q:Program}{loose:List Str}{XP:(Str->Option Value)->Heap->Prop}{YP:World->Heap->Prop}{d:DefRec}{K:Params->PySem.W.Frag}(hn:l.most=some 63)(hdf:d.params.defaults=[])
  (hY:∀ (w:World) (h:Heap),YP w h->(K w.params).In h)
  (F:∀ (w:World) (mg:Str->Option Value) (fa:Addr) (h:Heap),(K w.params).In h->h.Ns mainGlobals mg->mg d.name=some (.ref fa)->
   ∃ fd:FuncData,(∀ (s:Shared) (u:Value),BindsTo s fd ⟨[u],[]⟩ [("_law_script",u)])/\∀ base:Heap,(K w.params).In base->base.Ns mainGlobals mg->aU l.prog w (K w.params) mg base cX 6 fa fd ["_law_script"] (kf (K w.params))):
  PySem.W.WalkO q loose XP YP l.row.toRowW d [] (fun f vs=>PySem.call f vs):=
 L2.walk_of (n:=63) (k:=6) (x:="_law_script") (CX:=fun _=>cX) (sp:=fun w=>kf (K w.params)) hn (by decide) hdf ⟨rfl,by decide,by decide⟩ hY F (fun _ _ a ns hl _ hS=>⟨a,ns,rfl,hS,hl,fun _=>rfl⟩) fun _ _ _ _ _ z=>z
end K85
open PySem PySem.W PySem.Calls PyProof.Rows
set_option maxRecDepth 100000
set_option maxHeartbeats 0
noncomputable def K85.vQ:Program:=view PySem.Challenge.pw_oathduel_k85_sentences_written_down [1,2,3,4,5,6,7,8,9,10,12,14,15,16,18,19,20,21,22,23,24,25,26,27,29,30,31,32,33,34,35,36,37,38,39,40,41,42,43,44,45,46]
theorem K85.said:OpenLaw.wellSaid PySem.Challenge.rw_oathduel_k85_sentences_written_down=true:=(congrFun Fast.te9446332074065402090 PySem.Challenge.rw_oathduel_k85_sentences_written_down).trans (by kernel_rfl)
theorem K85.seen (w:World)(os:OsState):HD.lookAt PySem.Challenge.pw_oathduel_k85_sentences_written_down 11 (some (.ref 6)) 3101 w os (HD.seenAt PySem.Challenge.pw_oathduel_k85_sentences_written_down K85.vQ [] (fun s=>xlAt K85.vQ [] s&&recOk [] s) true w)=some (true,openGood K85.vQ []):=by kernel_rfl
local macro_rules|`(tactic|o_head $H)=>`(tactic|refine HD.head (q:=K85.vQ) (loose:=[]) (lv:=[]) $H (N:=6202) (HD.left (by kernel_rfl) (fun s=>by kernel_rfl) (by kernel_rfl) (by kernel_rfl) (fun w=>by kernel_rfl) K85.seen (fun w os=>by kernel_rfl)) (by rfl) (by rfl) (by rfl) (by rfl) (by assumption) (by decide+kernel) ⟨rfl,rfl,rfl,rfl,rfl,by decide+kernel⟩ ?hw ?hc)
theorem PySem.Challenge.cw_oathduel_k85_sentences_written_down_holds : PySem.Challenge.rw_oathduel_k85_sentences_written_down.Holds := by
 w_on
 refine holds_law K85.said fun said=>?_
 k_head
 (case hw=>w_witness2)
 k_fill
 refine K85.walk (l:=PySem.Challenge.rw_oathduel_k85_sentences_written_down) rfl rfl (fun w h Y=>PySem.W.kIn_of Y) ?F
 case F=>
  intro w mg fa h KX G hmg
  refine' K85.all_mk KX G hmg ?a1 ?F1 ?a2 ?F2 ?a3 ?F3 ?a4 ?F4 ?a5 ?F5 ?a6 ?F6 ?a7 ?F7 ?a8 ?F8 ?a9 ?F9 ?a10 ?F10 ?a11 ?F11 ?a12 ?F12 ?a13 ?F13 ?a14 ?F14 ?a15 ?F15 ?a16 ?F16 ?a17 ?F17 ?a18 ?F18 ?a19 ?F19 ?a20 ?F20 ?a21 ?F21 ?a22 ?F22 ?a23 ?F23 ?a24 ?F24 ?a25 ?F25 ?a26 ?F26 ?a27 ?F27 ?a28 ?F28 ?a29 ?F29 ?z0 ?z1 ?z2 ?z3 ?z4 ?z5 ?z6 ?z7 ?z8 ?z9 ?z10 ?z11 ?z12 ?yCD ?yCF ?yC1 ?yC2 ?yC3 ?yC4 ?yC5 ?yC6 ?yC8 ?yC9 ?zV ?zAny ?zF ?zM ?zN ?xCF ?kV ?kD ?k_C1 ?k_C2 ?k_C3 ?k_C4 ?k_C5 ?k_C6 ?k_C8 ?k_C9 ?w1 ?w2 ?w3 ?w4 ?w5 ?w6
  (case yCD|yCF|yC1|yC2|yC3|yC4|yC5|yC6|yC8|yC9|zV|zAny|zF|zM|zN|a1|a2|a3|a4|a5|a6|a7|a8|a9|a10|a11|a12|a13|a14|a15|a16|a17|a18|a19|a20|a21|a22|a23|a24|a25|a26|a27|a28|a29|z0|z1|z2|z3|z4|z5|z6|z7|z8|z9|z10|z11|z12=>k_is)
  (case F1|F2|F3|F4|F5|F6|F7|F8|F9|F10|F11|F12|F13|F14|F15|F16|F17|F18|F19|F20|F21|F22|F23|F24|F25|F26|F27|F28|F29=>refine' L2.fun_mk ?l ?c ?k;(case l=>k_is);(case c=>k_is);(case k=>k_is))
  (case xCF=>k_exc)
  (case kV=>kit_is)
  (case kD=>kit_is)
  (case k_C1=>kit_is)
  (case k_C2=>kit_is)
  (case k_C3=>kit_is)
  (case k_C4=>kit_is)
  (case k_C5=>kit_is)
  (case k_C6=>kit_is)
  (case k_C8=>kit_is)
  (case k_C9=>kit_is)
  (case w1=>k_is)
  (case w2=>k_is)
  (case w3=>k_is)
  (case w4=>k_is)
  (case w5=>k_is)
  (case w6=>k_is)
