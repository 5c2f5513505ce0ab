import PyProof.Rows.All
import Wide.All
import OpenK.AllK
import Wide.FinOn
import Lean
import PyProof.EqAt
import PyProof.EqKinds
import PyProof.TupleCall
import PySem.Challenge.RW_oathduel_k63_next_and_all
set_option Elab.async false
set_option linter.all false
set_option maxRecDepth 100000
namespace L2
open PySem PySem.Spec PyProof.Rows
abbrev bo:=Sum Int Str
def gL:bo->Value->Bool
 |.inl k,v=>Value.isInt k v
 |.inr x,v=>Value.isStrOf x v
def va (w:World):bo->Int
 |.inl k=>hashInt k
 |.inr x=>hashStr w x
theorem be:∀ {k:bo} {v:Value},gL k v=true->(∃ i t,k=Sum.inl i/\v=Value.int i t)\/(∃ x t,k=Sum.inr x/\v=Value.str x t)
 |.inl i,v,h=>by
  obtain⟨t,e⟩:=Value.isInt_shape (k:=i) (v:=v) h
  exact .inl ⟨i,t,rfl,e⟩
 |.inr x,v,h=>by
  obtain⟨t,e⟩:=Value.isStrOf_shape (x:=x) (v:=v) h
  exact .inr ⟨x,t,rfl,e⟩
theorem mn (i:Int)(t:Tok):gL (.inl i) (.int i t)=true:=by simp [gL,Value.isInt]
theorem mo (x:Str)(t:Tok):gL (.inr x) (.str x t)=true:=by simp [gL,Value.isStrOf]
theorem rX (a b:Int):decide ((Sum.inl a:bo)=Sum.inl b)=(a == b):=by
 by_cases e:a=b
 ·subst e;simp
 ·have h:¬ (Sum.inl a:bo)=Sum.inl b:=fun q=>e (Sum.inl.inj q)
  rw[decide_eq_false h]
  exact (beq_eq_false_iff_ne.mpr e).symm
theorem rY (a b:Str):decide ((Sum.inr a:bo)=Sum.inr b)=decide (a=b):=by
 by_cases e:a=b
 ·subst e;simp
 ·have h:¬ (Sum.inr a:bo)=Sum.inr b:=fun q=>e (Sum.inr.inj q)
  rw[decide_eq_false h,decide_eq_false e]
theorem rZ (a:Int)(b:Str):decide ((Sum.inl a:bo)=Sum.inr b)=false:=decide_eq_false (fun q=>nomatch q)
theorem r9 (a:Str)(b:Int):decide ((Sum.inr a:bo)=Sum.inl b)=false:=decide_eq_false (fun q=>nomatch q)
def aO (prog:Program)(w:World):PySem.KeyKind prog w bo where
 is:=gL
 hash:=va w
 inj:=fun v a b ha hb=>by
  rcases be ha with⟨i,t,rfl,rfl⟩|⟨x,t,rfl,rfl⟩
  ·rcases be hb with⟨j,u,rfl,e⟩|⟨y,u,rfl,e⟩
   ·injection e with e1 _;rw[e1]
   ·exact nomatch e
  ·rcases be hb with⟨j,u,rfl,e⟩|⟨y,u,rfl,e⟩
   ·exact nomatch e
   ·injection e with e1 _;rw[e1]
 byValue:=fun k v h=>by
  rcases be h with⟨i,t,rfl,rfl⟩|⟨x,t,rfl,rfl⟩<;>rfl
 pyHash:=fun hv h=>by
  rcases be hv with⟨i,t,rfl,rfl⟩|⟨x,t,rfl,rfl⟩
  ·exact wpAny_pyHash_int h
  ·exact wpAny_pyHash_str h
 eqBool:=fun hu hv h=>by
  rcases be hu with⟨i,t,rfl,rfl⟩|⟨x,t,rfl,rfl⟩
  ·rcases be hv with⟨j,u,rfl,rfl⟩|⟨y,u,rfl,rfl⟩
   ·rw[rX] at h;exact wpAny_eqBool_int h
   ·rw[rZ] at h;exact SeqAt.EqAt.int_str i t y u _ _ _ _ h
  ·rcases be hv with⟨j,u,rfl,rfl⟩|⟨y,u,rfl,rfl⟩
   ·rw[r9] at h;exact SeqAt.EqAt.str_int x t j u _ _ _ _ h
   ·rw[rY] at h;exact wpAny_eqBool_str h
 «strs»:=fun k x t v h=>by
  rcases be h with⟨i,u,rfl,e⟩|⟨y,u,rfl,e⟩
  ·exact nomatch e
  ·injection e with e1 _
   subst e1
   cases v<;>rfl
theorem iT (prog:Program)(w:World)(i:Int)(t:Tok):(aO prog w).is (.inl i) (.int i t)=true:=mn i t
theorem iU (prog:Program)(w:World)(x:Str)(t:Tok):(aO prog w).is (.inr x) (.str x t)=true:=mo x t
end L2
namespace L2
open PySem PySem.Spec PyProof.Rows
inductive V where
 |non|bl (b:Bool)|int (i:Int)|str (x:Str)|byt (b:Array UInt8)|flt (b:UInt64)|ref (a:Addr)|ty (n:String)
 deriving DecidableEq
def RelV:V->Value->Prop
 |.non,u=>u=Value.none
 |.bl b,u=>u=Value.bool b
 |.int i,u=>∃ t,u=Value.int i t
 |.str x,u=>∃ t,u=Value.str x t
 |.byt b,u=>∃ t,u=Value.bytes b t
 |.flt b,u=>∃ t,u=Value.float b t
 |.ref a,u=>u=Value.ref a
 |.ty n,u=>u=Value.type n
abbrev Vals:List V->List Value->Prop:=Paired RelV
theorem Vals.length {xs:List V}{us:List Value}(r:Vals xs us):xs.length=us.length:=Paired.length r
theorem Vals.get:∀ {xs:List V} {us:List Value} {i:Nat} {x:V},Vals xs us->xs[i]? =some x->∃ u,us[i]? =some u/\RelV x u
 |_,_,_,_,.nil,e=>by simp at e
 |_,_,0,_,.cons r _,e=>by simp at e;subst e;exact⟨_,rfl,r⟩
 |_,_,i+1,x,.cons _ t,e=>by
  obtain⟨u,h1,h2⟩:=Vals.get (i:=i) (x:=x) t (by simpa using e)
  exact⟨u,by simpa using h1,h2⟩
theorem Vals.append:∀ {xs ys:List V} {us ws:List Value},Vals xs us->Vals ys ws->Vals (xs++ys) (us++ws)
 |_,_,_,_,.nil,s=>s
 |_,_,_,_,.cons r t,s=>.cons r (Vals.append t s)
theorem Vals.take:∀ {xs:List V} {us:List Value} (n:Nat),Vals xs us->Vals (xs.take n) (us.take n)
 |_,_,0,_=>.nil
 |_,_,_+1,.nil=>.nil
 |_,_,n+1,.cons r t=>.cons r (Vals.take n t)
theorem Vals.drop:∀ {xs:List V} {us:List Value} (n:Nat),Vals xs us->Vals (xs.drop n) (us.drop n)
 |_,_,0,r=>r
 |_,_,_+1,.nil=>.nil
 |_,_,n+1,.cons _ t=>Vals.drop n t
theorem Vals.none_of:∀ {xs:List V} {us:List Value} {i:Nat},Vals xs us->xs[i]? =none->us[i]? =none:=fun {xs us i} r e=>by
 have h1:=r.length
 have h2:xs.length<=i:=List.getElem?_eq_none_iff.mp e
 exact List.getElem?_eq_none_iff.mpr (by omega)
def RelO:Option V->Option Value->Prop
 |some v,some u=>RelV v u
 |none,none=>True
 |_,_=>False
def KV {κ:Type}:List (κ×V)->List (κ×Value)->Prop:=Paired fun (p:κ×V) (q:κ×Value)=>p.1=q.1/\RelV p.2 q.2
def kV:bo->V
 |.inl i=>.int i
 |.inr x=>.str x
inductive HO where
 |lst (xs:List V)
 |tup (xs:List V)
 |dK (kvs:List (bo×V))|dT (kvs:List (List bo×V))
 |set (S:Int->Bool) (n:Nat)
 |ins (C dx:Addr) (fs:List (Str×V))
 |own (x:Addr)
 |xd (fs:List (Str×V))
 |met (f x:Addr)
 |rng (lo hi:Int)
 |frz (o:Obj) (u:HO)
 |tbl (ps:Array Value)
 |ext (φ:Heap->Prop)
abbrev Hp:=Addr->Option HO
def upd (H:Hp)(a:Addr)(o:HO):Hp:=fun b=>if b=a then some o else H b
theorem ac {H:Hp}{a:Addr}{o:HO}:upd H a o a=some o:=by unfold upd;rw[if_pos rfl]
theorem ap {H:Hp}{a b:Addr}{o:HO}(h:b≠a):upd H a o b=H b:=by unfold upd;rw[if_neg h]
theorem fS {H:Hp}{a:Addr}{o u:HO}:upd (upd H a o) a u=upd H a u:=by
 funext b;unfold upd;split<;>rfl
theorem ni {H:Hp}{a b:Addr}{o u:HO}(h:H a=some o)(h':H b=some u)(d:o≠u):a≠b:=by
 intro e;subst e;rw[h] at h';exact d (Option.some.inj h')
theorem aq {H:Hp}{a b:Addr}{o:HO}(h:H a=some o)(h':H b=none):a≠b:=by
 intro e;subst e;rw[h] at h';cases h'
section
variable (P:Program)(w:World)
def ObjOk (H:Hp)(h:Heap)(a:Addr):HO->Prop
 |.lst xs=>xs.length<=sizeLine/\∃ (its:List Value) (n:Nat),Vals xs its/\h.get? a=some {cls:=.type "list",data:=.seq its.toArray n}
 |.tup xs=>xs.length<=sizeLine/\∃ its:List Value,Vals xs its/\IsTup h a its.toArray
 |.dK kvs=>kvs.length<=sizeLine/\(a == sysModules)=false/\∃ vs,KV kvs vs/\h.DictOf (aO P w) a vs
 |.dT kvs=>kvs.length<=sizeLine/\(a == sysModules)=false/\∃ xs:List (List bo×Addr×Value),
   Paired (fun (p:List bo×V) (q:List bo×Addr×Value)=>p.1=q.1/\H q.2.1=some (.tup (p.1.map kV))/\RelV p.2 q.2.2) kvs xs/\
   ∃ o es ep,h.get? a=some o/\o.ExactDict/\o.data=.dict es ep/\es.toList=xs.map (entryOfKey (tupleKind (aO P w)))/\(xs.map (·.1)).Nodup
 |.set S n=>h.SetOf (intKind P w) a S n
 |.ins C dx fs=>H dx=some (.own a)/\fs.length<=1000/\dx≠a/\h.get? a=some (PySem.W.instObj C dx)/\
   ∃ mA,h.Ns1 dx mA/\(∀ f,RelO (fs.lookup f) (mA f))/\PySem.Within mA (fs.map (·.1))
 |.own _=>∃ o,h.get? a=some o
 |.xd fs=>∃ mA,h.Ns1 a mA/\∀ f,RelO (fs.lookup f) (mA f)
 |.rng lo hi=>∃ t u v,h.get? a=some {cls:=.type "range",data:=.fields #[.int lo t,.int hi u,.int 1 v]}
 |.frz o u=>h.get? a=some o/\ObjOk H h a u
 |.tbl ps=>h.get? a=some {cls:=.none,data:=.fields ps}
 |.met f x=>h.get? a=some (PySem.W.methodObj (.ref f) (.ref x))
 |.ext φ=>φ h/\(∃ o,h.get? a=some o)/\∀ h1 h2:Heap,φ h1->(∀ o,h1.get? a=some o->h2.get? a=some o)->φ h2
def HOk (H:Hp)(h:Heap):Prop:=∀ a o,H a=some o->ObjOk P w H h a o
end
section
variable {P:Program}{w:World}{H H':Hp}{h h':Heap}{a:Addr}{o:HO}
theorem ObjOk.lt (x:ObjOk P w H h a o):a < h.objs.size:=by
 cases o with
 |lst xs=>obtain⟨_,_,_,_,e⟩:=x;exact Heap.lt_size e
 |tup xs=>obtain⟨_,_,_,p⟩:=x;exact p.lt
 |dK kvs=>obtain⟨_,_,_,_,o,_,_,e,_⟩:=x;exact Heap.lt_size e
 |dT kvs=>obtain⟨_,_,_,_,o,_,_,e,_⟩:=x;exact Heap.lt_size e
 |set S n=>obtain⟨o,_,_,_,e,_⟩:=x;exact Heap.lt_size e
 |ins C dx fs=>obtain⟨_,_,_,e,_⟩:=x;exact Heap.lt_size e
 |own y=>obtain⟨_,e⟩:=x;exact Heap.lt_size e
 |xd fs=>obtain⟨_,⟨_,_,_,e,_⟩,_⟩:=x;exact Heap.lt_size e
 |rng lo hi=>obtain⟨_,_,_,e⟩:=x;exact Heap.lt_size e
 |frz ob u=>obtain⟨e,_⟩:=x;exact Heap.lt_size e
 |tbl ps=>exact Heap.lt_size (show h.get? a=some _ from x)
 |met f y=>exact Heap.lt_size (show h.get? a=some _ from x)
 |ext φ=>obtain⟨_,⟨_,e⟩,_⟩:=x;exact Heap.lt_size e
theorem Paired.mapP {α β:Type}{F G:α->β->Prop}:∀ {l₁:List α} {l₂:List β},Paired F l₁ l₂->(∀ a b,F a b->G a b)->Paired G l₁ l₂
 |_,_,.nil,_=>.nil
 |_,_,.cons r t,f=>.cons (f _ _ r) (Paired.mapP t f)
theorem ObjOk.stay (x:ObjOk P w H h a o)(k:∀ b u,(b=a\/H b=some (.own a))->h.get? b=some u->h'.get? b=some u)
  (ho:∀ b,H b=some (.own a)->H' b=some (.own a)) (ht:∀ b xs,H b=some (.tup xs)->H' b=some (.tup xs)):ObjOk P w H' h' a o:=by
 induction o with
 |lst xs=>obtain⟨z,its,n,r,e⟩:=x;exact⟨z,its,n,r,k _ _ (.inl rfl) e⟩
 |tup xs=>obtain⟨z,its,r,ob,e,c⟩:=x;exact⟨z,its,r,ob,k _ _ (.inl rfl) e,c⟩
 |dK kvs=>obtain⟨z,y,vs,r,ob,es,ep,e,c⟩:=x;exact⟨z,y,vs,r,ob,es,ep,k _ _ (.inl rfl) e,c⟩
 |dT kvs=>
  obtain⟨z,y,xs,r,ob,es,ep,e,c⟩:=x
  exact⟨z,y,xs,Paired.mapP r fun p q z=>⟨z.1,ht _ _ z.2.1,z.2.2⟩,ob,es,ep,k _ _ (.inl rfl) e,c⟩
 |set S n=>obtain⟨ob,es,ep,t,e,c⟩:=x;exact⟨ob,es,ep,t,k _ _ (.inl rfl) e,c⟩
 |ins C dx fs=>
  obtain⟨d,z,ne,e,mA,⟨od,es,ep,e2,c⟩,r⟩:=x
  exact⟨ho _ d,z,ne,k _ _ (.inl rfl) e,mA,⟨od,es,ep,k _ _ (.inr d) e2,c⟩,r⟩
 |own y=>obtain⟨ob,e⟩:=x;exact⟨ob,k _ _ (.inl rfl) e⟩
 |xd fs=>obtain⟨mA,⟨od,es,ep,e,c⟩,r⟩:=x;exact⟨mA,⟨od,es,ep,k _ _ (.inl rfl) e,c⟩,r⟩
 |rng lo hi=>obtain⟨t,u,v,e⟩:=x;exact⟨t,u,v,k _ _ (.inl rfl) e⟩
 |frz ob u ih=>obtain⟨e,q⟩:=x;exact⟨k _ _ (.inl rfl) e,ih q⟩
 |tbl ps=>
  have e:h.get? a=some {cls:=.none,data:=.fields ps}:=x
  show h'.get? a=some {cls:=.none,data:=.fields ps}
  exact k a _ (.inl rfl) e
 |met f y=>
  have e:h.get? a=some (PySem.W.methodObj (.ref f) (.ref y)):=x
  show h'.get? a=some (PySem.W.methodObj (.ref f) (.ref y))
  exact k a _ (.inl rfl) e
 |ext φ=>obtain⟨p,⟨o,e⟩,st⟩:=x;exact⟨st _ _ p fun o q=>k _ _ (.inl rfl) q,⟨o,k _ _ (.inl rfl) e⟩,st⟩
theorem HOk.lt (x:HOk P w H h)(e:H a=some o):a < h.objs.size:=(x a o e).lt
theorem HOk.fresh (x:HOk P w H h)(e:h.objs.size<=a):H a=none:=by
 cases q:H a with
 |none=>rfl
 |some u=>exact absurd (Nat.lt_of_lt_of_le (x.lt q) e) (Nat.lt_irrefl _)
theorem HOk.kept (x:HOk P w H h)(k:∀ b u,h.get? b=some u->h'.get? b=some u):HOk P w H h':=fun a o e=>
 (x a o e).stay (fun b u _ q=>k b u q) (fun _ q=>q) fun _ _ q=>q
theorem HOk.laid (x:HOk P w H h)(k:∀ b u,h.get? b=some u->h'.get? b=some u)(hp:h.objs.size<=a)(new:ObjOk P w (upd H a o) h' a o):HOk P w (upd H a o) h':=fun b u e=>by
 have hn:=x.fresh hp
 by_cases hb:b=a
 ·subst hb;rw[ac] at e;cases e;exact new
 ·rw[ap hb] at e
  exact (x b u e).stay (fun c v _ q=>k c v q) (fun c q=>by rw[ap (aq q hn)];exact q) fun c xs q=>by rw[ap (aq q hn)];exact q
end
def Rd (H:Hp)(a:Addr)(u:HO):Prop:=H a=some u\/∃ o,H a=some (.frz o u)
theorem Rd.ok {P:Program}{w:World}{H:Hp}{h:Heap}{a:Addr}{u:HO}(r:Rd H a u)(x:HOk P w H h):ObjOk P w H h a u:=by
 rcases r with r|⟨o,r⟩
 ·exact x a u r
 ·obtain⟨_,q⟩:=x a _ r
  exact q
def tP:Option HO->Prop
 |some (.lst _)=>True
 |some (.dK _)=>True
 |some (.dT _)=>True
 |some (.set _ _)=>True
 |some (.ins _ _ _)=>True
 |some (.ext _)=>True
 |_=>False
section
variable {P:Program}{w:World}{H:Hp}{h h':Heap}{x e:Addr}{o':HO}
theorem HOk.write (ok:HOk P w H h)(mu:tP (H x))(he:e=x\/H e=some (.own x))(k:∀ b u,b≠e->h.get? b=some u->h'.get? b=some u)(heo:∃ u,h'.get? e=some u)
  (new:ObjOk P w (upd H x o') h' x o'):HOk P w (upd H x o') h':=fun b u q=>by
 have nown:∀ c y,H c=some (.own y)->c≠x:=fun c y r z=>by subst z;rw[r] at mu;exact mu
 have ntup:∀ c xs,H c=some (.tup xs)->c≠x:=fun c xs r z=>by subst z;rw[r] at mu;exact mu
 by_cases hb:b=x
 ·subst hb;rw[ac] at q;cases q;exact new
 ·rw[ap hb] at q
  by_cases hbe:b=e
  ·have q':H b=some (.own x):=by
    rcases he with z|z
    ·exact absurd (hbe.trans z) hb
    ·rw[hbe];exact z
   rw[q] at q';cases q'
   obtain⟨v,hv⟩:=heo
   exact⟨v,by rw[hbe];exact hv⟩
  ·refine (ok b u q).stay (fun c v hc r=>k c v ?_ r) (fun c r=>by rw[ap (nown c b r)];exact r) fun c xs r=>by rw[ap (ntup c xs r)];exact r
   rcases hc with rfl|hc
   ·exact hbe
   ·rintro rfl
    rcases he with z|z
    ·exact nown c b hc z
    ·rw[hc] at z;cases z;exact hb rfl
end
structure Un (fs ex:List Addr)(H H':Hp)(h h':Heap):Prop where
 keep:∀ b o,h.get? b=some o->H b=none->b∉fs->b∉ex->h'.get? b=some o
 slot:∀ b o,h.get? b=some o->H b=none->b∈fs->b∉ex->∃ sl,h'.get? b=some {o with slots:=sl}
 free:∀ b o,h.get? b=some o->H b=none->b∉ex->H' b=none
 there:∀ b o,h.get? b=some o->b∉ex->∃ o',h'.get? b=some o'
 tups:∀ b xs,H b=some (.tup xs)->H' b=some (.tup xs)
 frzs:∀ b o u,H b=some (.frz o u)->H' b=some (.frz o u)
 tbls:∀ b ps,H b=some (.tbl ps)->∃ more,H' b=some (.tbl (ps++more))
section
variable {fs fs' ex ex':List Addr}{H H1 H2:Hp}{h h1 h2 h':Heap}{a x e:Addr}{o:HO}
theorem Un.any (u:Un fs ex H H1 h h1){b:Addr}{ob:Obj}(q:h.get? b=some ob)(n:H b=none)(hx:b∉ex):∃ sl,h1.get? b=some {ob with slots:=sl}:=by
 by_cases hb:b∈fs
 ·exact u.slot b ob q n hb hx
 ·exact⟨ob.slots,u.keep b ob q n hb hx⟩
theorem Un.kept (k:∀ b u,h.get? b=some u->h'.get? b=some u):Un fs ex H H h h':=
 ⟨fun b ob q _ _ _=>k b ob q,fun b ob q _ _ _=>⟨ob.slots,k b ob q⟩,fun _ _ _ n _=>n,fun b ob q _=>⟨ob,k b ob q⟩,fun _ _ q=>q,fun _ _ _ q=>q,fun _ ps q=>⟨#[],by rw[q];simp⟩⟩
theorem Un.refl:Un fs ex H H h h:=Un.kept fun _ _ q=>q
theorem Un.laid (k:∀ b u,h.get? b=some u->h'.get? b=some u)(hp:h.objs.size<=a)(hn:H a=none):Un fs ex H (upd H a o) h h' where
 keep:=fun b u q _ _ _=>k b u q
 slot:=fun b u q _ _ _=>⟨u.slots,k b u q⟩
 free:=fun b u q n _=>by rw[ap (Nat.ne_of_lt (Nat.lt_of_lt_of_le (Heap.lt_size q) hp))];exact n
 there:=fun b u q _=>⟨u,k b u q⟩
 tups:=fun b xs q=>by rw[ap (aq q hn)];exact q
 frzs:=fun b u xs q=>by rw[ap (aq q hn)];exact q
 tbls:=fun b ps q=>⟨#[],by rw[ap (aq q hn),q];simp⟩
theorem Un.write (mu:tP (H x))(he:e=x\/H e=some (.own x))(k:∀ b u,b≠e->h.get? b=some u->h'.get? b=some u)(heo:∃ u,h'.get? e=some u):Un fs ex H (upd H x o) h h':=by
 have hx:∀ b,H b=none->b≠x:=fun b n z=>by subst z;rw[n] at mu;exact mu
 have hb:∀ b,H b=none->b≠e:=fun b n z=>by
  subst z
  rcases he with r|r
  ·exact hx b n r
  ·rw[n] at r;cases r
 have hm:∀ b u,H b=some u->¬ tP (some u)->b≠x:=fun b u q nm z=>by subst z;rw[q] at mu;exact nm mu
 refine⟨fun b u q n _ _=>k b u (hb b n) q,fun b u q n _ _=>⟨u.slots,k b u (hb b n) q⟩,fun b u q n _=>by rw[ap (hx b n)];exact n,fun b u q _=>?_,
  fun b xs q=>by rw[ap (hm b _ q fun z=>z)];exact q,fun b u xs q=>by rw[ap (hm b _ q fun z=>z)];exact q,fun b ps q=>⟨#[],by rw[ap (hm b _ q fun z=>z),q];simp⟩⟩
 by_cases hbe:b=e
 ·subst hbe;exact heo
 ·exact⟨u,k b u hbe q⟩
end
def u2 (h:Heap)(H:Hp):List Addr:=(List.range h.objs.size).filter fun a=>(H a).isSome
def ik (h:Heap)(H:Hp):Heap:=PySem.W.hideAll h (u2 h H)
theorem mq (h:Heap)(H:Hp):(ik h H).objs.size=h.objs.size:=PySem.W.hideAll_size _ _
theorem nj {h:Heap}{H:Hp}{b:Addr}{o:Obj}(e:h.get? b=some o)(n:H b=none):(ik h H).get? b=some o:=
 PySem.W.hideAll_get _ e fun hm=>by
  have q:(H b).isSome=true:=(List.mem_filter.mp hm).2
  rw[n] at q;simp at q
theorem pN {h:Heap}{H:Hp}{b:Addr}{o:Obj}(e:(ik h H).get? b=some o):h.get? b=some o/\H b=none:=by
 have e':h.get? b=some o:=PySem.W.of_hideAll (u2 h H) e
 refine⟨e',?_⟩
 cases q:H b with
 |none=>rfl
 |some x=>
  have hm:b∈u2 h H:=List.mem_filter.mpr ⟨List.mem_range.mpr (Heap.lt_size e'),by simp [q]⟩
  have z:(ik h H).get? b=none:=PySem.W.hideAll_none (u2 h H) hm
  rw[z] at e;cases e
end L2
namespace L2
open PySem PySem.Spec PyProof.Rows
structure Mod (K:PySem.W.Frag)(mg:Str->Option Value)(base:Heap):Prop where
 kin:K.In base
 glob:base.Ns mainGlobals mg
 blt:∃ mb,base.Ns builtinsNs mb/\∀ x:Str,x≠"__name__"->mb x=bootBuiltins x
 nolimit:base.NoLimit
structure Cx where
 prog:Program
 w:World
 K:PySem.W.Frag
 mg:Str->Option Value
 base:Heap
 A:Around
 N:List Str
 s₀:Shared
 H₀:Hp
 env:Env
 outer:List Env
 stack:List Env
 ex:List Addr
 fn:Str->Bool
 calm:Bool
 pn:List (Addr×Obj)
 xe:Value->Shared->Prop
def nk (l:List Env):List Addr:=l.filterMap (·.frame)
abbrev Cx.fs (X:Cx):List Addr:=nk X.outer
def vc (sc:Scope)(x:Str):Prop:=sc.names.lookup x=some .local\/sc.names.lookup x=some .cell\/sc.names.lookup x=some .free
def u3 (sc:Scope)(x:Str):Prop:=sc.names.lookup x=some .local\/sc.names.lookup x=some .cell
def vd (env:Env)(h:Heap)(m:Str->Option Value)(x:Str)(u:Value):Prop:=
 (env.kindOf x=some .local/\m x=some u)\/((env.kindOf x=some .cell\/env.kindOf x=some .free)/\∃ c,env.cells.lookup x=some c/\h.IsCell c (some u))
structure Cx.Ok (X:Cx):Prop where
 mod:Mod X.K X.mg X.base
 kind:X.env.scope.kind=.function
 glob:X.env.globals=mainGlobals
 blt:X.env.builtins=builtinsNs
 above:X.s₀.heap.objs.size<=X.env.locals
 inj:∀ x y c,X.env.cells.lookup x=some c->X.env.cells.lookup y=some c->x=y
 has:∀ x,(X.env.kindOf x=some .cell\/X.env.kindOf x=some .free)->∃ c,X.env.cells.lookup x=some c
 cab:∀ x c,X.fn x=true->X.env.cells.lookup x=some c->X.s₀.heap.objs.size<=c
 hd:X.calm=true->X.A.handled=none
 frames:X.A.frames=some X.stack
 stk:X.stack=X.outer\/(X.stack=X.env::X.outer/\X.env.frame=some X.env.locals)
 exf:∀ b∈X.ex,b≠X.env.locals/\∀ x c,X.env.cells.lookup x=some c->c≠b
 bs:∀ b o,X.base.get? b=some o->X.s₀.heap.get? b=some o/\X.H₀ b=none
 bsz:X.base.objs.size<=X.s₀.heap.objs.size
 noex:∀ b o,X.base.get? b=some o->b∉X.ex
 exfs:∀ b∈X.ex,b∉X.fs
 funs:X.s₀.heap.FunFrames X.base X.outer
 frf:∀ b∈X.fs,X.H₀ b=none
structure Inv (X:Cx)(pins:List (Addr×Obj))(σ:List (Option V))(H:Hp)(s:Shared):Prop where
 ok:X.Ok
 os:s.os=X.s₀.os
 bare:AllBare s.gens
 base:Un X.fs X.ex X.H₀ H X.s₀.heap s.heap
 loc:∃ m,s.heap.Ns X.env.locals m/\∀ (i:Nat) (x:Str) (v:V),X.N[i]? =some x->σ[i]? =some (some v)->vc X.env.scope x->∃ u,RelV v u/\vd X.env s.heap m x u
 cell:∀ x c,X.env.cells.lookup x=some c->∃ v,s.heap.IsCell c v
 free:H X.env.locals=none
 freeC:∀ x c,X.env.cells.lookup x=some c->H c=none
 pin:∀ p∈X.pn++pins,s.heap.get? p.1=some p.2/\H p.1=none/\p.1≠X.env.locals/\p.1∉X.fs/\∀ v,p.2.data≠.cell v
 hok:HOk X.prog X.w H s.heap
 len:σ.length=X.N.length
section
variable {X:Cx}{pins:List (Addr×Obj)}{σ:List (Option V)}{H H':Hp}{s:Shared}{h':Heap}
theorem Cx.Ok.nofr (ok:X.Ok){b:Addr}{o:Obj}(e:X.base.get? b=some o):b∉X.fs:=fun hb=>by
 have:=(ok.funs.mem hb).1
 rw[e] at this;cases this
theorem Inv.bs (I:Inv X pins σ H s):∀ b o,X.base.get? b=some o->s.heap.get? b=some o/\H b=none:=fun b o e=>
 ⟨I.base.keep b o (I.ok.bs b o e).1 (I.ok.bs b o e).2 (I.ok.nofr e) (I.ok.noex b o e),I.base.free b o (I.ok.bs b o e).1 (I.ok.bs b o e).2 (I.ok.noex b o e)⟩
theorem Inv.bk (I:Inv X pins σ H s):∀ b o,X.base.get? b=some o->s.heap.get? b=some o:=fun b o e=>(I.bs b o e).1
theorem Inv.mod (I:Inv X pins σ H s):Mod X.K X.mg X.base:=I.ok.mod
theorem Inv.kIn (I:Inv X pins σ H s):X.K.In s.heap:=I.ok.mod.kin.keeps I.bk
theorem Inv.lt (I:Inv X pins σ H s):X.env.locals < s.heap.objs.size:=let ⟨_,hn,_⟩:=I.loc;hn.lt
theorem Inv.sz (I:Inv X pins σ H s):X.s₀.heap.objs.size<=s.heap.objs.size:=Nat.le_trans I.ok.above (Nat.le_of_lt I.lt)
theorem Inv.nofs (I:Inv X pins σ H s){a:Addr}(h:s.heap.objs.size<=a):a∉X.fs:=fun hb=>by
 obtain⟨_,o,ho,_⟩:=I.ok.funs.mem hb
 exact absurd (Nat.lt_of_lt_of_le (Heap.lt_size ho) (Nat.le_trans I.sz h)) (Nat.lt_irrefl _)
theorem Inv.cne (I:Inv X pins σ H s):∀ x c,X.env.cells.lookup x=some c->c≠X.env.locals:=fun x c e z=>by
 obtain⟨v,o,ho,hd⟩:=I.cell x c e
 obtain⟨m,⟨o',es,ep,ho',hd',_⟩,_⟩:=I.loc
 rw[z,ho'] at ho;cases ho;rw[hd'] at hd;cases hd
theorem Inv.funs (I:Inv X pins σ H s):s.heap.FunFrames X.base X.outer:=by
 have all:∀ (l:List Env),(∀ b∈nk l,b∈X.fs)->X.s₀.heap.FunFrames X.base l->s.heap.FunFrames X.base l:=by
  intro l
  induction l with
  |nil=>intro _ _;trivial
  |cons env r ih=>
   intro hs hl
   obtain⟨hk,⟨L,o,hf,hn,ho,hd⟩,hr⟩:=hl
   have hL:L∈X.fs:=hs L (by unfold nk;rw[List.filterMap_cons,hf];exact List.mem_cons_self)
   obtain⟨sl,e⟩:=I.base.slot L o ho (I.ok.frf L hL) hL fun z=>I.ok.exfs L z hL
   exact⟨hk,⟨L,_,hf,hn,e,hd⟩,ih (fun b hb=>hs b (by unfold nk;rw[List.filterMap_cons,hf];exact List.mem_cons_of_mem _ hb)) hr⟩
 exact all X.outer (fun _ hb=>hb) I.ok.funs
theorem Inv.stack (I:Inv X pins σ H s):s.heap.FunFrames X.base X.stack:=by
 rcases I.ok.stk with e|⟨e,hf⟩
 ·rw[e];exact I.funs
 ·rw[e]
  obtain⟨m,hn,_⟩:=I.loc
  refine .cons (by rw[I.ok.kind];decide) hf hn ?_ I.funs
  exact Heap.get?_none_of_le (Nat.le_trans I.ok.bsz I.ok.above)
theorem Inv.stkSub (I:Inv X pins σ H s):∀ b∈nk X.stack,b∈X.env.locals::X.fs:=fun b hb=>by
 rcases I.ok.stk with e|⟨e,hf⟩
 ·rw[e] at hb;exact List.mem_cons_of_mem _ hb
 ·rw[e] at hb
  unfold nk at hb
  rw[List.filterMap_cons,hf] at hb
  exact hb
theorem Inv.stkFree (I:Inv X pins σ H s):∀ b∈nk X.stack,H b=none:=fun b hb=>by
 rcases List.mem_cons.mp (I.stkSub b hb) with e|hb
 ·rw[e];exact I.free
 ·obtain⟨_,o,ho,_⟩:=I.ok.funs.mem hb
  exact I.base.free b o ho (I.ok.frf b hb) fun z=>I.ok.exfs b z hb
theorem Inv.step {g':Array GenState}{t':Nat}{d':Drawn}{ch:List Addr}(I:Inv X pins σ H s)
  (hch:∀ b∈ch,(b∈X.ex\/X.s₀.heap.objs.size<=b)/\b≠X.env.locals/\(∀ x c,X.env.cells.lookup x=some c->c≠b)/\∀ p∈X.pn++pins,p.1≠b)
  (keep:∀ b o,b≠X.env.locals->b∉X.fs->b∉ch->s.heap.get? b=some o->H b=none->h'.get? b=some o)
  (slot:∀ b o,b≠X.env.locals->b∈X.fs->b∉ch->s.heap.get? b=some o->H b=none->∃ sl,h'.get? b=some {o with slots:=sl}) (free:∀ b o,b∉ch->s.heap.get? b=some o->H b=none->H' b=none)
  (there:∀ b o,b∉ch->s.heap.get? b=some o->∃ o',h'.get? b=some o')
  (tups:∀ b xs,H b=some (.tup xs)->H' b=some (.tup xs)) (frzs:∀ b o u,H b=some (.frz o u)->H' b=some (.frz o u)) (tbls:∀ b ps,H b=some (.tbl ps)->∃ more,H' b=some (.tbl (ps++more)))
  (ns:∀ m,s.heap.Ns X.env.locals m->h'.Ns X.env.locals m) (hok:HOk X.prog X.w H' h') (hg:AllBare g'):
  Inv X pins σ H' {s with heap:=h',gens:=g',drawn:=d',toks:=t'}:=by
 have neL:∀ b o,X.s₀.heap.get? b=some o->b≠X.env.locals:=fun b o e=>Nat.ne_of_lt (Nat.lt_of_lt_of_le (Heap.lt_size e) I.ok.above)
 have neC:∀ b o,X.s₀.heap.get? b=some o->b∉X.ex->b∉ch:=fun b o e hx hb=>by
  rcases (hch b hb).1 with z|z
  ·exact hx z
  ·exact absurd (Nat.lt_of_lt_of_le (Heap.lt_size e) z) (Nat.lt_irrefl _)
 have cellK:∀ x c,X.env.cells.lookup x=some c->∀ v,s.heap.IsCell c v->h'.IsCell c v:=fun x c e v ⟨o,ho,hd⟩=>by
  have nch:c∉ch:=fun z=>(hch c z).2.2.1 x c e rfl
  by_cases hc:c∈X.fs
  ·obtain⟨sl,q⟩:=slot c o (I.cne x c e) hc nch ho (I.freeC x c e)
   exact⟨_,q,hd⟩
  ·exact⟨o,keep c o (I.cne x c e) hc nch ho (I.freeC x c e),hd⟩
 refine⟨I.ok,I.os,hg,⟨fun b o e n hb hx=>?_,fun b o e n hb hx=>?_,fun b o e n hx=>?_,fun b o e hx=>?_,fun b xs e=>tups b xs (I.base.tups b xs e),fun b o xs e=>frzs b o xs (I.base.frzs b o xs e),fun b ps e=>?_⟩,?_,fun x c e=>?_,?_,fun x c e=>?_,fun p hp=>?_,hok,I.len⟩
 ·exact keep b o (neL b o e) hb (neC b o e hx) (I.base.keep b o e n hb hx) (I.base.free b o e n hx)
 ·obtain⟨sl,e1⟩:=I.base.slot b o e n hb hx
  obtain⟨sl',e2⟩:=slot b _ (neL b o e) hb (neC b o e hx) e1 (I.base.free b o e n hx)
  exact⟨sl',e2⟩
 ·obtain⟨o',e1⟩:=I.base.there b o e hx
  exact free b o' (neC b o e hx) e1 (I.base.free b o e n hx)
 ·obtain⟨o',e1⟩:=I.base.there b o e hx
  exact there b o' (neC b o e hx) e1
 ·obtain⟨m1,e1⟩:=I.base.tbls b ps e
  obtain⟨m2,e2⟩:=tbls b _ e1
  exact⟨m1++m2,by rw[e2,Array.append_assoc]⟩
 ·obtain⟨m,hn,hl⟩:=I.loc
  refine⟨m,ns m hn,fun i x v e1 e2 e3=>?_⟩
  obtain⟨u,r,l⟩:=hl i x v e1 e2 e3
  refine⟨u,r,?_⟩
  rcases l with l|⟨k,c,e,z⟩
  ·exact .inl l
  ·exact .inr ⟨k,c,e,cellK x c e _ z⟩
 ·obtain⟨v,z⟩:=I.cell x c e
  exact⟨v,cellK x c e v z⟩
 ·obtain⟨m,⟨o,_,_,ho,_⟩,_⟩:=I.loc
  exact free _ o (fun z=>(hch _ z).2.1 rfl) ho I.free
 ·obtain⟨v,o,ho,hd⟩:=I.cell x c e
  exact free c o (fun z=>(hch c z).2.2.1 x c e rfl) ho (I.freeC x c e)
 ·obtain⟨e,n,ne,nf,d⟩:=I.pin p hp
  have nch:p.1∉ch:=fun z=>(hch p.1 z).2.2.2 p hp rfl
  exact⟨keep p.1 p.2 ne nf nch e n,free p.1 p.2 nch e n,ne,nf,d⟩
theorem Inv.un {t':Nat}(I:Inv X pins σ H s)(u:Un X.fs [] H H' s.heap h')(hok:HOk X.prog X.w H' h'):Inv X pins σ H' {s with heap:=h',toks:=t'}:=by
 obtain⟨m,⟨o,es,ep,ho,r⟩,_⟩:=id I.loc
 obtain⟨sl,hL⟩:=u.any ho I.free (by simp)
 exact I.step (g':=s.gens) (d':=s.drawn) (ch:=[]) (fun _ z=>nomatch z) (fun b o _ hb _ e n=>u.keep b o e n hb (by simp)) (fun b o _ hb _ e n=>u.slot b o e n hb (by simp)) (fun b o _ e n=>u.free b o e n (by simp)) (fun b o _ e=>u.there b o e (by simp)) u.tups u.frzs u.tbls (fun m' hm=>by
  obtain⟨o',es',ep',ho',r'⟩:=hm
  rw[ho] at ho';cases ho'
  exact⟨_,es',ep',hL,r'⟩) hok I.bare
theorem Inv.call {g':Array GenState}{t':Nat}{d':Drawn}{ch:List Addr}(I:Inv X pins σ H s)(u:Un (nk X.stack) ch H H' s.heap h')(hok:HOk X.prog X.w H' h')(hg:AllBare g')
  (hch:∀ b∈ch,(b∈X.ex\/X.s₀.heap.objs.size<=b)/\b≠X.env.locals/\(∀ x c,X.env.cells.lookup x=some c->c≠b)/\∀ p∈X.pn++pins,p.1≠b):
  Inv X pins σ H' {s with heap:=h',gens:=g',drawn:=d',toks:=t'}:=by
 obtain⟨m,⟨o,es,ep,ho,r⟩,_⟩:=id I.loc
 obtain⟨sl,hL⟩:=u.any ho I.free fun z=>(hch _ z).2.1 rfl
 exact I.step (ch:=ch) hch (fun b o hL hb hc e n=>u.keep b o e n (fun z=>(List.mem_cons.mp (I.stkSub b z)).elim hL hb) hc) (fun b o _ _ hc e n=>u.any e n hc) (fun b o hc e n=>u.free b o e n hc) (fun b o hc e=>u.there b o e hc) u.tups u.frzs u.tbls (fun m' hm=>by
  obtain⟨o',es',ep',ho',r'⟩:=hm
  rw[ho] at ho';cases ho'
  exact⟨_,es',ep',hL,r'⟩) hok hg
theorem Inv.turned {t':Nat}{it:Addr}(I:Inv X pins σ H s)(k:∀ b o,b≠it->s.heap.get? b=some o->h'.get? b=some o)(hn:H it=none)(hL:it≠X.env.locals)
  (h1:it∈X.ex\/X.s₀.heap.objs.size<=it) (h2:∀ x c,X.env.cells.lookup x=some c->c≠it) (h3:∀ p∈X.pn++pins,p.1≠it):Inv X pins σ H {s with heap:=h',toks:=t'}:=by
 have nit:∀ b u,H b=some u->b≠it:=fun b u e z=>by rw[z,hn] at e;cases e
 refine I.step (g':=s.gens) (d':=s.drawn) (ch:=[it]) (fun b hb=>?_) (fun b o _ _ hc e _=>k b o (fun z=>hc (by simp [z])) e) (fun b o _ _ hc e _=>⟨o.slots,k b o (fun z=>hc (by simp [z])) e⟩) (fun _ _ _ _ n=>n)
  (fun b o hc e=>⟨o,k b o (fun z=>hc (by simp [z])) e⟩) (fun _ _ e=>e) (fun _ _ _ e=>e) (fun b ps e=>⟨#[],by rw[e];simp⟩) (fun m hm=>?_) (fun b u e=>?_) I.bare
 ·have e:b=it:=by simpa using hb
  subst e
  exact⟨h1,hL,h2,h3⟩
 ·obtain⟨o,es,ep,ho,r⟩:=hm
  exact⟨o,es,ep,k _ o (Ne.symm hL) ho,r⟩
 ·refine (I.hok b u e).stay (fun c v hc q=>k c v ?_ q) (fun _ q=>q) fun _ _ q=>q
  rcases hc with z|z
  ·rw[z];exact nit b u e
  ·exact nit c _ z
theorem Inv.tok (I:Inv X pins σ H s)(t:Nat):Inv X pins σ H {s with toks:=t}:=I.un (h':=s.heap) (t':=t) Un.refl I.hok
theorem Inv.kept {t':Nat}(I:Inv X pins σ H s)(k:∀ b u,s.heap.get? b=some u->h'.get? b=some u):Inv X pins σ H {s with heap:=h',toks:=t'}:=I.un (Un.kept k) (I.hok.kept k)
theorem Inv.laid {a:Addr}{o:HO}{t':Nat}(I:Inv X pins σ H s)(k:∀ b u,s.heap.get? b=some u->h'.get? b=some u)(hp:s.heap.objs.size<=a)(new:ObjOk X.prog X.w (upd H a o) h' a o):
  Inv X pins σ (upd H a o) {s with heap:=h',toks:=t'}:=I.un (Un.laid k hp (I.hok.fresh hp)) (I.hok.laid k hp new)
theorem Inv.write {x e:Addr}{o:HO}{t':Nat}(I:Inv X pins σ H s)(mu:tP (H x))(he:e=x\/H e=some (.own x))(k:∀ b u,b≠e->s.heap.get? b=some u->h'.get? b=some u)(heo:∃ u,h'.get? e=some u)
  (new:ObjOk X.prog X.w (upd H x o) h' x o):Inv X pins σ (upd H x o) {s with heap:=h',toks:=t'}:=I.un (Un.write mu he k heo) (I.hok.write mu he k heo new)
theorem Inv.pins_of {pins':List (Addr×Obj)}(I:Inv X pins σ H s)(h:∀ p∈pins',s.heap.get? p.1=some p.2/\H p.1=none/\p.1≠X.env.locals/\p.1∉X.fs/\∀ v,p.2.data≠.cell v):Inv X pins' σ H s:=
 ⟨I.ok,I.os,I.bare,I.base,I.loc,I.cell,I.free,I.freeC,fun p hp=>(List.mem_append.mp hp).elim (fun z=>I.pin p (List.mem_append_left _ z)) (h p),I.hok,I.len⟩
theorem iV {N:List Str}(hN:N.Nodup){i j:Nat}{x:Str}(a:N[i]? =some x) (b:N[j]? =some x):i=j:=by
 obtain⟨h1,e1⟩:=List.getElem?_eq_some_iff.mp a
 obtain⟨h2,e2⟩:=List.getElem?_eq_some_iff.mp b
 exact (List.getElem_inj hN).mp (e1.trans e2.symm)
theorem gM {M:Model}{A:Around}{E:Value->Shared->Prop}{i:Nat}{x:Str}{v:V}{u:Value}{Q:Unit->Shared->Prop}(I:Inv X pins σ H s)(hN:X.N.Nodup)(hi:X.N[i]? =some x) (hx:u3 X.env.scope x) (r:RelV v u)
  (h:∀ s',Inv X pins (σ.set i (some v)) H s'->(∃ a,Heap.SameBut a s.heap s'.heap/\(a=X.env.locals\/X.env.cells.lookup x=some a))->Q () s') (hf:X.fn x=true\/X.env.scope.names.lookup x=some .local:=by first|exact .inl rfl|exact .inr rfl|assumption):wpAny M A (storeName X.env x u) Q E s:=by
 obtain⟨m,hn,hl⟩:=id I.loc
 have hcls:(X.env.scope.kind == .class || (X.env.scope.kind == .module&&X.env.locals != X.env.globals))=false:=by rw[I.ok.kind];rfl
 have hiσ:i < σ.length:=by rw[I.len];exact (List.getElem?_eq_some_iff.mp hi).1
 have cne:=I.cne
 have tracked:∀ {a:Addr} {h':Heap},(∃ o,s.heap.get? a=some o/\H a=none)->Heap.SameBut a s.heap h'->HOk X.prog X.w H h':=fun {a h'} ha hs b ob e=>by
  obtain⟨_,_,hfree⟩:=ha
  refine (I.hok b ob e).stay (fun c w' hc q=>(hs.2 c ?_).trans q) (fun _ q=>q) fun _ _ q=>q
  rintro rfl
  rcases hc with rfl|hc
  ·rw[hfree] at e;cases e
  ·rw[hfree] at hc;cases hc
 rcases hx with hk|hk
 ·refine wpAny_storeName_local hk hn (fun h' hn' hs=>?_) hcls
  obtain⟨oL,_,_,hoL,_⟩:=id hn
  refine h _ ⟨I.ok,I.os,I.bare,⟨fun b o e n hb hx=>?_,fun b o e n hb hx=>?_,I.base.free,fun b o e hx=>?_,I.base.tups,I.base.frzs,I.base.tbls⟩,⟨_,hn',fun j y v' e1 e2 e3=>?_⟩,fun y c e=>?_,I.free,I.freeC,fun p hp=>?_,tracked ⟨oL,hoL,I.free⟩ hs,by simpa using I.len⟩ ⟨_,hs,.inl rfl⟩
  ·exact (hs.2 b (Nat.ne_of_lt (Nat.lt_of_lt_of_le (Heap.lt_size e) I.ok.above))).trans (I.base.keep b o e n hb hx)
  ·obtain⟨sl,e1⟩:=I.base.slot b o e n hb hx
   exact⟨sl,(hs.2 b (Nat.ne_of_lt (Nat.lt_of_lt_of_le (Heap.lt_size e) I.ok.above))).trans e1⟩
  ·obtain⟨o',e1⟩:=I.base.there b o e hx
   exact⟨o',(hs.2 b (Nat.ne_of_lt (Nat.lt_of_lt_of_le (Heap.lt_size e) I.ok.above))).trans e1⟩
  ·by_cases hj:j=i
   ·subst hj
    rw[hi] at e1;cases e1
    rw[List.getElem?_set_self hiσ] at e2
    cases e2
    exact⟨u,r,.inl ⟨hk,by simp⟩⟩
   ·rw[List.getElem?_set_ne (Ne.symm hj)] at e2
    obtain⟨u',r',q⟩:=hl j y v' e1 e2 e3
    refine⟨u',r',?_⟩
    rcases q with⟨k,e⟩|⟨k,c,e,z⟩
    ·refine .inl ⟨k,?_⟩
     have:y≠x:=fun e=>hj (iV hN e1 (e▸hi))
     simp [this,e]
    ·exact .inr ⟨k,c,e,z.sameBut hs (cne y c e)⟩
  ·obtain⟨w',z⟩:=I.cell y c e
   exact⟨w',z.sameBut hs (cne y c e)⟩
  ·obtain⟨e,n,ne,nf,d⟩:=I.pin p hp
   exact⟨(hs.2 p.1 ne).trans e,n,ne,nf,d⟩
 ·have hfn:X.fn x=true:=by
   rcases hf with z|z
   ·exact z
   ·rw[z] at hk;cases hk
  obtain⟨c,hc⟩:=I.ok.has x (.inl hk)
  obtain⟨w',z⟩:=I.cell x c hc
  refine wpAny_storeName_cell I.ok.kind hk hc z (fun h' hc' hs=>?_)
  obtain⟨oc,hoc,hocd⟩:=id z
  refine h {s with heap:=h'} ⟨I.ok,I.os,I.bare,⟨fun b o e n hb hx=>?_,fun b o e n hb hx=>?_,I.base.free,fun b o e hx=>?_,I.base.tups,I.base.frzs,I.base.tbls⟩,⟨m,hn.sameBut hs (Ne.symm (cne x c hc)),fun j y v' e1 e2 e3=>?_⟩,fun y c' e=>?_,I.free,I.freeC,fun p hp=>?_,tracked ⟨oc,hoc,I.freeC x c hc⟩ hs,by simpa using I.len⟩ ⟨c,hs,.inr hc⟩
  ·exact (hs.2 b (Nat.ne_of_lt (Nat.lt_of_lt_of_le (Heap.lt_size e) (I.ok.cab x c hfn hc)))).trans (I.base.keep b o e n hb hx)
  ·obtain⟨sl,e1⟩:=I.base.slot b o e n hb hx
   exact⟨sl,(hs.2 b (Nat.ne_of_lt (Nat.lt_of_lt_of_le (Heap.lt_size e) (I.ok.cab x c hfn hc)))).trans e1⟩
  ·obtain⟨o',e1⟩:=I.base.there b o e hx
   exact⟨o',(hs.2 b (Nat.ne_of_lt (Nat.lt_of_lt_of_le (Heap.lt_size e) (I.ok.cab x c hfn hc)))).trans e1⟩
  ·by_cases hj:j=i
   ·subst hj
    rw[hi] at e1;cases e1
    rw[List.getElem?_set_self hiσ] at e2
    cases e2
    exact⟨u,r,.inr ⟨.inl hk,c,hc,hc'⟩⟩
   ·rw[List.getElem?_set_ne (Ne.symm hj)] at e2
    obtain⟨u',r',q⟩:=hl j y v' e1 e2 e3
    refine⟨u',r',?_⟩
    rcases q with q|⟨k,c',e,z'⟩
    ·exact .inl q
    ·refine .inr ⟨k,c',e,z'.sameBut hs ?_⟩
     rintro rfl
     exact hj (iV hN e1 (I.ok.inj _ _ _ e hc▸hi))
  ·by_cases hcc:c'=c
   ·subst hcc;exact⟨_,hc'⟩
   ·obtain⟨w2,z2⟩:=I.cell y c' e
    exact⟨w2,z2.sameBut hs hcc⟩
  ·obtain⟨e,n,ne,nf,d⟩:=I.pin p hp
   refine⟨(hs.2 p.1 ?_).trans e,n,ne,nf,d⟩
   intro q
   rw[q,hoc] at e
   have q':oc=p.2:=Option.some.inj e
   exact d w' (by rw[← q'];exact hocd)
theorem iW {M:Model}{A:Around}{E:Value->Shared->Prop}{i:Nat}{x:Str}{v:V}{u:Value}{Q:Unit->Shared->Prop}(I:Inv X pins σ H s)(hN:X.N.Nodup)(hi:X.N[i]? =some x) (hx:u3 X.env.scope x) (r:RelV v u)
  (h:∀ s',Inv X pins (σ.set i (some v)) H s'->Q () s') (hf:X.fn x=true\/X.env.scope.names.lookup x=some .local:=by first|exact .inl rfl|exact .inr rfl|assumption):wpAny M A (storeName X.env x u) Q E s:=
 gM I hN hi hx r (fun s' I' _=>h s' I') hf
theorem Inv.call' {s':Shared}{ch:List Addr}(I:Inv X pins σ H s)(ho:s'.os=s.os)(u:Un (nk X.stack) ch H H' s.heap s'.heap)(hok:HOk X.prog X.w H' s'.heap)(hg:AllBare s'.gens)
  (hch:∀ b∈ch,(b∈X.ex\/X.s₀.heap.objs.size<=b)/\b≠X.env.locals/\(∀ x c,X.env.cells.lookup x=some c->c≠b)/\∀ p∈X.pn++pins,p.1≠b):Inv X pins σ H' s':=by
 obtain⟨h',g',d',t',o'⟩:=s'
 have e:o'=s.os:=ho
 subst e
 exact I.call (g':=g') (t':=t') (d':=d') u hok hg hch
end
abbrev XK:=Value->Option Addr->Hp->Prop
abbrev St:=List (Option V)
abbrev VK:=V->Hp->Prop
abbrev TE:=St->Hp->VK->Prop
abbrev TT:=St->Hp->(Bool->Hp->Prop)->Prop
abbrev TA:=St->Hp->(List V->Hp->Prop)->Prop
structure fZ where
 nx:St->Hp->Prop
 rt:VK
 bk:St->Hp->Prop:=fun _ _=>False
 ct:St->Hp->Prop:=fun _ _=>False
abbrev TS:=fZ->St->Hp->Prop
def EP (X:Cx)(pins:List (Addr×Obj))(σ:St)(Q:VK)(u:Value)(s':Shared):Prop:=∃ v H',Inv X pins σ H' s'/\RelV v u/\Q v H'
def TP (X:Cx)(pins:List (Addr×Obj))(σ:St)(Q:Bool->Hp->Prop)(b:Bool)(s':Shared):Prop:=∃ H',Inv X pins σ H' s'/\Q b H'
def AP (X:Cx)(pins:List (Addr×Obj))(σ:St)(Q:List V->Hp->Prop)(us:List Value)(s':Shared):Prop:=∃ vs H',Inv X pins σ H' s'/\Vals vs us/\Q vs H'
def SP (X:Cx)(pins:List (Addr×Obj))(D:fZ)(f:Flow)(s':Shared):Prop:=
 match f with
 |.next=>∃ σ' H',Inv X pins σ' H' s'/\D.nx σ' H'
 |.brk=>∃ σ' H',Inv X pins σ' H' s'/\D.bk σ' H'
 |.cont=>∃ σ' H',Inv X pins σ' H' s'/\D.ct σ' H'
 |.ret u=>∃ v σ' H',Inv X pins σ' H' s'/\RelV v u/\D.rt v H'
def PE (X:Cx)(e:Expr)(t:TE):Prop:=
 ∀ (pins:List (Addr×Obj)) (s:Shared) (σ:St) (H:Hp) (Q:VK),Inv X pins σ H s->t σ H Q->wpAny (model X.prog X.w) X.A (eval e X.env) (EP X pins σ Q) X.xe s
def PT (X:Cx)(e:Expr)(t:TT):Prop:=
 ∀ (pins:List (Addr×Obj)) (s:Shared) (σ:St) (H:Hp) (Q:Bool->Hp->Prop),Inv X pins σ H s->t σ H Q->wpAny (model X.prog X.w) X.A (isTrue e X.env (eval e X.env)) (TP X pins σ Q) X.xe s
def PW (X:Cx)(e:Expr)(t:TT):Prop:=
 ∀ (whole:Sem Value) (pins:List (Addr×Obj)) (s:Shared) (σ:St) (H:Hp) (Q:Bool->Hp->Prop),Inv X pins σ H s->t σ H Q->wpAny (model X.prog X.w) X.A (isTrue e X.env whole) (TP X pins σ Q) X.xe s
theorem PW.pt {X:Cx}{e:Expr}{t:TT}(h:PW X e t):PT X e t:=h _
def PA (X:Cx)(es:List Expr)(t:TA):Prop:=
 ∀ (pos:Pos) (pins:List (Addr×Obj)) (s:Shared) (σ:St) (H:Hp) (Q:List V->Hp->Prop),Inv X pins σ H s->t σ H Q->wpAny (model X.prog X.w) X.A (spliced (backTo pos (starEach es X.env))) (AP X pins σ Q) X.xe s
def PS (X:Cx)(st:Stmt)(t:TS):Prop:=
 ∀ (pins:List (Addr×Obj)) (s:Shared) (σ:St) (H:Hp) (D:fZ),Inv X pins σ H s->t D σ H->wpAny (model X.prog X.w) X.A (exec st X.env) (SP X pins D) X.xe s
def PSs (X:Cx)(st:List Stmt)(t:TS):Prop:=
 ∀ (pins:List (Addr×Obj)) (s:Shared) (σ:St) (H:Hp) (D:fZ),Inv X pins σ H s->t D σ H->wpAny (model X.prog X.w) X.A (execs st X.env) (SP X pins D) X.xe s
theorem bh {α:Type}{t:Sem α}{Q Q':α->Shared->Prop}{M:Model}{A:Around}{E:Value->Shared->Prop}{s:Shared}(h:wpAny M A t Q E s)(hQ:∀ a s,Q a s->Q' a s):wpAny M A t Q' E s:=wpAny_mono h hQ fun _ _ x=>x
end L2
namespace L2
open PySem PySem.Spec PyProof.Rows
section
variable {X:Cx}
inductive qQ (i:Nat)(σ:St)(H:Hp)(Q:VK):Prop
 |mk (v:V)(h:σ[i]? =some (some v)) (q:Q v H):qQ i σ H Q
def tQ (i:Nat):TE:=fun σ H Q=>qQ i σ H Q
def tC (v:V):TE:=fun _ H Q=>Q v H
theorem r_ {i:Nat}{x:Str}{pos:Pos}(hN:X.N[i]? =some x) (hv:vc X.env.scope x) (hd:(x == ("__debug__":Str))=false:=by decide) (hcd:(x == ("__classdict__":Str))=false:=by decide):PE X (.Name x pos) (tQ i):=by
 intro pins s σ H Q I h
 obtain⟨v,e,h⟩:=h
 obtain⟨m,hn,hl⟩:=I.loc
 obtain⟨u,r,l⟩:=hl i x v hN e hv
 have fin:EP X pins σ Q u s:=⟨v,H,I,r,h⟩
 rcases l with⟨hk,hm⟩|⟨hk,c,hc,hcell⟩
 ·exact wpAny_Name (wpAny_loadName_local I.ok.kind hk hn hm fin) hd
 ·rcases hk with hk|hk
  ·exact wpAny_Name (wpAny_loadName_cell I.ok.kind hk hc hcell fin) hd
  ·exact wpAny_Name (wpAny_loadName_free I.ok.kind hk hc hcell fin hcd) hd
theorem ah {i j pos}:PE X (.Constant (.int i) j pos) (tC (.int i)):=fun _ _ _ H _ I h=>wpAny_Constant_int ⟨.int i,H,I.tok _,⟨_,rfl⟩,h⟩
theorem de {b j pos}:PE X (.Constant (.bool b) j pos) (tC (.bl b)):=fun _ _ _ H _ I h=>Constant_bool ⟨.bl b,H,I,rfl,h⟩
theorem aW {j pos}:PE X (.Constant .none j pos) (tC .non):=fun _ _ _ H _ I h=>Constant_none ⟨.non,H,I,rfl,h⟩
theorem aJ {x j pos}:PE X (.Constant (.str x) j pos) (tC (.str x)):=fun _ _ _ H _ I h=>Calls.Constant_str ⟨.str x,H,I.tok _,⟨_,rfl⟩,h⟩
def Gl (X:Cx)(x:Str):Prop:=X.env.kindOf x=some .globalImplicit
theorem kQ {E:Value->Shared->Prop}{pins:List (Addr×Obj)}{s:Shared}{σ:St}{H:Hp}{x:Str}{u:Value}{pos:Pos}{Q:Value->Shared->Prop}(I:Inv X pins σ H s)(hg:Gl X x)(hm:X.mg x=some u)(h:Q u s)
  (hd:(x == ("__debug__":Str))=false:=by decide):wpAny (model X.prog X.w) X.A (eval (.Name x pos) X.env) Q E s:=
 Calls.Name_function_global I.ok.kind hg (Calls.loadGlobal_global (by rw[I.ok.glob];exact I.mod.glob.keeps I.bk) hm h) hd
theorem cK {E:Value->Shared->Prop}{pins:List (Addr×Obj)}{s:Shared}{σ:St}{H:Hp}{x:Str}{u:Value}{pos:Pos}{Q:Value->Shared->Prop}(I:Inv X pins σ H s)(hg:Gl X x)(hm:X.mg x=none)(hv:bootBuiltins x=some u)(h:Q u s)
  (hn:x≠"__name__":=by decide) (hd:(x == ("__debug__":Str))=false:=by decide):wpAny (model X.prog X.w) X.A (eval (.Name x pos) X.env) Q E s:=by
 obtain⟨mb,h1,h2⟩:=I.mod.blt
 exact Calls.Name_function_global I.ok.kind hg (Calls.loadGlobal_builtin (by rw[I.ok.glob];exact I.mod.glob.keeps I.bk) hm (by rw[I.ok.blt];exact h1.keeps I.bk) ((h2 x hn).trans hv) h) hd
theorem pO {x:Str}{v:V}{u:Value}{pos:Pos}(hg:Gl X x)(hm:X.mg x=some u)(r:RelV v u)(hd:(x == ("__debug__":Str))=false:=by decide):PE X (.Name x pos) (tC v):=
 fun _ _ _ H _ I h=>kQ I hg hm ⟨v,H,I,r,h⟩ hd
theorem dk {x:Str}{v:V}{u:Value}{pos:Pos}(hg:Gl X x)(hm:X.mg x=none)(hv:bootBuiltins x=some u)(r:RelV v u)(hn:x≠"__name__":=by decide)(hd:(x == ("__debug__":Str))=false:=by decide):PE X (.Name x pos) (tC v):=
 fun _ _ _ H _ I h=>cK I hg hm hv ⟨v,H,I,r,h⟩ hn hd
variable {a b:Expr}{ta tb:TE}{pos:Pos}
def PC (X:Cx)(op:CmpOp)(a b:Expr)(t:TE):Prop:=
 ∀ (pins:List (Addr×Obj)) (s:Shared) (σ:St) (H:Hp) (Q:VK),Inv X pins σ H s->t σ H Q->
  wpAny (model X.prog X.w) X.A (eval a X.env) (fun v s₁=>wpAny (model X.prog X.w) X.A (eval b X.env) (fun u s₂=>wpAny (model X.prog X.w) X.A (compareOp op v u) (EP X pins σ Q) X.xe s₂) X.xe s₁) X.xe s
inductive sd (x:V)(Q:Bool->Hp->Prop)(H:Hp):Prop
 |mk (c:Bool)(h:x=.bl c)(q:Q c H):sd x Q H
def tB (t:TE):TT:=fun σ H Q=>t σ H fun x H1=>sd x Q H1
theorem se {op:CmpOp}{t:TE}(h:PC X op a b t)(h1:behindInMarks op b=false:=by first|exact nobehind _ (by decide) (by decide)|rfl):PT X (.Compare a [op] [b] pos) (tB t):=by
 intro pins s σ H Q I hw
 refine wpAny_isTrue_Compare1 (bh (h pins s σ H _ I hw) fun v s1 h1=>bh h1 fun u s2 h2=>bh h2 fun c s3 ⟨x,H1,I1,r1,q1⟩=>?_) h1
 obtain⟨d,rfl,q⟩:=q1
 cases r1
 exact wpAny_truthy_bool ⟨H1,I1,q⟩
theorem aK {e:Expr}{t:TE}(h:PE X e t)(he:∀ whole,isTrue e X.env whole=(do let v ← whole;standAt e.pos;holding [v] (truthy v)):=by intro _;rfl):PT X e (tB t):=by
 intro pins s σ H Q I hw
 refine isTrue_plain (bh (h pins s σ H _ I hw) fun v s1 ⟨x,H1,I1,r1,q1⟩=>?_) (he _)
 obtain⟨d,rfl,q⟩:=q1
 cases r1
 exact wpAny_truthy_bool ⟨H1,I1,q⟩
variable {tA tB':TT}{rest:List Expr}
def ve (t u:TT):TT:=fun σ H Q=>t σ H fun c H1=>if c=true then u σ H1 Q else Q false H1
def vW (t u:TT):TT:=fun σ H Q=>t σ H fun c H1=>if c=true then Q true H1 else u σ H1 Q
def vf (t:TT):TT:=fun σ H Q=>t σ H fun c H1=>Q (!c) H1
theorem cS (ha:PT X a tA):PW X (.BoolOp .And [a] pos) tA:=by
 intro wh pins s σ H Q I h
 refine isTrue_and (bh (ha pins s σ H Q I h) fun c s1 e=>?_)
 cases c with
 |true=>exact isTrue_and_nil e
 |false=>exact e
theorem cg (ha:PT X a tA):PW X (.BoolOp .Or [a] pos) tA:=by
 intro wh pins s σ H Q I h
 refine isTrue_or (bh (ha pins s σ H Q I h) fun c s1 e=>?_)
 cases c with
 |false=>exact isTrue_or_nil e
 |true=>exact e
theorem cX (ha:PT X a tA)(hb:PW X (.BoolOp .And (b::rest) pos) tB'):PW X (.BoolOp .And (a::b::rest) pos) (ve tA tB'):=by
 intro wh pins s σ H Q I h
 refine isTrue_and (bh (ha pins s σ H _ I h) fun c s1 ⟨H1,I1,q1⟩=>?_)
 cases c with
 |true=>exact hb wh pins s1 σ H1 Q I1 q1
 |false=>exact⟨H1,I1,q1⟩
theorem b_ (ha:PT X a tA)(hb:PW X (.BoolOp .Or (b::rest) pos) tB'):PW X (.BoolOp .Or (a::b::rest) pos) (vW tA tB'):=by
 intro wh pins s σ H Q I h
 refine isTrue_or (bh (ha pins s σ H _ I h) fun c s1 ⟨H1,I1,q1⟩=>?_)
 cases c with
 |true=>exact⟨H1,I1,q1⟩
 |false=>exact hb wh pins s1 σ H1 Q I1 q1
theorem bf (ha:PT X a tA):PT X (.UnaryOp .Not a pos) (vf tA):=by
 intro pins s σ H Q I h
 exact isTrue_not (ha pins s σ H (fun c H1=>Q (!c) H1) I h)
def tR (ta tb:TE):TE:=fun σ H Q=>ta σ H fun x H1=>∃ c,x=.bl c/\if c=true then tb σ H1 Q else Q (.bl false) H1
def tT (ta:TE):TE:=fun σ H Q=>ta σ H fun x H1=>∃ c,x=.bl c/\Q (.bl (!c)) H1
theorem dU {op}{t:TE}(h:PE X a t):PE X (.BoolOp op [a] pos) t:=fun pins s σ H Q I hw=>BoolOp_one (h pins s σ H Q I hw)
theorem dl (ha:PE X a ta)(hb:PE X (.BoolOp .And (b::rest) pos) tb):PE X (.BoolOp .And (a::b::rest) pos) (tR ta tb):=by
 intro pins s σ H Q I h
 refine BoolOp_and (bh (ha pins s σ H _ I h) fun v s1 ⟨x,H1,I1,r1,q1⟩=>?_)
 obtain⟨c,rfl,q1⟩:=q1
 cases r1
 refine wpAny_truthy_bool ?_
 cases c with
 |true=>exact hb pins s1 σ H1 Q I1 q1
 |false=>exact⟨.bl false,H1,I1,rfl,q1⟩
theorem jU (ha:PE X a ta):PE X (.UnaryOp .Not a pos) (tT ta):=by
 intro pins s σ H Q I h
 refine UnaryOp_ (bh (ha pins s σ H _ I h) fun v s1 ⟨x,H1,I1,r1,q1⟩=>?_)
 obtain⟨c,rfl,q1⟩:=q1
 cases r1
 exact not_of (wpAny_truthy_bool ⟨.bl (!c),H1,I1,rfl,q1⟩)
def vX (t:TT)(ta tb:TE):TE:=fun σ H Q=>t σ H fun c H1=>if c=true then ta σ H1 Q else tb σ H1 Q
theorem f_ {c:Expr}(hc:PT X c tA)(ha:PE X a ta)(hb:PE X b tb):PE X (.IfExp c a b pos) (vX tA ta tb):=by
 intro pins s σ H Q I h
 refine wpAny_IfExp (bh (hc pins s σ H _ I h) fun d s1 ⟨H1,I1,q1⟩=>?_)
 cases d with
 |true=>exact ha pins s1 σ H1 Q I1 q1
 |false=>exact hb pins s1 σ H1 Q I1 q1
end
end L2
namespace L2
open PySem PySem.Spec PyProof.Rows
def SqL (K:PySem.W.Frag)(H:Hp)(a:Addr)(xs:List V):Prop:=
 Rd H a (.lst xs)\/
  ∃ (o:Obj) (its:Array Value) (n:Nat),K.lookup a=some o/\o.cls=.type "list"/\o.dict=none/\o.data=.seq its n/\its.size<=sizeLine/\Vals xs its.toList
def SqT (K:PySem.W.Frag)(H:Hp)(a:Addr)(xs:List V):Prop:=
 Rd H a (.tup xs)\/
  ∃ (o:Obj) (its:Array Value) (n:Nat),K.lookup a=some o/\o.cls=.type "tuple"/\o.data=.seq its n/\its.size<=sizeLine/\Vals xs its.toList
def vg:Value->Option V
 |.none=>some .non
 |.bool b=>some (.bl b)
 |.int i _=>some (.int i)
 |.str x _=>some (.str x)
 |.bytes b _=>some (.byt b)
 |.float b _=>some (.flt b)
 |.ref a=>some (.ref a)
 |.type n=>some (.ty n)
 |_=>none
theorem RelV.abs {x:V}{u:Value}(r:RelV x u):vg u=some x:=by
 cases x with
 |non=>cases r;rfl
 |bl _=>cases r;rfl
 |int _=>obtain⟨t,rfl⟩:=r;rfl
 |str _=>obtain⟨t,rfl⟩:=r;rfl
 |byt _=>obtain⟨t,rfl⟩:=r;rfl
 |flt _=>obtain⟨t,rfl⟩:=r;rfl
 |ref _=>cases r;rfl
 |ty _=>cases r;rfl
theorem RelV.inj {x y:V}{u:Value}(r:RelV x u)(q:RelV y u):x=y:=Option.some.inj (r.abs.symm.trans q.abs)
theorem Vals.inj:∀ {xs ys:List V} {us:List Value},Vals xs us->Vals ys us->xs=ys
 |_,_,_,.nil,.nil=>rfl
 |_,_,_,.cons r t,.cons r' t'=>by rw[r.inj r',Vals.inj t t']
section
variable {X:Cx}{pins:List (Addr×Obj)}{σ:St}{H:Hp}{s:Shared}{a:Addr}{xs ys:List V}
theorem SqL.of {K:PySem.W.Frag}(h:H a=some (.lst xs)):SqL K H a xs:=.inl (.inl h)
theorem SqT.of {K:PySem.W.Frag}(h:H a=some (.tup xs)):SqT K H a xs:=.inl (.inl h)
theorem Inv.list (I:Inv X pins σ H s)(h:SqL X.K H a xs):∃ its:List Value,Vals xs its/\PlainL s.heap a its.toArray/\xs.length<=sizeLine:=by
 rcases h with h|⟨o,its,n,hk,hc,hd,hs,hz,r⟩
 ·obtain⟨z,its,n,r,e⟩:=h.ok I.hok
  exact⟨its,r,⟨_,n,e,rfl,rfl,rfl⟩,z⟩
 ·refine⟨its.toList,r,⟨o,n,I.kIn a o hk,hc,hd,by simpa using hs⟩,?_⟩
  have e:=r.length
  simp only [Array.length_toList] at e
  omega
theorem Inv.tuple (I:Inv X pins σ H s)(h:SqT X.K H a xs):∃ its:List Value,Vals xs its/\IsTup s.heap a its.toArray/\xs.length<=sizeLine:=by
 rcases h with h|⟨o,its,n,hk,hc,hs,hz,r⟩
 ·obtain⟨z,its,r,p⟩:=h.ok I.hok
  exact⟨its,r,p,z⟩
 ·refine⟨its.toList,r,⟨o,I.kIn a o hk,hc,n,by simpa using hs⟩,?_⟩
  have e:=r.length
  simp only [Array.length_toList] at e
  omega
theorem Inv.list_inj (I:Inv X pins σ H s)(h:SqL X.K H a xs)(h':SqL X.K H a ys):xs=ys:=by
 obtain⟨its,r,⟨o,n,e,_,_,d⟩,_⟩:=I.list h
 obtain⟨its',r',⟨o',n',e',_,_,d'⟩,_⟩:=I.list h'
 rw[e] at e';cases e'
 rw[d] at d'
 injection d' with d1 _
 have:its=its':=by simpa using congrArg Array.toList d1
 subst this
 exact r.inj r'
theorem Inv.tuple_inj (I:Inv X pins σ H s)(h:SqT X.K H a xs)(h':SqT X.K H a ys):xs=ys:=by
 obtain⟨its,r,⟨o,e,_,n,d⟩,_⟩:=I.tuple h
 obtain⟨its',r',⟨o',e',_,n',d'⟩,_⟩:=I.tuple h'
 rw[e] at e';cases e'
 rw[d] at d'
 injection d' with d1 _
 have:its=its':=by simpa using congrArg Array.toList d1
 subst this
 exact r.inj r'
end
abbrev Cx.wish (X:Cx)(E:Value->Shared->Prop):Cx:={X with xe:=E}
abbrev Cx.nox (X:Cx):Cx:=X.wish fun _ _=>False
theorem Cx.Ok.wish {X:Cx}(ok:X.Ok)(E:Value->Shared->Prop):(X.wish E).Ok:=
 ⟨ok.mod,ok.kind,ok.glob,ok.blt,ok.above,ok.inj,ok.has,ok.cab,ok.hd,ok.frames,ok.stk,ok.exf,ok.bs,ok.bsz,ok.noex,ok.exfs,ok.funs,ok.frf⟩
theorem Cx.Ok.unwish {X:Cx}{E:Value->Shared->Prop}(ok:(X.wish E).Ok):X.Ok:=
 ⟨ok.mod,ok.kind,ok.glob,ok.blt,ok.above,ok.inj,ok.has,ok.cab,ok.hd,ok.frames,ok.stk,ok.exf,ok.bs,ok.bsz,ok.noex,ok.exfs,ok.funs,ok.frf⟩
section
variable {X:Cx}{pins:List (Addr×Obj)}{σ:St}{H:Hp}{s:Shared}{E:Value->Shared->Prop}
theorem Inv.wish (I:Inv X pins σ H s)(E:Value->Shared->Prop):Inv (X.wish E) pins σ H s:=⟨I.ok.wish E,I.os,I.bare,I.base,I.loc,I.cell,I.free,I.freeC,I.pin,I.hok,I.len⟩
theorem Inv.unwish (I:Inv (X.wish E) pins σ H s):Inv X pins σ H s:=⟨I.ok.unwish,I.os,I.bare,I.base,I.loc,I.cell,I.free,I.freeC,I.pin,I.hok,I.len⟩
theorem SP.unwish {D:fZ}{f:Flow}{s':Shared}(h:SP (X.wish E) pins D f s'):SP X pins D f s':=by
 cases f with
 |next=>obtain⟨σ',H',I,q⟩:=h;exact⟨σ',H',I.unwish,q⟩
 |brk=>obtain⟨σ',H',I,q⟩:=h;exact⟨σ',H',I.unwish,q⟩
 |cont=>obtain⟨σ',H',I,q⟩:=h;exact⟨σ',H',I.unwish,q⟩
 |ret u=>obtain⟨v,σ',H',I,r,q⟩:=h;exact⟨v,σ',H',I.unwish,r,q⟩
theorem PSs.nox {st:List Stmt}{t:TS}(h:PSs X.nox st t):PSs X st t:=fun pins s σ H D I hw=>
 wpAny_mono (h pins s σ H D (I.wish _) hw) (fun _ _ q=>q.unwish) fun _ _ z=>False.elim z
end
section
variable {X:Cx}{st:Stmt}{rest:List Stmt}{t u:TS}{e:Expr}{te:TE}{pos:Pos}
def tU:TS:=fun D σ H=>D.nx σ H
def sf (t u:TS):TS:=fun D σ H=>t {D with nx:=u D} σ H
theorem au:PSs X [] tU:=fun _ _ σ H _ I h=>wpAny_execs_nil ⟨σ,H,I,h⟩
theorem ae (h1:PS X st t)(h2:PSs X rest u):PSs X (st::rest) (sf t u):=by
 intro pins s σ H D I h
 refine wpAny_execs_cons (bh (h1 pins s σ H {D with nx:=u D} I h) fun f s1 q=>?_)
 cases f with
 |next=>
  obtain⟨σ',H',I',q⟩:=q
  exact h2 pins s1 σ' H' D I' q
 |ret v=>exact q
 |brk=>exact q
 |cont=>exact q
theorem ag (h1:PS X st t):PSs X [st] t:=by
 intro pins s σ H D I h
 refine wpAny_execs_cons (bh (h1 pins s σ H D I h) fun f s1 q=>?_)
 cases f with
 |next=>exact wpAny_execs_nil q
 |ret v=>exact q
 |brk=>exact q
 |cont=>exact q
theorem Inv.quiet {pins:List (Addr×Obj)}{σ:St}{H:Hp}{s:Shared}(I:Inv X pins σ H s):interactive X.env=false:=by simp [interactive,I.ok.kind]
def tV (te:TE):TS:=fun D σ H=>te σ H fun _ H1=>D.nx σ H1
theorem eD (he:PE X e te)(hs:swapsWith e none pos.line X.env=pure false:=by rfl):PS X (.Expr e pos) (tV te):=by
 intro pins s σ H D I h
 exact wpAny_Expr_any (bh (he pins s σ H _ I h) fun v s1 ⟨x,H1,I1,r1,q1⟩=>⟨σ,H1,I1,q1⟩) I.quiet hs
def vh (te:TE):TS:=fun D σ H=>te σ H D.rt
theorem aj (he:PE X e te):PS X (.Return (some e) pos) (vh te):=by
 intro pins s σ H D I h
 exact wpAny_Return_some (bh (he pins s σ H _ I h) fun v s1 ⟨x,H1,I1,r1,q1⟩=>⟨x,σ,H1,I1,r1,q1⟩)
def vi (c:TT)(t u:TS):TS:=fun D σ H=>c σ H fun b H1=>if b=true then t D σ H1 else u D σ H1
theorem aH {c:Expr}{a b:List Stmt}{tc:TT}(hc:PT X c tc)(ha:PSs X a t)(hb:PSs X b u):PS X (.If c a b pos) (vi tc t u):=by
 intro pins s σ H D I h
 refine wpAny_If (bh (hc pins s σ H _ I h) fun d s1 ⟨H1,I1,q1⟩=>?_)
 cases d with
 |true=>exact ha pins s1 σ H1 D I1 q1
 |false=>exact hb pins s1 σ H1 D I1 q1
def si:TS:=fun _ _ _=>False
theorem iX:PS X st si:=fun _ _ _ _ _ _ h=>h.elim
end
abbrev TG:=V->St->Hp->(St->Hp->Prop)->Prop
abbrev sj:=List V->St->Hp->(St->Hp->Prop)->Prop
def PG (X:Cx)(target:Expr)(t:TG):Prop:=
 ∀ (pins:List (Addr×Obj)) (s:Shared) (σ:St) (H:Hp) (v:V) (u:Value) (Q:St->Hp->Prop),Inv X pins σ H s->RelV v u->t v σ H Q->
  wpAny (model X.prog X.w) X.A (assign target X.env u) (fun _ s'=>∃ σ' H',Inv X pins σ' H' s'/\Q σ' H') X.xe s
def u4 (X:Cx)(ts:List Expr)(t:sj):Prop:=
 ∀ (pins:List (Addr×Obj)) (s:Shared) (σ:St) (H:Hp) (vs:List V) (us:List Value) (Q:St->Hp->Prop),Inv X pins σ H s->Vals vs us->t vs σ H Q->
  wpAny (model X.prog X.w) X.A (assignInOrder ((assignEach ts X.env).map (·.2)) us) (fun _ s'=>∃ σ' H',Inv X pins σ' H' s'/\Q σ' H') X.xe s
section
variable {X:Cx}{pos:Pos}
def fE (i:Nat):TG:=fun v σ H Q=>Q (σ.set i (some v)) H
theorem ao {i:Nat}{x:Str}(hN:X.N.Nodup)(hi:X.N[i]? =some x) (hx:u3 X.env.scope x) (hf:X.fn x=true\/X.env.scope.names.lookup x=some .local:=by first|exact .inl rfl|exact .inr rfl|assumption):PG X (.Name x pos) (fE i):=by
 intro pins s σ H v u Q I r h
 exact wpAny_assign_Name (iW I hN hi hx r (fun s' I'=>⟨_,H,I',h⟩) hf)
def vj:sj:=fun vs σ H Q=>vs=[]/\Q σ H
def tX (t:TG)(u:sj):sj:=fun vs σ H Q=>∃ v r,vs=v::r/\t v σ H fun σ' H'=>u r σ' H' Q
theorem dN:u4 X [] vj:=by
 intro pins s σ H vs us Q I r h
 obtain⟨e,h⟩:=h
 subst e
 cases r
 exact assignInOrder_nil ⟨σ,H,I,h⟩
theorem bF {e:Expr}{es:List Expr}{t:TG}{u:sj}(h1:PG X e t)(h2:u4 X es u)
  (hs:(assignEach (e::es) X.env).map (·.2)=assign e X.env::(assignEach es X.env).map (·.2):=by rfl):u4 X (e::es) (tX t u):=by
 intro pins s σ H vs us Q I r h
 obtain⟨v,vr,e1,h⟩:=h
 subst e1
 cases r with
 |cons r rr=>
  rw[hs]
  refine assignInOrder_cons (bh (h1 pins s σ H _ _ _ I r h) fun _ s1 ⟨σ1,H1,I1,q1⟩=>?_)
  exact h2 pins s1 σ1 H1 _ _ Q I1 rr q1
def vk (K:PySem.W.Frag)(n:Nat)(t:sj):TG:=fun v σ H Q=>∃ a xs,v=.ref a/\SqT K H a xs/\xs.length=n/\t xs σ H Q
theorem fc {es:List Expr}{k:Nat}{t:sj}{n:Nat}(hc:X.calm=true)(h:u4 X es t)
  (hn:(assignEach es X.env).length=n:=by rfl) (hst:(assignEach es X.env).findIdx? (·.1)=none:=by rfl):PG X (.Tuple es k pos) (vk X.K n t):=by
 intro pins s σ H v u Q I r hw
 obtain⟨a,xs,e1,hq,hl,hw⟩:=hw
 subst e1
 cases r
 obtain⟨its,rv,ht,hz⟩:=I.tuple hq
 refine assign_Tuple_tuple (I.ok.hd hc) ht (by simp [hn,← hl,rv.length]) hst fun h' hx=>?_
 have I1:Inv X pins σ H {s with heap:=h'}:=I.kept (t':=s.toks) fun b o e=>hx b o (Nat.ne_of_lt (Heap.lt_size e)) e
 exact h pins _ σ H xs _ Q I1 (by simpa using rv) hw
def tY (te:TE)(g:TG):TS:=fun D σ H=>te σ H fun x H1=>g x σ H1 D.nx
theorem nn {tg e:Expr}{te:TE}{g:TG}(he:PE X e te)(hg:PG X tg g)(hs:swapsWithSole [tg] e pos.line X.env=pure false:=by rfl)(hw:swappedStores [tg] e X.env=pure none:=by rfl)
  (h1:(assignEach [tg] X.env).map (·.2)=[assign tg X.env]:=by rfl):PS X (.Assign [tg] e pos) (tY te g):=by
 intro pins s σ H D I h
 refine wpAny_Assign_stores (bh (he pins s σ H _ I h) fun v s1 ⟨x,H1,I1,r1,q1⟩=>?_) hs hw
 rw[h1]
 exact bh (hg pins s1 σ H1 x v _ I1 r1 q1) fun _ s2 q=>q
theorem aC {i:Nat}{x:Str}{e:Expr}{te:TE}{pos':Pos}(hN:X.N.Nodup)(hi:X.N[i]? =some x) (hx:u3 X.env.scope x) (he:PE X e te) (hs:swapsWith e (some (.Name x pos')) pos.line X.env=pure false:=by rfl) (hf:X.fn x=true\/X.env.scope.names.lookup x=some .local:=by first|exact .inl rfl|exact .inr rfl|assumption):
  PS X (.Assign [.Name x pos'] e pos) (tY te (fE i)):=by
 intro pins s σ H D I h
 refine wpAny_Assign_Name (bh (he pins s σ H _ I h) fun v s1 ⟨y,H1,I1,r1,q1⟩=>?_) hs
 exact iW I1 hN hi hx r1 (fun s2 I2=>⟨_,H1,I2,q1⟩) hf
end
section
variable {X:Cx}{pos:Pos}
def sk (c:TT)(tb:TS):TS:=fun D σ H=>∃ W:Nat->St->Hp->Prop,(∃ m,W m σ H)/\∀ m σ H,W m σ H->
 c σ H fun b H1=>if b=true then ∃ N:St->Hp->Prop,(∀ σ' H',N σ' H'->∃ m',m' < m/\W m' σ' H')/\tb {D with nx:=N,ct:=N,bk:=D.nx} σ H1 else D.nx σ H1
theorem np {c:Expr}{body:List Stmt}{tc:TT}{tb:TS}(hp:PassesOwn (model X.prog X.w) X.A X.env X.xe)(hc:PT X c tc)(hb:PSs X body tb):PS X (.While c body [] pos) (sk tc tb):=by
 intro pins s σ H D I h
 obtain⟨W,⟨m0,w0⟩,turn⟩:=h
 refine wpAny_While (codeAny_whileLoop (fun n s'=>∃ σ' H',Inv X pins σ' H' s'/\W n σ' H') ?_ m0 ⟨σ,H,I,w0⟩)
 rintro n s1 ⟨σ1,H1,I1,w1⟩
 refine wpAny_passesOwn hp (bh (hc pins s1 σ1 H1 _ I1 (turn n σ1 H1 w1)) fun b s2 ⟨H2,I2,q2⟩=>?_)
 cases b with
 |true=>
  obtain⟨N,hN,q2⟩:=q2
  rw[if_pos rfl]
  refine wpAny_passesOwn hp (bh (hb pins s2 σ1 H2 _ I2 q2) fun f s3 q3=>?_)
  cases f with
  |next=>
   obtain⟨σ3,H3,I3,n3⟩:=q3
   obtain⟨m',hm,w3⟩:=hN σ3 H3 n3
   exact⟨m',hm,σ3,H3,I3,w3⟩
  |cont=>
   obtain⟨σ3,H3,I3,n3⟩:=q3
   obtain⟨m',hm,w3⟩:=hN σ3 H3 n3
   exact⟨m',hm,σ3,H3,I3,w3⟩
  |brk=>exact q3
  |ret v=>exact q3
 |false=>
  rw[if_neg Bool.false_ne_true]
  exact wpAny_execs_nil ⟨σ1,H2,I2,q2⟩
end
structure It where
 go:Nat->Hp->Prop
 yld:Nat->Hp->V->Hp->Prop
 stop:Nat->Hp->Prop
def il (X:Cx)(pins:List (Addr×Obj))(H:Hp)(b:Addr):Prop:=
 H b=none/\b≠X.env.locals/\b∉X.fs/\(b∈X.ex\/X.s₀.heap.objs.size<=b)/\(∀ x c,X.env.cells.lookup x=some c->c≠b)/\∀ p∈X.pn++pins,p.1≠b
theorem Inv.fpOk {X:Cx}{pins:List (Addr×Obj)}{σ:St}{H H':Hp}{s:Shared}{b:Addr}(I:Inv X pins σ H s)(hb:s.heap.objs.size<=b)(hn:H' b=none):il X pins H' b:=by
 refine⟨hn,Nat.ne_of_gt (Nat.lt_of_lt_of_le I.lt hb),I.nofs hb,.inr (Nat.le_trans I.sz hb),fun x c e z=>?_,fun p hp z=>?_⟩
 ·obtain⟨v,q⟩:=I.cell x c e
  exact absurd (Nat.lt_of_lt_of_le q.lt (by rw[z];exact hb)) (Nat.lt_irrefl _)
 ·exact absurd (Nat.lt_of_lt_of_le (Heap.lt_size (I.pin p hp).1) (by rw[z];exact hb)) (Nat.lt_irrefl _)
structure mr (P:Program)(w:World)(K:PySem.W.Frag)(tg:Expr)(J:It)(fp:List Addr)(it:Addr)(tn:Nat->Heap->Prop):Prop where
 mem:it∈fp
 obj:∀ i h,tn i h->∀ b∈fp,∃ o,h.get? b=some o/\∀ v,o.data≠.cell v
 keep:∀ i h h',tn i h->(∀ b∈fp,∀ o,h.get? b=some o->h'.get? b=some o)->tn i h'
 item:∀ (X:Cx),X.prog=P->X.w=w->X.K=K->X.calm=true->∀ (i:Nat) (pins:List (Addr×Obj)) (s:Shared) (σ:St) (H:Hp) (E:Value->Shared->Prop),Inv X pins σ H s->(∀ b∈fp,il X pins H b)->tn i s.heap->J.go i H->
  wpAny (model P w) X.A (pyNext (.ref it)) (fun r s1=>∃ u,r=some u/\
   wpAny (model P w) X.A (letOwnedTupleGo tg (.ref it) u) (fun _ s2=>∃ x H',Inv X pins σ H' s2/\RelV x u/\J.yld i H x H'/\tn (i+1) s2.heap/\∀ b∈fp,H' b=none) E s1) E s
 done:∀ (X:Cx),X.prog=P->X.w=w->X.K=K->X.calm=true->∀ (i:Nat) (pins:List (Addr×Obj)) (s:Shared) (σ:St) (H:Hp) (E:Value->Shared->Prop),Inv X pins σ H s->(∀ b∈fp,il X pins H b)->tn i s.heap->J.stop i H->
  wpAny (model P w) X.A (pyNext (.ref it)) (fun r s1=>r=none/\Inv X pins σ H s1) E s
 self:∀ (A:Around) (i:Nat) (s:Shared) (Q:Value->Shared->Prop) (E:Value->Shared->Prop),tn i s.heap->Q (.ref it) s->wpAny (model P w) A (pyIter (.ref it)) Q E s
abbrev TI:=St->Hp->(It->Hp->Prop)->Prop
def vG (X:Cx)(pins:List (Addr×Obj))(σ:St)(tg:Expr)(R:It->Hp->Prop)(itv:Value)(s2:Shared):Prop:=
 ∃ (it:Addr) (fp:List Addr) (tn:Nat->Heap->Prop) (J:It) (H':Hp),itv=.ref it/\Inv X pins σ H' s2/\mr X.prog X.w X.K tg J fp it tn/\tn 0 s2.heap/\(∀ b∈fp,il X pins H' b)/\R J H'
def PI (X:Cx)(tg iter:Expr)(wi:TI):Prop:=
 ∀ (pins:List (Addr×Obj)) (s:Shared) (σ:St) (H:Hp) (R:It->Hp->Prop),Inv X pins σ H s->wi σ H R->
  wpAny (model X.prog X.w) X.A (eval iter X.env) (fun v s1=>wpAny (model X.prog X.w) X.A (pyIter v) (vG X pins σ tg R) X.xe s1) X.xe s
theorem kR {M:Model}{A:Around}{E:Value->Shared->Prop}{s:Shared}{tg:Expr}{it:Addr}{u:Value}{o:Obj}{n:String}{vs:Array Value}{Q:Unit->Shared->Prop}(ho:s.heap.get? it=some o)(hc:o.cls=.type n)(hd:o.data=.fields vs)
  (hn:["enumerate","zip","dict_itemiterator","dict_reverseitemiterator","odict_iterator","itertools.zip_longest","itertools.pairwise"].contains n=false) (hQ:Q () s):wpAny M A (letOwnedTupleGo tg (.ref it) u) Q E s:=by
 unfold letOwnedTupleGo
 cases tg<;>first
  |exact wpAny_pure hQ
  |(cases u<;>first
    |exact wpAny_pure hQ
    |(refine wpAny_bind (wpAny_load ho ?_)
      rw[hc,hd]
      show wpAny M A (if (["enumerate","zip","dict_itemiterator","dict_reverseitemiterator","odict_iterator","itertools.zip_longest","itertools.pairwise"].contains n&&vs[0]? == some (rawInt _))=true then _ else _) Q E s
      rw[if_neg (by intro h;rw[hn,Bool.false_and] at h;cases h)]
      exact wpAny_pure hQ))
def qR (K:PySem.W.Frag)(a:Addr):It:=
 ⟨fun i H=>∃ xs x,SqL K H a xs/\xs[i]? =some x,fun i H x H'=>H'=H/\∀ xs,SqL K H a xs->xs[i]? =some x,fun i H=>∃ xs,SqL K H a xs/\xs.length<=i⟩
def qS (K:PySem.W.Frag)(a:Addr):It:=
 ⟨fun i H=>∃ xs x,SqT K H a xs/\xs[i]? =some x,fun i H x H'=>H'=H/\∀ xs,SqT K H a xs->xs[i]? =some x,fun i H=>∃ xs,SqT K H a xs/\xs.length<=i⟩
def qT (lo:Int)(n:Nat):It:=⟨fun i _=>i < n,fun i H x H'=>H'=H/\x=.int (lo+i),fun i _=>n<=i⟩
theorem mt {P:Program}{w:World}{K:PySem.W.Frag}{tg:Expr}(a it:Addr):mr P w K tg (qR K a) [it] it (fun i h=>h.IsListIter it a i) where
 mem:=by simp
 obj:=fun i h st b hb=>by
  have e:b=it:=by simpa using hb
  subst e
  obtain⟨o,e,c,d⟩:=st
  exact⟨o,e,fun v z=>by rw[d] at z;cases z⟩
 keep:=fun i h h' st k=>st.at fun o e=>k it (by simp) o e
 item:=by
  intro X hP hw hK hc i pins s σ H E I hf st hg
  subst hP hw hK
  obtain⟨xs,x,hq,hx⟩:=hg
  obtain⟨its,rv,p,hz⟩:=I.list hq
  obtain⟨u,hu,ru⟩:=rv.get hx
  obtain⟨f0,f1,f2,f3,f4,f5⟩:=hf it (by simp)
  refine wpAny_pyNext_list_item st p.isList (x:=u) (by simpa using hu) fun h' st' sb=>?_
  have I1:Inv X pins σ H {s with heap:=h'}:=I.turned (t':=s.toks) (fun b o hb e=>(sb.2 b hb).trans e) f0 f1 f3 f4 f5
  obtain⟨o,e,c,d⟩:=id st'
  exact⟨u,rfl,kR (s:={s with heap:=h'}) e c d (by decide) ⟨x,H,I1,ru,⟨rfl,fun ys hy=>by rw[I.list_inj hy hq];exact hx⟩,st',fun b hb=>(hf b hb).1⟩⟩
 done:=by
  intro X hP hw hK hc i pins s σ H E I hf st hg
  subst hP hw hK
  obtain⟨xs,hq,hx⟩:=hg
  obtain⟨its,rv,p,hz⟩:=I.list hq
  obtain⟨f0,f1,f2,f3,f4,f5⟩:=hf it (by simp)
  have hl:=rv.length
  exact wpAny_pyNext_list_end (I.ok.hd hc) st p.isList (by simp;omega) fun h' eb=>⟨rfl,I.turned (t':=s.toks) (fun b o hb e=>eb b o hb e) f0 f1 f3 f4 f5⟩
 self:=fun _ _ _ _ _ st h=>wpAny_pyIter_listiter st h
theorem jV {P:Program}{w:World}{K:PySem.W.Frag}{tg:Expr}(a it:Addr):mr P w K tg (qS K a) [it] it (fun i h=>h.IsTupleIter it a i) where
 mem:=by simp
 obj:=fun i h st b hb=>by
  have e:b=it:=by simpa using hb
  subst e
  obtain⟨o,e,c,d⟩:=st
  exact⟨o,e,fun v z=>by rw[d] at z;cases z⟩
 keep:=fun i h h' st k=>st.at fun o e=>k it (by simp) o e
 item:=by
  intro X hP hw hK hc i pins s σ H E I hf st hg
  subst hP hw hK
  obtain⟨xs,x,hq,hx⟩:=hg
  obtain⟨its,rv,p,hz⟩:=I.tuple hq
  obtain⟨u,hu,ru⟩:=rv.get hx
  obtain⟨f0,f1,f2,f3,f4,f5⟩:=hf it (by simp)
  refine wpAny_pyNext_tuple_item st (show s.heap.IsTuple a its.toArray from p) (x:=u) (by simpa using hu) fun h' st' sb=>?_
  have I1:Inv X pins σ H {s with heap:=h'}:=I.turned (t':=s.toks) (fun b o hb e=>(sb.2 b hb).trans e) f0 f1 f3 f4 f5
  obtain⟨o,e,c,d⟩:=id st'
  exact⟨u,rfl,kR (s:={s with heap:=h'}) e c d (by decide) ⟨x,H,I1,ru,⟨rfl,fun ys hy=>by rw[I.tuple_inj hy hq];exact hx⟩,st',fun b hb=>(hf b hb).1⟩⟩
 done:=by
  intro X hP hw hK hc i pins s σ H E I hf st hg
  subst hP hw hK
  obtain⟨xs,hq,hx⟩:=hg
  obtain⟨its,rv,p,hz⟩:=I.tuple hq
  obtain⟨f0,f1,f2,f3,f4,f5⟩:=hf it (by simp)
  have hl:=rv.length
  exact wpAny_pyNext_tuple_end (I.ok.hd hc) st (show s.heap.IsTuple a its.toArray from p) (by simp;omega) fun h' eb=>⟨rfl,I.turned (t':=s.toks) (fun b o hb e=>eb b o hb e) f0 f1 f3 f4 f5⟩
 self:=fun _ _ _ _ _ st h=>wpAny_pyIter_tupleiter st h
theorem jW {P:Program}{w:World}{K:PySem.W.Frag}{tg:Expr}(it:Addr)(lo:Int)(n:Nat):mr P w K tg (qT lo n) [it] it (fun i h=>IsRangeIter h it (lo+(i:Nat)*1) ((n:Int) - (i:Nat)) 1) where
 mem:=by simp
 obj:=fun i h st b hb=>by
  have e:b=it:=by simpa using hb
  subst e
  exact⟨_,st,fun v z=>by
   have z':Data.fields _=Data.cell v:=z
   cases z'⟩
 keep:=fun i h h' st k=>k it (by simp) _ st
 item:=by
  intro X hP hw hK hc i pins s σ H E I hf st hg
  subst hP hw hK
  obtain⟨f0,f1,f2,f3,f4,f5⟩:=hf it (by simp)
  have W:=Walks.range (prog:=X.prog) (w:=X.w) (I.ok.hd hc) it lo 1 n
  refine W.item i s _ _ hg st fun v h' tk hv st' kk=>?_
  obtain⟨t,rfl⟩:=hv
  have I1:Inv X pins σ H {s with heap:=h',toks:=tk}:=I.turned (fun b o hb e=>kk b o (by simpa using hb) e) f0 f1 f3 f4 f5
  refine⟨_,rfl,kR (s:={s with heap:=h',toks:=tk}) (n:="range_iterator") st' rfl rfl (by decide) ⟨.int (lo+i),H,I1,⟨t,?_⟩,⟨rfl,rfl⟩,st',fun b hb=>(hf b hb).1⟩⟩
  rw[Int.mul_one]
 done:=by
  intro X hP hw hK hc i pins s σ H E I hf st hg
  subst hP hw hK
  obtain⟨f0,f1,f2,f3,f4,f5⟩:=hf it (by simp)
  exact wpAny_pyNext_range_end (I.ok.hd hc) st (by have:n<=i:=hg;omega) fun h' eb=>⟨rfl,I.turned (t':=s.toks) (fun b o hb e=>eb b o hb e) f0 f1 f3 f4 f5⟩
 self:=fun _ _ _ _ _ st h=>wpAny_pyIter_rangeiter st h
end L2
namespace L2
open PySem PySem.Spec PyProof.Rows
section
variable {X:Cx}{tg:Expr}
inductive tZ (K:PySem.W.Frag)(x:V)(H:Hp)(R:It->Hp->Prop):Prop
 |mk (a:Addr)(h:x=.ref a)(e:∃ xs,SqL K H a xs)(r:R (qR K a) H):tZ K x H R
inductive t0 (K:PySem.W.Frag)(x:V)(H:Hp)(R:It->Hp->Prop):Prop
 |mk (a:Addr)(h:x=.ref a)(e:∃ xs,SqT K H a xs)(r:R (qS K a) H):t0 K x H R
def t3 (K:PySem.W.Frag)(tl:TE):TI:=fun σ H R=>tl σ H fun x H1=>tZ K x H1 R
def t4 (K:PySem.W.Frag)(tl:TE):TI:=fun σ H R=>tl σ H fun x H1=>t0 K x H1 R
theorem aS {l:Expr}{tl:TE}(hl:PE X l tl):PI X tg l (t3 X.K tl):=by
 intro pins s σ H R I h
 refine bh (hl pins s σ H _ I h) fun v s1 ⟨x,H1,I1,r1,q1⟩=>?_
 obtain⟨a,e,⟨xs,hq⟩,q⟩:=q1
 subst e
 cases r1
 obtain⟨its,rv,p,hz⟩:=I1.list hq
 refine wpAny_pyIter_list p.isList ?_
 refine⟨s1.heap.objs.size,[s1.heap.objs.size],_,_,H1,rfl,I1.kept (t':=s1.toks) fun b o e=>Heap.get?_push_of_some _ e,mt a _,⟨_,Heap.get?_push_size _ rfl,rfl,rfl⟩,fun b hb=>?_,q⟩
 have e:b=s1.heap.objs.size:=by simpa using hb
 subst e
 exact I1.fpOk (Nat.le_refl _) (I1.hok.fresh (Nat.le_refl _))
theorem ca {l:Expr}{tl:TE}(hl:PE X l tl):PI X tg l (t4 X.K tl):=by
 intro pins s σ H R I h
 refine bh (hl pins s σ H _ I h) fun v s1 ⟨x,H1,I1,r1,q1⟩=>?_
 obtain⟨a,e,⟨xs,hq⟩,q⟩:=q1
 subst e
 cases r1
 obtain⟨its,rv,p,hz⟩:=I1.tuple hq
 refine wpAny_pyIter_tuple (show s1.heap.IsTuple a its.toArray from p) ?_
 refine⟨s1.heap.objs.size,[s1.heap.objs.size],_,_,H1,rfl,I1.kept (t':=s1.toks) fun b o e=>Heap.get?_push_of_some _ e,jV a _,⟨_,Heap.get?_push_size _ rfl,rfl,rfl⟩,fun b hb=>?_,q⟩
 have e:b=s1.heap.objs.size:=by simpa using hb
 subst e
 exact I1.fpOk (Nat.le_refl _) (I1.hok.fresh (Nat.le_refl _))
theorem iY {pins:List (Addr×Obj)}{σ:St}{H:Hp}{s:Shared}{R:It->Hp->Prop}{E:Value->Shared->Prop}{lo hi:Int}{t u v:Tok}{tk:Nat}(I:Inv X pins σ H s)(h1:-(2 ^ 62)<=lo)(h2:lo < 2 ^ 62)(h3:-(2 ^ 62)<=hi)(h4:hi < 2 ^ 62)
  (q:R (qT lo (hi - lo).toNat) H):wpAny (model X.prog X.w) X.A (pyIter (.ref s.heap.objs.size)) (vG X pins σ tg R) E {s with heap:=s.heap.push {cls:=.type "range",data:=.fields #[.int lo t,.int hi u,.int 1 v]},toks:=tk}:=by
 refine wpAny_pyIter_range (IsRange.new ..) (small_one h1 h2 h3 h4) ?_
 have I1:Inv X pins σ H {s with heap:=s.heap.push {cls:=.type "range",data:=.fields #[.int lo t,.int hi u,.int 1 v]},toks:=tk}:=I.kept fun b o e=>Heap.get?_push_of_some _ e
 refine⟨(s.heap.push {cls:=.type "range",data:=.fields #[.int lo t,.int hi u,.int 1 v]}).objs.size,[(s.heap.push {cls:=.type "range",data:=.fields #[.int lo t,.int hi u,.int 1 v]}).objs.size],_,_,H,rfl,
  I1.kept (t':=tk) fun b o e=>Heap.get?_push_of_some _ e,jW _ lo (hi - lo).toNat,?_,fun b hb=>?_,q⟩
 ·have e1:lo+((0:Nat):Int)*1=lo:=by simp
  have e2:(((hi - lo).toNat:Nat):Int) - ((0:Nat):Int)=Builtin.Range.rangeSize lo hi 1:=by rw[rangeSize_one];split<;>omega
  show IsRangeIter _ _ (lo+((0:Nat):Int)*1) ((((hi - lo).toNat:Nat):Int) - ((0:Nat):Int)) 1
  rw[e1,e2]
  exact Heap.get?_push_size _ rfl
 ·have e:b=(s.heap.push {cls:=.type "range",data:=.fields #[.int lo t,.int hi u,.int 1 v]}).objs.size:=by simpa using hb
  subst e
  exact I1.fpOk (Nat.le_refl _) (I1.hok.fresh (Nat.le_refl _))
def t5 (ta:TA):TI:=fun σ H R=>ta σ H fun vs H1=>∃ j:Int,vs=[.int j]/\ -(2 ^ 62)<=j/\j < 2 ^ 62/\R (qT 0 j.toNat) H1
def t6 (ta:TA):TI:=fun σ H R=>ta σ H fun vs H1=>∃ i j:Int,vs=[.int i,.int j]/\(-(2 ^ 62)<=i/\i < 2 ^ 62/\ -(2 ^ 62)<=j/\j < 2 ^ 62)/\R (qT i (j - i).toNat) H1
theorem gN {a:Expr}{ta:TA}{p pos:Pos}(hg:Gl X "range")(hm:X.mg "range"=none)(ha:PA X [a] ta)(hs:starEach [a] X.env=[(false,eval a X.env)]:=by rfl):PI X tg (.Call (.Name "range" p) [a] [] pos) (t5 ta):=by
 intro pins s σ H R I h
 refine Call_ (cK I hg hm boot_range (PyProof.Rows.callWith_type1 (bh (ha pos pins s σ H _ I h) fun us s1 ⟨vs,H1,I1,r1,q1⟩=>?_) hs rfl))
 obtain⟨j,e,q1,q2,q⟩:=q1
 subst e
 cases r1 with
 |cons r rr=>
  cases rr
  obtain⟨t,rfl⟩:=r
  exact call_range_1 (iY I1 (by omega) (by omega) q1 q2 (by simpa using q))
theorem gO {a b:Expr}{ta:TA}{p pos:Pos}(hg:Gl X "range")(hm:X.mg "range"=none)(ha:PA X [a,b] ta)(hs:starEach [a,b] X.env=[(false,eval a X.env),(false,eval b X.env)]:=by rfl)(hs2:starEach [b] X.env=[(false,eval b X.env)]:=by rfl):
  PI X tg (.Call (.Name "range" p) [a,b] [] pos) (t6 ta):=by
 intro pins s σ H R I h
 refine Call_ (cK I hg hm boot_range (PyProof.Rows.callWith_type1 (bh (ha pos pins s σ H _ I h) fun us s1 ⟨vs,H1,I1,r1,q1⟩=>?_) (by rw[hs,hs2]) (by rw[hs2];rfl)))
 obtain⟨i,j,e,⟨q1,q2,q3,q4⟩,q⟩:=q1
 subst e
 cases r1 with
 |cons r rr=>
  cases rr with
  |cons r' rr=>
   cases rr
   obtain⟨t,rfl⟩:=r
   obtain⟨t',rfl⟩:=r'
   exact call_range_2 (iY I1 q1 q2 q3 q4 q)
def vm (wi:TI)(g:TG)(tb:TS):TS:=fun D σ H=>wi σ H fun J H1=>∃ W:Nat->Nat->St->Hp->Prop,(∃ m,W 0 m σ H1)/\∀ i m σ H,W i m σ H->
 (J.stop i H/\D.nx σ H)\/(J.go i H/\∃ N:St->Hp->Prop,(∀ σ' H',N σ' H'->∃ m',m' < m/\W (i+1) m' σ' H')/\∀ x H',J.yld i H x H'->g x σ H' fun σ2 H2=>tb {D with nx:=N,ct:=N,bk:=D.nx} σ2 H2)
def gb (fp:List Addr)(h:Heap):List (Addr×Obj):=fp.filterMap fun b=>(h.get? b).map fun o=>(b,o)
theorem dm {fp:List Addr}{h:Heap}{b:Addr}{o:Obj}(hb:b∈fp)(e:h.get? b=some o):(b,o)∈gb fp h:=List.mem_filterMap.mpr ⟨b,hb,by rw[e];rfl⟩
theorem mv {fp:List Addr}{h:Heap}{p:Addr×Obj}(hp:p∈gb fp h):p.1∈fp/\h.get? p.1=some p.2:=by
 obtain⟨b,hb,e⟩:=List.mem_filterMap.mp hp
 cases q:h.get? b with
 |none=>rw[q] at e;cases e
 |some o=>
  rw[q] at e
  have e':(b,o)=p:=Option.some.inj e
  subst e'
  exact⟨hb,q⟩
theorem Inv.pinned {pins:List (Addr×Obj)}{σ:St}{H:Hp}{s:Shared}{fp:List Addr}(I:Inv X pins σ H s)(hf:∀ b∈fp,il X pins H b)(ho:∀ b∈fp,∃ o,s.heap.get? b=some o/\∀ v,o.data≠.cell v):Inv X (pins++gb fp s.heap) σ H s:=
 I.pins_of fun p hp=>(List.mem_append.mp hp).elim (fun z=>I.pin p (List.mem_append_right _ z)) fun z=>by
  obtain⟨hb,e⟩:=mv z
  obtain⟨f0,f1,f2,_⟩:=hf p.1 hb
  obtain⟨o,e',d⟩:=ho p.1 hb
  rw[e] at e';cases e'
  exact⟨e,f0,f1,f2,d⟩
theorem Inv.unpinned {pins pl:List (Addr×Obj)}{σ:St}{H:Hp}{s:Shared}(I:Inv X (pins++pl) σ H s):Inv X pins σ H s:=I.pins_of fun p hp=>I.pin p (List.mem_append_right _ (List.mem_append_left _ hp))
theorem bA {iter:Expr}{body:List Stmt}{wi:TI}{g:TG}{tb:TS}{pos:Pos}(hp:PassesOwn (model X.prog X.w) X.A X.env X.xe)(hc:X.calm=true)(hi:PI X tg iter wi)(hg:PG X tg g)(hb:PSs X body tb)
  (hs:∀ x,foldedSetIterable iter X.env x=pure x:=by intro _;rfl):PS X (.For tg iter body [] pos) (vm wi g tb):=by
 intro pins s σ H D I h
 refine wpAny_For (bh (hi pins s σ H _ I h) fun v s1 h1=>bh h1 fun itv s2 h2=>?_) hs
 obtain⟨it,fp,tn,J,H2,e,I2,T,st2,f2,W,⟨m0,w0⟩,turn⟩:=h2
 subst e
 have stat:∀ {H':Hp},(∀ b∈fp,H' b=none)->∀ b∈fp,il X pins H' b:=fun hn b hb=>⟨hn b hb,(f2 b hb).2⟩
 refine codeAny_forLoop_any (fun n s'=>∃ i σ' H',Inv X pins σ' H' s'/\tn i s'.heap/\(∀ b∈fp,H' b=none)/\W i n σ' H') ?_ m0 ⟨0,σ,H2,I2,st2,fun b hb=>(f2 b hb).1,w0⟩
 rintro n s3 ⟨i,σ3,H3,I3,st3,fr3,w3⟩
 rcases turn i n σ3 H3 w3 with⟨stop,qn⟩|⟨go,N,hN,step⟩
 ·refine wpAny_passesOwn hp (bh (T.done X rfl rfl rfl hc i pins s3 σ3 H3 X.xe I3 (stat fr3) st3 stop) fun r s4 ⟨hr,I4⟩=>?_)
  subst hr
  exact wpAny_execs_nil ⟨σ3,H3,I4,qn⟩
 ·refine wpAny_passesOwn hp (bh (T.item X rfl rfl rfl hc i pins s3 σ3 H3 X.xe I3 (stat fr3) st3 go) fun r s4 ⟨u,hr,h4⟩=>?_)
  subst hr
  refine wpAny_passesOwn hp (bh h4 fun _ s5 ⟨x,H5,I5,r5,y5,st5,fr5⟩=>?_)
  have I5':=I5.pinned (stat fr5) (T.obj _ _ st5)
  refine wpAny_passesOwn hp (bh (hg _ s5 σ3 H5 x u _ I5' r5 (step x H5 y5)) fun _ s6 ⟨σ6,H6,I6,q6⟩=>?_)
  refine wpAny_passesOwn hp (bh (hb _ s6 σ6 H6 _ I6 q6) fun f s7 q7=>?_)
  have again:∀ {σ7:St} {H7:Hp},Inv X (pins++gb fp s5.heap) σ7 H7 s7->N σ7 H7->∃ m,m < n/\∃ i σ' H',Inv X pins σ' H' s7/\tn i s7.heap/\(∀ b∈fp,H' b=none)/\W i m σ' H':=fun {σ7 H7} I7 n7=>by
   obtain⟨m',hm,w7⟩:=hN σ7 H7 n7
   refine⟨m',hm,i+1,σ7,H7,I7.unpinned,T.keep _ _ _ st5 fun b hb o e=>(I7.pin (b,o) (List.mem_append_right _ (List.mem_append_right _ (dm hb e)))).1,fun b hb=>?_,w7⟩
   obtain⟨o,e,d⟩:=T.obj _ _ st5 b hb
   exact (I7.pin (b,o) (List.mem_append_right _ (List.mem_append_right _ (dm hb e)))).2.1
  cases f with
  |next=>obtain⟨σ7,H7,I7,n7⟩:=q7;exact again I7 n7
  |cont=>obtain⟨σ7,H7,I7,n7⟩:=q7;exact again I7 n7
  |brk=>obtain⟨σ7,H7,I7,q7⟩:=q7;exact⟨σ7,H7,I7.unpinned,q7⟩
  |ret v=>obtain⟨x7,σ7,H7,I7,r7,q7⟩:=q7;exact⟨x7,σ7,H7,I7.unpinned,r7,q7⟩
end
theorem cb {K:PySem.W.Frag}{a:Addr}{xs:List V}{g:TG}{tb:TS}{D:fZ}{σ:St}{H:Hp}(Pv:Nat->St->Hp->Prop)(h0:Pv 0 σ H)(hl:∀ i σ H,i<=xs.length->Pv i σ H->SqL K H a xs)
  (hs:∀ i x σ H,xs[i]? =some x->Pv i σ H->g x σ H fun σ2 H2=>tb {D with nx:=Pv (i+1),ct:=Pv (i+1),bk:=D.nx} σ2 H2) (hd:∀ σ H,Pv xs.length σ H->D.nx σ H):
  ∃ W:Nat->Nat->St->Hp->Prop,(∃ m,W 0 m σ H)/\∀ i m σ H,W i m σ H->
   ((qR K a).stop i H/\D.nx σ H)\/((qR K a).go i H/\∃ N:St->Hp->Prop,(∀ σ' H',N σ' H'->∃ m',m' < m/\W (i+1) m' σ' H')/\∀ x H',(qR K a).yld i H x H'->g x σ H' fun σ2 H2=>tb {D with nx:=N,ct:=N,bk:=D.nx} σ2 H2):=by
 refine⟨fun i m σ H=>m=xs.length - i/\i<=xs.length/\Pv i σ H,⟨xs.length,by simp,Nat.zero_le _,h0⟩,?_⟩
 rintro i m σ H ⟨rfl,hi,p⟩
 have q:=hl i σ H hi p
 by_cases hlt:i < xs.length
 ·refine .inr ⟨⟨xs,xs[i],q,by simp [hlt]⟩,Pv (i+1),fun σ' H' p'=>⟨xs.length - (i+1),by omega,rfl,hlt,p'⟩,fun x H' y=>?_⟩
  obtain⟨e,y⟩:=y
  subst e
  exact hs i x σ _ (y xs q) p
 ·have e:i=xs.length:=by omega
  subst e
  exact .inl ⟨⟨xs,q,Nat.le_refl _⟩,hd σ H p⟩
theorem im {K:PySem.W.Frag}{a:Addr}{xs:List V}{g:TG}{tb:TS}{D:fZ}{σ:St}{H:Hp}(Pv:Nat->St->Hp->Prop)(h0:Pv 0 σ H)(hl:∀ i σ H,i<=xs.length->Pv i σ H->SqT K H a xs)
  (hs:∀ i x σ H,xs[i]? =some x->Pv i σ H->g x σ H fun σ2 H2=>tb {D with nx:=Pv (i+1),ct:=Pv (i+1),bk:=D.nx} σ2 H2) (hd:∀ σ H,Pv xs.length σ H->D.nx σ H):
  ∃ W:Nat->Nat->St->Hp->Prop,(∃ m,W 0 m σ H)/\∀ i m σ H,W i m σ H->
   ((qS K a).stop i H/\D.nx σ H)\/((qS K a).go i H/\∃ N:St->Hp->Prop,(∀ σ' H',N σ' H'->∃ m',m' < m/\W (i+1) m' σ' H')/\∀ x H',(qS K a).yld i H x H'->g x σ H' fun σ2 H2=>tb {D with nx:=N,ct:=N,bk:=D.nx} σ2 H2):=by
 refine⟨fun i m σ H=>m=xs.length - i/\i<=xs.length/\Pv i σ H,⟨xs.length,by simp,Nat.zero_le _,h0⟩,?_⟩
 rintro i m σ H ⟨rfl,hi,p⟩
 have q:=hl i σ H hi p
 by_cases hlt:i < xs.length
 ·refine .inr ⟨⟨xs,xs[i],q,by simp [hlt]⟩,Pv (i+1),fun σ' H' p'=>⟨xs.length - (i+1),by omega,rfl,hlt,p'⟩,fun x H' y=>?_⟩
  obtain⟨e,y⟩:=y
  subst e
  exact hs i x σ _ (y xs q) p
 ·have e:i=xs.length:=by omega
  subst e
  exact .inl ⟨⟨xs,q,Nat.le_refl _⟩,hd σ H p⟩
theorem gP {lo:Int}{n:Nat}{g:TG}{tb:TS}{D:fZ}{σ:St}{H:Hp}(Pv:Nat->St->Hp->Prop)(h0:Pv 0 σ H)
  (hs:∀ i σ H,i < n->Pv i σ H->g (.int (lo+i)) σ H fun σ2 H2=>tb {D with nx:=Pv (i+1),ct:=Pv (i+1),bk:=D.nx} σ2 H2) (hd:∀ σ H,Pv n σ H->D.nx σ H):
  ∃ W:Nat->Nat->St->Hp->Prop,(∃ m,W 0 m σ H)/\∀ i m σ H,W i m σ H->
   ((qT lo n).stop i H/\D.nx σ H)\/((qT lo n).go i H/\∃ N:St->Hp->Prop,(∀ σ' H',N σ' H'->∃ m',m' < m/\W (i+1) m' σ' H')/\∀ x H',(qT lo n).yld i H x H'->g x σ H' fun σ2 H2=>tb {D with nx:=N,ct:=N,bk:=D.nx} σ2 H2):=by
 refine⟨fun i m σ H=>m=n - i/\i<=n/\Pv i σ H,⟨n,by simp,Nat.zero_le _,h0⟩,?_⟩
 rintro i m σ H ⟨rfl,hi,p⟩
 by_cases hlt:i < n
 ·refine .inr ⟨hlt,Pv (i+1),fun σ' H' p'=>⟨n - (i+1),by omega,rfl,hlt,p'⟩,fun x H' y=>?_⟩
  obtain⟨e,y⟩:=y
  subst e y
  exact hs i σ _ hlt p
 ·have e:i=n:=by omega
  subst e
  exact .inl ⟨Nat.le_refl _,hd σ H p⟩
end L2
namespace L2
open PySem PySem.Spec PyProof.Rows
abbrev R2:=V->V->Hp->VK->Prop
def OpR (X:Cx)(f:Value->Value->Sem Value)(r:R2):Prop:=
 ∀ (pins:List (Addr×Obj)) (s:Shared) (σ:St) (H:Hp) (x y:V) (v u:Value) (Q:VK),Inv X pins σ H s->RelV x v->RelV y u->r x y H Q->
  wpAny (model X.prog X.w) X.A (f v u) (EP X pins σ Q) X.xe s
def vn (X:Cx)(f:Value->Sem Value)(r:V->Hp->VK->Prop):Prop:=
 ∀ (pins:List (Addr×Obj)) (s:Shared) (σ:St) (H:Hp) (x:V) (v:Value) (Q:VK),Inv X pins σ H s->RelV x v->r x H Q->
  wpAny (model X.prog X.w) X.A (f v) (EP X pins σ Q) X.xe s
def cT (X:Cx)(f:Value)(r:List V->Hp->VK->Prop):Prop:=
 ∀ (pins:List (Addr×Obj)) (s:Shared) (σ:St) (H:Hp) (xs:List V) (us:List Value) (Q:VK),Inv X pins σ H s->Vals xs us->r xs H Q->
  wpAny (model X.prog X.w) X.A (call f us) (EP X pins σ Q) X.xe s
def vo (X:Cx)(r:V->Hp->(Bool->Hp->Prop)->Prop):Prop:=
 ∀ (pins:List (Addr×Obj)) (s:Shared) (σ:St) (H:Hp) (x:V) (v:Value) (Q:Bool->Hp->Prop),Inv X pins σ H s->RelV x v->r x H Q->
  wpAny (model X.prog X.w) X.A (truthy v) (TP X pins σ Q) X.xe s
def u5 (r:R2)(ta tb:TE):TE:=fun σ H Q=>ta σ H fun x H1=>tb σ H1 fun y H2=>r x y H2 Q
def vY (r:V->Hp->VK->Prop)(ta:TE):TE:=fun σ H Q=>ta σ H fun x H1=>r x H1 Q
inductive vH (C:Int->Int->Prop)(g:Int->Int->V)(x y:V)(H:Hp)(Q:VK):Prop
 |mk (i j:Int)(hx:x=.int i)(hy:y=.int j)(c:C i j)(q:Q (g i j) H):vH C g x y H Q
inductive vI (g:Int->Int->V)(x y:V)(H:Hp)(Q:VK):Prop
 |mk (i j:Int)(hx:x=.int i)(hy:y=.int j)(q:Q (g i j) H):vI g x y H Q
inductive vJ (g:Int->V)(x:V)(H:Hp)(Q:VK):Prop
 |mk (i:Int)(hx:x=.int i)(q:Q (g i) H):vJ g x H Q
def rI (C:Int->Int->Prop)(g:Int->Int->V):R2:=fun x y H Q=>vH C g x y H Q
def pP (g:Int->Int->V):R2:=fun x y H Q=>vI g x y H Q
def rU (g:Int->V):V->Hp->VK->Prop:=fun x H Q=>vJ g x H Q
section
variable {X:Cx}{a b c:Expr}{ta tb tc:TE}{pos:Pos}
theorem sm (ha:PE X a ta)(hb:PE X b tb){pins:List (Addr×Obj)}{s:Shared}{σ:St}{H:Hp}{R:V->V->Hp->Prop}(I:Inv X pins σ H s)
  (h:ta σ H fun x H1=>tb σ H1 fun y H2=>R x y H2) {Q:Value->Shared->Prop} {f:Value->Value->Sem Value}
  (hf:∀ v u s2 x y H2,Inv X pins σ H2 s2->RelV x v->RelV y u->R x y H2->wpAny (model X.prog X.w) X.A (f v u) Q X.xe s2):
  wpAny (model X.prog X.w) X.A (eval a X.env) (fun v s₁=>wpAny (model X.prog X.w) X.A (eval b X.env) (fun u s₂=>wpAny (model X.prog X.w) X.A (f v u) Q X.xe s₂) X.xe s₁) X.xe s:=by
 refine bh (ha pins s σ H _ I h) fun v s1 ⟨x,H1,I1,r1,q1⟩=>?_
 refine bh (hb pins s1 σ H1 _ I1 q1) fun u s2 ⟨y,H2,I2,r2,q2⟩=>?_
 exact hf v u s2 x y H2 I2 r1 r2 q2
theorem aB {op:Operator}{r:R2}(ho:OpR X (binaryOp op) r)(ha:PE X a ta)(hb:PE X b tb):PE X (.BinOp a op b pos) (u5 r ta tb):=by
 intro pins s σ H Q I h
 exact wpAny_BinOp (sm ha hb I h fun v u s2 x y H2 I2 rx ry q=>ho pins s2 σ H2 x y v u Q I2 rx ry q)
theorem eE {op:UnaryOp}{r:V->Hp->VK->Prop}(ho:vn X (unaryOp op) r)(ha:PE X a ta):PE X (.UnaryOp op a pos) (vY r ta):=by
 intro pins s σ H Q I h
 exact UnaryOp_ (bh (ha pins s σ H _ I h) fun v s1 ⟨x,H1,I1,r1,q1⟩=>ho pins s1 σ H1 x v Q I1 r1 q1)
theorem u6 {f:Value->Value->Sem Value}{C:Int->Int->Prop}{g:Int->Int->Int}
  (rule:∀ (i j:Int) (t u:Tok) (s:Shared) (Q:Value->Shared->Prop) (E:Value->Shared->Prop),C i j->Q (.int (g i j) s.toks) {s with toks:=s.toks+1}->wpAny (model X.prog X.w) X.A (f (.int i t) (.int j u)) Q E s):
  OpR X f (rI C fun i j=>.int (g i j)):=by
 intro pins s σ H x y v u Q I rx ry h
 obtain⟨i,j,rfl,rfl,hc,q⟩:=h
 obtain⟨t,rfl⟩:=rx
 obtain⟨t',rfl⟩:=ry
 exact rule i j t t' s _ _ hc ⟨.int (g i j),H,I.tok _,⟨_,rfl⟩,q⟩
theorem so {f:Value->Value->Sem Value}{g:Int->Int->Int}
  (rule:∀ (i j:Int) (t u:Tok) (s:Shared) (Q:Value->Shared->Prop) (E:Value->Shared->Prop),Q (.int (g i j) s.toks) {s with toks:=s.toks+1}->wpAny (model X.prog X.w) X.A (f (.int i t) (.int j u)) Q E s):
  OpR X f (pP fun i j=>.int (g i j)):=by
 intro pins s σ H x y v u Q I rx ry h
 obtain⟨i,j,rfl,rfl,q⟩:=h
 obtain⟨t,rfl⟩:=rx
 obtain⟨t',rfl⟩:=ry
 exact rule i j t t' s _ _ ⟨.int (g i j),H,I.tok _,⟨_,rfl⟩,q⟩
theorem pQ {f:Value->Value->Sem Value}{g:Int->Int->Bool}
  (rule:∀ (i j:Int) (t u:Tok) (s:Shared) (Q:Value->Shared->Prop) (E:Value->Shared->Prop),Q (.bool (g i j)) s->wpAny (model X.prog X.w) X.A (f (.int i t) (.int j u)) Q E s):
  OpR X f (pP fun i j=>.bl (g i j)):=by
 intro pins s σ H x y v u Q I rx ry h
 obtain⟨i,j,rfl,rfl,q⟩:=h
 obtain⟨t,rfl⟩:=rx
 obtain⟨t',rfl⟩:=ry
 exact rule i j t t' s _ _ ⟨.bl (g i j),H,I,rfl,q⟩
def vp (i j:Int):Prop:=0 < j/\j < 1073741824
def CMul (i j:Int):Prop:=(-(2 ^ 64) < i/\i < 2 ^ 64)\/(-(2 ^ 64) < j/\j < 2 ^ 64)
theorem CMul.ok {i j:Int}(h:CMul i j):IntMulOk i j:=by
 rcases h with⟨h1,h2⟩|⟨h1,h2⟩
 ·exact .of_left (intBits_le_64 h1 h2)
 ·exact .of_right (intBits_le_64 h1 h2)
theorem jX (k:Nat):(0:Int)<=2 ^ k:=by
 rw[two_pow_cast]
 exact Int.natCast_nonneg _
theorem b0:OpR X (binaryOp .Add) (pP fun i j=>.int (i+j)):=so fun _ _ _ _ _ _ _ q=>add_int q
theorem dW:OpR X (binaryOp .Sub) (pP fun i j=>.int (i - j)):=so fun _ _ _ _ _ _ _ q=>sub_int q
theorem fe:OpR X (binaryOp .Mult) (rI CMul fun i j=>.int (i*j)):=u6 fun _ _ _ _ _ _ _ hc q=>mul_int q hc.ok
theorem dn:OpR X (binaryOp .FloorDiv) (rI vp fun i j=>.int (i / j)):=u6 fun i j _ _ _ _ _ hc q=>by
 have h1:(0:Int) < j:=hc.1
 have h2:j < 1073741824:=hc.2
 exact floordiv_int (by omega) (by rw[Int.fdiv_eq_ediv_of_nonneg i (by omega)];exact q) (.inl (PyProof.noPylong_small (by omega)))
theorem cw:OpR X (binaryOp .Mod) (rI (fun _ j=>0 < j) fun i j=>.int (i % j)):=u6 fun i j _ _ _ _ _ hc q=>by
 have h1:(0:Int) < j:=hc
 exact mod_int' (by omega) (by rw[Int.fmod_eq_emod_of_nonneg i (by omega)];exact q)
theorem sq:OpR X (binaryOp .RShift) (rI (fun _ j=>0<=j) fun i j=>.int (i / 2 ^ j.toNat)):=u6 fun i j _ _ _ _ _ hc q=>
 rshift_int hc (by rw[Int.fdiv_eq_ediv_of_nonneg i (jX _)];exact q)
theorem sr:OpR X (binaryOp .BitAnd) (pP fun i j=>.int (Builtin.bitAnd i j)):=so fun _ _ _ _ _ _ _ q=>and_int q
theorem vZ {f:Value->Sem Value}{g:Int->Int}
  (rule:∀ (i:Int) (t:Tok) (s:Shared) (Q:Value->Shared->Prop) (E:Value->Shared->Prop),Q (.int (g i) s.toks) {s with toks:=s.toks+1}->wpAny (model X.prog X.w) X.A (f (.int i t)) Q E s):
  vn X f (rU fun i=>.int (g i)):=by
 intro pins s σ H x v Q I rx h
 obtain⟨i,rfl,q⟩:=h
 obtain⟨t,rfl⟩:=rx
 exact rule i t s _ _ ⟨.int (g i),H,I.tok _,⟨_,rfl⟩,q⟩
theorem dq:vn X (unaryOp .USub) (rU fun i=>.int (-i)):=vZ fun _ _ _ _ _ q=>neg_int q
end
def t7:V->V->Bool
 |.non,.non=>true|.non,.int _=>true|.int _,.non=>true|.non,.bl _=>true|.bl _,.non=>true|.non,.str _=>true|.str _,.non=>true
 |.int _,.int _=>true|.bl _,.bl _=>true|.str _,.str _=>true|.byt _,.byt _=>true
 |.int _,.str _=>true|.str _,.int _=>true|.bl _,.str _=>true|.str _,.bl _=>true
 |_,_=>false
def vK:R2:=fun x y H Q=>t7 x y=true/\Q (.bl (decide (x=y))) H
def vq:R2:=fun x y H Q=>t7 x y=true/\Q (.bl (!decide (x=y))) H
theorem kT {i j:Int}:decide (V.int i=V.int j)=(i == j):=by
 rw[Bool.eq_iff_iff]
 simp
theorem nr {i j:Bool}:decide (V.bl i=V.bl j)=(i == j):=by
 rw[Bool.eq_iff_iff]
 simp
theorem kU {i j:Str}:decide (V.str i=V.str j)=(i == j):=by
 rw[Bool.eq_iff_iff]
 simp
theorem kW {i j:Array UInt8}:decide (V.byt i=V.byt j)=(i.toList == j.toList):=by
 rw[Bool.eq_iff_iff]
 cases i
 cases j
 simp
section
variable {X:Cx}{a b c:Expr}{ta tb tc:TE}{pos:Pos}
theorem aQ {pins:List (Addr×Obj)}{σ:St}{H:Hp}{s:Shared}{Q:VK}{k k':Bool}(I:Inv X pins σ H s)(q:Q (.bl k) H)(e:k=k'):EP X pins σ Q (.bool k') s:=by
 subst e
 exact⟨.bl k,H,I,rfl,q⟩
theorem t9:OpR X (compareOp .Eq) vK:=by
 intro pins s σ H x y v u Q I rx ry h
 obtain⟨hs,q⟩:=h
 cases x with
 |non=>
  cases rx
  cases y with
  |non=>cases ry;exact PySem.EqNone.eq_none_none (aQ I q (by simp))
  |bl j=>cases ry;exact PySem.EqNone.eq_none_bool (aQ I q (by simp))
  |int j=>obtain⟨t',rfl⟩:=ry;exact PySem.EqNone.eq_none_int (aQ I q (by simp))
  |str j=>obtain⟨t',rfl⟩:=ry;exact PySem.EqNone.eq_none_str (aQ I q (by simp))
  |_=>exact absurd (show false=true from hs) Bool.false_ne_true
 |bl i=>
  cases rx
  cases y with
  |non=>cases ry;exact PySem.EqNone.eq_bool_none (aQ I q (by simp))
  |bl j=>cases ry;exact eq_bool (aQ I q nr)
  |str j=>obtain⟨t',rfl⟩:=ry;exact PySem.EqMixed.eq_bool_str (aQ I q (by simp))
  |_=>exact absurd (show false=true from hs) Bool.false_ne_true
 |int i=>
  obtain⟨t,rfl⟩:=rx
  cases y with
  |non=>cases ry;exact PySem.EqNone.eq_int_none (aQ I q (by simp))
  |int j=>obtain⟨t',rfl⟩:=ry;exact eq_int (aQ I q kT)
  |str j=>obtain⟨t',rfl⟩:=ry;exact PySem.EqMixed.eq_int_str (aQ I q (by simp))
  |_=>exact absurd (show false=true from hs) Bool.false_ne_true
 |str i=>
  obtain⟨t,rfl⟩:=rx
  cases y with
  |non=>cases ry;exact PySem.EqNone.eq_str_none (aQ I q (by simp))
  |bl j=>cases ry;exact PySem.EqMixed.eq_str_bool (aQ I q (by simp))
  |int j=>obtain⟨t',rfl⟩:=ry;exact PySem.EqMixed.eq_str_int (aQ I q (by simp))
  |str j=>obtain⟨t',rfl⟩:=ry;exact eq_str (aQ I q kU)
  |_=>exact absurd (show false=true from hs) Bool.false_ne_true
 |byt i=>
  obtain⟨t,rfl⟩:=rx
  cases y with
  |byt j=>obtain⟨t',rfl⟩:=ry;exact PySem.W.eq_bytes (aQ I q kW)
  |_=>exact absurd (show false=true from hs) Bool.false_ne_true
 |_=>cases y<;>exact absurd (show false=true from hs) Bool.false_ne_true
theorem t_:OpR X (compareOp .NotEq) vq:=by
 intro pins s σ H x y v u Q I rx ry h
 obtain⟨hs,q⟩:=h
 cases x with
 |non=>
  cases rx
  cases y with
  |non=>cases ry;exact PySem.EqNone.ne_none_none (aQ I q (by simp))
  |bl j=>cases ry;exact PySem.EqNone.ne_none_bool (aQ I q (by simp))
  |int j=>obtain⟨t',rfl⟩:=ry;exact PySem.EqNone.ne_none_int (aQ I q (by simp))
  |str j=>obtain⟨t',rfl⟩:=ry;exact PySem.EqNone.ne_none_str (aQ I q (by simp))
  |_=>exact absurd (show false=true from hs) Bool.false_ne_true
 |bl i=>
  cases rx
  cases y with
  |non=>cases ry;exact PySem.EqNone.ne_bool_none (aQ I q (by simp))
  |bl j=>cases ry;exact ne_bool (aQ I q (congrArg not nr))
  |str j=>obtain⟨t',rfl⟩:=ry;exact PySem.EqMixed.ne_bool_str (aQ I q (by simp))
  |_=>exact absurd (show false=true from hs) Bool.false_ne_true
 |int i=>
  obtain⟨t,rfl⟩:=rx
  cases y with
  |non=>cases ry;exact PySem.EqNone.ne_int_none (aQ I q (by simp))
  |int j=>obtain⟨t',rfl⟩:=ry;exact ne_int (aQ I q (congrArg not kT))
  |str j=>obtain⟨t',rfl⟩:=ry;exact PySem.EqMixed.ne_int_str (aQ I q (by simp))
  |_=>exact absurd (show false=true from hs) Bool.false_ne_true
 |str i=>
  obtain⟨t,rfl⟩:=rx
  cases y with
  |non=>cases ry;exact PySem.EqNone.ne_str_none (aQ I q (by simp))
  |bl j=>cases ry;exact PySem.EqMixed.ne_str_bool (aQ I q (by simp))
  |int j=>obtain⟨t',rfl⟩:=ry;exact PySem.EqMixed.ne_str_int (aQ I q (by simp))
  |str j=>obtain⟨t',rfl⟩:=ry;exact ne_str (aQ I q (congrArg not kU))
  |_=>exact absurd (show false=true from hs) Bool.false_ne_true
 |byt i=>
  obtain⟨t,rfl⟩:=rx
  cases y with
  |byt j=>obtain⟨t',rfl⟩:=ry;exact PySem.W.ne_bytes (aQ I q (congrArg not kW))
  |_=>exact absurd (show false=true from hs) Bool.false_ne_true
 |_=>cases y<;>exact absurd (show false=true from hs) Bool.false_ne_true
theorem fF:OpR X (compareOp .Lt) (pP fun i j=>.bl (decide (i < j))):=pQ fun _ _ _ _ _ _ _ q=>lt_int q
theorem iZ:OpR X (compareOp .LtE) (pP fun i j=>.bl (decide (i<=j))):=pQ fun _ _ _ _ _ _ _ q=>le_int q
theorem i8:OpR X (compareOp .Gt) (pP fun i j=>.bl (decide (j < i))):=pQ fun _ _ _ _ _ _ _ q=>gt_int q
theorem nu:OpR X (compareOp .GtE) (pP fun i j=>.bl (decide (j<=i))):=pQ fun _ _ _ _ _ _ _ q=>ge_int q
theorem jY:OpR X (compareOp .Is) (fun x y H Q=>y=.non/\Q (.bl (decide (x=.non))) H):=by
 intro pins s σ H x y v u Q I rx ry h
 obtain⟨rfl,q⟩:=h
 cases ry
 refine is_none_gen (aQ I q ?_)
 cases x<;>first
  |(cases rx;rfl)
  |(obtain⟨t,rfl⟩:=rx;rfl)
theorem eF:OpR X (compareOp .IsNot) (fun x y H Q=>y=.non/\Q (.bl (!decide (x=.non))) H):=by
 intro pins s σ H x y v u Q I rx ry h
 obtain⟨rfl,q⟩:=h
 cases ry
 refine isnot_none_gen (aQ I q ?_)
 cases x<;>first
  |(cases rx;rfl)
  |(obtain⟨t,rfl⟩:=rx;rfl)
theorem OpR.or {f:Value->Value->Sem Value}{r r':R2}(h:OpR X f r)(h':OpR X f r'):OpR X f (fun x y H Q=>r x y H Q\/r' x y H Q):=by
 intro pins s σ H x y v u Q I rx ry q
 rcases q with q|q
 ·exact h pins s σ H x y v u Q I rx ry q
 ·exact h' pins s σ H x y v u Q I rx ry q
theorem ax (b:Expr){op:CmpOp}(h:op≠.In:=by decide)(h2:op≠.NotIn:=by decide):behindInMarks op b=false:=by
 have e1:(op == CmpOp.In)=false:=by cases op<;>first|rfl|exact absurd rfl h
 have e2:(op == CmpOp.NotIn)=false:=by cases op<;>first|rfl|exact absurd rfl h2
 cases b<;>simp [behindInMarks,e1,e2]
theorem bB {op:CmpOp}{r:R2}(ho:OpR X (compareOp op) r)(ha:PE X a ta)(hb:PE X b tb)(hm:behindInMarks op b=false):PE X (.Compare a [op] [b] pos) (u5 r ta tb):=by
 intro pins s σ H Q I h
 exact wpAny_Compare1 (sm ha hb I h fun v u s2 x y H2 I2 rx ry q=>ho pins s2 σ H2 x y v u Q I2 rx ry q) hm
def qU (t:TE):TT:=fun σ H Q=>t σ H fun x H'=>sd x Q H'
theorem am {op:CmpOp}{r:R2}(ho:OpR X (compareOp op) r)(ha:PE X a ta)(hb:PE X b tb)(hm:behindInMarks op b=false):PT X (.Compare a [op] [b] pos) (qU (u5 r ta tb)):=by
 intro pins s σ H Q I h
 refine wpAny_isTrue_Compare1 (bh (ha pins s σ H _ I h) fun v s1 ⟨x,H1,I1,r1,q1⟩=>bh (hb pins s1 σ H1 _ I1 q1) fun u s2 ⟨y,H2,I2,r2,q2⟩=>
  bh (ho pins s2 σ H2 x y v u _ I2 r1 r2 q2) fun c s3 ⟨z,H3,I3,r3,k,e,q3⟩=>?_) hm
 subst e
 cases r3
 exact wpAny_truthy_bool ⟨H3,I3,q3⟩
def nv (r r':R2)(ta tb tc:TE):TE:=fun σ H Q=>ta σ H fun x H1=>tb σ H1 fun y H2=>r x y H2 fun z H3=>∃ k,z=.bl k/\
 (if k=true then tc σ H3 fun w' H4=>r' y w' H4 Q else Q (.bl false) H3)
theorem nw {op op':CmpOp}{r r':R2}(ho:OpR X (compareOp op) r)(ho':OpR X (compareOp op') r')(ha:PE X a ta)(hb:PE X b tb)(hc:PE X c tc)
  (hm:lastMarks [op,op'] [b,c]=false:=by with_unfolding_all rfl):PE X (.Compare a [op,op'] [b,c] pos) (nv r r' ta tb tc):=by
 intro pins s σ H Q I h
 refine Compare_chain (bh (ha pins s σ H _ I h) fun v s1 ⟨x,H1,I1,r1,q1⟩=>chain_link (bh (hb pins s1 σ H1 _ I1 q1) fun u s2 ⟨y,H2,I2,r2,q2⟩=>
  bh (ho pins s2 σ H2 x y v u _ I2 r1 r2 q2) fun d s3 ⟨z,H3,I3,r3,k,e,q3⟩=>?_)) hm
 subst e
 cases r3
 refine wpAny_truthy_bool ?_
 cases k with
 |false=>exact ite_ff ⟨.bl false,H3,I3,rfl,q3⟩
 |true=>exact ite_tt (chain_last (bh (hc pins s3 σ H3 _ I3 q3) fun w' s4 ⟨z',H4,I4,r4,q4⟩=>ho' pins s4 σ H4 y z' u w' Q I4 r2 r4 q4))
theorem ny {op op':CmpOp}{r r':R2}(ho:OpR X (compareOp op) r)(ho':OpR X (compareOp op') r')(ha:PE X a ta)(hb:PE X b tb)(hc:PE X c tc)
  (hm:lastMarks [op,op'] [b,c]=false:=by with_unfolding_all rfl):PT X (.Compare a [op,op'] [b,c] pos) (qU (nv r r' ta tb tc)):=by
 intro pins s σ H Q I h
 refine isTrue_chain (bh (ha pins s σ H _ I h) fun v s1 ⟨x,H1,I1,r1,q1⟩=>test_link (bh (hb pins s1 σ H1 _ I1 q1) fun u s2 ⟨y,H2,I2,r2,q2⟩=>
  bh (ho pins s2 σ H2 x y v u _ I2 r1 r2 q2) fun d s3 ⟨z,H3,I3,r3,k,e,q3⟩=>?_)) hm
 subst e
 cases r3
 refine wpAny_truthy_bool ?_
 cases k with
 |false=>
  obtain⟨k',e',q'⟩:=q3
  cases e'
  exact ite_ff ⟨H3,I3,q'⟩
 |true=>
  refine ite_tt (test_last (bh (hc pins s3 σ H3 _ I3 q3) fun w' s4 ⟨z',H4,I4,r4,q4⟩=>bh (ho' pins s4 σ H4 y z' u w' _ I4 r2 r4 q4) fun d' s5 ⟨z2,H5,I5,r5,k2,e2,q5⟩=>?_))
  subst e2
  cases r5
  exact wpAny_truthy_bool ⟨H5,I5,q5⟩
def ua (K:PySem.W.Frag)(x:V)(H:Hp)(k:Bool):Prop:=
 match x with
 |.non=>k=false
 |.bl b=>k=b
 |.int i=>k=(i != 0)
 |.str y=>y.length<=sizeLine/\k=((y.length:Int) != 0)
 |.byt y=>y.size<=sizeLine/\k=((y.size:Int) != 0)
 |.ref p=>(∃ xs,SqL K H p xs/\k=!xs.isEmpty)\/(∃ xs,SqT K H p xs/\k=!xs.isEmpty)\/∃ kvs,H p=some (.dK kvs)/\k=!kvs.isEmpty
 |_=>False
theorem jZ {κ:Type}{kvs:List (κ×V)}{vs:List (κ×Value)}(r:KV kvs vs):(!vs.isEmpty)=!kvs.isEmpty:=by
 cases r<;>rfl
theorem ge {xs:List V}{its:List Value}(r:Vals xs its):(!its.toArray.isEmpty)=!xs.isEmpty:=by
 cases r<;>simp
theorem ff:(sizeLine:Nat) < 2 ^ 63:=by rw[sizeLine_eq];decide
theorem su:vo X (fun x H Q=>∃ k,ua X.K x H k/\Q k H):=by
 intro pins s σ H x v Q I rx h
 obtain⟨k,e,q⟩:=h
 have hl:=ff
 have hs:sizeLine=16777216:=sizeLine_eq
 cases x with
 |non=>
  cases rx
  have e':k=false:=e
  subst e'
  exact truthy_none ⟨H,I,q⟩
 |bl b=>
  cases rx
  have e':k=b:=e
  subst e'
  exact wpAny_truthy_bool ⟨H,I,q⟩
 |int i=>
  obtain⟨t,rfl⟩:=rx
  have e':k=(i != 0):=e
  subst e'
  exact PySem.P.truthy_int ⟨H,I,q⟩
 |str y=>
  obtain⟨t,rfl⟩:=rx
  obtain⟨hy,e'⟩:y.length<=sizeLine/\k=((y.length:Int) != 0):=e
  subst e'
  exact PySem.P.truthy_str (by omega) ⟨H,I.tok _,q⟩
 |byt y=>
  obtain⟨t,rfl⟩:=rx
  obtain⟨hy,e'⟩:y.size<=sizeLine/\k=((y.size:Int) != 0):=e
  subst e'
  exact PySem.W.truthy_bytes (by omega) ⟨H,I.tok _,q⟩
 |ref p=>
  cases rx
  have e':(∃ xs,SqL X.K H p xs/\k=!xs.isEmpty)\/(∃ xs,SqT X.K H p xs/\k=!xs.isEmpty)\/∃ kvs,H p=some (.dK kvs)/\k=!kvs.isEmpty:=e
  rcases e' with⟨xs,hx,e'⟩|⟨xs,hx,e'⟩|⟨kvs,hx,e'⟩
  ·subst e'
   obtain⟨its,r,pl,hz⟩:=I.list hx
   have hlen:=r.length
   exact wpAny_truthy_list pl.isList (by simp only [List.size_toArray];omega) ⟨H,I.tok _,by rw[ge r];exact q⟩
  ·subst e'
   obtain⟨its,r,pl,hz⟩:=I.tuple hx
   have hlen:=r.length
   exact truthy_tuple pl (by simp only [List.size_toArray];omega) ⟨H,I.tok _,by rw[ge r];exact q⟩
  ·subst e'
   obtain⟨hz,hS,vs,r,m⟩:kvs.length<=sizeLine/\(p == sysModules)=false/\∃ vs,KV kvs vs/\s.heap.DictOf (aO X.prog X.w) p vs:=I.hok p _ hx
   have hlen:kvs.length=vs.length:=Paired.length r
   exact wpAny_truthy_dict hS m (by omega) ⟨H,I.tok _,by rw[jZ r];exact q⟩
 |_=>exact (show False from e).elim
theorem i9 (ha:PE X a ta)(he:∀ whole,isTrue a X.env whole=(do let v ← whole;standAt a.pos;holding [v] (truthy v))):
  PT X a (fun σ H Q=>ta σ H fun x H'=>∃ k,ua X.K x H' k/\Q k H'):=by
 intro pins s σ H Q I h
 exact isTrue_plain (bh (ha pins s σ H _ I h) fun v s1 ⟨x,H1,I1,r1,q1⟩=>su pins s1 σ H1 x v Q I1 r1 q1) (he _)
theorem cL {x:V}{us:List Value}(r:Vals [x] us):∃ u,us=[u]/\RelV x u:=by
 cases r with
 |cons r1 r2=>cases r2;exact⟨_,rfl,r1⟩
theorem ub {x y:V}{us:List Value}(r:Vals [x,y] us):∃ u w',us=[u,w']/\RelV x u/\RelV y w':=by
 cases r with
 |cons r1 r2=>
  cases r2 with
  |cons r3 r4=>cases r4;exact⟨_,_,rfl,r1,r3⟩
theorem bv:cT X (.builtin "abs") (fun xs H Q=>∃ i,xs=[.int i]/\Q (.int (if i < 0 then -i else i)) H):=by
 intro pins s σ H xs us Q I r h
 obtain⟨i,rfl,q⟩:=h
 obtain⟨u,rfl,t,rfl⟩:=cL r
 exact call_abs_int fun u tk=>⟨.int (if i < 0 then -i else i),H,I.tok _,⟨_,rfl⟩,q⟩
theorem mw:cT X (.type "int") (fun xs H Q=>(∃ i,xs=[.int i]/\Q (.int i) H)\/∃ k,xs=[.bl k]/\Q (.int (if k then 1 else 0)) H):=by
 intro pins s σ H xs us Q I r h
 rcases h with⟨i,rfl,q⟩|⟨k,rfl,q⟩
 ·obtain⟨u,rfl,t,rfl⟩:=cL r
  exact call_int_int ⟨.int i,H,I,⟨_,rfl⟩,q⟩
 ·obtain⟨u,rfl,r1⟩:=cL r
  cases r1
  exact call_int_bool ⟨.int (if k then 1 else 0),H,I.tok _,⟨_,rfl⟩,q⟩
def vt (K:PySem.W.Frag)(x:V)(H:Hp)(n:Nat):Prop:=
 match x with
 |.str y=>y.length<=sizeLine/\n=y.length
 |.byt y=>y.size<=sizeLine/\n=y.size
 |.ref p=>(∃ xs,SqL K H p xs/\n=xs.length)\/∃ xs,SqT K H p xs/\n=xs.length
 |_=>False
inductive sv (K:PySem.W.Frag)(xs:List V)(H:Hp)(Q:VK):Prop
 |mk (x:V)(n:Nat)(h:xs=[x])(l:vt K x H n)(q:Q (.int n) H):sv K xs H Q
theorem aF:cT X (.builtin "len") (sv X.K):=by
 intro pins s σ H xs us Q I r h
 obtain⟨x,n,rfl,e,q⟩:=h
 obtain⟨u,rfl,rx⟩:=cL r
 have hl:=ff
 have hs:sizeLine=16777216:=sizeLine_eq
 cases x with
 |str y=>
  obtain⟨t,rfl⟩:=rx
  obtain⟨hy,e'⟩:y.length<=sizeLine/\n=y.length:=e
  subst e'
  exact len_str (by omega) ⟨.int _,H,I.tok _,⟨_,rfl⟩,q⟩
 |byt y=>
  obtain⟨t,rfl⟩:=rx
  obtain⟨hy,e'⟩:y.size<=sizeLine/\n=y.size:=e
  subst e'
  exact PySem.W.len_bytes (by omega) ⟨.int _,H,I.tok _,⟨_,rfl⟩,q⟩
 |ref p=>
  cases rx
  have e':(∃ xs,SqL X.K H p xs/\n=xs.length)\/∃ xs,SqT X.K H p xs/\n=xs.length:=e
  rcases e' with⟨xs,hx,e'⟩|⟨xs,hx,e'⟩
  ·subst e'
   obtain⟨its,r',pl,hz⟩:=I.list hx
   have hlen:=r'.length
   exact Calls.call_len_list pl.isList (by simp only [List.size_toArray];omega) ⟨.int xs.length,H,I.tok _,⟨_,by simp only [List.size_toArray];rw[hlen]⟩,q⟩
  ·subst e'
   obtain⟨its,r',pl,hz⟩:=I.tuple hx
   have hlen:=r'.length
   exact len_tuple pl (by simp only [List.size_toArray];omega) ⟨.int xs.length,H,I.tok _,⟨_,by simp only [List.size_toArray];rw[hlen]⟩,q⟩
 |_=>exact (show False from e).elim
end
end L2
namespace L2
open PySem PySem.Spec PyProof.Rows
structure ObjM (h:Heap)(x dx C:Addr)(mA:Str->Option Value):Prop where
 obj:h.get? x=some (PySem.W.instObj C dx)
 ns:h.Ns1 dx mA
 ne:dx≠x
theorem mx {h:Heap}{dx:Addr}{mA:Str->Option Value}(n:h.Ns1 dx mA):∃ od,h.get? dx=some od/\∀ name,PySem.W.lookIn name od=some (mA name):=by
 obtain⟨o,es,ep,ho,hd,hk,_,hm⟩:=n
 refine⟨o,ho,fun name=>?_⟩
 have e:=hm name
 unfold nsFind findBy at e
 rw[← Array.find?_toList] at e
 unfold PySem.W.lookIn
 rw[hd]
 dsimp only
 split
 ·rename_i y q
  rw[q] at e
  exact congrArg some e
 ·rename_i q
  rw[q] at e
  have a:es.toList.any (·.refKey)=false:=by
   rw[List.any_eq_false]
   intro y hy
   obtain⟨z,t,hkey⟩:=hk y (Array.mem_toList_iff.mp hy)
   simp [DictEntry.refKey,hkey]
  have a':¬ es.toList.any (·.refKey)=true:=by rw[a];exact Bool.false_ne_true
  rw[if_neg a']
  exact congrArg some e
theorem ObjM.look {h:Heap}{x dx C:Addr}{mA:Str->Option Value}(I:ObjM h x dx C mA):∃ od,PySem.W.InstAt h x (PySem.W.instObj C dx) C (some od)/\∀ name,PySem.W.lookIn name od=some (mA name):=
 let ⟨od,ho,hl⟩:=mx I.ns
 ⟨od,⟨I.obj,rfl,rfl,ho⟩,hl⟩
section
variable {prog:Program}{w:World}{A:Around}{E:Value->Shared->Prop}{s:Shared}{K:PySem.W.Frag}{x dx C f:Addr}{mA:Str->Option Value}{name:Str}{v:Value}
end
theorem RelO.some_of {v:V}{o:Option Value}(r:RelO (some v) o):∃ u,o=some u/\RelV v u:=by
 cases o with
 |none=>exact (show False from r).elim
 |some u=>exact⟨u,rfl,r⟩
theorem RelO.none_of {o:Option Value}(r:RelO none o):o=none:=by
 cases o with
 |none=>rfl
 |some u=>exact (show False from r).elim
section
variable {P:Program}{w:World}{H H':Hp}{h h':Heap}{a C dx:Addr}{fs fs':List (Str×V)}
theorem pR (hok:HOk P w H h)(e:H a=some (.ins C dx fs)):∃ mA,ObjM h a dx C mA/\(∀ f,RelO (fs.lookup f) (mA f))/\PySem.Within mA (fs.map (·.1))/\fs.length<=1000/\H dx=some (.own a):=by
 obtain⟨d,z,ne,ob,mA,n,r,q⟩:=(show ObjOk P w H h a (.ins C dx fs) from hok a _ e)
 exact⟨mA,⟨ob,n,ne⟩,r,q,z,d⟩
end
structure Cls (K:PySem.W.Frag)(C:Addr):Prop where
 pg:PySem.W.plainGet K C Str.empty=true
 hd:PySem.W.hasDictIn K C=true
 po:PySem.W.plainOver K C=true
 sa:PySem.W.findIn K (.ref C) "__setattr__"=some (some (.builtin "object.__setattr__"))
theorem Cls.get {K:PySem.W.Frag}{C:Addr}(c:Cls K C)(f:Str):PySem.W.plainGet K C f=true:=c.pg
section
variable {X:Cx}{pins:List (Addr×Obj)}{σ:St}{H:Hp}{s:Shared}{a C dx:Addr}{fs:List (Str×V)}{f:Str}{v:V}{A:Around}{E:Value->Shared->Prop}
end
section
variable {X:Cx}{o e value:Expr}{f:Str}{pos pos' tpos:Pos}{ta tv:TE}
end
section
variable {X:Cx}{pins:List (Addr×Obj)}{σ:St}{H:Hp}{s:Shared}{A:Around}{E:Value->Shared->Prop}{Q:Value->Shared->Prop}{c:Value}{b:Bool}
inductive eG (K:PySem.W.Frag)(H:Hp):V->Value->Prop where
 |non:eG K H .non (.type "NoneType")
 |bl (x:Bool):eG K H (.bl x) (.type "bool")
 |int (i:Int):eG K H (.int i) (.type "int")
 |str (x:Str):eG K H (.str x) (.type "str")
 |flt (x:UInt64):eG K H (.flt x) (.type "float")
 |lst {a:Addr} {xs:List V} (e:H a=some (.lst xs)):eG K H (.ref a) (.type "list")
 |frz {a:Addr} {o:Obj} {xs:List V} (e:H a=some (.frz o (.lst xs))):eG K H (.ref a) (.type "list")
 |tup {a:Addr} {xs:List V} (e:H a=some (.tup xs)):eG K H (.ref a) (.type "tuple")
 |dK {a:Addr} {kvs:List (bo×V)} (e:H a=some (.dK kvs)):eG K H (.ref a) (.type "dict")
 |dT {a:Addr} {kvs:List (List bo×V)} (e:H a=some (.dT kvs)):eG K H (.ref a) (.type "dict")
 |ins {a C dx:Addr} {fs:List (Str×V)} (e:H a=some (.ins C dx fs)) (cl:Cls K C) (ha:PySem.W.findIn K (.ref C) "__class__"=some (some (.builtin "object.__class__")))
   (hn:PySem.W.specialIn K (.builtin "object.__class__") "__get__"=some (some (.builtin "getset_descriptor.__get__"))) (htk:PySem.W.takesIn K (.builtin "object.__class__")=some true)
   (hm:PySem.W.mroIn K C (.type "object")=some true):eG K H (.ref a) (.ref C)
theorem my {x:V}{u t:Value}(I:Inv X pins σ H s)(rx:RelV x u)(ty:eG X.K H x t)(e:PySem.W.kitOne X.K t c=some b)(h:∀ tk,Q (.bool b) {s with toks:=tk}):
  wpAny (model X.prog X.w) A (call (.builtin "isinstance") [u,c]) Q E s:=by
 cases ty with
 |non=>cases (show u=Value.none from rx);exact PySem.W.kia_one PySem.W.kitx_none I.kIn True.intro e (fun z=>nomatch z) h
 |bl y=>cases (show u=Value.bool y from rx);exact PySem.W.kia_one PySem.W.kitx_bool I.kIn True.intro e (fun z=>nomatch z) h
 |int i=>obtain⟨t,q⟩:=(show ∃ t,u=Value.int i t from rx);cases q;exact PySem.W.kia_one PySem.W.kitx_int I.kIn True.intro e (fun z=>nomatch z) h
 |str y=>obtain⟨t,q⟩:=(show ∃ t,u=Value.str y t from rx);cases q;exact PySem.W.kia_one PySem.W.kitx_str I.kIn True.intro e (fun z=>nomatch z) h
 |flt y=>obtain⟨t,q⟩:=(show ∃ t,u=Value.float y t from rx);cases q;exact PySem.W.kia_one PySem.W.kitx_float I.kIn True.intro e (fun z=>nomatch z) h
 |@lst a xs ea=>
  cases (show u=Value.ref a from rx)
  obtain⟨_,_,n,_,h1⟩:=(show ObjOk X.prog X.w H s.heap a (.lst xs) from I.hok a _ ea)
  exact PySem.W.kia_one PySem.W.kitx_list I.kIn ⟨_,h1,rfl⟩ e (fun z=>nomatch z) h
 |@frz a ob xs ea=>
  cases (show u=Value.ref a from rx)
  obtain⟨_,_,_,n,_,h1⟩:=(show ObjOk X.prog X.w H s.heap a (.frz ob (.lst xs)) from I.hok a _ ea)
  exact PySem.W.kia_one PySem.W.kitx_list I.kIn ⟨_,h1,rfl⟩ e (fun z=>nomatch z) h
 |@tup a xs ea=>
  cases (show u=Value.ref a from rx)
  obtain⟨_,_,_,p⟩:=(show ObjOk X.prog X.w H s.heap a (.tup xs) from I.hok a _ ea)
  obtain⟨o,h1,h2,_⟩:=p
  exact PySem.W.kia_one PySem.W.kitx_tuple I.kIn ⟨o,h1,h2⟩ e (fun z=>nomatch z) h
 |@dK a kvs ea=>
  cases (show u=Value.ref a from rx)
  obtain⟨_,_,vs,_,p⟩:=(show ObjOk X.prog X.w H s.heap a (.dK kvs) from I.hok a _ ea)
  obtain⟨o,es,ep,h1,h2,_⟩:=p
  exact PySem.W.kia_one PySem.W.kitx_dict I.kIn ⟨o,h1,h2.1⟩ e (fun z=>nomatch z) h
 |@dT a kvs ea=>
  cases (show u=Value.ref a from rx)
  obtain⟨_,_,xs,_,o,es,ep,h1,h2,_⟩:=(show ObjOk X.prog X.w H s.heap a (.dT kvs) from I.hok a _ ea)
  exact PySem.W.kia_one PySem.W.kitx_dict I.kIn ⟨o,h1,h2.1⟩ e (fun z=>nomatch z) h
 |@ins a C dx fs ea cl ha hn htk hm=>
  cases (show u=Value.ref a from rx)
  obtain⟨mA,O,_⟩:=pR I.hok ea
  obtain⟨od,J,_⟩:=O.look
  exact PySem.W.kia_one (PySem.W.kitx_own (cl.get _) cl.hd ha hn htk hm) I.kIn J e (fun z=>nomatch z) h
end
end L2
namespace L2
open PySem PySem.Spec PyProof.Rows
structure Room (k:Nat)(A:Around):Prop where
 hd:A.handled=none
 dp:A.depth+3*k+5 < recursionLimit
 un:A.units+16*k+200 < cLine
theorem Room.mono {j k:Nat}{A:Around}(r:Room k A)(h:j<=k):Room j A:=⟨r.hd,by have:=r.dp;omega,by have:=r.un;omega⟩
theorem Room.deeper {k:Nat}{A:Around}(r:Room (k+1) A)(env:Env):Room k (A.deeper env):=
 ⟨r.hd,by have:=r.dp;show A.depth+1+3*k+5 < _;omega,by have:=r.un;show A.units+3+16*k+200 < _;omega⟩
theorem Room.depth {k:Nat}{A:Around}(r:Room k A):A.depth < recursionLimit:=by have:=r.dp;omega
theorem Room.units {k:Nat}{A:Around}(r:Room k A):A.units+64 < cLine:=by have:=r.un;omega
def vv:TA:=fun _ H Q=>Q [] H
def uc (ta:TE)(tr:TA):TA:=fun σ H Q=>ta σ H fun x H1=>tr σ H1 fun xs H2=>Q (x::xs) H2
section
variable {X:Cx}{e:Expr}{es:List Expr}{te:TE}{t:TA}{pos:Pos}
theorem ad:PA X [] vv:=fun _ _ _ _ H Q I h=>Calls.spliced_nil ⟨[],H,I,.nil,h⟩
theorem aa (ha:PE X e te)(hr:PA X es t)(hs:starEach (e::es) X.env=(false,eval e X.env)::starEach es X.env:=by rfl):PA X (e::es) (uc te t):=by
 intro pos pins s σ H Q I h
 rw[hs]
 show wpAny _ _ (spliced ((false,eval e X.env)::backTo pos (starEach es X.env))) _ _ s
 refine Calls.spliced_cons (bh (ha pins s σ H _ I h) fun u s1 ⟨x,H1,I1,r1,q1⟩=>?_)
 exact bh (hr pos pins s1 σ H1 _ I1 q1) fun us s2 ⟨xs,H2,I2,r2,q2⟩=>⟨x::xs,H2,I2,.cons r1 r2,q2⟩
def vw (t:TA):TE:=fun σ H Q=>t σ H fun xs H1=>xs.length<=sizeLine/\∀ p,H1 p=none->Q (.ref p) (upd H1 p (.tup xs))
def vx (t:TA):TE:=fun σ H Q=>t σ H fun xs H1=>xs.length<=sizeLine/\∀ p,H1 p=none->Q (.ref p) (upd H1 p (.lst xs))
theorem bU {x1}(h:PA X es t):PE X (.Tuple es x1 pos) (vw t):=by
 intro pins s σ H Q I hq
 refine wpAny_Tuple_spliced (bh (h pos pins s σ H _ I hq) fun us s1 ⟨xs,H1,I1,r,z,q⟩=>⟨by rw[← r.length];exact z,?_⟩)
 have hf:H1 s1.heap.objs.size=none:=I1.hok.fresh (Nat.le_refl _)
 refine⟨.ref s1.heap.objs.size,upd H1 s1.heap.objs.size (.tup xs),I1.laid (t':=s1.toks) (fun b u e=>Heap.get?_push_of_some _ e) (Nat.le_refl _) ?_,rfl,q _ hf⟩
 exact⟨z,us,r,⟨_,Heap.get?_push_size _ rfl,rfl,_,rfl⟩⟩
theorem cx (h:PA X es t):PE X (.List es pos) (vx t):=by
 intro pins s σ H Q I hq
 refine wpAny_List_spliced (bh (h pos pins s σ H _ I hq) fun us s1 ⟨xs,H1,I1,r,z,q⟩=>⟨by rw[← r.length];exact z,?_⟩)
 have hf:H1 s1.heap.objs.size=none:=I1.hok.fresh (Nat.le_refl _)
 refine⟨.ref s1.heap.objs.size,upd H1 s1.heap.objs.size (.lst xs),I1.laid (t':=s1.toks) (fun b u e=>Heap.get?_push_of_some _ e) (Nat.le_refl _) ?_,rfl,q _ hf⟩
 exact⟨z,us,0,r,Heap.get?_push_size _ rfl⟩
end
abbrev Sp:=List V->Hp->VK->XK->Prop
abbrev nz:=List Env->Hp->Shared->XK->Value->Shared->Prop
structure pS (P:Program)(w:World)(K:PySem.W.Frag)(mg:Str->Option Value)(base:Heap)(A:Around)(outer:List Env)(s:Shared)(H:Hp):Prop where
 frames:A.frames=some outer
 mod:Mod K mg base
 bs:∀ b o,base.get? b=some o->s.heap.get? b=some o/\H b=none
 bsz:base.objs.size<=s.heap.objs.size
 funs:s.heap.FunFrames base outer
 frf:∀ b∈nk outer,H b=none
 hok:HOk P w H s.heap
 bare:AllBare s.gens
def CE (outer:List Env)(P:Program)(w:World)(H:Hp)(s:Shared)(Q:VK)(u:Value)(s':Shared):Prop:=
 ∃ v H',s'.os=s.os/\AllBare s'.gens/\Un (nk outer) [] H H' s.heap s'.heap/\HOk P w H' s'.heap/\RelV v u/\Q v H'
def CR (CX:nz)(outer:List Env)(P:Program)(w:World)(H:Hp)(s:Shared)(Q:VK)(E:XK)(r:Result)(s':Shared):Prop:=
 match r with
 |.ok (.ret u)=>CE outer P w H s Q u s'
 |.ok _=>False
 |.error e=>CX outer H s E e s'
structure aY (P:Program)(w:World)(K:PySem.W.Frag)(mg:Str->Option Value)(base:Heap)(CX:nz)(k:Nat)(f:Addr)(fd:FuncData)(ps:List Str)(sp:Sp):Prop where
 len:∀ vs H Q E,sp vs H Q E->vs.length=ps.length
 run:∀ (A:Around) (outer:List Env) (s:Shared) (H:Hp) (args:Args) (us:List Value) (vs:List V) (Q:VK) (E:XK),Room k A->pS P w K mg base A outer s H->BindsTo s fd args (ps.zip us)->Vals vs us->sp vs H Q E->
  codeAny (model P w) A (.call (.ref f) args) (CR CX outer P w H s Q E) s
section
variable {X:Cx}{pins:List (Addr×Obj)}{σ:St}{H:Hp}{s s':Shared}
theorem Inv.env0 (I:Inv X pins σ H s):pS X.prog X.w X.K X.mg X.base X.A X.stack s H:=
 ⟨I.ok.frames,I.ok.mod,I.bs,Nat.le_trans I.ok.bsz I.sz,I.stack,I.stkFree,I.hok,I.bare⟩
theorem Inv.after {Q:VK}{u:Value}(I:Inv X pins σ H s)(h:CE X.stack X.prog X.w H s Q u s'):EP X pins σ Q u s':=by
 obtain⟨v,H',os,bare,un,hok,r,q⟩:=h
 obtain⟨hh,g,d,t,os'⟩:=s'
 obtain rfl:os'=s.os:=os
 exact⟨v,H',I.call (h':=hh) (g':=g) (d':=d) (t':=t) (ch:=[]) un hok bare (fun b z=>absurd z (by simp)),r,q⟩
end
def qV (sp:Sp)(dvs:List V)(E:XK)(t:TA):TE:=fun σ H Q=>t σ H fun vs H1=>sp (vs++dvs) H1 Q E
def Binds (K:PySem.W.Frag)(fd:FuncData)(ps:List Str)(ds:List Value):Prop:=
 ∀ (s:Shared) (us:List Value),K.In s.heap->(us++ds).length=ps.length->BindsTo s fd ⟨us,[]⟩ (ps.zip (us++ds))
theorem Binds.all {K:PySem.W.Frag}{fd:FuncData}{ps:List Str}(h:∀ us:List Value,us.length=ps.length->bindArgs fd ⟨us,[]⟩=pure (ps.zip us)):Binds K fd ps []:=fun s us _ hl=>by
 rw[List.append_nil] at hl ⊢
 exact .of_eq (h us hl)
def j0 (CX:nz)(X:Cx)(E:XK):Prop:=∀ (pins:List (Addr×Obj)) (σ:St) (H:Hp) (s:Shared) (e:Value) (s':Shared),Inv X pins σ H s->CX X.stack H s E e s'->X.xe e s'
section
variable {X:Cx}{CX:nz}{k:Nat}{f C:Addr}{fd:FuncData}{ps:List Str}{sp:Sp}{dvs:List V}{ds:List Value}{E:XK}{x m:Str}{p pos apos:Pos}{e o:Expr}{es:List Expr}{ta:TE}{t:TA}
theorem sw {pins:List (Addr×Obj)}{σ:St}{H:Hp}{s:Shared}{Q:VK}{us:List Value}{vs:List V}(F:aY X.prog X.w X.K X.mg X.base CX k f fd ps sp)(hr:Room k X.A)(hb:Binds X.K fd ps ds)(hd:Vals dvs ds)(hx:j0 CX X E)
  (I:Inv X pins σ H s) (r:Vals vs us) (h:sp (vs++dvs) H Q E):wpAny (model X.prog X.w) X.A (call (.ref f) us) (EP X pins σ Q) X.xe s:=by
 have r2:Vals (vs++dvs) (us++ds):=r.append hd
 have hl:(us++ds).length=ps.length:=by rw[← r2.length];exact F.len _ _ _ _ h
 refine wpAny_call (codeAny_mono (F.run X.A X.stack s H ⟨us,[]⟩ (us++ds) (vs++dvs) Q E hr I.env0 (hb s us I.kIn hl) r2 h) fun r s' hq=>?_)
 cases r with
 |error e=>exact hx pins σ H s e s' I hq
 |ok fl=>
  cases fl with
  |ret u=>exact I.after hq
  |next=>exact False.elim hq
  |brk=>exact False.elim hq
  |cont=>exact False.elim hq
theorem pT (F:aY X.prog X.w X.K X.mg X.base CX k f fd ps sp)(hr:Room k X.A)(hg:Gl X x)(hm:X.mg x=some (.ref f))(hk:PySem.W.keepIn X.K (.ref f)=true)(hb:Binds X.K fd ps ds)(hd:Vals dvs ds)(hx:j0 CX X E)
  (ha:PA X (e::es) t) (hdb:(x == ("__debug__":Str))=false:=by decide) (he:starEach (e::es) X.env=(false,eval e X.env)::starEach es X.env:=by rfl) (hpl:(backTo pos (starEach es X.env)).any (·.1)=false:=by rfl):
  PE X (.Call (.Name x p) (e::es) [] pos) (qV sp dvs E t):=by
 intro pins s σ H Q I h
 refine wpAny_Call_Name_kw (kQ I hg hm ?_ hdb)
 refine PySem.W.callWith_K (h₀:=X.base) I.ok.mod.kin hk (bh (ha pos pins s σ H _ I h) fun us s1 ⟨vs,H1,I1,r,q⟩=>⟨I1.kIn,?_⟩) he hpl
 exact sw F hr hb hd hx I1 r q
end
section
variable {X:Cx}{CX:nz}{k:Nat}{f C:Addr}{fd:FuncData}{ps ks:List Str}{sp:Sp}{E:XK}{x m:Str}{p pos apos kpos:Pos}{e o:Expr}{es:List Expr}{kws:List Keyword}{te ta:TE}{t tk:TA}{nm:Option Str}
variable {g:List Value->List Value->List Value}{gV:List V->List V->List V}
end
structure ay (N P:List Str)(sc:Scope):Prop where
 kind:sc.kind=.function
 co:sc.isCoroutine=false
 gen:sc.isGenerator=false
 nd:N.Nodup
 pre:N.take P.length=P
 par:∀ x∈P,sc.names.lookup x=some .local\/sc.names.lookup x=some .cell
 nofree:∀ y∈sc.names,y.2≠.free
theorem gQ {kindOf:Str->Option NameKind}{x:Str}:∀ {binds:List (Str×Value)} {m:Str->Option Value},(∀ v,(x,v)∉binds)->bindL kindOf binds m x=m x
 |[],_,_=>rfl
 |(n,v)::r,m,h=>by
  unfold bindL
  rw[gQ fun w hw=>h w (List.mem_cons_of_mem _ hw)]
  split
  ·have:x≠n:=by rintro rfl;exact h v List.mem_cons_self
   simp [this]
  ·rfl
theorem gR {kindOf:Str->Option NameKind}{x:Str}:∀ {binds:List (Str×Value)} {m:Str->Option Value},(∀ v,(x,v)∉binds)->bindC kindOf binds m x=m x
 |[],_,_=>rfl
 |(n,v)::r,m,h=>by
  unfold bindC
  rw[gR fun w hw=>h w (List.mem_cons_of_mem _ hw)]
  split
  ·rfl
  ·have:x≠n:=by rintro rfl;exact h v List.mem_cons_self
   simp [this]
theorem gS {kindOf:Str->Option NameKind}{x:Str}{v:Value}:∀ {P:List Str} {vs:List Value} {i:Nat} {m:Str->Option Value},P.Nodup->P[i]? =some x->vs[i]? =some v->kindOf x=some .local->
  bindL kindOf (P.zip vs) m x=some v
 |[],_,_,_,_,h,_,_=>by simp at h
 |_::_,[],_,_,_,_,h,_=>by simp at h
 |p::P,w::vs,0,m,nd,h1,h2,hk=>by
  simp at h1 h2;subst h1;subst h2
  show bindL kindOf ((p,w)::P.zip vs) m p=_
  unfold bindL
  rw[gQ fun v hv=>(List.nodup_cons.mp nd).1 (List.of_mem_zip hv).1,if_pos hk]
  simp
 |p::P,w::vs,i+1,m,nd,h1,h2,hk=>by
  show bindL kindOf ((p,w)::P.zip vs) m x=_
  unfold bindL
  exact gS (i:=i) (List.nodup_cons.mp nd).2 (by simpa using h1) (by simpa using h2) hk
theorem gT {kindOf:Str->Option NameKind}{x:Str}{v:Value}:∀ {P:List Str} {vs:List Value} {i:Nat} {m:Str->Option Value},P.Nodup->P[i]? =some x->vs[i]? =some v->kindOf x≠some .local->
  bindC kindOf (P.zip vs) m x=some v
 |[],_,_,_,_,h,_,_=>by simp at h
 |_::_,[],_,_,_,_,h,_=>by simp at h
 |p::P,w::vs,0,m,nd,h1,h2,hk=>by
  simp at h1 h2;subst h1;subst h2
  show bindC kindOf ((p,w)::P.zip vs) m p=_
  unfold bindC
  rw[gR fun v hv=>(List.nodup_cons.mp nd).1 (List.of_mem_zip hv).1,if_neg hk]
  simp
 |p::P,w::vs,i+1,m,nd,h1,h2,hk=>by
  show bindC kindOf ((p,w)::P.zip vs) m x=_
  unfold bindC
  exact gT (i:=i) (List.nodup_cons.mp nd).2 (by simpa using h1) (by simpa using h2) hk
def fG (N:List Str)(vs:List V):St:=vs.map some++List.replicate (N.length - vs.length) none
def mz (CX:nz)(P:Program)(w:World)(K:PySem.W.Frag)(mg:Str->Option Value)(base:Heap)(N:List Str)(qual:Str)(scope:Scope)(f:Addr)(cd:Value)(A:Around)(outer:List Env)(s:Shared)(H:Hp)(E:XK):Cx where
 prog:=P
 w:=w
 K:=K
 mg:=mg
 base:=base
 A:=A.deeper (envOfC qual scope s.heap.objs.size f cd)
 N:=N
 s₀:=s
 H₀:=H
 env:=envOfC qual scope s.heap.objs.size f cd
 outer:=outer
 stack:=envOfC qual scope s.heap.objs.size f cd::outer
 ex:=[]
 calm:=true
 fn:=fun _=>true
 pn:=[]
 xe:=fun e s'=>wpAny (model P w) (A.deeper (envOfC qual scope s.heap.objs.size f cd)) (leaving (envOfC qual scope s.heap.objs.size f cd) e) (fun _ s''=>CX outer H s E e s'') (fun e' s''=>CX outer H s E e' s'') s'
theorem i_ {sc:Scope}{n:Nat}{x:Str}(h:sc.names.lookup x=some .cell):∃ c,(cellsFrom n sc.names []).lookup x=some c:=by
 have q:=PySem.W.cellsFrom_some sc.names n [] (.inl h)
 exact Option.isSome_iff_exists.mp q
theorem mB {CX:nz}{P:Program}{w:World}{K:PySem.W.Frag}{mg:Str->Option Value}{base:Heap}{N ps:List Str}{qual:Str}{scope:Scope}{f:Addr}{cd:Value}{A:Around}{outer:List Env}{s s1:Shared}{H:Hp}{E:XK}{us:List Value}{vs:List V}
  (S:ay N ps scope) (hd:A.handled=none) (e0:pS P w K mg base A outer s H) (hl:vs.length=ps.length) (r:Vals vs us)
  (x:InCallC s s.heap.objs.size (bindL (envOfC qual scope s.heap.objs.size f cd).kindOf (ps.zip us) fun _=>none) (cellsFrom (s.heap.objs.size+1) scope.names []) (bindC (envOfC qual scope s.heap.objs.size f cd).kindOf (ps.zip us) fun _=>none) s1):
  Inv (mz CX P w K mg base N qual scope f cd A outer s H E) [] (fG N vs) H s1:=by
 have hpl:ps.length<=N.length:=by have:=congrArg List.length S.pre;rw[List.length_take] at this;omega
 obtain⟨h1,tk,rfl,hk⟩:=x.done
 have noA:∀ b:Addr,b∉(mz CX P w K mg base N qual scope f cd A outer s H E).ex:=fun b z=>absurd (show b∈([]:List Addr) from z) (by simp)
 refine⟨⟨e0.mod,S.kind,rfl,rfl,Nat.le_refl _,fun y z c h1 h2=>?_,fun y hy=>?_,fun y c _ h=>?_,fun _=>hd,Around.frames_deeper e0.frames,.inr ⟨rfl,rfl⟩,fun b z=>absurd z (noA b),e0.bs,e0.bsz,fun b _ _=>noA b,fun b z=>absurd z (noA b),e0.funs,e0.frf⟩,
  rfl,e0.bare,Un.kept hk,⟨_,x.toInCall.ns,fun i y v h1 h2 h3=>?_⟩,fun y c h=>⟨_,x.cell y c h⟩,e0.hok.fresh (Nat.le_refl _),fun y c h=>?_,fun p hp=>absurd (show p∈([]:List (Addr×Obj)) from hp) (by simp),e0.hok.kept hk,?_⟩
 ·exact name_of_addr x.apart (PySem.mem_of_lookup h1) (PySem.mem_of_lookup h2)
 ·have hy:scope.names.lookup y=some .cell\/scope.names.lookup y=some .free:=hy
  rcases hy with hy|hy
  ·exact i_ hy
  ·exact absurd rfl (S.nofree _ (PySem.mem_of_lookup hy))
 ·exact Nat.le_of_lt (x.above y c (PySem.mem_of_lookup h))
 ·have hi:i < vs.length:=by
   unfold fG at h2
   by_cases hi:i < vs.length
   ·exact hi
   ·rw[List.getElem?_append_right (by simpa using hi)] at h2
    rw[List.getElem?_replicate] at h2
    split at h2<;>cases h2
  have ha:vs[i]? =some v:=by
   unfold fG at h2
   rw[List.getElem?_append_left (by simpa using hi),List.getElem?_map] at h2
   cases e:vs[i]? with
   |none=>rw[e] at h2;cases h2
   |some a=>rw[e] at h2;cases h2;rfl
  obtain⟨u,hu,rv⟩:=r.get ha
  have hp:ps[i]? =some y:=by
   rw[← S.pre,List.getElem?_take_of_lt (by omega)];exact h1
  have ndP:ps.Nodup:=by rw[← S.pre];exact S.nd.sublist (List.take_sublist _ _)
  refine⟨u,rv,?_⟩
  rcases S.par y (List.mem_of_getElem? hp) with k|k
  ·exact .inl ⟨k,gS ndP hp hu k⟩
  ·obtain⟨c,e⟩:=i_ (n:=s.heap.objs.size+1) k
   refine .inr ⟨.inl k,c,e,?_⟩
   have q:=x.cell y c e
   rw[gT ndP hp hu (by show scope.names.lookup y≠_;rw[k];decide)] at q
   exact q
 ·exact e0.hok.fresh (Nat.le_of_lt (x.above y c (PySem.mem_of_lookup h)))
 ·unfold fG
  show _=N.length
  rw[List.length_append,List.length_map,List.length_replicate]
  omega
theorem ue {CX:nz}{P:Program}{w:World}{K:PySem.W.Frag}{mg:Str->Option Value}{base:Heap}{k:Nat}{f:Addr}{name qual:Str}{params:Arguments}{body:List Stmt}{scope:Scope}{dV kV doc pm cdv ct oc:Value}{an od:Option Addr}
  {osl:Array (Option Value)} {N ps:List Str} {sp:Sp} (lk:K.lookup f=some ⟨oc,od,.func (PySem.W.fnOf name qual params body scope dV kV doc pm an cdv ct),osl⟩) (hcd:PySem.W.codeIn K cdv qual=true) (S:ay N ps scope)
  (len:∀ vs H Q E,sp vs H Q E->vs.length=ps.length)
  (hbody:∀ (A:Around) (outer:List Env) (s:Shared) (H:Hp) (vs:List V) (Q:VK) (E:XK),Room k (A.deeper (envOfC qual scope s.heap.objs.size f cdv))->sp vs H Q E->
   ∃ t,PSs (mz CX P w K mg base N qual scope f cdv A outer s H E) body t/\t {nx:=fun _ H'=>Q .non H',rt:=Q} (fG N vs) H):
  aY P w K mg base CX (k+1) f (PySem.W.fnOf name qual params body scope dV kV doc pm an cdv ct) ps sp:=by
 refine⟨len,fun A outer s H args us vs Q E hr e0 hb r hsp=>?_⟩
 have hl:=len _ _ _ _ hsp
 have KX:K.In s.heap:=e0.mod.kin.keeps fun b o e=>(e0.bs b o e).1
 have lim:s.heap.NoLimit:=e0.mod.nolimit.keeps fun b o e=>(e0.bs b o e).1
 have hkind:∀ y∈ps.zip us,scope.names.lookup y.1=some .local\/(scope.names.lookup y.1=some .cell/\((cellsFrom (s.heap.objs.size+1) scope.names []).lookup y.1).isSome=true):=fun⟨n,v⟩ hy=>by
  rcases S.par n (List.of_mem_zip hy).1 with q|q
  ·exact .inl q
  ·exact .inr ⟨q,PySem.W.cellsFrom_some _ _ _ (.inl q)⟩
 refine codeAny_call_function hr.depth (KX _ _ lk) rfl S.co S.gen rfl (PySem.W.codeRec_of KX hcd) (hb _ _ _ _ ?_)
 refine wpAny_newFunctionEnv_cells S.kind hkind fun env he s1 x=>?_
 subst he
 refine⟨lim.keeps x.toInCall.keep,codeAny_func ?_⟩
 obtain⟨t,ht,hq⟩:=hbody A outer s H vs Q E (hr.deeper _) hsp
 have I:Inv (mz CX P w K mg base N qual scope f cdv A outer s H E) [] (fG N vs) H s1:=mB S hr.hd e0 hl r x
 refine wpAny_mono (ht [] s1 (fG N vs) H _ I hq) (fun fl s' hs=>?_) fun e s' hs=>hs
 have fin:∀ {σ':St} {H':Hp} {v:V} {u:Value},Inv (mz CX P w K mg base N qual scope f cdv A outer s H E) [] σ' H' s'->RelV v u->Q v H'->CE outer P w H s Q u s':=
  fun {σ' H' v u} J rv q=>⟨v,H',J.os,J.bare,J.base,J.hok,rv,q⟩
 cases fl with
 |ret u=>
  obtain⟨v,σ',H',J,rv,q⟩:=hs
  exact fin J rv q
 |next=>
  obtain⟨σ',H',J,q⟩:=hs
  exact fin (v:=V.non) (u:=Value.none) J rfl q
 |brk=>
  obtain⟨_,_,_,q⟩:=hs
  exact False.elim q
 |cont=>
  obtain⟨_,_,_,q⟩:=hs
  exact False.elim q
end L2
namespace L2
open PySem PySem.Spec PyProof.Rows
section
variable {X:Cx}{x:Str}{p pos:Pos}{e:Expr}{es:List Expr}{t:TA}{id T:String}{r:List V->Hp->VK->Prop}
def vL (r:List V->Hp->VK->Prop)(t:TA):TE:=fun σ H Q=>t σ H fun vs H1=>r vs H1 Q
theorem ak (hc:cT X (.builtin id) r)(hg:Gl X x)(hm:X.mg x=none)(hv:bootBuiltins x=some (.builtin id))(ha:PA X (e::es) t)(hn:x≠"__name__":=by decide)(hdb:(x == ("__debug__":Str))=false:=by decide)
  (he:starEach (e::es) X.env=(false,eval e X.env)::starEach es X.env:=by rfl) (hpl:(backTo pos (starEach es X.env)).any (·.1)=false:=by rfl):PE X (.Call (.Name x p) (e::es) [] pos) (vL r t):=by
 intro pins s σ H Q I h
 refine wpAny_Call_Name_kw (cK I hg hm hv ?_ hn hdb)
 exact PyProof.Rows.callWith_builtin1 (bh (ha pos pins s σ H _ I h) fun us s1 ⟨vs,H1,I1,r1,q1⟩=>hc pins s1 σ H1 vs us Q I1 r1 q1) he hpl
theorem b6 (hc:cT X (.type T) r)(hg:Gl X x)(hm:X.mg x=none)(hv:bootBuiltins x=some (.type T))(ha:PA X (e::es) t)(hn:x≠"__name__":=by decide)(hdb:(x == ("__debug__":Str))=false:=by decide)
  (he:starEach (e::es) X.env=(false,eval e X.env)::starEach es X.env:=by rfl) (hpl:(backTo pos (starEach es X.env)).any (·.1)=false:=by rfl):PE X (.Call (.Name x p) (e::es) [] pos) (vL r t):=by
 intro pins s σ H Q I h
 refine wpAny_Call_Name_kw (cK I hg hm hv ?_ hn hdb)
 exact PyProof.Rows.callWith_type1 (bh (ha pos pins s σ H _ I h) fun us s1 ⟨vs,H1,I1,r1,q1⟩=>hc pins s1 σ H1 vs us Q I1 r1 q1) he hpl
end
end L2
namespace HT
open PySem PyProof.Rows
section
open PySem.SeqAt
open PySem.AutoSeq1 (wpAny_loadPart')
open PySem.MeetsSeq PySem.MeetsSeq2 PySem.MeetsSeq3
end
section
variable {prog:Program}{w:World}{A:Around}{E:Value->Shared->Prop}{s:Shared}
def sIx (n d:Nat):Option Int->Nat
 |none=>d
 |some v=>if v < 0 then (v+(n:Int)).toNat else min v.toNat n
theorem sIx_nat (n d k:Nat):sIx n d (some (k:Int))=min k n:=by
 show (if (k:Int) < 0 then ((k:Int)+(n:Int)).toNat else min (k:Int).toNat n)=min k n
 rw[if_neg (by omega),Int.toNat_natCast]
end
end HT
namespace L2
open PySem PySem.Spec PyProof.Rows
abbrev TO:=St->Hp->(Option Int->Hp->Prop)->Prop
def PO (X:Cx)(e:Option Expr)(t:TO):Prop:=
 ∀ (pins:List (Addr×Obj)) (s:Shared) (σ:St) (H:Hp) (Q:Option Int->Hp->Prop),Inv X pins σ H s->t σ H Q->
  wpAny (model X.prog X.w) X.A (evalPart e X.env) (fun u s'=>∃ o H',Inv X pins σ H' s'/\IsPart u o/\Q o H') X.xe s
def pU:TO:=fun _ H Q=>Q none H
def uf (t:TE):TO:=fun σ H Q=>t σ H fun x H1=>∃ i,x=.int i/\Q (some i) H1
theorem dX {ns:List Int}:∀ {us:List Value},Vals (ns.map V.int) us->IntsAre us ns:=by
 induction ns with
 |nil=>intro us r;rw[List.map_nil] at r;cases r;exact .nil
 |cons n ns ih=>
  intro us r
  rw[List.map_cons] at r
  cases r with
  |cons r1 r2=>
   obtain⟨t,e⟩:=r1
   subst e
   exact .cons n t (ih r2)
section
variable {X:Cx}{e:Expr}{te:TE}{lo hi:Option Expr}{tl th:TO}{pos p2:Pos}
theorem bY:PO X none pU:=by
 intro pins s σ H Q I h
 rw[evalPart_none]
 exact wpAny_pure ⟨none,H,I,.none,h⟩
theorem bK (h:PE X e te):PO X (some e) (uf te):=by
 intro pins s σ H Q I hw
 rw[evalPart_some]
 refine bh (h pins s σ H _ I hw) fun u s1 ⟨x,H1,I1,r1,q1⟩=>?_
 obtain⟨i,rfl,q⟩:=q1
 obtain⟨t,rfl⟩:=r1
 exact⟨some i,H1,I1,.int i t,q⟩
def vM (X:Cx)(r:V->Option Int->Option Int->Hp->VK->Prop):Prop:=
 ∀ (pins:List (Addr×Obj)) (s:Shared) (σ:St) (H:Hp) (x:V) (v vl vu:Value) (lo hi:Option Int) (sl:Addr) (Q:VK),Inv X pins σ H s->RelV x v->s.heap.IsSliceOf sl vl vu .none->IsPart vl lo->IsPart vu hi->r x lo hi H Q->
  ∃ T id,typeLookup (.type T) "__getitem__"=pure (some (.builtin id))/\s.TypeIs v T/\wpAny (model X.prog X.w) X.A (getItem v (.ref sl)) (EP X pins σ Q) X.xe s
def v9 (r:V->Option Int->Option Int->Hp->VK->Prop)(te:TE)(tl th:TO):TE:=fun σ H Q=>te σ H fun x H1=>tl σ H1 fun l H2=>th σ H2 fun u H3=>r x l u H3 Q
theorem bw {r:V->Option Int->Option Int->Hp->VK->Prop}(hr:vM X r)(he:PE X e te)(hl:PO X lo tl)(hu:PO X hi th):PE X (.Subscript e (.Slice lo hi none p2) pos) (v9 r te tl th):=by
 intro pins s σ H Q I h
 refine Subscript_ (bh (he pins s σ H _ I h) fun v s1 ⟨x,H1,I1,r1,q1⟩=>?_)
 refine wpAny_Slice (bh (hl pins s1 σ H1 _ I1 q1) fun vl s2 ⟨l,H2,I2,pl,q2⟩=>bh (hu pins s2 σ H2 _ I2 q2) fun vu s3 ⟨u,H3,I3,pu,q3⟩=>?_)
 rw[evalPart_none]
 refine wpAny_pure ?_
 have I4:Inv X pins σ H3 {s3 with heap:=s3.heap.push {cls:=.type "slice",data:=.fields #[vl,vu,.none]}}:=I3.kept (t':=s3.toks) fun b ob q=>Heap.get?_push_of_some _ q
 obtain⟨T,id,hT,ht,hg⟩:=hr pins {s3 with heap:=s3.heap.push {cls:=.type "slice",data:=.fields #[vl,vu,.none]}} σ H3 x v vl vu l u s3.heap.objs.size Q I4 r1 (Heap.IsSliceOf.new ..) pl pu q3
 show wpAny (model X.prog X.w) X.A (subscriptTail e (.Slice lo hi none p2) v (.ref s3.heap.objs.size)) (EP X pins σ Q) X.xe {s3 with heap:=s3.heap.push {cls:=.type "slice",data:=.fields #[vl,vu,.none]}}
 exact tail_any (ops:=[.ref s3.heap.objs.size,v]) ht hT hg (by with_unfolding_all rfl)
def cy (xs:List V)(lo hi:Option Int):List V:=(xs.drop (HT.sIx xs.length 0 lo)).take (HT.sIx xs.length xs.length hi - HT.sIx xs.length 0 lo)
theorem ja (xs:List V)(lo hi:Option Int):(cy xs lo hi).length<=xs.length:=by
 unfold cy
 rw[List.length_take,List.length_drop]
 omega
end
end L2
namespace L2
open PySem PySem.Spec PyProof.Rows
def sx (n:Nat)(i:Int):Option Nat:=if 0<=i then (if i < n then some i.toNat else none) else if -(n:Int)<=i then some (i+n).toNat else none
def jT {α:Type}(xs:List α)(i:Int):Option α:=(sx xs.length i).bind fun j=>xs[j]?
theorem pV {n:Nat}{i:Int}{j:Nat}(h:sx n i=some j):seqIndex? i n=some j/\j < n/\ -(n:Int)<=i/\i < n:=by
 unfold sx at h
 by_cases h0:0<=i
 ·rw[if_pos h0] at h
  by_cases h1:i < n
  ·rw[if_pos h1] at h
   have e:i.toNat=j:=Option.some.inj h
   exact⟨by rw[seqIndex_of h0 h1,e],by omega,by omega,h1⟩
  ·rw[if_neg h1] at h;cases h
 ·rw[if_neg h0] at h
  by_cases h1:-(n:Int)<=i
  ·rw[if_pos h1] at h
   have e:(i+n).toNat=j:=Option.some.inj h
   exact⟨by rw[seqIndex_neg (by omega) h1,e],by omega,h1,by omega⟩
  ·rw[if_neg h1] at h;cases h
theorem io {α:Type}{xs:List α}{i:Int}{v:α}(h:jT xs i=some v):∃ j,seqIndex? i xs.length=some j/\xs[j]? =some v/\j < xs.length/\ -(xs.length:Int)<=i/\i < xs.length:=by
 unfold jT at h
 cases e:sx xs.length i with
 |none=>rw[e] at h;cases h
 |some j=>
  rw[e] at h
  obtain⟨h1,h2,h3,h4⟩:=pV e
  exact⟨j,h1,h,h2,h3,h4⟩
theorem aZ {α:Type}{xs:List α}{j:Nat}{v:α}(h:xs[j]? =some v):jT xs (j:Int)=some v:=by
 have hj:j < xs.length:=(List.getElem?_eq_some_iff.mp h).1
 have e:sx xs.length (j:Int)=some j:=by
  unfold sx
  rw[if_pos (by omega),if_pos (by omega)];simp
 unfold jT;rw[e];exact h
def pW (b:Expr):Prop:=∀ o i,subscripted b false o i=operate [o,i] (getItem o i)
def IxR (X:Cx)(r:R2):Prop:=
 ∀ (value slice:Expr) (pins:List (Addr×Obj)) (s:Shared) (σ:St) (H:Hp) (x y:V) (v u:Value) (Q:VK),Inv X pins σ H s->RelV x v->RelV y u->r x y H Q->
  subscripted slice false v u=operate [v,u] (getItem v u)->wpAny (model X.prog X.w) X.A (subscriptTail value slice v u) (EP X pins σ Q) X.xe s
def vN (X:Cx)(id:String)(r:V->List V->Hp->VK->Prop):Prop:=
 ∀ (pins:List (Addr×Obj)) (s:Shared) (σ:St) (H:Hp) (x:V) (xs:List V) (v:Value) (us:List Value) (Q:VK),Inv X pins σ H s->RelV x v->Vals xs us->r x xs H Q->
  wpAny (model X.prog X.w) X.A (call (.builtin id) (v::us)) (EP X pins σ Q) X.xe s
section
variable {X:Cx}{a b:Expr}{ta tb:TE}{pos:Pos}
theorem IxR.or {r r':R2}(h:IxR X r)(h':IxR X r'):IxR X (fun x y H Q=>r x y H Q\/r' x y H Q):=by
 intro value slice pins s σ H x y v u Q I rx ry q hs
 rcases q with q|q
 ·exact h value slice pins s σ H x y v u Q I rx ry q hs
 ·exact h' value slice pins s σ H x y v u Q I rx ry q hs
theorem az {r:R2}(hr:IxR X r)(ha:PE X a ta)(hb:PE X b tb)(hs:pW b):PE X (.Subscript a b pos) (u5 r ta tb):=by
 intro pins s σ H Q I h
 exact Subscript_ (sm ha hb I h fun v u s2 x y H2 I2 rx ry q=>hr a b pins s2 σ H2 x y v u Q I2 rx ry q (hs _ _))
inductive ug (K:PySem.W.Frag)(x y:V)(H:Hp)(Q:VK):Prop
 |mk (p:Addr)(xs:List V)(i:Int)(v:V)(hx:x=.ref p)(hy:y=.int i)(h:SqL K H p xs)(e:jT xs i=some v)(q:Q v H):ug K x y H Q
inductive uh (K:PySem.W.Frag)(x y:V)(H:Hp)(Q:VK):Prop
 |mk (p:Addr)(xs:List V)(i:Int)(v:V)(hx:x=.ref p)(hy:y=.int i)(h:SqT K H p xs)(e:jT xs i=some v)(q:Q v H):uh K x y H Q
inductive ui (x y:V)(H:Hp)(Q:VK):Prop
 |mk (z:Str)(i:Int)(c:Nat)(hx:x=.str z)(hy:y=.int i)(h:z.length<=sizeLine)(e:jT z.cps.toList i=some c)(q:Q (.str ⟨#[c]⟩) H):ui x y H Q
def uj (K:PySem.W.Frag):R2:=fun x y H Q=>ug K x y H Q
def uk (K:PySem.W.Frag):R2:=fun x y H Q=>uh K x y H Q
def ul:R2:=fun x y H Q=>ui x y H Q
theorem ix_list:IxR X (uj X.K):=by
 intro value slice pins s σ H x y v u Q I rx ry h hs
 obtain⟨p,xs,i,z,rfl,rfl,hq,he,q⟩:=h
 cases rx
 obtain⟨t,rfl⟩:=ry
 obtain⟨its,r,pl,hz⟩:=I.list hq
 obtain⟨j,h1,h2,h3,h4,h5⟩:=io he
 obtain⟨w,ew,rw'⟩:=r.get h2
 have hl:=r.length
 have hn:=ff
 have fin:EP X pins σ Q w s:=⟨z,H,I,rw',q⟩
 by_cases h0:0<=i
 ·have hj:i.toNat=j:=by
   rw[seqIndex_of h0 h5] at h1
   exact Option.some.inj h1
  exact item_listR pl.isList h0 (by omega) (by rw[hj];simpa using ew) fin hs
 ·have hj:(i+(its.toArray.size:Int)).toNat=j:=by
   rw[seqIndex_neg (by omega) h4] at h1
   rw[List.size_toArray,← hl]
   exact Option.some.inj h1
  exact subscriptTail_builtinR (x:=w) pl.isList.typeIs slot_list_getitem.lookup
   (wpAny_getItem_list_neg (Q:=fun r s'=>r=w/\EP X pins σ Q r s') pl.isList (by omega) (by rw[List.size_toArray]<;>omega) (by omega) (by rw[hj];simpa using ew) ⟨rfl,fin⟩) hs
theorem ix_tup:IxR X (uk X.K):=by
 intro value slice pins s σ H x y v u Q I rx ry h hs
 obtain⟨p,xs,i,z,rfl,rfl,hq,he,q⟩:=h
 cases rx
 obtain⟨t,rfl⟩:=ry
 obtain⟨its,r,pl,hz⟩:=I.tuple hq
 obtain⟨j,h1,h2,h3,h4,h5⟩:=io he
 obtain⟨w,ew,rw'⟩:=r.get h2
 have hl:=r.length
 have hn:=ff
 have fin:EP X pins σ Q w s:=⟨z,H,I,rw',q⟩
 exact subscriptTail_builtinR (x:=w) pl.typeIs slot_tuple_getitem.lookup
  (getItem_tuple (j:=j) (Q:=fun r s'=>r=w/\EP X pins σ Q r s') pl (by omega) (by omega) (by rw[List.size_toArray,← hl];exact h1) (by simpa using ew) ⟨rfl,fin⟩) hs
theorem sy:IxR X ul:=by
 intro value slice pins s σ H x y v u Q I rx ry h hs
 obtain⟨z,i,c,rfl,rfl,hz,he,q⟩:=h
 obtain⟨t,rfl⟩:=rx
 obtain⟨t',rfl⟩:=ry
 obtain⟨j,h1,h2,h3,h4,h5⟩:=io he
 have hl:z.cps.toList.length=z.length:=by simp [Str.length]
 rw[hl] at h1 h4 h5
 have hn:=ff
 exact tail_any (typeIs_str s z t) slot_str_getitem.lookup (getItem_str (c:=c) (by
  have e1:decide (i < -(2 ^ 63:Int))=false:=decide_eq_false (by omega)
  have e2:decide (i>=2 ^ 63)=false:=decide_eq_false (by omega)
  rw[e1,e2,Bool.or_false]) (by rw[h1];simpa using h2) ⟨.str ⟨#[c]⟩,H,I.tok _,⟨_,rfl⟩,q⟩) hs
def vO (K:PySem.W.Frag):R2:=fun x y H Q=>uj K x y H Q\/uk K x y H Q\/ul x y H Q
theorem ar:IxR X (vO X.K):=ix_list.or (ix_tup.or sy)
theorem ip (lo hi:Option Int)(n:Nat):(sliceBounds lo hi none n).1=((HT.sIx n 0 lo:Nat):Int)/\(sliceBounds lo hi none n).2.1=((HT.sIx n n hi:Nat):Int)/\(sliceBounds lo hi none n).2.2=1:=by
 refine⟨?_,?_,rfl⟩
 ·cases lo with
  |none=>simp [sliceBounds,HT.sIx]
  |some i=>
   simp only [sliceBounds,HT.sIx,Option.getD_none,show (1:Int) > 0 by decide,if_true]
   by_cases h:i < 0
   ·simp only [h,if_true]<;>omega
   ·simp only [h,if_false]<;>omega
 ·cases hi with
  |none=>simp [sliceBounds,HT.sIx]
  |some i=>
   simp only [sliceBounds,HT.sIx,Option.getD_none,show (1:Int) > 0 by decide,if_true]
   by_cases h:i < 0
   ·simp only [h,if_true]<;>omega
   ·simp only [h,if_false]<;>omega
theorem gI (its:List Value)(lo hi:Option Int):slicePick its.toArray lo hi none=((its.drop (HT.sIx its.length 0 lo)).take (HT.sIx its.length its.length hi - HT.sIx its.length 0 lo)).toArray:=by
 obtain⟨h1,h2,h3⟩:=ip lo hi its.toArray.size
 unfold slicePick
 rw[h1,h2,h3]
 simp only [sliceRange_one,pick_run,List.size_toArray]<;>rfl
def vy (K:PySem.W.Frag):V->Option Int->Option Int->Hp->VK->Prop:=fun x lo hi H Q=>∃ a xs,x=.ref a/\SqL K H a xs/\∀ p,H p=none->Q (.ref p) (upd H p (.lst (cy xs lo hi)))
theorem bR:vM X (vy X.K):=by
 intro pins s σ H x v vl vu lo hi sl Q I rx hs pl pu h
 obtain⟨a,xs,rfl,hx,q⟩:=h
 cases rx
 obtain⟨its,r,ht,hz⟩:=I.list hx
 have hlen:=r.length
 refine⟨"list",_,slot_list_getitem.lookup,ht.isList.typeIs,?_⟩
 refine wpAny_getItem_list_slice ht.isList hs pl pu .none (by simp) ?_ (by rw[List.size_toArray]<;>omega)
 rw[gI,← hlen]
 refine⟨.ref s.heap.objs.size,_,I.laid (t':=s.toks) (o:=.lst (cy xs lo hi)) (fun b ob q=>Heap.get?_push_of_some _ q) (Nat.le_refl _) ?_,rfl,q _ (I.hok.fresh (Nat.le_refl _))⟩
 exact⟨Nat.le_trans (ja xs lo hi) hz,_,0,(r.drop (HT.sIx xs.length 0 lo)).take (HT.sIx xs.length xs.length hi - HT.sIx xs.length 0 lo),Heap.get?_push_size _ rfl⟩
def dR:V->Bool
 |.non=>true
 |.bl _=>true
 |.int _=>true
 |.str _=>true
 |_=>false
def qW:V->V->Bool
 |.non,.non=>true
 |.bl a,.bl b=>a == b
 |.bl a,.int b=>(if a then 1 else 0) == b
 |.int a,.bl b=>a == (if b then 1 else 0)
 |.int a,.int b=>a == b
 |.str a,.str b=>a == b
 |_,_=>false
theorem sA {A:Around}{s:Shared}{y x:V}{u v:Value}(ry:RelV y u)(rx:RelV x v)(fy:dR y=true)(fx:dR x=true):SeqAt.EqAt A s u v (qW y x):=by
 cases y with
 |non=>
  cases ry
  cases x with
  |non=>cases rx;exact SeqAt.EqAt.same _
  |bl b=>cases rx;exact SeqAt.EqAt.none_bool b
  |int b=>obtain⟨t,rfl⟩:=rx;exact SeqAt.EqAt.none_int b t
  |str b=>obtain⟨t,rfl⟩:=rx;exact SeqAt.EqAt.none_str b t
  |_=>exact absurd (show false=true from fx) Bool.false_ne_true
 |bl a=>
  cases ry
  cases x with
  |non=>cases rx;exact SeqAt.EqAt.bool_none a
  |bl b=>cases rx;exact SeqAt.EqAt.bool_bool a b
  |int b=>obtain⟨t,rfl⟩:=rx;exact SeqAt.EqAt.bool_int a b t
  |str b=>obtain⟨t,rfl⟩:=rx;exact SeqAt.EqAt.bool_str a b t
  |_=>exact absurd (show false=true from fx) Bool.false_ne_true
 |int a=>
  obtain⟨t',rfl⟩:=ry
  cases x with
  |non=>cases rx;exact SeqAt.EqAt.int_none a t'
  |bl b=>cases rx;exact SeqAt.EqAt.int_bool a t' b
  |int b=>obtain⟨t,rfl⟩:=rx;exact SeqAt.EqAt.int_int a t' b t
  |str b=>obtain⟨t,rfl⟩:=rx;exact SeqAt.EqAt.int_str a t' b t
  |_=>exact absurd (show false=true from fx) Bool.false_ne_true
 |str a=>
  obtain⟨t',rfl⟩:=ry
  cases x with
  |non=>cases rx;exact SeqAt.EqAt.str_none a t'
  |bl b=>cases rx;exact SeqAt.EqAt.str_bool a t' b
  |int b=>obtain⟨t,rfl⟩:=rx;exact SeqAt.EqAt.str_int a t' b t
  |str b=>obtain⟨t,rfl⟩:=rx;exact SeqAt.EqAt.str_str a t' b t
  |_=>exact absurd (show false=true from fx) Bool.false_ne_true
 |_=>exact absurd (show false=true from fy) Bool.false_ne_true
def j8 (x:V)(u:Value):Bool:=match u with
 |.none=>qW .non x
 |.bool b=>qW (.bl b) x
 |.int i _=>qW (.int i) x
 |.str z _=>qW (.str z) x
 |_=>false
theorem nA {x y:V}{u:Value}(r:RelV y u)(f:dR y=true):j8 x u=qW y x:=by
 cases y with
 |non=>cases r;rfl
 |bl b=>cases r;rfl
 |int i=>obtain⟨t,rfl⟩:=r;rfl
 |str z=>obtain⟨t,rfl⟩:=r;rfl
 |_=>exact absurd (show false=true from f) Bool.false_ne_true
theorem eI {x:V}:∀ {xs:List V} {us:List Value},Vals xs us->xs.all dR=true->us.any (j8 x)=xs.any fun y=>qW y x
 |_,_,.nil,_=>rfl
 |y::xs,u::us,.cons r t,f=>by
  rw[List.all_cons,Bool.and_eq_true] at f
  rw[List.any_cons,List.any_cons,nA r f.1,eI t f.2]
theorem dy {A:Around}{s:Shared}{x:V}{v:Value}(rx:RelV x v)(fx:dR x=true):∀ {xs:List V} {us:List Value},Vals xs us->xs.all dR=true->∀ u∈us,SeqAt.EqAt A s u v (j8 x u)
 |_,_,.nil,_=>fun u hu=>by cases hu
 |y::xs,u::us,.cons r t,f=>fun u' hu=>by
  rw[List.all_cons,Bool.and_eq_true] at f
  rcases List.mem_cons.mp hu with rfl|hu
  ·rw[nA r f.1];exact sA r rx f.1 fx
  ·exact dy rx fx t f.2 u' hu
def c_ (x:V)(xs:List V):Bool:=xs.any fun y=>qW y x
inductive vP (K:PySem.W.Frag)(neg:Bool)(x y:V)(H:Hp)(Q:VK):Prop
 |mk (p:Addr)(xs:List V)(hy:y=.ref p)(h:SqL K H p xs\/SqT K H p xs)(fx:dR x=true)(fs:xs.all dR=true)(q:Q (.bl (if neg then !c_ x xs else c_ x xs)) H):vP K neg x y H Q
def u7 (K:PySem.W.Frag)(neg:Bool):R2:=fun x y H Q=>vP K neg x y H Q
theorem dO:OpR X (compareOp .In) (u7 X.K false):=by
 intro pins s σ H x y v u Q I rx ry h
 obtain⟨p,xs,rfl,hq,fx,fs,q⟩:=h
 cases ry
 rcases hq with hq|hq
 ·obtain⟨its,r,pl,hz⟩:=I.list hq
  refine SeqAt.in_listAt (j8 x) pl.isList (fun w hw=>dy rx fx r fs w (by simpa using hw)) ⟨.bl _,H,I,rfl,?_⟩
  rw[show its.toArray.any (j8 x)=its.any (j8 x) by simp,eI r fs]
  exact q
 ·obtain⟨its,r,pl,hz⟩:=I.tuple hq
  refine SeqAt.in_tupleAt (j8 x) pl (fun w hw=>dy rx fx r fs w (by simpa using hw)) ⟨.bl _,H,I,rfl,?_⟩
  rw[show its.toArray.any (j8 x)=its.any (j8 x) by simp,eI r fs]
  exact q
theorem bS:OpR X (compareOp .NotIn) (u7 X.K true):=by
 intro pins s σ H x y v u Q I rx ry h
 obtain⟨p,xs,rfl,hq,fx,fs,q⟩:=h
 cases ry
 rcases hq with hq|hq
 ·obtain⟨its,r,pl,hz⟩:=I.list hq
  refine SeqAt.notIn_listAt (j8 x) pl.isList (fun w hw=>dy rx fx r fs w (by simpa using hw)) ⟨.bl _,H,I,rfl,?_⟩
  rw[show its.toArray.any (j8 x)=its.any (j8 x) by simp,eI r fs]
  exact q
 ·obtain⟨its,r,pl,hz⟩:=I.tuple hq
  refine SeqAt.notIn_tupleAt (j8 x) pl (fun w hw=>dy rx fx r fs w (by simpa using hw)) ⟨.bl _,H,I,rfl,?_⟩
  rw[show its.toArray.any (j8 x)=its.any (j8 x) by simp,eI r fs]
  exact q
theorem iq:cT X (.type "list") (fun xs H Q=>∃ p ys,xs=[.ref p]/\(SqL X.K H p ys\/SqT X.K H p ys)/\∀ l,H l=none->Q (.ref l) (upd H l (.lst ys))):=by
 intro pins s σ H xs us Q I r h
 obtain⟨p,ys,rfl,hq,q⟩:=h
 obtain⟨u,rfl,rx⟩:=cL r
 cases rx
 have fin:∀ (its:List Value),Vals ys its->ys.length<=sizeLine->∀ (h':Heap) (c':Nat),(∀ b o',s.heap.get? b=some o'->h'.get? b=some o')->
   h'.get? s.heap.objs.size=some {cls:=.type "list",dict:=none,data:=.seq its.toArray c',slots:=#[]}->EP X pins σ Q (.ref s.heap.objs.size) {s with heap:=h'}:=fun its r' hz h' c' kp e=>
  ⟨.ref s.heap.objs.size,_,I.laid (t':=s.toks) kp (Nat.le_refl _) (show ObjOk X.prog X.w _ h' _ (.lst ys) from ⟨hz,its,c',r',e⟩),rfl,q _ (I.hok.fresh (Nat.le_refl _))⟩
 rcases hq with hq|hq
 ·obtain⟨its,r',pl,hz⟩:=I.list hq
  have hlen:=r'.length
  obtain⟨o,ho,hc,n,hd⟩:=pl.isList
  exact call_list_seq p (.inl rfl) ho hc hd (fun h' c' kp e=>fin its r' hz h' c' kp e) (by simp only [List.size_toArray]<;>omega)
 ·obtain⟨its,r',pl,hz⟩:=I.tuple hq
  have hlen:=r'.length
  obtain⟨o,ho,hc,n,hd⟩:=pl
  exact call_list_seq p (.inr rfl) ho hc hd (fun h' c' kp e=>fin its r' hz h' c' kp e) (by simp only [List.size_toArray]<;>omega)
theorem bX:cT X (.type "tuple") (fun xs H Q=>∃ p ys,xs=[.ref p]/\((SqL X.K H p ys/\∀ l,H l=none->Q (.ref l) (upd H l (.tup ys)))\/(SqT X.K H p ys/\Q (.ref p) H))):=by
 intro pins s σ H xs us Q I r h
 obtain⟨p,ys,rfl,h⟩:=h
 obtain⟨u,rfl,rx⟩:=cL r
 cases rx
 rcases h with⟨hq,q⟩|⟨hq,q⟩
 ·obtain⟨its,r',pl,hz⟩:=I.list hq
  have hlen:=r'.length
  refine call_tuple_list pl.isList (fun h' kp=>?_) (by simp only [List.size_toArray]<;>omega)
  have I1:Inv X pins σ H {s with heap:=h'}:=I.kept (t':=s.toks) kp
  have I2:Inv X pins σ (upd H h'.objs.size (.tup ys)) {s with heap:=h'.push {cls:=.type "tuple",data:=.seq its.toArray}}:=
   I1.laid (t':=s.toks) (fun b o e=>Heap.get?_push_of_some _ e) (Nat.le_refl _) (show ObjOk X.prog X.w _ _ _ (.tup ys) from ⟨hz,its,r',IsTup.new _ _⟩)
  exact⟨.ref h'.objs.size,_,I2,rfl,q _ (I1.hok.fresh (Nat.le_refl _))⟩
 ·obtain⟨its,r',pl,hz⟩:=I.tuple hq
  exact call_tuple_same pl ⟨.ref p,H,I,rfl,q⟩
def vR (K:PySem.W.Frag)(T:String)(x:V)(H:Hp):Prop:=match x with
 |.str _=>T="str"
 |.int _=>T="int"
 |.ref p=>(T="list"/\∃ xs,SqL K H p xs)\/(T="tuple"/\∃ o,K.lookup p=some o/\o.cls=.type "tuple"/\o.dict=none)\/
   (T="dict"/\((∃ kvs,H p=some (.dK kvs))\/∃ kvs,H p=some (.dT kvs)))\/(T="set"/\∃ S n,H p=some (.set S n))
 |_=>False
theorem sB {pins:List (Addr×Obj)}{σ:St}{H:Hp}{s:Shared}{T:String}{x:V}{v:Value}(I:Inv X pins σ H s)(r:RelV x v)(ty:vR X.K T x H):
  s.TypeIs v T/\∀ a,v=.ref a->∃ ob,s.heap.get? a=some ob/\ob.dict=none:=by
 cases x with
 |str z=>
  obtain⟨t,rfl⟩:=r
  cases (show T="str" from ty)
  exact⟨typeIs_str s z t,fun _ e=>nomatch e⟩
 |int i=>
  obtain⟨t,rfl⟩:=r
  cases (show T="int" from ty)
  exact⟨typeIs_int s i t,fun _ e=>nomatch e⟩
 |ref p=>
  cases r
  rcases ty with⟨rfl,xs,hq⟩|⟨rfl,o,hk,hc,hd⟩|⟨rfl,hk⟩|⟨rfl,S,n,hk⟩
  ·obtain⟨its,_,pl,_⟩:=I.list hq
   refine⟨pl.isList.typeIs,fun a e=>?_⟩
   cases e
   obtain⟨o,n,e,c,hd,_⟩:=pl
   exact⟨o,e,hd⟩
  ·refine⟨⟨o,I.kIn p o hk,hc⟩,fun a e=>?_⟩
   cases e
   exact⟨o,I.kIn _ o hk,hd⟩
  ·have z:∃ o,s.heap.get? p=some o/\o.ExactDict:=by
    rcases hk with⟨kvs,hk⟩|⟨kvs,hk⟩
    ·obtain⟨_,_,_,_,o,_,_,e,ex,_⟩:=I.hok p _ hk
     exact⟨o,e,ex⟩
    ·obtain⟨_,_,_,_,o,_,_,e,ex,_⟩:=I.hok p _ hk
     exact⟨o,e,ex⟩
   obtain⟨o,e,ex⟩:=z
   refine⟨⟨o,e,ex.1⟩,fun a e2=>?_⟩
   cases e2
   exact⟨o,e,ex.2.1⟩
  ·obtain⟨o,_,_,_,e,ex,_⟩:=I.hok p _ hk
   refine⟨⟨o,e,ex.1⟩,fun a e2=>?_⟩
   cases e2
   exact⟨o,e,ex.2.1⟩
 |_=>exact False.elim ty
def v_ (K:PySem.W.Frag)(T:String)(r:V->List V->Hp->VK->Prop)(to:TE)(t:TA):TE:=fun σ H Q=>to σ H fun x H1=>vR K T x H1/\t σ H1 fun xs H2=>r x xs H2 Q
variable {o e:Expr}{es:List Expr}{to:TE}{t:TA}{name:Str}{apos cpos:Pos}{T id:String}{r:V->List V->Hp->VK->Prop}
theorem gU (pa:PlainAttrs T)(slot:Slot T name id)(hty:typeOf (.builtin id)=pure (.type "method_descriptor"))(hm:vN X id r)(ho:PE X o to)(ha:PA X (e::es) t)
  (hbase:attributeBase o name X.env (eval o X.env)=eval o X.env:=by rfl)
  (hfew:((backTo cpos (starEach (e::es) X.env)).all (fun x=>!x.1)&&(backToKw cpos (keywordEach [] X.env)).all (fun x=>x.1.isSome)
   &&decide ((e::es).length+([]:List Keyword).length+(if ([]:List Keyword).isEmpty then 0 else 1) < 30))=true:=by rfl)
  (hline:(apos.endLine == cpos.line)=true:=by rfl) (hs:starEach (e::es) X.env=(false,eval e X.env)::starEach es X.env:=by rfl) (hplain:(backTo cpos (starEach es X.env)).any (·.1)=false:=by rfl):
  PE X (.Call (.Attribute o name apos) (e::es) [] cpos) (v_ X.K T r to t):=by
 intro pins s σ H Q I h
 refine wpAny_Call_method_late hbase hfew hline rfl (bh (ho pins s σ H _ I h) fun v s1 ⟨x,H1,I1,r1,ty,q1⟩=>?_)
 obtain⟨h1,h2⟩:=sB I1 r1 ty
 refine⟨T,id,pa,slot,hty,h1,h2,?_⟩
 have hA:=ha cpos pins s1 σ H1 _ I1 q1
 rw[hs] at hA ⊢
 refine Calls.callWith_builtin (by show (false || (backTo cpos (starEach es X.env)).any (·.1))=false;rw[hplain]<;>rfl) (Calls.evalArgs_plain ?_)
 exact bh hA fun us s2 ⟨vs,H2,I2,r2,q2⟩=>hm pins s2 σ H2 x vs v us Q I2 r1 r2 q2
end
end L2
namespace L2
open PySem PySem.Spec PyProof.Rows
def wa (X:Cx)(id:String)(r:V->List V->Hp->VK->Prop):Prop:=
 ∀ (pins:List (Addr×Obj)) (s:Shared) (σ:St) (H:Hp) (x:V) (xs:List V) (v:Value) (us:List Value) (Q:VK),Inv X pins σ H s->RelV x v->Vals xs us->r x xs H Q->
  wpAny (model X.prog X.w) X.A (call (.builtin id) (v::us)) (EP X pins σ Q) X.xe s
theorem Vals.one:∀ {x:V} {us:List Value},Vals [x] us->∃ u,us=[u]/\RelV x u
 |_,_,.cons r .nil=>⟨_,rfl,r⟩
section
variable {X:Cx}{pins:List (Addr×Obj)}{σ:St}{H:Hp}{s:Shared}{l b:Addr}{xs ys zs:List V}
theorem Inv.lset {its its':List Value}{n:Nat}{f:Array Value->Array Value}{t':Nat}(I:Inv X pins σ H s)(hH:H l=some (.lst xs))
  (e:s.heap.get? l=some {cls:=.type "list",data:=.seq its.toArray n}) (hf:f its.toArray=its'.toArray) (hv:Vals ys its') (hz:ys.length<=sizeLine):
  Inv X pins σ (upd H l (.lst ys)) {s with heap:=s.heap.update l (Obj.mapSeq f),toks:=t'}:=by
 have q:=PySem.IsL.update e f
 rw[hf] at q
 refine I.write (x:=l) (e:=l) (by rw[hH];exact trivial) (.inl rfl) (fun b' u hb hu=>(Heap.get?_update_other s.heap (Obj.mapSeq f) (Ne.symm hb)).trans hu) ⟨_,q⟩ ?_
 exact⟨hz,its',_,hv,q⟩
theorem Inv.lnew {its:List Value}{t':Nat}(I:Inv X pins σ H s)(hv:Vals ys its)(hz:ys.length<=sizeLine):
  Inv X pins σ (upd H s.heap.objs.size (.lst ys)) {s with heap:=s.heap.push {cls:=.type "list",data:=.seq its.toArray},toks:=t'}:=
 I.laid (fun _ _ q=>Heap.get?_push_of_some _ q) (Nat.le_refl _) ⟨hz,its,0,hv,Heap.get?_push_size _ rfl⟩
theorem Inv.fresh (I:Inv X pins σ H s):H s.heap.objs.size=none:=I.hok.fresh (Nat.le_refl _)
theorem Inv.lstM (I:Inv X pins σ H s)(hH:H l=some (.lst xs)):xs.length<=sizeLine/\∃ (its:List Value) (n:Nat),Vals xs its/\xs.length=its.length/\s.heap.get? l=some {cls:=.type "list",data:=.seq its.toArray n}:=by
 obtain⟨z,its,n,r,e⟩:=I.hok l _ hH
 exact⟨z,its,n,r,r.length,e⟩
end
section
variable {X:Cx}
inductive um (x:V)(vs:List V)(H:Hp)(Q:VK):Prop
 |mk (l:Addr)(xs:List V)(y:V)(hx:x=.ref l)(hv:vs=[y])(h:H l=some (.lst xs))(z:xs.length < sizeLine)(q:Q .non (upd H l (.lst (xs++[y])))):um x vs H Q
def pX:V->List V->Hp->VK->Prop:=fun x vs H Q=>um x vs H Q
theorem cI:wa X "list.append" pX:=by
 intro pins s σ H x vs v us Q I rx rv h
 obtain⟨l,xs,y,rfl,rfl,hH,hz,q⟩:=h
 cases rx
 obtain⟨u,rfl,ru⟩:=rv.one
 obtain⟨z,its,n,r,hl,e⟩:=I.lstM hH
 refine call_meets F.slot_list_append ⟨_,e,rfl⟩ F.entry_list_append (F.args_list_append_2 _ _) (PySem.list_append l its.toArray n u (by rw[List.size_toArray];omega)) ⟨e,?_⟩
 refine⟨.non,_,I.lset (its':=its++[u]) hH e (by simp) (r.append (.cons ru .nil)) ?_,rfl,q⟩
 rw[List.length_append,List.length_singleton]
 omega
def vz:R2:=fun x y H Q=>∃ l b xs zs,x=.ref l/\y=.ref b/\H l=some (.lst xs)/\H b=some (.lst zs)/\xs.length+zs.length<=sizeLine/\∀ p,H p=none->Q (.ref p) (upd H p (.lst (xs++zs)))
theorem ci:OpR X (binaryOp .Add) vz:=by
 intro pins s σ H x y v u Q I rx ry h
 obtain⟨l,b,xs,zs,rfl,rfl,hH,hB,hz,q⟩:=h
 cases rx
 cases ry
 obtain⟨z,its,n,r,hl,e⟩:=I.lstM hH
 obtain⟨z2,its2,n2,r2,hl2,e2⟩:=I.lstM hB
 refine PySem.P.add_list e e2 ?_ (by rw[List.size_toArray,List.size_toArray];omega)
 have ea:its.toArray++its2.toArray=(its++its2).toArray:=by simp
 rw[ea]
 exact⟨.ref _,_,I.lnew (t':=s.toks) (r.append r2) (by rw[List.length_append];omega),rfl,q _ I.fresh⟩
end
section
variable {prog:Program}{w:World}{A:Around}{E:Value->Shared->Prop}{s:Shared}
set_option maxRecDepth 100000 in
end
section
variable {X:Cx}
end
end L2
namespace L2
open PySem PySem.Spec PyProof.Rows
section
variable {κ:Type} [DecidableEq κ]
def bV (kvs:List (κ×V))(k:κ):Option V:=(kvs.find? fun kv=>decide (kv.1=k)).map (·.2)
def cF (kvs:List (κ×V))(k:κ)(v:V):List (κ×V):=
 if (kvs.any fun kv=>decide (kv.1=k))=true then kvs.map (fun kv=>if kv.1=k then (kv.1,v) else kv) else kvs++[(k,v)]
theorem bG {p:κ×V}{r:List (κ×V)}{k:κ}(e:p.1=k):bV (p::r) k=some p.2:=by simp [bV,List.find?_cons,e]
theorem bH {p:κ×V}{r:List (κ×V)}{k:κ}(e:¬ p.1=k):bV (p::r) k=bV r k:=by simp [bV,List.find?_cons,e]
theorem eJ (k:κ):∀ kvs:List (κ×V),(kvs.any fun kv=>decide (kv.1=k))=(bV kvs k).isSome
 |[]=>rfl
 |p::r=>by
  rw[List.any_cons]
  by_cases e:p.1=k
  ·simp only [bG e,decide_eq_true e,Bool.true_or,Option.isSome_some]
  ·rw[bH e,decide_eq_false e,Bool.false_or];exact eJ k r
theorem jb (k j:κ)(y:V):∀ kvs:List (κ×V),bV (kvs.map fun kv=>if kv.1=k then (kv.1,y) else kv) j=(bV kvs j).map fun x=>if j=k then y else x
 |[]=>rfl
 |p::r=>by
  have ih:=jb k j y r
  rw[List.map_cons]
  by_cases h:p.1=k
  ·rw[if_pos h]
   by_cases e:p.1=j
   ·rw[bG (p:=(p.1,y)) e,bG e,Option.map_some,if_pos (e.symm.trans h)]
   ·rw[bH (p:=(p.1,y)) e,bH e,ih]
  ·rw[if_neg h]
   by_cases e:p.1=j
   ·rw[bG (p:=p) e,bG e,Option.map_some,if_neg (fun z=>h (e.trans z))]
   ·rw[bH (p:=p) e,bH e,ih]
theorem gW (k j:κ)(y:V):∀ kvs:List (κ×V),bV kvs k=none->bV (kvs++[(k,y)]) j=if j=k then some y else bV kvs j
 |[],_=>by
  by_cases e:k=j
  ·rw[if_pos e.symm];exact bG (p:=(k,y)) e
  ·rw[if_neg (fun z=>e z.symm)];exact bH (p:=(k,y)) e
 |p::r,hn=>by
  rw[List.cons_append]
  have hk:¬ p.1=k:=fun z=>by rw[bG z] at hn;cases hn
  rw[bH hk] at hn
  have ih:=gW k j y r hn
  by_cases e:p.1=j
  ·rw[bG e,bG e,if_neg (fun z=>hk (e.trans z))]
  ·rw[bH e,bH e,ih]
theorem eK (kvs:List (κ×V))(k j:κ)(y:V):bV (cF kvs k y) j=if j=k then some y else bV kvs j:=by
 unfold cF
 by_cases a:(kvs.any fun kv=>decide (kv.1=k))=true
 ·rw[if_pos a,jb]
  rw[eJ] at a
  by_cases e:j=k
  ·obtain⟨x,hx⟩:=Option.isSome_iff_exists.mp a
   rw[if_pos e,e,hx,Option.map_some,if_pos rfl]
  ·rw[if_neg e]
   cases bV kvs j with
   |none=>rfl
   |some x=>rw[Option.map_some,if_neg e]
 ·rw[if_neg a]
  refine gW k j y kvs ?_
  rw[eJ] at a
  cases q:bV kvs k with
  |none=>rfl
  |some x=>rw[q] at a;exact (a rfl).elim
theorem cU (kvs:List (κ×V))(k:κ)(v:V):(cF kvs k v).length<=kvs.length+1:=by
 unfold cF
 split
 ·rw[List.length_map];omega
 ·rw[List.length_append,List.length_cons,List.length_nil];omega
theorem RelO.isSome_eq {o:Option V}{u:Option Value}(r:RelO o u):o.isSome=u.isSome:=by
 cases o with
 |none=>cases u with
  |none=>rfl
  |some _=>exact (show False from r).elim
 |some _=>cases u with
  |none=>exact (show False from r).elim
  |some _=>rfl
theorem RelO.getD {o:Option V}{u:Option Value}{d:V}{d':Value}(r:RelO o u)(rd:RelV d d'):RelV (o.getD d) (u.getD d'):=by
 cases o with
 |none=>cases u with
  |none=>exact rd
  |some _=>exact (show False from r).elim
 |some _=>cases u with
  |none=>exact (show False from r).elim
  |some _=>exact r
theorem KV.val {kvs:List (κ×V)}{vs:List (κ×Value)}(r:KV kvs vs)(k:κ):RelO (bV kvs k) (valueAt vs k):=by
 unfold KV at r
 induction r with
 |nil=>exact True.intro
 |@cons p q ps qs h t ih=>
  obtain⟨h1,h2⟩:=h
  by_cases e:p.1=k
  ·have e':q.1=k:=h1.symm.trans e
   have b:valueAt (q::qs) k=some q.2:=by simp [valueAt,List.find?_cons,e']
   rw[bG e,b];exact h2
  ·have e':¬ q.1=k:=fun z=>e (h1.trans z)
   have b:valueAt (q::qs) k=valueAt qs k:=by simp [valueAt,List.find?_cons,e']
   rw[bH e,b];exact ih
theorem KV.any {kvs:List (κ×V)}{vs:List (κ×Value)}(r:KV kvs vs)(k:κ):(kvs.any fun kv=>decide (kv.1=k))=vs.any fun kv=>decide (kv.1=k):=by
 unfold KV at r
 induction r with
 |nil=>rfl
 |cons h t ih=>rw[List.any_cons,List.any_cons,ih,h.1]
theorem KV.repl {kvs:List (κ×V)}{vs:List (κ×Value)}(r:KV kvs vs)(k:κ){y:V}{u:Value}(ry:RelV y u):
  KV (kvs.map fun kv=>if kv.1=k then (kv.1,y) else kv) (vs.map fun kv=>if kv.1=k then (kv.1,u) else kv):=by
 unfold KV at r ⊢
 induction r with
 |nil=>exact .nil
 |@cons p q ps qs h t ih=>
  rw[List.map_cons,List.map_cons]
  refine .cons ?_ ih
  obtain⟨h1,h2⟩:=h
  by_cases e:p.1=k
  ·rw[if_pos e,if_pos (h1.symm.trans e)];exact⟨h1,ry⟩
  ·rw[if_neg e,if_neg (fun z=>e (h1.trans z))];exact⟨h1,h2⟩
theorem KV.put {kvs:List (κ×V)}{vs:List (κ×Value)}(r:KV kvs vs)(k:κ){y:V}{u:Value}(ry:RelV y u):KV (cF kvs k y) (stored vs k u):=by
 unfold cF stored
 rw[r.any k]
 by_cases e:(vs.any fun kv=>decide (kv.1=k))=true
 ·rw[if_pos e,if_pos e];exact r.repl k ry
 ·rw[if_neg e,if_neg e];exact Paired.snoc r ⟨rfl,ry⟩
theorem KV.keys {kvs:List (κ×V)}{vs:List (κ×Value)}(r:KV kvs vs):kvs.map (·.1)=vs.map (·.1):=by
 unfold KV at r
 induction r with
 |nil=>rfl
 |cons h t ih=>rw[List.map_cons,List.map_cons,ih,h.1]
theorem KV.length {kvs:List (κ×V)}{vs:List (κ×Value)}(r:KV kvs vs):kvs.length=vs.length:=Paired.length r
end
theorem gf {P:Program}{w:World}{k:bo}{u:Value}(r:RelV (kV k) u):(aO P w).is k u=true:=by
 cases k with
 |inl i=>obtain⟨t,e⟩:=(show ∃ t,u=Value.int i t from r);subst e;exact iT P w i t
 |inr x=>obtain⟨t,e⟩:=(show ∃ t,u=Value.str x t from r);subst e;exact iU P w x t
theorem gX {P:Program}{w:World}:∀ {ks:List bo} {us:List Value},Vals (ks.map kV) us->ItemsAre (aO P w) ks us
 |[],_,r=>by rw[List.map_nil] at r;cases r;exact .nil
 |k::ks,_,r=>by
  rw[List.map_cons] at r
  cases r with
  |cons h t=>exact .cons (gf h) (gX t)
abbrev KT (H:Hp):List (List bo×V)->List (List bo×Addr×Value)->Prop:=Paired fun p q=>p.1=q.1/\H q.2.1=some (.tup (p.1.map kV))/\RelV p.2 q.2.2
theorem KT.val {H:Hp}{kvs:List (List bo×V)}{xs:List (List bo×Addr×Value)}(r:KT H kvs xs)(k:List bo):RelO (bV kvs k) ((atKey xs k).map (·.2)):=by
 induction r with
 |nil=>exact True.intro
 |@cons p q ps qs h t ih=>
  obtain⟨h1,_,h2⟩:=h
  by_cases e:p.1=k
  ·have e':q.1=k:=h1.symm.trans e
   have b:atKey (q::qs) k=some q.2:=by simp [atKey,List.find?_cons,e']
   rw[bG e,b];exact h2
  ·have e':¬ q.1=k:=fun z=>e (h1.trans z)
   have b:atKey (q::qs) k=atKey qs k:=by simp [atKey,List.find?_cons,e']
   rw[bH e,b];exact ih
theorem KT.repl {H:Hp}{kvs:List (List bo×V)}{xs:List (List bo×Addr×Value)}(r:KT H kvs xs)(k:List bo){y:V}{u:Value}(ry:RelV y u):
  KT H (kvs.map fun kv=>if kv.1=k then (kv.1,y) else kv) (xs.map (putAt k u)):=by
 induction r with
 |nil=>exact .nil
 |@cons p q ps qs h t ih=>
  rw[List.map_cons,List.map_cons]
  refine .cons ?_ ih
  obtain⟨h1,h2,h3⟩:=h
  unfold putAt
  by_cases e:p.1=k
  ·rw[if_pos e,if_pos (h1.symm.trans e)];exact⟨h1,h2,ry⟩
  ·rw[if_neg e,if_neg (fun z=>e (h1.trans z))];exact⟨h1,h2,h3⟩
theorem KT.put {H:Hp}{kvs:List (List bo×V)}{xs:List (List bo×Addr×Value)}(r:KT H kvs xs)(k:List bo){b:Addr}{y:V}{u:Value}(hb:H b=some (.tup (k.map kV)))(ry:RelV y u):
  KT H (cF kvs k y) (storedH xs k b u):=by
 have e:(kvs.any fun kv=>decide (kv.1=k))=(atKey xs k).isSome:=by
  rw[eJ,(r.val k).isSome_eq,Option.isSome_map]
 unfold cF storedH
 rw[e]
 by_cases q:(atKey xs k).isSome=true
 ·rw[if_pos q,if_pos q];exact r.repl k ry
 ·rw[if_neg q,if_neg q];exact Paired.snoc r ⟨rfl,hb,ry⟩
theorem KT.keeps {H H':Hp}{kvs:List (List bo×V)}{xs:List (List bo×Addr×Value)}(r:KT H kvs xs)(ht:∀ b ys,H b=some (.tup ys)->H' b=some (.tup ys)):KT H' kvs xs:=
 Paired.mapP r fun _ _ z=>⟨z.1,ht _ _ z.2.1,z.2.2⟩
section
variable {P:Program}{w:World}{H:Hp}{h:Heap}{a:Addr}
theorem qX {u:HO}(ok:HOk P w H h)(e:Rd H a u):ObjOk P w H h a u:=e.ok ok
theorem fH {kvs:List (bo×V)}(ok:HOk P w H h)(e:Rd H a (.dK kvs)):kvs.length<=sizeLine/\(a == sysModules)=false/\∃ vs,KV kvs vs/\h.DictOf (aO P w) a vs:=
 show ObjOk P w H h a (.dK kvs) from qX ok e
theorem nB {kvs:List (bo×V)}(ok:HOk P w H h)(e:H a=some (.dK kvs)):kvs.length<=sizeLine/\(a == sysModules)=false/\∃ vs,KV kvs vs/\h.DictOf (aO P w) a vs:=fH ok (.inl e)
theorem dY {ks:List bo}(ok:HOk P w H h)(e:H a=some (.tup (ks.map kV))):(tupleKind (aO P w)).is h ks a:=by
 obtain⟨_,its,r,o,h1,h2,n,h3⟩:=(show ObjOk P w H h a (.tup (ks.map kV)) from ok a _ e)
 exact⟨o,its.toArray,n,h1,h2,h3,by simpa using gX r⟩
theorem fI {kvs:List (List bo×V)}(ok:HOk P w H h)(e:Rd H a (.dT kvs)):kvs.length<=sizeLine/\(a == sysModules)=false/\
  ∃ xs,KT H kvs xs/\h.DictOfH (tupleKind (aO P w)) a xs:=by
 obtain⟨z,y,xs,r,o,es,ep,h1,h2,h3,h4,h5⟩:=(show ObjOk P w H h a (.dT kvs) from qX ok e)
 refine⟨z,y,xs,r,o,es,ep,h1,h2,h3,h4,fun x hx=>?_,h5⟩
 have all:∀ {l:List (List bo×V)} {m:List (List bo×Addr×Value)},KT H l m->∀ x∈m,(tupleKind (aO P w)).is h x.1 x.2.1:=by
  intro l m q
  induction q with
  |nil=>intro x hx;exact nomatch hx
  |@cons p q ps qs hq t ih=>
   intro x hx
   rcases List.mem_cons.mp hx with e|hx
   ·subst e
    exact dY ok (by rw[← hq.1];exact hq.2.1)
   ·exact ih x hx
 exact all r x hx
theorem uo {kvs:List (List bo×V)}(ok:HOk P w H h)(e:H a=some (.dT kvs)):kvs.length<=sizeLine/\(a == sysModules)=false/\
  ∃ xs,KT H kvs xs/\h.DictOfH (tupleKind (aO P w)) a xs:=fI ok (.inl e)
end
def DGet (H:Hp)(a:Addr)(y:V)(r:Option V):Prop:=
 (∃ kvs k,Rd H a (.dK kvs)/\y=kV k/\r=bV kvs k)\/∃ kvs k b,Rd H a (.dT kvs)/\y=.ref b/\H b=some (.tup (k.map kV))/\r=bV kvs k
def DPut (H:Hp)(a:Addr)(y v:V)(H':Hp):Prop:=
 (∃ kvs k,H a=some (.dK kvs)/\y=kV k/\kvs.length < sizeLine/\H'=upd H a (.dK (cF kvs k v)))\/
 ∃ kvs k b,H a=some (.dT kvs)/\y=.ref b/\H b=some (.tup (k.map kV))/\kvs.length < sizeLine/\H'=upd H a (.dT (cF kvs k v))
theorem DGet.k {H:Hp}{a:Addr}{kvs:List (bo×V)}{k:bo}(e:H a=some (.dK kvs)):DGet H a (kV k) (bV kvs k):=.inl ⟨kvs,k,.inl e,rfl,rfl⟩
theorem DPut.k {H:Hp}{a:Addr}{kvs:List (bo×V)}{k:bo}{v:V}(e:H a=some (.dK kvs))(hl:kvs.length < sizeLine):DPut H a (kV k) v (upd H a (.dK (cF kvs k v))):=.inl ⟨kvs,k,e,rfl,hl,rfl⟩
section
variable {X:Cx}{pins:List (Addr×Obj)}{σ:St}{H:Hp}{s:Shared}{a:Addr}{y v:V}{u r:Value}{o:Option V}{A:Around}{E:Value->Shared->Prop}
theorem Inv.big (I:Inv X pins σ H s):sysModules < s.heap.objs.size:=by
 have h:mainGlobals < s.heap.objs.size:=(I.mod.glob.keeps I.bk).lt
 exact Nat.lt_trans (by decide) h
theorem mC {Q:Value->Shared->Prop}(hu:A.units+1 < cLine)(I:Inv X pins σ H s)(g:DGet H a y (some v))(ry:RelV y u)(h:∀ w' s',Inv X pins σ H s'->RelV v w'->Q w' s'):
  wpAny (model X.prog X.w) A (getItem (.ref a) u) Q E s:=by
 rcases g with⟨kvs,k,e,ey,l⟩|⟨kvs,k,b,e,ey,eb,l⟩
 ·subst ey
  obtain⟨z,hd,vs,rel,dd⟩:=fH I.hok e
  obtain⟨w',hw,rw'⟩:=RelO.some_of (v:=v) (o:=valueAt vs k) (by rw[l];exact rel.val k)
  exact wpAny_getItem_of (gf ry) dd.mapOf hw (h w' _ (I.tok _) rw')
 ·subst ey
  cases (show u=Value.ref b from ry)
  obtain⟨z,hd,xs,rel,dd⟩:=fI I.hok e
  obtain⟨w',hw,rw'⟩:=RelO.some_of (v:=v) (o:=(atKey xs k).map (·.2)) (by rw[l];exact rel.val k)
  obtain⟨p,hp,hp2⟩:=Option.map_eq_some_iff.mp hw
  refine wpAny_getItem_heap (tupleKind_room_in1 hu) (dY I.hok eb) dd hp ?_
  rw[hp2]
  exact h w' _ (I.tok _) rw'
theorem pY {Q:Value->Shared->Prop}(hu:A.units+1 < cLine)(I:Inv X pins σ H s)(g:DGet H a y o)(ry:RelV y u)(h:∀ s',Inv X pins σ H s'->Q (.bool (!o.isSome)) s'):
  wpAny (model X.prog X.w) A (compareOp .NotIn u (.ref a)) Q E s:=by
 rcases g with⟨kvs,k,e,ey,l⟩|⟨kvs,k,b,e,ey,eb,l⟩
 ·subst ey
  obtain⟨z,hd,vs,rel,dd⟩:=fH I.hok e
  refine wpAny_notIn_of (gf ry) hd dd.mapOf ?_
  rw[← (rel.val k).isSome_eq,← l]
  exact h _ (I.tok _)
 ·subst ey
  cases (show u=Value.ref b from ry)
  obtain⟨z,hd,xs,rel,dd⟩:=fI I.hok e
  refine wpAny_notIn_heap (tupleKind_room_in1 hu) (dY I.hok eb) hd dd ?_
  have q:=(rel.val k).isSome_eq
  rw[Option.isSome_map] at q
  rw[← q,← l]
  exact h _ (I.tok _)
theorem fT {h':Heap}{t':Nat}{ob:HO}(I:Inv X pins σ H s)(mu:tP (H a))(hs:Heap.SameBut a s.heap h')(he:∃ q,h'.get? a=some q)(new:ObjOk X.prog X.w (upd H a ob) h' a ob):
  Inv X pins σ (upd H a ob) {s with heap:=h',toks:=t'}:=
 I.write (x:=a) (e:=a) mu (.inl rfl) (fun b q hb z=>(hs.2 b hb).trans z) he new
theorem nC {P:Program}{w:World}{H':Hp}{h':Heap}{kvs:List (bo×V)}{vs:List (bo×Value)}(z:kvs.length<=sizeLine)(hd:(a == sysModules)=false)(rel:KV kvs vs)(dd:h'.DictOf (aO P w) a vs):
  ObjOk P w H' h' a (.dK kvs):=⟨z,hd,vs,rel,dd⟩
theorem mD {H':Hp}{Q:Unit->Shared->Prop}(hu:A.units+1 < cLine)(I:Inv X pins σ H s)(g:DPut H a y v H')(ry:RelV y u)(rv:RelV v r)(h:∀ s',Inv X pins σ H' s'->Q () s'):
  wpAny (model X.prog X.w) A (setItem (.ref a) u r) Q E s:=by
 rcases g with⟨kvs,k,e,ey,l,eH⟩|⟨kvs,k,b,e,ey,eb,l,eH⟩
 ·subst ey eH
  obtain⟨z,hd,vs,rel,dd⟩:=nB I.hok e
  have hz:vs.length<=sizeLine:=by rw[← rel.length];exact z
  have hl:(cF kvs k v).length<=sizeLine:=by have:=cU kvs k v;omega
  refine wpAny_setItem_pairs (hsz:=hz) (gf ry) dd fun h' dd' hs=>h _ ?_
  have he:∃ q,h'.get? a=some q:=let ⟨q,_,_,hq,_⟩:=dd';⟨q,hq⟩
  exact fT I (by rw[e];exact True.intro) hs he (nC hl hd (rel.put k rv) dd')
 ·subst ey eH
  cases (show u=Value.ref b from ry)
  obtain⟨z,hd,xs,rel,dd⟩:=uo I.hok e
  have hz:xs.length<=sizeLine:=by rw[← Paired.length rel];exact z
  have hl:(cF kvs k v).length<=sizeLine:=by have:=cU kvs k v;omega
  refine wpAny_setItem_heap (hsz:=hz) (tupleKind_room_in1 hu) (dY I.hok eb) dd fun h' dd' hs=>h _ ?_
  obtain⟨q,es,ep,hq,h2,h3,h4,_,h5⟩:=dd'
  refine fT I (by rw[e];exact True.intro) hs ⟨q,hq⟩ ⟨hl,hd,_,(rel.put k eb rv).keeps fun c ys ec=>?_,q,es,ep,hq,h2,h3,h4,h5⟩
  rw[ap (ni ec e (fun z=>nomatch z))]
  exact ec
end
section
variable {X:Cx}{pins:List (Addr×Obj)}{σ:St}{H:Hp}{s:Shared}{a:Addr}{kvs:List (bo×V)}{k:bo}{u:Value}{A:Around}{E:Value->Shared->Prop}
end
def up (i:Expr):Prop:=∀ ov iv,subscripted i false ov iv=operate [ov,iv] (getItem ov iv)
theorem pZ {prog:Program}{w:World}{A:Around}{E:Value->Shared->Prop}{s:Shared}{env:Env}{value slice:Expr}{pos:Pos}{T id:String}{Q:Value->Shared->Prop}
  (hl:typeLookup (.type T) "__getitem__"=pure (some (.builtin id))) (hs:up slice)
  (h:wpAny (model prog w) A (eval value env) (fun o s₁=>wpAny (model prog w) A (eval slice env) (fun i s₂=>s₂.TypeIs o T/\wpAny (model prog w) A (getItem o i) Q E s₂) E s₁) E s):
  wpAny (model prog w) A (eval (.Subscript value slice pos) env) Q E s:=by
 refine Subscript_ (wpAny_mono h (fun o s₁ h₁=>wpAny_mono h₁ (fun i s₂ h₂=>?_) fun _ _ x=>x) fun _ _ x=>x)
 obtain⟨hT,h₂⟩:=h₂
 unfold subscriptTail
 refine wpAny_bind ?_
 rw[getitemInPython_of_ne hT.not_modules]
 refine wpAny_bind (wpAny_specialOf hT hl ?_)
 have fin:wpAny (model prog w) A (subscripted slice false o i) (fun r s₃=>wpAny (model prog w) A (letTemporaryGo value o r >>=fun _=>pure r) Q E s₃) E s₂:=by
  rw[hs o i]
  exact wpAny_operating (wpAny_mono h₂ (fun r s₃ h₃=>wpAny_bind (wpAny_letTemporaryGo (wpAny_pure h₃))) fun _ _ x=>x)
 first
  |exact wpAny_pure (wpAny_bind fin)
  |exact wpAny_bind (wpAny_pure (wpAny_bind fin))
  |exact wpAny_bind fin
theorem jc {X:Cx}{pins:List (Addr×Obj)}{σ:St}{H:Hp}{s:Shared}{a:Addr}{y:V}{o:Option V}(I:Inv X pins σ H s)(g:DGet H a y o):s.TypeIs (.ref a) "dict":=by
 rcases g with⟨kvs,k,e,_,_⟩|⟨kvs,k,b,e,_,_,_⟩
 ·obtain⟨_,_,vs,_,dd⟩:=fH I.hok e
  exact dd.typeIs
 ·obtain⟨_,_,xs,_,dd⟩:=fI I.hok e
  exact dd.typeIs
def uq (td ty:TE):TE:=fun σ H Q=>td σ H fun x H1=>ty σ H1 fun y H2=>∃ a v,x=.ref a/\DGet H2 a y (some v)/\Q v H2
def p0 (ty td:TE):TE:=fun σ H Q=>ty σ H fun y H1=>td σ H1 fun x H2=>∃ a o,x=.ref a/\DGet H2 a y o/\Q (.bl (!o.isSome)) H2
def ur (td ty tv:TE):TS:=fun D σ H=>tv σ H fun v H1=>td σ H1 fun x H2=>ty σ H2 fun y H3=>∃ a H4,x=.ref a/\DPut H3 a y v H4/\D.nx σ H4
section
variable {X:Cx}{o i e value:Expr}{pos pos' tpos:Pos}{td ty tv:TE}
theorem kX (hu:X.A.units+1 < cLine)(ho:PE X o td)(hi:PE X i ty)(hs:up i):PE X (.Subscript o i pos) (uq td ty):=by
 intro pins s σ H Q I h
 refine pZ PySem.F.slot_dict_getitem.lookup hs (bh (ho pins s σ H _ I h) fun u s1 ⟨x,H1,I1,rx,q1⟩=>bh (hi pins s1 σ H1 _ I1 q1) fun iv s2 ⟨y,H2,I2,ry,a,v,ex,g,q2⟩=>?_)
 subst ex
 obtain rfl:u=Value.ref a:=rx
 exact⟨jc I2 g,mC hu I2 g ry fun w' s3 I3 rw'=>⟨v,H2,I3,rw',q2⟩⟩
theorem mE (hu:X.A.units+1 < cLine)(hi:PE X i ty)(ho:PE X o td):PC X .NotIn i o (p0 ty td):=by
 intro pins s σ H Q I h
 refine bh (hi pins s σ H _ I h) fun iv s1 ⟨y,H1,I1,ry,q1⟩=>bh (ho pins s1 σ H1 _ I1 q1) fun u s2 ⟨x,H2,I2,rx,a,ov,ex,g,q2⟩=>?_
 subst ex
 obtain rfl:u=Value.ref a:=rx
 exact pY hu I2 g ry fun s3 I3=>⟨.bl (!ov.isSome),H2,I3,rfl,q2⟩
theorem p6 (hu:X.A.units+1 < cLine)(ho:PE X o td)(hi:PE X i ty)(hv:PE X value tv)(hs:swapsWith value (some (.Subscript o i pos')) pos.line X.env=pure false):
  PS X (.Assign [.Subscript o i pos'] value pos) (ur td ty tv):=by
 intro pins s σ H D I h
 refine wpAny_Assign_Subscript (bh (hv pins s σ H _ I h) fun r s1 ⟨v,H1,I1,rv,q1⟩=>bh (ho pins s1 σ H1 _ I1 q1) fun u s2 ⟨x,H2,I2,rx,q2⟩=>bh (hi pins s2 σ H2 _ I2 q2) fun iv s3 ⟨y,H3,I3,ry,a,H4,ex,g,q3⟩=>?_) hs
 subst ex
 obtain rfl:u=Value.ref a:=rx
 exact mD hu I3 g ry rv fun s4 I4=>⟨σ,H4,I4,q3⟩
end
theorem nE {P:Program}{w:World}{H:Hp}(h:Heap)(hb:sysModules < h.objs.size):ObjOk P w H (h.push {cls:=.type "dict",data:=.dict #[]}) h.objs.size (.dK []):=
 ⟨Nat.zero_le _,beq_eq_false_iff_ne.mpr (Ne.symm (Nat.ne_of_lt hb)),[],.nil,Heap.DictOf.new h⟩
def sC:TE:=fun _ H Q=>∀ p,H p=none->Q (.ref p) (upd H p (.dK []))
section
variable {X:Cx}{pos:Pos}
theorem jd:PE X (.Dict [] [] pos) sC:=fun pins s σ H Q I h=>
 wpAny_Dict_empty ⟨.ref s.heap.objs.size,_,I.laid (a:=s.heap.objs.size) (o:=.dK []) (t':=s.toks) (fun _ _ q=>Heap.get?_push_of_some _ q) (Nat.le_refl _) (nE s.heap I.big),rfl,h _ (I.hok.fresh (Nat.le_refl _))⟩
end
structure M2 (X:Cx)(o:Expr)(m:Str)(apos:Pos)(e f:Expr)(cpos:Pos):Prop where
 base:attributeBase o m X.env (eval o X.env)=eval o X.env
 few:((backTo cpos (starEach [e,f] X.env)).all (fun x=>!x.1)&&(backToKw cpos (keywordEach [] X.env)).all (fun x=>x.1.isSome)
  &&decide (([e,f]:List Expr).length+([]:List Keyword).length+(if ([]:List Keyword).isEmpty then 0 else 1) < 30))=true
 line:(apos.endLine == cpos.line)=true
 trees:backTo cpos (starEach [e,f] X.env)=[(false,eval e X.env),(false,eval f X.env)]
def vA (H:Hp)(a:Addr):Prop:=(∃ kvs,Rd H a (.dK kvs))\/∃ kvs,Rd H a (.dT kvs)
theorem nF {X:Cx}{pins:List (Addr×Obj)}{σ:St}{H:Hp}{s:Shared}{a:Addr}(I:Inv X pins σ H s)(d:vA H a):
  s.TypeIs (.ref a) "dict"/\(∀ b,Value.ref a=.ref b->∃ ob,s.heap.get? b=some ob/\ob.dict=none)/\(a == sysModules)=false:=by
 rcases d with⟨kvs,e⟩|⟨kvs,e⟩
 ·obtain⟨_,hd,vs,_,dd⟩:=fH I.hok e
  refine⟨dd.typeIs,fun b q=>?_,hd⟩
  cases q
  obtain⟨ob,_,_,h1,h2,_⟩:=dd
  exact⟨ob,h1,h2.2.1⟩
 ·obtain⟨_,hd,xs,_,dd⟩:=fI I.hok e
  refine⟨dd.typeIs,fun b q=>?_,hd⟩
  cases q
  obtain⟨ob,_,_,h1,h2,_⟩:=dd
  exact⟨ob,h1,h2.2.1⟩
section
variable {X:Cx}{pins:List (Addr×Obj)}{σ:St}{H:Hp}{s:Shared}{a:Addr}{y d:V}{u r:Value}{o:Option V}{A:Around}{E:Value->Shared->Prop}
theorem sE {Q:Value->Shared->Prop}(hu:A.units+1 < cLine)(I:Inv X pins σ H s)(g:DGet H a y o)(ry:RelV y u)(rd:RelV d r)(h:∀ w' s',Inv X pins σ H s'->RelV (o.getD d) w'->Q w' s'):
  wpAny (model X.prog X.w) A (call (.builtin "dict.get") [.ref a,u,r]) Q E s:=by
 rcases g with⟨kvs,k,e,ey,l⟩|⟨kvs,k,b,e,ey,eb,l⟩
 ·subst ey
  obtain⟨z,hd,vs,rel,dd⟩:=fH I.hok e
  refine call_meetsIn PySem.F.slot_dict_get dd.typeIs PySem.F.entry_dict_get (PySem.F.args_dict_get_3 _ _ _) (meets_dict_get_default (aO X.prog X.w) a (gf ry) hd r) ⟨_,dd.mapOf,h _ _ (I.tok _) ?_⟩
  rw[l]
  exact (rel.val k).getD rd
 ·subst ey
  cases (show u=Value.ref b from ry)
  obtain⟨z,hd,xs,rel,dd⟩:=fI I.hok e
  refine call_meetsIn PySem.F.slot_dict_get dd.typeIs PySem.F.entry_dict_get (PySem.F.args_dict_get_3 _ _ _) (meetsH_dict_get_default (tupleKind (aO X.prog X.w)) a b hd r) ⟨tupleKind_room_in1 hu,k,xs,dY I.hok eb,dd,h _ _ (I.tok _) ?_⟩
  rw[l]
  exact (rel.val k).getD rd
end
def sF (td ty tx:TE):TE:=fun σ H Q=>td σ H fun x H1=>∃ a,x=.ref a/\vA H1 a/\ty σ H1 fun y H2=>tx σ H2 fun z H3=>∃ o,DGet H3 a y o/\Q (o.getD z) H3
section
variable {X:Cx}{o e f:Expr}{apos cpos:Pos}{td ty tx:TE}
theorem nG (hu:X.A.units+1 < cLine)(ho:PE X o td)(he:PE X e ty)(hf:PE X f tx)(m:M2 X o "get" apos e f cpos):PE X (.Call (.Attribute o "get" apos) [e,f] [] cpos) (sF td ty tx):=by
 intro pins s σ H Q I h
 refine wpAny_Call_method m.base m.few m.line PySem.F.plainAttrs_dict PySem.F.slot_dict_get PySem.F.type_dict_get (bh (ho pins s σ H _ I h) fun u s1 ⟨x,H1,I1,rx,a,ex,d,q1⟩=>?_)
 subst ex
 obtain rfl:u=Value.ref a:=rx
 obtain⟨t1,t2,_⟩:=nF I1 d
 refine⟨t1,t2,?_⟩
 rw[m.trees]
 refine Calls.callWith_builtin rfl (Calls.evalArgs_plain (Calls.spliced_cons (bh (he pins s1 σ H1 _ I1 q1) fun iv s2 ⟨y,H2,I2,ry,q2⟩=>
  Calls.spliced_cons (bh (hf pins s2 σ H2 _ I2 q2) fun fv s3 ⟨z,H3,I3,rz,ov,g,q3⟩=>Calls.spliced_nil ?_))))
 exact sE hu I3 g ry rz fun w' s4 I4 rw'=>⟨_,H3,I4,rw',q3⟩
end
section
variable {X:Cx}{pins:List (Addr×Obj)}{σ:St}{H:Hp}{s:Shared}{a:Addr}{kvs:List (bo×V)}{A:Around}{E:Value->Shared->Prop}
end
section
variable {X:Cx}{pins:List (Addr×Obj)}{σ:St}{H:Hp}{s:Shared}{a:Addr}{y:V}{u:Value}{A:Around}{E:Value->Shared->Prop}
end
end L2
namespace Att
open PySem PySem.W PySem.Calls PyProof.Rows
theorem fR {P:Params}{h:Heap}:∀ (ns:List Int) (vs:List Value),WellAll P h vs (ns.map WData.int)->IntsAre vs ns:=by
 intro ns
 induction ns with
 |nil=>
  intro vs w
  rw[List.map_nil] at w
  cases w
  exact .nil
 |cons n ns ih=>
  intro vs w
  rw[List.map_cons] at w
  cases w with
  |cons a b=>
   cases a
   exact .cons _ _ (ih _ b)
theorem mF {l:OpenLaw}{n:Nat}(hn:l.most=some n){P:Params}{h:Heap}{args:List WData}{vals:List Value}
  (hpre:l.row.toRowW.claim.pre args=true) (hwl:WellAll P h vals args):
  ∃ a vs ns,vals=[Value.ref a]/\args=[WData.list (ns.map WData.int)]/\h.get? a=some {cls:=.type "list",data:=.seq vs.toArray}/\IntsAre vs ns/\ns.length<=n:=by
 have hsh:WShape.hasAll [] args [.list .int]=true:=(pre_splitW hpre).1
 have hc:l.pre.holds [] {args:=args}=true:=(pre_splitW hpre).2
 obtain⟨d,r,rfl,h1,h2⟩:=hasAllW_cons hsh
 obtain rfl:=hasAllW_nil h2
 obtain⟨xs,rfl,h3⟩:=hasW_list h1
 obtain⟨ns,rfl⟩:=items_int h3
 have hlen:ns.length<=n:=by
  unfold OpenLaw.pre at hc
  have h4:(WTm.not (.lt (.lit (.int (n:Int))) (.len (.arg 0)))).holds [] {args:=[.list (ns.map .int)]}=true:=by
   have h4:=(holds_andW hc).1
   rw[hn] at h4
   exact h4
  have h5:=condW_of h4 (w_not (w_lt w_lit (w_len_list (w_arg rfl))))
  rw[List.length_map] at h5
  refine Nat.le_of_not_lt fun q=>?_
  have q':(n:Int) < ((ns.length:Nat):Int):=by omega
  first
   |(rw[decide_eq_true q'] at h5;exact absurd h5 (by decide))
   |(simp at h5;omega)
 cases hwl with
 |cons w1 w2=>
  cases w2
  cases w1 with
  |list ho hall=>exact⟨_,_,ns,rfl,rfl,ho,fR ns _ hall,hlen⟩
theorem mG (l:OpenLaw)(args:List WData):l.row.toRowW.claim.post args (.bool true) args=true:=
 postW_of (r:=l.row.toRowW) (X:=(true == true))
  (show WShape.has [] (.bool true) .bool=true by first|rfl|decide|simp [WShape.has,WShape.arms,WShape.armsAll])
  (show (WTm.eq .res (.lit (.bool true))).value [] {args:=args,res:=some (.bool true),after:=args}=some (.bool (true == true)) from w_eq_bool (w_res rfl) w_lit) rfl
theorem attach_call {l:OpenLaw}{n:Nat}{q:Program}{loose:List Str}{XP:(Str->Option Value)->Heap->Prop}{YP:World->Heap->Prop}{d:DefRec}
  (hn:l.most=some n) (hdf:d.params.defaults=[])
  (call:∀ (w:World) (s₀ s₁:Shared) (mg mb:Str->Option Value) (fa:Addr) (o:Obj) (pm cd doc:Value) (a:Addr) (vs:List Value) (ns:List Int),
   Ground q loose [] XP w s₀ mg mb s₁.heap->YP w s₁.heap->
   s₁.heap.get? fa=some o->o.data=.func (docDef d.name d.params d.body d.scope pm cd doc)->s₁.heap.CodeRec cd d.name->mg d.name=some (.ref fa)->
   s₁.heap.get? a=some {cls:=.type "list",data:=.seq vs.toArray}->IntsAre vs ns->ns.length<=n->s₁.gens=#[]->
   codeAny (model l.prog w) callerA (.call (.ref fa) ⟨[.ref a],[]⟩) (fun r s'=>r=.ok (.ret (.bool true))/\OldK s₁.heap s'.heap/\s'.os=s₁.os/\AllBare s'.gens) s₁):
  WalkO q loose XP YP l.row.toRowW d [] (fun f vs=>PySem.call f vs):=by
 intro w s₀ s₁ mg mb G Y fa o pm cd doc dV kV ho hd hcd hD hmg hg args vals as hpre hlay hrd hwl hlo
 obtain rfl:dV=.none:=Dflts.none hD hdf
 obtain rfl:kV=.none:=Dflts.noKw hD
 obtain⟨a,vs,ns,rfl,rfl,hobj,hints,hlen⟩:=mF hn hpre hwl
 refine enter_call (codeAny_mono (call w s₀ s₁ mg mb fa o pm cd doc a vs ns G Y ho (fd_plain hd) hcd hmg hobj hints hlen hg) fun r s' hq=>?_)
 obtain⟨rfl,h2,h3,h4⟩:=hq
 exact⟨.inl ⟨.bool true,.bool true,[],rfl,fun _=>rfl,.bool true,mG l _,fun _=>⟨List.Pairwise.nil,fun _ hm=>(nomatch hm)⟩⟩,h2,h3,h4⟩
section
variable {prog:Program}{w:World}{A:Around}{E:Value->Shared->Prop}{s:Shared}{K:Frag}
end
end Att
namespace L2
open PySem PySem.Spec PyProof.Rows
theorem fg:∀ {vs:List Value} {ns:List Int},IntsAre vs ns->Vals (ns.map V.int) vs
 |_,_,.nil=>.nil
 |_,_,.cons n t h=>.cons ⟨t,rfl⟩ (fg h)
def sG (H:Hp):Prop:=∀ b,H b=none\/∃ o xs,H b=some (.frz o (.lst xs))
theorem nI {P:Program}{w:World}{K:PySem.W.Frag}{mg mb:Str->Option Value}{CX:nz}{k:Nat}{fa a:Addr}{fd:FuncData}{x:Str}{sp:Sp}{s₁:Shared}{vs:List Value}{ns:List Int}
  (KX:K.In s₁.heap) (hns:s₁.heap.Ns mainGlobals mg) (hb:s₁.heap.Ns builtinsNs mb) (hbb:∀ x:Str,x≠"__name__"->mb x=bootBuiltins x) (hlim:s₁.heap.NoLimit) (hg:s₁.gens=#[])
  (ha:s₁.heap.get? a=some {cls:=.type "list",data:=.seq vs.toArray}) (hi:IntsAre vs ns) (hl:ns.length<=sizeLine) (hr:Room k callerA)
  (F:∀ base:Heap,K.In base->base.Ns mainGlobals mg->aY P w K mg base CX k fa fd [x] sp) (hbind:∀ (s:Shared) (u:Value),BindsTo s fd ⟨[u],[]⟩ [(x,u)])
  (hsp:∀ H:Hp,sG H->SqL K H a (ns.map V.int)->sp [.ref a] H (fun v _=>v=.bl true) fun _ _ _=>False)
  (hCX:∀ H e s',CX [] H s₁ (fun _ _ _=>False) e s'->False):
  codeAny (model P w) callerA (.call (.ref fa) ⟨[.ref a],[]⟩) (fun r s'=>r=.ok (.ret (.bool true))/\OldK s₁.heap s'.heap/\s'.os=s₁.os/\AllBare s'.gens) s₁:=by
 have rv:=fg hi
 have ng:=hi.length
 have core:∀ H:Hp,sG H->SqL K H a (ns.map V.int)->HOk P w H s₁.heap->(∀ b,H b≠none->b=a)->(H a≠none->K.lookup a=none)->
   codeAny (model P w) callerA (.call (.ref fa) ⟨[.ref a],[]⟩) (fun r s'=>r=.ok (.ret (.bool true))/\OldK s₁.heap s'.heap/\s'.os=s₁.os/\AllBare s'.gens) s₁:=by
  intro H hO hS hok hA hK
  have base_of:∀ {b:Addr} {o:Obj},s₁.heap.get? b=some o->H b=none->(ik s₁.heap H).get? b=some o:=fun e n=>nj e n
  have noA:∀ {b:Addr} {o:Obj} {es:Array DictEntry} {ep:Nat},s₁.heap.get? b=some o->o.data=.dict es ep->H b=none:=fun {b o es ep} e d=>by
   cases q:H b with
   |none=>rfl
   |some u=>
    have e':b=a:=hA b (by rw[q];simp)
    subst e'
    rw[ha] at e;cases e
    have d':Data.seq vs.toArray _=Data.dict es ep:=d
    cases d'
  have nsK:∀ {b:Addr} {m:Str->Option Value},s₁.heap.Ns b m->(ik s₁.heap H).Ns b m:=fun {b m} ⟨o,es,ep,e,d,r⟩=>⟨o,es,ep,base_of e (noA e d),d,r⟩
  have hKb:K.In (ik s₁.heap H):=fun b o e=>base_of (KX b o e) (by
   cases q:H b with
   |none=>rfl
   |some u=>
    have e':b=a:=hA b (by rw[q];simp)
    subst e'
    rw[hK (by rw[q];simp)] at e;cases e)
  have hM:Mod K mg (ik s₁.heap H):=⟨hKb,nsK hns,⟨mb,nsK hb,hbb⟩,let ⟨mc,h1,h2⟩:=hlim;⟨mc,nsK h1,h2⟩⟩
  have e0:pS P w K mg (ik s₁.heap H) callerA [] s₁ H:=⟨rfl,hM,fun b o e=>pN e,Nat.le_of_eq (mq _ _),trivial,fun b hb=>absurd (show b∈([]:List Addr) from hb) (by simp),hok,.of_eq hg⟩
  refine codeAny_mono ((F _ hKb (nsK hns)).run callerA [] s₁ H ⟨[.ref a],[]⟩ [.ref a] [.ref a] _ _ hr e0 (hbind s₁ (.ref a)) (.cons rfl .nil) (hsp H hO hS)) fun r s' h=>?_
  cases r with
  |error e=>exact (hCX H e s' h).elim
  |ok fl=>
   cases fl with
   |next=>exact False.elim h
   |brk=>exact False.elim h
   |cont=>exact False.elim h
   |ret u=>
    obtain⟨v,H',os,bare,un,hok',r',q⟩:=h
    have q':v=.bl true:=q
    subst q'
    obtain rfl:u=Value.bool true:=r'
    refine⟨rfl,OldK.of_keep fun b o e=>?_,os,bare⟩
    cases q:H b with
    |none=>exact un.keep b o e q (by intro z;exact absurd (show b∈([]:List Addr) from z) (by simp)) (by simp)
    |some u=>
     rcases hO b with z|⟨ob,xs,z⟩
     ·rw[q] at z;cases z
     ·have z2:=un.frzs b ob _ z
      obtain⟨e1,_⟩:=hok b _ z
      obtain⟨e2,_⟩:=hok' b _ z2
      rw[e] at e1;cases e1
      exact e2
 cases hk:K.lookup a with
 |some o=>
  have e:=KX a o hk
  rw[ha] at e
  cases e
  refine core (fun _=>none) (fun _=>.inl rfl) (.inr ⟨_,vs.toArray,_,hk,rfl,rfl,rfl,by rw[List.size_toArray,ng];exact hl,by simpa using rv⟩) (fun b u z=>by have z':(none:Option HO)=some u:=z;cases z') (fun b z=>absurd rfl z) fun z=>absurd rfl z
 |none=>
  refine core (fun b=>if b=a then some (.frz {cls:=.type "list",data:=.seq vs.toArray} (.lst (ns.map V.int))) else none) (fun b=>?_) (.inl (.inr ⟨{cls:=.type "list",data:=.seq vs.toArray},if_pos rfl⟩)) (fun b u z=>?_) (fun b z=>?_) fun _=>hk
  ·by_cases hb:b=a
   ·exact .inr ⟨_,_,if_pos hb⟩
   ·exact .inl (if_neg hb)
  ·by_cases hb:b=a
   ·have z':=(if_pos hb).symm.trans z
    cases z'
    subst hb
    exact⟨ha,by rw[List.length_map];exact hl,vs,_,rv,ha⟩
   ·have z':=(if_neg hb).symm.trans z
    cases z'
  ·by_cases hb:b=a
   ·exact hb
   ·exact absurd (if_neg hb) z
end L2
namespace L2
open PySem PySem.Spec PyProof.Rows
theorem walk_of {l:PySem.W.OpenLaw}{n k:Nat}{q:Program}{loose:List Str}{XP:(Str->Option Value)->Heap->Prop}{YP:World->Heap->Prop}{d:DefRec}{K:Params->PySem.W.Frag}{CX:World->nz}{sp:World->Sp}{x:Str}
  (hn:l.most=some n) (hn2:n<=sizeLine) (hdf:d.params.defaults=[]) (hr:Room k callerA)
  (hY:∀ (w:World) (h:Heap),YP w h->(K w.params).In h)
  (F:∀ (w:World) (mg:Str->Option Value) (fa:Addr) (h:Heap),(K w.params).In h->h.Ns mainGlobals mg->mg d.name=some (.ref fa)->
   ∃ fd:FuncData,(∀ (s:Shared) (u:Value),BindsTo s fd ⟨[u],[]⟩ [(x,u)])/\
    ∀ base:Heap,(K w.params).In base->base.Ns mainGlobals mg->aY l.prog w (K w.params) mg base (CX w) k fa fd [x] (sp w))
  (hsp:∀ (w:World) (H:Hp) (a:Addr) (ns:List Int),ns.length<=n->sG H->SqL (K w.params) H a (ns.map V.int)->sp w [.ref a] H (fun v _=>v=.bl true) fun _ _ _=>False)
  (hCX:∀ (w:World) (H:Hp) (s:Shared) (e:Value) (s':Shared),CX w [] H s (fun _ _ _=>False) e s'->False):
  PySem.W.WalkO q loose XP YP l.row.toRowW d [] (fun f vs=>PySem.call f vs):=by
 refine Att.attach_call hn hdf fun w s₀ s₁ mg mb fa o pm cd doc a vs ns G Y ho hd hcd hmg hobj hints hlen hg=>?_
 have KX:=hY w _ Y
 obtain⟨fd,hb,hF⟩:=F w mg fa _ KX G.T.g hmg
 exact nI KX G.T.g G.T.b G.T.builtins G.T.nolimit hg hobj hints (Nat.le_trans hlen hn2) hr hF hb (fun H hO hS=>hsp w H a ns hlen hO hS) fun H e s'=>hCX w H s₁ e s'
end L2
namespace L2
open PySem PySem.Spec PyProof.Rows
def cG (s:Stmt):Arguments:=match s with
 |.FunctionDef _ a _ _ _ _ _ _ _ _=>a
 |_=>{posonlyargs:=[],args:=[],vararg:=none,kwonlyargs:=[],kw_defaults:=[],kwarg:=none,defaults:=[]}
def cn (s:Stmt):List Stmt:=match s with
 |.FunctionDef _ _ b _ _ _ _ _ _ _=>b
 |_=>[]
def ai (s:Stmt):Scope:=match s with
 |.FunctionDef _ _ _ _ _ _ sc _ _ _=>sc
 |_=>{kind:=.function,names:=[],isGenerator:=false,isCoroutine:=false}
abbrev cu:nz:=fun _ _ _ _ _ _=>False
abbrev E0:XK:=fun _ _ _=>False
theorem ut {X:Cx}:j0 cu X E0:=fun _ _ _ _ _ _ _ h=>h.elim
structure Fun (K:PySem.W.Frag)(x qual:Str)(st:Stmt)(f:Addr)(fd:FuncData):Prop where
 ex:∃ (oc:Value) (od:Option Addr) (kV doc pm:Value) (an:Option Addr) (cdv ct:Value) (osl:Array (Option Value)),
  fd=PySem.W.fnOf x qual (cG st) (cn st) (ai st) .none kV doc pm an cdv ct/\K.lookup f=some ⟨oc,od,.func fd,osl⟩/\PySem.W.codeIn K cdv qual=true
 kp:PySem.W.keepIn K (.ref f)=true
section
variable {P:Program}{w:World}{K:PySem.W.Frag}{mg:Str->Option Value}{base:Heap}
theorem Fun.ok {x qual:Str}{st:Stmt}{f:Addr}{fd:FuncData}{N ps:List Str}{k:Nat}{sp:Sp}(F:Fun K x qual st f fd)(S:ay N ps (ai st))(len:∀ vs H Q E,sp vs H Q E->vs.length=ps.length)
  (hbody:∀ (cdv:Value) (A:Around) (outer:List Env) (s:Shared) (H:Hp) (vs:List V) (Q:VK) (E:XK),Room k (A.deeper (envOfC qual (ai st) s.heap.objs.size f cdv))->sp vs H Q E->
   ∃ t,PSs (mz cu P w K mg base N qual (ai st) f cdv A outer s H E).nox (cn st) t/\t {nx:=fun _ H'=>Q .non H',rt:=Q} (fG N vs) H):aY P w K mg base cu (k+1) f fd ps sp:=by
 obtain⟨oc,od,kV,doc,pm,an,cdv,ct,osl,rfl,lk,hcd⟩:=F.ex
 refine ue lk hcd S len fun A outer s H vs Q E hr hsp=>?_
 obtain⟨t,h,q⟩:=hbody cdv A outer s H vs Q E hr hsp
 exact⟨t,h.nox,q⟩
theorem Fun.binds {x qual:Str}{st:Stmt}{f:Addr}{fd:FuncData}{ps:List Str}(F:Fun K x qual st f fd)
  (h:∀ (kV doc pm:Value) (an:Option Addr) (cdv ct:Value) (us:List Value),us.length=ps.length->bindArgs (PySem.W.fnOf x qual (cG st) (cn st) (ai st) .none kV doc pm an cdv ct) ⟨us,[]⟩=pure (ps.zip us)):Binds K fd ps []:=by
 obtain⟨oc,od,kV,doc,pm,an,cdv,ct,osl,rfl,lk,hcd⟩:=F.ex
 exact .all (h kV doc pm an cdv ct)
theorem fun_mk {x qual:Str}{st:Stmt}{f:Addr}{oc:Value}{od an:Option Addr}{osl:Array (Option Value)}{kV doc pm cdv ct:Value}(l:K.lookup f=some ⟨oc,od,.func (PySem.W.fnOf x qual (cG st) (cn st) (ai st) .none kV doc pm an cdv ct),osl⟩)
  (c:PySem.W.codeIn K cdv qual=true) (k:PySem.W.keepIn K (.ref f)=true):Fun K x qual st f (PySem.W.fnOf x qual (cG st) (cn st) (ai st) .none kV doc pm an cdv ct):=⟨⟨oc,od,kV,doc,pm,an,cdv,ct,osl,rfl,l,c⟩,k⟩
end
theorem uu {A:Around}{k:Nat}(hr:Room k A):A.units+1 < cLine:=Nat.lt_of_le_of_lt (Nat.add_le_add_left (by decide:1<=64) _) hr.units
theorem av {n:Nat}(h:n<=1000):n < sizeLine:=Nat.lt_of_le_of_lt h (by decide)
section
variable {X:Cx}
theorem pv (i:Nat){x:Str}{pos:Pos}(hN:X.N[i]? =some x:=by rfl) (hv:vc X.env.scope x:=by first|exact Or.inl rfl|exact Or.inr (Or.inl rfl)|exact Or.inr (Or.inr rfl)) (hd:(x == ("__debug__":Str))=false:=by decide)
  (hcd:(x == ("__classdict__":Str))=false:=by decide):PE X (.Name x pos) (tQ i):=r_ hN hv hd hcd
end
theorem aA {A B:Prop}(h:B):if false=true then A else B:=by
 rw[if_neg Bool.false_ne_true]
 exact h
theorem aI {A B:Prop}(h:A):if true=true then A else B:=by
 rw[if_pos rfl]
 exact h
theorem cA {c A B:Prop} [Decidable c] (h1:c->A)(h2:¬ c->B):if c then A else B:=by
 by_cases h:c
 ·rw[if_pos h]
  exact h1 h
 ·rw[if_neg h]
  exact h2 h
def Same (H H':Hp):Prop:=∀ b o,H b=some o->H' b=some o
theorem Same.refl (H:Hp):Same H H:=fun _ _ h=>h
theorem Same.trans {H H1 H2:Hp}(a:Same H H1)(b:Same H1 H2):Same H H2:=fun c o h=>b c o (a c o h)
theorem Same.free {H H':Hp}(e:Same H H'){l:Addr}(h:H' l=Option.none):H l=Option.none:=by
 cases q:H l with
 |none=>rfl
 |some o=>
  rw[e l o q] at h
  cases h
theorem Same.seq {K:PySem.W.Frag}{H H':Hp}{a:Addr}{xs:List V}(e:Same H H')(h:SqL K H a xs):SqL K H' a xs:=by
 rcases h with (h|⟨o,h⟩)|h
 ·exact .inl (.inl (e _ _ h))
 ·exact .inl (.inr ⟨o,e _ _ h⟩)
 ·exact .inr h
section
variable {κ:Type} [DecidableEq κ]
theorem kY:∀ {l:List κ} {k:κ},l.Nodup->¬ k∈l->(l++[k]).Nodup
 |[],k,_,_=>by simp
 |a::r,k,h,hk=>by
  obtain⟨h1,h2⟩:=List.nodup_cons.mp h
  show (a::(r++[k])).Nodup
  refine List.nodup_cons.mpr ⟨fun m=>?_,kY h2 fun m=>hk (List.mem_cons.mpr (Or.inr m))⟩
  rcases List.mem_append.mp m with q|q
  ·exact h1 q
  ·exact hk (List.mem_cons.mpr (Or.inl (List.mem_singleton.mp q).symm))
end
end L2
set_option maxHeartbeats 4000000
set_option maxHeartbeats 4000000
namespace L2
open PySem PySem.Spec PyProof.Rows
mutual
def RD (H:Hp):PyData->V->Prop
 |.none,v=>v=.non
 |.bool b,v=>v=.bl b
 |.int i,v=>v=.int i
 |.str x,v=>v=.str x
 |.list ds,v=>∃ a xs,v=.ref a/\H a=some (.lst xs)/\fh H ds xs
 |.tuple ds,v=>∃ a xs,v=.ref a/\H a=some (.tup xs)/\fh H ds xs
 |.dict _,_=>False
def fh (H:Hp):List PyData->List V->Prop
 |[],xs=>xs=[]
 |d::ds,xs=>∃ y ys,xs=y::ys/\RD H d y/\fh H ds ys
end
theorem ir {H:Hp}{ds:List PyData}{a:Addr}{xs:List V}(h:H a=some (.lst xs))(r:fh H ds xs):RD H (.list ds) (.ref a):=by
 unfold RD
 exact⟨a,xs,rfl,h,r⟩
theorem cB {H:Hp}{ds:List PyData}{a:Addr}{xs:List V}(h:H a=some (.tup xs))(r:fh H ds xs):RD H (.tuple ds) (.ref a):=by
 unfold RD
 exact⟨a,xs,rfl,h,r⟩
theorem dz {H:Hp}{ds:List PyData}{v:V}(h:RD H (.list ds) v):∃ a xs,v=.ref a/\H a=some (.lst xs)/\fh H ds xs:=by
 unfold RD at h
 exact h
theorem ba {H:Hp}{ds:List PyData}{v:V}(h:RD H (.tuple ds) v):∃ a xs,v=.ref a/\H a=some (.tup xs)/\fh H ds xs:=by
 unfold RD at h
 exact h
theorem bi {H:Hp}(i:Int):RD H (.int i) (.int i):=by unfold RD;rfl
theorem cC {H:Hp}(x:Str):RD H (.str x) (.str x):=by unfold RD;rfl
theorem bL {H:Hp}:fh H [] []:=by unfold fh;rfl
theorem aE {H:Hp}{d:PyData}{ds:List PyData}{y:V}{ys:List V}(h:RD H d y)(t:fh H ds ys):fh H (d::ds) (y::ys):=by
 unfold fh
 exact⟨y,ys,rfl,h,t⟩
theorem b7 {H:Hp}{xs:List V}(h:fh H [] xs):xs=[]:=by
 unfold fh at h
 exact h
theorem bC {H:Hp}{d:PyData}{ds:List PyData}{xs:List V}(h:fh H (d::ds) xs):∃ y ys,xs=y::ys/\RD H d y/\fh H ds ys:=by
 unfold fh at h
 exact h
theorem je {H:Hp}:∀ ns:List Int,fh H (ns.map PyData.int) (ns.map V.int)
 |[]=>bL
 |n::r=>aE (bi n) (je r)
theorem fU {H:Hp}:∀ {ds:List PyData} {xs:List V},fh H ds xs->xs.length=ds.length
 |[],_,h=>by
  rw[b7 h]
  rfl
 |d::ds,_,h=>by
  obtain⟨y,ys,rfl,_,t⟩:=bC h
  rw[List.length_cons,List.length_cons,fU t]
theorem dr {H:Hp}:∀ {ds:List PyData} {xs:List V} {j:Nat} {v:V},fh H ds xs->xs[j]? =some v->RD H (ds.getD j .none) v
 |[],_,_,_,h,e=>by rw[b7 h] at e;cases e
 |d::ds,_,j,v,h,e=>by
  obtain⟨y,ys,rfl,h1,t⟩:=bC h
  cases j with
  |zero=>
   have e':y=v:=by simpa using e
   subst e'
   exact h1
  |succ j=>exact dr (ds:=ds) t (by simpa using e)
section
variable {X:Cx}{pins:List (Addr×Obj)}{σ:St}{H:Hp}{s:Shared}
mutual
theorem dA (I:Inv X pins σ H s):∀ (d:PyData) (x:V) (v:Value),RD H d x->RelV x v->∃ as,Reads s.heap v d as
 |.none,x,v,h,r=>by
  unfold RD at h
  subst h
  cases r
  exact⟨[],.none⟩
 |.bool b,x,v,h,r=>by
  unfold RD at h
  subst h
  cases r
  exact⟨[],.bool b⟩
 |.int i,x,v,h,r=>by
  unfold RD at h
  subst h
  obtain⟨t,rfl⟩:=r
  exact⟨[],.int i t⟩
 |.str y,x,v,h,r=>by
  unfold RD at h
  subst h
  obtain⟨t,rfl⟩:=r
  exact⟨[],.str y t⟩
 |.list ds,x,v,h,r=>by
  obtain⟨a,xs,e,h1,h2⟩:=dz h
  subst e
  cases r
  obtain⟨its,rv,⟨o,n,e1,e2,_,e4⟩,_⟩:=I.list (SqL.of h1)
  obtain⟨as,q⟩:=fi I ds xs its h2 rv
  exact⟨a::as,.list e1 e2 e4 (by simpa using q)⟩
 |.tuple ds,x,v,h,r=>by
  obtain⟨a,xs,e,h1,h2⟩:=ba h
  subst e
  cases r
  obtain⟨its,rv,⟨o,e1,e2,n,e4⟩,_⟩:=I.tuple (SqT.of h1)
  obtain⟨as,q⟩:=fi I ds xs its h2 rv
  exact⟨as,.tuple e1 e2 e4 (by simpa using q)⟩
 |.dict _,x,v,h,_=>by
  unfold RD at h
  exact h.elim
theorem fi (I:Inv X pins σ H s):∀ (ds:List PyData) (xs:List V) (vs:List Value),fh H ds xs->Vals xs vs->∃ as,ReadsAll s.heap vs ds as
 |[],xs,vs,h,r=>by
  rw[b7 h] at r
  cases r
  exact⟨[],.nil⟩
 |d::ds,xs,vs,h,r=>by
  obtain⟨y,ys,e,h1,h2⟩:=bC h
  subst e
  cases r with
  |cons r1 r2=>
   obtain⟨as,q1⟩:=dA I d y _ h1 r1
   obtain⟨bs,q2⟩:=fi I ds ys _ h2 r2
   exact⟨as++bs,.cons q1 q2⟩
end
end
section
variable {X:Cx}
inductive uv (x y:V)(H:Hp)(Q:VK):Prop
 |mk (da db:PyData)(ra:RD H da x)(rb:RD H db y)(sa:SeqAt.shaped da=true)(sb:SeqAt.shaped db=true)(q:Q (.bl (PyData.eqv da db)) H):uv x y H Q
inductive uw (x y:V)(H:Hp)(Q:VK):Prop
 |mk (da db:PyData)(ra:RD H da x)(rb:RD H db y)(sa:SeqAt.shaped da=true)(sb:SeqAt.shaped db=true)(q:Q (.bl (!PyData.eqv da db)) H):uw x y H Q
def ux:R2:=fun x y H Q=>uv x y H Q
def sH:R2:=fun x y H Q=>uw x y H Q
theorem sI (hu:X.A.units+64 < cLine):OpR X (compareOp .Eq) ux:=by
 intro pins s σ H x y v u Q I rx ry h
 obtain⟨da,db,ra,rb,sa,sb,q⟩:=h
 obtain⟨as,qa⟩:=dA I da x v ra rx
 obtain⟨bs,qb⟩:=dA I db y u rb ry
 exact eq_dataH qa qb sa sb hu ⟨.bl _,H,I,rfl,q⟩
theorem sJ (hu:X.A.units+64 < cLine):OpR X (compareOp .NotEq) sH:=by
 intro pins s σ H x y v u Q I rx ry h
 obtain⟨da,db,ra,rb,sa,sb,q⟩:=h
 obtain⟨as,qa⟩:=dA I da x v ra rx
 obtain⟨bs,qb⟩:=dA I db y u rb ry
 exact ne_dataH qa qb sa sb hu ⟨.bl _,H,I,rfl,q⟩
theorem bd (hu:X.A.units+64 < cLine):OpR X (compareOp .Eq) (fun x y H Q=>vK x y H Q\/ux x y H Q):=OpR.or t9 (sI hu)
theorem cY (hu:X.A.units+64 < cLine):OpR X (compareOp .NotEq) (fun x y H Q=>vq x y H Q\/sH x y H Q):=OpR.or t_ (sJ hu)
theorem bM:cT X (.builtin "isinstance") (fun xs H Q=>∃ x t c b,xs=[x,.ty c]/\eG X.K H x t/\PySem.W.kitOne X.K t (.type c)=some b/\Q (.bl b) H):=by
 intro pins s σ H xs us Q I r h
 obtain⟨x,t,c,b,rfl,ty,e,q⟩:=h
 obtain⟨u,w',rfl,rx,ry⟩:=ub r
 obtain rfl:w'=Value.type c:=ry
 exact my I rx ty e fun tk=>⟨.bl b,H,I.tok _,rfl,q⟩
def cZ (T c:String):Option Bool:=if (Value.type T == Value.type c)=true then some true else if PySem.W.kitMeta c=true then (fastBuiltinMro T).map (·.contains (Value.type c)) else none
theorem aU {K:PySem.W.Frag}{T c:String}{b:Bool}(h:cZ T c=some b):PySem.W.kitOne K (.type T) (.type c)=some b:=h
def iu:PyData->String
 |.none=>"NoneType"
 |.bool _=>"bool"
 |.int _=>"int"
 |.str _=>"str"
 |.list _=>"list"
 |.tuple _=>"tuple"
 |.dict _=>"dict"
theorem jf {K:PySem.W.Frag}{H:Hp}:∀ (d:PyData) (v:V),RD H d v->eG K H v (.type (iu d))
 |.none,v,h=>by
  unfold RD at h
  subst h
  exact .non
 |.bool b,v,h=>by
  unfold RD at h
  subst h
  exact .bl b
 |.int i,v,h=>by
  unfold RD at h
  subst h
  exact .int i
 |.str x,v,h=>by
  unfold RD at h
  subst h
  exact .str x
 |.list ds,v,h=>by
  obtain⟨a,xs,e,h1,_⟩:=dz h
  subst e
  exact .lst h1
 |.tuple ds,v,h=>by
  obtain⟨a,xs,e,h1,_⟩:=ba h
  subst e
  exact .tup h1
 |.dict _,v,h=>by
  unfold RD at h
  exact h.elim
def sK:PyData->Bool
 |.tuple _=>true
 |_=>false
def gg:PyData->Bool
 |.int _=>true
 |.bool _=>true
 |_=>false
def iw:PyData->Bool
 |.bool _=>true
 |_=>false
def fV:PyData->Bool
 |.dict _=>true
 |_=>false
theorem nJ:cZ "NoneType" "tuple"=some false/\cZ "bool" "tuple"=some false/\cZ "int" "tuple"=some false/\cZ "str" "tuple"=some false/\cZ "list" "tuple"=some false/\cZ "tuple" "tuple"=some true:=by
 refine⟨?_,?_,?_,?_,?_,?_⟩<;>decide+kernel
theorem sM:cZ "NoneType" "int"=some false/\cZ "bool" "int"=some true/\cZ "int" "int"=some true/\cZ "str" "int"=some false/\cZ "list" "int"=some false/\cZ "tuple" "int"=some false:=by
 refine⟨?_,?_,?_,?_,?_,?_⟩<;>decide+kernel
theorem p7:cZ "NoneType" "bool"=some false/\cZ "bool" "bool"=some true/\cZ "int" "bool"=some false/\cZ "str" "bool"=some false/\cZ "list" "bool"=some false/\cZ "tuple" "bool"=some false:=by
 refine⟨?_,?_,?_,?_,?_,?_⟩<;>decide+kernel
theorem mH {K:PySem.W.Frag}(d:PyData)(h:fV d=false):PySem.W.kitOne K (.type (iu d)) (.type "tuple")=some (sK d):=by
 obtain⟨h1,h2,h3,h4,h5,h6⟩:=nJ
 cases d with
 |none=>exact aU h1
 |bool _=>exact aU h2
 |int _=>exact aU h3
 |str _=>exact aU h4
 |list _=>exact aU h5
 |tuple _=>exact aU h6
 |dict _=>cases h
theorem kZ {K:PySem.W.Frag}(d:PyData)(h:fV d=false):PySem.W.kitOne K (.type (iu d)) (.type "int")=some (gg d):=by
 obtain⟨h1,h2,h3,h4,h5,h6⟩:=sM
 cases d with
 |none=>exact aU h1
 |bool _=>exact aU h2
 |int _=>exact aU h3
 |str _=>exact aU h4
 |list _=>exact aU h5
 |tuple _=>exact aU h6
 |dict _=>cases h
theorem jg {K:PySem.W.Frag}(d:PyData)(h:fV d=false):PySem.W.kitOne K (.type (iu d)) (.type "bool")=some (iw d):=by
 obtain⟨h1,h2,h3,h4,h5,h6⟩:=p7
 cases d with
 |none=>exact aU h1
 |bool _=>exact aU h2
 |int _=>exact aU h3
 |str _=>exact aU h4
 |list _=>exact aU h5
 |tuple _=>exact aU h6
 |dict _=>cases h
theorem fj {H:Hp}{d:PyData}{v:V}(h:RD H d v):fV d=false:=by
 cases d with
 |dict _=>
  unfold RD at h
  exact h.elim
 |_=>rfl
end
structure Fn (P:Program)(w:World)(K:PySem.W.Frag)(mg:Str->Option Value)(base:Heap)(k:Nat)(x:Str)(f:Addr)(fd:FuncData)(ps:List Str)(sp:Sp):Prop where
 ok:aY P w K mg base cu k f fd ps sp
 b:Binds K fd ps []
 kp:PySem.W.keepIn K (.ref f)=true
 at_:mg x=some (.ref f)
section
variable {X:Cx}{j k:Nat}{f:Addr}{fd:FuncData}{ps:List Str}{sp:Sp}{x:Str}{p pos:Pos}{e:Expr}{es:List Expr}{t:TA}
theorem aw (G:Fn X.prog X.w X.K X.mg X.base j x f fd ps sp)(hr:Room k X.A)(hjk:j<=k)(hg:Gl X x)(ha:PA X (e::es) t)(hdb:(x == ("__debug__":Str))=false:=by decide)
  (he:starEach (e::es) X.env=(false,eval e X.env)::starEach es X.env:=by rfl) (hpl:(backTo pos (starEach es X.env)).any (·.1)=false:=by rfl):PE X (.Call (.Name x p) (e::es) [] pos) (qV sp [] E0 t):=
 pT G.ok (hr.mono hjk) hg G.at_ G.kp G.b .nil ut ha hdb he hpl
end
theorem af {H:Hp}{p:Addr}(h:H p=none)(o:HO):Same H (upd H p o):=fun b u q=>by rw[ap (aq q h)];exact q
theorem Same.upd_new {H0 H:Hp}{p:Addr}(k:Same H0 H)(h:H0 p=none)(o:HO):Same H0 (upd H p o):=fun b u q=>by rw[ap (aq q h)];exact k b u q
theorem nK {α:Type}{xs:List α}{i:Int}(h0:0<=i)(h1:i < xs.length):∃ v,xs[i.toNat]? =some v/\jT xs i=some v:=by
 have hk:i.toNat < xs.length:=by omega
 have ek:i=((i.toNat:Nat):Int):=by omega
 have q:jT xs ((i.toNat:Nat):Int)=some xs[i.toNat]:=aZ (List.getElem?_eq_getElem hk)
 rw[← ek] at q
 exact⟨_,List.getElem?_eq_getElem hk,q⟩
theorem nL {ns:List Int}{i:Int}(h0:0<=i)(h1:i < ns.length):∃ v,ns[i.toNat]? =some v/\jT (ns.map V.int) i=some (.int v):=by
 obtain⟨v,h2,h3⟩:=nK (xs:=ns.map V.int) h0 (by rw[List.length_map];exact h1)
 rw[List.getElem?_map] at h2
 cases e:ns[i.toNat]? with
 |none=>rw[e] at h2;cases h2
 |some z=>
  rw[e] at h2
  have h2':V.int z=v:=by simpa using h2
  subst h2'
  exact⟨z,rfl,h3⟩
end L2
namespace L2
open PySem PySem.Spec PyProof.Rows
def AllIn (f:Str->Option Addr):List (Str×Addr)->Prop
 |[]=>True
 |p::r=>f p.1=some p.2/\AllIn f r
theorem AllIn.look {f:Str->Option Addr}:∀ {cl:List (Str×Addr)},AllIn f cl->∀ {y:Str} {c:Addr},cl.lookup y=some c->f y=some c
 |[],_,y,c,e=>by cases e
 |(n,a)::r,h,y,c,e=>by
  rw[List.lookup_cons] at e
  cases q:(y == n) with
  |true=>
   rw[q] at e
   have e1:y=n:=eq_of_beq q
   have e2:a=c:=Option.some.inj e
   rw[e1,← e2]
   exact h.1
  |false=>
   rw[q] at e
   exact AllIn.look h.2 e
def bW (X:Cx)(scope:Scope)(cl:List (Str×Addr))(NY:List Str)(C:Addr)(fp:List Addr)(s₀:Shared)(H₀:Hp):Cx where
 prog:=X.prog
 w:=X.w
 K:=X.K
 mg:=X.mg
 base:=X.base
 A:=X.A
 N:=NY
 s₀:=s₀
 H₀:=H₀
 env:=compEnvC scope (cellsFrom (C+1) scope.names cl) C X.env
 outer:=X.stack
 stack:=X.stack
 ex:=fp
 fn:=fun x=>(cl.lookup x).isNone
 calm:=X.calm
 pn:=[]
 xe:=fun _ _=>False
structure CompSc (X:Cx)(scope:Scope)(cl:List (Str×Addr))(NY:List Str)(idx:List (Option Nat)):Prop where
 clos:closureFor scope X.env=pure cl
 all:AllIn (fun y=>X.env.cells.lookup y) cl
 c2:∀ n,((relabel scope X.env).names.all fun q=>!(decide (q.2=.cell) || decide (q.2=.free)) || ((cellsFrom n scope.names cl).lookup q.1).isSome)=true
 ix:((NY.zip idx).all fun p=>match p.2 with
  |none=>true
  |some i=>decide (X.N[i]? =some p.1)&&(decide (X.env.kindOf p.1=some .cell) || decide (X.env.kindOf p.1=some .free))&&(decide ((relabel scope X.env).names.lookup p.1=some .cell) || decide ((relabel scope X.env).names.lookup p.1=some .free))&&(scope.names.all fun q=>!decide (q.2=.cell) || !decide (q.1=p.1)))=true
 len:idx.length=NY.length
 kind:scope.kind=.function
 names:∀ y∈scope.names,y.2=.local->scope.names.lookup y.1=some .local
theorem bJ:∀ (names:List (Str×NameKind)) (n:Nat) (acc:List (Str×Addr)),cellsFrom n names acc=cellsFrom n names []++acc
 |[],_,_=>rfl
 |(x,k)::r,n,acc=>by
  unfold cellsFrom
  split
  ·rw[bJ r (n+1) ((x,n)::acc),bJ r (n+1) [(x,n)],List.append_assoc]
   rfl
  ·exact bJ r n acc
theorem fk:∀ {names:List (Str×NameKind)} {n:Nat} {y:Str} {c:Addr},(y,c)∈cellsFrom n names []->(y,NameKind.cell)∈names
 |(x,k)::r,n,y,c,h=>by
  unfold cellsFrom at h
  split at h
  ·rename_i hk
   rw[bJ] at h
   rcases List.mem_append.mp h with h|h
   ·exact List.mem_cons_of_mem _ (fk h)
   ·cases List.mem_singleton.mp h
    rw[eq_of_beq hk]
    exact List.mem_cons_self
  ·exact List.mem_cons_of_mem _ (fk h)
theorem gh {names:List (Str×NameKind)}{n:Nat}{cl:List (Str×Addr)}{y:Str}{c:Addr}(h:(cellsFrom n names cl).lookup y=some c):(y,c)∈cellsFrom n names []\/cl.lookup y=some c:=by
 rw[bJ,List.lookup_append] at h
 cases e:(cellsFrom n names []).lookup y with
 |some d=>
  rw[e] at h
  cases h
  exact .inl (PySem.mem_of_lookup e)
 |none=>
  rw[e] at h
  exact .inr h
theorem nM {names:List (Str×NameKind)}{n:Nat}{cl:List (Str×Addr)}{y:Str}(hn:∀ q∈names,q.2=NameKind.cell->q.1≠y):(cellsFrom n names cl).lookup y=cl.lookup y:=by
 rw[bJ,List.lookup_append]
 cases e:(cellsFrom n names []).lookup y with
 |some d=>exact absurd rfl (hn _ (fk (PySem.mem_of_lookup e)) rfl)
 |none=>rfl
theorem gJ {M:Model}{A:Around}{E:Value->Shared->Prop}{s:Shared}{scope:Scope}{globals:Addr}{closure:List (Str×Addr)}{qual:Str}{outer:Env}{Q:Env->Shared->Prop}
  (hQ:∀ h',h'.Ns s.heap.objs.size (fun _=>none)->(∀ b o,s.heap.get? b=some o->h'.get? b=some o)->CellsOk h' (s.heap.objs.size+1) (cellsFrom (s.heap.objs.size+1) scope.names [])->
   Q (newEnv scope s.heap.objs.size globals (cellsFrom (s.heap.objs.size+1) scope.names closure) qual none .none (some outer) outer.builtins) {s with heap:=h'}):
  wpAny M A (newFunctionEnv scope globals closure [] qual none .none (some outer)) Q E s:=by
 simp only [newFunctionEnv,Option.isSome_some,if_true]
 refine wpAny_bind (wpAny_alloc ?_)
 refine wpAny_bind (wpAny_layCells _ (fun name kind cells=>by cases hkc:kind == NameKind.cell<;>simp [hkc]) _ _ _ _ ?_)
 have ok:=cellsFrom_ok scope.names (s.heap.push {cls:=.type "dict",data:=.dict #[]}) (s.heap.objs.size+1) [] ⟨fun _ _ hm=>(nomatch hm),List.Pairwise.nil⟩ (by rw[Heap.size_push];exact Nat.le_refl _)
 rw[Heap.size_push] at ok
 rw[show ({s with heap:=s.heap.push {cls:=.type "dict",data:=.dict #[]}}:Shared).heap.objs.size=s.heap.objs.size+1 from Heap.size_push ..]
 refine wpAny_bind ?_
 rw[List.forIn_nil]
 exact wpAny_pure (wpAny_pure (hQ _ ((Heap.Ns.new s.heap (.type "dict")).keeps (pushCells_keeps _ _)) (fun b o e=>pushCells_keeps _ _ b o (Heap.get?_push_of_some _ e)) ok))
def nN (idx:List (Option Nat))(σ:St):St:=idx.map fun o=>match o with
 |none=>none
 |some i=>(σ[i]?).getD none
section
variable {X:Cx}{scope:Scope}{cl:List (Str×Addr)}{NY:List Str}{idx:List (Option Nat)}
theorem CompSc.look (S:CompSc X scope cl NY idx){y:Str}(n:Nat)(h:(relabel scope X.env).names.lookup y=some .cell\/(relabel scope X.env).names.lookup y=some .free):∃ c,(cellsFrom n scope.names cl).lookup y=some c:=by
 have hm:∃ k,(y,k)∈(relabel scope X.env).names/\(k=.cell\/k=.free):=by
  rcases h with h|h
  ·exact⟨_,PySem.mem_of_lookup h,.inl rfl⟩
  ·exact⟨_,PySem.mem_of_lookup h,.inr rfl⟩
 obtain⟨k,hk,hkk⟩:=hm
 have q:=List.all_eq_true.mp (S.c2 n) _ hk
 have e:(decide (k=NameKind.cell) || decide (k=NameKind.free))=true:=by
  rcases hkk with rfl|rfl
  ·rfl
  ·rfl
 have q':(!(decide (k=NameKind.cell) || decide (k=NameKind.free)) || ((cellsFrom n scope.names cl).lookup y).isSome)=true:=q
 rw[e] at q'
 exact Option.isSome_iff_exists.mp q'
theorem nO {pins:List (Addr×Obj)}{σ:St}{H:Hp}{s:Shared}{fp:List Addr}{h₁:Heap}{m:Str->Option Value}{tk:Nat}(S:CompSc X scope cl NY idx)(I:Inv X pins σ H s)
  (f2:∀ b∈fp,il X pins H b) (hfl:∀ b∈fp,b < s.heap.objs.size) (hns:h₁.Ns s.heap.objs.size m) (old:∀ b o,s.heap.get? b=some o->h₁.get? b=some o) (hcs:CellsOk h₁ (s.heap.objs.size+1) (cellsFrom (s.heap.objs.size+1) scope.names [])):
  Inv (bW X scope cl NY s.heap.objs.size fp s H) [] (nN idx σ) H {s with heap:=h₁,toks:=tk}:=by
 have hC:H s.heap.objs.size=none:=I.hok.fresh (Nat.le_refl _)
 have hcl:∀ {x:Str} {c:Addr},cl.lookup x=some c->X.env.cells.lookup x=some c:=fun e=>S.all.look e
 have cellLt:∀ {x:Str} {c:Addr},X.env.cells.lookup x=some c->c < s.heap.objs.size:=fun {x c} e=>by
  obtain⟨v,z⟩:=I.cell x c e
  exact z.lt
 have two:∀ {x:Str} {c:Addr},(cellsFrom (s.heap.objs.size+1) scope.names cl).lookup x=some c->((x,c)∈cellsFrom (s.heap.objs.size+1) scope.names []/\s.heap.objs.size < c/\h₁.IsCell c none)\/(X.env.cells.lookup x=some c/\c < s.heap.objs.size):=fun {x c} e=>by
  rcases gh e with h|h
  ·exact .inl ⟨h,(hcs.empty x c h).2,(hcs.empty x c h).1⟩
  ·exact .inr ⟨hcl h,cellLt (hcl h)⟩
 have inj:∀ x y c,(cellsFrom (s.heap.objs.size+1) scope.names cl).lookup x=some c->(cellsFrom (s.heap.objs.size+1) scope.names cl).lookup y=some c->x=y:=fun x y c h1 h2=>by
  rcases two h1 with a|a<;>rcases two h2 with b|b
  ·exact name_of_addr hcs.apart a.1 b.1
  ·exact absurd (Nat.lt_trans a.2.1 b.2) (Nat.lt_irrefl _)
  ·exact absurd (Nat.lt_trans b.2.1 a.2) (Nat.lt_irrefl _)
  ·exact I.ok.inj x y c a.1 b.1
 have ne:∀ b∈fp,∀ x c,(cellsFrom (s.heap.objs.size+1) scope.names cl).lookup x=some c->c≠b:=fun b hb x c e=>by
  rcases two e with a|a
  ·exact Nat.ne_of_gt (Nat.lt_trans (hfl b hb) a.2.1)
  ·exact (f2 b hb).2.2.2.2.1 x c a.1
 have fr:∀ x c,(cellsFrom (s.heap.objs.size+1) scope.names cl).lookup x=some c->H c=none:=fun x c e=>by
  rcases two e with a|a
  ·exact I.hok.fresh (Nat.le_of_lt a.2.1)
  ·exact I.freeC x c a.1
 have cab:∀ x c,(cl.lookup x).isNone=true->(cellsFrom (s.heap.objs.size+1) scope.names cl).lookup x=some c->s.heap.objs.size<=c:=fun x c hf e=>by
  rcases gh e with h|h
  ·exact Nat.le_of_succ_le (hcs.empty x c h).2
  ·rw[h] at hf
   cases hf
 refine⟨⟨I.ok.mod,?_,I.ok.glob,I.ok.blt,Nat.le_refl _,inj,fun x hx=>S.look _ hx,cab,I.ok.hd,I.ok.frames,.inl rfl,fun b hb=>⟨Nat.ne_of_lt (hfl b hb),ne b hb⟩,
  I.bs,Nat.le_trans I.ok.bsz I.sz,fun b o e hb=>?_,fun b hb hz=>?_,I.stack,I.stkFree⟩,rfl,I.bare,Un.kept old,⟨m,hns,fun j y v h1 h2 h3=>?_⟩,fun x c e=>?_,hC,fr,fun p hp=>absurd (show p∈([]:List (Addr×Obj)) from hp) (by simp),I.hok.kept old,?_⟩
 ·exact S.kind
 ·rcases (f2 b hb).2.2.2.1 with z|z
  ·exact I.ok.noex b o e z
  ·exact absurd (Nat.lt_of_lt_of_le (Heap.lt_size e) (Nat.le_trans I.ok.bsz z)) (Nat.lt_irrefl _)
 ·rcases List.mem_cons.mp (I.stkSub b hz) with e|e
  ·exact (f2 b hb).2.1 e
  ·exact (f2 b hb).2.2.1 e
 ·
  have h2':(nN idx σ)[j]? =some (some v):=h2
  unfold nN at h2'
  rw[List.getElem?_map] at h2'
  cases ej:idx[j]? with
  |none=>rw[ej] at h2';cases h2'
  |some o=>
   rw[ej] at h2'
   cases o with
   |none=>cases h2'
   |some i=>
    have e3:(σ[i]?).getD none=some v:=by simpa using h2'
    have e4:σ[i]? =some (some v):=by
     cases q:σ[i]? with
     |none=>rw[q] at e3;cases e3
     |some z=>
      rw[q] at e3
      exact congrArg some e3
    have hz:(NY.zip idx)[j]? =some (y,some i):=by
     rw[List.getElem?_zip_eq_some]
     exact⟨h1,ej⟩
    have q:=List.all_eq_true.mp S.ix _ (List.mem_of_getElem? hz)
    have q':(decide (X.N[i]? =some y)&&(decide (X.env.kindOf y=some .cell) || decide (X.env.kindOf y=some .free))&&(decide ((relabel scope X.env).names.lookup y=some .cell) || decide ((relabel scope X.env).names.lookup y=some .free))&&(scope.names.all fun q=>!decide (q.2=.cell) || !decide (q.1=y)))=true:=q
    rw[Bool.and_eq_true,Bool.and_eq_true,Bool.and_eq_true,Bool.or_eq_true,Bool.or_eq_true] at q'
    obtain⟨⟨⟨q1,q2⟩,q3⟩,q4⟩:=q'
    have q5:∀ q∈scope.names,q.2=NameKind.cell->q.1≠y:=fun q hq e1 e2=>by
     have:=List.all_eq_true.mp q4 q hq
     rw[decide_eq_true e1,decide_eq_true e2] at this
     cases this
    have q1':=of_decide_eq_true q1
    have q2':X.env.kindOf y=some .cell\/X.env.kindOf y=some .free:=q2.elim (fun z=>.inl (of_decide_eq_true z)) fun z=>.inr (of_decide_eq_true z)
    have q3':(relabel scope X.env).names.lookup y=some .cell\/(relabel scope X.env).names.lookup y=some .free:=q3.elim (fun z=>.inl (of_decide_eq_true z)) fun z=>.inr (of_decide_eq_true z)
    obtain⟨mX,_,hl⟩:=I.loc
    obtain⟨u,ru,lk⟩:=hl i y v q1' e4 (.inr q2')
    refine⟨u,ru,.inr ⟨q3',?_⟩⟩
    obtain⟨c,hc0⟩:=S.look (s.heap.objs.size+1) q3'
    have hc:=hc0
    rw[nM q5] at hc
    rcases lk with⟨hk,_⟩|⟨_,c',hc',hcell⟩
    ·rcases q2' with z|z
     ·rw[hk] at z;cases z
     ·rw[hk] at z;cases z
    ·have e5:=hcl hc
     rw[hc'] at e5
     cases e5
     obtain⟨oc,ho,hd⟩:=hcell
     exact⟨_,hc0,oc,old _ _ ho,hd⟩
 ·rcases two e with a|a
  ·exact⟨none,a.2.2⟩
  ·obtain⟨v,oc,ho,hd⟩:=I.cell x c a.1
   exact⟨v,oc,old _ _ ho,hd⟩
 ·unfold nN
  rw[List.length_map]
  exact S.len
end
def uy (Y:Cx)(ifs:List Expr)(t:TT):Prop:=
 ∀ (pins:List (Addr×Obj)) (s:Shared) (σ:St) (H:Hp) (Q:Bool->Hp->Prop),Inv Y pins σ H s->t σ H Q->
  wpAny (model Y.prog Y.w) Y.A (forIn ifs true fun c r=>if r=true then do let ok ← isTrue c Y.env (eval c Y.env);pure (ForInStep.yield ok) else pure (ForInStep.yield r)) (TP Y pins σ Q) Y.xe s
def uz:TT:=fun _ H Q=>Q true H
theorem eL {i:Nat}{x:V}{σ:St}{H:Hp}{A B:St->Hp->Prop}(h:A (σ.set i (some x)) H):fE i x σ H (fun σ3 H3=>uz σ3 H3 fun b H4=>if b=true then A σ3 H4 else B σ3 H4):=by
 show (if true=true then A (σ.set i (some x)) H else B (σ.set i (some x)) H)
 exact aI h
theorem bT {Y:Cx}:uy Y [] uz:=fun pins s σ H Q I h=>wpAny_tests_nil ⟨H,I,h⟩
theorem bn {Y:Cx}{c:Expr}{t:TT}(h:PT Y c t):uy Y [c] t:=fun pins s σ H Q I hw=>wpAny_tests_one (h pins s σ H Q I hw)
def fJ (J:It)(D:Addr)(g:TG)(tt:TT)(te:TE)(σ0:St)(H1:Hp)(Q:VK):Prop:=
 ∃ W:Nat->Nat->St->List V->Hp->Prop,(∃ m,W 0 m σ0 [] (upd H1 D (.lst [])))/\∀ i m σ ys H,W i m σ ys H->H D=some (.lst ys)/\
  ((J.stop i H/\Q (.ref D) H)\/(J.go i H/\∃ N:St->List V->Hp->Prop,(∀ σ' ys' H',N σ' ys' H'->∃ m',m' < m/\W (i+1) m' σ' ys' H')/\
   ∀ x H2,J.yld i H x H2->g x σ H2 fun σ3 H3=>tt σ3 H3 fun b H4=>if b=true then te σ3 H4 fun y H5=>H5 D=some (.lst ys)/\ys.length < sizeLine/\N σ3 (ys++[y]) (upd H5 D (.lst (ys++[y]))) else N σ3 ys H4))
def nP (idx:List (Option Nat))(wi:TI)(g:TG)(tt:TT)(te:TE):TE:=fun σ H Q=>wi σ H fun J H1=>∀ D,H1 D=none->fJ J D g tt te (nN idx σ) H1 Q
section
variable {prog:Program}{w:World}{A:Around}{R:Result->Shared->Prop}{s:Shared}
theorem dB {elt target iter:Expr}{ifs:List Expr}{scope:Scope}{pos:Pos}{it acc:Value}{env:Env}(I:Nat->Shared->Prop)
  (turn:∀ n s,I n s->wpAny (model prog w) A (pyNext it) (fun r s₁=>match r with
   |none=>R (.ok .next) s₁
   |some v=>wpAny (model prog w) A (letOwnedTupleGo target it v) (fun _ s₀=>wpAny (model prog w) A (assign target env v) (fun _ s₂=>
     wpAny (model prog w) A (forIn ifs true fun c r=>if r=true then do let ok ← isTrue c env (eval c env);pure (ForInStep.yield ok) else pure (ForInStep.yield r)) (fun ok s₃=>
      if ok=true then wpAny (model prog w) A (eval elt env) (fun x s₄=>
       wpAny (model prog w) A (call (.builtin "list.append") [acc,x]) (fun _ s₅=>∃ m,m < n/\I m s₅) (fun _ _=>False) s₄) (fun _ _=>False) s₃
      else ∃ m,m < n/\I m s₃) (fun _ _=>False) s₂) (fun _ _=>False) s₀) (fun _ _=>False) s₁) (fun _ _=>False) s)
  (n:Nat) (h:I n s):
  codeAny (model prog w) A (.compLoop (.ListComp elt [⟨target,iter,ifs,0⟩] scope pos) 0 it acc env) R s:=by
 refine codeAny_loop rfl I (fun n s hI=>?_) n h
 show wpAny _ A ((compTurn (.ListComp elt [⟨target,iter,ifs,0⟩] scope pos) 0 it acc env).onRaise (fun x=>do noteFrame x env;theTreesLotGoes x)) _ _ s
 refine wpAny_noted ?_
 rw[compTurn_list]
 have no:∀ {α:Type} {t:Sem α} {Q:α->Shared->Prop} {E:Value->Shared->Prop} {s:Shared},wpAny (model prog w) A t Q (fun _ _=>False) s->wpAny (model prog w) A t Q E s:=fun hq=>wpAny_mono hq (fun _ _ z=>z) fun _ _ z=>z.elim
 refine wpAny_bind (wpAny_standAt (wpAny_bind (wpAny_mono (turn n s hI) (fun r s₁ h₁=>?_) fun _ _ h'=>h'.elim)))
 cases r with
 |none=>exact wpAny_pure h₁
 |some v=>
  refine wpAny_bind (wpAny_mono h₁ (fun _ s₀ h₀=>?_) fun _ _ h'=>h'.elim)
  refine wpAny_bind (wpAny_mono h₀ (fun _ s₂ h₂=>wpAny_bind (wpAny_mono h₂ (fun ok s₃ h₃=>?_) fun _ _ h'=>h'.elim)) fun _ _ h'=>h'.elim)
  cases ok with
  |false=>exact wpAny_pure ⟨rfl,h₃⟩
  |true=>
   exact wpAny_bind (wpAny_bind (wpAny_mono h₃ (fun x s₄ h₄=>wpAny_bind (wpAny_mono h₄ (fun _ s₅ h₅=>wpAny_pure (wpAny_pure ⟨rfl,h₅⟩)) fun _ _ h'=>h'.elim)) fun _ _ h'=>h'.elim))
end
section
variable {X:Cx}{scope:Scope}{cl:List (Str×Addr)}{NY:List Str}{idx:List (Option Nat)}{elt iter target:Expr}{ifs:List Expr}{pos:Pos}{wi:TI}{g:TG}{tt:TT}{te:TE}
structure CompEnd (X:Cx)(pins:List (Addr×Obj))(σ:St)(H:Hp)(C:Addr)(s:Shared):Prop where
 inv:Inv X pins σ H s
 ns:∃ m,s.heap.Ns C m
 free:H C=none
 loc:C≠X.env.locals
 young:X.s₀.heap.objs.size<=C
 cells:∀ x c,X.env.cells.lookup x=some c->c≠C
 pin:∀ p∈X.pn++pins,p.1≠C
theorem CompEnd.gone {pins:List (Addr×Obj)}{σ:St}{H:Hp}{C:Addr}{s:Shared}{h':Heap}(e:CompEnd X pins σ H C s)(hs:Heap.SameBut C s.heap h'):Inv X pins σ H {s with heap:=h'}:=
 e.inv.turned (t':=s.toks) (fun b o hb q=>(hs.2 b hb).trans q) e.free e.loc (.inr e.young) e.cells e.pin
theorem jh {pins:List (Addr×Obj)}{σ:St}{H:Hp}{s:Shared}{Q:VK}{RR:Value->Addr->Result->Shared->Prop}(hcalm:X.calm=true)(S:CompSc X scope cl NY idx)(hi:PI X target iter wi)
  (hg:∀ C fp s₀ H₀,PG (bW X scope cl NY C fp s₀ H₀) target g) (ht:∀ C fp s₀ H₀,uy (bW X scope cl NY C fp s₀ H₀) ifs tt) (he:∀ C fp s₀ H₀,PE (bW X scope cl NY C fp s₀ H₀) elt te)
  (I:Inv X pins σ H s) (h:nP idx wi g tt te σ H Q)
  (hRR:∀ D C H' s',CompEnd X pins σ H' C s'->Q (.ref D) H'->RR (.ref D) C (.ok .next) s'):
  wpAny (model X.prog X.w) X.A (eval iter X.env) (fun x s₁=>wpAny (model X.prog X.w) X.A (pyIter x) (fun it s₂=>wpAny (model X.prog X.w) X.A (newList []) (fun acc s₃=>
   wpAny (model X.prog X.w) X.A (newFunctionEnv scope X.env.globals cl [] X.env.qual none .none (some X.env)) (fun cenv s₄=>
    codeAny (model X.prog X.w) X.A (.compStart (.ListComp elt [⟨target,iter,ifs,0⟩] scope pos) 0 it acc {cenv with scope:=relabel scope X.env}) (RR acc cenv.locals) s₄) X.xe s₃) X.xe s₂) X.xe s₁) X.xe s:=by
 refine bh (hi pins s σ H _ I h) fun v s1 h1=>bh h1 fun itv s2 h2=>?_
 obtain⟨it,fp,tn,J,H2,e,I2,T,st2,f2,r2⟩:=h2
 subst e
 have hD:H2 s2.heap.objs.size=none:=I2.hok.fresh (Nat.le_refl _)
 have r3:=r2 s2.heap.objs.size hD
 have I3:Inv X pins σ (upd H2 s2.heap.objs.size (.lst [])) {s2 with heap:=s2.heap.push {cls:=.type "list",data:=.seq ([]:List Value).toArray}}:=
  I2.laid (t':=s2.toks) (fun b u q=>Heap.get?_push_of_some _ q) (Nat.le_refl _) ⟨Nat.zero_le _,[],0,.nil,Heap.get?_push_size _ rfl⟩
 refine wpAny_newObj_type (gJ fun h₁ hns hsb hcs=>?_)
 dsimp only at hns hsb hcs ⊢
 have hfl0:∀ b∈fp,b < s2.heap.objs.size:=fun b hb=>by
  obtain⟨o,q,_⟩:=T.obj 0 _ st2 b hb
  exact Heap.lt_size q
 have neD:∀ b∈fp,b≠s2.heap.objs.size:=fun b hb=>Nat.ne_of_lt (hfl0 b hb)
 have f3:∀ b∈fp,il X pins (upd H2 s2.heap.objs.size (.lst [])) b:=fun b hb=>⟨by rw[ap (neD b hb)];exact (f2 b hb).1,(f2 b hb).2⟩
 generalize hs3:({s2 with heap:=s2.heap.push {cls:=.type "list",data:=.seq ([]:List Value).toArray}}:Shared)=s3 at I3
 have es3:s3.heap=s2.heap.push {cls:=.type "list",data:=.seq ([]:List Value).toArray}:=by rw[← hs3]
 have hfl:∀ b∈fp,b < s3.heap.objs.size:=fun b hb=>by
  rw[es3,Heap.size_push]
  exact Nat.lt_succ_of_lt (hfl0 b hb)
 have hns':h₁.Ns s3.heap.objs.size (fun _=>none):=by rw[es3];exact hns
 have old:∀ b o,s3.heap.get? b=some o->h₁.get? b=some o:=fun b o q=>by
  rw[es3] at q
  exact hsb b o q
 have hcs':CellsOk h₁ (s3.heap.objs.size+1) (cellsFrom (s3.heap.objs.size+1) scope.names []):=by rw[es3];exact hcs
 have st3:tn 0 h₁:=T.keep _ _ _ st2 fun b hb o q=>old b o (by rw[es3];exact Heap.get?_push_of_some _ q)
 have IY0:=nO (tk:=s2.toks) S I3 f3 hfl hns' old hcs'
 have e4:({s3 with heap:=h₁,toks:=s2.toks}:Shared)={s2 with heap:=h₁,toks:=s2.toks}:=by rw[← hs3]
 rw[e4] at IY0
 have eC:s3.heap.objs.size=(s2.heap.push {cls:=.type "list",data:=.seq ([]:List Value).toArray}).objs.size:=by rw[es3]
 have hC3:s3.heap.get? s3.heap.objs.size=none:=Heap.get?_none_of_le (Nat.le_refl _)
 obtain⟨W,⟨m0,w0⟩,turn⟩:=r3
 have loop:∀ s4:Shared,s4={s2 with heap:=h₁,toks:=s2.toks}->
   codeAny (model X.prog X.w) X.A (.compLoop (.ListComp elt [⟨target,iter,ifs,0⟩] scope pos) 0 (.ref it) (.ref s2.heap.objs.size) (compEnvC scope (cellsFrom (s3.heap.objs.size+1) scope.names cl) s3.heap.objs.size X.env)) (RR (.ref s2.heap.objs.size) s3.heap.objs.size) s4:=by
  rintro s4 rfl
  have stat:∀ {H':Hp},(∀ b∈fp,H' b=none)->∀ b∈fp,il (bW X scope cl NY s3.heap.objs.size fp s3 (upd H2 s2.heap.objs.size (.lst []))) [] H' b:=fun {H'} hn b hb=>
   ⟨hn b hb,Nat.ne_of_lt (hfl b hb),(fun z=>(IY0.ok.exfs b hb) z),.inl hb,fun x c e=>(IY0.ok.exf b hb).2 x c e,fun p hp=>absurd (show p∈([]:List (Addr×Obj)) from hp) (by simp)⟩
  refine dB (fun n s'=>∃ i σ' ys H',Inv (bW X scope cl NY s3.heap.objs.size fp s3 (upd H2 s2.heap.objs.size (.lst []))) [] σ' H' s'/\tn i s'.heap/\(∀ b∈fp,H' b=none)/\W i n σ' ys H') ?_ m0
   ⟨0,_,[],_,IY0,st3,fun b hb=>(f3 b hb).1,w0⟩
  rintro n s5 ⟨i,σ5,ys,H5,I5,st5,fr5,w5⟩
  obtain⟨hacc,alt⟩:=turn i n σ5 ys H5 w5
  rcases alt with⟨stop,qn⟩|⟨go,N,hN,step⟩
  ·refine bh (T.done (bW X scope cl NY s3.heap.objs.size fp s3 (upd H2 s2.heap.objs.size (.lst []))) rfl rfl rfl hcalm i [] s5 σ5 H5 (fun _ _=>False) I5 (stat fr5) st5 stop) fun r s6 ⟨hr,I6⟩=>?_
   subst hr
   have I7:Inv X pins σ H5 s6:=I3.call' (s':=s6) (ch:=fp) I6.os I6.base I6.hok I6.bare fun b hb=>⟨(f3 b hb).2.2.2.1,(f3 b hb).2.1,(f3 b hb).2.2.2.2.1,(f3 b hb).2.2.2.2.2⟩
   refine hRR _ _ H5 s6 ⟨I7,?_,I6.free,Nat.ne_of_gt I3.lt,I3.sz,fun x c e=>?_,fun p hp z=>?_⟩ qn
   ·obtain⟨m,hn,_⟩:=I6.loc
    exact⟨m,hn⟩
   ·obtain⟨v,q⟩:=I3.cell x c e
    exact Nat.ne_of_lt q.lt
   ·have q:=(I3.pin p hp).1
    rw[z,hC3] at q
    cases q
  ·refine bh (T.item (bW X scope cl NY s3.heap.objs.size fp s3 (upd H2 s2.heap.objs.size (.lst []))) rfl rfl rfl hcalm i [] s5 σ5 H5 (fun _ _=>False) I5 (stat fr5) st5 go) fun r s6 ⟨u,hr,h6⟩=>?_
   subst hr
   refine bh h6 fun _ s7 ⟨x,H7,I7,r7,y7,st7,fr7⟩=>?_
   have I7':=I7.pinned (stat fr7) (T.obj _ _ st7)
   have back:∀ {σ8:St} {ys8:List V} {H8:Hp} {s8:Shared},Inv (bW X scope cl NY s3.heap.objs.size fp s3 (upd H2 s2.heap.objs.size (.lst []))) ([]++gb fp s7.heap) σ8 H8 s8->N σ8 ys8 H8->
     ∃ m,m < n/\∃ i σ' ys H',Inv (bW X scope cl NY s3.heap.objs.size fp s3 (upd H2 s2.heap.objs.size (.lst []))) [] σ' H' s8/\tn i s8.heap/\(∀ b∈fp,H' b=none)/\W i m σ' ys H':=fun {σ8 ys8 H8 s8} I8 n8=>by
    obtain⟨m',hm,w8⟩:=hN σ8 ys8 H8 n8
    refine⟨m',hm,i+1,σ8,ys8,H8,I8.unpinned,T.keep _ _ _ st7 fun b hb o e=>(I8.pin (b,o) (List.mem_append_right _ (List.mem_append_right _ (dm hb e)))).1,fun b hb=>?_,w8⟩
    obtain⟨o,e,d⟩:=T.obj _ _ st7 b hb
    exact (I8.pin (b,o) (List.mem_append_right _ (List.mem_append_right _ (dm hb e)))).2.1
   refine bh (hg _ _ _ _ _ s7 σ5 H7 x u _ I7' r7 (step x H7 y7)) fun _ s8 ⟨σ8,H8,I8,q8⟩=>?_
   refine bh (ht _ _ _ _ _ s8 σ8 H8 _ I8 q8) fun ok s9 ⟨H9,I9,q9⟩=>?_
   cases ok with
   |false=>exact aA (back I9 q9)
   |true=>
    refine aI ?_
    refine bh (he _ _ _ _ _ s9 σ8 H9 _ I9 q9) fun y s10 ⟨yv,H10,I10,r10,hD10,hz10,n10⟩=>?_
    refine bh (cI _ s10 σ8 H10 (.ref s2.heap.objs.size) [yv] (.ref s2.heap.objs.size) [y] (fun v H'=>v=.non/\H'=upd H10 s2.heap.objs.size (.lst (ys++[yv]))) I10 rfl (.cons r10 .nil) ⟨_,ys,yv,rfl,rfl,hD10,hz10,rfl,rfl⟩) fun _ s11 ⟨_,H11,I11,_,_,e11⟩=>?_
    subst e11
    exact back I11 n10
 have e5:(compEnvC scope (cellsFrom (s3.heap.objs.size+1) scope.names cl) s3.heap.objs.size X.env)={newEnv scope (s2.heap.push {cls:=.type "list",data:=.seq ([]:List Value).toArray}).objs.size X.env.globals (cellsFrom ((s2.heap.push {cls:=.type "list",data:=.seq ([]:List Value).toArray}).objs.size+1) scope.names cl) X.env.qual none .none (some X.env) X.env.builtins with scope:=relabel scope X.env}:=by
  rw[es3]
  rfl
 have L1:=loop _ rfl
 rw[eC] at L1
 exact codeAny_compStart_list L1 (T.self _ 0 _ _ _ st3 L1)
theorem aP (hcalm:X.calm=true)(S:CompSc X scope cl NY idx)(hi:PI X target iter wi)(hg:∀ C fp s₀ H₀,PG (bW X scope cl NY C fp s₀ H₀) target g)(ht:∀ C fp s₀ H₀,uy (bW X scope cl NY C fp s₀ H₀) ifs tt)
  (he:∀ C fp s₀ H₀,PE (bW X scope cl NY C fp s₀ H₀) elt te) (hs:∀ x,foldedSetIterable iter X.env x=pure x:=by intro _;rfl):PE X (.ListComp elt [⟨target,iter,ifs,0⟩] scope pos) (nP idx wi g tt te):=by
 intro pins s σ H Q I h
 rw[eval_ListComp]
 refine wpAny_comprehension_free (use:=none) rfl hs S.clos S.kind S.names ?_
 refine jh (RR:=fun acc C=>compPost (model X.prog X.w) X.A X.xe none (EP X pins σ Q) acc C) hcalm S hi hg ht he I h ?_
 intro D C H' s' e q
 obtain⟨m,hn⟩:=e.ns
 exact⟨m,hn,fun h' hs'=>⟨.ref D,H',e.gone hs',rfl,q⟩⟩
def nQ (i:Nat)(te:TE):TS:=fun D σ H=>te σ H fun v H1=>D.nx (σ.set i (some v)) H1
theorem dt {i:Nat}{x:Str}{pos' spos:Pos}(hN:X.N.Nodup)(hx:X.N[i]? =some x) (hl:X.env.scope.names.lookup x=some .local) (hcalm:X.calm=true) (S:CompSc X scope cl NY idx) (hi:PI X target iter wi)
  (hg:∀ C fp s₀ H₀,PG (bW X scope cl NY C fp s₀ H₀) target g) (ht:∀ C fp s₀ H₀,uy (bW X scope cl NY C fp s₀ H₀) ifs tt) (he:∀ C fp s₀ H₀,PE (bW X scope cl NY C fp s₀ H₀) elt te)
  (hsw:swapsWith (.ListComp elt [⟨target,iter,ifs,0⟩] scope pos) (some (.Name x pos')) spos.line X.env=pure true) (hs:∀ x,foldedSetIterable iter X.env x=pure x:=by intro _;rfl):
  PS X (.Assign [.Name x pos'] (.ListComp elt [⟨target,iter,ifs,0⟩] scope pos) spos) (nQ i (nP idx wi g tt te)):=by
 intro pins s σ H D I h
 rw[exec_Assign_Name_used _ _ _ _ hsw]
 refine wpAny_bind (wpAny_standAt (wpAny_bind ?_))
 show wpAny _ X.A (do let _ ← comprehension (.ListComp elt [⟨target,iter,ifs,0⟩] scope pos) scope X.env _ (newList []) false (eval iter X.env) (some (assign (.Name x pos') X.env))) _ _ s
 refine wpAny_bind (wpAny_mono (wpAny_comprehension_free (use:=some (assign (.Name x pos') X.env)) (Q:=fun _ s'=>∃ σ' H',Inv X pins σ' H' s'/\D.nx σ' H') rfl hs S.clos S.kind S.names ?_) (fun _ s' hq=>wpAny_pure (wpAny_pure hq)) fun _ _ e=>e)
 refine jh (RR:=fun acc C=>compPost (model X.prog X.w) X.A X.xe (some (assign (.Name x pos') X.env)) (fun _ s'=>∃ σ' H',Inv X pins σ' H' s'/\D.nx σ' H') acc C) hcalm S hi hg ht he I h ?_
 intro D' C H' s' e q
 refine wpAny_assign_Name (gM e.inv hN hx (.inl hl) (v:=.ref D') (u:=.ref D') rfl (fun s'' I'' sb=>?_) (.inr hl))
 obtain⟨a,hsb,ha⟩:=sb
 have neC:C≠a:=by
  rcases ha with rfl|ha
  ·exact e.loc
  ·exact fun z=>e.cells _ _ ha z.symm
 obtain⟨m,hn⟩:=e.ns
 have e2:CompEnd X pins (σ.set i (some (.ref D'))) H' C s'':=⟨I'',⟨m,hn.sameBut hsb neC⟩,e.free,e.loc,e.young,e.cells,e.pin⟩
 exact⟨m,hn.sameBut hsb neC,fun h' hs'=>⟨_,H',e2.gone hs',q⟩⟩
end
section
variable {K:PySem.W.Frag}{a D:Addr}{xs:List V}{g:TG}{tt:TT}{te:TE}{σ0:St}{H1:Hp}{Q:VK}
theorem cJ (Pv:Nat->St->List V->Hp->Prop)(h0:Pv 0 σ0 [] (upd H1 D (.lst [])))(hd:∀ i σ ys H,i<=xs.length->Pv i σ ys H->H D=some (.lst ys)/\SqL K H a xs)
  (hs:∀ i x σ ys H,xs[i]? =some x->Pv i σ ys H->g x σ H fun σ3 H3=>tt σ3 H3 fun b H4=>if b=true then te σ3 H4 fun y H5=>H5 D=some (.lst ys)/\ys.length < sizeLine/\Pv (i+1) σ3 (ys++[y]) (upd H5 D (.lst (ys++[y]))) else Pv (i+1) σ3 ys H4)
  (hq:∀ σ ys H,Pv xs.length σ ys H->Q (.ref D) H):fJ (qR K a) D g tt te σ0 H1 Q:=by
 refine⟨fun i m σ ys H=>m=xs.length - i/\i<=xs.length/\Pv i σ ys H,⟨xs.length,by simp,Nat.zero_le _,h0⟩,?_⟩
 rintro i m σ ys H ⟨rfl,hi,p⟩
 obtain⟨hD,q⟩:=hd i σ ys H hi p
 refine⟨hD,?_⟩
 by_cases hlt:i < xs.length
 ·refine .inr ⟨⟨xs,xs[i],q,by simp [hlt]⟩,Pv (i+1),fun σ' ys' H' p'=>⟨xs.length - (i+1),by omega,rfl,hlt,p'⟩,fun x H' y=>?_⟩
  obtain⟨e,y⟩:=y
  subst e
  exact hs i x σ ys _ (y xs q) p
 ·have e:i=xs.length:=by omega
  subst e
  exact .inl ⟨⟨xs,q,Nat.le_refl _⟩,hq σ ys H p⟩
theorem ji (Pv:Nat->St->List V->Hp->Prop)(h0:Pv 0 σ0 [] (upd H1 D (.lst [])))(hd:∀ i σ ys H,i<=xs.length->Pv i σ ys H->H D=some (.lst ys)/\SqT K H a xs)
  (hs:∀ i x σ ys H,xs[i]? =some x->Pv i σ ys H->g x σ H fun σ3 H3=>tt σ3 H3 fun b H4=>if b=true then te σ3 H4 fun y H5=>H5 D=some (.lst ys)/\ys.length < sizeLine/\Pv (i+1) σ3 (ys++[y]) (upd H5 D (.lst (ys++[y]))) else Pv (i+1) σ3 ys H4)
  (hq:∀ σ ys H,Pv xs.length σ ys H->Q (.ref D) H):fJ (qS K a) D g tt te σ0 H1 Q:=by
 refine⟨fun i m σ ys H=>m=xs.length - i/\i<=xs.length/\Pv i σ ys H,⟨xs.length,by simp,Nat.zero_le _,h0⟩,?_⟩
 rintro i m σ ys H ⟨rfl,hi,p⟩
 obtain⟨hD,q⟩:=hd i σ ys H hi p
 refine⟨hD,?_⟩
 by_cases hlt:i < xs.length
 ·refine .inr ⟨⟨xs,xs[i],q,by simp [hlt]⟩,Pv (i+1),fun σ' ys' H' p'=>⟨xs.length - (i+1),by omega,rfl,hlt,p'⟩,fun x H' y=>?_⟩
  obtain⟨e,y⟩:=y
  subst e
  exact hs i x σ ys _ (y xs q) p
 ·have e:i=xs.length:=by omega
  subst e
  exact .inl ⟨⟨xs,q,Nat.le_refl _⟩,hq σ ys H p⟩
theorem gi {lo:Int}{n:Nat}(Pv:Nat->St->List V->Hp->Prop)(h0:Pv 0 σ0 [] (upd H1 D (.lst [])))(hd:∀ i σ ys H,i<=n->Pv i σ ys H->H D=some (.lst ys))
  (hs:∀ i σ ys H,i < n->Pv i σ ys H->g (.int (lo+i)) σ H fun σ3 H3=>tt σ3 H3 fun b H4=>if b=true then te σ3 H4 fun y H5=>H5 D=some (.lst ys)/\ys.length < sizeLine/\Pv (i+1) σ3 (ys++[y]) (upd H5 D (.lst (ys++[y]))) else Pv (i+1) σ3 ys H4)
  (hq:∀ σ ys H,Pv n σ ys H->Q (.ref D) H):fJ (qT lo n) D g tt te σ0 H1 Q:=by
 refine⟨fun i m σ ys H=>m=n - i/\i<=n/\Pv i σ ys H,⟨n,by simp,Nat.zero_le _,h0⟩,?_⟩
 rintro i m σ ys H ⟨rfl,hi,p⟩
 refine⟨hd i σ ys H hi p,?_⟩
 by_cases hlt:i < n
 ·refine .inr ⟨hlt,Pv (i+1),fun σ' ys' H' p'=>⟨n - (i+1),by omega,rfl,hlt,p'⟩,fun x H' y=>?_⟩
  obtain⟨e,y⟩:=y
  subst e y
  exact hs i σ ys _ hlt p
 ·have e:i=n:=by omega
  subst e
  exact .inl ⟨Nat.le_refl _,hq σ ys H p⟩
end
end L2
namespace L2
open PySem PySem.Spec PyProof.Rows
section
variable {X:Cx}{pos:Pos}
theorem nR (hc:X.calm=true):cT X (.builtin "sum") (fun xs H Q=>∃ (p:Addr) (ns:List Int),xs=[.ref p]/\SqL X.K H p (ns.map V.int)/\Q (.int ns.sum) H):=by
 intro pins s σ H xs us Q I r h
 obtain⟨p,ns,rfl,hq,q⟩:=h
 obtain⟨u,rfl,ru⟩:=cL r
 cases ru
 obtain⟨its,rv,pl,hz⟩:=I.list hq
 have hi:IntsAre its ns:=dX rv
 obtain⟨zs,ez⟩:=hi.allInts.items
 have hl:=pl.isList
 rw[ez] at hl
 refine sum_intListG (I.ok.hd hc) hl fun h' tk t' hk=>?_
 have e1:numsOf its=zs.toList.map (·.1):=by
  rw[← nums_intItems,← ez]
 have e2:preSum (numAt zs) zs.size=ns.sum:=by
  rw[preSum_eq,List.take_of_length_le (by simp),← e1,hi.numsOf]
 rw[e2]
 exact⟨.int ns.sum,H,I.kept hk,⟨_,rfl⟩,q⟩
theorem j9 {ss:List Str}:∀ {us:List Value},Vals (ss.map V.str) us->StrsAre us ss:=by
 induction ss with
 |nil=>intro us r;rw[List.map_nil] at r;cases r;exact .nil
 |cons n ns ih=>
  intro us r
  rw[List.map_cons] at r
  cases r with
  |cons r1 r2=>
   obtain⟨t,e⟩:=r1
   subst e
   exact .cons n t (ih r2)
theorem p8:vN X "str.join" (fun x vs H Q=>∃ (sep:Str) (p:Addr) (ys:List Str),x=.str sep/\vs=[.ref p]/\SqL X.K H p (ys.map V.str)/\(ys.map (·.length)).sum+ys.length*sep.length<=16777216/\Q (.str (Txt.join sep ys)) H):=by
 intro pins s σ H x vs v us Q I rx rv h
 obtain⟨sep,p,ys,rfl,rfl,hq,hz,q⟩:=h
 obtain⟨t,rfl⟩:=rx
 obtain⟨u,rfl,ru⟩:=cL rv
 cases ru
 obtain⟨its,r,pl,_⟩:=I.list hq
 exact join_list pl.isList (by simpa using j9 r) hz fun t' k=>⟨.str _,H,I.tok _,⟨_,rfl⟩,q⟩
def sN:V->Bool
 |.bl _=>true
 |.non=>true
 |_=>false
def jk:V->Bool
 |.bl b=>b
 |_=>false
theorem p9 {prog:Program}{w:World}{A:Around}{ys:List V}{its:List Value}(r:Vals ys its)(hb:ys.all sN=true):TruthOf prog w A (fun i v=>its.toArray[i]? =some v) (fun i=>(ys[i]?).elim false jk):=by
 intro i v s Q E hv hq
 have hv':its[i]? =some v:=by simpa using hv
 cases e:ys[i]? with
 |none=>
  rw[r.none_of e] at hv'
  cases hv'
 |some y=>
  obtain⟨u,hu,ru⟩:=r.get e
  rw[hu] at hv'
  cases hv'
  have hq':Q ((ys[i]?).elim false jk) s:=hq
  rw[e] at hq'
  have hy:=List.all_eq_true.mp hb y (List.mem_of_getElem? e)
  cases y with
  |bl b=>
   cases ru
   exact wpAny_truthy_bool hq'
  |non=>
   cases ru
   exact truthy_none hq'
  |_=>cases hy
theorem mI (ys:List V):(List.range ys.length).any (fun i=>(ys[i]?).elim false jk)=ys.any jk:=by
 rw[Bool.eq_iff_iff]
 simp only [List.any_eq_true,List.mem_range]
 constructor
 ·rintro⟨i,hi,h⟩
  refine⟨ys[i],List.getElem_mem hi,?_⟩
  simpa [hi] using h
 ·rintro⟨y,hy,h⟩
  obtain⟨i,hi,rfl⟩:=List.getElem_of_mem hy
  exact⟨i,hi,by simpa [hi] using h⟩
theorem jl (hc:X.calm=true):cT X (.builtin "any") (fun xs H Q=>∃ (p:Addr) (ys:List V),xs=[.ref p]/\SqL X.K H p ys/\ys.all sN=true/\Q (.bl (ys.any jk)) H):=by
 intro pins s σ H xs us Q I r h
 obtain⟨p,ys,rfl,hq,hb,q⟩:=h
 obtain⟨u,rfl,ru⟩:=cL r
 cases ru
 obtain⟨its,rv,pl,hz⟩:=I.list hq
 have hl:=pl.isList
 obtain⟨o,ho,_⟩:=id hl
 have hlt:p < s.heap.objs.size:=Heap.lt_size ho
 refine call_any_walk (wpAny_pyIter_list hl ?_)
 refine⟨s.heap.objs.size,_,_,_,_,_,_,rfl,Walks.list (A:=X.A.in1) (I.ok.hd hc) s.heap.objs.size p (Nat.ne_of_lt hlt) its.toArray,⟨⟨_,Heap.get?_push_size _ rfl,rfl,rfl⟩,hl.push _⟩,p9 rv hb,fun h' tk hk=>?_⟩
 have e:(List.range its.toArray.size).any (fun i=>(ys[i]?).elim false jk)=ys.any jk:=by
  rw[List.size_toArray,← rv.length]
  exact mI ys
 rw[e]
 refine⟨.bl _,H,I.kept fun b o e=>hk b o ?_ (Heap.get?_push_of_some _ e),rfl,q⟩
 intro hm
 exact absurd (List.mem_singleton.mp hm) (Nat.ne_of_lt (Heap.lt_size e))
end
theorem gj:∀ (l:List Value) (ks:List Int),l.length=ks.length->(∀ (i:Nat) (v:Value),l[i]? =some v->∃ (k:Int) (t:Tok),ks[i]? =some k/\v=.int k t)->IntsAre l ks
 |[],[],_,_=>.nil
 |[],_::_,h,_=>by cases h
 |_::_,[],h,_=>by cases h
 |v::l,k::ks,h,f=>by
  obtain⟨k',t,e1,e2⟩:=f 0 v rfl
  have e1':k=k':=Option.some.inj e1
  subst e1' e2
  exact .cons k t (gj l ks (by simpa using h) fun i u hu=>f (i+1) u (by simpa using hu))
theorem jm {κ:Type}:∀ {kvs:List (κ×V)} {vs:List (κ×Value)} {i:Nat} {q:κ×Value},KV kvs vs->vs[i]? =some q->∃ p,kvs[i]? =some p/\p.1=q.1/\RelV p.2 q.2
 |_,_,_,_,.nil,e=>by cases e
 |_,_,0,_,.cons r _,e=>by
  have e':=Option.some.inj e
  subst e'
  exact⟨_,rfl,r.1,r.2⟩
 |_,_,i+1,q,.cons _ t,e=>by
  obtain⟨p,h1,h2⟩:=jm (i:=i) (q:=q) t (by simpa using e)
  exact⟨p,by simpa using h1,h2⟩
section
variable {X:Cx}
theorem jn (hc:X.calm=true):cT X (.builtin "sorted") (fun xs H Q=>∃ (p:Addr) (kvs:List (bo×V)) (ks:List Int),xs=[.ref p]/\H p=some (.dK kvs)/\kvs.map (·.1)=ks.map Sum.inl/\ks.length < 64/\
  ∀ (l:Addr) (ns':List Int),H l=none->List.Perm ns' ks->List.Pairwise (·<=·) ns'->Q (.ref l) (upd H l (.lst (List.map V.int ns')))):=by
 intro pins s σ H xs us Q I r h
 obtain⟨p,kvs,ks,rfl,hp,hk,h64,q⟩:=h
 obtain⟨u,rfl,ru⟩:=cL r
 cases ru
 obtain⟨z,hd,vs,rel,dd⟩:kvs.length<=sizeLine/\(p == sysModules)=false/\∃ vs,KV kvs vs/\s.heap.DictOf (aO X.prog X.w) p vs:=I.hok p _ hp
 obtain⟨ep,hat⟩:=dd.dictAt
 have hlen:kvs.length=vs.length:=Paired.length rel
 have hkl:ks.length=kvs.length:=by
  have e:=congrArg List.length hk
  rw[List.length_map,List.length_map] at e
  exact e.symm
 refine Calls.call_function_entry kind_sorted plain_sorted entry_sorted (args_sorted1 _) ?_
 unfold Builtin.«sorted»
 refine wpAny_bind (m:=checkCount "sorted" 1 1 _) (wpAny_pure ?_)
 refine wpAny_bind (PySem.W.kdu_collect (A:=X.A.in1) (PySem.W.kdl_dict (knd:=aO X.prog X.w) (kvs:=vs) (ep:=ep) hd) (I.ok.hd hc) hat (by omega) fun h' tk acc hkp hacc=>?_)
 have hl:acc.toList.length=vs.length:=by rw[Array.length_toList];exact hacc.1
 have hints:IntsAre acc.toList ks:=by
  refine gj _ _ (by rw[hl];omega) fun i v hv=>?_
  obtain⟨k,x,hx,hkv⟩:=hacc.2 i v (by rw[← Array.getElem?_toList];exact hv)
  obtain⟨q1,hq1,hq2,_⟩:=jm rel hx
  have e1:(kvs.map (·.1))[i]? =some k:=by rw[List.getElem?_map,hq1];exact congrArg some hq2
  rw[hk,List.getElem?_map] at e1
  cases e2:ks[i]? with
  |none=>rw[e2] at e1;cases e1
  |some n=>
   rw[e2] at e1
   have e3:(Sum.inl n:bo)=k:=Option.some.inj e1
   subst e3
   obtain⟨t,et⟩:=Value.isInt_shape (k:=n) (v:=v) hkv
   exact⟨n,t,rfl,et⟩
 refine wpAny_bind (wpAny_newList ?_ (by rw[hl];omega))
 have I1:Inv X pins σ H {s with heap:=h',toks:=tk}:=I.kept hkp
 have hoL:(h'.push (seqObj "list" acc.toList.toArray 0)).get? h'.objs.size=some (seqObj "list" acc.toList.toArray 0):=Heap.get?_push_size _ rfl
 refine wpAny_bind (wpAny_holding (wpAny_call_entry slot_list_sort ⟨_,hoL,rfl⟩ entry_list_sort (list_sort_tree hoL hints (by omega) fun out ns' a1 a2 a3=>⟨_,rfl,?_⟩) (args_list_sort _)))
 refine wpAny_pure ⟨_,rfl,?_⟩
 have hn:=I1.hok.fresh (a:=h'.objs.size) (Nat.le_refl _)
 obtain⟨e,he⟩:=sortedHeap_at (out:=out) hoL
 have I2:Inv X pins σ (upd H h'.objs.size (.lst (ns'.map V.int))) {s with heap:=sortedHeap (h'.push (seqObj "list" acc.toList.toArray 0)) h'.objs.size acc.toList out,toks:=tk}:=by
  refine I1.laid (t':=tk) (fun b o eb=>?_) (Nat.le_refl _) ?_
  ·have hb:b < h'.objs.size:=Heap.lt_size eb
   rw[sortedHeap_old (Nat.ne_of_lt hb) (by rw[size_push'];exact Nat.lt_succ_of_lt hb)]
   exact Heap.get?_push_of_some _ eb
  ·refine⟨?_,out.toList,e,?_,?_⟩
   ·rw[List.length_map,a2.length_eq]
    exact Nat.le_of_lt (av (by omega))
   ·exact fg a1
   ·simpa using he
 exact⟨.ref h'.objs.size,_,I2,rfl,q _ ns' hn a2 a3⟩
end
end L2
namespace L2
open PySem PySem.Spec PyProof.Rows
def tL (K:PySem.W.Frag)(a:Addr):It:=
 ⟨fun i H=>∃ xs x,SqL K H a xs/\xs[i]? =some x,fun i H x H'=>∃ t v,H t=none/\x=.ref t/\H'=upd H t (.tup [.int i,v])/\∀ xs,SqL K H a xs->xs[i]? =some v,fun i H=>∃ xs,SqL K H a xs/\xs.length<=i⟩
theorem mJ {P:Program}{w:World}{K:PySem.W.Frag}{es:List Expr}{k1:Nat}{pos:Pos}(a e it:Addr)(hne:e≠it):mr P w K (.Tuple es k1 pos) (tL K a) [e,it] e (fun i h=>(∃ old,IsEnum h e it i old)/\h.IsListIter it a i) where
 mem:=by simp
 obj:=fun i h st b hb=>by
  obtain⟨⟨old,h1⟩,o,h2,_,h4⟩:=st
  rcases List.mem_cons.mp hb with rfl|hb
  ·exact⟨_,h1,fun v z=>by
    have z':Data.fields _=Data.cell v:=z
    cases z'⟩
  ·have e:b=it:=List.mem_singleton.mp hb
   subst e
   exact⟨o,h2,fun v z=>by rw[h4] at z;cases z⟩
 keep:=fun i h h' st k=>by
  obtain⟨⟨old,h1⟩,h2⟩:=st
  exact⟨⟨old,k e (by simp) _ h1⟩,h2.at fun o e=>k it (by simp) o e⟩
 item:=by
  intro X hP hw hK hc i pins s σ H E I hf st hg
  subst hP hw hK
  obtain⟨xs,x,hq,hx⟩:=hg
  obtain⟨its,rv,p,hz⟩:=I.list hq
  obtain⟨u,hu,ru⟩:=rv.get hx
  obtain⟨⟨old,h1⟩,h2⟩:=st
  obtain⟨f0,f1,f2,f3,f4,f5⟩:=hf e (by simp)
  obtain⟨g0,g1,g2,g3,g4,g5⟩:=hf it (by simp)
  refine wpAny_pyNext_enum_item h1 h2 p.isList (x:=u) (by simpa using hu) hne fun h' ho hit' ht hsz hk=>?_
  refine⟨_,rfl,wpAny_letOwnedTupleGo_enum ho fun h'' he'' hs''=>?_⟩
  have hel:e < s.heap.objs.size:=Heap.lt_size h1
  have hil:it < s.heap.objs.size:=by
   obtain⟨o,q,_⟩:=h2
   exact Heap.lt_size q
  have kk:∀ b o,b≠e->b≠it->s.heap.get? b=some o->h''.get? b=some o:=fun b o h3 h4 q=>hs''.extBut b o h3 (hk b o h3 h4 q)
  have I1:Inv X pins σ (upd H s.heap.objs.size (.tup [.int i,x])) {s with heap:=h'',toks:=s.toks+1}:=by
   have hn:H s.heap.objs.size=none:=I.hok.fresh (Nat.le_refl _)
   have ht'':h''.get? s.heap.objs.size=some {cls:=.type "tuple",data:=.seq #[.int i s.toks,u]}:=hs''.extBut _ _ (Nat.ne_of_gt hel) ht
   have nt:∀ b o,H b=some o->b≠e/\b≠it:=fun b o q=>⟨fun z=>(by rw[z,f0] at q;cases q),fun z=>(by rw[z,g0] at q;cases q)⟩
   refine I.step (g':=s.gens) (d':=s.drawn) (t':=s.toks+1) (ch:=[e,it]) (fun b hb=>?_) (fun b o _ _ hc q _=>?_) (fun b o _ _ hc q _=>⟨o.slots,?_⟩) (fun b o _ q n=>?_) (fun b o hc q=>⟨o,?_⟩) (fun b ys q=>?_) (fun b ob ys q=>?_) (fun b ps q=>⟨#[],?_⟩) (fun m hm=>?_) (fun b ob q=>?_) I.bare
   ·rcases List.mem_cons.mp hb with rfl|hb
    ·exact⟨f3,f1,f4,f5⟩
    ·have z:b=it:=List.mem_singleton.mp hb
     subst z
     exact⟨g3,g1,g4,g5⟩
   ·exact kk b o (fun z=>hc (by simp [z])) (fun z=>hc (by simp [z])) q
   ·exact kk b o (fun z=>hc (by simp [z])) (fun z=>hc (by simp [z])) q
   ·rw[ap (Nat.ne_of_lt (Heap.lt_size q))]
    exact n
   ·exact kk b o (fun z=>hc (by simp [z])) (fun z=>hc (by simp [z])) q
   ·rw[ap (aq q hn)]
    exact q
   ·rw[ap (aq q hn)]
    exact q
   ·rw[ap (aq q hn),q]
    simp
   ·obtain⟨o,es,ep,ho,r⟩:=hm
    exact⟨o,es,ep,kk _ o (Ne.symm f1) (Ne.symm g1) ho,r⟩
   ·by_cases hb:b=s.heap.objs.size
    ·subst hb
     rw[ac] at q
     cases q
     exact⟨by show 2<=sizeLine;decide,[.int i s.toks,u],.cons ⟨_,rfl⟩ (.cons ru .nil),⟨_,ht'',rfl,_,rfl⟩⟩
    ·rw[ap hb] at q
     refine (I.hok b ob q).stay (fun c v hc z=>?_) (fun c z=>by rw[ap (aq z hn)];exact z) fun c ys z=>by rw[ap (aq z hn)];exact z
     rcases hc with hc|hc
     ·subst hc
      exact kk _ v (nt _ _ q).1 (nt _ _ q).2 z
     ·exact kk _ v (nt _ _ hc).1 (nt _ _ hc).2 z
  refine⟨.ref s.heap.objs.size,_,I1,rfl,⟨s.heap.objs.size,x,I.hok.fresh (Nat.le_refl _),rfl,rfl,fun ys hy=>by rw[I.list_inj hy hq];exact hx⟩,⟨⟨u,by simpa using he''⟩,hit'.at fun o q=>hs''.extBut it o (Ne.symm hne) q⟩,fun b hb=>?_⟩
  have hlt:b < s.heap.objs.size:=by
   rcases List.mem_cons.mp hb with rfl|hb
   ·exact hel
   ·rw[List.mem_singleton.mp hb]
    exact hil
  rw[ap (Nat.ne_of_lt hlt)]
  exact (hf b hb).1
 done:=by
  intro X hP hw hK hc i pins s σ H E I hf st hg
  subst hP hw hK
  obtain⟨xs,hq,hx⟩:=hg
  obtain⟨its,rv,p,hz⟩:=I.list hq
  obtain⟨⟨old,h1⟩,h2⟩:=st
  obtain⟨g0,g1,g2,g3,g4,g5⟩:=hf it (by simp)
  have hl:=rv.length
  exact wpAny_pyNext_enum_end (I.ok.hd hc) h1 h2 p.isList (by simp;omega) fun h' eb=>⟨rfl,I.turned (t':=s.toks) (fun b o hb e=>eb b o hb e) g0 g1 g3 g4 g5⟩
 self:=fun _ _ _ _ _ st h=>by
  obtain⟨⟨old,h1⟩,_⟩:=st
  exact wpAny_pyIter_enum h1 h
def nS (f:V->Hp->Prop):List V->Hp->Prop
 |[x],H=>f x H
 |_,_=>False
theorem eN {f:V->Hp->Prop}:∀ {vs:List V} {H:Hp},nS f vs H->∃ x,vs=[x]/\f x H
 |[x],_,h=>⟨x,rfl,h⟩
section
variable {X:Cx}
def uA (K:PySem.W.Frag)(tl:TE):TI:=fun σ H R=>tl σ H fun x H1=>∃ a,x=.ref a/\(∃ xs,SqL K H1 a xs)/\R (tL K a) H1
theorem fW {es:List Expr}{k1:Nat}{tpos:Pos}{l:Expr}{tl:TE}{p pos:Pos}(hg:Gl X "enumerate")(hm:X.mg "enumerate"=none)(hl:PE X l tl)(hs:starEach [l] X.env=[(false,eval l X.env)]:=by rfl):
  PI X (.Tuple es k1 tpos) (.Call (.Name "enumerate" p) [l] [] pos) (uA X.K tl):=by
 intro pins s σ H R I h
 have ha:=aa hl (ad (X:=X)) (by rw[hs];rfl)
 refine Call_ (cK I hg hm boot_enumerate (PyProof.Rows.callWith_type1 (bh (ha pos pins s σ H (nS fun x H1=>∃ a,x=.ref a/\(∃ xs,SqL X.K H1 a xs)/\R (tL X.K a) H1) I h) fun us s1 ⟨vs,H1,I1,r1,q1⟩=>?_) hs rfl))
 ·obtain⟨x,e,a,ex,⟨xs,hq⟩,q⟩:=eN q1
  subst e ex
  obtain⟨u,rfl,ru⟩:=cL r1
  cases ru
  obtain⟨its,rv,pl,hz⟩:=I1.list hq
  refine call_enumerate_list pl.isList fun h' he hit hsz hk=>?_
  refine wpAny_pyIter_enum he ?_
  have I2:Inv X pins σ H1 {s1 with heap:=h'}:=I1.kept (t':=s1.toks) hk
  refine⟨s1.heap.objs.size+1,[s1.heap.objs.size+1,s1.heap.objs.size],_,_,H1,rfl,I2,mJ a _ _ (Nat.succ_ne_self _),⟨⟨_,he⟩,hit⟩,fun b hb=>?_,q⟩
  rcases List.mem_cons.mp hb with rfl|hb
  ·exact I1.fpOk (Nat.le_succ _) (I1.hok.fresh (Nat.le_succ _))
  ·rw[List.mem_singleton.mp hb]
   exact I1.fpOk (Nat.le_refl _) (I1.hok.fresh (Nat.le_refl _))
end
theorem eO {K:PySem.W.Frag}{a:Addr}{xs:List V}{g:TG}{tb:TS}{D:fZ}{σ:St}{H:Hp}(Pv:Nat->St->Hp->Prop)(h0:Pv 0 σ H)(hl:∀ i σ H,i<=xs.length->Pv i σ H->SqL K H a xs)
  (hs:∀ i x σ H t,xs[i]? =some x->Pv i σ H->H t=none->g (.ref t) σ (upd H t (.tup [.int i,x])) fun σ2 H2=>tb {D with nx:=Pv (i+1),ct:=Pv (i+1),bk:=D.nx} σ2 H2) (hd:∀ σ H,Pv xs.length σ H->D.nx σ H):
  ∃ W:Nat->Nat->St->Hp->Prop,(∃ m,W 0 m σ H)/\∀ i m σ H,W i m σ H->
   ((tL K a).stop i H/\D.nx σ H)\/((tL K a).go i H/\∃ N:St->Hp->Prop,(∀ σ' H',N σ' H'->∃ m',m' < m/\W (i+1) m' σ' H')/\∀ x H',(tL K a).yld i H x H'->g x σ H' fun σ2 H2=>tb {D with nx:=N,ct:=N,bk:=D.nx} σ2 H2):=by
 refine⟨fun i m σ H=>m=xs.length - i/\i<=xs.length/\Pv i σ H,⟨xs.length,by simp,Nat.zero_le _,h0⟩,?_⟩
 rintro i m σ H ⟨rfl,hi,p⟩
 have q:=hl i σ H hi p
 by_cases hlt:i < xs.length
 ·refine .inr ⟨⟨xs,xs[i],q,by simp [hlt]⟩,Pv (i+1),fun σ' H' p'=>⟨xs.length - (i+1),by omega,rfl,hlt,p'⟩,fun x H' y=>?_⟩
  obtain⟨t,v,ht,rfl,rfl,y⟩:=y
  exact hs i v σ H t (y xs q) p ht
 ·have e:i=xs.length:=by omega
  subst e
  exact .inl ⟨⟨xs,q,Nat.le_refl _⟩,hd σ H p⟩
end L2
namespace L2
section
open PySem
variable {X:Cx}{K:PySem.W.Frag}
theorem k_ (e:X.K=K){tg l:Expr}{tl:TE}(hl:PE X l tl):PI X tg l (t4 K tl):=by subst e;exact ca hl
theorem iy (e:X.K=K):IxR X (vO K):=by subst e;exact ar
theorem b5 (e:X.K=K):OpR X (compareOp .In) (u7 K false):=by subst e;exact dO
theorem c6 (e:X.K=K):OpR X (compareOp .NotIn) (u7 K true):=by subst e;exact bS
theorem gY (e:X.K=K):cT X (.builtin "len") (sv K):=by subst e;exact aF
end
end L2
namespace OD
open PySem L2
def al (i:Int):Int:=if i < 0 then -i else i
def tM:Int->List Int->Prop
 |_,[]=>True
 |b,l::r=>b < al l/\tM (al l) r
def ClOk (n:Int)(ls:List Int):Prop:=tM 0 ls/\∀ l∈ls,al l<=n
def nT (c:List Int):PyData:=.tuple (c.map .int)
def la (t:Str)(cs:List (List Int)):PyData:=.tuple [.str t,.list (cs.map nT)]
def WS (t:Str):Prop:=∀ ch∈t.cps.toList,ch=119\/ch=115
structure wb (most:Int)(t:Str)(cs:List (List Int)):Prop where
 len:(t.length:Int)<=most
 ws:WS t
 many:cs.length<=16
 cl:∀ c∈cs,ClOk t.length c
def dP (ps:List (Int×Int)):List (bo×V):=ps.map fun q=>(Sum.inl q.1,V.int q.2)
def gK (ps:List (Int×Int))(k s:Int):List (Int×Int):=if (ps.any fun q=>decide (q.1=k))=true then ps.map (fun q=>if q.1=k then (q.1,s) else q) else ps++[(k,s)]
theorem sO (ps:List (Int×Int))(k:Int):((dP ps).any fun kv=>decide (kv.1=(Sum.inl k:bo)))=ps.any fun q=>decide (q.1=k):=by
 unfold dP
 rw[List.any_map]
 congr 1
 funext q
 show decide ((Sum.inl q.1:bo)=Sum.inl k)=decide (q.1=k)
 by_cases e:q.1=k
 ·rw[decide_eq_true e,decide_eq_true (by rw[e])]
 ·rw[decide_eq_false e,decide_eq_false fun z=>e (Sum.inl.inj z)]
theorem sP (ps:List (Int×Int))(k s:Int):cF (dP ps) (Sum.inl k) (V.int s)=dP (gK ps k s):=by
 unfold cF gK
 rw[sO]
 by_cases h:(ps.any fun q=>decide (q.1=k))=true
 ·rw[if_pos h,if_pos h]
  unfold dP
  rw[List.map_map,List.map_map]
  congr 1
  funext q
  show (if (Sum.inl q.1:bo)=Sum.inl k then ((Sum.inl q.1:bo),V.int s) else (Sum.inl q.1,V.int q.2))=(Sum.inl (if q.1=k then (q.1,s) else q).1,V.int (if q.1=k then (q.1,s) else q).2)
  by_cases e:q.1=k
  ·rw[if_pos (by rw[e]),if_pos e]
  ·rw[if_neg (fun z=>e (Sum.inl.inj z)),if_neg e]
 ·rw[if_neg h,if_neg h]
  unfold dP
  rw[List.map_append]
  rfl
theorem p_ (ps:List (Int×Int)):(dP ps).map (·.1)=(ps.map (·.1)).map Sum.inl:=by
 unfold dP
 rw[List.map_map,List.map_map]
 rfl
def dS (ps:List (Int×Int))(k:Int):Option Int:=(ps.find? fun q=>decide (q.1=k)).map (·.2)
theorem sQ (ps:List (Int×Int))(k:Int):bV (dP ps) (Sum.inl k:bo)=(dS ps k).map V.int:=by
 induction ps with
 |nil=>rfl
 |cons q r ih=>
  show bV (((Sum.inl q.1:bo),V.int q.2)::dP r) (Sum.inl k)=_
  by_cases e:q.1=k
  ·rw[bG (by rw[e])]
   simp [dS,List.find?_cons,e]
  ·rw[bH (fun z=>e (Sum.inl.inj z)),ih]
   simp [dS,List.find?_cons,e]
structure DOk (n:Int)(ps:List (Int×Int)):Prop where
 nd:(ps.map (·.1)).Nodup
 rng:∀ q∈ps,1<=q.1/\q.1<=n
 sg:∀ q∈ps,q.2=1\/q.2=-1
theorem DOk.nil (n:Int):DOk n []:=⟨List.nodup_nil,(fun _ h=>nomatch h),(fun _ h=>nomatch h)⟩
theorem DOk.put {n k s:Int}{ps:List (Int×Int)}(h:DOk n ps)(h1:1<=k/\k<=n)(hs:s=1\/s=-1):DOk n (gK ps k s)/\(gK ps k s).length<=ps.length+1:=by
 unfold gK
 by_cases a:(ps.any fun q=>decide (q.1=k))=true
 ·rw[if_pos a]
  have e:(ps.map fun q=>if q.1=k then (q.1,s) else q).map (·.1)=ps.map (·.1):=by
   rw[List.map_map]
   congr 1
   funext q
   show (if q.1=k then (q.1,s) else q).1=q.1
   split<;>rfl
  refine⟨⟨by rw[e];exact h.nd,fun q hq=>?_,fun q hq=>?_⟩,by rw[List.length_map];omega⟩
  ·obtain⟨q',hq',rfl⟩:=List.mem_map.mp hq
   split
   ·exact h.rng q' hq'
   ·exact h.rng q' hq'
  ·obtain⟨q',hq',rfl⟩:=List.mem_map.mp hq
   split
   ·exact hs
   ·exact h.sg q' hq'
 ·rw[if_neg a]
  refine⟨⟨?_,fun q hq=>?_,fun q hq=>?_⟩,by rw[List.length_append];exact Nat.le_refl _⟩
  ·rw[List.map_append]
   refine kY h.nd fun m=>a ?_
   obtain⟨q,hq,e⟩:=List.mem_map.mp m
   exact List.any_eq_true.mpr ⟨q,hq,decide_eq_true e⟩
  ·rcases List.mem_append.mp hq with z|z
   ·exact h.rng q z
   ·rw[List.mem_singleton.mp z]
    exact h1
  ·rcases List.mem_append.mp hq with z|z
   ·exact h.sg q z
   ·rw[List.mem_singleton.mp z]
    exact hs
def sR (ps:List (Int×Int))(k:Int):Int:=(dS ps k).getD 1
theorem DOk.look {n k:Int}{ps:List (Int×Int)}(h:DOk n ps)(hk:k∈ps.map (·.1)):dS ps k=some (sR ps k)/\(sR ps k=1\/sR ps k=-1):=by
 obtain⟨q,hq,e⟩:=List.mem_map.mp hk
 unfold sR dS
 cases f:ps.find? fun q=>decide (q.1=k) with
 |none=>
  have:=List.find?_eq_none.mp f q hq
  exact absurd (decide_eq_true e) this
 |some z=>exact⟨rfl,h.sg z (List.mem_of_find?_eq_some f)⟩
theorem jo {k s:Int}(hk:1<=k)(hs:s=1\/s=-1):al (k*s)=k:=by
 unfold al
 rcases hs with rfl|rfl
 ·rw[Int.mul_one,if_neg (by omega)]
 ·rw[if_pos (by omega)]
  omega
theorem nU {f:Int->Int}:∀ (ks:List Int) (b:Int),0<=b->(∀ k∈ks,b < k)->ks.Pairwise (· < ·)->(∀ k∈ks,f k=1\/f k=-1)->tM b (ks.map fun k=>k*f k)
 |[],_,_,_,_,_=>trivial
 |k::r,b,h0,hb,hp,hf=>by
  have hk:=hb k List.mem_cons_self
  have e:=jo (s:=f k) (show 1<=k by omega) (hf k List.mem_cons_self)
  obtain⟨p1,p2⟩:=List.pairwise_cons.mp hp
  show b < al (k*f k)/\tM (al (k*f k)) (r.map fun k=>k*f k)
  rw[e]
  exact⟨hk,nU r k (by omega) p1 p2 fun z hz=>hf z (List.mem_cons_of_mem _ hz)⟩
theorem dC:∀ {ks:List Int},ks.Pairwise (·<=·)->ks.Nodup->ks.Pairwise (· < ·)
 |[],_,_=>List.Pairwise.nil
 |k::r,hp,hn=>by
  obtain⟨p1,p2⟩:=List.pairwise_cons.mp hp
  obtain⟨n1,n2⟩:=List.nodup_cons.mp hn
  refine List.pairwise_cons.mpr ⟨fun z hz=>?_,dC p2 n2⟩
  have:=p1 z hz
  have:k≠z:=fun e=>n1 (e▸hz)
  omega
theorem DOk.clause {n:Int}{ps:List (Int×Int)}{ks:List Int}(h:DOk n ps)(hp:ks.Perm (ps.map (·.1)))(hs:ks.Pairwise (·<=·)):ClOk n (ks.map fun k=>k*sR ps k):=by
 have hm:∀ k∈ks,k∈ps.map (·.1):=fun k hk=>hp.mem_iff.mp hk
 have hr:∀ k∈ks,1<=k/\k<=n:=fun k hk=>by
  obtain⟨q,hq,e⟩:=List.mem_map.mp (hm k hk)
  rw[← e]
  exact h.rng q hq
 refine⟨nU ks 0 (Int.le_refl 0) (fun k hk=>by have:=(hr k hk).1;omega) (dC hs (hp.nodup_iff.mpr h.nd)) fun k hk=>(h.look (hm k hk)).2,fun l hl=>?_⟩
 obtain⟨k,hk,rfl⟩:=List.mem_map.mp hl
 rw[jo (hr k hk).1 (h.look (hm k hk)).2]
 exact (hr k hk).2
theorem df {ns:List Int}{i:Nat}{x:V}(h:(ns.map V.int)[i]? =some x):∃ z,x=.int z/\ns[i]? =some z:=by
 rw[List.getElem?_map] at h
 cases e:ns[i]? with
 |none=>rw[e] at h;cases h
 |some z=>
  rw[e] at h
  exact⟨z,(Option.some.inj h).symm,rfl⟩
theorem nV (ns:List Int)(lo hi:Option Int):∃ ms:List Int,cy (ns.map V.int) lo hi=ms.map V.int/\ms.length<=ns.length:=by
 unfold cy
 rw[List.length_map]
 refine⟨(ns.drop (HT.sIx ns.length 0 lo)).take (HT.sIx ns.length ns.length hi - HT.sIx ns.length 0 lo),?_,?_⟩
 ·rw[← List.map_drop,← List.map_take]
 ·rw[List.length_take,List.length_drop]
  omega
end OD
namespace OD
open PySem L2
theorem lb (a b:Str):(a++b).cps.toList=a.cps.toList++b.cps.toList:=by
 show (a.cps++b.cps).toList=_
 simp
theorem jp {e:Str}(he:e.cps.toList=[]):∀ ss:List Str,(Str.join e ss).cps.toList=(ss.map fun s=>s.cps.toList).flatten
 |[]=>rfl
 |[x]=>by
  show x.cps.toList=_
  simp
 |x::y::r=>by
  show ((x++e)++Str.join e (y::r)).cps.toList=_
  rw[lb,lb,he,jp he (y::r)]
  simp
def gk (s:Str):Prop:=s=⟨#[119]⟩\/s=⟨#[115]⟩
theorem gl:∀ {ss:List Str},(∀ s∈ss,gk s)->(ss.map fun s=>s.cps.toList).flatten.length=ss.length/\∀ ch∈(ss.map fun s=>s.cps.toList).flatten,ch=119\/ch=115
 |[],_=>⟨rfl,fun _ h=>nomatch h⟩
 |s::r,h=>by
  obtain⟨h1,h2⟩:=gl (ss:=r) fun z hz=>h z (List.mem_cons_of_mem _ hz)
  rw[List.map_cons,List.flatten_cons]
  rcases h s List.mem_cons_self with rfl|rfl
  ·refine⟨by rw[List.length_append,h1];show 1+r.length=r.length+1;omega,fun ch hc=>?_⟩
   rcases List.mem_append.mp hc with z|z
   ·exact .inl (by simpa using z)
   ·exact h2 ch z
  ·refine⟨by rw[List.length_append,h1];show 1+r.length=r.length+1;omega,fun ch hc=>?_⟩
   rcases List.mem_append.mp hc with z|z
   ·exact .inr (by simpa using z)
   ·exact h2 ch z
theorem uB:(Str.ofString "").cps.toList=[]:=by decide+kernel
theorem nW {ss:List Str}(h:∀ s∈ss,gk s):(Txt.join "" ss).length=ss.length/\WS (Txt.join "" ss):=by
 have e:Txt.join (Str.ofString "") ss=Str.join (Str.ofString "") ss:=eq_of_beq (PyProof.Rows.join_plain_closes _ ss)
 obtain⟨h1,h2⟩:=gl h
 have e2:=jp uB ss
 refine⟨?_,?_⟩
 ·rw[e]
  show (Str.join (Str.ofString "") ss).cps.size=_
  rw[← Array.length_toList,e2]
  exact h1
 ·intro ch hc
  rw[e,e2] at hc
  exact h2 ch hc
theorem gZ:∀ {ss:List Str},(∀ s∈ss,gk s)->(ss.map fun s=>s.length).sum=ss.length
 |[],_=>rfl
 |s::r,h=>by
  rw[List.map_cons,List.sum_cons,gZ fun z hz=>h z (List.mem_cons_of_mem _ hz),List.length_cons]
  rcases h s List.mem_cons_self with rfl|rfl
  ·show 1+_=_;omega
  ·show 1+_=_;omega
theorem uC {j:Int}(h0:0<=j)(h1:j < 2):∃ c,jT (Str.ofString "ws").cps.toList j=some c/\gk ⟨#[c]⟩:=by
 rcases (by omega:j=0\/j=1) with rfl|rfl
 ·exact⟨119,by decide+kernel,.inl rfl⟩
 ·exact⟨115,by decide+kernel,.inr rfl⟩
def CL (H:Hp)(c:List Int)(v:V):Prop:=∃ t,v=.ref t/\H t=some (.tup (c.map V.int))
def CLs (H:Hp):List (List Int)->List V->Prop:=Paired (CL H)
theorem CL.mono {H H':Hp}{c:List Int}{v:V}(h:CL H c v)(k:Same H H'):CL H' c v:=let ⟨t,e,z⟩:=h;⟨t,e,k _ _ z⟩
theorem CL.upd {H:Hp}{c:List Int}{v:V}{q:Addr}{xs:List V}{o:HO}(h:CL H c v)(hq:H q=some (.lst xs)):CL (upd H q o) c v:=by
 obtain⟨t,e,z⟩:=h
 exact⟨t,e,by rw[ap (ni z hq (by intro w;cases w))];exact z⟩
theorem CLs.mono {H H':Hp}(k:Same H H'):∀ {cs:List (List Int)} {xs:List V},CLs H cs xs->CLs H' cs xs
 |_,_,.nil=>.nil
 |_,_,.cons h t=>.cons (h.mono k) (CLs.mono k t)
theorem CLs.upd {H:Hp}{q:Addr}{ys:List V}{o:HO}(hq:H q=some (.lst ys)):∀ {cs:List (List Int)} {xs:List V},CLs H cs xs->CLs (upd H q o) cs xs
 |_,_,.nil=>.nil
 |_,_,.cons h t=>.cons (h.upd hq) (CLs.upd hq t)
theorem CLs.snoc {H:Hp}{c:List Int}{v:V}(h:CL H c v){cs:List (List Int)}{xs:List V}(t:CLs H cs xs):CLs H (cs++[c]) (xs++[v]):=Paired.snoc t h
theorem CLs.length {H:Hp}{cs:List (List Int)}{xs:List V}(h:CLs H cs xs):cs.length=xs.length:=Paired.length h
theorem CLs.get {H:Hp}:∀ {cs:List (List Int)} {xs:List V} {j:Nat} {v:V},CLs H cs xs->xs[j]? =some v->∃ c,cs[j]? =some c/\CL H c v
 |_,_,_,_,.nil,e=>by cases e
 |_,_,0,_,.cons h _,e=>⟨_,rfl,by have e':=Option.some.inj e;subst e';exact h⟩
 |_,_,j+1,v,.cons _ t,e=>by
  obtain⟨c,h1,h2⟩:=CLs.get (j:=j) (v:=v) t (by simpa using e)
  exact⟨c,by simpa using h1,h2⟩
theorem CL.rd {H:Hp}{c:List Int}{v:V}(h:CL H c v):RD H (nT c) v:=by
 obtain⟨t,rfl,z⟩:=h
 exact cB z (je c)
theorem CLs.rds {H:Hp}:∀ {cs:List (List Int)} {xs:List V},CLs H cs xs->fh H (cs.map nT) xs
 |_,_,.nil=>bL
 |_,_,.cons h t=>aE h.rd (CLs.rds t)
theorem CL.of {H:Hp}{c:List Int}{v:V}(h:RD H (nT c) v):CL H c v:=by
 obtain⟨a,xs,rfl,h1,h2⟩:=ba h
 refine⟨a,rfl,?_⟩
 rw[h1]
 have:∀ (ns:List Int) (xs:List V),fh H (ns.map PyData.int) xs->xs=ns.map V.int:=by
  intro ns
  induction ns with
  |nil=>intro xs r;exact b7 r
  |cons n r ih=>
   intro xs z
   obtain⟨y,ys,rfl,e,t⟩:=bC z
   have e':y=.int n:=by
    unfold RD at e
    exact e
   rw[e',ih ys t]
   rfl
 rw[this c xs h2]
theorem CLs.of {H:Hp}:∀ {cs:List (List Int)} {xs:List V},fh H (cs.map nT) xs->CLs H cs xs
 |[],xs,h=>by
  rw[b7 h]
  exact .nil
 |c::cs,xs,h=>by
  obtain⟨y,ys,rfl,h1,h2⟩:=bC h
  exact .cons (CL.of h1) (CLs.of h2)
theorem eP {H:Hp}{p q:Addr}{t:Str}{cs:List (List Int)}{xs:List V}(hp:H p=some (.tup [.str t,.ref q]))(hq:H q=some (.lst xs))(h:CLs H cs xs):RD H (la t cs) (.ref p):=
 cB hp (aE (cC t) (aE (ir hq h.rds) bL))
theorem nX {H:Hp}{v:V}{t:Str}{cs:List (List Int)}(h:RD H (la t cs) v):∃ p q xs,v=.ref p/\H p=some (.tup [.str t,.ref q])/\H q=some (.lst xs)/\CLs H cs xs:=by
 obtain⟨p,ys,rfl,h1,h2⟩:=ba h
 obtain⟨y,zs,rfl,h3,h4⟩:=bC h2
 obtain⟨z,ws,rfl,h5,h6⟩:=bC h4
 have h7:=b7 h6
 subst h7
 obtain⟨q,xs,rfl,h8,h9⟩:=dz h5
 have e:y=.str t:=by
  unfold RD at h3
  exact h3
 subst e
 exact⟨p,q,xs,rfl,h1,h8,CLs.of h9⟩
theorem gm:∀ cs:List (List Int),PyData.canLayAll0 (cs.map nT)=true
 |[]=>rfl
 |c::r=>by
  show (PyData.canLayAll0 (c.map PyData.int)&&PyData.canLayAll0 (r.map nT))=true
  rw[PySem.W.ke_canLayAll0,gm r]
  rfl
theorem g_:∀ cs:List (List Int),PyData.depthAll (cs.map nT)<=1
 |[]=>Nat.zero_le _
 |c::r=>by
  have h:=g_ r
  show max (PyData.depthAll (c.map PyData.int)+1) (PyData.depthAll (r.map nT))<=1
  rw[PySem.W.ke_depthAll]
  omega
theorem hE {d:PyData}(h1:d.canLay0=true)(h2:d.depth<=64):SeqAt.shaped d=true:=by
 unfold SeqAt.shaped
 rw[h1,decide_eq_true h2]
 rfl
mutual
theorem jq:∀ d:PyData,d.canLay0=true->PyData.eqv d d=true
 |.none,_=>rfl
 |.bool b,_=>by simp [PyData.eqv]
 |.int i,_=>by simp [PyData.eqv]
 |.str x,_=>by simp [PyData.eqv]
 |.list ds,h=>by
  show PyData.eqvAll ds ds=true
  exact dD ds h
 |.tuple ds,h=>by
  show PyData.eqvAll ds ds=true
  exact dD ds h
 |.dict _,h=>by cases h
theorem dD:∀ ds:List PyData,PyData.canLayAll0 ds=true->PyData.eqvAll ds ds=true
 |[],_=>rfl
 |d::r,h=>by
  have h':d.canLay0=true/\PyData.canLayAll0 r=true:=by simpa [PyData.canLayAll0] using h
  show (PyData.eqv d d&&PyData.eqvAll r r)=true
  rw[jq d h'.1,dD r h'.2]
  rfl
end
theorem uD {t:Str}(h:WS t):PyData.strOk t=true:=by
 unfold PyData.strOk
 rw[← Array.all_toList]
 refine List.all_eq_true.mpr fun ch hc=>decide_eq_true ?_
 rcases h ch hc with rfl|rfl
 ·decide
 ·decide
theorem fK {t:Str}(h:WS t)(cs:List (List Int)):SeqAt.shaped (la t cs)=true:=by
 refine hE ?_ ?_
 ·show (PyData.strOk t&&(PyData.canLayAll0 (cs.map nT)&&true))=true
  rw[uD h,gm]
  rfl
 ·have:=g_ cs
  show max 0 (max (PyData.depthAll (cs.map nT)+1) 0)+1<=64
  omega
abbrev vB:R2:=fun x y H Q=>vq x y H Q\/sH x y H Q
end OD
namespace OD
open PySem L2
theorem lc:∀ {c:List Int} {b:Int},0<=b->tM b c->∀ l∈c,1<=al l
 |[],_,_,_,_,h=>nomatch h
 |x::r,b,hb,h,l,hl=>by
  have h1:=h.1
  rcases List.mem_cons.mp hl with rfl|hl
  ·omega
  ·exact lc (b:=al x) (by omega) h.2 l hl
theorem ClOk.pos {n:Int}{c:List Int}(h:ClOk n c):∀ l∈c,1<=al l:=lc (Int.le_refl 0) h.1
def cp (l:Int)(c:List Int):Option (List Int):=if c.contains l=true then none else some (c.filter fun o=>!decide (o=-l))
def aT (l:Int)(cs:List (List Int)):List (List Int):=cs.filterMap (cp l)
theorem gn {α:Type}{f g:α->Bool}:∀ {xs:List α},(∀ x∈xs,f x=g x)->xs.any f=xs.any g
 |[],_=>rfl
 |x::r,h=>by
  rw[List.any_cons,List.any_cons,h x List.mem_cons_self,gn fun z hz=>h z (List.mem_cons_of_mem _ hz)]
theorem iz (c:List Int)(l:Int):c.any (fun x=>decide (x=l))=c.contains l:=by
 rw[Bool.eq_iff_iff,List.any_eq_true,List.contains_iff_mem]
 constructor
 ·rintro⟨x,hx,e⟩
  exact of_decide_eq_true e▸hx
 ·intro h
  exact⟨l,h,decide_eq_true rfl⟩
theorem bc (c:List Int)(l:Int):c_ (.int l) (c.map V.int)=c.contains l:=by
 unfold c_
 rw[List.any_map,← iz]
 refine gn fun x _=>?_
 show (x == l)=decide (x=l)
 rw[Bool.eq_iff_iff,decide_eq_true_iff]
 exact beq_iff_eq
section
variable {K:PySem.W.Frag}{a D:Addr}{xs:List V}{tt:TT}{te:TE}{σ0:St}{H1:Hp}{Q:VK}
theorem bx (rest:St)(p:V->Bool)(f:V->V)(e0:σ0=none::rest)(ha:H1 a=some (.tup xs))(hD:H1 D=none)(hlen:xs.length<=900)
  (ht:∀ x∈xs,∀ (H':Hp) (R:Bool->Hp->Prop),Same H1 H'->R (p x) H'->tt (some x::rest) H' R)
  (he:∀ x∈xs,p x=true->∀ (H':Hp) (R:VK),Same H1 H'->R (f x) H'->te (some x::rest) H' R)
  (hq:Q (.ref D) (upd H1 D (.lst ((xs.filter p).map f)))):fJ (qS K a) D (fE 0) tt te σ0 H1 Q:=by
 have na:a≠D:=aq ha hD
 refine ji (K:=K) (a:=a) (xs:=xs) (fun i σ ys H2=>(∃ v0,σ=v0::rest)/\ys=((xs.take i).filter p).map f/\H2=upd H1 D (.lst ys)) ⟨⟨none,e0⟩,rfl,rfl⟩ ?_ ?_ ?_
 ·rintro i σ ys H2 _ ⟨_,_,rfl⟩
  exact⟨ac,SqT.of (by rw[ap na];exact ha)⟩
 ·rintro i x σ ys H2 hx ⟨⟨v0,rfl⟩,hys,rfl⟩
  have hm:=List.mem_of_getElem? hx
  have e:xs.take (i+1)=xs.take i++[x]:=by rw[List.take_add_one,hx];rfl
  refine ht x hm _ _ (af hD _) ?_
  cases hp:p x with
  |true=>
   refine aI (he x hm hp _ _ (af hD _) ⟨ac,?_,⟨_,rfl⟩,?_,fS⟩)
   ·have:ys.length<=xs.length:=by
     rw[hys,List.length_map]
     exact Nat.le_trans (List.length_filter_le _ _) (by rw[List.length_take];omega)
    exact av (by omega)
   ·rw[e,List.filter_append,List.map_append,← hys]
    simp [hp]
  |false=>
   refine aA ⟨⟨_,rfl⟩,?_,rfl⟩
   rw[e,List.filter_append,List.map_append,← hys]
   simp [hp]
 ·rintro σ ys H2 ⟨_,hys,rfl⟩
  rw[List.take_of_length_le (Nat.le_refl _)] at hys
  rw[hys]
  exact hq
theorem bD (rest:St)(p:V->Bool)(f:V->V)(e0:σ0=none::rest)(ha:H1 a=some (.lst xs))(hD:H1 D=none)(hlen:xs.length<=900)
  (ht:∀ x∈xs,∀ (H':Hp) (R:Bool->Hp->Prop),Same H1 H'->R (p x) H'->tt (some x::rest) H' R)
  (he:∀ x∈xs,p x=true->∀ (H':Hp) (R:VK),Same H1 H'->R (f x) H'->te (some x::rest) H' R)
  (hq:Q (.ref D) (upd H1 D (.lst ((xs.filter p).map f)))):fJ (qR K a) D (fE 0) tt te σ0 H1 Q:=by
 have na:a≠D:=aq ha hD
 refine cJ (K:=K) (a:=a) (xs:=xs) (fun i σ ys H2=>(∃ v0,σ=v0::rest)/\ys=((xs.take i).filter p).map f/\H2=upd H1 D (.lst ys)) ⟨⟨none,e0⟩,rfl,rfl⟩ ?_ ?_ ?_
 ·rintro i σ ys H2 _ ⟨_,_,rfl⟩
  exact⟨ac,SqL.of (by rw[ap na];exact ha)⟩
 ·rintro i x σ ys H2 hx ⟨⟨v0,rfl⟩,hys,rfl⟩
  have hm:=List.mem_of_getElem? hx
  have e:xs.take (i+1)=xs.take i++[x]:=by rw[List.take_add_one,hx];rfl
  refine ht x hm _ _ (af hD _) ?_
  cases hp:p x with
  |true=>
   refine aI (he x hm hp _ _ (af hD _) ⟨ac,?_,⟨_,rfl⟩,?_,fS⟩)
   ·have:ys.length<=xs.length:=by
     rw[hys,List.length_map]
     exact Nat.le_trans (List.length_filter_le _ _) (by rw[List.length_take];omega)
    exact av (by omega)
   ·rw[e,List.filter_append,List.map_append,← hys]
    simp [hp]
  |false=>
   refine aA ⟨⟨_,rfl⟩,?_,rfl⟩
   rw[e,List.filter_append,List.map_append,← hys]
   simp [hp]
 ·rintro σ ys H2 ⟨_,hys,rfl⟩
  rw[List.take_of_length_le (Nat.le_refl _)] at hys
  rw[hys]
  exact hq
end
theorem bN (c:List Int)(p:Int->Bool)(q:V->Bool)(h:∀ i,q (.int i)=p i):((c.map V.int).filter q).map (fun x=>x)=(c.filter p).map V.int:=by
 rw[List.map_id']
 rw[List.filter_map]
 refine congrArg _ (List.filter_congr fun x _=>h x)
theorem bZ {c:List Int}{x:V}(h:x∈c.map V.int):∃ z∈c,x=.int z:=by
 obtain⟨z,hz,e⟩:=List.mem_map.mp h
 exact⟨z,hz,e.symm⟩
end OD
namespace OD
open PySem L2
theorem sS {d:PyData}(h:SeqAt.shaped d=true):d.canLay0=true:=by
 unfold SeqAt.shaped at h
 rw[Bool.and_eq_true] at h
 exact h.1
theorem eQ {d:PyData}{x y:V}{H:Hp}{Q:VK}(hx:RD H d x)(hy:RD H d y)(hs:SeqAt.shaped d=true)(q:Q (.bl false) H):vB x y H Q:=
 .inr ⟨d,d,hx,hy,hs,hs,by rw[jq d (sS hs)];exact q⟩
theorem sT {x y:V}{A B:Prop}(h:x=y)(b:B):if (!decide (x=y))=true then A else B:=by
 rw[decide_eq_true h]
 exact aA b
theorem wc {i j:Int}{A B:Prop}(h:¬ i < j)(b:B):if decide (i < j)=true then A else B:=by
 rw[decide_eq_false h]
 exact aA b
theorem uE:cZ "tuple" "tuple"=some true:=by decide+kernel
theorem we:cZ "list" "list"=some true:=by decide+kernel
def mK (p:Int->Bool):V->Bool
 |.int z=>p z
 |_=>false
def uF (f:Int->V):V->V
 |.int z=>f z
 |x=>x
end OD
namespace L2
open PySem PySem.Spec PyProof.Rows
section
variable {X:Cx}
def gp (mg:Str->Option Value)(x:Str)(v:V):Prop:=∃ u,mg x=some u/\RelV v u
theorem bO {x:Str}{v:V}{pos:Pos}(hg:Gl X x)(hm:gp X.mg x v)(hd:(x == ("__debug__":Str))=false:=by decide):PE X (.Name x pos) (tC v):=by
 obtain⟨u,h1,h2⟩:=hm
 exact pO hg h1 h2 hd
end
end L2
namespace OD
open PySem L2
def cq (t:Str)(i:Nat):Bool:=decide (t.cps.toList[i]? =some 119)
def b9 (b:Bool):Str:=if b=true then Str.ofString "wisher" else Str.ofString "spoiler"
theorem jr:Str.ofString "wisher"≠Str.ofString "spoiler":=by decide+kernel
theorem mL {a b:Bool}(h:b9 a=b9 b):a=b:=by
 cases a<;>cases b
 ·rfl
 ·exact absurd h.symm jr
 ·exact absurd h jr
 ·rfl
theorem eR (a b:Bool):decide (V.str (b9 a)=V.str (b9 b))=decide (a=b):=by
 refine decide_eq_decide.mpr ⟨fun h=>mL (V.str.inj h),fun h=>by rw[h]⟩
theorem dZ (l:Int):(0<=l/\al l=l)\/(l < 0/\al l=-l):=by
 unfold al
 by_cases h:l < 0
 ·exact .inr ⟨h,if_pos h⟩
 ·exact .inl ⟨by omega,if_neg h⟩
theorem qY {ch:Nat}:decide (V.str ⟨#[ch]⟩=V.str (Str.ofString "w"))=decide (ch=119):=by
 have e:Str.ofString "w"=⟨#[119]⟩:=by decide+kernel
 rw[e]
 refine decide_eq_decide.mpr ⟨fun h=>?_,fun h=>by rw[h]⟩
 have:=V.str.inj h
 injection this with h1
 have h2:=congrArg Array.toList h1
 simpa using h2
theorem nY {t:Str}{i:Nat}{ch:Nat}(h:t.cps.toList[i]? =some ch):cq t i=decide (ch=119):=by
 unfold cq
 rw[h]
 exact decide_eq_decide.mpr ⟨fun z=>Option.some.inj z,fun z=>congrArg _ z⟩
end OD
namespace L2
open PySem PySem.Spec PyProof.Rows
section
variable {X:Cx}{tg:Expr}
end
end L2
namespace OD
open PySem L2
end OD
namespace OD
open PySem L2
end OD
namespace OD
open PySem L2
section
variable {K:PySem.W.Frag}{a D:Addr}{xs:List V}{tt:TT}{te:TE}{σ0:St}{H1:Hp}{Q:VK}
end
theorem cV {i:Nat}{v:V}{σ:St}{H:Hp}{Q:St->Hp->Prop}(h:Q (σ.set i (some v)) H):fE i v σ H Q:=h
end OD
namespace L2
open PySem PySem.Spec PyProof.Rows
section
variable {P:Program}{w:World}{outer:List Env}{H H':Hp}{s s':Shared}{B h':Heap}{ea:Addr}{cls a0:Value}
end
section
variable {P:Program}{w:World}{K:PySem.W.Frag}{mg:Str->Option Value}{base:Heap}{N:List Str}{qual:Str}{scope:Scope}{f:Addr}{cd:Value}{A:Around}{outer:List Env}{s:Shared}{H:Hp}{E:XK}
end
end L2
namespace L2
open PySem PySem.Spec PyProof.Rows
section
variable {P:Program}{w:World}{K:PySem.W.Frag}{mg:Str->Option Value}{base:Heap}{N:List Str}{qual:Str}{scope:Scope}{f:Addr}{cd:Value}{A:Around}{outer:List Env}{s:Shared}{H:Hp}{E:XK}
end
section
variable {X:Cx}{k:Nat}{f:Addr}{fd:FuncData}{ps:List Str}{sp:Sp}{x:Str}{p pos:Pos}{e:Expr}{es:List Expr}{t:TA}
end
section
variable {X:Cx}{pins:List (Addr×Obj)}{σ:St}{H:Hp}{s:Shared}{ea:Addr}{E:Value->Shared->Prop}
end
section
variable {P:Program}{w:World}{outer:List Env}{H H':Hp}{s s':Shared}{B h':Heap}{ea C:Addr}{a0:Value}
end
section
variable {X:Cx}
end
end L2
namespace L2
open PySem PySem.Spec PyProof.Rows
section
variable {X:Cx}{j k:Nat}{f:Addr}{fd:FuncData}{ps:List Str}{sp:Sp}{x:Str}{p pos:Pos}{e:Expr}{es:List Expr}{t:TA}
end
section
variable {P:Program}{w:World}{K:PySem.W.Frag}{mg:Str->Option Value}{base:Heap}{N:List Str}{qual:Str}{scope:Scope}{f:Addr}{cd:Value}{A:Around}{outer:List Env}{s:Shared}{H:Hp}{E:XK}
end
section
variable {prog:Program}{w:World}{A:Around}{E:Value->Shared->Prop}{h:Heap}{g:Array GenState}{d:Drawn}{t:Nat}{os:OsState}{a C:Addr}{o:Obj}{vs:Array Value}{K:PySem.W.Frag}
end
section
variable {X:Cx}
end
end L2
namespace OD
open PySem L2
end OD
namespace Srt
open PySem PySem.W PyProof.Rows
section
variable (key:Nat->Int)
variable {key}
end
end Srt
namespace Srt
open PySem PySem.W PyProof.Rows
end Srt
namespace Srt
open PySem PySem.W PySem.Spec PyProof.Rows
section
variable {prog:Program}{w:World}{A:Around}{E:Value->Shared->Prop}{s:Shared}
end
end Srt
namespace L2
open PySem PySem.Spec PyProof.Rows
section
variable {X:Cx}
end
end L2
namespace L2
open PySem PySem.Spec PyProof.Rows
section
variable {X:Cx}
end
end L2
namespace OD
open PySem L2
theorem bP {α β:Type}{F:α->β->Prop}:∀ {xs:List α} {us:List β} (n:Nat),Paired F xs us->Paired F (xs.take n) (us.take n)
 |_,_,0,_=>.nil
 |_,_,_+1,.nil=>.nil
 |_,_,n+1,.cons h t=>.cons h (bP n t)
theorem bQ {α β:Type}{F:α->β->Prop}:∀ {xs:List α} {us:List β} (n:Nat),Paired F xs us->Paired F (xs.drop n) (us.drop n)
 |_,_,0,h=>h
 |_,_,_+1,.nil=>.nil
 |_,_,n+1,.cons _ t=>bQ n t
theorem bp {α β:Type}{F:α->β->Prop}:∀ {xs ys:List α} {us ws:List β},Paired F xs us->Paired F ys ws->Paired F (xs++ys) (us++ws)
 |_,_,_,_,.nil,h=>h
 |_,_,_,_,.cons h t,g=>.cons h (bp t g)
theorem fm (xs:List V)(k:Nat):cy xs none (some (k:Int))=xs.take k:=by
 unfold cy
 rw[HT.sIx_nat]
 show (xs.drop 0).take (min k xs.length - 0)=_
 rw[List.drop_zero,Nat.sub_zero]
 by_cases h:k<=xs.length
 ·rw[Nat.min_eq_left h]
 ·rw[Nat.min_eq_right (by omega),List.take_of_length_le (Nat.le_refl _),List.take_of_length_le (by omega)]
theorem dg (xs:List V)(k:Nat):cy xs (some (k:Int)) none=xs.drop k:=by
 unfold cy
 rw[HT.sIx_nat]
 show (xs.drop (min k xs.length)).take (xs.length - min k xs.length)=_
 by_cases h:k<=xs.length
 ·rw[Nat.min_eq_left h,List.take_of_length_le (by rw[List.length_drop];omega)]
 ·rw[Nat.min_eq_right (by omega),List.drop_of_length_le (Nat.le_refl _),List.drop_of_length_le (by omega),List.take_nil]
theorem uG (b:Bool):decide (V.str (b9 b)=V.str (Str.ofString "wisher"))=b:=by
 have z:=eR b true
 have z2:b9 true=Str.ofString "wisher":=rfl
 rw[z2] at z
 rw[z]
 cases b<;>rfl
end OD
namespace L2
open PySem PySem.Spec PyProof.Rows
section
variable {X:Cx}{tg:Expr}
end
end L2
namespace OD
open PySem L2
theorem fX {d:PyData}(h:∀ z,d≠.int z):(gg d&&!iw d)=false:=by
 cases d with
 |int z=>exact absurd rfl (h z)
 |_=>rfl
theorem iA (d:PyData):(∃ z,d=.int z)\/∀ z,d≠.int z:=by
 cases d with
 |int z=>exact .inl ⟨z,rfl⟩
 |_=>exact .inr (fun z h=>by cases h)
theorem bb {H:Hp}{z:Int}{v:V}(h:RD H (.int z) v):v=.int z:=by
 unfold RD at h
 exact h
theorem gq {H:Hp}{z:Str}{v:V}(h:RD H (.str z) v):v=.str z:=by
 unfold RD at h
 exact h
section
variable {D:Addr}{tt:TT}{te:TE}{σ0:St}{H1:Hp}{Q:VK}
end
end OD
namespace OD
open PySem L2
def Nice (n:Nat)(d:PyData):Prop:=d.canLay0=true/\d.depth<=n
theorem Nice.mono {m n:Nat}{d:PyData}(h:Nice m d)(k:m<=n):Nice n d:=⟨h.1,Nat.le_trans h.2 k⟩
theorem eS:∀ {ds:List PyData} {n:Nat},(∀ d∈ds,Nice n d)->PyData.canLayAll0 ds=true/\PyData.depthAll ds<=n
 |[],_,_=>⟨rfl,Nat.zero_le _⟩
 |d::ds,n,h=>by
  have h1:=h d List.mem_cons_self
  have h2:=eS (ds:=ds) fun x hx=>h x (List.mem_cons_of_mem _ hx)
  refine⟨?_,?_⟩
  ·show (d.canLay0&&PyData.canLayAll0 ds)=true
   rw[h1.1,h2.1]
   rfl
  ·show max d.depth (PyData.depthAll ds)<=n
   exact Nat.max_le.mpr ⟨h1.2,h2.2⟩
theorem mM {n:Nat}{ds:List PyData}(h:∀ d∈ds,Nice n d):Nice (n+1) (.list ds):=⟨(eS h).1,Nat.succ_le_succ (eS h).2⟩
theorem js {n:Nat}{ds:List PyData}(h:∀ d∈ds,Nice n d):Nice (n+1) (.tuple ds):=⟨(eS h).1,Nat.succ_le_succ (eS h).2⟩
theorem gr (n:Nat)(i:Int):Nice n (.int i):=⟨rfl,Nat.zero_le _⟩
theorem cM (n:Nat){x:Str}(h:PyData.strOk x=true):Nice n (.str x):=⟨h,Nat.zero_le _⟩
theorem Nice.shaped {d:PyData}(h:Nice 8 d):SeqAt.shaped d=true:=hE h.1 (Nat.le_trans h.2 (by decide))
end OD
namespace TB
open PySem PySem.SetTable
end TB
namespace TB
open PySem PySem.SetTable
end TB
namespace TB
open PySem PySem.SetTable
end TB
namespace SW
open PySem PySem.SetTable TB
section
variable {prog:Program}{w:World}{A:Around}{E:Value->Shared->Prop}{s:Shared}
end
end SW
namespace SW
open PySem PySem.SetTable TB
section
variable {prog:Program}{w:World}{A:Around}{E:Value->Shared->Prop}{s:Shared}
end
end SW
namespace SW
open PySem PySem.SetTable TB
namespace Two
variable {α β:Type}{R:α->β->Prop}
end Two
section
variable {prog:Program}{w:World}{A:Around}{E:Value->Shared->Prop}{s:Shared}
end
end SW
namespace SW
open PySem PySem.SetTable TB
section
variable {prog:Program}{w:World}{A:Around}{E:Value->Shared->Prop}{s:Shared}
end
end SW
namespace SW
open PySem PySem.SetTable TB
section
variable {prog:Program}{w:World}{A:Around}{E:Value->Shared->Prop}{s:Shared}
variable {κ:Type}
end
end SW
namespace SW
open PySem PySem.SetTable TB
section
variable {prog:Program}{w:World}{A:Around}{E:Value->Shared->Prop}{κ:Type}
end
end SW
namespace SW
open PySem PySem.SetTable TB
section
variable {prog:Program}{w:World}{A:Around}{E:Value->Shared->Prop}{s:Shared}{κ:Type}
end
end SW
namespace SW
open PySem PySem.SetTable TB
section
variable {prog:Program}{w:World}{A:Around}{E:Value->Shared->Prop}{s:Shared}{κ:Type}
end
end SW
namespace SW
open PySem TB
end SW
namespace L2
open PySem PySem.Spec PyProof.Rows
section
variable {X:Cx}
end
end L2
namespace L2
open PySem PySem.Spec PyProof.Rows
section
variable {X:Cx}
end
end L2
namespace OD
open PySem L2
def cN (t:Str)(hw:Bool):List Int:=((List.range t.length).filter fun i=>cq t i == hw).map fun (i:Nat)=>(i:Int)+1
end OD
namespace L2
open PySem
section
variable {K:PySem.W.Frag}{a b D:Addr}{xs ys:List V}{n:Nat}{g:TG}{tt:TT}{te:TE}{σ0:St}{H1:Hp}{Q:VK}
end
end L2
namespace HT
open PySem PyProof.Rows
section
variable {prog:Program}{w:World}{A:Around}{E:Value->Shared->Prop}{s:Shared}
end
end HT
namespace L2
open PySem PySem.Spec PyProof.Rows
section
variable {X:Cx}
theorem dE {K:PySem.W.Frag}(e:X.K=K):cT X (.type "tuple") (fun xs H Q=>∃ (p:Addr) (ys:List V),xs=[.ref p]/\((SqL K H p ys/\∀ l,H l=none->Q (.ref l) (upd H l (.tup ys)))\/(SqT K H p ys/\Q (.ref p) H))):=by
 subst e
 exact bX
end
end L2
namespace L2
open PySem
@[irreducible] def PEi (X:Cx) (e:Expr) (t:TE):Prop:=PE X e t
@[irreducible] def PAi (X:Cx) (es:List Expr) (t:TA):Prop:=PA X es t
section
variable {X:Cx}{e a b:Expr}{es:List Expr}{te ta tb:TE}{t:TA}{pos:Pos}
end
end L2
namespace SW
open PySem TB
end SW
namespace L2
open PySem PySem.Spec PyProof.Rows
section
variable {X:Cx}
end
end L2
namespace KA
open PySem PyProof.Rows
section
variable {prog:Program}{w:World}{A:Around}{E:Value->Shared->Prop}{s:Shared}{h0:Heap}{a kS:Addr}{vs:List Value}{kz:List Int}{keys:Array Value}{e e1:Nat}{P:PySem.Fin->Shared->Prop}
end
end KA
namespace L2
open PySem PySem.Spec PyProof.Rows
section
variable {X:Cx}
end
end L2
namespace KX
open PySem PyProof.Rows
theorem mN (a v:Value):argsOk "max" ⟨[a],[(Str.ofString "default",v)]⟩:=by unfold argsOk;kernel_rfl
section
variable {prog:Program}{w:World}{A:Around}{R:Result->Shared->Prop}{I:Addr}{fp wr:List Addr}{n:Nat}{P:Nat->Value->Prop}{St:Nat->Heap->Prop}{kw:List (Str×Value)}
theorem uH (W:Walks prog w A.in1 I fp wr n P St)(bt:Nat->Nat->Bool)(hcmp:CmpOf prog w A.in1 .Gt P bt)(S:Addr)(hSf:S∉fp):
  ∀ (k j:Nat) (s:Shared) (vb:Value) (c:Nat),n - (j+1)=k->j+1<=n->St (j+1) s.heap->P (argBest bt j) vb->
  s.heap.get? S=some {cls:=.type "list",dict:=none,data:=.seq #[vb,vb] c,slots:=#[]}->
  (∀ v h' tk,P (argBest bt (n - 1)) v->(∀ b o,b∉wr->b≠S->s.heap.get? b=some o->h'.get? b=some o)->R (.ok (.ret v)) {s with heap:=h',toks:=tk})->
  codeAny (model prog w) A (.builtin "max.loop" ⟨[.ref I,.none,.ref S],kw⟩) R s:=by
 have hSw:S∉wr:=fun h=>hSf (W.sub _ h)
 have hname:(toString "max"++toString ".loop":String)="max.loop":=by decide
 intro k
 induction k with
 |zero=>
  intro j s vb c hk hj hst hPb hS hR
  have hin:j+1=n:=by omega
  refine codeAny_builtin F.entry_max_loop ?_
  rw[Around.under_plainId F.plain_max_loop _]
  show wpAny _ A.in1 (seqItems? (.ref S) >>=_) _ _ s
  refine wpAny_bind (wpAny_seqItems hS rfl ?_)
  show wpAny _ A.in1 (tryCatch (pyNext (.ref I)) _ >>=_) _ _ s
  refine wpAny_bind (wpAny_tryCatch (W.done s _ _ (hin▸hst) fun h' tk hk'=>?_))
  have hS':=hk' S _ hSw hS
  show wpAny _ A.in1 (updateSeq S (fun _=>#[]) >>=_) _ _ _
  refine wpAny_bind ?_
  refine wpAny_updateSeq hS' rfl (wpAny_bind (wpAny_letGo (wpAny_pure ?_)))
  refine hR vb _ tk (by rw[← hin];exact hPb) fun b o hbw hbS e=>(Heap.get?_update_other _ _ (Ne.symm hbS)).trans (hk' b o hbw e)
 |succ k ih=>
  intro j s vb c hk hj hst hPb hS hR
  have hlt:j+1 < n:=by omega
  refine codeAny_builtin F.entry_max_loop ?_
  rw[Around.under_plainId F.plain_max_loop _]
  show wpAny _ A.in1 (seqItems? (.ref S) >>=_) _ _ s
  refine wpAny_bind (wpAny_seqItems hS rfl ?_)
  show wpAny _ A.in1 (tryCatch (pyNext (.ref I)) _ >>=_) _ _ s
  refine wpAny_bind (wpAny_tryCatch (W.item (j+1) s _ _ hlt hst fun v h' tk hP hst' hk'=>?_))
  have hS':=hk' S _ hSw hS
  show wpAny _ A.in1 (tryCatch (holding [v,v] (richCompare .Gt v vb >>=_)) _ >>=_) _ _ _
  refine wpAny_bind (wpAny_tryCatch (wpAny_holding (wpAny_bind (hcmp (j+1) (argBest bt j) v vb _ _ _ hP hPb ?_))))
  refine wpAny_bind (wpAny_holding (wpAny_truthy_bool ?_))
  refine wpAny_bind (wpAny_letGo (wpAny_pure ?_))
  cases hb:bt (j+1) (argBest bt j) with
  |true=>
   simp only [if_true]
   refine wpAny_bind ?_
   refine wpAny_updateSeq hS' rfl (wpAny_bind (wpAny_letGo ?_))
   rw[hname]
   refine wpAny_pure ⟨plainId_quiet F.plain_max_loop _,ih (j+1) _ v _ (by omega) hlt (W.frame _ _ _ hst' fun b hbf o e=>?_) (by simp only [argBest,hb,if_true];exact hP) (Heap.get?_update_self _ hS' rfl)
    fun v' h'' tk'' hP' hk''=>?_⟩
   ·exact (Heap.get?_update_other _ _ (fun h:S=b=>hSf (by rw[h];exact hbf))).trans e
   ·exact hR v' h'' tk'' hP' fun b o hbw hbS e=>hk'' b o hbw hbS ((Heap.get?_update_other _ _ (Ne.symm hbS)).trans (hk' b o hbw e))
  |false=>
   simp only [Bool.false_eq_true,if_false]
   refine wpAny_bind (wpAny_letGo ?_)
   rw[hname]
   refine wpAny_pure ⟨plainId_quiet F.plain_max_loop _,ih (j+1) _ vb c (by omega) hlt hst' (by simp only [argBest,hb,Bool.false_eq_true,if_false];exact hPb) hS' fun v' h'' tk'' hP' hk''=>?_⟩
   exact hR v' h'' tk'' hP' fun b o hbw hbS e=>hk'' b o hbw hbS (hk' b o hbw e)
theorem sU (W:Walks prog w A.in1 I fp wr n P St)(bt:Nat->Nat->Bool)(hcmp:CmpOf prog w A.in1 .Gt P bt)(S:Addr)(hSf:S∉fp){d:Value}{ky:Str}{s:Shared}{c:Nat}(hst:St 0 s.heap)
  (hS:s.heap.get? S=some {cls:=.type "list",dict:=none,data:=.seq #[] c,slots:=#[]})
  (hR:0 < n->∀ v h' tk,P (argBest bt (n - 1)) v->(∀ b o,b∉wr->b≠S->s.heap.get? b=some o->h'.get? b=some o)->R (.ok (.ret v)) {s with heap:=h',toks:=tk})
  (h0:n=0->∀ h' tk,(∀ b o,b∉wr->b≠S->s.heap.get? b=some o->h'.get? b=some o)->R (.ok (.ret d)) {s with heap:=h',toks:=tk}):
  codeAny (model prog w) A (.builtin "max.loop" ⟨[.ref I,.none,.ref S],[(ky,d)]⟩) R s:=by
 have hSw:S∉wr:=fun h=>hSf (W.sub _ h)
 have hname:(toString "max"++toString ".loop":String)="max.loop":=by decide
 refine codeAny_builtin F.entry_max_loop ?_
 rw[Around.under_plainId F.plain_max_loop _]
 show wpAny _ A.in1 (seqItems? (.ref S) >>=_) _ _ s
 refine wpAny_bind (wpAny_seqItems hS rfl ?_)
 show wpAny _ A.in1 (tryCatch (pyNext (.ref I)) _ >>=_) _ _ s
 by_cases hn:0 < n
 ·refine wpAny_bind (wpAny_tryCatch (W.item 0 s _ _ hn hst fun v h' tk hP hst' hk'=>?_))
  have hS':=hk' S _ hSw hS
  show wpAny _ A.in1 (updateSeq S (fun _=>#[v,v]) >>=_) _ _ _
  refine wpAny_bind ?_
  refine wpAny_updateSeq hS' rfl ?_
  rw[hname]
  refine wpAny_pure ⟨plainId_quiet F.plain_max_loop _,uH W bt hcmp S hSf _ 0 _ v _ rfl hn (W.frame _ _ _ hst' fun b hbf o e=>?_) hP (Heap.get?_update_self _ hS' rfl) fun v' h'' tk'' hP' hk''=>?_⟩
  ·exact (Heap.get?_update_other _ _ (fun h:S=b=>hSf (by rw[h];exact hbf))).trans e
  ·exact hR hn v' h'' tk'' hP' fun b o hbw hbS e=>hk'' b o hbw hbS ((Heap.get?_update_other _ _ (Ne.symm hbS)).trans (hk' b o hbw e))
 ·have hn0:0=n:=by omega
  refine wpAny_bind (wpAny_tryCatch (W.done s _ _ (hn0▸hst) fun h' tk hk'=>?_))
  refine wpAny_bind (wpAny_rule (wpAny_pure ?_))
  exact h0 hn0.symm h' tk fun b o hbw hbS e=>hk' b o hbw e
end
section
variable {prog:Program}{w:World}{A:Around}{E:Value->Shared->Prop}{s:Shared}
theorem uI {x d:Value}{Q:Value->Shared->Prop}
  (h:wpAny (model prog w) A.in1 (pyIter x) (fun it s₂=>∃ I fp wr n P St bt,it=.ref I/\Walks prog w A.in1 I fp wr n P St/\St 0 s₂.heap/\(∀ b∈fp,b < s₂.heap.objs.size)/\CmpOf prog w A.in1 .Gt P bt/\
   (0 < n->∀ v h' tk,P (argBest bt (n - 1)) v->(∀ b o,b∉wr->s₂.heap.get? b=some o->h'.get? b=some o)->Q v {s₂ with heap:=h',toks:=tk})/\
   (n=0->∀ h' tk,(∀ b o,b∉wr->s₂.heap.get? b=some o->h'.get? b=some o)->Q d {s₂ with heap:=h',toks:=tk})) E s):
  wpAny (model prog w) A (call (.builtin "max") [x] [(Str.ofString "default",d)]) Q E s:=by
 have hname:(toString "max"++toString ".loop":String)="max.loop":=by decide
 refine kmk_tree F.kind_max F.plain_max F.entry_max (mN _ _) ?_
 show wpAny _ A.in1 (Builtin.Builtins.bindParams "max" ["key","default"] 0 ⟨[],[(Str.ofString "default",d)]⟩ >>=_) _ _ s
 refine wpAny_bind (wpAny_of_eq (show Builtin.Builtins.bindParams "max" ["key","default"] 0 ⟨[],[(Str.ofString "default",d)]⟩=pure [none,some d] from rfl) ?_)
 refine wpAny_bind (wpAny_pure ?_)
 refine wpAny_bind (wpAny_mono h (fun it s₂ h₂=>?_) fun _ _ e=>e)
 obtain⟨I,fp,wr,n,P,St,bt,rfl,W,hst,hfp,hcmp,hQ,hQ0⟩:=h₂
 refine wpAny_bind (wpAny_newObj_type ?_)
 have hSf:s₂.heap.objs.size∉fp:=fun hm=>Nat.lt_irrefl _ (hfp _ hm)
 rw[hname]
 refine wpAny_pure ⟨plainId_quiet F.plain_max_loop _,sU W bt hcmp s₂.heap.objs.size hSf (W.frame _ _ _ hst fun b _ o e=>Heap.get?_push_of_some _ e) (Heap.get?_push_size _ rfl) (fun hn v h' tk hP hk=>?_) fun hn h' tk hk=>?_⟩
 ·exact hQ hn v h' tk hP fun b o hbw e=>hk b o hbw (Nat.ne_of_lt (Heap.lt_size e)) (Heap.get?_push_of_some _ e)
 ·exact hQ0 hn h' tk fun b o hbw e=>hk b o hbw (Nat.ne_of_lt (Heap.lt_size e)) (Heap.get?_push_of_some _ e)
theorem max_listD {l:Addr}{xs:Array (Int×Tok)}{d:Value}{Q:Value->Shared->Prop}(hh:A.handled=none)(hl:s.heap.IsList l (intItems xs))
  (h:0 < xs.size->∀ v h' tk,(intItems xs)[argBest (fun i j=>decide (numAt xs i > numAt xs j)) (xs.size - 1)]? =some v->(∀ b o,s.heap.get? b=some o->h'.get? b=some o)->Q v {s with heap:=h',toks:=tk})
  (h0:xs.size=0->∀ h' tk,(∀ b o,s.heap.get? b=some o->h'.get? b=some o)->Q d {s with heap:=h',toks:=tk}):
  wpAny (model prog w) A (call (.builtin "max") [.ref l] [(Str.ofString "default",d)]) Q E s:=by
 refine uI (iter_intList hl fun s₂ e st hfp hlI=>?_)
 subst e
 refine⟨_,_,_,_,_,_,_,rfl,Walks.list (A:=A.in1) hh _ l hlI (intItems xs),st,hfp,CmpOf.ints_gt (numAt xs) (fun _ _=>intItems_at),fun hn v h' tk hP hk=>?_,fun hn h' tk hk=>?_⟩
 ·exact h (by simpa [intItems] using hn) v h' tk (by simpa [intItems] using hP) (old_kept hk)
 ·exact h0 (by simpa [intItems] using hn) h' tk (old_kept hk)
end
end KX
namespace L2
open PySem PySem.Spec PyProof.Rows
section
variable {X:Cx}
theorem jt {vs:List Value}{ns:List Int}{xs:Array (Int×Tok)}{v:Value}(hi:IntsAre vs ns)(e:vs.toArray=intItems xs)(hn:0 < xs.size)(hv:(intItems xs)[argBest (fun i j=>decide (numAt xs i > numAt xs j)) (xs.size - 1)]? =some v):∃ M t,v=.int M t/\M∈ns/\∀ a∈ns,a<=M:=by
 have hns:xs.toList.map (·.1)=ns:=by
  rw[← nums_intItems,← e]
  exact hi.numsOf
 obtain⟨t,rfl⟩:=intItems_at hv
 obtain⟨h1,h2⟩:=argBest_gt (numAt xs) (xs.size - 1)
 refine⟨_,t,rfl,?_,fun a ha=>?_⟩
 ·rw[numAt_eq,hns]
  exact getD_mem (by rw[← hns,List.length_map,Array.length_toList];omega)
 ·obtain⟨j,hj,rfl⟩:=mem_getD ha
  rw[← hns,List.length_map,Array.length_toList] at hj
  have:=h2 j (by omega)
  rw[numAt_eq,hns] at this
  exact this
def vC (K:PySem.W.Frag):List V->Hp->VK->Prop:=fun xs H Q=>∃ (p:Addr) (ns:List Int),xs=[.ref p]/\SqL K H p (ns.map V.int)/\ns≠[]/\∀ M,M∈ns->(∀ a∈ns,a<=M)->Q (.int M) H
theorem mO (hc:X.calm=true):cT X (.builtin "max") (vC X.K):=by
 intro pins s σ H xs us Q I r h
 obtain⟨p,ns,rfl,hq,hne,q⟩:=h
 obtain⟨u,rfl,ru⟩:=cL r
 cases ru
 obtain⟨vs,rv,pl,hz⟩:=I.list hq
 have hi:=dX rv
 obtain⟨ys,e⟩:=hi.allInts.items
 have hl:=pl.isList
 rw[e] at hl
 have hn:0 < ys.size:=by
  have h1:(intItems ys).size=ys.size:=by simp [intItems]
  rw[← h1,← e,List.size_toArray,IntsAre.length hi]
  exact List.length_pos_iff.mpr hne
 refine max_intList (I.ok.hd hc) hl hn fun v h' tk hv hk=>?_
 obtain⟨M,t,rfl,m1,m2⟩:=jt hi e hn hv
 exact⟨.int M,H,I.kept hk,⟨t,rfl⟩,q M m1 m2⟩
def nZ (K:PySem.W.Frag):V->V->Hp->VK->Prop:=fun x d H Q=>∃ (p:Addr) (ns:List Int),x=.ref p/\SqL K H p (ns.map V.int)/\(ns=[]->Q d H)/\∀ M,M∈ns->(∀ a∈ns,a<=M)->Q (.int M) H
def uJ (K:PySem.W.Frag)(te td:TE):TE:=fun σ H Q=>te σ H fun x H1=>td σ H1 fun d H2=>nZ K x d H2 Q
theorem qc {e dv:Expr}{te td:TE}{p1 kp q1:Pos}(hc:X.calm=true)(hg1:Gl X "max")(hm1:X.mg "max"=none)(he:PE X e te)(hd:PE X dv td)
  (hs:starEach [e] X.env=[(false,eval e X.env)]:=by rfl):
  PE X (.Call (.Name "max" p1) [e] [⟨some "default",dv,kp⟩] q1) (uJ X.K te td):=by
 intro pins s σ H Q I h
 refine wpAny_Call_Name_kw (cK I hg1 hm1 PyProof.Rows.boot_max ?_)
 refine PyProof.Rows.callWith_kw (bh (aa he (ad (X:=X)) (by rw[hs];rfl) q1 pins s σ H (nS fun x H1=>td σ H1 fun d H2=>nZ X.K x d H2 Q) I h) fun us s1 ⟨vs,H1,I1,r1,q1'⟩=>?_) (by rw[hs];rfl) (by rw[hs];rfl) rfl rfl
 obtain⟨x,e1,h1⟩:=eN q1'
 subst e1
 obtain⟨u,rfl,ru⟩:=cL r1
 refine PyProof.Rows.kws_cons (bh (hd pins s1 σ H1 _ I1 h1) fun ud s2 ⟨d,H2,I2,r2,h2⟩=>PyProof.Rows.kws_nil ?_)
 obtain⟨p,ns,rfl,hq,q0,q⟩:=h2
 cases ru
 obtain⟨vs,rv,pl,hz⟩:=I2.list hq
 have hi:=dX rv
 obtain⟨ys,e⟩:=hi.allInts.items
 have hl:=pl.isList
 rw[e] at hl
 have hsz:ys.size=ns.length:=by
  have h1:(intItems ys).size=ys.size:=by simp [intItems]
  rw[← h1,← e,List.size_toArray,IntsAre.length hi]
 show wpAny _ _ (call (.builtin "max") [.ref p] [(Str.ofString "default",ud)]) _ _ _
 refine KX.max_listD (I2.ok.hd hc) hl (fun hn v h' tk hv hk=>?_) fun hn h' tk hk=>?_
 ·obtain⟨M,t,rfl,m1,m2⟩:=jt hi e hn hv
  exact⟨.int M,H2,I2.kept hk,⟨t,rfl⟩,q M m1 m2⟩
 ·exact⟨d,H2,I2.kept hk,r2,q0 (List.length_eq_zero_iff.mp (by omega))⟩
end
end L2
namespace L2
open PySem PySem.Spec PyProof.Rows
section
variable {X:Cx}{K:PySem.W.Frag}{o e:Expr}{es:List Expr}{to:TE}{t:TA}{name:Str}{apos cpos:Pos}{T id:String}{r:V->List V->Hp->VK->Prop}
end
end L2
namespace OD
open PySem L2
def Ups (c:List Int):Prop:=(c.map al).Pairwise (· < ·)
theorem Ups.tail {x:Int}{c:List Int}(h:Ups (x::c)):Ups c:=(List.pairwise_cons.mp h).2
theorem Ups.head {x:Int}{c:List Int}(h:Ups (x::c)):∀ l∈c,al x < al l:=fun l hl=>(List.pairwise_cons.mp h).1 _ (List.mem_map_of_mem hl)
def dF (t:Str)(hw:Bool)(c:List Int):Int:=((c.filter fun l=>!(cq t (al l - 1).toNat == hw)).map al).foldl max 0
def gt (t:Str)(hw:Bool)(c:List Int):List Int:=c.filter fun l=>decide (al l<=dF t hw c)
theorem dQ:∀ (ns:List Int) (b:Int),(b<=ns.foldl max b/\∀ a∈ns,a<=ns.foldl max b)/\(ns.foldl max b=b\/ns.foldl max b∈ns)
 |[],b=>⟨⟨Int.le_refl _,fun _ h=>nomatch h⟩,.inl rfl⟩
 |x::r,b=>by
  obtain⟨⟨h1,h2⟩,h3⟩:=dQ r (max b x)
  rw[List.foldl_cons]
  refine⟨⟨by omega,fun a ha=>?_⟩,?_⟩
  ·rcases List.mem_cons.mp ha with rfl|ha
   ·omega
   ·exact h2 a ha
  ·rcases h3 with h3|h3
   ·by_cases g:b<=x
    ·right
     rw[h3,Int.max_eq_right g]
     exact List.mem_cons_self
    ·left
     rw[h3,Int.max_eq_left (by omega)]
   ·exact .inr (List.mem_cons_of_mem _ h3)
theorem n5 {ns:List Int}{M:Int}(h0:∀ a∈ns,0<=a)(h1:M∈ns\/M=0)(h2:∀ a∈ns,a<=M)(h3:0<=M):ns.foldl max 0=M:=by
 obtain⟨⟨a1,a2⟩,a3⟩:=dQ ns 0
 have:ns.foldl max 0<=M:=by
  rcases a3 with e|e
  ·rw[e]
   exact h3
  ·exact h2 _ e
 have:M<=ns.foldl max 0:=by
  rcases h1 with h1|h1
  ·exact a2 _ h1
  ·rw[h1]
   exact a1
 omega
theorem mem_vars {t:Str}{hw:Bool}{z:Int}:z∈cN t hw↔1<=z/\z<=(t.length:Int)/\cq t (z - 1).toNat=hw:=by
 unfold cN
 rw[List.mem_map]
 constructor
 ·rintro⟨i,hi,rfl⟩
  obtain⟨h1,h2⟩:=List.mem_filter.mp hi
  have:=List.mem_range.mp h1
  have e:((i:Int)+1 - 1).toNat=i:=by omega
  rw[e]
  exact⟨by omega,by omega,by simpa using h2⟩
 ·rintro⟨h1,h2,h3⟩
  refine⟨(z - 1).toNat,List.mem_filter.mpr ⟨List.mem_range.mpr (by omega),?_⟩,by omega⟩
  rw[h3]
  exact beq_self_eq_true _
theorem qd {t:Str}{hw:Bool}{l:Int}(h1:1<=al l)(h2:al l<=(t.length:Int)):(cN t (!hw)).contains (al l)=!(cq t (al l - 1).toNat == hw):=by
 cases g:cq t (al l - 1).toNat == hw with
 |true=>
  have g':cq t (al l - 1).toNat=hw:=by simpa using g
  cases z:(cN t (!hw)).contains (al l) with
  |false=>rfl
  |true=>
   have z2:=(mem_vars.mp (by simpa using z)).2.2
   rw[g'] at z2
   cases hw<;>cases z2
 |false=>
  have g':cq t (al l - 1).toNat=!hw:=by
   cases a:cq t (al l - 1).toNat<;>cases hw<;>simp_all
  have:al l∈cN t (!hw):=mem_vars.mpr ⟨h1,h2,g'⟩
  simpa using this
end OD
namespace OD
open PySem L2
def bq (many:Nat):PyData->Option Nat
 |.int z=>if 0<=z/\z < (many:Int) then some z.toNat else none
 |_=>none
theorem cr {many i:Nat}{d:PyData}(h:bq many d=some i):i < many/\d=.int (i:Int):=by
 cases d with
 |int z=>
  have h':(if 0<=z/\z < (many:Int) then some z.toNat else none)=some i:=h
  split at h'
  ·rename_i c
   cases h'
   exact⟨by omega,by congr 1;omega⟩
  ·cases h'
 |_=>cases h
def ju (w:Str):PyData->Bool
 |.str x=>decide (x=w)
 |_=>false
theorem n9 (d:PyData)(w:Str):PyData.eqv d (.str w)=ju w d:=by
 cases d with
 |str x=>
  rw[PyData.eqv]
  show (x == w)=decide (x=w)
  by_cases h:x=w
  ·rw[h];simp
  ·rw[decide_eq_false h]
   exact beq_eq_false_iff_ne.mpr h
 |_=>first|(unfold PyData.eqv;rfl)|(simp [PyData.eqv,ju])
def formB (w:Str)(n:Nat):PyData->Bool
 |.tuple ds=>decide (ds.length=n)&&ju w (ds.getD 0 .none)
 |_=>false
def ld (n:Nat)(c:List Int):Prop:=Ups c/\∀ l∈c,1<=al l/\al l<=(n:Int)
theorem lg:∀ {c:List Int} {n b:Int},Ups c->(∀ l∈c,b < al l/\al l<=n)->(c.length:Int)<=max 0 (n - b)
 |[],n,b,_,_=>by simp;omega
 |x::c,n,b,h,g=>by
  have g1:=g x List.mem_cons_self
  have ih:=lg (n:=n) (b:=al x) h.tail fun l hl=>⟨h.head l hl,(g l (List.mem_cons_of_mem _ hl)).2⟩
  rw[List.length_cons]
  omega
theorem mP {n:Nat}{c:List Int}(h:ld n c):c.length<=n:=by
 have:=lg (n:=(n:Int)) (b:=0) h.1 fun l hl=>⟨by have:=(h.2 l hl).1;omega,(h.2 l hl).2⟩
 omega
end OD
namespace OD
open PySem L2
def j_:PyData->Nat->PyData
 |.tuple ds,i=>ds.getD i .none
 |_,_=>.none
def br:Str:=Str.ofString "drop"
theorem dG {w:Str}{n:Nat}{d:PyData}(h:formB w n d=true):∃ ds,d=.tuple ds/\ds.length=n:=by
 cases d with
 |tuple ds=>
  have h':(decide (ds.length=n)&&ju w (ds.getD 0 .none))=true:=h
  rw[Bool.and_eq_true] at h'
  exact⟨ds,rfl,of_decide_eq_true h'.1⟩
 |_=>cases h
theorem jw {n:Nat}:∀ {c:List Int} {b:Int},tM b c->Ups c/\∀ l∈c,b < al l
 |[],_,_=>⟨.nil,fun _ h=>nomatch h⟩
 |x::c,b,h=>by
  obtain⟨h1,h2⟩:=jw (n:=n) h.2
  refine⟨List.pairwise_cons.mpr ⟨fun y hy=>?_,h1⟩,fun l hl=>?_⟩
  ·obtain⟨l,hl,rfl⟩:=List.mem_map.mp hy
   exact h2 l hl
  ·rcases List.mem_cons.mp hl with rfl|hl
   ·exact h.1
   ·have:=h2 l hl
    have:=h.1
    omega
end OD
namespace OD
open PySem L2
section
variable {K:PySem.W.Frag}{a D:Addr}{xs:List V}{tt:TT}{te:TE}{σ0:St}{H1:Hp}{Q:VK}
end
end OD
namespace OD
open PySem L2
end OD
namespace L2
open PySem PySem.Spec PyProof.Rows
end L2
namespace OD
open PySem L2
end OD
namespace HD
open PySem PySem.W PySem.Calls PyProof.Rows
noncomputable def mQ (sp:SharedT->Thread->Option (SharedT×Thread))(ok th:Thread->Bool)(n:Nat):SharedT->Thread->Option SharedT:=
 @Nat.rec (fun _=>SharedT->Thread->Option SharedT) (fun _ _=>none)
  (fun _ ih s t=>@Bool.rec (fun _=>Option SharedT)
   (@Bool.rec (fun _=>Option SharedT) none
    (@Option.rec (SharedT×Thread) (fun _=>Option SharedT) none
     (fun r=>@Prod.rec SharedT Thread (fun _=>Option SharedT) (fun s' t'=>@Bool.rec (fun _=>Option SharedT) none (ih s' t') (Nat.ble s'.toks 1000000000)) r) (sp s t)) (ok t))
   (some s) (th t)) n
theorem lh {tb:String->Option Builtin}{p:Program}{w:World}{n₀:Nat}{ann:Option Value}:∀ (n:Nat) (s s':SharedT) (t:Thread),
  mQ (stepT (denote tb) p w) (stepOk n₀ ann) through n s t=some s'->topRun tb p w n₀ ann n s.abs t=some s'.abs
 |0,s,s',t,h=>by cases h
 |n+1,s,s',t,h=>by
  have h:@Bool.rec (fun _=>Option SharedT)
   (@Bool.rec (fun _=>Option SharedT) none
    (@Option.rec (SharedT×Thread) (fun _=>Option SharedT) none
     (fun r=>@Prod.rec SharedT Thread (fun _=>Option SharedT) (fun s' t'=>@Bool.rec (fun _=>Option SharedT) none (mQ (stepT (denote tb) p w) (stepOk n₀ ann) through n s' t') (Nat.ble s'.toks 1000000000)) r) (stepT (denote tb) p w s t)) (stepOk n₀ ann t))
   (some s) (through t)=some s':=h
  unfold topRun
  cases ht:through t with
  |true=>rw[ht] at h;cases h;rfl
  |false=>
   rw[ht] at h
   cases hk:stepOk n₀ ann t with
   |false=>rw[hk] at h;cases h
   |true=>
    rw[hk] at h
    cases hs:stepT (denote tb) p w s t with
    |none=>rw[hs] at h;cases h
    |some r=>
     obtain⟨s₂,t₂⟩:=r
     rw[hs] at h
     replace h:@Bool.rec (fun _=>Option SharedT) none (mQ (stepT (denote tb) p w) (stepOk n₀ ann) through n s₂ t₂) (Nat.ble s₂.toks 1000000000)=some s':=h
     rw[stepT_spec hs]
     cases hb:Nat.ble s₂.toks 1000000000 with
     |false=>rw[hb] at h;cases h
     |true=>rw[hb] at h;exact lh n _ _ _ h
noncomputable def iB (l:List Obj):BT->Nat->Option (BT×Nat):=
 @List.rec Obj (fun _=>BT->Nat->Option (BT×Nat)) (fun T n=>some (T,n))
  (fun o _ ih T n=>@Bool.rec (fun _=>Option (BT×Nat)) none (ih (T.ins n o) (n+1)) (((T.ins n o).get n).isSome)) l
theorem hG {life:Life}:∀ (l:List Obj) (T T':BT) (n n':Nat),iB l T n=some (T',n')->absHeap T' n' life=⟨(absHeap T n life).objs++l.toArray,life⟩
 |[],T,T',n,n',h=>by
  cases h
  show absHeap T n life=Heap.mk ((absHeap T n life).objs++#[]) life
  rw[Array.append_empty]
  rfl
 |o::l,T,T',n,n',h=>by
  replace h:@Bool.rec (fun _=>Option (BT×Nat)) none (iB l (T.ins n o) (n+1)) (((T.ins n o).get n).isSome)=some (T',n'):=h
  cases hb:((T.ins n o).get n).isSome with
  |false=>rw[hb] at h;cases h
  |true=>
   rw[hb] at h
   rw[hG l _ _ _ _ h,absHeap_ins hb]
   show Heap.mk ((absHeap T n life).objs.push o++l.toArray) life=_
   congr 1
   apply Array.ext'
   simp
noncomputable def look {β:Type}(sp:SharedT->Thread->Option (SharedT×Thread))(ok th:Thread->Bool)(M:Nat)(os:OsState)(P:Params)(st:Thread)(F:Shared->β):Option β:=
 @Option.rec (BT×Nat) (fun _=>Option β) none
  (fun r=>@Prod.rec BT Nat (fun _=>Option β) (fun T n=>@Option.rec SharedT (fun _=>Option β) none (fun s=>some (F s.abs)) (mQ sp ok th M ⟨T,n,(boot_heap P).life,Array.mk [],boot_drawn,boot_toks,os⟩ st)) r)
  (iB (boot_heap P).objs.toList .nil 0)
theorem qe {β:Type}{tb:String->Option Builtin}{p:Program}{w:World}{n₀:Nat}{ann:Option Value}{M:Nat}{os:OsState}{F:Shared->β}{b:β}
  (h:look (stepT (denote tb) p w) (stepOk n₀ ann) through M os w.params (topStub p) F=some b):
  ∃ s,topRun tb p w n₀ ann M ⟨boot_heap w.params,Array.mk [],boot_drawn,boot_toks,os⟩ (topStub p)=some s/\F s=b:=by
 unfold look at h
 cases hi:iB (boot_heap w.params).objs.toList .nil 0 with
 |none=>rw[hi] at h;cases h
 |some r=>
  obtain⟨T,n⟩:=r
  rw[hi] at h
  replace h:@Option.rec SharedT (fun _=>Option β) none (fun s=>some (F s.abs)) (mQ (stepT (denote tb) p w) (stepOk n₀ ann) through M ⟨T,n,(boot_heap w.params).life,Array.mk [],boot_drawn,boot_toks,os⟩ (topStub p))=some b:=h
  cases hr:mQ (stepT (denote tb) p w) (stepOk n₀ ann) through M ⟨T,n,(boot_heap w.params).life,Array.mk [],boot_drawn,boot_toks,os⟩ (topStub p) with
  |none=>rw[hr] at h;cases h
  |some s=>
   rw[hr] at h
   have e:=hG (life:=(boot_heap w.params).life) _ _ _ _ _ hi
   have e0:(absHeap .nil 0 (boot_heap w.params).life).objs=#[]:=rfl
   rw[e0] at e
   have e1:absHeap T n (boot_heap w.params).life=boot_heap w.params:=by
    rw[e]
    show Heap.mk (#[]++(boot_heap w.params).objs.toList.toArray) _=_
    rw[Array.empty_append]
   have hr':=lh _ _ _ _ hr
   refine⟨s.abs,?_,Option.some.inj h⟩
   rw[← hr']
   show _=topRun tb p w n₀ ann M ⟨absHeap T n (boot_heap w.params).life,Array.mk [],boot_drawn,boot_toks,os⟩ (topStub p)
   rw[e1]
noncomputable def seenAt (p q:Program)(loose:List Str)(Xt:Shared->Bool)(g0:Bool)(w:World)(s:Shared):=((staticsOk (Fast.tw5923862056798008813 p.main.body) (boot_heap w.params) s.heap&&namesBound p s.heap&&gensDone s&&laidKept (boot_heap w.params) s.heap),Fast.tw4187177175401517315 q loose (Fast.tw5923862056798008813 p.main.body) Xt g0 s)
noncomputable def lookAt {β:Type}(p:Program)(m₀:Nat)(ann:Option Value)(M:Nat)(w:World)(os:OsState)(F:Shared->β):Option β:=
 look (Fast.tw10156331382660048174 (Fast.tw11892475500146522536 Fast.tw14364793385576792824) p w) (Fast.tw6613529449190102663 m₀ ann) through M os w.params (topStub p) F
theorem hJ {β:Type}{p:Program}{m₀:Nat}{ann:Option Value}{M:Nat}{w:World}{os:OsState}{F:Shared->β}{b:β}(h:lookAt p m₀ ann M w os F=some b):
  ∃ s,topRun treeTable p w m₀ ann M ⟨boot_heap w.params,Array.mk [],boot_drawn,boot_toks,os⟩ (topStub p)=some s/\F s=b:=by
 unfold lookAt at h
 rw[← Fast.te10156331382660048174,← Fast.te11892475500146522536,← Fast.te14364793385576792824,← Fast.te6613529449190102663] at h
 exact qe h
theorem left {p q:Program}{loose:List Str}{Xt:Shared->Bool}{α:Type}{Yf:Shared->α}{Ya:World->α}{N:Nat}{g0:Bool}{m₀:Nat}{ann:Option Value}{M:Nat}
  (e:opening p=plainProg p.main.scope.names) (f:∀ s,fenceModules? p s=some s) (hN:Nat.ble 600 N=true) (le:Nat.ble M N=true)
  (size:∀ w:World,((boot_heap w.params).isNs mainGlobals&&(Array.mk []:Array GenState).size == 0,(boot_heap w.params).objs.size,(boot_heap w.params).nsMap mainGlobals "__annotations__")=(true,m₀,ann))
  (h1:∀ (w:World) (os:OsState),lookAt p m₀ ann M w os (seenAt p q loose Xt g0 w)=some (true,openGood q loose)) (h2:∀ (w:World) (os:OsState),lookAt p m₀ ann M w os Yf=some (Ya w)):
  LeftO p q loose Xt Yf Ya N g0:=fun w=>by
 obtain⟨⟨h0,gs,d,k,os⟩,a,b⟩:=Option.map_eq_some_iff.mp (boot_open e hN f w)
 obtain⟨rfl,rfl,rfl,rfl⟩:h0=boot_heap w.params/\gs=Array.mk []/\d=boot_drawn/\k=boot_toks:=by simpa using b
 obtain⟨z1,z2,z3⟩:_/\_/\_:=by simpa only [Prod.mk.injEq] using size w
 obtain⟨s,r,l⟩:=hJ (h1 w os)
 obtain⟨s',r',l3⟩:=hJ (h2 w os)
 rw[r] at r'
 cases r'
 unfold seenAt at l
 rw[← Fast.te5923862056798008813,← Fast.te4187177175401517315] at l
 obtain⟨l1,l2⟩:_/\_:=by simpa only [Prod.mk.injEq] using l
 have r:=topRun_mono (N - M) _ _ _ _ r
 rw[show M+(N - M)=N by have:=Nat.le_of_ble_eq_true le;omega] at r
 have t:topFrom treeTable p w N ⟨boot_heap w.params,Array.mk [],boot_drawn,boot_toks,os⟩=some s:=by
  unfold topFrom
  dsimp only
  rw[z1,z2,z3,r]
  show (match staticsOk (importedModules p.main.body) (boot_heap w.params) s.heap&&namesBound p s.heap&&gensDone s&&laidKept (boot_heap w.params) s.heap with|true=>_|false=>_)=_
  rw[l1]
 unfold openEnds
 rw[a]
 show (topFrom treeTable p w N _).map _=_
 rw[t]
 exact congrArg some (Prod.ext l2 l3)
theorem head {r:OpenRow}{q:Program}{loose:List Str}{lv:List (Str×WData)}(H:Hook){d:DefRec}{kwd:List (Str×Expr)}{N:Nat}
  (lf:LeftO r.prog q loose (fun s=>xlAt q lv s&&recOk r.records s) H.obs H.val N) (hdef:defOf q r.name=some (d,kwd)) (hp:r.prog.theDef r.name=some (d.params,d.body,d.scope)) (hk:kwWritten? d.params.kwonlyargs d.params.kw_defaults=some kwd)
  (hwr:(!r.writes || r.records.isEmpty)=true) (k1:r.wellSaid=true) (ok:(chainsOk q&&opensWell r.prog&&(frees r.toRowW&&r.within.isEmpty))=true) (hb:r.prog.bare) (hw:r.toRowW.promised)
  (hc:WalkO q loose (XL q lv) H.says r.toRowW d kwd fun f vs=>PySem.call f vs):r.Holds:=
 holds_open lf H.of H.keeps (fun s e=>xl_of s (Bool.and_eq_true_iff.mp e).1) XL.keeps hdef hp hk (fun s e=>recFacts_of (Bool.and_eq_true_iff.mp e).2) hwr k1 ok hb hw hc
end HD
namespace L2
open PySem PySem.Spec PyProof.Rows
section
variable {M:Model}{A:Around}{E:Value->Shared->Prop}{s:Shared}{B:Heap}{env:Env}{outer:List Env}{L e:Addr}{dx:Option Addr}{cls a0:Value}
end
end L2
namespace L2
open PySem PySem.Spec PyProof.Rows
section
variable {P:Program}{w:World}{outer:List Env}{H H':Hp}{s s':Shared}{B h':Heap}{ea:Addr}{dx:Option Addr}{cls a0:Value}
end
section
variable {P:Program}{w:World}{K:PySem.W.Frag}{mg:Str->Option Value}{base:Heap}{N:List Str}{qual:Str}{scope:Scope}{f:Addr}{cd:Value}{A:Around}{outer:List Env}{s:Shared}{H:Hp}{E:XK}
end
end L2
namespace L2
open PySem PySem.Spec PyProof.Rows
section
variable {prog:Program}{w:World}{A:Around}{E:Value->Shared->Prop}{h:Heap}{g:Array GenState}{d:Drawn}{t:Nat}{os:OsState}
variable {nm q:Str}{C N:Addr}{bs bm bmB:List Value}{hdct:Bool}{sn:List Str}{sub:List Value}{ab:Bool}{col:Option Bool}{dd:Option Addr}{k0 k1 k2 k3 k5:Option Value}{B newId initId:String}
end
end L2
namespace L2
open PySem PySem.Spec PyProof.Rows
section
variable {prog:Program}{w:World}{A:Around}{E:Value->Shared->Prop}{h:Heap}{g:Array GenState}{d:Drawn}{t:Nat}{os:OsState}{a dx C:Addr}{o:Obj}{mA:Str->Option Value}{K:PySem.W.Frag}{x:Str}{v:Value}
end
end L2
namespace L2
open PySem PySem.Spec PyProof.Rows
section
variable {X:Cx}{j k:Nat}{C f:Addr}{fd:FuncData}{ps:List Str}{sp:Sp}{x m:Str}{p pos apos:Pos}{o e:Expr}{es:List Expr}{ta:TE}{t:TA}
end
end L2
namespace L2
open PySem PySem.Spec PyProof.Rows
end L2
namespace L2
open PySem PySem.Spec PyProof.Rows
section
variable {M:Model}{A:Around}{E:Value->Shared->Prop}{env:Env}{C N:Addr}{nm q:Str}{bs bm:List Value}{hdct ab:Bool}{sn:List Str}{sub:List Value}{col:Option Bool}{dd:Option Addr}{k0 k1 k2 k3 k5:Option Value}{newId:String}
end
end L2
namespace L2
open PySem PySem.Spec PyProof.Rows
section
variable {prog:Program}{w:World}{A:Around}{E:Value->Shared->Prop}{h:Heap}{g:Array GenState}{d:Drawn}{t:Nat}{os:OsState}{x C:Addr}{K:PySem.W.Frag}{f:Str}{v:Value}{vs:Array Value}
end
end L2
namespace L2
open PySem PySem.Spec PyProof.Rows
section
variable {X:Cx}{o e:Expr}{es:List Expr}{ta:TE}{t:TA}{apos pos:Pos}{D:Addr}
end
section
variable {X:Cx}{e:Expr}{te:TE}{p1 p2 p3 pos:Pos}{a b:Str}{j k:Nat}
end
section
variable {X:Cx}{o value:Expr}{f:Str}{pos pos':Pos}{ta tv:TE}
end
section
variable {P:Program}{w:World}{K:PySem.W.Frag}{mg:Str->Option Value}{base:Heap}{N:List Str}{qual:Str}{scope:Scope}{f:Addr}{cd:Value}{A:Around}{outer:List Env}{s:Shared}{H:Hp}{E:XK}
end
end L2
namespace L2
open PySem PySem.Spec PyProof.Rows
section
variable {X:Cx}{pins:List (Addr×Obj)}{σ:St}{H:Hp}{s:Shared}{h':Heap}
end
section
variable {P:Program}{w:World}{K:PySem.W.Frag}{mg:Str->Option Value}{base:Heap}{N:List Str}{qual:Str}{scope:Scope}{f:Addr}{cd:Value}{A:Around}{outer:List Env}{s:Shared}{H:Hp}{E:XK}
end
end L2
namespace L2
open PySem PySem.Spec PyProof.Rows
section
variable {P:Program}{w:World}{K:PySem.W.Frag}{mg:Str->Option Value}{base:Heap}{N:List Str}{qual:Str}{scope:Scope}{f:Addr}{cd:Value}{A:Around}{outer:List Env}{s:Shared}{H:Hp}{E:XK}
end
section
variable {X:Cx}{j k:Nat}{f:Addr}{fd:FuncData}{ps:List Str}{sp:Sp}{x:Str}{p pos:Pos}{e:Expr}{es:List Expr}{t:TA}
end
section
variable {P:Program}{w:World}{outer:List Env}{H H':Hp}{s s':Shared}{B h':Heap}{ea C d:Addr}{dx:Option Addr}{cls a0:Value}
end
section
variable {X:Cx}
end
section
variable {X:Cx}{e:Expr}{f:Str}{pos:Pos}{ta:TE}
end
end L2
namespace DP
open PySem
section
variable {prog:Program}{w:World}{A:Around}{E:Value->Shared->Prop}{s:Shared}
end
end DP
namespace DP
open PySem
section
variable {prog:Program}{w:World}{K:Type} [DecidableEq K] {knd:KeyKind prog w K}{A:Around}{E:Value->Shared->Prop}{s:Shared}
end
end DP
namespace L2
open PySem PySem.Spec PyProof.Rows
section
variable {P:Program}{w:World}{H:Hp}{h:Heap}
end
section
variable {X:Cx}
end
end L2
namespace DP
open PySem
section
variable {prog:Program}{w:World}{K:Type} [DecidableEq K] {knd:KeyKind prog w K}{A:Around}{E:Value->Shared->Prop}{s:Shared}
end
end DP
namespace L2
open PySem PySem.Spec PyProof.Rows
section
variable {P:Program}{w:World}{H:Hp}{h:Heap}
end
section
variable {X:Cx}
end
end L2
namespace DP
open PySem
section
variable {prog:Program}{w:World}{K:Type} [DecidableEq K] {knd:HeapKind prog w K}{A:Around}{E:Value->Shared->Prop}{s:Shared}
theorem mR {d a:Addr}{xs:List (K×Addr×Value)}{k:K}{v:Value}{Q:Value->Shared->Prop}(hu:knd.room A)(hkey:knd.is s.heap k a)(hm:s.heap.DictOfH knd d xs)(hsz:xs.length<=sizeLine)
  (h1:∀ p,atKey xs k=some p->Q p.2 {s with toks:=s.toks+knd.draws k})
  (h2:atKey xs k=none->∀ h',h'.DictOfH knd d (storedH xs k a v)->Heap.SameBut d s.heap h'->Q v {s with heap:=h',toks:=s.toks+knd.draws k}):wpAny (model prog w) A (dictSetDefault d (.ref a) v) Q E s:=by
 obtain⟨ob,es,ep,g1,g2,g3,g4,g5,g6⟩:=hm
 unfold dictSetDefault
 refine wpAny_holding (wpAny_bind (knd.pyHash hu hkey (wpAny_bind (wpAny_dictFind_heap (s:={s with toks:=s.toks+knd.draws k}) hu hkey g1 g3 g4 g5 g6 (fun no=>?_) fun j p hj=>?_))))
 ·have e0:=atKey_none_of_get no
  have hnk:k∉xs.map (·.1):=not_mem_keys_of_get no
  have st:=storedH_new e0 a v
  refine wpAny_bind (wpAny_rule (wpAny_bind (wpAny_updateDictKeys (hz:=by rw[size_of_entries g4];exact hsz) (s:={s with toks:=s.toks+knd.draws k}) g1 g3 (wpAny_pure (h2 e0 _ ?_ (Heap.SameBut.update ..))))))
  refine⟨_,_,ep+1,Heap.get?_update_self _ g1 (Obj.isFreed_of_dict (Obj.data_mapDictKeys g3 _)),g2.mapDictKeys _,Obj.data_mapDictKeys g3 _,?_,fun x hx=>?_,?_⟩
  ·rw[st];simp [g4,entryOfKey]
  ·rw[st] at hx
   rcases List.mem_append.mp hx with z|z
   ·exact knd.keeps (g5 x z) g1 g3 (Heap.SameBut.update ..)
   ·rw[List.mem_singleton.mp z];exact knd.keeps hkey g1 g3 (Heap.SameBut.update ..)
  ·rw[st,List.map_append,List.nodup_append]
   exact⟨g6,by simp,fun x hx y hy z=>by
    have hy':y=k:=by simpa using hy
    subst z hy'
    exact hnk hx⟩
 ·refine wpAny_bind (wpAny_dictEntries (s:={s with toks:=s.toks+knd.draws k}) g1 g3 ?_)
  rw[entry_at g4 j,hj]
  exact wpAny_bind (wpAny_rule (wpAny_pure (h1 p (atKey_of_get g6 hj))))
theorem meetsH_setd {d a:Addr}(hd:(d == sysModules)=false)(v:Value):MeetsIn prog w (Builtin.«dict.setdefault» ⟨[.ref d,.ref a,v],[]⟩) (fun A R s=>knd.room A.in1/\∃ k xs,knd.is s.heap k a/\s.heap.DictOfH knd d xs/\xs.length<=sizeLine/\
  (∀ p,atKey xs k=some p->R (.ok (.ret p.2)) {s with toks:=s.toks+knd.draws k})/\
  (atKey xs k=none->∀ h',h'.DictOfH knd d (storedH xs k a v)->Heap.SameBut d s.heap h'->R (.ok (.ret v)) {s with heap:=h',toks:=s.toks+knd.draws k})):=
 .of_wp fun A R s ⟨hu,k,xs,hkey,hm,hz,h1,h2⟩=>by
  unfold Builtin.«dict.setdefault» Builtin.Dict.keyAndDefault
  refine wpAny_bind (wpAny_bind (wpAny_notOrdered_dict hm.typeIs ?_))
  show wpAny _ _ (pure (d,Value.ref a,some v)) _ _ s
  refine wpAny_pure ?_
  show wpAny _ _ (if (d == sysModules)=true then _ else (dictSetDefault d (.ref a) v >>=_)) _ _ s
  rw[hd,if_neg Bool.false_ne_true]
  exact wpAny_bind (mR hu hkey hm hz (fun p hp=>wpAny_pure ⟨_,rfl,h1 p hp⟩) fun hn h' hm' hs'=>wpAny_pure ⟨v,rfl,h2 hn h' hm' hs'⟩)
end
end DP
namespace L2
open PySem PySem.Spec PyProof.Rows
def qZ (H:Hp)(a:Addr)(y z:V)(Q:VK):Prop:=(∃ v,DGet H a y (some v)/\Q v H)\/(DGet H a y none/\∃ H',DPut H a y z H'/\Q z H')
section
variable {X:Cx}{pins:List (Addr×Obj)}{σ:St}{H:Hp}{s:Shared}{a:Addr}{y z:V}{u r:Value}{A:Around}{E:Value->Shared->Prop}
theorem uK {kvs kvs':List (bo×V)}(e:H a=some (.dK kvs))(g:Rd H a (.dK kvs')):kvs'=kvs:=by
 rcases g with g|⟨_,g⟩
 ·rw[e] at g;cases g;rfl
 ·rw[e] at g;cases g
theorem uL {kvs kvs':List (List bo×V)}(e:H a=some (.dT kvs))(g:Rd H a (.dT kvs')):kvs'=kvs:=by
 rcases g with g|⟨_,g⟩
 ·rw[e] at g;cases g;rfl
 ·rw[e] at g;cases g
theorem sV {Q:VK}{R:Value->Shared->Prop}(hu:A.units+1 < cLine)(I:Inv X pins σ H s)(g:qZ H a y z Q)(ry:RelV y u)(rz:RelV z r)(h:∀ v H' w' s',Inv X pins σ H' s'->RelV v w'->Q v H'->R w' s'):
  wpAny (model X.prog X.w) A (call (.builtin "dict.setdefault") [.ref a,u,r]) R E s:=by
 rcases g with⟨v,⟨kvs,k,e,ey,l⟩|⟨kvs,k,b,e,ey,eb,l⟩,q⟩|⟨⟨kvs,k,e,ey,l⟩|⟨kvs,k,b,e,ey,eb,l⟩,H',p,q⟩
 ·subst ey
  obtain⟨zz,hd,vs,rel,dd⟩:=fH I.hok e
  obtain⟨w',hw,rw'⟩:=RelO.some_of (v:=v) (o:=valueAt vs k) (by rw[l];exact rel.val k)
  refine call_meetsIn PySem.F.slot_dict_setdefault dd.typeIs PySem.F.entry_dict_setdefault (PySem.F.args_dict_setdefault_3 _ _ _) (kt_meets_setdefault (aO X.prog X.w) a (gf ry) hd r) ⟨vs,dd,by rw[← rel.length];exact zz,fun v2 hv2=>?_,fun hn=>?_⟩
  ·rw[hw] at hv2;cases hv2
   exact h v H w' _ (I.tok _) rw' q
  ·rw[hw] at hn;cases hn
 ·subst ey
  cases (show u=Value.ref b from ry)
  obtain⟨zz,hd,xs,rel,dd⟩:=fI I.hok e
  obtain⟨w',hw,rw'⟩:=RelO.some_of (v:=v) (o:=(atKey xs k).map (·.2)) (by rw[l];exact rel.val k)
  refine call_meetsIn PySem.F.slot_dict_setdefault dd.typeIs PySem.F.entry_dict_setdefault (PySem.F.args_dict_setdefault_3 _ _ _) (DP.meetsH_setd (knd:=tupleKind (aO X.prog X.w)) hd r) ⟨tupleKind_room_in1 hu,k,xs,dY I.hok eb,dd,by rw[← Paired.length rel];exact zz,fun p hp=>?_,fun hn=>?_⟩
  ·rw[hp] at hw;cases hw
   exact h v H _ _ (I.tok _) rw' q
  ·rw[hn] at hw;cases hw
 ·subst ey
  obtain⟨zz,hd,vs,rel,dd⟩:=fH I.hok e
  have hn:valueAt vs k=none:=RelO.none_of (by rw[l];exact rel.val k)
  rcases p with⟨kvs2,k2,e2,ey2,l2,eH⟩|⟨kvs2,k2,b2,e2,ey2,_⟩
  ·obtain rfl:=uK e2 e
   obtain rfl:k=k2:=by cases k<;>cases k2<;>cases ey2<;>rfl
   subst eH
   have hl:(cF kvs k z).length<=sizeLine:=by have:=cU kvs k z;omega
   refine call_meetsIn PySem.F.slot_dict_setdefault dd.typeIs PySem.F.entry_dict_setdefault (PySem.F.args_dict_setdefault_3 _ _ _) (kt_meets_setdefault (aO X.prog X.w) a (gf ry) hd r) ⟨vs,dd,by rw[← rel.length];exact zz,fun v2 hv2=>(by rw[hn] at hv2;cases hv2),fun _ h' dd' hs=>?_⟩
   have he:∃ q,h'.get? a=some q:=let ⟨q,_,_,hq,_⟩:=dd';⟨q,hq⟩
   exact h z _ r _ (fT I (by rw[e2];exact True.intro) hs he (nC hl hd (rel.put k rz) dd')) rz q
  ·cases k<;>cases ey2
 ·subst ey
  cases (show u=Value.ref b from ry)
  obtain⟨zz,hd,xs,rel,dd⟩:=fI I.hok e
  have hn:(atKey xs k).map (·.2)=none:=RelO.none_of (by rw[l];exact rel.val k)
  rcases p with⟨kvs2,k2,e2,ey2,l2,eH⟩|⟨kvs2,k2,b2,e2,ey2,eb2,l2,eH⟩
  ·cases k2<;>cases ey2
  ·obtain rfl:=uL e2 e
   cases ey2
   have ek:k2=k:=by
    rw[eb] at eb2
    have e3:k.map kV=k2.map kV:=HO.tup.inj (Option.some.inj eb2)
    exact (List.map_inj_right (fun x y hxy=>by cases x<;>cases y<;>cases hxy<;>rfl)|>.mp e3).symm
   subst ek
   subst eH
   have hl:(cF kvs k2 z).length<=sizeLine:=by have:=cU kvs k2 z;omega
   refine call_meetsIn PySem.F.slot_dict_setdefault dd.typeIs PySem.F.entry_dict_setdefault (PySem.F.args_dict_setdefault_3 _ _ _) (DP.meetsH_setd (knd:=tupleKind (aO X.prog X.w)) hd r) ⟨tupleKind_room_in1 hu,k2,xs,dY I.hok eb,dd,by rw[← Paired.length rel];exact zz,fun p hp=>(by rw[hp] at hn;cases hn),fun _ h' dd' hs=>?_⟩
   obtain⟨q2,es,ep,hq,g2,g3,g4,_,g5⟩:=dd'
   have new:ObjOk X.prog X.w (upd H a (.dT (cF kvs k2 z))) h' a (.dT (cF kvs k2 z)):=by
    refine⟨hl,hd,_,(rel.put k2 eb rz).keeps fun c ys ec=>?_,q2,es,ep,hq,g2,g3,g4,g5⟩
    rw[ap (ni ec e2 (fun z=>nomatch z))]
    exact ec
   exact h z _ r _ (fT I (by rw[e2];exact True.intro) hs ⟨q2,hq⟩ new) rz q
end
def sW (td ty tx:TE):TE:=fun σ H Q=>td σ H fun x H1=>∃ a,x=.ref a/\vA H1 a/\ty σ H1 fun y H2=>tx σ H2 fun z H3=>qZ H3 a y z Q
theorem n_ {X:Cx}{o e f:Expr}{apos cpos:Pos}{td ty tx:TE}(hu:X.A.units+1 < cLine)(ho:PE X o td)(he:PE X e ty)(hf:PE X f tx)(m:M2 X o "setdefault" apos e f cpos):PE X (.Call (.Attribute o "setdefault" apos) [e,f] [] cpos) (sW td ty tx):=by
 intro pins s σ H Q I h
 refine wpAny_Call_method m.base m.few m.line PySem.F.plainAttrs_dict PySem.F.slot_dict_setdefault PySem.F.type_dict_setdefault (bh (ho pins s σ H _ I h) fun u s1 ⟨x,H1,I1,rx,a,ex,d,q1⟩=>?_)
 subst ex
 obtain rfl:u=Value.ref a:=rx
 obtain⟨t1,t2,_⟩:=nF I1 d
 refine⟨t1,t2,?_⟩
 rw[m.trees]
 refine Calls.callWith_builtin rfl (Calls.evalArgs_plain (Calls.spliced_cons (bh (he pins s1 σ H1 _ I1 q1) fun iv s2 ⟨y,H2,I2,ry,q2⟩=>Calls.spliced_cons (bh (hf pins s2 σ H2 _ I2 q2) fun fv s3 ⟨z,H3,I3,rz,g⟩=>Calls.spliced_nil ?_))))
 exact sV hu I3 g ry rz fun v H' w' s4 I4 rw' q=>⟨v,H',I4,rw',q⟩
end L2
namespace L2
open PySem PySem.Spec PyProof.Rows
section
variable {X:Cx}{pins:List (Addr×Obj)}{σ:St}{H H':Hp}{s:Shared}{a:Addr}{kvs:List (bo×V)}{o:Obj}
theorem Inv.swap {u v:HO}(I:Inv X pins σ H s)(hu:H a=some u)(hv:H' a=some v)(k:∀ b,b≠a->H' b=H b)(nt:∀ xs,u≠.tup xs)(nf:∀ o w,X.H₀ a=some (.frz o w)->False)(nb:∀ ps,u≠.tbl ps)(no:∀ b,u≠.own b)
  (hok:ObjOk X.prog X.w H' s.heap a v):Inv X pins σ H' s where
 ok:=I.ok
 os:=I.os
 bare:=I.bare
 base:={
  keep:=I.base.keep
  slot:=I.base.slot
  free:=fun b ob e n hx=>by
   have h1:=I.base.free b ob e n hx
   by_cases hb:b=a
   ·subst hb;rw[hu] at h1;cases h1
   ·rw[k b hb];exact h1
  there:=I.base.there
  tups:=fun b xs e=>by
   have h1:=I.base.tups b xs e
   by_cases hb:b=a
   ·subst hb;rw[hu] at h1;exact absurd (Option.some.inj h1) (nt xs)
   ·rw[k b hb];exact h1
  frzs:=fun b ob w e=>by
   have h1:=I.base.frzs b ob w e
   by_cases hb:b=a
   ·subst hb;exact (nf ob w e).elim
   ·rw[k b hb];exact h1
  tbls:=fun b ps e=>by
   obtain⟨m,h1⟩:=I.base.tbls b ps e
   by_cases hb:b=a
   ·subst hb;rw[hu] at h1;exact absurd (Option.some.inj h1) (nb _)
   ·exact⟨m,by rw[k b hb];exact h1⟩}
 loc:=I.loc
 cell:=I.cell
 free:=by
  have h1:=I.free
  by_cases hb:X.env.locals=a
  ·rw[hb,hu] at h1;cases h1
  ·rw[k _ hb];exact h1
 freeC:=fun x c e=>by
  have h1:=I.freeC x c e
  by_cases hb:c=a
  ·subst hb;rw[hu] at h1;cases h1
  ·rw[k _ hb];exact h1
 pin:=fun p hp=>by
  obtain⟨h0,h1,h2⟩:=I.pin p hp
  refine⟨h0,?_,h2⟩
  by_cases hb:p.1=a
  ·rw[hb,hu] at h1;cases h1
  ·rw[k _ hb];exact h1
 hok:=fun b w e=>by
  by_cases hb:b=a
  ·subst hb;rw[hv] at e;cases e;exact hok
  ·rw[k b hb] at e
   refine (I.hok b w e).stay (fun _ _ _ r=>r) (fun c r=>?_) fun c xs r=>?_
   ·by_cases hc:c=a
    ·subst hc;rw[hu] at r;exact absurd (Option.some.inj r) (no b)
    ·rw[k c hc];exact r
   ·by_cases hc:c=a
    ·subst hc;rw[hu] at r;exact absurd (Option.some.inj r) (nt xs)
    ·rw[k c hc];exact r
 len:=I.len
theorem Inv.nofrz {u:HO}(I:Inv X pins σ H s)(hu:H a=some u)(n:∀ o w,u≠.frz o w):∀ o w,X.H₀ a=some (.frz o w)->False:=fun o w e=>by
 have:=I.base.frzs a o w e
 rw[hu] at this
 exact n o w (Option.some.inj this)
theorem Inv.freeze (I:Inv X pins σ H s)(e:H a=some (.dK kvs)):∃ o,s.heap.get? a=some o/\Inv X pins σ (upd H a (.frz o (.dK kvs))) s:=by
 obtain⟨z,hd,vs,rel,dd⟩:=nB I.hok e
 obtain⟨o,es,ep,h1,h2⟩:=id dd
 exact⟨o,h1,I.swap e ac (fun b hb=>ap hb) (fun _ z=>by cases z) (I.nofrz e fun _ _ z=>by cases z) (fun _ z=>by cases z) (fun _ z=>by cases z) ⟨h1,z,hd,vs,rel,dd⟩⟩
theorem Inv.thaw (nf:∀ o w,X.H₀ a=some (.frz o w)->False)(e:H a=some (.dK kvs))(I:Inv X pins σ (upd H a (.frz o (.dK kvs))) s):Inv X pins σ H s:=by
 have ok:=I.hok a _ ac
 exact I.swap ac e (fun b hb=>(ap hb).symm) (fun _ z=>by cases z) nf (fun _ z=>by cases z) (fun _ z=>by cases z) (show ObjOk X.prog X.w H s.heap a (.dK kvs) from ok.2)
def uM (a:Addr)(o:Obj)(kvs:List (bo×V)):It:=
 ⟨fun i H=>H a=some (.frz o (.dK kvs))/\i < kvs.length,fun i H x H'=>H'=H/\∃ k v,kvs[i]? =some (k,v)/\x=kV k,fun i H=>H a=some (.frz o (.dK kvs))/\kvs.length<=i⟩
theorem sX {P:Program}{w:World}{k:bo}{u:Value}(h:(aO P w).is k u=true):RelV (kV k) u:=by
 rcases @be k u h with⟨i,t,rfl,rfl⟩|⟨x,t,rfl,rfl⟩
 ·exact⟨t,rfl⟩
 ·exact⟨t,rfl⟩
theorem mS {P:Program}{w:World}{K:PySem.W.Frag}{tg:Expr}(a it:Addr)(o:Obj){es:Array DictEntry}{ep:Nat}(kvs:List (bo×V))(hd:o.data=.dict es ep):mr P w K tg (uM a o kvs) [it] it (fun i h=>h.IsKeyIter it a i kvs.length ep) where
 mem:=by simp
 obj:=fun i h st b hb=>by
  have e:b=it:=by simpa using hb
  subst e
  obtain⟨o,e,c,d⟩:=st
  exact⟨o,e,fun v z=>by rw[d] at z;cases z⟩
 keep:=fun i h h' st k=>st.at fun o e=>k it (by simp) o e
 item:=by
  intro X hP hw hK hc i pins s σ H E I hf st hg
  subst hP hw hK
  obtain⟨ha,hi⟩:=hg
  obtain⟨ho,z,hsm,vs,rel,o',es',ep',q1,q2,q3,q4,q5,q6⟩:=(show ObjOk X.prog X.w H s.heap a (.frz o (.dK kvs)) from I.hok a _ ha)
  rw[ho] at q1;cases q1
  rw[hd] at q3;cases q3
  have hl:=rel.length
  have hi':i < vs.length:=by omega
  obtain⟨f0,f1,f2,f3,f4,f5⟩:=hf it (by simp)
  refine wpAny_pyNext_dict_item (knd:=aO X.prog X.w) (kvs:=vs) (k:=vs[i].1) (v:=vs[i].2) (by rw[← hl];exact st) ⟨o,es,ho,q2,hd,q4,q5,q6⟩ (List.getElem?_eq_getElem hi') fun key h' hkey st' sb=>?_
  have I1:Inv X pins σ H {s with heap:=h'}:=I.turned (t':=s.toks) (fun b o hb e=>(sb.2 b hb).trans e) f0 f1 f3 f4 f5
  rw[← hl] at st'
  obtain⟨oi,e,c,d⟩:=id st'
  refine⟨key,rfl,kR (s:={s with heap:=h'}) e c d (by decide) ⟨kV vs[i].1,H,I1,sX hkey,⟨rfl,kvs[i].1,kvs[i].2,List.getElem?_eq_getElem hi,?_⟩,st',fun b hb=>(hf b hb).1⟩⟩
  have hk:=rel.keys
  have e1:(kvs.map (·.1))[i]? =(vs.map (·.1))[i]?:=by rw[hk]
  rw[List.getElem?_map,List.getElem?_map,List.getElem?_eq_getElem hi,List.getElem?_eq_getElem hi'] at e1
  exact congrArg kV (Option.some.inj e1).symm
 done:=by
  intro X hP hw hK hc i pins s σ H E I hf st hg
  subst hP hw hK
  obtain⟨ha,hi⟩:=hg
  obtain⟨ho,z,hsm,vs,rel,o',es',ep',q1,q2,q3,q4,q5,q6⟩:=(show ObjOk X.prog X.w H s.heap a (.frz o (.dK kvs)) from I.hok a _ ha)
  rw[ho] at q1;cases q1
  rw[hd] at q3;cases q3
  have hl:=rel.length
  obtain⟨f0,f1,f2,f3,f4,f5⟩:=hf it (by simp)
  exact wpAny_pyNext_dict_end (knd:=aO X.prog X.w) (kvs:=vs) (I.ok.hd hc) (by rw[← hl];exact st) ⟨o,es,ho,q2,hd,q4,q5,q6⟩ (List.getElem?_eq_none (by omega)) fun h' eb=>⟨rfl,I.turned (t':=s.toks) (fun b o hb e=>eb b o hb e) f0 f1 f3 f4 f5⟩
 self:=fun _ _ _ _ _ st h=>wpAny_pyIter_keyiter st h
end
section
variable {X:Cx}{tg:Expr}
inductive uN (x:V)(H:Hp)(R:It->Hp->Prop):Prop
 |mk (a:Addr)(kvs:List (bo×V))(h:x=.ref a)(e:H a=some (.dK kvs))(r:∀ o,R (uM a o kvs) (upd H a (.frz o (.dK kvs)))):uN x H R
def uO (tl:TE):TI:=fun σ H R=>tl σ H fun x H1=>uN x H1 R
theorem qf {l:Expr}{tl:TE}(hl:PE X l tl):PI X tg l (uO tl):=by
 intro pins s σ H R I h
 refine bh (hl pins s σ H _ I h) fun v s1 ⟨x,H1,I1,r1,q1⟩=>?_
 obtain⟨a,kvs,e,hq,q⟩:=q1
 subst e
 cases r1
 obtain⟨o,ho,I2⟩:=I1.freeze hq
 obtain⟨z,hsm,vs,rel,o',es,ep,q1,q2,q3,q4,q5,q6⟩:=nB I1.hok hq
 rw[ho] at q1;cases q1
 refine wpAny_pyIter_dict (knd:=aO X.prog X.w) (kvs:=vs) (ep:=ep) hsm ⟨o,es,ho,q2,q3,q4,q5,q6⟩ ?_
 refine⟨s1.heap.objs.size,[s1.heap.objs.size],_,_,_,rfl,I2.kept (t':=s1.toks) fun b o e=>Heap.get?_push_of_some _ e,mS a _ o kvs q3,?_,fun b hb=>?_,q o⟩
 ·exact⟨_,Heap.get?_push_size _ rfl,rfl,by rw[rel.length];rfl⟩
 have e:b=s1.heap.objs.size:=by simpa using hb
 subst e
 exact I2.fpOk (Nat.le_refl _) (I2.hok.fresh (Nat.le_refl _))
def u8 (a:Addr)(Q:Hp->Prop)(H:Hp):Prop:=∃ o kvs H',H' a=some (.dK kvs)/\H=upd H' a (.frz o (.dK kvs))/\Q H'
def uP (ts:TS):TS:=fun D σ H=>∃ a kvs,H a=some (.dK kvs)/\ts {nx:=fun σ H=>u8 a (D.nx σ) H,rt:=fun v H=>u8 a (D.rt v) H,bk:=fun σ H=>u8 a (D.bk σ) H,ct:=fun σ H=>u8 a (D.ct σ) H} σ H
theorem qg {st:Stmt}{ts:TS}(h:PS X st ts):PS X st (uP ts):=by
 intro pins s σ H D I ⟨a,kvs,e,q⟩
 have nf:=I.nofrz e fun _ _ z=>by cases z
 refine bh (h pins s σ H _ I q) fun f s1 r=>?_
 cases f with
 |next=>obtain⟨σ1,H1,I1,o,kvs',H2,e2,rfl,q2⟩:=r;exact⟨σ1,H2,I1.thaw nf e2,q2⟩
 |cont=>obtain⟨σ1,H1,I1,o,kvs',H2,e2,rfl,q2⟩:=r;exact⟨σ1,H2,I1.thaw nf e2,q2⟩
 |brk=>obtain⟨σ1,H1,I1,o,kvs',H2,e2,rfl,q2⟩:=r;exact⟨σ1,H2,I1.thaw nf e2,q2⟩
 |ret v=>obtain⟨x1,σ1,H1,I1,r1,o,kvs',H2,e2,rfl,q2⟩:=r;exact⟨x1,σ1,H2,I1.thaw nf e2,r1,q2⟩
theorem oa {a:Addr}{o:Obj}{kvs:List (bo×V)}{g:TG}{tb:TS}{D:fZ}{σ:St}{H:Hp}(Pv:Nat->St->Hp->Prop)(h0:Pv 0 σ H)(hl:∀ i σ H,i<=kvs.length->Pv i σ H->H a=some (.frz o (.dK kvs)))
  (hs:∀ i k v σ H,kvs[i]? =some (k,v)->Pv i σ H->g (kV k) σ H fun σ2 H2=>tb {D with nx:=Pv (i+1),ct:=Pv (i+1),bk:=D.nx} σ2 H2) (hd:∀ σ H,Pv kvs.length σ H->D.nx σ H):
  ∃ W:Nat->Nat->St->Hp->Prop,(∃ m,W 0 m σ H)/\∀ i m σ H,W i m σ H->
   ((uM a o kvs).stop i H/\D.nx σ H)\/((uM a o kvs).go i H/\∃ N:St->Hp->Prop,(∀ σ' H',N σ' H'->∃ m',m' < m/\W (i+1) m' σ' H')/\∀ x H',(uM a o kvs).yld i H x H'->g x σ H' fun σ2 H2=>tb {D with nx:=N,ct:=N,bk:=D.nx} σ2 H2):=by
 refine⟨fun i m σ H=>m=kvs.length - i/\i<=kvs.length/\Pv i σ H,⟨kvs.length,by simp,Nat.zero_le _,h0⟩,?_⟩
 rintro i m σ H ⟨rfl,hi,p⟩
 have q:=hl i σ H hi p
 by_cases hlt:i < kvs.length
 ·refine .inr ⟨⟨q,hlt⟩,Pv (i+1),fun σ' H' p'=>⟨kvs.length - (i+1),by omega,rfl,hlt,p'⟩,fun x H' y=>?_⟩
  obtain⟨e,k,v,hk,rfl⟩:=y
  subst e
  exact hs i k v σ _ hk p
 ·have e:i=kvs.length:=by omega
  subst e
  exact .inl ⟨⟨q,Nat.le_refl _⟩,hd σ H p⟩
end
end L2
namespace L2
open PySem
section
variable {K:PySem.W.Frag}{a D:Addr}{xs:List V}{g:TG}{tt:TT}{te:TE}{σ0:St}{H1:Hp}{Q:VK}
end
end L2
namespace L2
open PySem PySem.Spec PyProof.Rows
def uQ:V->Hp->VK->Prop:=fun x H Q=>∃ n:Nat,x=.int (n:Int)/\n<=1000/\∀ l:Addr,H l=none->Q (.ref l) (upd H l (.lst ((List.range n).map fun i:Nat=>V.int (i:Int))))
section
variable {X:Cx}
theorem hU (k:Nat):∀ (us:List Value),(∀ (j:Nat) (v:Value),us[j]? =some v->∃ t,v=Value.int ((k+j:Nat):Int) t)->Vals ((List.range' k us.length).map fun i:Nat=>V.int (i:Int)) us
 |[],_=>.nil
 |u::us,h=>by
  refine .cons (h 0 u rfl) ?_
  have h2:=hU (k+1) us fun j v hv=>by
   obtain⟨t,e⟩:=h (j+1) v hv
   exact⟨t,by rw[e];congr 2;omega⟩
  exact h2
theorem ka {us:List Value}{n:Nat}(hl:us.length=n)(h:∀ (j:Nat) (v:Value),us[j]? =some v->∃ t,v=Value.int (0+(j:Int)*1) t):Vals ((List.range n).map fun i:Nat=>V.int (i:Int)) us:=by
 subst hl
 rw[List.range_eq_range']
 exact hU 0 us fun j v hv=>by
  obtain⟨t,e⟩:=h j v hv
  exact⟨t,by rw[e];congr 1;omega⟩
theorem hV {e:Expr}{te:TE}{p1 p2 q1 q2:Pos}(hc:X.calm=true)(hg1:Gl X "list")(hm1:X.mg "list"=none)(hg2:Gl X "range")(hm2:X.mg "range"=none)(he:PE X e te)
  (hs:starEach [e] X.env=[(false,eval e X.env)]:=by rfl) (hs2:starEach [.Call (.Name "range" p2) [e] [] q2] X.env=[(false,eval (.Call (.Name "range" p2) [e] [] q2) X.env)]:=by rfl):
  PE X (.Call (.Name "list" p1) [.Call (.Name "range" p2) [e] [] q2] [] q1) (fun σ H Q=>te σ H fun x H1=>uQ x H1 Q):=by
 intro pins s σ H Q I h
 refine wpAny_Call_Name_kw (cK I hg1 hm1 boot_list ?_)
 refine PyProof.Rows.callWith_type1 ?_ hs2 rfl
 rw[hs2]
 show wpAny _ _ (spliced ((false,eval (.Call (.Name "range" p2) [e] [] q2) X.env)::backTo q1 (starEach [] X.env))) _ _ s
 refine Calls.spliced_cons (wpAny_Call_Name_kw (cK I hg2 hm2 boot_range ?_))
 refine PyProof.Rows.callWith_type1 (bh (aa he (ad (X:=X)) (by rw[hs];rfl) q2 pins s σ H (nS fun x H1=>uQ x H1 Q) I h) fun us s1 ⟨vs,H1,I1,r1,q1'⟩=>?_) hs rfl
 obtain⟨x,e1,n,rfl,hn,q⟩:=eN q1'
 subst e1
 obtain⟨u,rfl,ru⟩:=cL r1
 obtain⟨t,rfl⟩:=ru
 refine call_range_1 (Calls.spliced_nil ?_)
 have I2:Inv X pins σ H1 {s1 with heap:=s1.heap.push {cls:=.type "range",data:=.fields #[.int 0 s1.toks,.int (n:Int) t,.int 1 (s1.toks+1)]},toks:=s1.toks+1+1}:=I1.kept fun b o e=>Heap.get?_push_of_some _ e
 refine call_list_range (n:=n) (I1.ok.hd hc) (IsRange.new ..) (small_one (by omega) (by omega) (by omega) (by omega)) (by rw[rangeSize_one];split<;>omega) (by omega) fun h' tk acc c hk hS hacc=>?_
 have hl:acc.toList.length=n:=by rw[Array.length_toList];exact hacc.1
 have rv:Vals ((List.range n).map fun i:Nat=>V.int (i:Int)) acc.toList:=ka hl fun j v hv=>hacc.2 j v (by simpa using hv)
 have hz:((List.range n).map fun i:Nat=>V.int (i:Int)).length<=sizeLine:=by
  rw[List.length_map,List.length_range]
  exact Nat.le_of_lt (av hn)
 refine⟨.ref _,_,I2.laid (t':=tk) hk (Nat.le_refl _) (show ObjOk X.prog X.w _ h' _ (.lst _) from ⟨hz,acc.toList,c,rv,by simpa using hS⟩),rfl,q _ (I2.hok.fresh (Nat.le_refl _))⟩
end
end L2
namespace L2
open PySem
def TupAt (H:Hp)(zs:List V)(y:V):Prop:=∃ p,y=.ref p/\H p=some (.tup zs)
theorem TupAt.mono {H H':Hp}{zs:List V}{y:V}(h:TupAt H zs y)(k:Same H H'):TupAt H' zs y:=let ⟨p,e,g⟩:=h;⟨p,e,k _ _ g⟩
theorem TupAt.upd {H:Hp}{zs:List V}{y:V}{D:Addr}{ys:List V}{o:HO}(h:TupAt H zs y)(hD:H D=some (.lst ys)):TupAt (upd H D o) zs y:=by
 obtain⟨p,e,g⟩:=h
 exact⟨p,e,by rw[ap (fun z=>by rw[z,hD] at g;cases g)];exact g⟩
inductive jx (rest:St)(H1:Hp)(D:Addr)(P:List V->Prop)(i:Nat)(σ:St)(ys:List V)(H2:Hp):Prop
 |mk (v0:Option V)(h0:σ=v0::rest)(h1:ys.length=i)(h2:H2 D=some (.lst ys))(h3:Same H1 H2)(h4:∀ y∈ys,∃ zs,P zs/\TupAt H2 zs y):jx rest H1 D P i σ ys H2
section
variable {K:PySem.W.Frag}{a D:Addr}{xs:List V}{tt:TT}{te:TE}{σ0:St}{H1:Hp}{Q:VK}
theorem hW {rest:St}{P:List V->Prop}{i:Nat}{v0:Option V}{ys zs:List V}{H2:Hp}{p:Addr}(hD:H1 D=none)(hP:P zs)(J:jx rest H1 D P i (v0::rest) ys H2)(hp:H2 p=none)(hi:i<=900):
  upd H2 p (.tup zs) D=some (.lst ys)/\ys.length < sizeLine/\jx rest H1 D P (i+1) (v0::rest) (ys++[.ref p]) (upd (upd H2 p (.tup zs)) D (.lst (ys++[.ref p]))):=by
 obtain⟨_,_,h1,h2,h3,h4⟩:=J
 have k:=af hp (.tup zs)
 have h2':=k _ _ h2
 refine⟨h2',av (by omega),_,rfl,by rw[List.length_append,h1];rfl,ac,(h3.trans k).upd_new hD _,fun y hy=>?_⟩
 rcases List.mem_append.mp hy with z|z
 ·obtain⟨zs',g1,g2⟩:=h4 y z
  exact⟨zs',g1,(g2.mono k).upd h2'⟩
 ·rw[List.mem_singleton.mp z]
  exact⟨zs,hP,TupAt.upd ⟨p,rfl,ac⟩ h2'⟩
theorem d8 (rest:St)(P:List V->Prop)(f:V->List V)(e0:σ0=none::rest)(ha:H1 a=some (.lst xs))(hD:H1 D=none)(hlen:xs.length<=900)(hP:∀ x∈xs,P (f x))
  (he:∀ x∈xs,∀ (H':Hp) (R:VK),Same H1 H'->(∀ p,H' p=none->R (.ref p) (upd H' p (.tup (f x))))->te (some x::rest) H' R)
  (hq:∀ (ys:List V) (H':Hp),Same H1 H'->H' D=some (.lst ys)->ys.length=xs.length->(∀ y∈ys,∃ zs,P zs/\TupAt H' zs y)->Q (.ref D) H'):fJ (qR K a) D (fE 0) uz te σ0 H1 Q:=by
 have na:a≠D:=aq ha hD
 refine cJ (K:=K) (a:=a) (xs:=xs) (jx rest H1 D P) ⟨none,e0,rfl,ac,af hD _,fun _ z=>nomatch z⟩ ?_ ?_ ?_
 ·rintro i σ ys H2 _ ⟨_,_,_,h2,h3,_⟩
  exact⟨h2,SqL.of (h3 _ _ ha)⟩
 ·rintro i x σ ys H2 hx ⟨v0,rfl,h1,h2,h3,h4⟩
  have hm:=List.mem_of_getElem? hx
  have hil:i < xs.length:=(List.getElem?_eq_some_iff.mp hx).1
  exact eL (he x hm _ _ h3 fun p hp=>hW hD (hP x hm) ⟨_,rfl,h1,h2,h3,h4⟩ hp (by omega))
 ·rintro σ ys H2 ⟨_,_,h1,h2,h3,h4⟩
  exact hq ys H2 h3 h2 h1 h4
theorem kb (rest:St)(P:List V->Prop)(f:V->List V)(e0:σ0=none::rest)(ha:H1 a=some (.tup xs))(hD:H1 D=none)(hlen:xs.length<=900)(hP:∀ x∈xs,P (f x))
  (he:∀ x∈xs,∀ (H':Hp) (R:VK),Same H1 H'->(∀ p,H' p=none->R (.ref p) (upd H' p (.tup (f x))))->te (some x::rest) H' R)
  (hq:∀ (ys:List V) (H':Hp),Same H1 H'->H' D=some (.lst ys)->ys.length=xs.length->(∀ y∈ys,∃ zs,P zs/\TupAt H' zs y)->Q (.ref D) H'):fJ (qS K a) D (fE 0) uz te σ0 H1 Q:=by
 have na:a≠D:=aq ha hD
 refine ji (K:=K) (a:=a) (xs:=xs) (jx rest H1 D P) ⟨none,e0,rfl,ac,af hD _,fun _ z=>nomatch z⟩ ?_ ?_ ?_
 ·rintro i σ ys H2 _ ⟨_,_,_,h2,h3,_⟩
  exact⟨h2,SqT.of (h3 _ _ ha)⟩
 ·rintro i x σ ys H2 hx ⟨v0,rfl,h1,h2,h3,h4⟩
  have hm:=List.mem_of_getElem? hx
  have hil:i < xs.length:=(List.getElem?_eq_some_iff.mp hx).1
  exact eL (he x hm _ _ h3 fun p hp=>hW hD (hP x hm) ⟨_,rfl,h1,h2,h3,h4⟩ hp (by omega))
 ·rintro σ ys H2 ⟨_,_,h1,h2,h3,h4⟩
  exact hq ys H2 h3 h2 h1 h4
end
end L2
namespace L2
open PySem PySem.Spec PyProof.Rows
section
variable {X:Cx}{pos:Pos}{k v k' v':Expr}{tk tv tk' tv':TE}
end
end L2
namespace KX
open PySem PyProof.Rows
abbrev ltB (kf:Nat->Int):Nat->Nat->Bool:=fun i j=>decide (kf i < kf j)
section
variable {prog:Program}{w:World}{A:Around}{R:Result->Shared->Prop}{I:Addr}{fp wr:List Addr}{n:Nat}{P:Nat->Value->Prop}{St:Nat->Heap->Prop}
theorem uR (W:Walks prog w A.in1 I fp wr n P St)(kf:Nat->Int)(OK:Heap->Prop)(S:Addr)(hSf:S∉fp)
  (hok:∀ h h':Heap,OK h->(∀ b o,b∉wr->b≠S->h.get? b=some o->h'.get? b=some o)->OK h')
  (hlen:∀ (i:Nat) (v:Value) (s:Shared) (Q E:Value->Shared->Prop),P i v->OK s.heap->(∀ t tk,Q (.int (kf i) t) {s with toks:=tk})->wpAny (model prog w) A.in1 (call (.builtin "len") [v]) Q E s):
  ∀ (k j:Nat) (s:Shared) (vb:Value) (tb:Tok) (c:Nat),n - (j+1)=k->j+1<=n->St (j+1) s.heap->OK s.heap->P (argBest (ltB kf) j) vb->
  s.heap.get? S=some {cls:=.type "list",dict:=none,data:=.seq #[vb,.int (kf (argBest (ltB kf) j)) tb] c,slots:=#[]}->
  (∀ v h' tk,P (argBest (ltB kf) (n - 1)) v->(∀ b o,b∉wr->b≠S->s.heap.get? b=some o->h'.get? b=some o)->R (.ok (.ret v)) {s with heap:=h',toks:=tk})->
  codeAny (model prog w) A (.builtin "min.loop" ⟨[.ref I,.builtin "len",.ref S],[]⟩) R s:=by
 have hSw:S∉wr:=fun h=>hSf (W.sub _ h)
 have hname:(toString "min"++toString ".loop":String)="min.loop":=by decide
 intro k
 induction k with
 |zero=>
  intro j s vb tb c hk hj hst _ hPb hS hR
  have hin:j+1=n:=by omega
  refine codeAny_builtin PySem.F.entry_min_loop ?_
  rw[Around.under_plainId PySem.F.plain_min_loop _]
  show wpAny _ A.in1 (seqItems? (.ref S) >>=_) _ _ s
  refine wpAny_bind (wpAny_seqItems hS rfl ?_)
  show wpAny _ A.in1 (tryCatch (pyNext (.ref I)) _ >>=_) _ _ s
  refine wpAny_bind (wpAny_tryCatch (W.done s _ _ (hin▸hst) fun h' tk hk'=>?_))
  have hS':=hk' S _ hSw hS
  show wpAny _ A.in1 (updateSeq S (fun _=>#[]) >>=_) _ _ _
  refine wpAny_bind ?_
  refine wpAny_updateSeq hS' rfl (wpAny_bind (wpAny_letGo (wpAny_pure ?_)))
  refine hR vb _ tk (by rw[← hin];exact hPb) fun b o hbw hbS e=>(Heap.get?_update_other _ _ (Ne.symm hbS)).trans (hk' b o hbw e)
 |succ k ih=>
  intro j s vb tb c hk hj hst hOK hPb hS hR
  have hlt:j+1 < n:=by omega
  refine codeAny_builtin PySem.F.entry_min_loop ?_
  rw[Around.under_plainId PySem.F.plain_min_loop _]
  show wpAny _ A.in1 (seqItems? (.ref S) >>=_) _ _ s
  refine wpAny_bind (wpAny_seqItems hS rfl ?_)
  show wpAny _ A.in1 (tryCatch (pyNext (.ref I)) _ >>=_) _ _ s
  refine wpAny_bind (wpAny_tryCatch (W.item (j+1) s _ _ hlt hst fun v h' tk hP hst' hk'=>?_))
  have hS':=hk' S _ hSw hS
  have hOK':OK h':=hok _ _ hOK fun b o hb _ e=>hk' b o hb e
  show wpAny _ A.in1 (tryCatch (holding [v] (call (.builtin "len") [v])) _ >>=_) _ _ _
  refine wpAny_bind (wpAny_tryCatch (wpAny_holding (hlen (j+1) v _ _ _ hP hOK' fun t2 tk2=>?_)))
  show wpAny _ A.in1 (tryCatch (holding [v,.int (kf (j+1)) t2] (richCompare .Lt (.int (kf (j+1)) t2) (.int (kf (argBest (ltB kf) j)) tb) >>=_)) _ >>=_) _ _ _
  refine wpAny_bind (wpAny_tryCatch (wpAny_holding (wpAny_bind (CmpOf.ints_lt (prog:=prog) (w:=w) (A:=A.in1) (P:=fun i v=>∃ t,v=.int (kf i) t) kf (fun i v h=>h) (j+1) (argBest (ltB kf) j) _ _ _ _ _ ⟨t2,rfl⟩ ⟨tb,rfl⟩ ?_))))
  refine wpAny_bind (wpAny_holding (wpAny_truthy_bool ?_))
  refine wpAny_bind (wpAny_letGo (wpAny_pure ?_))
  by_cases hb:kf (j+1) < kf (argBest (ltB kf) j)
  ·have eb:argBest (ltB kf) (j+1)=j+1:=by simp [argBest,hb]
   simp only [hb,decide_true,if_true]
   refine wpAny_bind ?_
   refine wpAny_updateSeq hS' rfl (wpAny_bind (wpAny_letGo ?_))
   rw[hname]
   refine wpAny_pure ⟨plainId_quiet PySem.F.plain_min_loop _,ih (j+1) _ v t2 _ (by omega) hlt (W.frame _ _ _ hst' fun b hbf o e=>?_) (hok _ _ hOK' fun b o _ hbS e=>(Heap.get?_update_other _ _ (Ne.symm hbS)).trans e) (by rw[eb];exact hP) (by rw[eb];exact Heap.get?_update_self _ hS' rfl)
    fun v' h'' tk'' hP' hk''=>?_⟩
   ·exact (Heap.get?_update_other _ _ (fun h:S=b=>hSf (by rw[h];exact hbf))).trans e
   ·exact hR v' h'' tk'' hP' fun b o hbw hbS e=>hk'' b o hbw hbS ((Heap.get?_update_other _ _ (Ne.symm hbS)).trans (hk' b o hbw e))
  ·have eb:argBest (ltB kf) (j+1)=argBest (ltB kf) j:=by simp [argBest,hb]
   simp only [hb,decide_false,Bool.false_eq_true,if_false]
   refine wpAny_bind (wpAny_letGo ?_)
   rw[hname]
   refine wpAny_pure ⟨plainId_quiet PySem.F.plain_min_loop _,ih (j+1) _ vb tb c (by omega) hlt hst' hOK' (by rw[eb];exact hPb) (by rw[eb];exact hS') fun v' h'' tk'' hP' hk''=>?_⟩
   exact hR v' h'' tk'' hP' fun b o hbw hbS e=>hk'' b o hbw hbS (hk' b o hbw e)
theorem sY (W:Walks prog w A.in1 I fp wr n P St)(kf:Nat->Int)(OK:Heap->Prop)(S:Addr)(hSf:S∉fp)
  (hok:∀ h h':Heap,OK h->(∀ b o,b∉wr->b≠S->h.get? b=some o->h'.get? b=some o)->OK h')
  (hlen:∀ (i:Nat) (v:Value) (s:Shared) (Q E:Value->Shared->Prop),P i v->OK s.heap->(∀ t tk,Q (.int (kf i) t) {s with toks:=tk})->wpAny (model prog w) A.in1 (call (.builtin "len") [v]) Q E s)
  {s:Shared} {c:Nat} (hn:0 < n) (hst:St 0 s.heap) (hOK:OK s.heap)
  (hS:s.heap.get? S=some {cls:=.type "list",dict:=none,data:=.seq #[] c,slots:=#[]})
  (hR:∀ v h' tk,P (argBest (ltB kf) (n - 1)) v->(∀ b o,b∉wr->b≠S->s.heap.get? b=some o->h'.get? b=some o)->R (.ok (.ret v)) {s with heap:=h',toks:=tk}):
  codeAny (model prog w) A (.builtin "min.loop" ⟨[.ref I,.builtin "len",.ref S],[]⟩) R s:=by
 have hSw:S∉wr:=fun h=>hSf (W.sub _ h)
 have hname:(toString "min"++toString ".loop":String)="min.loop":=by decide
 refine codeAny_builtin PySem.F.entry_min_loop ?_
 rw[Around.under_plainId PySem.F.plain_min_loop _]
 show wpAny _ A.in1 (seqItems? (.ref S) >>=_) _ _ s
 refine wpAny_bind (wpAny_seqItems hS rfl ?_)
 show wpAny _ A.in1 (tryCatch (pyNext (.ref I)) _ >>=_) _ _ s
 refine wpAny_bind (wpAny_tryCatch (W.item 0 s _ _ hn hst fun v h' tk hP hst' hk'=>?_))
 have hS':=hk' S _ hSw hS
 have hOK':OK h':=hok _ _ hOK fun b o hb _ e=>hk' b o hb e
 show wpAny _ A.in1 (tryCatch (holding [v] (call (.builtin "len") [v])) _ >>=_) _ _ _
 refine wpAny_bind (wpAny_tryCatch (wpAny_holding (hlen 0 v _ _ _ hP hOK' fun t2 tk2=>?_)))
 show wpAny _ A.in1 (updateSeq S (fun _=>#[v,.int (kf 0) t2]) >>=_) _ _ _
 refine wpAny_bind ?_
 refine wpAny_updateSeq hS' rfl ?_
 rw[hname]
 refine wpAny_pure ⟨plainId_quiet PySem.F.plain_min_loop _,uR W kf OK S hSf hok hlen _ 0 _ v t2 _ rfl hn (W.frame _ _ _ hst' fun b hbf o e=>?_) (hok _ _ hOK' fun b o _ hbS e=>(Heap.get?_update_other _ _ (Ne.symm hbS)).trans e) hP (Heap.get?_update_self _ hS' rfl) fun v' h'' tk'' hP' hk''=>?_⟩
 ·exact (Heap.get?_update_other _ _ (fun h:S=b=>hSf (by rw[h];exact hbf))).trans e
 ·exact hR v' h'' tk'' hP' fun b o hbw hbS e=>hk'' b o hbw hbS ((Heap.get?_update_other _ _ (Ne.symm hbS)).trans (hk' b o hbw e))
end
section
variable {prog:Program}{w:World}{A:Around}{E:Value->Shared->Prop}{s:Shared}
theorem min_len {l:Addr}{vs:Array Value}(kf:Nat->Int)(OK:Heap->Prop){Q:Value->Shared->Prop}(hh:A.handled=none)(hl:s.heap.IsList l vs)(hn:0 < vs.size)(hOK:OK s.heap)
  (hok:∀ h h':Heap,OK h->(∀ b o,b < s.heap.objs.size->h.get? b=some o->h'.get? b=some o)->OK h')
  (hlen:∀ (i:Nat) (v:Value) (s:Shared) (Q E:Value->Shared->Prop),vs[i]? =some v->OK s.heap->(∀ t tk,Q (.int (kf i) t) {s with toks:=tk})->wpAny (model prog w) A.in1 (call (.builtin "len") [v]) Q E s)
  (h:∀ v h' tk,vs[argBest (ltB kf) (vs.size - 1)]? =some v->(∀ b o,s.heap.get? b=some o->h'.get? b=some o)->Q v {s with heap:=h',toks:=tk}):
  wpAny (model prog w) A (call (.builtin "min") [.ref l] [(Str.ofString "key",.builtin "len")]) Q E s:=by
 have hname:(toString "min"++toString ".loop":String)="min.loop":=by decide
 obtain⟨ol,hol,hol2⟩:=id hl
 have hll:l < s.heap.objs.size:=Heap.lt_size hol
 refine kmk_tree PySem.F.kind_min PySem.F.plain_min PySem.F.entry_min (kmk_min_key _ _) ?_
 show wpAny _ A.in1 (Builtin.Builtins.bindParams "min" ["key","default"] 0 ⟨[],[(Str.ofString "key",.builtin "len")]⟩ >>=_) _ _ s
 refine wpAny_bind (wpAny_of_eq (show Builtin.Builtins.bindParams "min" ["key","default"] 0 ⟨[],[(Str.ofString "key",.builtin "len")]⟩=pure [some (.builtin "len"),none] from rfl) ?_)
 refine wpAny_bind (wpAny_pure ?_)
 refine wpAny_bind (wpAny_pyIter_list hl ?_)
 refine wpAny_bind (wpAny_newList ?_ (Nat.zero_le _))
 rw[hname]
 have hS:(s.heap.push {cls:=.type "list_iterator",data:=.fields #[.ref l,.int 0 0]}).objs.size=s.heap.objs.size+1:=size_push' ..
 have hlI:l≠s.heap.objs.size:=Nat.ne_of_lt hll
 have W:=Walks.list (prog:=prog) (w:=w) (A:=A.in1) hh s.heap.objs.size l hlI vs
 have kp:∀ b o,s.heap.get? b=some o->((s.heap.push {cls:=.type "list_iterator",data:=.fields #[.ref l,.int 0 0]}).push (seqObj "list" #[] 0)).get? b=some o:=fun b o e=>Heap.get?_push_of_some _ (Heap.get?_push_of_some _ e)
 refine wpAny_pure ⟨plainId_quiet PySem.F.plain_min_loop _,sY W kf OK _ (fun hm=>?_) (fun h1 h2 ok1 k=>hok h1 h2 ok1 fun b o hb e=>k b o (fun z=>?_) (fun z=>?_) e) hlen hn ⟨⟨_,Heap.get?_push_of_some _ (Heap.get?_push_size _ rfl),rfl,rfl⟩,?_⟩ (hok _ _ hOK fun b o _ e=>kp b o e) (Heap.get?_push_size _ rfl) fun v h' tk hv hk=>?_⟩
 ·have hm':=List.mem_cons.mp hm
  rw[hS] at hm'
  rcases hm' with z|z
  ·exact absurd z (Nat.succ_ne_self _)
  ·exact absurd (List.mem_singleton.mp z) (Nat.ne_of_gt (Nat.lt_succ_of_lt hll))
 ·exact Nat.ne_of_lt hb (List.mem_singleton.mp z)
 ·rw[hS] at z
  exact Nat.ne_of_lt (Nat.lt_succ_of_lt hb) z
 ·exact⟨ol,kp _ _ hol,hol2⟩
 ·refine h v h' tk hv fun b o e=>hk b o (fun z=>?_) (fun z=>?_) (kp b o e)
  ·exact Nat.ne_of_lt (Heap.lt_size e) (List.mem_singleton.mp z)
  ·rw[hS] at z
   exact Nat.ne_of_lt (Nat.lt_succ_of_lt (Heap.lt_size e)) z
end
end KX
namespace L2
open PySem PySem.Spec PyProof.Rows
def qh (ns:List Nat):Nat:=argBest (KX.ltB fun i=>((ns.getD i 0:Nat):Int)) (ns.length - 1)
theorem li {ns:List Nat}(h:ns≠[]):qh ns < ns.length/\∀ j,j < ns.length->ns.getD (qh ns) 0<=ns.getD j 0:=by
 obtain⟨h1,h2⟩:=argBest_lt (fun i=>((ns.getD i 0:Nat):Int)) (ns.length - 1)
 have hl:=List.length_pos_iff.mpr h
 refine⟨Nat.lt_of_le_of_lt h1 (by omega),fun j hj=>?_⟩
 have:=h2 j (by omega)
 exact Int.ofNat_le.mp this
section
variable {X:Cx}
def sZ (K:PySem.W.Frag)(H:Hp)(as:List Addr)(ns:List Nat):Prop:=as.length=ns.length/\∀ (i:Nat) (a:Addr),as[i]? =some a->∃ l,SqL K H a l/\ns[i]? =some l.length
def q_ (K:PySem.W.Frag):V->Hp->VK->Prop:=fun x H Q=>∃ (p:Addr) (as:List Addr) (ns:List Nat),x=.ref p/\SqL K H p (as.map V.ref)/\ns≠[]/\sZ K H as ns/\∀ a:Addr,as[qh ns]? =some a->Q (.ref a) H
def uS (K:PySem.W.Frag)(te:TE):TE:=fun σ H Q=>te σ H fun x H1=>q_ K x H1 Q
theorem qi {e:Expr}{te:TE}{p1 p2 kp q1:Pos}(hc:X.calm=true)(hg1:Gl X "min")(hm1:X.mg "min"=none)(hg2:Gl X "len")(hm2:X.mg "len"=none)(he:PE X e te)
  (hs:starEach [e] X.env=[(false,eval e X.env)]:=by rfl):
  PE X (.Call (.Name "min" p1) [e] [⟨some "key",.Name "len" p2,kp⟩] q1) (uS X.K te):=by
 intro pins s σ H Q I h
 refine wpAny_Call_Name_kw (cK I hg1 hm1 PyProof.Rows.boot_min ?_)
 refine PyProof.Rows.callWith_kw (bh (aa he (ad (X:=X)) (by rw[hs];rfl) q1 pins s σ H (nS fun x H1=>q_ X.K x H1 Q) I h) fun us s1 ⟨vs,H1,I1,r1,q1'⟩=>?_) (by rw[hs];rfl) (by rw[hs];rfl) rfl rfl
 obtain⟨x,e1,p,as,ns,rfl,hq,hne,⟨hla,hL⟩,q⟩:=eN q1'
 subst e1
 obtain⟨u,rfl,ru⟩:=cL r1
 cases ru
 refine PyProof.Rows.kws_cons (cK I1 hg2 hm2 PySem.boot_len (PyProof.Rows.kws_nil ?_))
 show wpAny _ _ (call (.builtin "min") [.ref p] [(Str.ofString "key",.builtin "len")]) _ _ _
 obtain⟨its,rv,pl,hz⟩:=I1.list hq
 have hl63:=ff
 have hs24:sizeLine=16777216:=sizeLine_eq
 have lits:its.length=ns.length:=by rw[← rv.length,List.length_map,hla]
 have hnp:=List.length_pos_iff.mpr hne
 have at_:∀ {i:Nat} {v:Value},its.toArray[i]? =some v->∃ a,as[i]? =some a/\v=.ref a:=fun {i v} hv=>by
  have hv':its[i]? =some v:=by simpa using hv
  have hi:i < as.length:=by
   have:=(List.getElem?_eq_some_iff.mp hv').1
   omega
  obtain⟨u,hu,ru⟩:=rv.get (i:=i) (x:=V.ref as[i]) (by rw[List.getElem?_map,List.getElem?_eq_getElem hi];rfl)
  rw[hv'] at hu;cases hu
  exact⟨as[i],List.getElem?_eq_getElem hi,ru⟩
 refine KX.min_len (fun i=>((ns.getD i 0:Nat):Int)) (fun h=>∀ (i:Nat) (a:Addr),as[i]? =some a->∃ its':List Value,h.IsList a its'.toArray/\its'.length=ns.getD i 0/\its'.length<=sizeLine/\a < s1.heap.objs.size) (I1.ok.hd hc) pl.isList (by simp;omega) (fun i a ha=>?_) (fun h1 h2 ok1 k i a ha=>?_) (fun i v s' Q' E' hv ok1 hQ=>?_) fun v h' tk hv hk=>?_
 ·obtain⟨l,hl,hn⟩:=hL i a ha
  obtain⟨its',rv',pl',hz'⟩:=I1.list hl
  have hil:=pl'.isList
  obtain⟨o,ho,_⟩:=id hil
  exact⟨its',hil,by rw[List.getD_eq_getElem?_getD,hn,Option.getD_some,rv'.length],by rw[← rv'.length];exact hz',Heap.lt_size ho⟩
 ·obtain⟨its',hil,e1,e2,e3⟩:=ok1 i a ha
  obtain⟨o,ho,ho2⟩:=hil
  exact⟨its',⟨o,k a o e3 ho,ho2⟩,e1,e2,e3⟩
 ·obtain⟨a,ha,rfl⟩:=at_ hv
  obtain⟨its',hil,e1,e2,e3⟩:=ok1 i a ha
  refine Calls.call_len_list hil (by simp only [List.size_toArray];omega) ?_
  simp only [List.size_toArray,e1]
  exact hQ _ _
 ·obtain⟨a,ha,rfl⟩:=at_ hv
  have e:its.toArray.size - 1=ns.length - 1:=by simp [lits]
  rw[e] at ha
  exact⟨.ref a,H1,I1.kept hk,rfl,q a ha⟩
end
end L2
namespace OD
open PySem L2
theorem mem_behind {z:Int}{cs:List (List Int)}{k:List Int}:k∈aT z cs↔∃ c∈cs,z∉c/\k=c.filter fun o=>!decide (o=-z):=by
 unfold aT
 rw[List.mem_filterMap]
 constructor
 ·rintro⟨c,hc,e⟩
  unfold cp at e
  split at e
  ·cases e
  ·rename_i g
   exact⟨c,hc,fun m=>g (List.contains_iff_mem.mpr m),(Option.some.inj e).symm⟩
 ·rintro⟨c,hc,h,rfl⟩
  refine⟨c,hc,?_⟩
  unfold cp
  rw[if_neg fun g=>h (List.contains_iff_mem.mp g)]
section
variable {t:Str}{cs:List (List Int)}
theorem oe {i:Nat}{c:List Int}(h:c∈cs.take i++cs.drop (i+1)):c∈cs:=(List.mem_append.mp h).elim List.mem_of_mem_take List.mem_of_mem_drop
end
end OD
namespace L2
open PySem PySem.Spec PyProof.Rows
section
variable {K:PySem.W.Frag}{x qual:Str}{st:Stmt}{f:Addr}{fd:FuncData}{p q r s t:Str}
theorem c7 {P:List Value->Prop}{n:Nat}(h:∀ (x:Value) (us:List Value),us.length=n->P (x::us))(us:List Value)(e:us.length=n+1):P us:=by
 obtain⟨x,r,rfl⟩:=List.exists_cons_of_length_eq_add_one e
 exact h x r (Nat.succ.inj e)
theorem iC {P:List Value->Prop}(h:P [])(us:List Value)(e:us.length=0):P us:=by
 rw[List.length_eq_zero_iff.mp e]
 exact h
theorem Fun.b1 (F:Fun K x qual st f fd)(h:∀ kV doc pm an cdv ct u,bindArgs (PySem.W.fnOf x qual (cG st) (cn st) (ai st) .none kV doc pm an cdv ct) ⟨[u],[]⟩=pure [(p,u)]:=by intros;rfl):Binds K fd [p] []:=
 F.binds fun a b c d e f=>c7 fun u=>iC (h a b c d e f u)
theorem Fun.b2 (F:Fun K x qual st f fd)(h:∀ kV doc pm an cdv ct u v,bindArgs (PySem.W.fnOf x qual (cG st) (cn st) (ai st) .none kV doc pm an cdv ct) ⟨[u,v],[]⟩=pure [(p,u),(q,v)]:=by intros;rfl):Binds K fd [p,q] []:=
 F.binds fun a b c d e f=>c7 fun u=>c7 fun v=>iC (h a b c d e f u v)
theorem Fun.b3 (F:Fun K x qual st f fd)(h:∀ kV doc pm an cdv ct u v w,bindArgs (PySem.W.fnOf x qual (cG st) (cn st) (ai st) .none kV doc pm an cdv ct) ⟨[u,v,w],[]⟩=pure [(p,u),(q,v),(r,w)]:=by intros;rfl):Binds K fd [p,q,r] []:=
 F.binds fun a b c d e f=>c7 fun u=>c7 fun v=>c7 fun w=>iC (h a b c d e f u v w)
theorem Fun.b4 (F:Fun K x qual st f fd)(h:∀ kV doc pm an cdv ct u v w y,bindArgs (PySem.W.fnOf x qual (cG st) (cn st) (ai st) .none kV doc pm an cdv ct) ⟨[u,v,w,y],[]⟩=pure [(p,u),(q,v),(r,w),(s,y)]:=by intros;rfl):Binds K fd [p,q,r,s] []:=
 F.binds fun a b c d e f=>c7 fun u=>c7 fun v=>c7 fun w=>c7 fun y=>iC (h a b c d e f u v w y)
variable {h:Heap}{mg:Str->Option Value}{k:Nat}{ps:List Str}{sp:Sp}
theorem c8 (P:Program)(w:World)(base:Heap)(X:K.In h)(G:h.Ns mainGlobals mg)(a:PySem.W.nsIn K mainGlobals x=some (some (.ref f)))(F:Fun K x qual st f fd)(b:Binds K fd ps [])(ok:aY P w K mg base cu k f fd ps sp):Fn P w K mg base k x f fd ps sp:=⟨ok,b,F.kp,PySem.W.mg_of X G a⟩
end
end L2
namespace L2
open PySem PySem.Spec PyProof.Rows
end L2
namespace K63
open PySem L2 OD
def cW (i:Nat):Stmt:=PySem.Challenge.pw_oathduel_k63_next_and_all.main.body.getD i (.Pass ⟨0,0,0,0⟩)
abbrev og:Stmt:=cW 39
abbrev s0:Stmt:=cW 40
abbrev kd:Stmt:=cW 41
abbrev oh:Stmt:=cW 42
structure u9 (mg:Str->Option Value):Prop where
 len:mg "len"=none
 range:mg "range"=none
 tuple:mg "tuple"=none
 sorted:mg "sorted"=none
def cO (ns:List Int)(k:Int):Int:=ns.getD k.toNat 0
def oj (c k:Int)(b:Bool):Int:=if b=true then ((c*48271+k*69621+11) % 2147483629*((c*48271+k*69621+11) % 2147483629) % 2147483587)*((c*48271+k*69621+11) % 2147483629*((c*48271+k*69621+11) % 2147483629) % 2147483587) % 2147483563 else c
inductive rc (K:PySem.W.Frag)(vs:List V)(H:Hp)(Q:VK):Prop
 |mk (a:Addr)(ns:List Int)(k:Int)(h0:vs=[.ref a,.int k])(h1:SqL K H a (ns.map V.int))(h2:0<=k)(h3:Q (.int (cO ns k)) H):rc K vs H Q
def om (K:PySem.W.Frag):Sp:=fun vs H Q _=>rc K vs H Q
inductive uT (vs:List V)(H:Hp)(Q:VK):Prop
 |mk (c k:Int)(b:Bool)(h0:vs=[.int c,.int k,.bl b])(h1:Q (.int (oj c k b)) H):uT vs H Q
def re:Sp:=fun vs H Q _=>uT vs H Q
def oo (n:Int)(H:Hp)(Q:VK):Prop:=∀ (p:Addr) (ls:List Int) (H':Hp),Same H H'->H' p=some (.tup (ls.map V.int))->ClOk n ls->ls.length<=4->Q (.ref p) H'
def lj:Sp:=fun vs H Q _=>∃ c n:Int,vs=[.int c,.int n]/\0<=n/\n < 1000/\oo n H Q
inductive rf (K:PySem.W.Frag)(vs:List V)(H:Hp)(Q:VK):Prop
 |mk (a:Addr)(ns:List Int)(most:Int)(h0:vs=[.ref a,.int most])(h1:SqL K H a (ns.map V.int))(h2:ns.length<=63)(h3:0<=most)(h4:most < 20)(h5:∀ (p:Addr) (t:Str) (cs:List (List Int)) (H':Hp),Same H H'->RD H' (la t cs) (.ref p)->wb most t cs->(∀ c∈cs,c.length<=4)->Q (.ref p) H'):rf K vs H Q
def oq (K:PySem.W.Frag):Sp:=fun vs H Q _=>rf K vs H Q
def ot (s:Int):Int:=if s=0 then 1 else -1
def eT (ps:List (Int×Int)):List (Int×Int):=ps.map fun q=>(q.1,ot q.2)
theorem ou (ps:List (Int×Int))(k s:Int):eT (gK ps k s)=gK (eT ps) k (ot s):=by
 have e:((eT ps).any fun q=>decide (q.1=k))=(ps.any fun q=>decide (q.1=k)):=by
  unfold eT
  rw[List.any_map]
  rfl
 unfold gK
 rw[e]
 split
 ·unfold eT
  rw[List.map_map,List.map_map]
  refine List.map_congr_left fun q _=>?_
  show (fun q=>(q.1,ot q.2)) (if q.1=k then (q.1,s) else q)=if q.1=k then (q.1,ot s) else (q.1,ot q.2)
  split<;>rfl
 ·unfold eT
  rw[List.map_append]
  rfl
theorem mT (ps:List (Int×Int))(k:Int):dS (eT ps) k=(dS ps k).map ot:=by
 induction ps with
 |nil=>rfl
 |cons q r ih=>
  unfold eT at ih ⊢
  unfold dS at ih ⊢
  rw[List.map_cons,List.find?_cons,List.find?_cons]
  by_cases h:q.1=k
  ·simp [h]
  ·simp only [h,decide_false]
   exact ih
theorem hX (ps:List (Int×Int)):(eT ps).map (·.1)=ps.map (·.1):=by
 unfold eT
 rw[List.map_map]
 rfl
theorem ke (s:Int):ot s=1\/ot s=-1:=by
 unfold ot
 split
 ·exact .inl rfl
 ·exact .inr rfl
theorem s_ {r:Int}(h:r=0\/r=1):jT [V.int 1,V.int (-1)] r=some (.int (ot r)):=by
 rcases h with rfl|rfl<;>rfl
section
variable {P:Program}{w:World}{K:PySem.W.Frag}{mg:Str->Option Value}{base:Heap}
theorem tf:ay ["_law_script","_law_k"] ["_law_script","_law_k"] (ai og):=⟨rfl,rfl,rfl,by decide+kernel,rfl,by decide+kernel,by decide+kernel⟩
theorem qj {f:Addr}{fd:FuncData}(F:Fun K "_law_cell_at" "_law_cell_at" og f fd)(T:u9 mg):aY P w K mg base cu 1 f fd ["_law_script","_law_k"] (om K):=by
 refine F.ok tf (fun vs H Q E h=>?_) (fun cdv A outer s H vs Q E hr h=>?_)
 ·obtain⟨a,ns,k,rfl,_⟩:=h
  rfl
 obtain⟨a,ns,k,rfl,hS,h0,q⟩:=h
 refine⟨_,(ae (aH (am fF (pv 1) (ak aF rfl T.len PySem.boot_len (aa (pv 0) ad)) (ax _)) (ag (aj (az ar (pv 0) (pv 1) (fun _ _=>rfl)))) au)
  (ag (aj ah))),?_⟩
 refine⟨_,rfl,_,rfl,.ref a,_,rfl,.inl ⟨_,hS,rfl⟩,_,_,rfl,rfl,_,rfl,?_⟩
 refine cA (fun c=>?_) (fun c=>?_)
 ·have c':k < (((ns.map V.int).length:Nat):Int):=of_decide_eq_true c
  rw[List.length_map] at c'
  obtain⟨v,hv1,hv⟩:=nL (ns:=ns) h0 c'
  have e:cO ns k=v:=by
   unfold cO
   rw[List.getD_eq_getElem?_getD,hv1]
   rfl
  rw[e] at q
  exact⟨_,rfl,_,rfl,.inl ⟨a,_,k,.int v,rfl,rfl,hS,hv,q⟩⟩
 ·have c':¬ k < (((ns.map V.int).length:Nat):Int):=fun z=>c (decide_eq_true z)
  rw[List.length_map] at c'
  have e:cO ns k=0:=by
   unfold cO
   rw[List.getD_eq_getElem?_getD,List.getElem?_eq_none (by omega)]
   rfl
  rw[e] at q
  exact q
theorem rg:ay ["_law_cell","_law_k","_law_mixed","_law_number_here"] ["_law_cell","_law_k","_law_mixed"] (ai s0):=⟨rfl,rfl,rfl,by decide+kernel,rfl,by decide+kernel,by decide+kernel⟩
theorem ti {f:Addr}{fd:FuncData}(F:Fun K "_law_mix" "_law_mix" s0 f fd):aY P w K mg base cu 1 f fd ["_law_cell","_law_k","_law_mixed"] re:=by
 have sc:=rg
 refine F.ok rg (fun vs H Q E h=>?_) (fun cdv A outer s H vs Q E hr h=>?_)
 ·obtain⟨c,k,b,rfl,_⟩:=h
  rfl
 obtain⟨c,k,b,rfl,q⟩:=h
 refine⟨_,(ae (aH (bf (aK (pv 2))) (ag (aj (pv 0))) au)
  (ae (aC (i:=3) sc.nd rfl (Or.inl rfl) (aB cw (aB b0 (aB b0 (aB fe (pv 0) ah) (aB fe (pv 1) ah)) ah) ah))
  (ae (aC (i:=3) sc.nd rfl (Or.inl rfl) (aB cw (aB fe (pv 3) (pv 3)) ah))
  (ag (aj (aB cw (aB fe (pv 3) (pv 3)) ah)))))),?_⟩
 refine⟨_,rfl,_,rfl,?_⟩
 cases b with
 |false=>exact aI ⟨_,rfl,q⟩
 |true=>
  refine aA ?_
  unfold oj at q
  rw[if_pos rfl] at q
  refine⟨_,rfl,_,_,rfl,rfl,.inr ⟨by decide,by decide⟩,_,rfl,_,_,rfl,rfl,.inr ⟨by decide,by decide⟩,_,_,rfl,rfl,_,_,rfl,rfl,_,_,rfl,rfl,(by show (0:Int) < 2147483629;decide),?_⟩
  refine⟨_,rfl,_,rfl,_,_,rfl,rfl,.inl ⟨by omega,by omega⟩,_,_,rfl,rfl,(by show (0:Int) < 2147483587;decide),?_⟩
  exact⟨_,rfl,_,rfl,_,_,rfl,rfl,.inl ⟨by omega,by omega⟩,_,_,rfl,rfl,(by show (0:Int) < 2147483563;decide),q⟩
theorem lm:ay ["_law_number_here","_law_count","_law_signs","_law_size_here","_law_k"] ["_law_number_here","_law_count"] (ai kd):=⟨rfl,rfl,rfl,by decide+kernel,rfl,by decide+kernel,by decide+kernel⟩
inductive jy (n:Int)(d:Addr)(c:Int)(H:Hp)(i:Nat)(σ:List (Option V))(H2:Hp):Prop
 |mk (cc:Int)(ps:List (Int×Int))(jv:Option V)(i0:σ=[some (.int cc),some (.int n),some (.ref d),some (.int (c % 5)),jv])(i1:H2 d=some (.dK (dP ps)))(i2:Same H H2)(i3:DOk n (eT ps))(i4:(∀ z∈ps,z.2=0\/z.2=1))(i5:ps.length<=i):jy n d c H i σ H2
inductive jz (d:Addr)(ks:List Int)(ps:List (Int×Int))(D:Addr)(H3:Hp)(i:Nat)(σ:List (Option V))(ys:List V)(H4:Hp):Prop
 |mk (i0:(∃ v0,σ=[v0,some (.ref d)]))(i1:ys=((ks.take i).map fun k=>V.int (k*sR (eT ps) k)))(i2:H4 D=some (.lst ys))(i3:(∀ b o,b≠D->H3 b=some o->H4 b=some o)):jz d ks ps D H3 i σ ys H4
theorem ow {f:Addr}{fd:FuncData}(F:Fun K "_law_drawn" "_law_drawn" kd f fd)(T:u9 mg):aY P w K mg base cu 1 f fd ["_law_number_here","_law_count"] lj:=by
 have sc:=lm
 refine F.ok lm (fun vs H Q E h=>?_) (fun cdv A outer s H vs Q E hr h=>?_)
 ·obtain⟨c,n,rfl,_⟩:=h
  rfl
 obtain⟨c,n,rfl,n0,n1,q⟩:=h
 have hu:=hr.units
 have hu1:=uu hr
 refine⟨_,(ae (aC (i:=2) sc.nd rfl (Or.inr rfl) jd)
  (ae (aC (i:=3) sc.nd rfl (Or.inl rfl) (aB cw (pv 0) ah))
  (ae (aC (i:=0) sc.nd rfl (Or.inl rfl) (aB dn (pv 0) ah))
  (ae (bA PassesOwn.never rfl (gN rfl T.range (aa (pv 3) ad)) (ao (i:=4) sc.nd rfl (Or.inl rfl))
   (ag (aH (am i8 (pv 1) ah (ax _)) (ae (p6 hu1 (pv 2) (aB b0 ah (aB cw (pv 0) (pv 1))) (aB cw (aB dn (pv 0) (pv 1)) ah) rfl)
    (ag (aC (i:=0) sc.nd rfl (Or.inl rfl) (aB dn (pv 0) (aB fe ah (pv 1)))))) au)))
  (ag (aj (b6 bX rfl T.tuple PyProof.Rows.boot_tuple (aa (aP (NY:=["_law_variable","_law_signs"]) (idx:=[none,some 2]) rfl ⟨by with_unfolding_all rfl,(by with_unfolding_all exact⟨rfl,trivial⟩),fun _=>by rfl,by rfl,by rfl,by rfl,by decide⟩ (aS (ak (jn rfl) rfl T.sorted PyProof.Rows.boot_sorted (aa (pv 2) ad))) (fun _ _ _ _=>(ao (i:=0) (show List.Nodup (["_law_variable","_law_signs"]:List Str) by decide+kernel) rfl (Or.inl rfl))) (fun _ _ _ _=>bT) (fun _ _ _ _=>(aB fe (pv 0) (az (iy (K:=K) rfl) (cx (aa ah (aa (eE dq ah) ad))) (kX hu1 (pv 1) (pv 0) (fun _ _=>rfl)) (fun _ _=>rfl))))) ad)))))))),?_⟩
 intro d hd
 have c5:=Int.emod_nonneg c (show (5:Int)≠0 by decide)
 have c5':=Int.emod_lt_of_pos c (show (0:Int) < 5 by decide)
 refine⟨_,rfl,_,_,rfl,rfl,(by show (0:Int) < 5;decide),_,rfl,_,_,rfl,rfl,⟨by decide,by decide⟩,?_⟩
 refine⟨_,rfl,c % 5,rfl,(by omega),(by omega),gP (lo:=0) (n:=(c % 5).toNat)
  (jy n d c H)
  ⟨_,[],none,rfl,ac,af hd _,DOk.nil n,(fun _ z=>nomatch z),Nat.le_refl _⟩ ?_ ?_⟩
 ·rintro i σ H2 hi ⟨cc,ps,jv,rfl,hd2,k2,hok,h01,hl⟩
  refine⟨_,rfl,_,_,rfl,rfl,_,rfl,cA (fun g=>?_) (fun g=>?_)⟩
  ·have g':0 < n:=of_decide_eq_true g
   have m1:=Int.emod_nonneg cc (show n≠0 by omega)
   have m2:=Int.emod_lt_of_pos cc g'
   have s1:=Int.emod_nonneg (cc / n) (show (2:Int)≠0 by decide)
   have s2:=Int.emod_lt_of_pos (cc / n) (show (0:Int) < 2 by decide)
   refine⟨_,rfl,_,rfl,_,_,rfl,rfl,⟨g',by omega⟩,_,_,rfl,rfl,(by show (0:Int) < 2;decide),?_⟩
   refine⟨_,rfl,_,rfl,_,rfl,_,_,rfl,rfl,g',_,_,rfl,rfl,d,_,rfl,DPut.k (k:=Sum.inl (1+cc % n)) hd2 (by unfold dP;rw[List.length_map];exact av (by omega)),?_⟩
   refine⟨_,rfl,_,rfl,_,_,rfl,rfl,.inl ⟨by decide,by decide⟩,_,_,rfl,rfl,⟨by omega,by omega⟩,?_⟩
   obtain⟨o1,o2⟩:=hok.put (k:=1+cc % n) (s:=ot (cc / n % 2)) (by omega) (ke _)
   rw[← ou] at o1 o2
   have ml:∀ l:List (Int×Int),(eT l).length=l.length:=fun l=>List.length_map _
   rw[ml,ml] at o2
   refine⟨_,gK ps (1+cc % n) (cc / n % 2),_,rfl,?_,k2.upd_new hd _,o1,fun z hz=>?_,by omega⟩
   ·rw[ac]
    exact congrArg (fun z=>some (HO.dK z)) (sP _ _ _)
   ·unfold gK at hz
    split at hz
    ·obtain⟨y,hy,e⟩:=List.mem_map.mp hz
     split at e
     ·rw[← e]
      show cc / n % 2=0\/cc / n % 2=1
      omega
     ·rw[← e]
      exact h01 y hy
    ·rcases List.mem_append.mp hz with y|y
     ·exact h01 z y
     ·rw[List.mem_singleton.mp y]
      show cc / n % 2=0\/cc / n % 2=1
      omega
  ·exact⟨cc,ps,_,rfl,hd2,k2,hok,h01,by omega⟩
 ·rintro σ H2 ⟨cc,ps,jv,rfl,hd2,k2,hok,h01,hl⟩
  refine⟨_,rfl,d,dP ps,ps.map (·.1),rfl,hd2,p_ ps,by rw[List.length_map];omega,fun l ks hl' hperm hpw=>⟨l,rfl,⟨_,SqL.of ac⟩,fun D hD=>?_⟩⟩
  have hkl:ks.length=ps.length:=by rw[hperm.length_eq,List.length_map]
  have k3:=k2.upd_new (k2.free hl') (.lst (ks.map V.int))
  have hd3:upd H2 l (.lst (ks.map V.int)) d=some (.dK (dP ps)):=by rw[ap (aq hd2 hl')];exact hd2
  have hl3:upd H2 l (.lst (ks.map V.int)) l=some (.lst (ks.map V.int)):=ac
  generalize upd H2 l (.lst (ks.map V.int))=H3 at k3 hd3 hl3 hD
  refine cJ (K:=K) (a:=l) (xs:=ks.map V.int) (jz d ks ps D H3)
   ⟨⟨none,rfl⟩,rfl,ac,fun b o hb e=>by rw[ap hb];exact e⟩ ?_ ?_ ?_
  ·rintro i σ ys H4 _ ⟨_,_,h1,h2⟩
   exact⟨h1,SqL.of (h2 _ _ (aq hl3 hD) hl3)⟩
  ·rintro i x σ ys H4 hx ⟨⟨v0,rfl⟩,hys,h1,h2⟩
   obtain⟨k,rfl,hk⟩:=df hx
   have km:k∈ps.map (·.1):=hperm.mem_iff.mp (List.mem_of_getElem? hk)
   obtain⟨hlk,hsg⟩:=hok.look (k:=k) (by rw[hX];exact km)
   rw[mT] at hlk
   obtain⟨r,hr1,hr2⟩:=Option.map_eq_some_iff.mp hlk
   have hr01:r=0\/r=1:=by
    unfold dS at hr1
    obtain⟨y,hy1,hy2⟩:=Option.map_eq_some_iff.mp hr1
    rw[← hy2]
    exact h01 y (List.mem_of_find?_eq_some hy1)
   have hil:i < ks.length:=(List.getElem?_eq_some_iff.mp hk).1
   have hyl:ys.length<=60:=by
    rw[hys,List.length_map,List.length_take]
    omega
   have nd:d≠D:=aq hd3 hD
   refine eL ⟨_,rfl,_,rfl,(by show 2<=sizeLine;decide),fun e he=>?_⟩
   have hd5:upd H4 e (.lst [.int 1,.int (-1)]) d=some (.dK (dP ps)):=by rw[ap (aq (h2 _ _ nd hd3) he)];exact h2 _ _ nd hd3
   have hv:DGet (upd H4 e (.lst [.int 1,.int (-1)])) d (.int k) (some (.int r)):=by
    have z:=DGet.k (k:=Sum.inl k) hd5
    rw[sQ,hr1] at z
    exact z
   refine⟨_,rfl,_,rfl,d,_,rfl,hv,.inl ⟨e,_,r,_,rfl,rfl,SqL.of ac,s_ hr01,_,_,rfl,rfl,.inr ⟨?_,?_⟩,?_,av (by omega),⟨_,rfl⟩,?_,ac,fun b o hb eb=>?_⟩⟩
   ·rcases ke r with z|z<;>rw[z]<;>decide
   ·rcases ke r with z|z<;>rw[z]<;>decide
   ·rw[ap (aq h1 he)]
    exact h1
   ·rw[hys,List.take_add_one,hk,List.map_append,hr2]
    rfl
   ·have eb4:=h2 b o hb eb
    rw[ap hb,ap (aq eb4 he)]
    exact eb4
  ·rintro σ ys H4 ⟨_,hys,h1,h2⟩
   rw[List.length_map,List.take_of_length_le (Nat.le_refl _)] at hys
   have hys':ys=(ks.map fun k=>k*sR (eT ps) k).map V.int:=by rw[hys,List.map_map];rfl
   refine⟨D,ys,rfl,.inl ⟨SqL.of h1,fun t ht=>?_⟩⟩
   have nH:H D=none:=k3.free hD
   have k4:Same H H4:=fun b o e=>h2 b o (aq e nH) (k3 b o e)
   refine q t _ _ (k4.upd_new (k4.free ht) _) (by rw[ac,hys']) (hok.clause (by rw[hX];exact hperm) hpw) ?_
   rw[List.length_map]
   omega
end
end K63
namespace K63
open PySem L2 OD
theorem qk {ns:List Int}:(cy (ns.map V.int) (some 3) (some 15)).length<=12:=by
 unfold cy
 have e1:HT.sIx (ns.map V.int).length 0 (some 3)=min 3 (ns.map V.int).length:=HT.sIx_nat _ 0 3
 have e2:HT.sIx (ns.map V.int).length (ns.map V.int).length (some 15)=min 15 (ns.map V.int).length:=HT.sIx_nat _ _ 15
 rw[e1,e2,List.length_take,List.length_drop]
 omega
theorem ql {A B:TS}{D:fZ}{σ:St}{H:Hp}(h:∀ N:St->Hp->Prop,(∀ σ' H',B D σ' H'->N σ' H')->A {D with nx:=N} σ H):sf A B D σ H:=h (fun σ H=>B D σ H) (fun _ _ z=>z)
section
variable {P:Program}{w:World}{K:PySem.W.Frag}{mg:Str->Option Value}{base:Heap}
theorem ox:ay ["_law_script","_law_most","_law_first","_law_count","_law_turn","_law_odd","_law_clauses","_law_cell","_law_turns"] ["_law_script","_law_most"] (ai oh):=⟨rfl,rfl,rfl,by decide+kernel,rfl,by decide+kernel,by decide+kernel⟩
inductive hZ (a:Addr)(most:Int)(first:Int)(ns:List Int)(qa:Addr)(p2:Addr)(H:Hp)(r0:Int)(i:Nat)(σ:List (Option V))(H3:Hp):Prop
 |mk (xs:List V)(cs:List (List Int))(v7:Option V)(i0:σ=[some (.ref a),some (.int most),some (.int first),some (.int (first / 2 % (most+1))),some (.int (oj (cO ns 1) 1 (decide (V.int (first % 2)=V.int 1)))),some (.int (cO ns 2 / 7)),some (.ref qa),v7,none])(i1:H3 qa=some (.lst xs))(i2:H3 p2=some (.lst (cy (ns.map V.int) (some 3) (some 15))))(i3:CLs H3 cs xs)(i4:Same H H3)(i5:cs.length=i)(i6:∀ c∈cs,ClOk r0 c/\c.length<=4):hZ a most first ns qa p2 H r0 i σ H3
inductive h_ (r1:Int)(H3:Hp)(D:Addr)(i:Nat)(σ:List (Option V))(ys:List V)(H2:Hp):Prop
 |mk (i0:(∃ v0,σ=[v0,some (.int r1)]))(i1:(∃ ss:List Str,ys=ss.map V.str/\ss.length=i/\∀ s∈ss,gk s))(i2:H2=upd H3 D (.lst ys)):h_ r1 H3 D i σ ys H2
inductive fo (ns:List Int)(D2:Addr)(H:Hp)(qa:Addr)(xs:List V)(cs:List (List Int))(r0:Int)(i:Nat)(σ:List (Option V))(ys:List V)(H4:Hp):Prop
 |mk (i0:(∃ v0,σ=[v0,some (.int (cO ns 2 / 7))]))(i1:H4 D2=some (.lst ys))(i2:Same H H4)(i3:H4 qa=some (.lst xs))(i4:CLs H4 cs xs)(cs':List (List Int))(i5:cs'.length<=i)(i6:CLs H4 cs' ys)(i7:∀ c∈cs',ClOk r0 c/\c.length<=4):fo ns D2 H qa xs cs r0 i σ ys H4
theorem qm {f f1 f2 f3:Addr}{fd d1 d2 d3:FuncData}(F:Fun K "_law_sentence" "_law_sentence" oh f fd)(T:u9 mg)(G_law_cell_at:Fn P w K mg base 1 "_law_cell_at" f1 d1 ["_law_script","_law_k"] (om K))(G_law_mix:Fn P w K mg base 1 "_law_mix" f2 d2 ["_law_cell","_law_k","_law_mixed"] re)
  (G_law_drawn:Fn P w K mg base 1 "_law_drawn" f3 d3 ["_law_number_here","_law_count"] lj):aY P w K mg base cu 2 f fd ["_law_script","_law_most"] (oq K):=by
 have sc:=ox
 refine F.ok ox (fun vs H Q E h=>?_) (fun cdv A outer s H vs Q E hr h=>?_)
 ·obtain⟨a,ns,most,rfl,_⟩:=h
  rfl
 obtain⟨a,ns,most,rfl,hS,h63,o0,o1,q⟩:=h
 have hu:=hr.units
 refine⟨_,(ae (aC (i:=2) sc.nd rfl (Or.inl rfl) (aw G_law_cell_at hr (by omega) rfl (aa (pv 0) (aa ah ad))))
  (ae (aC (i:=3) sc.nd rfl (Or.inl rfl) (aB cw (aB dn (pv 2) ah) (aB b0 (pv 1) ah)))
  (ae (aC (i:=4) sc.nd rfl (Or.inr rfl) (aw G_law_mix hr (by omega) rfl (aa (aw G_law_cell_at hr (by omega) rfl (aa (pv 0) (aa ah ad))) (aa ah (aa (bB (bd hu) (aB cw (pv 2) ah) ah (ax _)) ad)))))
  (ae (aC (i:=5) sc.nd rfl (Or.inr rfl) (aB dn (aw G_law_cell_at hr (by omega) rfl (aa (pv 0) (aa ah ad))) ah))
  (ae (aC (i:=6) sc.nd rfl (Or.inl rfl) (cx ad))
  (ae (bA PassesOwn.never rfl (aS (bw bR (pv 0) (bK ah) (bK ah))) (ao (i:=7) sc.nd rfl (Or.inl rfl))
   (ag (eD (gU PySem.F.plainAttrs_list PySem.F.slot_list_append PySem.F.type_list_append cI (pv 6) (aa (aw G_law_drawn hr (by omega) rfl (aa (aw G_law_mix hr (by omega) rfl (aa (pv 7) (aa (aB b0 (ak aF rfl T.len PySem.boot_len (aa (pv 6) ad)) ah) (aa (bB (bd hu) (aB cw (pv 2) ah) ah (ax _)) ad)))) (aa (pv 3) ad))) ad)))))
  (ae (aH (PW.pt (cX (am i8 (ak aF rfl T.len PySem.boot_len (aa (pv 6) ad)) ah (ax _)) (cS (am (bd hu) (aB cw (pv 5) ah) ah (ax _))))) (ag (eD (gU PySem.F.plainAttrs_list PySem.F.slot_list_append PySem.F.type_list_append cI (pv 6) (aa (az ar (pv 6) (aB cw (aB dn (pv 5) ah) (ak aF rfl T.len PySem.boot_len (aa (pv 6) ad))) (fun _ _=>rfl)) ad)))) au)
  (ae (aC (i:=8) sc.nd rfl (Or.inl rfl) (gU PySem.F.plainAttrs_str PySem.F.slot_str_join PySem.F.type_str_join p8 aJ (aa (aP (NY:=["_law_k","_law_turn"]) (idx:=[none,some 4]) rfl ⟨by with_unfolding_all rfl,(by with_unfolding_all exact⟨rfl,trivial⟩),fun _=>by rfl,by rfl,by rfl,by rfl,by decide⟩ (gN rfl T.range (aa (pv 3) ad)) (fun _ _ _ _=>(ao (i:=0) (show List.Nodup (["_law_k","_law_turn"]:List Str) by decide+kernel) rfl (Or.inl rfl))) (fun _ _ _ _=>bT) (fun _ _ _ _=>(az (iy (K:=K) rfl) aJ (aB sr (aB sq (pv 1) (pv 0)) ah) (fun _ _=>rfl)))) ad)))
  (ag (aj (bU (aa (pv 8) (aa (aP (NY:=["_law_clause","_law_odd"]) (idx:=[none,some 5]) rfl ⟨by with_unfolding_all rfl,(by with_unfolding_all exact⟨rfl,trivial⟩),fun _=>by rfl,by rfl,by rfl,by rfl,by decide⟩ (aS (pv 6)) (fun _ _ _ _=>(ao (i:=0) (show List.Nodup (["_law_clause","_law_odd"]:List Str) by decide+kernel) rfl (Or.inl rfl))) (fun _ _ _ _=>(bn (PW.pt (b_ (am i8 (ak (gY (K:=K) rfl) rfl T.len PySem.boot_len (aa (pv 0) ad)) ah (ax _)) (cg (am (bd hu) (aB cw (aB dn (pv 1) ah) ah) ah (ax _))))))) (fun _ _ _ _=>(pv 0))) ad))))))))))))),?_⟩
 refine⟨_,rfl,a,ns,0,rfl,hS,Int.le_refl 0,?_⟩
 generalize cO ns 0=first
 refine⟨_,rfl,_,_,rfl,rfl,⟨by decide,by decide⟩,_,rfl,_,_,rfl,rfl,_,_,rfl,rfl,(by show (0:Int) < most+1;omega),?_⟩
 have x0:=Int.emod_nonneg (first / 2) (show most+1≠0 by omega)
 have x1:=Int.emod_lt_of_pos (first / 2) (show 0 < most+1 by omega)
 refine⟨_,rfl,a,ns,1,rfl,hS,(by decide),_,rfl,_,_,rfl,rfl,(by show (0:Int) < 2;decide),.inl ⟨rfl,_,_,_,rfl,?_⟩⟩
 refine⟨_,rfl,a,ns,2,rfl,hS,(by decide),_,_,rfl,rfl,⟨by decide,by decide⟩,?_⟩
 refine⟨Nat.zero_le _,fun qa hqa=>?_⟩
 have nqa:H qa=none:=hqa
 have hr0:∃ r0:Int,first / 2 % (most+1)=r0:=⟨_,rfl⟩
 obtain⟨r0,hr0⟩:=hr0
 rw[hr0] at x0 x1
 refine⟨_,rfl,3,rfl,15,rfl,a,_,rfl,(af hqa _).seq hS,fun p2 hp2=>⟨p2,rfl,⟨_,SqL.of ac⟩,?_⟩⟩
 obtain⟨ms,hms,_⟩:=nV ns (some 3) (some 15)
 have hm12:=qk (ns:=ns)
 have k3:Same H (upd (upd H qa (.lst [])) p2 (.lst (cy (ns.map V.int) (some 3) (some 15)))):=(af hqa _).upd_new ((af hqa _).free hp2) _
 have hp3:upd (upd H qa (.lst [])) p2 (.lst (cy (ns.map V.int) (some 3) (some 15))) p2=some (.lst (cy (ns.map V.int) (some 3) (some 15))):=ac
 have nqp:qa≠p2:=aq ac hp2
 have hq3:upd (upd H qa (.lst [])) p2 (.lst (cy (ns.map V.int) (some 3) (some 15))) qa=some (.lst []):=by rw[ap nqp];exact ac
 refine cb (K:=K) (a:=p2) (xs:=cy (ns.map V.int) (some 3) (some 15)) (hZ a most first ns qa p2 H r0)
  ⟨[],[],none,rfl,hq3,hp3,.nil,k3,rfl,fun _ z=>nomatch z⟩ ?_ ?_ ?_
 ·rintro i σ H3 _ ⟨_,_,_,_,_,g,_⟩
  exact SqL.of g
 ·rintro i x σ H3 hx ⟨xs,cs,v7,rfl,g1,g2,g3,g4,g5,g6⟩
  have hil:i < (cy (ns.map V.int) (some 3) (some 15)).length:=(List.getElem?_eq_some_iff.mp hx).1
  rw[hms] at hx
  obtain⟨cz,rfl,_⟩:=df hx
  refine⟨_,rfl,.inl ⟨rfl,_,SqL.of g1⟩,_,rfl,_,rfl,.ref qa,_,rfl,.inl ⟨_,SqL.of g1,rfl⟩,_,_,rfl,rfl,_,rfl,_,_,rfl,rfl,(by show (0:Int) < 2;decide),.inl ⟨rfl,_,_,_,rfl,_,rfl,_,_,rfl,?_⟩⟩
  rw[hr0]
  refine⟨x0,by omega,fun p4 ls H4 k4 hp4 hls hl4=>?_⟩
  have h4:=k4 _ _ g1
  refine⟨qa,_,_,rfl,rfl,h4,(by rw[← g3.length,g5];exact av (by omega)),?_⟩
  refine⟨xs++[.ref p4],cs++[ls],_,by rw[hr0];rfl,ac,by rw[ap nqp.symm];exact k4 _ _ g2,CLs.snoc (CL.upd ⟨p4,rfl,hp4⟩ h4) ((g3.mono k4).upd h4),fun b o e=>?_,by rw[List.length_append,g5];rfl,fun c hc=>?_⟩
  ·rw[ap (aq e nqa)]
   exact k4 _ _ (g4 _ _ e)
  ·rcases List.mem_append.mp hc with z|z
   ·exact g6 c z
   ·rw[List.mem_singleton.mp z]
    exact⟨hls,hl4⟩
 rintro σ H3 ⟨xs,cs,v7,rfl,g1,g2,g3,g4,g5,g6⟩
 have hc12:cs.length<=12:=by omega
 clear g2 hp3 hq3 k3
 dsimp only
 refine ql fun N hN=>?_
 have key:∀ (xs:List V) (cs:List (List Int)) (H3:Hp),H3 qa=some (.lst xs)->CLs H3 cs xs->Same H H3->cs.length<=13->(∀ c∈cs,ClOk r0 c/\c.length<=4)->
   N [some (.ref a),some (.int most),some (.int first),some (.int (first / 2 % (most+1))),some (.int (oj (cO ns 1) 1 (decide (V.int (first % 2)=V.int 1)))),some (.int (cO ns 2 / 7)),some (.ref qa),v7,none] H3:=by
  clear g1 g3 g4 g5 g6 hc12
  intro xs cs H3 g1 g3 g4 g5 g6
  refine hN _ _ ?_
  generalize oj (cO ns 1) 1 (decide (V.int (first % 2)=V.int 1))=r1
  refine⟨rfl,_,rfl,first / 2 % (most+1),rfl,(by omega),(by omega),fun D hD=>?_⟩
  refine gi (lo:=0) (n:=(first / 2 % (most+1)).toNat) (h_ r1 H3 D) ⟨⟨none,rfl⟩,⟨[],rfl,rfl,fun _ h=>nomatch h⟩,rfl⟩ ?_ ?_ ?_
  ·rintro i σ ys H2 _ ⟨_,_,rfl⟩
   exact ac
  ·rintro i σ ys H2 hi ⟨⟨v0,rfl⟩,⟨ss,rfl,hss,hsg⟩,rfl⟩
   have e0:Builtin.bitAnd (r1 / 2 ^ ((0:Int)+(i:Int)).toNat) 1=r1 / 2 ^ ((0:Int)+(i:Int)).toNat % 2:=PyProof.Rows.bitAnd_m1 _
   obtain⟨ch,hch,hs⟩:=uC (j:=Builtin.bitAnd (r1 / 2 ^ ((0:Int)+(i:Int)).toNat) 1) (by rw[e0];exact Int.emod_nonneg _ (by decide)) (by rw[e0];exact Int.emod_lt_of_pos _ (by decide))
   refine eL ⟨_,rfl,_,rfl,_,_,rfl,rfl,(by show (0:Int)<=0+(i:Int);omega),_,_,rfl,rfl,.inr (.inr ⟨_,_,ch,rfl,rfl,(by decide+kernel),hch,ac,(by rw[List.length_map];exact av (by omega)),⟨_,rfl⟩,⟨ss++[⟨#[ch]⟩],by rw[List.map_append];rfl,by rw[List.length_append,hss];rfl,fun z hz=>?_⟩,fS⟩)⟩
   rcases List.mem_append.mp hz with w|w
   ·exact hsg z w
   ·rw[List.mem_singleton.mp w]
    exact hs
  rintro σ ys H2 ⟨_,⟨ss,rfl,hss,hsg⟩,rfl⟩
  obtain⟨tl,tw⟩:=nW hsg
  refine⟨_,D,ss,rfl,rfl,SqL.of ac,?_,?_⟩
  ·rw[gZ hsg,show (Str.ofString "").length=0 from by decide+kernel]
   omega
  generalize Txt.join (Str.ofString "") ss=t at tl tw
  have kD:Same H3 (upd H3 D (.lst (ss.map V.str))):=af hD _
  have g1':=kD _ _ g1
  have g3':=g3.mono kD
  have k2:=g4.trans kD
  clear hD
  generalize upd H3 D (.lst (ss.map V.str))=H2 at k2 g1' g3'
  have tlen:(t.length:Int)=r0:=by omega
  refine⟨_,rfl,_,rfl,qa,rfl,⟨_,SqL.of g1'⟩,fun D2 hD2=>?_⟩
  have nD2:H D2=none:=k2.free hD2
  have nq:qa≠D2:=aq g1' hD2
  refine cJ (K:=K) (a:=qa) (xs:=xs) (fo ns D2 H qa xs cs r0)
   ⟨⟨none,rfl⟩,ac,k2.upd_new nD2 _,by rw[ap nq];exact g1',g3'.mono (af hD2 _),[],Nat.zero_le _,.nil,fun _ h=>nomatch h⟩ ?_ ?_ ?_
  ·rintro i σ ys H4 _ ⟨_,h1,_,h2,_⟩
   exact⟨h1,SqL.of h2⟩
  ·rintro i x σ ys H4 hx ⟨⟨v0,rfl⟩,j1,j2,j3,j4,cs',j5,j6,j7⟩
   have hil:i < xs.length:=(List.getElem?_eq_some_iff.mp hx).1
   have hcl:=g3.length
   obtain⟨c,hc,tc,rfl,htc⟩:=j4.get hx
   have hcm:c∈cs:=List.mem_of_getElem? hc
   have sz:ys.length < sizeLine:=by rw[← j6.length];exact av (by omega)
   have nqD:qa≠D2:=nq
   have kp:∀ v0,fo ns D2 H qa xs cs r0 (i+1) [some v0,some (.int (cO ns 2 / 7))] (ys++[.ref tc]) (upd H4 D2 (.lst (ys++[.ref tc]))):=by
    intro v0
    refine⟨⟨_,rfl⟩,ac,j2.upd_new nD2 _,by rw[ap nqD];exact j3,j4.upd j1,cs'++[c],by rw[List.length_append];exact Nat.succ_le_succ j5,CLs.snoc (CL.upd ⟨tc,rfl,htc⟩ j1) (j6.upd j1),fun z hz=>?_⟩
    rcases List.mem_append.mp hz with y|y
    ·exact j7 z y
    ·rw[List.mem_singleton.mp y]
     exact g6 c hcm
   refine⟨_,rfl,.ref tc,_,rfl,.inr ⟨_,SqT.of htc,rfl⟩,_,_,rfl,rfl,_,rfl,cA (fun _=>aI ⟨_,rfl,j1,sz,kp _⟩) (fun _=>?_)⟩
   refine⟨_,rfl,_,_,rfl,rfl,⟨by decide,by decide⟩,_,_,rfl,rfl,(by show (0:Int) < 8;decide),.inl ⟨rfl,_,rfl,cA (fun _=>⟨_,rfl,j1,sz,kp _⟩) (fun _=>?_)⟩⟩
   exact⟨⟨_,rfl⟩,j1,j2,j3,j4,cs',by omega,j6,j7⟩
  ·rintro σ ys H4 ⟨_,j1,j2,j3,j4,cs',j5,j6,j7⟩
   refine⟨(by show 2<=sizeLine;decide),fun p5 hp5=>?_⟩
   have k5:Same H4 (upd H4 p5 (.tup [.str t,.ref D2])):=af hp5 _
   have hcl:=g3.length
   refine q p5 t cs' _ (j2.trans k5) (eP ac (k5 _ _ j1) (j6.mono k5)) ⟨by omega,tw,by omega,fun c hc=>?_⟩ fun c hc=>(j7 c hc).2
   rw[tlen]
   exact (j7 c hc).1
 refine⟨_,rfl,.ref qa,_,rfl,.inl ⟨_,SqL.of g1,rfl⟩,_,_,rfl,rfl,_,rfl,cA (fun c1=>?_) (fun c1=>?_)⟩
 ·have c1':(0:Int) < ((xs.length:Nat):Int):=of_decide_eq_true c1
  refine⟨_,rfl,_,_,rfl,rfl,(by show (0:Int) < 6;decide),.inl ⟨rfl,_,rfl,cA (fun c2=>?_) (fun c2=>?_)⟩⟩
  ·have z0:=Int.emod_nonneg (cO ns 2 / 7 / 6) (show ((xs.length:Nat):Int)≠0 by omega)
   have z1:=Int.emod_lt_of_pos (cO ns 2 / 7 / 6) c1'
   obtain⟨x,hx,hxa⟩:=nK (xs:=xs) z0 z1
   obtain⟨c,hc,tc,rfl,htc⟩:=g3.get hx
   refine⟨_,rfl,.inl ⟨rfl,_,SqL.of g1⟩,_,rfl,_,rfl,_,_,rfl,rfl,⟨by decide,by decide⟩,_,rfl,.ref qa,_,rfl,.inl ⟨_,SqL.of g1,rfl⟩,_,_,rfl,rfl,c1',.inl ⟨qa,xs,_,_,rfl,rfl,SqL.of g1,hxa,?_⟩⟩
   refine⟨qa,_,_,rfl,rfl,g1,(by rw[← g3.length];exact av (by omega)),?_⟩
   refine key (xs++[.ref tc]) (cs++[c]) _ ac (CLs.snoc (CL.upd ⟨tc,rfl,htc⟩ g1) (g3.upd g1)) (fun b o e=>?_) (by rw[List.length_append];exact Nat.succ_le_succ hc12) fun z hz=>?_
   ·rw[ap (aq e nqa)]
    exact g4 _ _ e
   ·rcases List.mem_append.mp hz with y|y
    ·exact g6 z y
    ·rw[List.mem_singleton.mp y]
     exact g6 c (List.mem_of_getElem? hc)
  ·exact key xs cs H3 g1 g3 g4 (by omega) g6
 ·exact aA (key xs cs H3 g1 g3 g4 (by omega) g6)
end
end K63
namespace K63
open PySem L2 OD
abbrev iD:Stmt:=cW 11
structure vD (mg:Str->Option Value):Prop where
 len:mg "len"=none
 g_WISHER:gp mg "WISHER" (.str (Str.ofString "wisher"))
 g_SPOILER:gp mg "SPOILER" (.str (Str.ofString "spoiler"))
inductive rh (vs:List V)(H:Hp)(Q:VK):Prop
 |mk (p:Addr)(t:Str)(w:V)(i:Nat)(h0:vs=[.ref p,.int ((i:Int)+1)])(h1:H p=some (.tup [.str t,w]))(h2:i < t.length)(h3:t.length<=900)(h4:Q (.str (b9 (cq t i))) H):rh vs H Q
def kg:Sp:=fun vs H Q _=>rh vs H Q
section
variable {P:Program}{w:World}{K:PySem.W.Frag}{mg:Str->Option Value}{base:Heap}
theorem jA:ay ["sentence","variable","turns"] ["sentence","variable"] (ai iD):=⟨rfl,rfl,rfl,by decide+kernel,rfl,by decide+kernel,by decide+kernel⟩
theorem mU {f:Addr}{fd:FuncData}(F:Fun K "hand_of" "hand_of" iD f fd)(T:vD mg):aY P w K mg base cu 1 f fd ["sentence","variable"] kg:=by
 have sc:=jA
 refine F.ok jA (fun vs H Q E h=>?_) (fun cdv A outer s H vs Q E hr h=>?_)
 ·obtain⟨p,t,w,i,rfl,_⟩:=h
  rfl
 obtain⟨p,t,w,i,rfl,hp,hi,h9,q⟩:=h
 have hu:=hr.units
 refine⟨_,(ae (aC (i:=2) sc.nd rfl (Or.inl rfl) (az ar (pv 0) ah (fun _ _=>rfl)))
  (ae (aH (bf (ny iZ iZ ah (pv 1) (ak aF rfl T.len PySem.boot_len (aa (pv 2) ad)))) (ag iX) au)
  (ag (aj (f_ (am (bd hu) (az ar (pv 2) (aB dW (pv 1) ah) (fun _ _=>rfl)) aJ (ax _)) (bO rfl T.g_WISHER) (bO rfl T.g_SPOILER)))))),?_⟩
 refine⟨_,rfl,.inr (.inl ⟨p,_,0,.str t,rfl,rfl,SqT.of hp,rfl,?_⟩)⟩
 have e1:decide ((1:Int)<=(i:Int)+1)=true:=decide_eq_true (by omega)
 have e2:decide ((i:Int)+1<=((t.length:Nat):Int))=true:=decide_eq_true (by omega)
 have hil:i < t.cps.toList.length:=by
  rw[Array.length_toList]
  exact hi
 have hch:=List.getElem?_eq_getElem hil
 have hat:jT t.cps.toList ((i:Int)+1 - 1)=some t.cps.toList[i]:=by
  have e:(i:Int)+1 - 1=(i:Int):=by omega
  rw[e]
  exact aZ hch
 refine⟨_,rfl,_,_,rfl,rfl,_,rfl,?_⟩
 rw[e1]
 refine aI ⟨_,rfl,.str t,_,rfl,⟨Nat.le_of_lt (av (by omega)),rfl⟩,_,_,rfl,rfl,_,rfl,?_⟩
 rw[e2]
 refine aA ?_
 refine⟨_,rfl,_,rfl,_,_,rfl,rfl,.inr (.inr ⟨t,_,_,rfl,rfl,Nat.le_of_lt (av (by omega)),hat,.inl ⟨rfl,_,rfl,?_⟩⟩)⟩
 rw[qY,← nY hch]
 cases g:cq t i with
 |true=>
  rw[g] at q
  exact aI q
 |false=>
  rw[g] at q
  exact aA q
end
end K63
namespace K63
open PySem L2 OD
abbrev oy:Stmt:=cW 5
abbrev iE:Stmt:=cW 6
abbrev tj:Stmt:=cW 7
structure vE (mg:Str->Option Value):Prop where
 isinstance:mg "isinstance"=none
 int:mg "int"=none
 bool:mg "bool"=none
 tuple:mg "tuple"=none
 list:mg "list"=none
 len:mg "len"=none
 all:mg "all"=none
 enumerate:mg "enumerate"=none
def uU (d:PyData):Prop:=∀ ds,d=.tuple ds->SeqAt.shaped (ds.getD 0 .none)=true
inductive ri (vs:List V)(H:Hp)(Q:VK):Prop
 |mk (v:V)(d:PyData)(h0:vs=[v])(h1:RD H d v)(h2:Q (.bl (gg d&&!iw d)) H):ri vs H Q
def dH:Sp:=fun vs H Q _=>ri vs H Q
inductive ln (vs:List V)(H:Hp)(Q:VK):Prop
 |mk (v:V)(d:PyData)(many:Nat)(h0:vs=[v,.int (many:Int)])(h1:RD H d v)(h2:Q (.bl (bq many d).isSome) H):ln vs H Q
def dI:Sp:=fun vs H Q _=>ln vs H Q
inductive uV (vs:List V)(H:Hp)(Q:VK):Prop
 |mk (v:V)(d:PyData)(w:Str)(n:Nat)(h0:vs=[v,.str w,.int (n:Int)])(h1:RD H d v)(h2:1<=n)(h3:SeqAt.shaped (.str w)=true)(h4:uU d)(h5:Q (.bl (OD.formB w n d)) H):uV vs H Q
def rj:Sp:=fun vs H Q _=>uV vs H Q
theorem eU {H:Hp}{ds:List PyData}{xs:List V}(h:fh H ds xs)(hl:ds.length=2):∃ d0 d1 x0 x1,ds=[d0,d1]/\xs=[x0,x1]/\RD H d0 x0/\RD H d1 x1:=by
 have hl2:=fU h
 match ds,xs,hl,hl2 with
 |[d0,d1],[x0,x1],_,_=>exact⟨d0,d1,x0,x1,rfl,rfl,dr (j:=0) h rfl,dr (j:=1) h rfl⟩
theorem d9 {H:Hp}{ds:List PyData}{xs:List V}(h:fh H ds xs)(hl:ds.length=3):∃ d0 d1 d2 x0 x1 x2,ds=[d0,d1,d2]/\xs=[x0,x1,x2]/\RD H d0 x0/\RD H d1 x1/\RD H d2 x2:=by
 have hl2:=fU h
 match ds,xs,hl,hl2 with
 |[d0,d1,d2],[x0,x1,x2],_,_=>exact⟨d0,d1,d2,x0,x1,x2,rfl,rfl,dr (j:=0) h rfl,dr (j:=1) h rfl,dr (j:=2) h rfl⟩
theorem oz {σ:St}{H:Hp}{A B:Hp->Prop}(h:A H):uz σ H fun b H4=>if b=true then A H4 else B H4:=by
 show (if true=true then A H else B H)
 exact aI h
section
variable {P:Program}{w:World}{K:PySem.W.Frag}{mg:Str->Option Value}{base:Heap}
theorem tm:ay ["thing"] ["thing"] (ai oy):=⟨rfl,rfl,rfl,by decide+kernel,rfl,by decide+kernel,by decide+kernel⟩
theorem qo {f:Addr}{fd:FuncData}(F:Fun K "is_number" "is_number" oy f fd)(T:vE mg):aY P w K mg base cu 1 f fd ["thing"] dH:=by
 refine F.ok tm (fun vs H Q E h=>?_) (fun cdv A outer s H vs Q E hr h=>?_)
 ·obtain⟨v,d,rfl,_⟩:=h
  rfl
 obtain⟨v,d,rfl,hd,q⟩:=h
 have nd:=fj hd
 refine⟨_,(ag (aj (dl (ak bM rfl T.isinstance PyProof.Rows.boot_isinstance (aa (pv 0) (aa (dk (v:=.ty "int") rfl T.int PyProof.Rows.boot_int rfl) ad))) (dU (jU (ak bM rfl T.isinstance PyProof.Rows.boot_isinstance (aa (pv 0) (aa (dk (v:=.ty "bool") rfl T.bool PyProof.Rows.boot_bool rfl) ad)))))))),?_⟩
 refine⟨_,rfl,v,_,"int",_,rfl,jf d v hd,kZ d nd,_,rfl,?_⟩
 cases hI:gg d with
 |false=>
  rw[hI] at q
  exact aA q
 |true=>
  rw[hI] at q
  exact aI ⟨_,rfl,v,_,"bool",_,rfl,jf d v hd,jg d nd,_,rfl,q⟩
theorem jB:ay ["thing","many"] ["thing","many"] (ai iE):=⟨rfl,rfl,rfl,by decide+kernel,rfl,by decide+kernel,by decide+kernel⟩
theorem mV {f g:Addr}{fd gd:FuncData}(F:Fun K "is_place" "is_place" iE f fd)(Gis_number:Fn P w K mg base 1 "is_number" g gd ["thing"] dH):aY P w K mg base cu 2 f fd ["thing","many"] dI:=by
 have sc:=jB
 refine F.ok jB (fun vs H Q E h=>?_) (fun cdv A outer s H vs Q E hr h=>?_)
 ·obtain⟨v,d,many,rfl,_⟩:=h
  rfl
 obtain⟨v,d,many,rfl,hd,q⟩:=h
 refine⟨_,(ag (aj (dl (aw Gis_number hr (by omega) rfl (aa (pv 0) ad)) (dU (nw iZ fF ah (pv 0) (pv 1)))))),?_⟩
 refine⟨_,rfl,v,d,rfl,hd,_,rfl,?_⟩
 rcases iA d with⟨z,rfl⟩|hn
 ·obtain rfl:=bb hd
  refine aI ?_
  have q':Q (.bl (if 0<=z/\z < (many:Int) then some z.toNat else none).isSome) H:=q
  refine⟨_,rfl,_,_,rfl,rfl,_,rfl,?_⟩
  by_cases h0:0<=z
  ·rw[decide_eq_true h0]
   refine aI ⟨_,rfl,_,_,rfl,rfl,?_⟩
   by_cases h1:z < (many:Int)
   ·rw[if_pos ⟨h0,h1⟩] at q'
    show Q (.bl (decide (z < (many:Int)))) H
    rw[decide_eq_true h1]
    exact q'
   ·rw[if_neg fun c=>h1 c.2] at q'
    show Q (.bl (decide (z < (many:Int)))) H
    rw[decide_eq_false h1]
    exact q'
  ·rw[if_neg fun c=>h0 c.1] at q'
   rw[decide_eq_false h0]
   exact aA q'
 ·rw[fX hn]
  have e:bq many d=none:=by
   cases d with
   |int z=>exact absurd rfl (hn z)
   |_=>rfl
  rw[e] at q
  exact aA q
theorem rk:ay ["thing","word","many"] ["thing","word","many"] (ai tj):=⟨rfl,rfl,rfl,by decide+kernel,rfl,by decide+kernel,by decide+kernel⟩
theorem tp {f:Addr}{fd:FuncData}(F:Fun K "begins_with" "begins_with" tj f fd)(T:vE mg):aY P w K mg base cu 1 f fd ["thing","word","many"] rj:=by
 have sc:=rk
 refine F.ok rk (fun vs H Q E h=>?_) (fun cdv A outer s H vs Q E hr h=>?_)
 ·obtain⟨v,d,wd,n,rfl,_⟩:=h
  rfl
 obtain⟨v,d,wd,n,rfl,hd,h1,hws,hsh,q⟩:=h
 have hu:=hr.units
 have nd:=fj hd
 refine⟨_,(ag (aj (dl (ak bM rfl T.isinstance PyProof.Rows.boot_isinstance (aa (pv 0) (aa (dk (v:=.ty "tuple") rfl T.tuple PyProof.Rows.boot_tuple rfl) ad))) (dl (bB (bd hu) (ak aF rfl T.len PySem.boot_len (aa (pv 0) ad)) (pv 2) (ax _)) (dU (bB (bd hu) (az ar (pv 0) ah (fun _ _=>rfl)) (pv 1) (ax _))))))),?_⟩
 refine⟨_,rfl,v,_,"tuple",_,rfl,jf d v hd,mH d nd,_,rfl,?_⟩
 cases d with
 |tuple ds=>
  obtain⟨a,xs,rfl,ha,hx⟩:=ba hd
  have hlen:=fU hx
  refine aI ⟨_,rfl,.ref a,_,rfl,.inr ⟨_,SqT.of ha,rfl⟩,_,rfl,.inl ⟨rfl,_,rfl,?_⟩⟩
  have q':Q (.bl (decide (ds.length=n)&&ju wd (ds.getD 0 .none))) H:=q
  by_cases h2:ds.length=n
  ·rw[decide_eq_true h2] at q'
   have e:decide (V.int ((xs.length:Nat):Int)=V.int (n:Int))=true:=decide_eq_true (by rw[hlen,h2])
   rw[e]
   obtain⟨x0,hx0⟩:∃ x0,xs[0]? =some x0:=⟨_,List.getElem?_eq_getElem (by omega)⟩
   have r0:=dr hx hx0
   refine aI ⟨_,rfl,.inr (.inl ⟨a,xs,0,x0,rfl,rfl,SqT.of ha,aZ hx0,_,rfl,.inr ⟨_,_,r0,cC wd,hsh ds rfl,hws,?_⟩⟩)⟩
   rw[n9]
   exact q'
  ·rw[decide_eq_false h2] at q'
   have e:decide (V.int ((xs.length:Nat):Int)=V.int (n:Int))=false:=decide_eq_false fun z=>h2 (by have:=V.int.inj z;omega)
   rw[e]
   exact aA q'
 |_=>exact aA q
end
end K63
namespace K63
open PySem L2 OD
abbrev oA:Stmt:=cW 18
abbrev iF:Stmt:=cW 19
abbrev kh:Stmt:=cW 20
abbrev iG:Stmt:=cW 21
abbrev oB:Stmt:=cW 22
structure qp (mg:Str->Option Value):Prop where
 abs:mg "abs"=none
 len:mg "len"=none
 any:mg "any"=none
 g_WISHER:gp mg "WISHER" (.str (Str.ofString "wisher"))
 g_SPOILER:gp mg "SPOILER" (.str (Str.ofString "spoiler"))
def lp (H:Hp)(p:Addr)(c:List Int):Prop:=H p=some (.tup (c.map V.int))
def bu (t:Str)(z:Int):Bool:=cq t (al z - 1).toNat
def dh (t:Str):List Int->Bool
 |[z]=>bu t z
 |_=>false
def bj (c:List Int)(z:Int):List Int->Bool
 |[]=>false
 |x::r=>if al z<=al x then false else if c.contains (-x)=true then true else bj c z r
def gu (n:Nat)(c:List Int):Prop:=∀ l∈c,1<=al l/\al l<=(n:Int)
inductive rl (vs:List V)(H:Hp)(Q:VK):Prop
 |mk (p:Addr)(t:Str)(w:V)(z:Int)(hw:Bool)(h0:vs=[.ref p,.int z,.str (b9 hw)])(h1:H p=some (.tup [.str t,w]))(h2:t.length<=900)(h3:1<=al z)(h4:al z<=(t.length:Int))(q:Q (.bl (bu t z == hw)) H):rl vs H Q
def fq:Sp:=fun vs H Q _=>rl vs H Q
inductive lq (vs:List V)(H:Hp)(Q:VK):Prop
 |mk (p a:Addr)(t:Str)(w:V)(c:List Int)(h0:vs=[.ref p,.ref a])(h1:H p=some (.tup [.str t,w]))(h2:t.length<=900)(h3:lp H a c)(h4:gu t.length c)(q:Q (.bl (dh t c)) H):lq vs H Q
def gv:Sp:=fun vs H Q _=>lq vs H Q
inductive oC (vs:List V)(H:Hp)(Q:VK):Prop
 |mk (a b:Addr)(c k:List Int)(h0:vs=[.ref a,.ref b])(h1:lp H a c)(h2:lp H b k)(q:Q (.bl (k.all fun z=>c.contains z)) H):oC vs H Q
def iH:Sp:=fun vs H Q _=>oC vs H Q
inductive lr (vs:List V)(H:Hp)(Q:VK):Prop
 |mk (a b:Addr)(c k:List Int)(z:Int)(h0:vs=[.ref a,.ref b,.int z])(h1:lp H a c)(h2:lp H b k)(q:Q (.bl (bj c z k)) H):lr vs H Q
def jC:Sp:=fun vs H Q _=>lr vs H Q
inductive rm (vs:List V)(H:Hp)(Q:VK):Prop
 |mk (a l:Addr)(c:List Int)(z:Int)(xs:List V)(cs:List (List Int))(h0:vs=[.ref a,.int z,.ref l])(h1:lp H a c)(h2:H l=some (.lst xs))(h3:CLs H cs xs)(q:Q (.bl (cs.all fun k=>bj c z k)) H):rm vs H Q
def ki:Sp:=fun vs H Q _=>rm vs H Q
theorem aV (c:List Int):(c.map V.int).all dR=true:=by
 rw[List.all_map]
 exact List.all_eq_true.mpr fun _ _=>rfl
inductive oD (H:Hp)(a b:Addr)(c k:List Int)(i:Nat)(σ:St)(H2:Hp):Prop
 |mk (v2:Option V)(h0:σ=[some (.ref a),some (.ref b),v2])(h1:H2=H)(h2:((k.take i).all fun z=>c.contains z)=true):oD H a b c k i σ H2
inductive oE (H:Hp)(a b:Addr)(z:Int)(c k:List Int)(i:Nat)(σ:St)(H2:Hp):Prop
 |mk (v3:Option V)(h0:σ=[some (.ref a),some (.ref b),some (.int z),v3])(h1:H2=H)(h2:bj c z k=bj c z (k.drop i)):oE H a b z c k i σ H2
inductive rn (H:Hp)(a l:Addr)(z:Int)(c:List Int)(cs:List (List Int))(i:Nat)(σ:St)(H2:Hp):Prop
 |mk (v3:Option V)(h0:σ=[some (.ref a),some (.int z),some (.ref l),v3])(h1:H2=H)(h2:((cs.take i).all fun k=>bj c z k)=true):rn H a l z c cs i σ H2
section
variable {P:Program}{w:World}{K:PySem.W.Frag}{mg:Str->Option Value}{base:Heap}
theorem oF:ay ["sentence","literal","hand"] ["sentence","literal","hand"] (ai oA):=⟨rfl,rfl,rfl,by decide+kernel,rfl,by decide+kernel,by decide+kernel⟩
theorem qq {f g:Addr}{fd gd:FuncData}(F:Fun K "is_of" "is_of" oA f fd)(T:qp mg)(Ghand_of:Fn P w K mg base 1 "hand_of" g gd ["sentence","variable"] kg):aY P w K mg base cu 2 f fd ["sentence","literal","hand"] fq:=by
 have sc:=oF
 refine F.ok oF (fun vs H Q E h=>?_) (fun cdv A outer s H vs Q E hr h=>?_)
 ·obtain⟨p,t,w,z,hw,rfl,_⟩:=h
  rfl
 obtain⟨p,t,w,z,hw,rfl,hp,h9,h1,h2,q⟩:=h
 have hu:=hr.units
 refine⟨_,(ag (aj (bB (bd hu) (aw Ghand_of hr (by omega) rfl (aa (pv 0) (aa (ak bv rfl T.abs PyProof.Rows.boot_abs (aa (pv 1) ad)) ad))) (pv 2) (ax _)))),?_⟩
 obtain⟨i,hi⟩:∃ i:Nat,al z=(i:Int)+1:=⟨(al z - 1).toNat,by omega⟩
 have e:(al z - 1).toNat=i:=by omega
 refine⟨_,rfl,_,rfl,z,rfl,p,t,w,i,?_,hp,(by omega),h9,_,rfl,.inl ⟨rfl,?_⟩⟩
 ·show [V.ref p,V.int (al z)]=_
  rw[hi]
 ·show Q (.bl (decide (V.str (b9 (cq t i))=V.str (b9 hw)))) H
  rw[eR]
  unfold bu at q
  rw[e] at q
  cases g1:cq t i<;>cases g2:hw<;>(rw[g1,g2] at q;exact q)
theorem jD:ay ["sentence","clause"] ["sentence","clause"] (ai iF):=⟨rfl,rfl,rfl,by decide+kernel,rfl,by decide+kernel,by decide+kernel⟩
theorem mW {f g:Addr}{fd gd:FuncData}(F:Fun K "is_unit" "is_unit" iF f fd)(T:qp mg)(Gis_of:Fn P w K mg base 2 "is_of" g gd ["sentence","literal","hand"] fq):aY P w K mg base cu 3 f fd ["sentence","clause"] gv:=by
 have sc:=jD
 refine F.ok jD (fun vs H Q E h=>?_) (fun cdv A outer s H vs Q E hr h=>?_)
 ·obtain⟨p,a,t,w,c,rfl,_⟩:=h
  rfl
 obtain⟨p,a,t,w,c,rfl,hp,h9,ha,hok,q⟩:=h
 have hu:=hr.units
 refine⟨_,(ag (aj (dl (bB (bd hu) (ak aF rfl T.len PySem.boot_len (aa (pv 1) ad)) ah (ax _)) (dU (aw Gis_of hr (by omega) rfl (aa (pv 0) (aa (az ar (pv 1) ah (fun _ _=>rfl)) (aa (bO rfl T.g_WISHER) ad)))))))),?_⟩
 refine⟨_,rfl,.ref a,_,rfl,.inr ⟨_,SqT.of ha,rfl⟩,.inl ⟨rfl,_,rfl,?_⟩⟩
 match c,ha,hok,q with
 |[],ha,hok,q=>exact cA (fun z=>absurd (V.int.inj (of_decide_eq_true z)) (by decide)) (fun _=>q)
 |[z],ha,hok,q=>
  refine cA (fun _=>?_) (fun y=>absurd (decide_eq_true rfl) y)
  have hz:=hok z List.mem_cons_self
  refine⟨_,rfl,_,rfl,.inr (.inl ⟨a,_,0,.int z,rfl,rfl,SqT.of ha,rfl,p,t,w,z,true,rfl,hp,h9,hz.1,hz.2,?_⟩)⟩
  have q':Q (.bl (bu t z)) H:=q
  cases g:bu t z<;>(rw[g] at q';exact q')
 |x::y::r,ha,hok,q=>exact cA (fun z=>absurd (V.int.inj (of_decide_eq_true z)) (by simp;omega)) (fun _=>q)
theorem lu:ay ["clause","literals","literal"] ["clause","literals"] (ai kh):=⟨rfl,rfl,rfl,by decide+kernel,rfl,by decide+kernel,by decide+kernel⟩
theorem oG {f:Addr}{fd:FuncData}(F:Fun K "holds_all" "holds_all" kh f fd):aY P w K mg base cu 1 f fd ["clause","literals"] iH:=by
 have sc:=lu
 refine F.ok lu (fun vs H Q E h=>?_) (fun cdv A outer s H vs Q E hr h=>?_)
 ·obtain⟨a,b,c,k,rfl,_⟩:=h
  rfl
 obtain⟨a,b,c,k,rfl,ha,hb,q⟩:=h
 refine⟨_,(ae (bA PassesOwn.never rfl (ca (pv 1)) (ao (i:=2) sc.nd rfl (Or.inl rfl))
   (ag (aH (am bS (pv 2) (pv 0) (by with_unfolding_all rfl)) (ag (aj de)) au)))
  (ag (aj de))),?_⟩
 refine⟨_,rfl,b,rfl,⟨_,SqT.of hb⟩,im (K:=K) (a:=b) (xs:=k.map V.int) (oD H a b c k) ⟨none,rfl,rfl,rfl⟩ ?_ ?_ ?_⟩
 ·rintro i σ H2 _ ⟨_,_,rfl,_⟩
  exact SqT.of hb
 ·rintro i x σ H2 hx ⟨v2,rfl,rfl,hall⟩
  obtain⟨z,rfl,hz⟩:=df hx
  have e:(if true=true then !c_ (.int z) (c.map V.int) else c_ (.int z) (c.map V.int))=!c.contains z:=by
   rw[if_pos rfl,bc]
  refine⟨_,rfl,_,rfl,a,_,rfl,.inr (SqT.of ha),rfl,aV c,_,rfl,?_⟩
  rw[e]
  cases g:c.contains z with
  |false=>
   refine aI ?_
   have e2:(k.all fun z=>c.contains z)=false:=List.all_eq_false.mpr ⟨z,List.mem_of_getElem? hz,by rw[g];exact Bool.false_ne_true⟩
   rw[e2] at q
   exact q
  |true=>
   refine aA ⟨_,rfl,rfl,?_⟩
   rw[List.take_add_one,hz,List.all_append,hall]
   show (c.contains z&&true)=true
   rw[g]
   rfl
 ·rintro σ H2 ⟨v2,rfl,rfl,hall⟩
  rw[List.take_of_length_le (by rw[List.length_map];exact Nat.le_refl _)] at hall
  rw[hall] at q
  exact q
theorem jE:ay ["clause","other","literal","ahead"] ["clause","other","literal"] (ai iG):=⟨rfl,rfl,rfl,by decide+kernel,rfl,by decide+kernel,by decide+kernel⟩
theorem mY {f:Addr}{fd:FuncData}(F:Fun K "has_other_way" "has_other_way" iG f fd)(T:qp mg):aY P w K mg base cu 1 f fd ["clause","other","literal"] jC:=by
 have sc:=jE
 refine F.ok jE (fun vs H Q E h=>?_) (fun cdv A outer s H vs Q E hr h=>?_)
 ·obtain⟨a,b,c,k,z,rfl,_⟩:=h
  rfl
 obtain⟨a,b,c,k,z,rfl,ha,hb,q⟩:=h
 refine⟨_,(ae (bA PassesOwn.never rfl (ca (pv 1)) (ao (i:=3) sc.nd rfl (Or.inl rfl))
   (ae (aH (am nu (ak bv rfl T.abs PyProof.Rows.boot_abs (aa (pv 3) ad)) (ak bv rfl T.abs PyProof.Rows.boot_abs (aa (pv 2) ad)) (ax _)) (ag (aj de)) au)
   (ag (aH (am dO (eE dq (pv 3)) (pv 0) (by with_unfolding_all rfl)) (ag (aj de)) au))))
  (ag (aj de))),?_⟩
 refine⟨_,rfl,b,rfl,⟨_,SqT.of hb⟩,im (K:=K) (a:=b) (xs:=k.map V.int) (oE H a b z c k) ⟨none,rfl,rfl,rfl⟩ ?_ ?_ ?_⟩
 ·rintro i σ H2 _ ⟨_,_,rfl,_⟩
  exact SqT.of hb
 ·rintro i x σ H2 hx ⟨v2,rfl,rfl,hk⟩
  obtain⟨y,rfl,hy⟩:=df hx
  have ed:k.drop i=y::k.drop (i+1):=by
   have hi:=(List.getElem?_eq_some_iff.mp hy).1
   rw[List.drop_eq_getElem_cons hi,(List.getElem?_eq_some_iff.mp hy).2]
  have eo:bj c z (y::k.drop (i+1))=if al z<=al y then false else if c.contains (-y)=true then true else bj c z (k.drop (i+1)):=rfl
  rw[ed,eo] at hk
  refine⟨_,rfl,y,rfl,_,rfl,z,rfl,_,_,rfl,rfl,_,rfl,cA (fun g=>?_) (fun g=>?_)⟩
  ·rw[if_pos (show al z<=al y from of_decide_eq_true g)] at hk
   rw[hk] at q
   exact q
  ·rw[if_neg (show ¬ al z<=al y from fun n=>g (decide_eq_true n))] at hk
   have e:(if false=true then !c_ (.int (-y)) (c.map V.int) else c_ (.int (-y)) (c.map V.int))=c.contains (-y):=by
    rw[if_neg Bool.false_ne_true,bc]
   refine⟨_,rfl,_,rfl,_,rfl,a,_,rfl,.inr (SqT.of ha),rfl,aV c,_,rfl,?_⟩
   rw[e]
   cases g2:c.contains (-y) with
   |true=>
    rw[g2,if_pos rfl] at hk
    rw[hk] at q
    exact aI q
   |false=>
    rw[g2,if_neg Bool.false_ne_true] at hk
    exact aA ⟨_,rfl,rfl,hk⟩
 ·rintro σ H2 ⟨v2,rfl,rfl,hk⟩
  rw[List.drop_of_length_le (by rw[List.length_map];exact Nat.le_refl _)] at hk
  rw[hk] at q
  exact q
theorem oH:ay ["clause","literal","opposed","other"] ["clause","literal","opposed"] (ai oB):=⟨rfl,rfl,rfl,by decide+kernel,rfl,by decide+kernel,by decide+kernel⟩
theorem qt {f g:Addr}{fd gd:FuncData}(F:Fun K "is_blocked" "is_blocked" oB f fd)(Ghas_other_way:Fn P w K mg base 1 "has_other_way" g gd ["clause","other","literal"] jC):aY P w K mg base cu 2 f fd ["clause","literal","opposed"] ki:=by
 have sc:=oH
 refine F.ok oH (fun vs H Q E h=>?_) (fun cdv A outer s H vs Q E hr h=>?_)
 ·obtain⟨a,l,c,z,xs,cs,rfl,_⟩:=h
  rfl
 obtain⟨a,l,c,z,xs,cs,rfl,ha,hl,hcs,q⟩:=h
 refine⟨_,(ae (bA PassesOwn.never rfl (aS (pv 2)) (ao (i:=3) sc.nd rfl (Or.inl rfl))
   (ag (aH (bf (aK (aw Ghas_other_way hr (by omega) rfl (aa (pv 0) (aa (pv 3) (aa (pv 1) ad)))))) (ag (aj de)) au)))
  (ag (aj de))),?_⟩
 refine⟨_,rfl,l,rfl,⟨_,SqL.of hl⟩,cb (K:=K) (a:=l) (xs:=xs) (rn H a l z c cs) ⟨none,rfl,rfl,rfl⟩ ?_ ?_ ?_⟩
 ·rintro i σ H2 _ ⟨_,_,rfl,_⟩
  exact SqL.of hl
 ·rintro i x σ H2 hx ⟨v2,rfl,rfl,hall⟩
  obtain⟨k,hk,hcl⟩:=hcs.get hx
  obtain⟨tc,rfl,htc⟩:=hcl
  refine⟨_,rfl,_,rfl,_,rfl,a,tc,c,k,z,rfl,ha,htc,_,rfl,?_⟩
  cases g:bj c z k with
  |false=>
   refine aI ?_
   have e2:(cs.all fun k=>bj c z k)=false:=List.all_eq_false.mpr ⟨k,List.mem_of_getElem? hk,by rw[g];exact Bool.false_ne_true⟩
   rw[e2] at q
   exact q
  |true=>
   refine aA ⟨_,rfl,rfl,?_⟩
   rw[List.take_add_one,hk,List.all_append,hall]
   show (bj c z k&&true)=true
   rw[g]
   rfl
 ·rintro σ H2 ⟨v2,rfl,rfl,hall⟩
  rw[List.take_of_length_le (by rw[hcs.length];exact Nat.le_refl _)] at hall
  rw[hall] at q
  exact q
end
end K63
namespace K63
open PySem L2 OD
abbrev kj:Stmt:=cW 23
abbrev kl:Stmt:=cW 24
abbrev kn:Stmt:=cW 25
abbrev ko:Stmt:=cW 26
abbrev tq:Stmt:=cW 27
def RC (H H':Hp)(o:Option (List (List Int)))(v:V):Prop:=
 match o with
 |none=>v=.non
 |some cs=>∃ (l:Addr) (xs:List V),v=.ref l/\H l=none/\H' l=some (.lst xs)/\CLs H' cs xs
def bE (cs:List (List Int))(i:Nat):List (List Int):=cs.take i++cs.drop (i+1)
def fL (t:Str)(cs:List (List Int))(d:PyData):Option (List (List Int)):=(bq cs.length d).map fun i=>cs.take i++[gt t false (cs.getD i [])]++cs.drop (i+1)
def fM (t:Str)(cs:List (List Int))(d:PyData):Option (List (List Int)):=(bq cs.length d).bind fun i=>if dh t (cs.getD i [])=true then some (aT ((cs.getD i []).getD 0 0) cs) else none
def gw (t:Str)(cs:List (List Int)):PyData->Option (List (List Int))
 |.int z=>if ((cs.any fun c=>c.contains z)&&!(cs.any fun c=>c.contains (-z)))=true then some (aT (if bu t z=true then z else -z) cs) else none
 |_=>none
def fN (cs:List (List Int))(d e:PyData):Option (List (List Int)):=(bq cs.length d).bind fun i=>(bq cs.length e).bind fun j=>if (!decide (i=j)&&((cs.getD j []).all fun z=>(cs.getD i []).contains z))=true then some (bE cs i) else none
def ce (t:Str)(cs:List (List Int))(i:Nat)(z:Int):Bool:=(cs.getD i []).contains z&&(bu t z&&((cs.filter fun c=>c.contains (-z)).all fun k=>bj (cs.getD i []) z k))
def d_ (t:Str)(cs:List (List Int))(d:PyData):PyData->Option (List (List Int))
 |.int z=>(bq cs.length d).bind fun i=>if ce t cs i z=true then some (bE cs i) else none
 |_=>none
structure SentAt (H:Hp)(p q:Addr)(t:Str)(xs:List V)(cs:List (List Int)):Prop where
 hp:H p=some (.tup [.str t,.ref q])
 hq:H q=some (.lst xs)
 hcs:CLs H cs xs
 ht:t.length<=30
 hn:cs.length<=400
 hok:∀ c∈cs,gu t.length c
 hc:∀ c∈cs,c.length<=60
inductive vS (b:Str->List (List Int)->PyData->Option (List (List Int)))(vs:List V)(H:Hp)(Q:VK):Prop
 |mk (p q:Addr)(t:Str)(xs:List V)(cs:List (List Int))(v:V)(d:PyData)(h0:vs=[.ref p,v])(h1:SentAt H p q t xs cs)(h2:RD H d v)(h3:∀ v' H',Same H H'->RC H H' (b t cs d) v'->Q v' H'):vS b vs H Q
def mZ (b:Str->List (List Int)->PyData->Option (List (List Int))):Sp:=fun vs H Q _=>vS b vs H Q
inductive vT (b:Str->List (List Int)->PyData->PyData->Option (List (List Int)))(vs:List V)(H:Hp)(Q:VK):Prop
 |mk (p q:Addr)(t:Str)(xs:List V)(cs:List (List Int))(v w:V)(d e:PyData)(h0:vs=[.ref p,v,w])(h1:SentAt H p q t xs cs)(h2:RD H d v)(h3:RD H e w)(h4:∀ v' H',Same H H'->RC H H' (b t cs d e) v'->Q v' H'):vT b vs H Q
def qu (b:Str->List (List Int)->PyData->PyData->Option (List (List Int))):Sp:=fun vs H Q _=>vT b vs H Q
inductive ia (vs:List V)(H:Hp)(Q:VK):Prop
 |mk (p q:Addr)(t:Str)(w:V)(hw:Bool)(c:List Int)(h0:vs=[.ref p,.str (b9 hw),.ref q])(h1:H p=some (.tup [.str t,w]))(h2:t.length<=900)(h3:lp H q c)(h4:c.length<=60)(h5:(∀ l∈c,1<=al l/\al l<=(t.length:Int)))(h6:∀ (l:Addr) (H':Hp),Same H H'->lp H' l (gt t hw c)->Q (.ref l) H'):ia vs H Q
def gx:Sp:=fun vs H Q _=>ia vs H Q
inductive jF (vs:List V)(H:Hp)(Q:VK):Prop
 |mk (p:Addr)(l:Int)(xs:List V)(cs:List (List Int))(h0:vs=[.ref p,.int l])(h1:H p=some (.lst xs))(h2:CLs H cs xs)(h3:cs.length<=900)(h4:∀ c∈cs,c.length<=900)(h5:∀ (q:Addr) (ys:List V) (H':Hp),Same H H'->H q=none->H' q=some (.lst ys)->CLs H' (aT l cs) ys->Q (.ref q) H'):jF vs H Q
def ft:Sp:=fun vs H Q _=>jF vs H Q
theorem oI {t:Str}{c:List Int}(h:dh t c=true):∃ z,c=[z]:=by
 match c,h with
 |[z],_=>exact⟨z,rfl⟩
theorem cE {H:Hp}{cs:List (List Int)}{xs:List V}{i:Nat}(h:CLs H cs xs)(hi:i < cs.length):∃ tc,xs[i]? =some (.ref tc)/\lp H tc (cs.getD i [])/\cs.getD i []∈cs:=by
 have hl:=h.length
 obtain⟨x,hx⟩:∃ x,xs[i]? =some x:=⟨_,List.getElem?_eq_getElem (by omega)⟩
 obtain⟨c,hc,tc,rfl,htc⟩:=h.get hx
 have e:cs.getD i []=c:=by rw[List.getD_eq_getElem?_getD,hc];rfl
 rw[e]
 exact⟨tc,hx,htc,List.mem_of_getElem? hc⟩
section
variable {P:Program}{w:World}{K:PySem.W.Frag}{mg:Str->Option Value}{base:Heap}
theorem lw:ay ["sentence","place","clauses"] ["sentence","place"] (ai kj):=⟨rfl,rfl,rfl,by decide+kernel,rfl,by decide+kernel,by decide+kernel⟩
theorem oJ {f g1 g2:Addr}{fd e1 e2:FuncData}(F:Fun K "behind_drop" "behind_drop" kj f fd)(T:qp mg)(Gis_place:Fn P w K mg base 2 "is_place" g1 e1 ["thing","many"] dI)(Gdropped:Fn P w K mg base 3 "dropped" g2 e2 ["sentence","hand","literals"] gx):aY P w K mg base cu 4 f fd ["sentence","place"] (mZ fL):=by
 have sc:=lw
 refine F.ok lw (fun vs H Q E h=>?_) (fun cdv A outer s H vs Q E hr h=>?_)
 ·obtain⟨p,q,t,xs,cs,v,d,rfl,_⟩:=h
  rfl
 obtain⟨p,q,t,xs,cs,v,d,rfl,S,hd,q'⟩:=h
 have hu:=hr.units
 have hlen:=S.hcs.length
 refine⟨_,(ae (aC (i:=2) sc.nd rfl (Or.inl rfl) (az ar (pv 0) ah (fun _ _=>rfl)))
  (ae (aH (bf (aK (aw Gis_place hr (by omega) rfl (aa (pv 1) (aa (ak aF rfl T.len PySem.boot_len (aa (pv 2) ad)) ad))))) (ag (aj aW)) au)
  (ag (aj (aB ci (aB ci (bw bR (pv 2) bY (bK (pv 1))) (cx (aa (aw Gdropped hr (by omega) rfl (aa (pv 0) (aa (bO rfl T.g_SPOILER) (aa (az ar (pv 2) (pv 1) (fun _ _=>rfl)) ad)))) ad))) (bw bR (pv 2) (bK (aB b0 (pv 1) ah)) bY)))))),?_⟩
 refine⟨_,rfl,.inr (.inl ⟨p,_,1,.ref q,rfl,rfl,SqT.of S.hp,rfl,?_⟩)⟩
 refine⟨_,rfl,_,rfl,.ref q,_,rfl,.inl ⟨_,SqL.of S.hq,rfl⟩,v,d,cs.length,(by rw[hlen];rfl),hd,_,rfl,?_⟩
 unfold fL at q'
 cases e:bq cs.length d with
 |none=>
  rw[e] at q'
  exact aI (q' _ _ (Same.refl _) rfl)
 |some i=>
  rw[e] at q'
  obtain⟨hi,rfl⟩:=cr e
  obtain rfl:=bb hd
  obtain⟨tc,hx,htc,hm⟩:=cE S.hcs hi
  have ht:=S.ht
  have hn:=S.hn
  refine aA ?_
  refine⟨_,rfl,_,rfl,_,rfl,q,xs,rfl,SqL.of S.hq,fun l1 q1=>?_⟩
  rw[fm]
  have k1:=af q1 (.lst (xs.take i))
  have r1:upd H l1 (.lst (xs.take i)) l1=some (.lst (xs.take i)):=ac
  generalize upd H l1 (.lst (xs.take i))=H1 at k1 r1
  refine⟨_,rfl,_,rfl,_,rfl,.inl ⟨q,xs,(i:Int),.ref tc,rfl,rfl,SqL.of (k1 _ _ S.hq),aZ hx,p,tc,t,_,false,_,rfl,k1 _ _ S.hp,(by omega),k1 _ _ htc,S.hc _ hm,S.hok _ hm,fun l2 H2 k2 r2=>⟨(by show 1<=sizeLine;decide),fun l3 q3=>?_⟩⟩⟩
  have k3:=af q3 (.lst [.ref l2])
  refine⟨l1,l3,_,_,rfl,rfl,(k2.trans k3) _ _ r1,ac,Nat.le_of_lt (av (by rw[List.length_take];show _+1<=1000;omega)),fun l4 q4=>?_⟩
  have k4:=af q4 (.lst (xs.take i++[.ref l2]))
  refine⟨_,rfl,_,rfl,_,_,rfl,rfl,_,rfl,q,xs,rfl,SqL.of ((k1.trans (k2.trans (k3.trans k4))) _ _ S.hq),fun l5 q5=>?_⟩
  have ec:cy xs (some ((i:Int)+1)) none=xs.drop (i+1):=dg xs (i+1)
  rw[ec]
  have k5:=af q5 (.lst (xs.drop (i+1)))
  refine⟨l4,l5,_,_,rfl,rfl,k5 _ _ ac,ac,Nat.le_of_lt (av (by rw[List.length_append,List.length_take,List.length_drop];show _+1+_<=1000;omega)),fun l6 q6=>?_⟩
  have k6:=af q6 (.lst (xs.take i++[.ref l2]++xs.drop (i+1)))
  have kk:=k1.trans (k2.trans (k3.trans (k4.trans (k5.trans k6))))
  refine q' _ _ kk ⟨l6,_,rfl,(k1.trans (k2.trans (k3.trans (k4.trans k5)))).free q6,ac,?_⟩
  exact bp (bp (bP i (S.hcs.mono kk)) (Paired.cons ⟨l2,rfl,(k3.trans (k4.trans (k5.trans k6))) _ _ r2⟩ .nil)) (bQ (i+1) (S.hcs.mono kk))
theorem lx:ay ["sentence","place","clauses"] ["sentence","place"] (ai kl):=⟨rfl,rfl,rfl,by decide+kernel,rfl,by decide+kernel,by decide+kernel⟩
theorem oK {f g1 g2 g3:Addr}{fd e1 e2 e3:FuncData}(F:Fun K "behind_unit" "behind_unit" kl f fd)(T:qp mg)(Gis_place:Fn P w K mg base 2 "is_place" g1 e1 ["thing","many"] dI)(Gis_unit:Fn P w K mg base 3 "is_unit" g2 e2 ["sentence","clause"] gv)(Gclauses_behind:Fn P w K mg base 1 "clauses_behind" g3 e3 ["clauses","literal"] ft):aY P w K mg base cu 4 f fd ["sentence","place"] (mZ fM):=by
 have sc:=lx
 refine F.ok lx (fun vs H Q E h=>?_) (fun cdv A outer s H vs Q E hr h=>?_)
 ·obtain⟨p,q,t,xs,cs,v,d,rfl,_⟩:=h
  rfl
 obtain⟨p,q,t,xs,cs,v,d,rfl,S,hd,q'⟩:=h
 have hlen:=S.hcs.length
 refine⟨_,(ae (aC (i:=2) sc.nd rfl (Or.inl rfl) (az ar (pv 0) ah (fun _ _=>rfl)))
  (ae (aH (PW.pt (b_ (bf (aK (aw Gis_place hr (by omega) rfl (aa (pv 1) (aa (ak aF rfl T.len PySem.boot_len (aa (pv 2) ad)) ad))))) (cg (bf (aK (aw Gis_unit hr (by omega) rfl (aa (pv 0) (aa (az ar (pv 2) (pv 1) (fun _ _=>rfl)) ad)))))))) (ag (aj aW)) au)
  (ag (aj (aw Gclauses_behind hr (by omega) rfl (aa (pv 2) (aa (az ar (az ar (pv 2) (pv 1) (fun _ _=>rfl)) ah (fun _ _=>rfl)) ad))))))),?_⟩
 refine⟨_,rfl,.inr (.inl ⟨p,_,1,.ref q,rfl,rfl,SqT.of S.hp,rfl,?_⟩)⟩
 refine⟨_,rfl,_,rfl,.ref q,_,rfl,.inl ⟨_,SqL.of S.hq,rfl⟩,v,d,cs.length,(by rw[hlen];rfl),hd,_,rfl,?_⟩
 unfold fM at q'
 cases e:bq cs.length d with
 |none=>
  rw[e] at q'
  exact aI (aI (q' _ _ (Same.refl _) rfl))
 |some i=>
  rw[e] at q'
  obtain⟨hi,rfl⟩:=cr e
  obtain rfl:=bb hd
  obtain⟨tc,hx,htc,hm⟩:=cE S.hcs hi
  have ht:=S.ht
  have hn:=S.hn
  have hc:=S.hc
  have q2:∀ v' H',Same H H'->RC H H' (if dh t (cs.getD i [])=true then some (aT ((cs.getD i []).getD 0 0) cs) else none) v'->Q v' H':=q'
  refine aA ⟨_,rfl,_,rfl,_,rfl,.inl ⟨q,xs,(i:Int),.ref tc,rfl,rfl,SqL.of S.hq,aZ hx,p,tc,t,_,_,rfl,S.hp,(by omega),htc,S.hok _ hm,_,rfl,?_⟩⟩
  cases g:dh t (cs.getD i []) with
  |false=>
   rw[g,if_neg Bool.false_ne_true] at q2
   exact aI (q2 _ _ (Same.refl _) rfl)
  |true=>
   rw[g,if_pos rfl] at q2
   obtain⟨z,hz⟩:=oI g
   rw[hz] at htc q2
   exact aA ⟨_,rfl,_,rfl,_,rfl,.inl ⟨q,xs,(i:Int),.ref tc,rfl,rfl,SqL.of S.hq,aZ hx,.inr (.inl ⟨tc,_,0,.int z,rfl,rfl,SqT.of htc,rfl,q,z,xs,cs,rfl,S.hq,S.hcs,(by omega),(fun c h=>by have:=hc c h;omega),fun l ys H1 k1 n1 r1 c1=>q2 _ _ k1 ⟨l,ys,rfl,n1,r1,c1⟩⟩)⟩⟩
theorem ly:ay ["sentence","place","within","clauses"] ["sentence","place","within"] (ai ko):=⟨rfl,rfl,rfl,by decide+kernel,rfl,by decide+kernel,by decide+kernel⟩
theorem oM {f g1 g2:Addr}{fd e1 e2:FuncData}(F:Fun K "behind_within" "behind_within" ko f fd)(T:qp mg)(Gis_place:Fn P w K mg base 2 "is_place" g1 e1 ["thing","many"] dI)(Gholds_all:Fn P w K mg base 1 "holds_all" g2 e2 ["clause","literals"] iH):aY P w K mg base cu 3 f fd ["sentence","place","within"] (qu fun _=>fN):=by
 have sc:=ly
 refine F.ok ly (fun vs H Q E h=>?_) (fun cdv A outer s H vs Q E hr h=>?_)
 ·obtain⟨p,q,t,xs,cs,v,w,d,e,rfl,_⟩:=h
  rfl
 obtain⟨p,q,t,xs,cs,v,w,d,e,rfl,S,hd,he,q'⟩:=h
 have hu:=hr.units
 have hlen:=S.hcs.length
 refine⟨_,(ae (aC (i:=3) sc.nd rfl (Or.inl rfl) (az ar (pv 0) ah (fun _ _=>rfl)))
  (ae (aH (PW.pt (b_ (bf (aK (aw Gis_place hr (by omega) rfl (aa (pv 1) (aa (ak aF rfl T.len PySem.boot_len (aa (pv 3) ad)) ad))))) (b_ (bf (aK (aw Gis_place hr (by omega) rfl (aa (pv 2) (aa (ak aF rfl T.len PySem.boot_len (aa (pv 3) ad)) ad))))) (cg (am (bd hu) (pv 1) (pv 2) (ax _)))))) (ag (aj aW)) au)
  (ae (aH (bf (aK (aw Gholds_all hr (by omega) rfl (aa (az ar (pv 3) (pv 1) (fun _ _=>rfl)) (aa (az ar (pv 3) (pv 2) (fun _ _=>rfl)) ad))))) (ag (aj aW)) au)
  (ag (aj (aB ci (bw bR (pv 3) bY (bK (pv 1))) (bw bR (pv 3) (bK (aB b0 (pv 1) ah)) bY))))))),?_⟩
 refine⟨_,rfl,.inr (.inl ⟨p,_,1,.ref q,rfl,rfl,SqT.of S.hp,rfl,?_⟩)⟩
 refine⟨_,rfl,_,rfl,.ref q,_,rfl,.inl ⟨_,SqL.of S.hq,rfl⟩,v,d,cs.length,(by rw[hlen];rfl),hd,_,rfl,?_⟩
 unfold fN at q'
 cases e1:bq cs.length d with
 |none=>
  rw[e1] at q'
  exact aI (aI (q' _ _ (Same.refl _) rfl))
 |some i=>
  rw[e1] at q'
  obtain⟨hi,rfl⟩:=cr e1
  obtain rfl:=bb hd
  refine aA ⟨_,rfl,_,rfl,.ref q,_,rfl,.inl ⟨_,SqL.of S.hq,rfl⟩,w,e,cs.length,(by rw[hlen];rfl),he,_,rfl,?_⟩
  cases e2:bq cs.length e with
  |none=>
   rw[e2] at q'
   exact aI (aI (q' _ _ (Same.refl _) rfl))
  |some j=>
   rw[e2] at q'
   obtain⟨hj,rfl⟩:=cr e2
   obtain rfl:=bb he
   have hn:=S.hn
   have q2:∀ v' H',Same H H'->RC H H' (if (!decide (i=j)&&((cs.getD j []).all fun z=>(cs.getD i []).contains z))=true then some (bE cs i) else none) v'->Q v' H':=q'
   refine aA ⟨_,rfl,_,rfl,.inl ⟨rfl,_,rfl,cA (fun g=>?_) (fun g=>?_)⟩⟩
   ·have eij:i=j:=by
     have:=V.int.inj (of_decide_eq_true g)
     omega
    rw[decide_eq_true eij] at q2
    exact q2 _ _ (Same.refl _) rfl
   ·have nij:i≠j:=fun z=>g (decide_eq_true (by rw[z]))
    rw[decide_eq_false nij] at q2
    obtain⟨tc,hx,htc,hm⟩:=cE S.hcs hi
    obtain⟨td,hy,htd,hm2⟩:=cE S.hcs hj
    refine⟨_,rfl,_,rfl,.inl ⟨q,xs,(i:Int),.ref tc,rfl,rfl,SqL.of S.hq,aZ hx,_,rfl,_,rfl,.inl ⟨q,xs,(j:Int),.ref td,rfl,rfl,SqL.of S.hq,aZ hy,tc,td,_,_,rfl,htc,htd,_,rfl,?_⟩⟩⟩
    cases g2:((cs.getD j []).all fun z=>(cs.getD i []).contains z) with
    |false=>
     rw[g2] at q2
     exact aI (q2 _ _ (Same.refl _) rfl)
    |true=>
     rw[g2] at q2
     refine aA ?_
     refine⟨_,rfl,_,rfl,_,rfl,q,xs,rfl,SqL.of S.hq,fun l1 q1=>?_⟩
     rw[fm]
     have k1:=af q1 (.lst (xs.take i))
     refine⟨_,rfl,_,rfl,_,_,rfl,rfl,_,rfl,q,xs,rfl,SqL.of (k1 _ _ S.hq),fun l5 q5=>?_⟩
     have ec:cy xs (some ((i:Int)+1)) none=xs.drop (i+1):=dg xs (i+1)
     rw[ec]
     have k5:=af q5 (.lst (xs.drop (i+1)))
     refine⟨l1,l5,_,_,rfl,rfl,k5 _ _ ac,ac,Nat.le_of_lt (av (by rw[List.length_take,List.length_drop];omega)),fun l6 q6=>?_⟩
     have kk:=k1.trans (k5.trans (af q6 (.lst (xs.take i++xs.drop (i+1)))))
     exact q2 _ _ kk ⟨l6,_,rfl,(k1.trans k5).free q6,ac,bp (bP i (S.hcs.mono kk)) (bQ (i+1) (S.hcs.mono kk))⟩
end
end K63
namespace K63
open PySem L2 OD
def aM (H:Hp)(z:Int)(x:V):Bool:=match x with
 |.ref p=>match H p with
  |some (.tup zs)=>zs.contains (.int z)
  |_=>false
 |_=>false
theorem m3 (zs:List Int)(l:Int):(zs.map V.int).contains (.int l)=zs.contains l:=by
 induction zs with
 |nil=>rfl
 |cons z r ih=>
  rw[List.map_cons,List.contains_cons,List.contains_cons,ih]
  congr 1
  by_cases h:l=z
  ·rw[h];simp
  ·rw[beq_eq_false_iff_ne.mpr h,beq_eq_false_iff_ne.mpr fun e=>h (V.int.inj e)]
theorem bI {H:Hp}{z:Int}{k:List Int}{x:V}(h:CL H k x):aM H z x=k.contains z:=by
 obtain⟨p,rfl,hp⟩:=h
 unfold aM
 simp only [hp]
 exact m3 k z
theorem iI {H:Hp}{z:Int}:∀ {cs:List (List Int)} {xs:List V},CLs H cs xs->xs.any (aM H z)=cs.any fun c=>c.contains z
 |_,_,.nil=>rfl
 |k::cs,x::xs,.cons h t=>by
  rw[List.any_cons,List.any_cons,bI h,iI t]
theorem eV {H:Hp}{z:Int}:∀ {cs:List (List Int)} {xs:List V},CLs H cs xs->CLs H (cs.filter fun c=>c.contains z) (xs.filter (aM H z))
 |_,_,.nil=>.nil
 |k::cs,x::xs,.cons h t=>by
  cases g:k.contains z with
  |true=>
   rw[List.filter_cons_of_pos (by exact g),List.filter_cons_of_pos (by rw[bI h];exact g)]
   exact .cons h (eV t)
  |false=>
   rw[List.filter_cons_of_neg (by rw[g];decide),List.filter_cons_of_neg (by rw[bI h,g];decide)]
   exact eV t
theorem lz {α:Type}(l:List α)(f:α->Bool):((l.map fun x=>V.bl (f x)).all sN)=true/\(l.map fun x=>V.bl (f x)).any jk=l.any f:=by
 refine⟨by rw[List.all_map];exact List.all_eq_true.mpr fun _ _=>rfl,?_⟩
 rw[List.any_map]
 rfl
section
variable {P:Program}{w:World}{K:PySem.W.Frag}{mg:Str->Option Value}{base:Heap}
theorem lA:ay ["sentence","literal","clauses"] ["sentence","literal"] (ai kn):=⟨rfl,rfl,rfl,by decide+kernel,rfl,by decide+kernel,by decide+kernel⟩
theorem oN {f g1 g2 g3:Addr}{fd e1 e2 e3:FuncData}(F:Fun K "behind_pure" "behind_pure" kn f fd)(T:qp mg)(Gis_number:Fn P w K mg base 1 "is_number" g1 e1 ["thing"] dH)(Gis_of:Fn P w K mg base 2 "is_of" g2 e2 ["sentence","literal","hand"] fq)(Gclauses_behind:Fn P w K mg base 1 "clauses_behind" g3 e3 ["clauses","literal"] ft):aY P w K mg base cu 3 f fd ["sentence","literal"] (mZ gw):=by
 have sc:=lA
 refine F.ok lA (fun vs H Q E h=>?_) (fun cdv A outer s H vs Q E hr h=>?_)
 ·obtain⟨p,q,t,xs,cs,v,d,rfl,_⟩:=h
  rfl
 obtain⟨p,q,t,xs,cs,v,d,rfl,S,hd,q'⟩:=h
 have hlen:=S.hcs.length
 have hn:=S.hn
 have hc:=S.hc
 have ht:=S.ht
 refine⟨_,(ae (aC (i:=2) sc.nd rfl (Or.inl rfl) (az ar (pv 0) ah (fun _ _=>rfl)))
  (ae (aH (PW.pt (b_ (bf (aK (aw Gis_number hr (by omega) rfl (aa (pv 1) ad)))) (cg (bf (aK (ak (jl rfl) rfl T.any PyProof.Rows.boot_any (aa (aP (NY:=["clause","literal"]) (idx:=[none,some 1]) rfl ⟨by with_unfolding_all rfl,(by with_unfolding_all exact⟨rfl,trivial⟩),fun _=>by rfl,by rfl,by rfl,by rfl,by decide⟩ (aS (pv 2)) (fun _ _ _ _=>(ao (i:=0) (show List.Nodup (["clause","literal"]:List Str) by decide+kernel) rfl (Or.inl rfl))) (fun _ _ _ _=>bT) (fun _ _ _ _=>(bB (b5 (K:=K) rfl) (pv 1) (pv 0) (by with_unfolding_all rfl)))) ad))))))) (ag (aj aW)) au)
  (ae (aH (aK (ak (jl rfl) rfl T.any PyProof.Rows.boot_any (aa (aP (NY:=["clause","literal"]) (idx:=[none,some 1]) rfl ⟨by with_unfolding_all rfl,(by with_unfolding_all exact⟨rfl,trivial⟩),fun _=>by rfl,by rfl,by rfl,by rfl,by decide⟩ (aS (pv 2)) (fun _ _ _ _=>(ao (i:=0) (show List.Nodup (["clause","literal"]:List Str) by decide+kernel) rfl (Or.inl rfl))) (fun _ _ _ _=>bT) (fun _ _ _ _=>(bB (b5 (K:=K) rfl) (eE dq (pv 1)) (pv 0) (by with_unfolding_all rfl)))) ad))) (ag (aj aW)) au)
  (ag (aj (aw Gclauses_behind hr (by omega) rfl (aa (pv 2) (aa (f_ (aK (aw Gis_of hr (by omega) rfl (aa (pv 0) (aa (pv 1) (aa (bO rfl T.g_WISHER) ad))))) (pv 1) (eE dq (pv 1))) ad)))))))),?_⟩
 refine⟨_,rfl,.inr (.inl ⟨p,_,1,.ref q,rfl,rfl,SqT.of S.hp,rfl,?_⟩)⟩
 refine⟨_,rfl,v,d,rfl,hd,_,rfl,?_⟩
 rcases iA d with⟨z,rfl⟩|hni
 rotate_left
 ·rw[fX hni]
  have e:gw t cs d=none:=by
   cases d with
   |int z=>exact absurd rfl (hni z)
   |_=>rfl
  rw[e] at q'
  exact aI (aI (q' _ _ (Same.refl _) rfl))
 obtain rfl:=bb hd
 have q2:∀ v' H',Same H H'->RC H H' (if ((cs.any fun c=>c.contains z)&&!(cs.any fun c=>c.contains (-z)))=true then some (aT (if bu t z=true then z else -z) cs) else none) v'->Q v' H':=q'
 refine aA ⟨_,rfl,q,rfl,⟨_,SqL.of S.hq⟩,fun D hD=>?_⟩
 refine bD [some (.int z)] (fun _=>true) (fun x=>.bl (aM H z x)) rfl S.hq hD (by omega) ?_ ?_ ?_
 ·intro x hx H' R k r
  exact r
 ·intro x hx _ H' R k r
  obtain⟨i,hi⟩:=List.mem_iff_getElem?.mp hx
  obtain⟨kc,_,hcl⟩:=S.hcs.get hi
  rw[bI hcl] at r
  obtain⟨tc,rfl,htc⟩:=hcl
  refine⟨_,rfl,_,rfl,tc,_,rfl,.inr (SqT.of (k _ _ htc)),rfl,aV kc,?_⟩
  show R (.bl (c_ (.int z) (kc.map V.int))) H'
  rw[bc]
  exact r
 have ef:(xs.filter fun _=>true)=xs:=List.filter_eq_self.mpr fun _ _=>rfl
 rw[ef]
 have ea:=lz xs (aM H z)
 have k1:=af hD (.lst (xs.map fun x=>.bl (aM H z x)))
 have r1:upd H D (.lst (xs.map fun x=>.bl (aM H z x))) D=some (.lst (xs.map fun x=>.bl (aM H z x))):=ac
 generalize upd H D (.lst (xs.map fun x=>.bl (aM H z x)))=H1 at k1 r1
 refine⟨D,_,rfl,SqL.of r1,ea.1,_,rfl,?_⟩
 rw[ea.2,iI S.hcs]
 cases g1:(cs.any fun c=>c.contains z) with
 |false=>
  rw[g1] at q2
  exact aI (q2 _ _ k1 rfl)
 |true=>
 rw[g1] at q2
 refine aA ⟨_,rfl,q,rfl,⟨_,SqL.of (k1 _ _ S.hq)⟩,fun D2 hD2=>?_⟩
 refine bD [some (.int z)] (fun _=>true) (fun x=>.bl (aM H (-z) x)) rfl (k1 _ _ S.hq) hD2 (by omega) ?_ ?_ ?_
 ·intro x hx H' R k r
  exact r
 ·intro x hx _ H' R k r
  obtain⟨i,hi⟩:=List.mem_iff_getElem?.mp hx
  obtain⟨kc,_,hcl⟩:=S.hcs.get hi
  rw[bI hcl] at r
  obtain⟨tc,rfl,htc⟩:=hcl
  refine⟨_,rfl,_,rfl,_,rfl,tc,_,rfl,.inr (SqT.of (k _ _ (k1 _ _ htc))),rfl,aV kc,?_⟩
  show R (.bl (c_ (.int (-z)) (kc.map V.int))) H'
  rw[bc]
  exact r
 rw[ef]
 have ea2:=lz xs (aM H (-z))
 have k2:=af hD2 (.lst (xs.map fun x=>.bl (aM H (-z) x)))
 have r2:upd H1 D2 (.lst (xs.map fun x=>.bl (aM H (-z) x))) D2=some (.lst (xs.map fun x=>.bl (aM H (-z) x))):=ac
 generalize upd H1 D2 (.lst (xs.map fun x=>.bl (aM H (-z) x)))=H2 at k2 r2
 refine⟨D2,_,rfl,SqL.of r2,ea2.1,_,rfl,?_⟩
 rw[ea2.2,iI S.hcs]
 have k12:=k1.trans k2
 cases g2:(cs.any fun c=>c.contains (-z)) with
 |true=>
  rw[g2] at q2
  exact aI (q2 _ _ k12 rfl)
 |false=>
 rw[g2] at q2
 obtain⟨c0,hc0,hz0⟩:=List.any_eq_true.mp g1
 have hz:=S.hok c0 hc0 z (List.contains_iff_mem.mp hz0)
 have q3:∀ v' H',Same H H'->RC H H' (some (aT (if bu t z=true then z else -z) cs)) v'->Q v' H':=q2
 refine aA ⟨_,rfl,_,rfl,_,rfl,p,t,_,z,true,rfl,k12 _ _ S.hp,(by omega),hz.1,hz.2,_,rfl,?_⟩
 cases g3:bu t z with
 |true=>
  rw[g3,if_pos rfl] at q3
  exact aI ⟨_,rfl,q,z,xs,cs,rfl,k12 _ _ S.hq,S.hcs.mono k12,(by omega),(fun c h=>by have:=hc c h;omega),fun l ys H3 k3 n3 r3 c3=>q3 _ _ (k12.trans k3) ⟨l,ys,rfl,k12.free n3,r3,c3⟩⟩
 |false=>
  rw[g3,if_neg Bool.false_ne_true] at q3
  exact aA ⟨_,rfl,_,rfl,q,-z,xs,cs,rfl,k12 _ _ S.hq,S.hcs.mono k12,(by omega),(fun c h=>by have:=hc c h;omega),fun l ys H3 k3 n3 r3 c3=>q3 _ _ (k12.trans k3) ⟨l,ys,rfl,k12.free n3,r3,c3⟩⟩
theorem ro:ay ["sentence","place","literal","clauses","opposed"] ["sentence","place","literal"] (ai tq):=⟨rfl,rfl,rfl,by decide+kernel,rfl,by decide+kernel,by decide+kernel⟩
theorem tu {f g1 g2 g3 g4:Addr}{fd e1 e2 e3 e4:FuncData}(F:Fun K "behind_blocked" "behind_blocked" tq f fd)(T:qp mg)(Gis_place:Fn P w K mg base 2 "is_place" g1 e1 ["thing","many"] dI)(Gis_number:Fn P w K mg base 1 "is_number" g2 e2 ["thing"] dH)(Gis_of:Fn P w K mg base 2 "is_of" g3 e3 ["sentence","literal","hand"] fq)(Gis_blocked:Fn P w K mg base 2 "is_blocked" g4 e4 ["clause","literal","opposed"] ki):aY P w K mg base cu 3 f fd ["sentence","place","literal"] (qu d_):=by
 have sc:=ro
 refine F.ok ro (fun vs H Q E h=>?_) (fun cdv A outer s H vs Q E hr h=>?_)
 ·obtain⟨p,q,t,xs,cs,v,w,d,e,rfl,_⟩:=h
  rfl
 obtain⟨p,q,t,xs,cs,v,w,d,e,rfl,S,hd,he,q'⟩:=h
 have hlen:=S.hcs.length
 have hn:=S.hn
 have ht:=S.ht
 refine⟨_,(ae (aC (i:=3) sc.nd rfl (Or.inl rfl) (az ar (pv 0) ah (fun _ _=>rfl)))
  (ae (aH (PW.pt (b_ (bf (aK (aw Gis_place hr (by omega) rfl (aa (pv 1) (aa (ak aF rfl T.len PySem.boot_len (aa (pv 3) ad)) ad))))) (b_ (bf (aK (aw Gis_number hr (by omega) rfl (aa (pv 2) ad)))) (cg (am bS (pv 2) (az ar (pv 3) (pv 1) (fun _ _=>rfl)) (by with_unfolding_all rfl)))))) (ag (aj aW)) au)
  (ae (dt (i:=4) sc.nd rfl rfl (NY:=["clause","literal"]) (idx:=[none,some 2]) rfl ⟨by with_unfolding_all rfl,(by with_unfolding_all exact⟨rfl,trivial⟩),fun _=>by rfl,by rfl,by rfl,by rfl,by decide⟩ (aS (pv 3)) (fun _ _ _ _=>(ao (i:=0) (show List.Nodup (["clause","literal"]:List Str) by decide+kernel) rfl (Or.inl rfl))) (fun _ _ _ _=>(bn (am (b5 (K:=K) rfl) (eE dq (pv 1)) (pv 0) (by with_unfolding_all rfl)))) (fun _ _ _ _=>(pv 0)) (by with_unfolding_all rfl))
  (ae (aH (PW.pt (b_ (bf (aK (aw Gis_of hr (by omega) rfl (aa (pv 0) (aa (pv 2) (aa (bO rfl T.g_WISHER) ad)))))) (cg (bf (aK (aw Gis_blocked hr (by omega) rfl (aa (az ar (pv 3) (pv 1) (fun _ _=>rfl)) (aa (pv 2) (aa (pv 4) ad))))))))) (ag (aj aW)) au)
  (ag (aj (aB ci (bw bR (pv 3) bY (bK (pv 1))) (bw bR (pv 3) (bK (aB b0 (pv 1) ah)) bY)))))))),?_⟩
 refine⟨_,rfl,.inr (.inl ⟨p,_,1,.ref q,rfl,rfl,SqT.of S.hp,rfl,?_⟩)⟩
 refine⟨_,rfl,_,rfl,.ref q,_,rfl,.inl ⟨_,SqL.of S.hq,rfl⟩,v,d,cs.length,(by rw[hlen];rfl),hd,_,rfl,?_⟩
 cases e1:bq cs.length d with
 |none=>
  have e0:d_ t cs d e=none:=by
   cases e with
   |int z=>
    show (bq cs.length d).bind _=none
    rw[e1]
    rfl
   |_=>rfl
  rw[e0] at q'
  exact aI (aI (q' _ _ (Same.refl _) rfl))
 |some i=>
 obtain⟨hi,rfl⟩:=cr e1
 obtain rfl:=bb hd
 refine aA ⟨_,rfl,w,e,rfl,he,_,rfl,?_⟩
 rcases iA e with⟨z,rfl⟩|hni
 rotate_left
 ·rw[fX hni]
  have e0:d_ t cs (.int (i:Int)) e=none:=by
   cases e with
   |int z=>exact absurd rfl (hni z)
   |_=>rfl
  rw[e0] at q'
  exact aI (aI (q' _ _ (Same.refl _) rfl))
 obtain rfl:=bb he
 obtain⟨tc,hx,htc,hm⟩:=cE S.hcs hi
 have q2:∀ v' H',Same H H'->RC H H' (if ce t cs i z=true then some (bE cs i) else none) v'->Q v' H':=fun v' H' k r=>q' v' H' k (by
  show RC H H' ((bq cs.length (.int (i:Int))).bind _) v'
  rw[e1]
  exact r)
 unfold ce at q2
 have e:(if true=true then !c_ (.int z) ((cs.getD i []).map V.int) else c_ (.int z) ((cs.getD i []).map V.int))=!(cs.getD i []).contains z:=by
  rw[if_pos rfl,bc]
 refine aA ⟨_,rfl,_,rfl,_,rfl,.inl ⟨q,xs,(i:Int),.ref tc,rfl,rfl,SqL.of S.hq,aZ hx,tc,_,rfl,.inr (SqT.of htc),rfl,aV _,_,rfl,?_⟩⟩
 rw[e]
 cases g1:(cs.getD i []).contains z with
 |false=>
  rw[g1] at q2
  exact aI (q2 _ _ (Same.refl _) rfl)
 |true=>
 rw[g1] at q2
 have hz:=S.hok _ hm z (List.contains_iff_mem.mp g1)
 refine aA ⟨_,rfl,q,rfl,⟨_,SqL.of S.hq⟩,fun D hD=>?_⟩
 refine bD [some (.int z)] (aM H (-z)) (fun x=>x) rfl S.hq hD (by omega) ?_ ?_ ?_
 ·intro x hx H' R k r
  obtain⟨i,hi⟩:=List.mem_iff_getElem?.mp hx
  obtain⟨kc,_,hcl⟩:=S.hcs.get hi
  rw[bI hcl] at r
  obtain⟨td,rfl,htd⟩:=hcl
  refine⟨_,rfl,_,rfl,_,rfl,td,_,rfl,.inr (SqT.of (k _ _ htd)),rfl,aV kc,_,rfl,?_⟩
  show R (c_ (.int (-z)) (kc.map V.int)) H'
  rw[bc]
  exact r
 ·intro x hx _ H' R k r
  exact⟨_,rfl,r⟩
 rw[List.map_id']
 have k1:=af hD (.lst (xs.filter (aM H (-z))))
 have r1:upd H D (.lst (xs.filter (aM H (-z)))) D=some (.lst (xs.filter (aM H (-z)))):=ac
 generalize upd H D (.lst (xs.filter (aM H (-z))))=H1 at k1 r1
 have hop:=(eV (z:=-z) S.hcs).mono k1
 refine⟨_,rfl,_,rfl,p,t,_,z,true,rfl,k1 _ _ S.hp,(by omega),hz.1,hz.2,_,rfl,?_⟩
 cases g2:bu t z with
 |false=>
  rw[g2] at q2
  exact aI (aI (q2 _ _ k1 rfl))
 |true=>
 rw[g2] at q2
 refine aA ⟨_,rfl,_,rfl,.inl ⟨q,xs,(i:Int),.ref tc,rfl,rfl,SqL.of (k1 _ _ S.hq),aZ hx,_,rfl,_,rfl,tc,D,_,z,_,_,rfl,k1 _ _ htc,r1,hop,_,rfl,?_⟩⟩
 cases g3:((cs.filter fun c=>c.contains (-z)).all fun k=>bj (cs.getD i []) z k) with
 |false=>
  rw[g3] at q2
  exact aI (q2 _ _ k1 rfl)
 |true=>
  rw[g3] at q2
  refine aA ?_
  refine⟨_,rfl,_,rfl,_,rfl,q,xs,rfl,SqL.of (k1 _ _ S.hq),fun l1 q1=>?_⟩
  rw[fm]
  have k2:=af q1 (.lst (xs.take i))
  refine⟨_,rfl,_,rfl,_,_,rfl,rfl,_,rfl,q,xs,rfl,SqL.of ((k1.trans k2) _ _ S.hq),fun l5 q5=>?_⟩
  have ec:cy xs (some ((i:Int)+1)) none=xs.drop (i+1):=dg xs (i+1)
  rw[ec]
  have k5:=af q5 (.lst (xs.drop (i+1)))
  refine⟨l1,l5,_,_,rfl,rfl,k5 _ _ ac,ac,Nat.le_of_lt (av (by rw[List.length_take,List.length_drop];omega)),fun l6 q6=>?_⟩
  have kk:=k1.trans (k2.trans (k5.trans (af q6 (.lst (xs.take i++xs.drop (i+1))))))
  exact q2 _ _ kk ⟨l6,_,rfl,(k1.trans (k2.trans k5)).free q6,ac,bp (bP i (S.hcs.mono kk)) (bQ (i+1) (S.hcs.mono kk))⟩
end
end K63
namespace K63
open PySem L2 OD
abbrev kq:Stmt:=cW 28
abbrev kr:Stmt:=cW 29
def a_:Str:=Str.ofString "unit"
def bz:Str:=Str.ofString "pure"
def aG:Str:=Str.ofString "within"
def aD:Str:=Str.ofString "blocked"
theorem iJ:SeqAt.shaped (.str br)=true:=Nice.shaped (cM 8 (by decide+kernel))
theorem iK:SeqAt.shaped (.str a_)=true:=Nice.shaped (cM 8 (by decide+kernel))
theorem iL:SeqAt.shaped (.str bz)=true:=Nice.shaped (cM 8 (by decide+kernel))
theorem fu:SeqAt.shaped (.str aG)=true:=Nice.shaped (cM 8 (by decide+kernel))
theorem eg:SeqAt.shaped (.str aD)=true:=Nice.shaped (cM 8 (by decide+kernel))
def aR (t:Str)(cs:List (List Int))(d:PyData):Option (List (List Int)):=
 if formB br 2 d=true then fL t cs (j_ d 1)
 else if formB a_ 2 d=true then fM t cs (j_ d 1)
 else if formB bz 2 d=true then gw t cs (j_ d 1)
 else if formB aG 3 d=true then fN cs (j_ d 1) (j_ d 2)
 else if formB aD 3 d=true then d_ t cs (j_ d 1) (j_ d 2)
 else none
inductive oO (vs:List V)(H:Hp)(Q:VK):Prop
 |mk (p q:Addr)(t:Str)(xs:List V)(cs:List (List Int))(v:V)(d:PyData)(h0:vs=[.ref p,v])(h1:SentAt H p q t xs cs)(h2:RD H d v)(h3:uU d)(h4:∀ v' H',Same H H'->RC H H' (aR t cs d) v'->Q v' H'):oO vs H Q
def lB:Sp:=fun vs H Q _=>oO vs H Q
section
variable {P:Program}{w:World}{K:PySem.W.Frag}{mg:Str->Option Value}{base:Heap}{CB:Addr}
theorem lC:ay ["sentence","step"] ["sentence","step"] (ai kq):=⟨rfl,rfl,rfl,by decide+kernel,rfl,by decide+kernel,by decide+kernel⟩
theorem oP {f g1 g2 g3 g4 g5 g6:Addr}{fd e1 e2 e3 e4 e5 e6:FuncData}(F:Fun K "clauses_after" "clauses_after" kq f fd)(Gbegins_with:Fn P w K mg base 1 "begins_with" g1 e1 ["thing","word","many"] rj)(Gbehind_drop:Fn P w K mg base 4 "behind_drop" g2 e2 ["sentence","place"] (mZ fL))(Gbehind_unit:Fn P w K mg base 4 "behind_unit" g3 e3 ["sentence","place"] (mZ fM))(Gbehind_pure:Fn P w K mg base 3 "behind_pure" g4 e4 ["sentence","literal"] (mZ gw))(Gbehind_within:Fn P w K mg base 3 "behind_within" g5 e5 ["sentence","place","within"] (qu fun _=>fN))(Gbehind_blocked:Fn P w K mg base 3 "behind_blocked" g6 e6 ["sentence","place","literal"] (qu d_)):aY P w K mg base cu 5 f fd ["sentence","step"] lB:=by
 have sc:=lC
 refine F.ok lC (fun vs H Q E h=>?_) (fun cdv A outer s H vs Q E hr h=>?_)
 ·obtain⟨p,q,t,xs,cs,v,d,rfl,_⟩:=h
  rfl
 obtain⟨p,q,t,xs,cs,v,d,rfl,S,hd,hsh,q'⟩:=h
 refine⟨_,(ae (aH (aK (aw Gbegins_with hr (by omega) rfl (aa (pv 1) (aa aJ (aa ah ad))))) (ag (aj (aw Gbehind_drop hr (by omega) rfl (aa (pv 0) (aa (az ar (pv 1) ah (fun _ _=>rfl)) ad))))) au)
  (ae (aH (aK (aw Gbegins_with hr (by omega) rfl (aa (pv 1) (aa aJ (aa ah ad))))) (ag (aj (aw Gbehind_unit hr (by omega) rfl (aa (pv 0) (aa (az ar (pv 1) ah (fun _ _=>rfl)) ad))))) au)
  (ae (aH (aK (aw Gbegins_with hr (by omega) rfl (aa (pv 1) (aa aJ (aa ah ad))))) (ag (aj (aw Gbehind_pure hr (by omega) rfl (aa (pv 0) (aa (az ar (pv 1) ah (fun _ _=>rfl)) ad))))) au)
  (ae (aH (aK (aw Gbegins_with hr (by omega) rfl (aa (pv 1) (aa aJ (aa ah ad))))) (ag (aj (aw Gbehind_within hr (by omega) rfl (aa (pv 0) (aa (az ar (pv 1) ah (fun _ _=>rfl)) (aa (az ar (pv 1) ah (fun _ _=>rfl)) ad)))))) au)
  (ae (aH (aK (aw Gbegins_with hr (by omega) rfl (aa (pv 1) (aa aJ (aa ah ad))))) (ag (aj (aw Gbehind_blocked hr (by omega) rfl (aa (pv 0) (aa (az ar (pv 1) ah (fun _ _=>rfl)) (aa (az ar (pv 1) ah (fun _ _=>rfl)) ad)))))) au)
  (ag (aj aW))))))),?_⟩
 unfold aR at q'
 refine⟨_,rfl,v,d,br,2,rfl,hd,by decide,iJ,hsh,_,rfl,?_⟩
 cases c1:formB br 2 d with
 |true=>
  rw[c1,if_pos rfl] at q'
  obtain⟨ds,rfl,hl⟩:=dG c1
  obtain⟨b,zs,rfl,hb,hz⟩:=ba hd
  obtain⟨d0,d1,x0,x1,rfl,rfl,r0,r1⟩:=eU hz hl
  exact aI ⟨_,rfl,_,rfl,.inr (.inl ⟨b,_,1,x1,rfl,rfl,SqT.of hb,rfl,p,q,t,xs,cs,x1,d1,rfl,S,r1,q'⟩)⟩
 |false=>
 rw[c1,if_neg Bool.false_ne_true] at q'
 refine aA ⟨_,rfl,v,d,a_,2,rfl,hd,by decide,iK,hsh,_,rfl,?_⟩
 cases c2:formB a_ 2 d with
 |true=>
  rw[c2,if_pos rfl] at q'
  obtain⟨ds,rfl,hl⟩:=dG c2
  obtain⟨b,zs,rfl,hb,hz⟩:=ba hd
  obtain⟨d0,d1,x0,x1,rfl,rfl,r0,r1⟩:=eU hz hl
  exact aI ⟨_,rfl,_,rfl,.inr (.inl ⟨b,_,1,x1,rfl,rfl,SqT.of hb,rfl,p,q,t,xs,cs,x1,d1,rfl,S,r1,q'⟩)⟩
 |false=>
 rw[c2,if_neg Bool.false_ne_true] at q'
 refine aA ⟨_,rfl,v,d,bz,2,rfl,hd,by decide,iL,hsh,_,rfl,?_⟩
 cases c3:formB bz 2 d with
 |true=>
  rw[c3,if_pos rfl] at q'
  obtain⟨ds,rfl,hl⟩:=dG c3
  obtain⟨b,zs,rfl,hb,hz⟩:=ba hd
  obtain⟨d0,d1,x0,x1,rfl,rfl,r0,r1⟩:=eU hz hl
  exact aI ⟨_,rfl,_,rfl,.inr (.inl ⟨b,_,1,x1,rfl,rfl,SqT.of hb,rfl,p,q,t,xs,cs,x1,d1,rfl,S,r1,q'⟩)⟩
 |false=>
 rw[c3,if_neg Bool.false_ne_true] at q'
 refine aA ⟨_,rfl,v,d,aG,3,rfl,hd,by decide,fu,hsh,_,rfl,?_⟩
 cases c4:formB aG 3 d with
 |true=>
  rw[c4,if_pos rfl] at q'
  obtain⟨ds,rfl,hl⟩:=dG c4
  obtain⟨b,zs,rfl,hb,hz⟩:=ba hd
  obtain⟨d0,d1,d2,x0,x1,x2,rfl,rfl,r0,r1,r2⟩:=d9 hz hl
  exact aI ⟨_,rfl,_,rfl,.inr (.inl ⟨b,_,1,x1,rfl,rfl,SqT.of hb,rfl,_,rfl,.inr (.inl ⟨b,_,2,x2,rfl,rfl,SqT.of hb,rfl,p,q,t,xs,cs,x1,x2,d1,d2,rfl,S,r1,r2,q'⟩)⟩)⟩
 |false=>
 rw[c4,if_neg Bool.false_ne_true] at q'
 refine aA ⟨_,rfl,v,d,aD,3,rfl,hd,by decide,eg,hsh,_,rfl,?_⟩
 cases c5:formB aD 3 d with
 |true=>
  rw[c5,if_pos rfl] at q'
  obtain⟨ds,rfl,hl⟩:=dG c5
  obtain⟨b,zs,rfl,hb,hz⟩:=ba hd
  obtain⟨d0,d1,d2,x0,x1,x2,rfl,rfl,r0,r1,r2⟩:=d9 hz hl
  exact aI ⟨_,rfl,_,rfl,.inr (.inl ⟨b,_,1,x1,rfl,rfl,SqT.of hb,rfl,_,rfl,.inr (.inl ⟨b,_,2,x2,rfl,rfl,SqT.of hb,rfl,p,q,t,xs,cs,x1,x2,d1,d2,rfl,S,r1,r2,q'⟩)⟩)⟩
 |false=>
  rw[c5,if_neg Bool.false_ne_true] at q'
  exact aA (q' _ _ (Same.refl _) rfl)
theorem lD:ay ["sentence","step","clauses"] ["sentence","step"] (ai kr):=⟨rfl,rfl,rfl,by decide+kernel,rfl,by decide+kernel,by decide+kernel⟩
end
end K63
namespace K63
open PySem L2 OD
abbrev oQ:Stmt:=cW 15
abbrev kt:Stmt:=cW 12
structure u_ (mg:Str->Option Value):Prop where
 abs:mg "abs"=none
 max:mg "max"=none
 tuple:mg "tuple"=none
 list:mg "list"=none
 len:mg "len"=none
 range:mg "range"=none
inductive rp (vs:List V)(H:Hp)(Q:VK):Prop
 |mk (p:Addr)(t:Str)(w:V)(hw:Bool)(h0:vs=[.ref p,.str (b9 hw)])(h1:H p=some (.tup [.str t,w]))(h2:t.length<=900)(h3:∀ (l:Addr) (H':Hp),Same H H'->H' l=some (.lst ((cN t hw).map V.int))->Q (.ref l) H'):rp vs H Q
def oR:Sp:=fun vs H Q _=>rp vs H Q
def lE:Sp:=fun vs H Q _=>∃ b:Bool,vs=[.str (b9 b)]/\Q (.str (b9 (!b))) H
inductive rq (H:Hp)(D p:Addr)(t:Str)(hw:Bool)(i:Nat)(σ:St)(ys:List V)(H2:Hp):Prop
 |mk (v0:Option V)(h0:σ=[v0,some (.str (b9 hw)),some (.ref p)])(h1:ys=(((List.range i).filter fun i=>cq t i == hw).map fun (i:Nat)=>V.int ((i:Int)+1)))(h2:H2=upd H D (.lst ys)):rq H D p t hw i σ ys H2
section
variable {P:Program}{w:World}{K:PySem.W.Frag}{mg:Str->Option Value}{base:Heap}
theorem oS:ay ["sentence","hand"] ["sentence","hand"] (ai oQ):=⟨rfl,rfl,rfl,by decide+kernel,rfl,by decide+kernel,by decide+kernel⟩
theorem qv {f f1:Addr}{fd d1:FuncData}(F:Fun K "variables_of" "variables_of" oQ f fd)(T:u_ mg)(Ghand_of:Fn P w K mg base 1 "hand_of" f1 d1 ["sentence","variable"] kg):aY P w K mg base cu 2 f fd ["sentence","hand"] oR:=by
 have sc:=oS
 refine F.ok oS (fun vs H Q E h=>?_) (fun cdv A outer s H vs Q E hr h=>?_)
 ·obtain⟨p,t,w,hw,rfl,_⟩:=h
  rfl
 obtain⟨p,t,w,hw,rfl,hp,h9,q⟩:=h
 have hu:=hr.units
 refine⟨_,(ag (aj (aP (NY:=["variable","hand","sentence"]) (idx:=[none,some 1,some 0]) rfl ⟨by with_unfolding_all rfl,(by with_unfolding_all exact⟨rfl,rfl,trivial⟩),fun _=>by rfl,by rfl,by rfl,by rfl,by decide⟩ (gO rfl T.range (aa ah (aa (aB b0 (ak aF rfl T.len PySem.boot_len (aa (az ar (pv 0) ah (fun _ _=>rfl)) ad)) ah) ad))) (fun _ _ _ _=>(ao (i:=0) (show List.Nodup (["variable","hand","sentence"]:List Str) by decide+kernel) rfl (Or.inl rfl))) (fun _ _ _ _=>(bn (am (bd hu) (aw Ghand_of hr (by omega) rfl (aa (pv 2) (aa (pv 0) ad))) (pv 1) (ax _)))) (fun _ _ _ _=>(pv 0))))),?_⟩
 refine⟨_,rfl,.inr (.inl ⟨p,_,0,.str t,rfl,rfl,SqT.of hp,rfl,.str t,_,rfl,⟨Nat.le_of_lt (av (by omega)),rfl⟩,_,_,rfl,rfl,?_⟩)⟩
 refine⟨_,_,rfl,⟨by decide,by decide,by omega,by omega⟩,fun D hD=>?_⟩
 have en:((t.length:Int)+1 - 1).toNat=t.length:=by omega
 refine gi (lo:=1) (n:=((t.length:Int)+1 - 1).toNat) (rq H D p t hw)
  ⟨none,rfl,rfl,rfl⟩ ?_ ?_ ?_
 ·rintro i σ ys H2 _ ⟨_,_,_,rfl⟩
  exact ac
 ·rintro i σ ys H2 hi ⟨v0,rfl,rfl,rfl⟩
  rw[en] at hi
  have hp2:=af hD (.lst (((List.range i).filter fun i=>cq t i == hw).map fun (i:Nat)=>V.int ((i:Int)+1))) _ _ hp
  have ei:(1:Int)+(i:Int)=(i:Int)+1:=by omega
  rw[ei]
  refine⟨_,rfl,_,rfl,p,t,w,i,rfl,hp2,hi,h9,_,rfl,.inl ⟨rfl,_,rfl,?_⟩⟩
  rw[eR]
  by_cases g0:cq t i=hw
  ·have g:(cq t i == hw)=true:=by rw[g0];exact beq_self_eq_true _
   rw[decide_eq_true g0]
   refine aI ⟨_,rfl,ac,?_,_,rfl,?_,fS⟩
   ·have:=List.length_filter_le (fun i=>cq t i == hw) (List.range i)
    rw[List.length_range] at this
    rw[List.length_map]
    exact av (by omega)
   ·rw[List.range_succ,List.filter_append,List.filter_cons_of_pos (p:=fun i=>cq t i == hw) g,List.map_append]
    rfl
  ·rw[decide_eq_false g0]
   refine aA ⟨_,rfl,?_,rfl⟩
   rw[List.range_succ,List.filter_append,List.filter_cons_of_neg (p:=fun i=>cq t i == hw) (fun z=>g0 (by simpa using z))]
   simp
 ·rintro σ ys H2 ⟨_,_,rfl,rfl⟩
  refine q D _ (af hD _) ?_
  rw[ac,en]
  unfold cN
  rw[List.map_map]
  rfl
theorem qw:ay ["hand"] ["hand"] (ai kt):=⟨rfl,rfl,rfl,by decide+kernel,rfl,by decide+kernel,by decide+kernel⟩
theorem oT {f:Addr}{fd:FuncData}(F:Fun K "other_hand" "other_hand" kt f fd)(T:vD mg):aY P w K mg base cu 1 f fd ["hand"] lE:=by
 refine F.ok qw (fun vs H Q E h=>?_) (fun cdv A outer s H vs Q E hr h=>?_)
 ·obtain⟨b,rfl,_⟩:=h
  rfl
 obtain⟨b,rfl,q⟩:=h
 have hu:=hr.units
 refine⟨_,(ag (aj (f_ (am (bd hu) (pv 0) (bO rfl T.g_WISHER) (ax _)) (bO rfl T.g_SPOILER) (bO rfl T.g_WISHER)))),?_⟩
 refine⟨_,rfl,.inl ⟨rfl,_,rfl,?_⟩⟩
 have e:decide (V.str (b9 b)=V.str (Str.ofString "wisher"))=b:=by
  have z:=eR b true
  have z2:b9 true=Str.ofString "wisher":=rfl
  rw[z2] at z
  rw[z]
  cases b<;>rfl
 rw[e]
 cases b with
 |true=>exact aI q
 |false=>exact aA q
end
abbrev gy:Stmt:=cW 16
theorem ib (c:List Int):(c.map V.int).all dR=true:=by
 rw[List.all_map]
 exact List.all_eq_true.mpr fun _ _=>rfl
theorem jG (c:List Int)(p:Int->Bool)(f:Int->V):((c.map V.int).filter (mK p)).map (uF f)=(c.filter p).map f:=by
 induction c with
 |nil=>rfl
 |cons x r ih=>
  rw[List.map_cons]
  by_cases h:p x=true
  ·rw[List.filter_cons_of_pos (p:=mK p) (a:=V.int x) h,List.filter_cons_of_pos (p:=p) h,List.map_cons,List.map_cons,ih]
   rfl
  ·rw[List.filter_cons_of_neg (p:=mK p) (a:=V.int x) h,List.filter_cons_of_neg (p:=p) h,ih]
theorem qx {K:PySem.W.Frag}{H:Hp}{p:Addr}{ns:List Int}{Q:VK}(h:SqL K H p (ns.map V.int))(h0:∀ a∈ns,0<=a)(q:Q (.int (ns.foldl max 0)) H):nZ K (.ref p) (.int 0) H Q:=
 ⟨p,ns,rfl,h,fun e=>by rw[e] at q;exact q,fun M m1 m2=>by rw[n5 h0 (.inl m1) m2 (h0 M m1)] at q;exact q⟩
theorem lF (l:Int):0<=al l:=by
 rcases dZ l with⟨_,e⟩|⟨_,e⟩<;>omega
section
variable {P:Program}{w:World}{K:PySem.W.Frag}{mg:Str->Option Value}{base:Heap}
theorem ic:ay ["sentence","hand","literals","others","last"] ["sentence","hand","literals"] (ai gy):=⟨rfl,rfl,rfl,by decide+kernel,rfl,by decide+kernel,by decide+kernel⟩
theorem ku {f f1 f2:Addr}{fd d1 d2:FuncData}(F:Fun K "dropped" "dropped" gy f fd)(T:u_ mg)(Gother_hand:Fn P w K mg base 1 "other_hand" f1 d1 ["hand"] lE)(Gvariables_of:Fn P w K mg base 2 "variables_of" f2 d2 ["sentence","hand"] oR):
  aY P w K mg base cu 3 f fd ["sentence","hand","literals"] gx:=by
 have sc:=ic
 refine F.ok ic (fun vs H Q E h=>?_) (fun cdv A outer s H vs Q E hr h=>?_)
 ·obtain⟨p,q,t,w,hw,c,rfl,_⟩:=h
  rfl
 obtain⟨p,q,t,w,hw,c,rfl,hp,h9,hq,hc9,hrg,q'⟩:=h
 have hu:=hr.units
 refine⟨_,(ae (aC (i:=3) sc.nd rfl (Or.inr rfl) (aw Gvariables_of hr (by omega) rfl (aa (pv 0) (aa (aw Gother_hand hr (by omega) rfl (aa (pv 1) ad)) ad))))
  (ae (aC (i:=4) sc.nd rfl (Or.inr rfl) (qc rfl rfl T.max (aP (NY:=["literal","others"]) (idx:=[none,some 3]) rfl ⟨by with_unfolding_all rfl,(by with_unfolding_all exact⟨rfl,trivial⟩),fun _=>by rfl,by rfl,by rfl,by rfl,by decide⟩ (ca (pv 2)) (fun _ _ _ _=>(ao (i:=0) (show List.Nodup (["literal","others"]:List Str) by decide+kernel) rfl (Or.inl rfl))) (fun _ _ _ _=>(bn (am (b5 (K:=K) rfl) (ak bv rfl T.abs PyProof.Rows.boot_abs (aa (pv 0) ad)) (pv 1) (by with_unfolding_all rfl)))) (fun _ _ _ _=>(ak bv rfl T.abs PyProof.Rows.boot_abs (aa (pv 0) ad)))) ah))
  (ag (aj (b6 bX rfl T.tuple PyProof.Rows.boot_tuple (aa (aP (NY:=["literal","last"]) (idx:=[none,some 4]) rfl ⟨by with_unfolding_all rfl,(by with_unfolding_all exact⟨rfl,trivial⟩),fun _=>by rfl,by rfl,by rfl,by rfl,by decide⟩ (ca (pv 2)) (fun _ _ _ _=>(ao (i:=0) (show List.Nodup (["literal","last"]:List Str) by decide+kernel) rfl (Or.inl rfl))) (fun _ _ _ _=>(bn (am iZ (ak bv rfl T.abs PyProof.Rows.boot_abs (aa (pv 0) ad)) (pv 1) (ax _)))) (fun _ _ _ _=>(pv 0))) ad)))))),?_⟩
 refine⟨_,rfl,_,rfl,hw,rfl,p,t,w,!hw,rfl,hp,h9,fun l H1 k1 hl=>?_⟩
 refine⟨_,rfl,q,rfl,⟨_,SqT.of (k1 _ _ hq)⟩,fun D hD=>?_⟩
 refine bx [some (.ref l)] (mK fun z=>(cN t (!hw)).contains (al z)) (uF fun z=>.int (al z)) rfl (k1 _ _ hq) hD (by rw[List.length_map];omega) ?_ ?_ ?_
 ·intro x hx H' R k r
  obtain⟨z,_,rfl⟩:=bZ hx
  refine⟨_,rfl,z,rfl,_,rfl,l,_,rfl,.inl (SqL.of (k _ _ hl)),rfl,ib _,_,rfl,?_⟩
  show R (c_ (.int (al z)) ((cN t (!hw)).map V.int)) H'
  rw[bc]
  exact r
 ·intro x hx _ H' R k r
  obtain⟨z,_,rfl⟩:=bZ hx
  exact⟨_,rfl,z,rfl,r⟩
 have e:((c.map V.int).filter (mK fun z=>(cN t (!hw)).contains (al z))).map (uF fun z=>.int (al z))=((c.filter fun l=>!(cq t (al l - 1).toNat == hw)).map al).map V.int:=by
  rw[jG,List.map_map]
  have:(c.filter fun z=>(cN t (!hw)).contains (al z))=c.filter fun l=>!(cq t (al l - 1).toNat == hw):=List.filter_congr fun z hz=>qd (hrg z hz).1 (hrg z hz).2
  rw[this]
  rfl
 rw[e]
 have k2:=af hD (.lst (((c.filter fun l=>!(cq t (al l - 1).toNat == hw)).map al).map V.int))
 have r2:upd H1 D (.lst (((c.filter fun l=>!(cq t (al l - 1).toNat == hw)).map al).map V.int)) D=some (.lst (((c.filter fun l=>!(cq t (al l - 1).toNat == hw)).map al).map V.int)):=ac
 generalize upd H1 D (.lst (((c.filter fun l=>!(cq t (al l - 1).toNat == hw)).map al).map V.int))=H2 at k2 r2
 unfold tC
 refine qx (ns:=(c.filter fun l=>!(cq t (al l - 1).toNat == hw)).map al) (SqL.of r2) (fun a ha=>?_) ?_
 ·obtain⟨z,_,rfl⟩:=List.mem_map.mp ha
  exact lF z
 refine⟨_,rfl,q,rfl,⟨_,SqT.of (k2 _ _ (k1 _ _ hq))⟩,fun D2 hD2=>?_⟩
 refine bx [some (.int (dF t hw c))] (mK fun l=>decide (al l<=dF t hw c)) (fun x=>x) rfl (k2 _ _ (k1 _ _ hq)) hD2 (by rw[List.length_map];omega) ?_ ?_ ?_
 ·intro x hx H' R k r
  obtain⟨z,_,rfl⟩:=bZ hx
  exact⟨_,rfl,z,rfl,_,rfl,_,_,rfl,rfl,_,rfl,r⟩
 ·intro x hx _ H' R k r
  exact⟨_,rfl,r⟩
 rw[bN c (fun l=>decide (al l<=dF t hw c)) _ fun i=>rfl]
 refine⟨D2,_,rfl,.inl ⟨SqL.of ac,fun L3 hL3=>?_⟩⟩
 exact q' L3 _ (((k1.trans k2).trans (af hD2 _)).trans (af hL3 _)) ac
end
end K63
namespace K63
open PySem L2 OD
abbrev iM:Stmt:=cW 13
section
variable {P:Program}{w:World}{K:PySem.W.Frag}{mg:Str->Option Value}{base:Heap}
theorem jH:ay ["clauses","literal","left","clause"] ["clauses","literal"] (ai iM):=⟨rfl,rfl,rfl,by decide+kernel,rfl,by decide+kernel,by decide+kernel⟩
theorem m4 {f:Addr}{fd:FuncData}(F:Fun K "clauses_behind" "clauses_behind" iM f fd)(T:u_ mg):aY P w K mg base cu 1 f fd ["clauses","literal"] ft:=by
 have sc:=jH
 refine F.ok jH (fun vs H Q E h=>?_) (fun cdv A outer s H vs Q E hr h=>?_)
 ·obtain⟨p,l,xs,cs,rfl,_⟩:=h
  rfl
 obtain⟨p,l,xs,cs,rfl,hp,hcs,hn,hc9,q⟩:=h
 have hu:=hr.units
 refine⟨_,(ae (aC (i:=2) sc.nd rfl (Or.inl rfl) (cx ad))
  (ae (bA PassesOwn.never rfl (aS (pv 0)) (ao (i:=3) sc.nd rfl (Or.inl rfl))
   (ag (aH (am bS (pv 1) (pv 3) (by with_unfolding_all rfl)) (ag (eD (gU PySem.F.plainAttrs_list PySem.F.slot_list_append PySem.F.type_list_append cI (pv 2) (aa (b6 bX rfl T.tuple PyProof.Rows.boot_tuple (aa (aP (NY:=["other","literal"]) (idx:=[none,some 1]) rfl ⟨by with_unfolding_all rfl,(by with_unfolding_all exact⟨rfl,trivial⟩),fun _=>by rfl,by rfl,by rfl,by rfl,by decide⟩ (ca (pv 3)) (fun _ _ _ _=>(ao (i:=0) (show List.Nodup (["other","literal"]:List Str) by decide+kernel) rfl (Or.inl rfl))) (fun _ _ _ _=>(bn (am (cY hu) (pv 0) (eE dq (pv 1)) (ax _)))) (fun _ _ _ _=>(pv 0))) ad)) ad)))) au)))
  (ag (aj (pv 2))))),?_⟩
 refine⟨Nat.zero_le _,fun lf hlf=>?_⟩
 have hp1:upd H lf (.lst []) p=some (.lst xs):=(af hlf _) _ _ hp
 refine⟨_,rfl,p,rfl,⟨_,SqL.of hp1⟩,cb (K:=K) (a:=p) (xs:=xs)
  (fun i σ H2=>∃ cv,σ=[some (.ref p),some (.int l),some (.ref lf),cv]/\∃ ys,H2 lf=some (.lst ys)/\CLs H2 (aT l (cs.take i)) ys/\Same H H2)
  ⟨none,rfl,[],ac,.nil,af hlf _⟩ ?_ ?_ ?_⟩
 ·rintro i σ H2 _ ⟨_,_,_,_,_,k2⟩
  exact SqL.of (k2 _ _ hp)
 ·rintro i x σ H2 hx ⟨cv,rfl,ys,g1,g2,k2⟩
  obtain⟨c,hc,t,rfl,ht⟩:=hcs.get hx
  have ht2:=k2 _ _ ht
  have hcm:c∈cs:=List.mem_of_getElem? hc
  have e:cs.take (i+1)=cs.take i++[c]:=by rw[List.take_add_one,hc];rfl
  have hyl:ys.length<=900:=by
   rw[← g2.length]
   refine Nat.le_trans (List.length_filterMap_le _ _) ?_
   rw[List.length_take]
   omega
  refine⟨_,rfl,_,rfl,t,c.map V.int,rfl,.inr (SqT.of ht2),rfl,ib c,_,rfl,?_⟩
  rw[bc]
  cases gc:c.contains l with
  |false=>
   refine aI ⟨_,rfl,.inl ⟨rfl,_,SqL.of g1⟩,_,rfl,t,rfl,⟨_,SqT.of ht2⟩,fun D hD=>?_⟩
   refine bx [some (.int l)] (fun x=>!decide (x=.int (-l))) (fun x=>x) rfl ht2 hD (by rw[List.length_map];exact hc9 c hcm) ?_ ?_ ?_
   ·intro x hx H' R k r
    obtain⟨z,_,rfl⟩:=bZ hx
    exact⟨_,rfl,_,rfl,_,rfl,.inl ⟨rfl,_,rfl,r⟩⟩
   ·intro x hx _ H' R k r
    exact⟨_,rfl,r⟩
   ·rw[bN c (fun o=>!decide (o=-l)) _ fun i=>by congr 1;exact decide_eq_decide.mpr ⟨fun z=>V.int.inj z,fun z=>congrArg _ z⟩]
    refine⟨D,_,rfl,.inl ⟨SqL.of ac,fun t' ht'=>?_⟩⟩
    have nlD:lf≠D:=aq g1 hD
    have g1':upd H2 D (.lst ((c.filter fun o=>!decide (o=-l)).map V.int)) lf=some (.lst ys):=by rw[ap nlD];exact g1
    have k3:=af hD (.lst ((c.filter fun o=>!decide (o=-l)).map V.int))
    generalize upd H2 D (.lst ((c.filter fun o=>!decide (o=-l)).map V.int))=H3 at g1' ht' k3
    have k4:=af ht' (.tup ((c.filter fun o=>!decide (o=-l)).map V.int))
    have g1'':=k4 _ _ g1'
    have ht4:upd H3 t' (.tup ((c.filter fun o=>!decide (o=-l)).map V.int)) t'=some (.tup ((c.filter fun o=>!decide (o=-l)).map V.int)):=ac
    generalize upd H3 t' (.tup ((c.filter fun o=>!decide (o=-l)).map V.int))=H4 at g1'' ht4 k4
    refine⟨lf,ys,_,rfl,rfl,g1'',av (by omega),_,rfl,_,ac,?_,(k2.trans (k3.trans k4)).upd_new hlf _⟩
    rw[e]
    unfold aT
    rw[List.filterMap_append]
    have eb:List.filterMap (cp l) [c]=[c.filter fun o=>!decide (o=-l)]:=by
     rw[List.filterMap_cons]
     unfold cp
     rw[gc,if_neg Bool.false_ne_true]
     rfl
    rw[eb]
    exact CLs.snoc (CL.upd ⟨t',rfl,ht4⟩ g1'') ((g2.mono (k3.trans k4)).upd g1'')
  |true=>
   refine aA ⟨_,rfl,ys,g1,?_,k2⟩
   rw[e]
   unfold aT
   rw[List.filterMap_append]
   have eb:List.filterMap (cp l) [c]=[]:=by
    rw[List.filterMap_cons]
    unfold cp
    rw[gc,if_pos rfl]
    rfl
   rw[eb,List.append_nil]
   exact g2
 ·rintro σ H2 ⟨cv,rfl,ys,g1,g2,k2⟩
  rw[List.take_of_length_le (by rw[hcs.length];exact Nat.le_refl _)] at g2
  exact⟨_,rfl,q lf ys H2 k2 hlf g1 g2⟩
end
end K63
namespace K63
open PySem L2 OD
theorem jI (z:Int):al (-z)=al z:=by
 rcases dZ z with⟨_,e⟩|⟨_,e⟩<;>rcases dZ (-z) with⟨_,e'⟩|⟨_,e'⟩<;>omega
theorem ie {c:List Int}{z:Int}:∀ {k:List Int},Ups k->bj c z k=k.any fun x=>decide (al x < al z)&&c.contains (-x)
 |[],_=>rfl
 |x::r,h=>by
  have e:bj c z (x::r)=if al z<=al x then false else if c.contains (-x)=true then true else bj c z r:=rfl
  rw[e,List.any_cons]
  by_cases g:al z<=al x
  ·rw[if_pos g,decide_eq_false (by omega),Bool.false_and,Bool.false_or]
   refine (List.any_eq_false.mpr fun y hy=>?_).symm
   have:=h.head y hy
   rw[decide_eq_false (by omega)]
   exact Bool.false_ne_true
  ·rw[if_neg g,decide_eq_true (by omega),Bool.true_and]
   cases g2:c.contains (-x) with
   |true=>rfl
   |false=>
    rw[if_neg Bool.false_ne_true,ie h.tail]
    rfl
theorem oU {c k:List Int}{z:Int}:(k.any fun x=>decide (al x < al z)&&c.contains (-x))=(c.any fun o=>decide (al o < al z)&&k.contains (0 - o)):=by
 rw[Bool.eq_iff_iff,List.any_eq_true,List.any_eq_true]
 constructor
 ·rintro⟨x,hx,h⟩
  rw[Bool.and_eq_true] at h
  refine⟨-x,List.contains_iff_mem.mp h.2,?_⟩
  rw[Bool.and_eq_true,jI]
  refine⟨h.1,List.contains_iff_mem.mpr ?_⟩
  rw[Int.zero_sub,Int.neg_neg]
  exact hx
 ·rintro⟨o,ho,h⟩
  rw[Bool.and_eq_true] at h
  refine⟨0 - o,List.contains_iff_mem.mp h.2,?_⟩
  rw[Bool.and_eq_true,Int.zero_sub,jI,Int.neg_neg]
  exact⟨h.1,List.contains_iff_mem.mpr ho⟩
theorem gA {α:Type}(l:List α)(p:α->Bool):decide ((l.filter p).length=0)=!l.any p:=by
 cases h:l.any p with
 |true=>
  obtain⟨x,hx,hp⟩:=List.any_eq_true.mp h
  refine decide_eq_false fun z=>?_
  have:=List.length_pos_of_mem (List.mem_filter.mpr ⟨hx,hp⟩)
  omega
 |false=>
  refine decide_eq_true ?_
  rw[List.filter_eq_nil_iff.mpr fun a ha=>by
   have:=List.any_eq_false.mp h a ha
   exact this]
  rfl
theorem di (l:Int)(cs:List (List Int)):aT l cs=(cs.filter fun c=>!c.contains l).map fun c=>c.filter fun x=>!decide (x=-l):=by
 unfold aT
 induction cs with
 |nil=>rfl
 |cons c r ih=>
  cases g:c.contains l with
  |true=>
   rw[List.filterMap_cons_none (by unfold cp;rw[if_pos g]),List.filter_cons_of_neg (by rw[g];decide)]
   exact ih
  |false=>
   rw[List.filterMap_cons_some (b:=c.filter fun x=>!decide (x=-l)) (by unfold cp;rw[if_neg (by rw[g];exact Bool.false_ne_true)]),List.filter_cons_of_pos (by rw[g];rfl),List.map_cons,ih]
theorem kx {z:Int}{cs:List (List Int)}(h:(cs.any fun c=>c.contains (-z))=false):aT z cs=cs.filter fun c=>!c.contains z:=by
 rw[di]
 conv=>rhs;rw[← List.map_id (cs.filter fun c=>!c.contains z)]
 refine List.map_congr_left fun c hc=>?_
 have hm:=(List.mem_filter.mp hc).1
 have hn:=List.any_eq_false.mp h c hm
 refine List.filter_eq_self.mpr fun x hx=>?_
 have:x≠-z:=fun e=>hn (List.contains_iff_mem.mpr (by rw[← e];exact hx))
 rw[decide_eq_false this]
 rfl
theorem kA {z:Int}{cs:List (List Int)}(h:(cs.any fun c=>c.contains (-z))=false):aT (-z) cs=cs.map fun c=>c.filter fun x=>!decide (x=z):=by
 rw[di,Int.neg_neg]
 have e:(cs.filter fun c=>!c.contains (-z))=cs:=List.filter_eq_self.mpr fun c hc=>by
  have hn:=List.any_eq_false.mp h c hc
  cases g:c.contains (-z) with
  |true=>exact absurd g hn
  |false=>rfl
 rw[e]
end K63
namespace K63
open PySem L2 OD
abbrev tz:Stmt:=cW 43
abbrev kB:Stmt:=cW 45
abbrev oV:Stmt:=cW 46
abbrev kC:Stmt:=cW 47
structure qy (mg:Str->Option Value):Prop where
 isinstance:mg "isinstance"=none
 int:mg "int"=none
 bool:mg "bool"=none
 tuple:mg "tuple"=none
 list:mg "list"=none
 abs:mg "abs"=none
 len:mg "len"=none
 max:mg "max"=none
 range:mg "range"=none
inductive uW (vs:List V)(H:Hp)(Q:VK):Prop
 |mk (t:Str)(hw:Bool)(l:Int)(h0:vs=[.str t,.str (b9 hw),.int l])(h1:1<=al l)(h2:al l<=t.length)(h3:t.length<=900)(h4:Q (.bl (cq t (al l - 1).toNat == hw)) H):uW vs H Q
def jJ:Sp:=fun vs H Q _=>uW vs H Q
inductive oW (vs:List V)(H:Hp)(Q:VK):Prop
 |mk (q:Addr)(t:Str)(hw:Bool)(c:List Int)(h0:vs=[.str t,.str (b9 hw),.ref q])(h1:t.length<=30)(h2:lp H q c)(h3:ld t.length c)(h4:∀ (l:Addr) (H':Hp),Same H H'->lp H' l (gt t hw c)->Q (.ref l) H'):oW vs H Q
def lG:Sp:=fun vs H Q _=>oW vs H Q
inductive oX (vs:List V)(H:Hp)(Q:VK):Prop
 |mk (a:Addr)(v:V)(d:PyData)(ys:List V)(h0:vs=[.ref a,v])(h1:H a=some (.lst ys))(h2:ys.length<=900)(h3:RD H d v)(h4:Q (.bl (bq ys.length d).isSome) H):oX vs H Q
def lH:Sp:=fun vs H Q _=>oX vs H Q
section
variable {P:Program}{w:World}{K:PySem.W.Frag}{mg:Str->Option Value}{base:Heap}
theorem rs:ay ["_law_turns","_law_hand","_law_literal"] ["_law_turns","_law_hand","_law_literal"] (ai tz):=⟨rfl,rfl,rfl,by decide+kernel,rfl,by decide+kernel,by decide+kernel⟩
theorem tD {f:Addr}{fd:FuncData}(F:Fun K "_law_own" "_law_own" tz f fd)(T:qy mg):aY P w K mg base cu 1 f fd ["_law_turns","_law_hand","_law_literal"] jJ:=by
 have sc:=rs
 refine F.ok rs (fun vs H Q E h=>?_) (fun cdv A outer s H vs Q E hr h=>?_)
 ·obtain⟨t,hw,l,rfl,_⟩:=h
  rfl
 obtain⟨t,hw,l,rfl,l1,l2,h9,q⟩:=h
 have hu:=hr.units
 refine⟨_,(ag (aj (bB (bd hu) (bB (bd hu) (az ar (pv 0) (aB dW (ak bv rfl T.abs PyProof.Rows.boot_abs (aa (pv 2) ad)) ah) (fun _ _=>rfl)) aJ (ax _)) (bB (bd hu) (pv 1) aJ (ax _)) (ax _)))),?_⟩
 have hil:(al l - 1).toNat < t.cps.toList.length:=by
  rw[Array.length_toList]
  show _ < t.length
  omega
 obtain⟨ch,hch⟩:∃ ch,t.cps.toList[(al l - 1).toNat]? =some ch:=⟨_,List.getElem?_eq_getElem hil⟩
 have hat:jT t.cps.toList (al l - 1)=some ch:=by
  have e:al l - 1=(((al l - 1).toNat:Nat):Int):=by omega
  rw[e]
  exact aZ hch
 refine⟨_,rfl,_,rfl,l,rfl,_,_,rfl,rfl,.inr (.inr ⟨t,_,_,rfl,rfl,Nat.le_of_lt (av (by omega)),hat,.inl ⟨rfl,_,rfl,.inl ⟨rfl,.inl ⟨rfl,?_⟩⟩⟩⟩)⟩
 rw[qY,← nY hch,uG]
 have e:decide (V.bl (cq t (al l - 1).toNat)=V.bl hw)=(cq t (al l - 1).toNat == hw):=by
  cases cq t (al l - 1).toNat<;>cases hw<;>rfl
 rw[e]
 exact q
theorem tE:ay ["_law_thing"] ["_law_thing"] (ai oV):=⟨rfl,rfl,rfl,by decide+kernel,rfl,by decide+kernel,by decide+kernel⟩
theorem qz {f:Addr}{fd:FuncData}(F:Fun K "_law_number" "_law_number" oV f fd)(T:qy mg):aY P w K mg base cu 1 f fd ["_law_thing"] dH:=by
 refine F.ok tE (fun vs H Q E h=>?_) (fun cdv A outer s H vs Q E hr h=>?_)
 ·obtain⟨v,d,rfl,_⟩:=h
  rfl
 obtain⟨v,d,rfl,hd,q⟩:=h
 have nd:=fj hd
 refine⟨_,(ag (aj (dl (ak bM rfl T.isinstance PyProof.Rows.boot_isinstance (aa (pv 0) (aa (dk (v:=.ty "int") rfl T.int PyProof.Rows.boot_int rfl) ad))) (dU (jU (ak bM rfl T.isinstance PyProof.Rows.boot_isinstance (aa (pv 0) (aa (dk (v:=.ty "bool") rfl T.bool PyProof.Rows.boot_bool rfl) ad)))))))),?_⟩
 refine⟨_,rfl,v,_,"int",_,rfl,jf d v hd,kZ d nd,_,rfl,?_⟩
 cases hI:gg d with
 |false=>
  rw[hI] at q
  exact aA q
 |true=>
  rw[hI] at q
  exact aI ⟨_,rfl,v,_,"bool",_,rfl,jf d v hd,jg d nd,_,rfl,q⟩
theorem lI:ay ["_law_turns","_law_hand","_law_literals","_law_last"] ["_law_turns","_law_hand","_law_literals"] (ai kB):=⟨rfl,rfl,rfl,by decide+kernel,rfl,by decide+kernel,by decide+kernel⟩
theorem oY {f g:Addr}{fd gd:FuncData}(F:Fun K "_law_dropped" "_law_dropped" kB f fd)(T:qy mg)(G_law_own:Fn P w K mg base 1 "_law_own" g gd ["_law_turns","_law_hand","_law_literal"] jJ):aY P w K mg base cu 2 f fd ["_law_turns","_law_hand","_law_literals"] lG:=by
 have sc:=lI
 refine F.ok lI (fun vs H Q E h=>?_) (fun cdv A outer s H vs Q E hr h=>?_)
 ·obtain⟨q,t,hw,c,rfl,_⟩:=h
  rfl
 obtain⟨q,t,hw,c,rfl,h9,hq,hok,q'⟩:=h
 have hu:=hr.units
 have hcl:=mP hok
 refine⟨_,(ae (aC (i:=3) sc.nd rfl (Or.inr rfl) (ak (mO rfl) rfl T.max PyProof.Rows.boot_max (aa (aB ci (cx (aa ah ad)) (aP (NY:=["_law_literal","_law_turns","_law_hand"]) (idx:=[none,some 0,some 1]) rfl ⟨by with_unfolding_all rfl,(by with_unfolding_all exact⟨rfl,rfl,trivial⟩),fun _=>by rfl,by rfl,by rfl,by rfl,by decide⟩ (ca (pv 2)) (fun _ _ _ _=>(ao (i:=0) (show List.Nodup (["_law_literal","_law_turns","_law_hand"]:List Str) by decide+kernel) rfl (Or.inl rfl))) (fun _ _ _ _=>(bn (bf (aK (aw G_law_own hr (by omega) rfl (aa (pv 1) (aa (pv 2) (aa (pv 0) ad)))))))) (fun _ _ _ _=>(ak bv rfl T.abs PyProof.Rows.boot_abs (aa (pv 0) ad))))) ad)))
  (ag (aj (b6 bX rfl T.tuple PyProof.Rows.boot_tuple (aa (aP (NY:=["_law_literal","_law_last"]) (idx:=[none,some 3]) rfl ⟨by with_unfolding_all rfl,(by with_unfolding_all exact⟨rfl,trivial⟩),fun _=>by rfl,by rfl,by rfl,by rfl,by decide⟩ (ca (pv 2)) (fun _ _ _ _=>(ao (i:=0) (show List.Nodup (["_law_literal","_law_last"]:List Str) by decide+kernel) rfl (Or.inl rfl))) (fun _ _ _ _=>(bn (am iZ (ak bv rfl T.abs PyProof.Rows.boot_abs (aa (pv 0) ad)) (pv 1) (ax _)))) (fun _ _ _ _=>(pv 0))) ad))))),?_⟩
 refine⟨(by show 1<=sizeLine;decide),fun l0 hl0=>?_⟩
 have k0:=af hl0 (.lst [.int 0])
 have r0:upd H l0 (.lst [.int 0]) l0=some (.lst [.int 0]):=ac
 generalize upd H l0 (.lst [.int 0])=H0 at k0 r0
 refine⟨_,rfl,q,rfl,⟨_,SqT.of (k0 _ _ hq)⟩,fun D hD=>?_⟩
 refine bx [some (.str t),some (.str (b9 hw))] (mK fun l=>!(cq t (al l - 1).toNat == hw)) (uF fun z=>.int (al z)) rfl (k0 _ _ hq) hD (by rw[List.length_map];omega) ?_ ?_ ?_
 ·intro x hx H' R k r
  obtain⟨z,hz,rfl⟩:=bZ hx
  have:=hok.2 z hz
  exact⟨_,rfl,_,rfl,_,rfl,t,hw,z,rfl,this.1,this.2,by omega,_,rfl,r⟩
 ·intro x hx _ H' R k r
  obtain⟨z,_,rfl⟩:=bZ hx
  exact⟨_,rfl,z,rfl,r⟩
 have e:((c.map V.int).filter (mK fun l=>!(cq t (al l - 1).toNat == hw))).map (uF fun z=>.int (al z))=((c.filter fun l=>!(cq t (al l - 1).toNat == hw)).map al).map V.int:=by
  rw[jG,List.map_map]
  rfl
 rw[e]
 have hfl:=List.length_filter_le (fun l=>!(cq t (al l - 1).toNat == hw)) c
 have hnn:∀ a∈(c.filter fun l=>!(cq t (al l - 1).toNat == hw)).map al,0<=a:=fun a ha=>by
  obtain⟨z,_,rfl⟩:=List.mem_map.mp ha
  exact lF z
 have el:dF t hw c=((c.filter fun l=>!(cq t (al l - 1).toNat == hw)).map al).foldl max 0:=rfl
 have hml:((c.filter fun l=>!(cq t (al l - 1).toNat == hw)).map al).length<=30:=by
  rw[List.length_map]
  omega
 generalize (c.filter fun l=>!(cq t (al l - 1).toNat == hw)).map al=ms at hnn el hml
 have k2:=af hD (.lst (ms.map V.int))
 have r2:upd H0 D (.lst (ms.map V.int)) D=some (.lst (ms.map V.int)):=ac
 generalize upd H0 D (.lst (ms.map V.int))=H2 at k2 r2
 refine⟨l0,D,_,_,rfl,rfl,k2 _ _ r0,r2,(by rw[List.length_map,List.length_singleton];exact Nat.le_of_lt (av (by omega))),fun p3 hp3=>?_⟩
 have k3:=af hp3 (.lst ([V.int 0]++ms.map V.int))
 have r3:upd H2 p3 (.lst ([V.int 0]++ms.map V.int)) p3=some (.lst ((0::ms).map V.int)):=ac
 generalize upd H2 p3 (.lst ([V.int 0]++ms.map V.int))=H3 at k3 r3
 refine⟨p3,0::ms,rfl,SqL.of r3,(fun z=>nomatch z),fun M m1 m2=>?_⟩
 have eM:dF t hw c=M:=by
  rw[el]
  refine n5 hnn ?_ (fun a ha=>m2 a (List.mem_cons_of_mem _ ha)) (m2 0 List.mem_cons_self)
  rcases List.mem_cons.mp m1 with z|z
  ·exact .inr z
  ·exact .inl z
 rw[← eM]
 have kk:=k0.trans (k2.trans k3)
 refine⟨_,rfl,q,rfl,⟨_,SqT.of (kk _ _ hq)⟩,fun D2 hD2=>?_⟩
 refine bx [some (.int (dF t hw c))] (mK fun l=>decide (al l<=dF t hw c)) (fun x=>x) rfl (kk _ _ hq) hD2 (by rw[List.length_map];omega) ?_ ?_ ?_
 ·intro x hx H' R k r
  obtain⟨z,_,rfl⟩:=bZ hx
  exact⟨_,rfl,z,rfl,_,rfl,_,_,rfl,rfl,_,rfl,r⟩
 ·intro x hx _ H' R k r
  exact⟨_,rfl,r⟩
 rw[bN c (fun l=>decide (al l<=dF t hw c)) _ fun i=>rfl]
 refine⟨D2,_,rfl,.inl ⟨SqL.of ac,fun L3 hL3=>?_⟩⟩
 exact q' L3 _ ((kk.trans (af hD2 _)).trans (af hL3 _)) ac
theorem lJ:ay ["_law_sets","_law_thing"] ["_law_sets","_law_thing"] (ai kC):=⟨rfl,rfl,rfl,by decide+kernel,rfl,by decide+kernel,by decide+kernel⟩
theorem oZ {f g:Addr}{fd gd:FuncData}(F:Fun K "_law_ahead" "_law_ahead" kC f fd)(T:qy mg)(G_law_number:Fn P w K mg base 1 "_law_number" g gd ["_law_thing"] dH):aY P w K mg base cu 2 f fd ["_law_sets","_law_thing"] lH:=by
 have sc:=lJ
 refine F.ok lJ (fun vs H Q E h=>?_) (fun cdv A outer s H vs Q E hr h=>?_)
 ·obtain⟨a,v,d,ys,rfl,_⟩:=h
  rfl
 obtain⟨a,v,d,ys,rfl,ha,h9,hd,q⟩:=h
 refine⟨_,(ag (aj (dl (aw G_law_number hr (by omega) rfl (aa (pv 1) ad)) (dl (bB nu (pv 1) ah (ax _)) (dU (bB fF (pv 1) (ak aF rfl T.len PySem.boot_len (aa (pv 0) ad)) (ax _))))))),?_⟩
 refine⟨_,rfl,v,d,rfl,hd,_,rfl,?_⟩
 rcases iA d with⟨z,rfl⟩|hn
 ·obtain rfl:=bb hd
  refine aI ?_
  have q':Q (.bl (if 0<=z/\z < (ys.length:Int) then some z.toNat else none).isSome) H:=q
  refine⟨_,rfl,_,_,rfl,rfl,_,rfl,?_⟩
  by_cases h0:0<=z
  ·rw[decide_eq_true h0]
   refine aI ⟨_,rfl,_,rfl,.ref a,_,rfl,.inl ⟨_,SqL.of ha,rfl⟩,_,_,rfl,rfl,?_⟩
   by_cases h1:z < (ys.length:Int)
   ·rw[if_pos ⟨h0,h1⟩] at q'
    show Q (.bl (decide (z < (ys.length:Int)))) H
    rw[decide_eq_true h1]
    exact q'
   ·rw[if_neg fun c=>h1 c.2] at q'
    show Q (.bl (decide (z < (ys.length:Int)))) H
    rw[decide_eq_false h1]
    exact q'
  ·rw[if_neg fun c=>h0 c.1] at q'
   rw[decide_eq_false h0]
   exact aA q'
 ·rw[fX hn]
  have e:bq ys.length d=none:=by
   cases d with
   |int z=>exact absurd rfl (hn z)
   |_=>rfl
  rw[e] at q
  exact aA q
end
end K63
namespace K63
open PySem L2 OD
abbrev kE:Stmt:=cW 48
theorem eW {H:Hp}{pc:List Int->Bool}{pv:V->Bool}(e:∀ c x,CL H c x->pv x=pc c):∀ {cs:List (List Int)} {xs:List V},CLs H cs xs->CLs H (cs.filter pc) (xs.filter pv)
 |_,_,.nil=>.nil
 |k::cs,x::xs,.cons h t=>by
  cases g:pc k with
  |true=>
   rw[List.filter_cons_of_pos (by exact g),List.filter_cons_of_pos (by rw[e k x h];exact g)]
   exact .cons h (eW e t)
  |false=>
   rw[List.filter_cons_of_neg (by rw[g];decide),List.filter_cons_of_neg (by rw[e k x h,g];decide)]
   exact eW e t
inductive o4 (vs:List V)(H:Hp)(Q:VK):Prop
 |mk (q:Addr)(z:Int)(xs:List V)(cs:List (List Int))(h0:vs=[.ref q,.int z])(h1:H q=some (.lst xs))(h2:CLs H cs xs)(h3:cs.length<=400)(h4:∀ c∈cs,c.length<=60)(h5:∀ (l:Addr) (ys:List V) (H':Hp),Same H H'->H l=none->H' l=some (.lst ys)->CLs H' (aT z cs) ys->Q (.ref l) H'):o4 vs H Q
def lK:Sp:=fun vs H Q _=>o4 vs H Q
inductive o5 (H1:Hp)(D:Addr)(z:Int)(ds:List (List Int))(i:Nat)(σ:St)(zs:List V)(H2:Hp):Prop
 |mk (v0:Option V)(h0:σ=[v0,some (.int z)])(h1:H2 D=some (.lst zs))(h2:CLs H2 ((ds.take i).map fun c=>c.filter fun o=>!decide (o=-z)) zs)(h3:∀ b o,b≠D->H1 b=some o->H2 b=some o):o5 H1 D z ds i σ zs H2
section
variable {P:Program}{w:World}{K:PySem.W.Frag}{mg:Str->Option Value}{base:Heap}
theorem lL:ay ["_law_clauses","_law_literal","_law_rest"] ["_law_clauses","_law_literal"] (ai kE):=⟨rfl,rfl,rfl,by decide+kernel,rfl,by decide+kernel,by decide+kernel⟩
theorem o6 {f:Addr}{fd:FuncData}(F:Fun K "_law_stand" "_law_stand" kE f fd)(T:qy mg):aY P w K mg base cu 1 f fd ["_law_clauses","_law_literal"] lK:=by
 have sc:=lL
 refine F.ok lL (fun vs H Q E h=>?_) (fun cdv A outer s H vs Q E hr h=>?_)
 ·obtain⟨q,z,xs,cs,rfl,_⟩:=h
  rfl
 obtain⟨q,z,xs,cs,rfl,hq,hcs,hn,hc,q'⟩:=h
 have hu:=hr.units
 have hlen:=hcs.length
 refine⟨_,(ae (dt (i:=2) sc.nd rfl rfl (NY:=["_law_clause","_law_literal"]) (idx:=[none,some 1]) rfl ⟨by with_unfolding_all rfl,(by with_unfolding_all exact⟨rfl,trivial⟩),fun _=>by rfl,by rfl,by rfl,by rfl,by decide⟩ (aS (pv 0)) (fun _ _ _ _=>(ao (i:=0) (show List.Nodup (["_law_clause","_law_literal"]:List Str) by decide+kernel) rfl (Or.inl rfl))) (fun _ _ _ _=>(bn (am (c6 (K:=K) rfl) (pv 1) (pv 0) (by with_unfolding_all rfl)))) (fun _ _ _ _=>(pv 0)) (by with_unfolding_all rfl))
  (ag (aj (aP (NY:=["_law_clause","_law_literal"]) (idx:=[none,some 1]) rfl ⟨by with_unfolding_all rfl,(by with_unfolding_all exact⟨rfl,trivial⟩),fun _=>by rfl,by rfl,by rfl,by rfl,by decide⟩ (aS (pv 2)) (fun _ _ _ _=>(ao (i:=0) (show List.Nodup (["_law_clause","_law_literal"]:List Str) by decide+kernel) rfl (Or.inl rfl))) (fun _ _ _ _=>bT) (fun _ _ _ _=>(b6 (dE (K:=K) rfl) rfl T.tuple PyProof.Rows.boot_tuple (aa (aP (NY:=["_law_one","_law_literal"]) (idx:=[none,some 1]) rfl ⟨by with_unfolding_all rfl,(by with_unfolding_all exact⟨rfl,trivial⟩),fun _=>by rfl,by rfl,by rfl,by rfl,by decide⟩ (k_ (K:=K) rfl (pv 0)) (fun _ _ _ _=>(ao (i:=0) (show List.Nodup (["_law_one","_law_literal"]:List Str) by decide+kernel) rfl (Or.inl rfl))) (fun _ _ _ _=>(bn (am (cY hu) (pv 0) (aB dW ah (pv 1)) (ax _)))) (fun _ _ _ _=>(pv 0))) ad))))))),?_⟩
 refine⟨_,rfl,q,rfl,⟨_,SqL.of hq⟩,fun D hD=>?_⟩
 refine bD [some (.int z)] (fun x=>!aM H z x) (fun x=>x) rfl hq hD (by omega) ?_ ?_ ?_
 ·intro x hx H' R k r
  obtain⟨i,hi⟩:=List.mem_iff_getElem?.mp hx
  obtain⟨kc,_,hcl⟩:=hcs.get hi
  rw[bI hcl] at r
  obtain⟨td,rfl,htd⟩:=hcl
  refine⟨_,rfl,_,rfl,td,_,rfl,.inr (SqT.of (k _ _ htd)),rfl,aV kc,_,rfl,?_⟩
  show R (!c_ (.int z) (kc.map V.int)) H'
  rw[bc]
  exact r
 ·intro x hx _ H' R k r
  exact⟨_,rfl,r⟩
 rw[List.map_id']
 have k1:=af hD (.lst (xs.filter fun x=>!aM H z x))
 have r1:upd H D (.lst (xs.filter fun x=>!aM H z x)) D=some (.lst (xs.filter fun x=>!aM H z x)):=ac
 generalize upd H D (.lst (xs.filter fun x=>!aM H z x))=H1 at k1 r1
 have hds:=(eW (pc:=fun c=>!c.contains z) (pv:=fun x=>!aM H z x) (fun c x h=>by rw[bI h]) hcs).mono k1
 have hdl:=List.length_filter_le (fun c:List Int=>!c.contains z) cs
 have hdc:∀ c∈cs.filter fun c=>!c.contains z,c.length<=60:=fun c h=>hc c (List.mem_filter.mp h).1
 rw[di] at q'
 generalize (cs.filter fun c=>!c.contains z)=ds at hds hdl hdc q'
 generalize (xs.filter fun x=>!aM H z x)=ys at hds r1
 have hyl:=hds.length
 refine⟨_,rfl,D,rfl,⟨_,SqL.of r1⟩,fun D2 hD2=>?_⟩
 have nD:D≠D2:=aq r1 hD2
 refine cJ (K:=K) (a:=D) (xs:=ys) (o5 H1 D2 z ds) ⟨none,rfl,ac,.nil,fun b o hb e=>by rw[ap hb];exact e⟩ ?_ ?_ ?_
 ·rintro i σ zs H2 _ ⟨_,_,h1,_,h3⟩
  exact⟨h1,SqL.of (h3 _ _ nD r1)⟩
 ·rintro i x σ zs H2 hx ⟨v0,rfl,h1,h2,h3⟩
  obtain⟨c,hcd,tc,rfl,htc⟩:=hds.get hx
  have hcl:=hdc c (List.mem_of_getElem? hcd)
  have htc2:=h3 _ _ (aq htc hD2) htc
  have hil:i < ys.length:=(List.getElem?_eq_some_iff.mp hx).1
  refine cV ?_
  refine oz ?_
  refine⟨_,rfl,tc,rfl,⟨_,SqT.of htc2⟩,fun D3 hD3=>?_⟩
  refine bx [some (.int z)] (mK fun o=>!decide (o=-z)) (fun x=>x) rfl htc2 hD3 (by rw[List.length_map];omega) ?_ ?_ ?_
  ·intro x hx H' R k r
   obtain⟨y,_,rfl⟩:=bZ hx
   refine⟨_,rfl,_,rfl,_,_,rfl,rfl,.inl ⟨rfl,_,rfl,?_⟩⟩
   have e:decide (V.int y=V.int (0 - z))=decide (y=-z):=decide_eq_decide.mpr ⟨fun h=>by have:=V.int.inj h;omega,fun h=>by rw[h,Int.zero_sub]⟩
   show R (!decide (V.int y=V.int (0 - z))) H'
   rw[e]
   exact r
  ·intro x hx _ H' R k r
   exact⟨_,rfl,r⟩
  rw[bN c (fun o=>!decide (o=-z)) _ fun i=>rfl]
  have k3:=af hD3 (.lst ((c.filter fun o=>!decide (o=-z)).map V.int))
  refine⟨D3,_,rfl,.inl ⟨SqL.of ac,fun p hp=>?_⟩⟩
  have k4:=af hp (.tup ((c.filter fun o=>!decide (o=-z)).map V.int))
  have k34:=k3.trans k4
  have h1':=k34 _ _ h1
  have hzl:=h2.length
  rw[List.length_map,List.length_take] at hzl
  refine⟨h1',av (by omega),⟨_,rfl,ac,?_,fun b o hb e=>by rw[ap hb];exact k34 _ _ (h3 _ _ hb e)⟩⟩
  rw[List.take_add_one,hcd,List.map_append]
  have npD:p≠D2:=fun e=>by
   rw[← e] at h1'
   rw[ac] at h1'
   cases h1'
  refine CLs.snoc ⟨p,rfl,?_⟩ ((h2.mono k34).upd h1')
  rw[ap npD]
  exact ac
 ·rintro σ zs H2 ⟨_,_,h1,h2,h3⟩
  rw[List.take_of_length_le (by omega)] at h2
  exact q' D2 zs H2 (fun b o e=>h3 _ _ (aq e (k1.free hD2)) (k1 _ _ e)) (k1.free hD2) h1 h2
end
end K63
namespace K63
open PySem L2 OD
abbrev kF:Stmt:=cW 49
structure ClsAt (H:Hp)(q:Addr)(t:Str)(xs:List V)(cs:List (List Int)):Prop where
 hq:H q=some (.lst xs)
 hcs:CLs H cs xs
 ht:t.length<=30
 hn:cs.length<=400
 hok:∀ c∈cs,gu t.length c
 hc:∀ c∈cs,c.length<=60
inductive o7 (vs:List V)(H:Hp)(Q:VK):Prop
 |mk (q:Addr)(t:Str)(z:Int)(xs:List V)(cs:List (List Int))(h0:vs=[.str t,.ref q,.int z])(h1:ClsAt H q t xs cs)(h2:∀ v' H',Same H H'->RC H H' (gw t cs (.int z)) v'->Q v' H'):o7 vs H Q
def lM:Sp:=fun vs H Q _=>o7 vs H Q
inductive lN (H1:Hp)(D:Addr)(z:Int)(ds:List (List Int))(i:Nat)(σ:St)(zs:List V)(H2:Hp):Prop
 |mk (v0:Option V)(h0:σ=[v0,some (.int z)])(h1:H2 D=some (.lst zs))(h2:CLs H2 ((ds.take i).map fun c=>c.filter fun o=>!decide (o=z)) zs)(h3:∀ b o,b≠D->H1 b=some o->H2 b=some o):lN H1 D z ds i σ zs H2
theorem lO {n:Nat}{cs:List (List Int)}{z:Int}(h:∀ c∈cs,gu n c)(g:¬ (1<=al z/\al z<=(n:Int))):(cs.any fun c=>c.contains z)=false:=
 List.any_eq_false.mpr fun c hc e=>g (h c hc z (List.contains_iff_mem.mp e))
theorem jK {H:Hp}{z:Int}{cs:List (List Int)}{xs:List V}(h:CLs H cs xs):((xs.filter (aM H z)).length=0)=((cs.any fun c=>c.contains z)=false):=by
 have e:=(eV (z:=z) h).length
 have f:=gA cs fun c=>c.contains z
 rw[← e]
 cases g:(cs.any fun c=>c.contains z) with
 |true=>
  rw[g] at f
  exact propext ⟨fun z=>absurd (decide_eq_true z) (by rw[f];exact Bool.false_ne_true),fun z=>nomatch z⟩
 |false=>
  rw[g] at f
  exact propext ⟨fun _=>rfl,fun _=>of_decide_eq_true f⟩
section
variable {P:Program}{w:World}{K:PySem.W.Frag}{mg:Str->Option Value}{base:Heap}
theorem lP:ay ["_law_turns","_law_clauses","_law_literal","_law_some_here"] ["_law_turns","_law_clauses","_law_literal"] (ai kF):=⟨rfl,rfl,rfl,by decide+kernel,rfl,by decide+kernel,by decide+kernel⟩
theorem o8 {f g1 g2:Addr}{fd e1 e2:FuncData}(F:Fun K "_law_pure" "_law_pure" kF f fd)(T:qy mg)(G_law_number:Fn P w K mg base 1 "_law_number" g1 e1 ["_law_thing"] dH)(G_law_own:Fn P w K mg base 1 "_law_own" g2 e2 ["_law_turns","_law_hand","_law_literal"] jJ):aY P w K mg base cu 2 f fd ["_law_turns","_law_clauses","_law_literal"] lM:=by
 have sc:=lP
 refine F.ok lP (fun vs H Q E h=>?_) (fun cdv A outer s H vs Q E hr h=>?_)
 ·obtain⟨q,t,z,xs,cs,rfl,_⟩:=h
  rfl
 obtain⟨q,t,z,xs,cs,rfl,S,q'⟩:=h
 have hu:=hr.units
 have hlen:=S.hcs.length
 have hn:=S.hn
 have ht:=S.ht
 refine⟨_,(ae (aH (PW.pt (b_ (bf (aK (aw G_law_number hr (by omega) rfl (aa (pv 2) ad)))) (b_ (am fF (ak bv rfl T.abs PyProof.Rows.boot_abs (aa (pv 2) ad)) ah (ax _)) (cg (am i8 (ak bv rfl T.abs PyProof.Rows.boot_abs (aa (pv 2) ad)) (ak aF rfl T.len PySem.boot_len (aa (pv 0) ad)) (ax _)))))) (ag (aj aW)) au)
  (ae (dt (i:=3) sc.nd rfl rfl (NY:=["_law_clause","_law_literal"]) (idx:=[none,some 2]) rfl ⟨by with_unfolding_all rfl,(by with_unfolding_all exact⟨rfl,trivial⟩),fun _=>by rfl,by rfl,by rfl,by rfl,by decide⟩ (aS (pv 1)) (fun _ _ _ _=>(ao (i:=0) (show List.Nodup (["_law_clause","_law_literal"]:List Str) by decide+kernel) rfl (Or.inl rfl))) (fun _ _ _ _=>(bn (am (b5 (K:=K) rfl) (pv 1) (pv 0) (by with_unfolding_all rfl)))) (fun _ _ _ _=>(pv 0)) (by with_unfolding_all rfl))
  (ae (aH (PW.pt (b_ (am (bd hu) (ak aF rfl T.len PySem.boot_len (aa (pv 3) ad)) ah (ax _)) (cg (am i8 (ak aF rfl T.len PySem.boot_len (aa (aP (NY:=["_law_clause","_law_literal"]) (idx:=[none,some 2]) rfl ⟨by with_unfolding_all rfl,(by with_unfolding_all exact⟨rfl,trivial⟩),fun _=>by rfl,by rfl,by rfl,by rfl,by decide⟩ (aS (pv 1)) (fun _ _ _ _=>(ao (i:=0) (show List.Nodup (["_law_clause","_law_literal"]:List Str) by decide+kernel) rfl (Or.inl rfl))) (fun _ _ _ _=>(bn (am (b5 (K:=K) rfl) (aB dW ah (pv 1)) (pv 0) (by with_unfolding_all rfl)))) (fun _ _ _ _=>(pv 0))) ad)) ah (ax _))))) (ag (aj aW)) au)
  (ae (aH (aK (aw G_law_own hr (by omega) rfl (aa (pv 0) (aa aJ (aa (pv 2) ad))))) (ag (aj (aP (NY:=["_law_clause","_law_literal"]) (idx:=[none,some 2]) rfl ⟨by with_unfolding_all rfl,(by with_unfolding_all exact⟨rfl,trivial⟩),fun _=>by rfl,by rfl,by rfl,by rfl,by decide⟩ (aS (pv 1)) (fun _ _ _ _=>(ao (i:=0) (show List.Nodup (["_law_clause","_law_literal"]:List Str) by decide+kernel) rfl (Or.inl rfl))) (fun _ _ _ _=>(bn (am (c6 (K:=K) rfl) (pv 1) (pv 0) (by with_unfolding_all rfl)))) (fun _ _ _ _=>(pv 0))))) au)
  (ag (aj (aP (NY:=["_law_clause","_law_literal"]) (idx:=[none,some 2]) rfl ⟨by with_unfolding_all rfl,(by with_unfolding_all exact⟨rfl,trivial⟩),fun _=>by rfl,by rfl,by rfl,by rfl,by decide⟩ (aS (pv 1)) (fun _ _ _ _=>(ao (i:=0) (show List.Nodup (["_law_clause","_law_literal"]:List Str) by decide+kernel) rfl (Or.inl rfl))) (fun _ _ _ _=>bT) (fun _ _ _ _=>(b6 (dE (K:=K) rfl) rfl T.tuple PyProof.Rows.boot_tuple (aa (aP (NY:=["_law_one","_law_literal"]) (idx:=[none,some 1]) rfl ⟨by with_unfolding_all rfl,(by with_unfolding_all exact⟨rfl,trivial⟩),fun _=>by rfl,by rfl,by rfl,by rfl,by decide⟩ (k_ (K:=K) rfl (pv 0)) (fun _ _ _ _=>(ao (i:=0) (show List.Nodup (["_law_one","_law_literal"]:List Str) by decide+kernel) rfl (Or.inl rfl))) (fun _ _ _ _=>(bn (am (cY hu) (pv 0) (pv 1) (ax _)))) (fun _ _ _ _=>(pv 0))) ad)))))))))),?_⟩
 have q2:∀ v' H',Same H H'->RC H H' (if ((cs.any fun c=>c.contains z)&&!(cs.any fun c=>c.contains (-z)))=true then some (aT (if bu t z=true then z else -z) cs) else none) v'->Q v' H':=q'
 refine⟨_,rfl,.int z,.int z,rfl,bi z,_,rfl,?_⟩
 refine aA ⟨_,rfl,z,rfl,_,_,rfl,rfl,_,rfl,cA (fun g=>?_) (fun g=>?_)⟩
 ·have g':al z < 1:=of_decide_eq_true g
  rw[lO S.hok (by omega)] at q2
  exact aI (q2 _ _ (Same.refl _) rfl)
 have gz1:1<=al z:=by
  have g':¬ al z < 1:=fun n=>g (decide_eq_true n)
  omega
 refine⟨_,rfl,z,rfl,_,rfl,.str t,_,rfl,⟨Nat.le_of_lt (av (by omega)),rfl⟩,_,_,rfl,rfl,_,rfl,cA (fun g2=>?_) (fun g2=>?_)⟩
 ·have g':(t.length:Int) < al z:=of_decide_eq_true g2
  rw[lO S.hok (by omega)] at q2
  exact q2 _ _ (Same.refl _) rfl
 have gz2:al z<=(t.length:Int):=by
  have g':¬ (t.length:Int) < al z:=fun n=>g2 (decide_eq_true n)
  omega
 refine⟨_,rfl,q,rfl,⟨_,SqL.of S.hq⟩,fun D hD=>?_⟩
 refine bD [some (.int z)] (aM H z) (fun x=>x) rfl S.hq hD (by omega) ?_ ?_ ?_
 ·intro x hx H' R k r
  obtain⟨i,hi⟩:=List.mem_iff_getElem?.mp hx
  obtain⟨kc,_,hcl⟩:=S.hcs.get hi
  rw[bI hcl] at r
  obtain⟨td,rfl,htd⟩:=hcl
  refine⟨_,rfl,_,rfl,td,_,rfl,.inr (SqT.of (k _ _ htd)),rfl,aV kc,_,rfl,?_⟩
  show R (c_ (.int z) (kc.map V.int)) H'
  rw[bc]
  exact r
 ·intro x hx _ H' R k r
  exact⟨_,rfl,r⟩
 rw[List.map_id']
 have k1:=af hD (.lst (xs.filter (aM H z)))
 have r1:upd H D (.lst (xs.filter (aM H z))) D=some (.lst (xs.filter (aM H z))):=ac
 generalize upd H D (.lst (xs.filter (aM H z)))=H1 at k1 r1
 have ee:=jK (z:=z) S.hcs
 refine⟨_,rfl,.ref D,_,rfl,.inl ⟨_,SqL.of r1,rfl⟩,.inl ⟨rfl,_,rfl,cA (fun g3=>?_) (fun g3=>?_)⟩⟩
 ·have g':(xs.filter (aM H z)).length=0:=by
   have:=V.int.inj (of_decide_eq_true g3)
   omega
  rw[ee] at g'
  rw[g'] at q2
  exact aI (q2 _ _ k1 rfl)
 have hp1:(cs.any fun c=>c.contains z)=true:=by
  cases g4:(cs.any fun c=>c.contains z) with
  |true=>rfl
  |false=>
   rw[g4] at ee
   have:(xs.filter (aM H z)).length=0:=by rw[ee]
   exact absurd (decide_eq_true (congrArg V.int (by rw[this];rfl))) g3
 rw[hp1] at q2
 refine⟨_,rfl,q,rfl,⟨_,SqL.of (k1 _ _ S.hq)⟩,fun D2 hD2=>?_⟩
 refine bD [some (.int z)] (aM H (-z)) (fun x=>x) rfl (k1 _ _ S.hq) hD2 (by omega) ?_ ?_ ?_
 ·intro x hx H' R k r
  obtain⟨i,hi⟩:=List.mem_iff_getElem?.mp hx
  obtain⟨kc,_,hcl⟩:=S.hcs.get hi
  rw[bI hcl] at r
  obtain⟨td,rfl,htd⟩:=hcl
  refine⟨_,rfl,_,_,rfl,rfl,_,rfl,td,_,rfl,.inr (SqT.of (k _ _ (k1 _ _ htd))),rfl,aV kc,_,rfl,?_⟩
  show R (c_ (.int (0 - z)) (kc.map V.int)) H'
  rw[bc,Int.zero_sub]
  exact r
 ·intro x hx _ H' R k r
  exact⟨_,rfl,r⟩
 rw[List.map_id']
 have k2:=af hD2 (.lst (xs.filter (aM H (-z))))
 have r2:upd H1 D2 (.lst (xs.filter (aM H (-z)))) D2=some (.lst (xs.filter (aM H (-z)))):=ac
 generalize upd H1 D2 (.lst (xs.filter (aM H (-z))))=H2 at k2 r2
 have ee2:=jK (z:=-z) S.hcs
 have k12:=k1.trans k2
 refine⟨.ref D2,_,rfl,.inl ⟨_,SqL.of r2,rfl⟩,_,_,rfl,rfl,_,rfl,cA (fun g5=>?_) (fun g5=>?_)⟩
 ·have g':(0:Int) < ((xs.filter (aM H (-z))).length:Int):=of_decide_eq_true g5
  have hp2:(cs.any fun c=>c.contains (-z))=true:=by
   cases g4:(cs.any fun c=>c.contains (-z)) with
   |true=>rfl
   |false=>
    rw[g4] at ee2
    have:(xs.filter (aM H (-z))).length=0:=by rw[ee2]
    omega
  rw[hp2] at q2
  exact q2 _ _ k12 rfl
 have hp2:(cs.any fun c=>c.contains (-z))=false:=by
  have g':¬ (0:Int) < ((xs.filter (aM H (-z))).length:Int):=fun n=>g5 (decide_eq_true n)
  rw[← ee2]
  omega
 rw[hp2] at q2
 have q3:∀ v' H',Same H H'->RC H H' (some (aT (if bu t z=true then z else -z) cs)) v'->Q v' H':=q2
 refine⟨_,rfl,_,rfl,t,true,z,rfl,gz1,gz2,(by omega),_,rfl,?_⟩
 have eo:(cq t (al z - 1).toNat == true)=bu t z:=by
  unfold bu
  cases cq t (al z - 1).toNat<;>rfl
 rw[eo]
 cases g6:bu t z with
 |true=>
  rw[g6,if_pos rfl,kx hp2] at q3
  refine aI ⟨_,rfl,q,rfl,⟨_,SqL.of (k12 _ _ S.hq)⟩,fun D3 hD3=>?_⟩
  refine bD [some (.int z)] (fun x=>!aM H z x) (fun x=>x) rfl (k12 _ _ S.hq) hD3 (by omega) ?_ ?_ ?_
  ·intro x hx H' R k r
   obtain⟨i,hi⟩:=List.mem_iff_getElem?.mp hx
   obtain⟨kc,_,hcl⟩:=S.hcs.get hi
   rw[bI hcl] at r
   obtain⟨td,rfl,htd⟩:=hcl
   refine⟨_,rfl,_,rfl,td,_,rfl,.inr (SqT.of (k _ _ (k12 _ _ htd))),rfl,aV kc,_,rfl,?_⟩
   show R (!c_ (.int z) (kc.map V.int)) H'
   rw[bc]
   exact r
  ·intro x hx _ H' R k r
   exact⟨_,rfl,r⟩
  rw[List.map_id']
  have k3:=af hD3 (.lst (xs.filter fun x=>!aM H z x))
  exact q3 _ _ (k12.trans k3) ⟨D3,_,rfl,k12.free hD3,ac,(eW (pc:=fun c=>!c.contains z) (pv:=fun x=>!aM H z x) (fun c x h=>by rw[bI h]) S.hcs).mono (k12.trans k3)⟩
 |false=>
  rw[g6,if_neg Bool.false_ne_true,kA hp2] at q3
  have hcs2:=S.hcs.mono k12
  have hq2:=k12 _ _ S.hq
  refine aA ⟨_,rfl,q,rfl,⟨_,SqL.of hq2⟩,fun D3 hD3=>?_⟩
  have nD:q≠D3:=aq hq2 hD3
  refine cJ (K:=K) (a:=q) (xs:=xs) (lN H2 D3 z cs) ⟨none,rfl,ac,.nil,fun b o hb e=>by rw[ap hb];exact e⟩ ?_ ?_ ?_
  ·rintro i σ zs H4 _ ⟨_,_,h1,_,h3⟩
   exact⟨h1,SqL.of (h3 _ _ nD hq2)⟩
  ·rintro i x σ zs H4 hx ⟨v0,rfl,h1,h2,h3⟩
   obtain⟨c,hcd,tc,rfl,htc⟩:=hcs2.get hx
   have hcl:=S.hc c (List.mem_of_getElem? hcd)
   have htc2:=h3 _ _ (aq htc hD3) htc
   have hil:i < xs.length:=(List.getElem?_eq_some_iff.mp hx).1
   refine cV ?_
   refine oz ?_
   refine⟨_,rfl,tc,rfl,⟨_,SqT.of htc2⟩,fun D5 hD5=>?_⟩
   refine bx [some (.int z)] (mK fun o=>!decide (o=z)) (fun x=>x) rfl htc2 hD5 (by rw[List.length_map];omega) ?_ ?_ ?_
   ·intro x hx H' R k r
    obtain⟨y,_,rfl⟩:=bZ hx
    refine⟨_,rfl,_,rfl,.inl ⟨rfl,_,rfl,?_⟩⟩
    have e:decide (V.int y=V.int z)=decide (y=z):=decide_eq_decide.mpr ⟨fun h=>V.int.inj h,fun h=>by rw[h]⟩
    show R (!decide (V.int y=V.int z)) H'
    rw[e]
    exact r
   ·intro x hx _ H' R k r
    exact⟨_,rfl,r⟩
   rw[bN c (fun o=>!decide (o=z)) _ fun i=>rfl]
   have k3:=af hD5 (.lst ((c.filter fun o=>!decide (o=z)).map V.int))
   refine⟨D5,_,rfl,.inl ⟨SqL.of ac,fun p hp=>?_⟩⟩
   have k4:=af hp (.tup ((c.filter fun o=>!decide (o=z)).map V.int))
   have k34:=k3.trans k4
   have h1':=k34 _ _ h1
   have hzl:=h2.length
   rw[List.length_map,List.length_take] at hzl
   refine⟨h1',av (by omega),⟨_,rfl,ac,?_,fun b o hb e=>by rw[ap hb];exact k34 _ _ (h3 _ _ hb e)⟩⟩
   rw[List.take_add_one,hcd,List.map_append]
   have npD:p≠D3:=fun e=>by
    rw[← e] at h1'
    rw[ac] at h1'
    cases h1'
   refine CLs.snoc ⟨p,rfl,?_⟩ ((h2.mono k34).upd h1')
   rw[ap npD]
   exact ac
  ·rintro σ zs H4 ⟨_,_,h1,h2,h3⟩
   rw[List.take_of_length_le (by omega)] at h2
   exact q3 _ _ (fun b o e=>h3 _ _ (aq e (k12.free hD3)) (k12 _ _ e)) ⟨D3,zs,rfl,k12.free hD3,h1,h2⟩
end
end K63
namespace K63
open PySem L2 OD
abbrev iN:Stmt:=cW 50
inductive lQ (vs:List V)(H:Hp)(Q:VK):Prop
 |mk (q:Addr)(t:Str)(i:Nat)(z:Int)(xs:List V)(cs:List (List Int))(h0:vs=[.str t,.ref q,.int (i:Int),.int z])(h1:ClsAt H q t xs cs)(h2:i < cs.length)(h3:∀ c∈cs,Ups c)(h4:∀ v' H',Same H H'->RC H H' (if ce t cs i z=true then some (bE cs i) else none) v'->Q v' H'):lQ vs H Q
def jL:Sp:=fun vs H Q _=>lQ vs H Q
inductive tF (H:Hp)(q:Addr)(t:Str)(i:Nat)(z:Int)(cs:List (List Int))(j:Nat)(σ:St)(H2:Hp):Prop
 |mk (v4:Option V)(h0:σ=[some (.str t),some (.ref q),some (.int (i:Int)),some (.int z),v4])(h1:Same H H2)(h2:((cs.take j).all fun k=>!k.contains (-z) || bj (cs.getD i []) z k)=true):tF H q t i z cs j σ H2
theorem gB {p o:List Int->Bool}:∀ cs:List (List Int),((cs.filter p).all o)=cs.all fun k=>!p k || o k
 |[]=>rfl
 |k::r=>by
  cases g:p k with
  |true=>
   rw[List.filter_cons_of_pos g,List.all_cons,List.all_cons,gB r,g]
   rfl
  |false=>
   rw[List.filter_cons_of_neg (by rw[g];decide),List.all_cons,gB r,g]
   rfl
section
variable {P:Program}{w:World}{K:PySem.W.Frag}{mg:Str->Option Value}{base:Heap}
theorem jM:ay ["_law_turns","_law_clauses","_law_k","_law_literal","_law_other"] ["_law_turns","_law_clauses","_law_k","_law_literal"] (ai iN):=⟨rfl,rfl,rfl,by decide+kernel,rfl,by decide+kernel,by decide+kernel⟩
theorem m5 {f g1 g2:Addr}{fd e1 e2:FuncData}(F:Fun K "_law_blocked" "_law_blocked" iN f fd)(T:qy mg)(G_law_number:Fn P w K mg base 1 "_law_number" g1 e1 ["_law_thing"] dH)(G_law_own:Fn P w K mg base 1 "_law_own" g2 e2 ["_law_turns","_law_hand","_law_literal"] jJ):aY P w K mg base cu 2 f fd ["_law_turns","_law_clauses","_law_k","_law_literal"] jL:=by
 have sc:=jM
 refine F.ok jM (fun vs H Q E h=>?_) (fun cdv A outer s H vs Q E hr h=>?_)
 ·obtain⟨q,t,i,z,xs,cs,rfl,_⟩:=h
  rfl
 obtain⟨q,t,i,z,xs,cs,rfl,S,hi,hup,q'⟩:=h
 have hu:=hr.units
 have hlen:=S.hcs.length
 have hn:=S.hn
 have ht:=S.ht
 refine⟨_,(ae (aH (PW.pt (b_ (bf (aK (aw G_law_number hr (by omega) rfl (aa (pv 3) ad)))) (b_ (am bS (pv 3) (az ar (pv 1) (pv 2) (fun _ _=>rfl)) (by with_unfolding_all rfl)) (cg (bf (aK (aw G_law_own hr (by omega) rfl (aa (pv 0) (aa aJ (aa (pv 3) ad)))))))))) (ag (aj aW)) au)
  (ae (bA PassesOwn.never rfl (aS (pv 1)) (ao (i:=4) sc.nd rfl (Or.inr rfl))
   (ag (aH (am dO (aB dW ah (pv 3)) (pv 4) (by with_unfolding_all rfl)) (ag (aH (am (bd hu) (ak aF rfl T.len PySem.boot_len (aa (aP (NY:=["_law_one","_law_other","_law_literal"]) (idx:=[none,some 4,some 3]) rfl ⟨by with_unfolding_all rfl,(by with_unfolding_all exact⟨rfl,rfl,trivial⟩),fun _=>by rfl,by rfl,by rfl,by rfl,by decide⟩ (ca (az ar (pv 1) (pv 2) (fun _ _=>rfl))) (fun _ _ _ _=>(ao (i:=0) (show List.Nodup (["_law_one","_law_other","_law_literal"]:List Str) by decide+kernel) rfl (Or.inl rfl))) (fun _ _ _ _=>(bn (PW.pt (cX (am fF (ak bv rfl T.abs PyProof.Rows.boot_abs (aa (pv 0) ad)) (ak bv rfl T.abs PyProof.Rows.boot_abs (aa (pv 2) ad)) (ax _)) (cS (am (b5 (K:=K) rfl) (aB dW ah (pv 0)) (pv 1) (by with_unfolding_all rfl))))))) (fun _ _ _ _=>(pv 0))) ad)) ah (ax _)) (ag (aj aW)) au)) au)))
  (ag (aj (aB ci (bw bR (pv 1) bY (bK (pv 2))) (bw bR (pv 1) (bK (aB b0 (pv 2) ah)) bY)))))),?_⟩
 obtain⟨tc,hx,htc,hm⟩:=cE S.hcs hi
 have hcl:=S.hc _ hm
 unfold ce at q'
 refine⟨_,rfl,.int z,.int z,rfl,bi z,_,rfl,?_⟩
 have e:(if true=true then !c_ (.int z) ((cs.getD i []).map V.int) else c_ (.int z) ((cs.getD i []).map V.int))=!(cs.getD i []).contains z:=by
  rw[if_pos rfl,bc]
 refine aA ⟨_,rfl,_,rfl,_,rfl,.inl ⟨q,xs,(i:Int),.ref tc,rfl,rfl,SqL.of S.hq,aZ hx,tc,_,rfl,.inr (SqT.of htc),rfl,aV _,_,rfl,?_⟩⟩
 rw[e]
 cases g1:(cs.getD i []).contains z with
 |false=>
  rw[g1] at q'
  exact aI (aI (q' _ _ (Same.refl _) rfl))
 |true=>
 rw[g1] at q'
 have hz:=S.hok _ hm z (List.contains_iff_mem.mp g1)
 refine aA ⟨_,rfl,_,rfl,t,true,z,rfl,hz.1,hz.2,(by omega),_,rfl,?_⟩
 have eo:(cq t (al z - 1).toNat == true)=bu t z:=by
  unfold bu
  cases cq t (al z - 1).toNat<;>rfl
 rw[eo]
 cases g2:bu t z with
 |false=>
  rw[g2] at q'
  exact aI (q' _ _ (Same.refl _) rfl)
 |true=>
 rw[g2] at q'
 refine aA ?_
 rw[gB] at q'
 refine⟨_,rfl,q,rfl,⟨_,SqL.of S.hq⟩,cb (K:=K) (a:=q) (xs:=xs) (tF H q t i z cs) ⟨none,rfl,Same.refl _,rfl⟩ ?_ ?_ ?_⟩
 ·rintro j σ H2 _ ⟨_,_,k2,_⟩
  exact SqL.of (k2 _ _ S.hq)
 ·rintro j x σ H2 hxj ⟨v4,rfl,k2,hall⟩
  obtain⟨kc,hk,td,rfl,htd⟩:=S.hcs.get hxj
  have hkm:=List.mem_of_getElem? hk
  have htd2:=k2 _ _ htd
  have htc2:=k2 _ _ htc
  have e2:(if false=true then !c_ (.int (0 - z)) (kc.map V.int) else c_ (.int (0 - z)) (kc.map V.int))=kc.contains (-z):=by
   rw[if_neg Bool.false_ne_true,bc,Int.zero_sub]
  have next:∀ H3,Same H H3->(!kc.contains (-z) || bj (cs.getD i []) z kc)=true->tF H q t i z cs (j+1) [some (.str t),some (.ref q),some (.int (i:Int)),some (.int z),some (.ref td)] H3:=fun H3 k3 hb=>by
   refine⟨_,rfl,k3,?_⟩
   rw[List.take_add_one,hk,List.all_append,hall]
   show ((!kc.contains (-z) || bj (cs.getD i []) z kc)&&true)=true
   rw[hb]
   rfl
  refine⟨_,rfl,_,_,rfl,rfl,_,rfl,td,_,rfl,.inr (SqT.of htd2),rfl,aV kc,_,rfl,?_⟩
  rw[e2]
  cases g3:kc.contains (-z) with
  |false=>exact aA (next H2 k2 (by rw[g3];rfl))
  |true=>
  refine aI ?_
  refine⟨_,rfl,_,rfl,.inl ⟨q,xs,(i:Int),.ref tc,rfl,rfl,SqL.of (k2 _ _ S.hq),aZ hx,tc,rfl,⟨_,SqT.of htc2⟩,fun D hD=>?_⟩⟩
  refine bx [some (.ref td),some (.int z)] (mK fun o=>decide (al o < al z)&&kc.contains (0 - o)) (fun x=>x) rfl htc2 hD (by rw[List.length_map];omega) ?_ ?_ ?_
  ·intro x hx H' R k r
   obtain⟨y,_,rfl⟩:=bZ hx
   have r':R (decide (al y < al z)&&kc.contains (0 - y)) H':=r
   refine⟨_,rfl,y,rfl,_,rfl,z,rfl,_,_,rfl,rfl,_,rfl,cA (fun g4=>?_) (fun g4=>?_)⟩
   ·rw[decide_eq_true (show al y < al z from of_decide_eq_true g4)] at r'
    refine⟨_,rfl,_,_,rfl,rfl,_,rfl,td,_,rfl,.inr (SqT.of (k _ _ htd2)),rfl,aV kc,_,rfl,?_⟩
    show R (c_ (.int (0 - y)) (kc.map V.int)) H'
    rw[bc]
    exact r'
   ·rw[decide_eq_false (show ¬ al y < al z from fun n=>g4 (decide_eq_true n))] at r'
    exact r'
  ·intro x hx _ H' R k r
   exact⟨_,rfl,r⟩
  rw[bN (cs.getD i []) (fun o=>decide (al o < al z)&&kc.contains (0 - o)) _ fun i=>rfl]
  have k3:=k2.trans (af hD (.lst (((cs.getD i []).filter fun o=>decide (al o < al z)&&kc.contains (0 - o)).map V.int)))
  have eb:bj (cs.getD i []) z kc=!decide (((cs.getD i []).filter fun o=>decide (al o < al z)&&kc.contains (0 - o)).length=0):=by
   rw[gA,ie (hup kc hkm),oU,Bool.not_not]
  refine⟨.ref D,_,rfl,.inl ⟨_,SqL.of ac,rfl⟩,.inl ⟨rfl,_,rfl,?_⟩⟩
  rw[List.length_map]
  refine cA (fun g5=>?_) (fun g5=>?_)
  ·have g':((cs.getD i []).filter fun o=>decide (al o < al z)&&kc.contains (0 - o)).length=0:=by
    have:=V.int.inj (of_decide_eq_true g5)
    omega
   rw[decide_eq_true g'] at eb
   have ea:(cs.all fun k=>!k.contains (-z) || bj (cs.getD i []) z k)=false:=List.all_eq_false.mpr ⟨kc,hkm,by rw[g3,eb];exact Bool.false_ne_true⟩
   rw[ea] at q'
   exact q' _ _ k3 rfl
  ·have g':¬ ((cs.getD i []).filter fun o=>decide (al o < al z)&&kc.contains (0 - o)).length=0:=fun n=>g5 (decide_eq_true (by rw[n];rfl))
   rw[decide_eq_false g'] at eb
   exact next _ k3 (by rw[g3,eb];rfl)
 ·rintro σ H2 ⟨v4,rfl,k2,hall⟩
  rw[List.take_of_length_le (by omega)] at hall
  rw[hall] at q'
  refine⟨_,rfl,_,rfl,_,rfl,q,xs,rfl,SqL.of (k2 _ _ S.hq),fun l1 q1=>?_⟩
  rw[fm]
  have k3:=k2.trans (af q1 (.lst (xs.take i)))
  refine⟨_,rfl,_,rfl,_,_,rfl,rfl,_,rfl,q,xs,rfl,SqL.of (k3 _ _ S.hq),fun l5 q5=>?_⟩
  have ec:cy xs (some ((i:Int)+1)) none=xs.drop (i+1):=dg xs (i+1)
  rw[ec]
  have k5:=af q5 (.lst (xs.drop (i+1)))
  refine⟨l1,l5,_,_,rfl,rfl,k5 _ _ ac,ac,Nat.le_of_lt (av (by rw[List.length_take,List.length_drop];omega)),fun l6 q6=>?_⟩
  have kk:=k3.trans (k5.trans (af q6 (.lst (xs.take i++xs.drop (i+1)))))
  exact q' _ _ kk ⟨l6,_,rfl,(k3.trans k5).free q6,ac,bp (bP i (S.hcs.mono kk)) (bQ (i+1) (S.hcs.mono kk))⟩
end
end K63
namespace K63
open PySem L2 OD
abbrev o9:Stmt:=cW 51
inductive cP (cs:List (List Int)):PyData->Prop
 |drop (i:Nat) (h:i < cs.length):cP cs (.tuple [.str br,.int (i:Int)])
 |unit (i:Nat) (h:i < cs.length):cP cs (.tuple [.str a_,.int (i:Int)])
 |pure (z:Int):cP cs (.tuple [.str bz,.int z])
 |within (i j:Nat) (h:i < cs.length) (g:j < cs.length):cP cs (.tuple [.str aG,.int (i:Int),.int (j:Int)])
 |blocked (i:Nat) (z:Int) (h:i < cs.length):cP cs (.tuple [.str aD,.int (i:Int),.int z])
theorem ig (w x:Str)(n:Nat)(a:PyData):formB w n (.tuple [.str x,a])=(decide (2=n)&&decide (x=w)):=rfl
theorem eX (w x:Str)(n:Nat)(a b:PyData):formB w n (.tuple [.str x,a,b])=(decide (3=n)&&decide (x=w)):=rfl
theorem em (t:Str)(cs:List (List Int))(a:PyData):aR t cs (.tuple [.str br,a])=fL t cs a:=by
 unfold aR
 rw[ig,show (decide (2=2)&&decide (br=br))=true by decide+kernel,if_pos rfl]
 rfl
theorem er (t:Str)(cs:List (List Int))(a:PyData):aR t cs (.tuple [.str a_,a])=fM t cs a:=by
 unfold aR
 rw[ig,ig,show (decide (2=2)&&decide (a_=br))=false by decide+kernel,show (decide (2=2)&&decide (a_=a_))=true by decide+kernel,if_neg Bool.false_ne_true,if_pos rfl]
 rfl
theorem eu (t:Str)(cs:List (List Int))(a:PyData):aR t cs (.tuple [.str bz,a])=gw t cs a:=by
 unfold aR
 rw[ig,ig,ig,show (decide (2=2)&&decide (bz=br))=false by decide+kernel,show (decide (2=2)&&decide (bz=a_))=false by decide+kernel,show (decide (2=2)&&decide (bz=bz))=true by decide+kernel,if_neg Bool.false_ne_true,if_neg Bool.false_ne_true,if_pos rfl]
 rfl
theorem du (t:Str)(cs:List (List Int))(a b:PyData):aR t cs (.tuple [.str aG,a,b])=fN cs a b:=by
 unfold aR
 rw[eX,eX,eX,eX,show (decide (3=2)&&decide (aG=br))=false by decide+kernel,show (decide (3=2)&&decide (aG=a_))=false by decide+kernel,show (decide (3=2)&&decide (aG=bz))=false by decide+kernel,show (decide (3=3)&&decide (aG=aG))=true by decide+kernel,if_neg Bool.false_ne_true,if_neg Bool.false_ne_true,if_neg Bool.false_ne_true,if_pos rfl]
 rfl
theorem c9 (t:Str)(cs:List (List Int))(a b:PyData):aR t cs (.tuple [.str aD,a,b])=d_ t cs a b:=by
 unfold aR
 rw[eX,eX,eX,eX,eX,show (decide (3=2)&&decide (aD=br))=false by decide+kernel,show (decide (3=2)&&decide (aD=a_))=false by decide+kernel,show (decide (3=2)&&decide (aD=bz))=false by decide+kernel,show (decide (3=3)&&decide (aD=aG))=false by decide+kernel,show (decide (3=3)&&decide (aD=aD))=true by decide+kernel,if_neg Bool.false_ne_true,if_neg Bool.false_ne_true,if_neg Bool.false_ne_true,if_neg Bool.false_ne_true,if_pos rfl]
 rfl
theorem aL {n i:Nat}(h:i < n):bq n (.int (i:Int))=some i:=by
 show (if 0<=(i:Int)/\(i:Int) < (n:Int) then some (i:Int).toNat else none)=some i
 rw[if_pos ⟨by omega,by omega⟩]
 rfl
end K63
namespace K63
open PySem L2 OD
theorem jN {x y:V}{A B:Prop}(h:decide (x=y)=false)(b:B):if decide (x=y)=true then A else B:=by
 rw[h]
 exact aA b
theorem tN {x y:V}{A B:Prop}(h:decide (x=y)=true)(a:A):if decide (x=y)=true then A else B:=by
 rw[h]
 exact aI a
theorem gC {G:Prop}{H:Hp}{cs:List (List Int)}{xs:List V}{i:Nat}(h:CLs H cs xs)(hi:i < cs.length)(k:∀ tc,xs[i]? =some (.ref tc)->lp H tc (cs.getD i [])->cs.getD i []∈cs->G):G:=by
 obtain⟨tc,a,b,c⟩:=cE h hi
 exact k tc a b c
inductive fw (cs:List (List Int)):PyData->List V->Prop
 |drop (i:Nat) (h:i < cs.length):fw cs (.tuple [.str br,.int (i:Int)]) [.str br,.int (i:Int)]
 |unit (i:Nat) (h:i < cs.length):fw cs (.tuple [.str a_,.int (i:Int)]) [.str a_,.int (i:Int)]
 |pure (z:Int):fw cs (.tuple [.str bz,.int z]) [.str bz,.int z]
 |within (i j:Nat) (h:i < cs.length) (g:j < cs.length):fw cs (.tuple [.str aG,.int (i:Int),.int (j:Int)]) [.str aG,.int (i:Int),.int (j:Int)]
 |blocked (i:Nat) (z:Int) (h:i < cs.length):fw cs (.tuple [.str aD,.int (i:Int),.int z]) [.str aD,.int (i:Int),.int z]
theorem fz {H:Hp}{w:Str}{z:Int}{v:V}(h:RD H (.tuple [.str w,.int z]) v):∃ b,v=.ref b/\H b=some (.tup [.str w,.int z]):=by
 obtain⟨b,zs,rfl,hb,hz⟩:=ba h
 obtain⟨d0,d1,x0,x1,ed,rfl,r0,r1⟩:=eU hz rfl
 cases ed
 obtain rfl:=gq r0
 obtain rfl:=bb r1
 exact⟨b,rfl,hb⟩
theorem fO {H:Hp}{w:Str}{z y:Int}{v:V}(h:RD H (.tuple [.str w,.int z,.int y]) v):∃ b,v=.ref b/\H b=some (.tup [.str w,.int z,.int y]):=by
 obtain⟨b,zs,rfl,hb,hz⟩:=ba h
 obtain⟨d0,d1,d2,x0,x1,x2,ed,rfl,r0,r1,r2⟩:=d9 hz rfl
 cases ed
 obtain rfl:=gq r0
 obtain rfl:=bb r1
 obtain rfl:=bb r2
 exact⟨b,rfl,hb⟩
theorem qA {H:Hp}{cs:List (List Int)}{d:PyData}{v:V}(h:cP cs d)(g:RD H d v):∃ b ys,v=.ref b/\H b=some (.tup ys)/\fw cs d ys:=by
 cases h with
 |drop i hi=>obtain⟨b,e,hb⟩:=fz g;exact⟨b,_,e,hb,.drop i hi⟩
 |unit i hi=>obtain⟨b,e,hb⟩:=fz g;exact⟨b,_,e,hb,.unit i hi⟩
 |pure z=>obtain⟨b,e,hb⟩:=fz g;exact⟨b,_,e,hb,.pure z⟩
 |within i j hi hj=>obtain⟨b,e,hb⟩:=fO g;exact⟨b,_,e,hb,.within i j hi hj⟩
 |blocked i z hi=>obtain⟨b,e,hb⟩:=fO g;exact⟨b,_,e,hb,.blocked i z hi⟩
inductive rA (vs:List V)(H:Hp)(Q:VK):Prop
 |mk (p q:Addr)(t:Str)(xs:List V)(cs:List (List Int))(v:V)(d:PyData)(h0:vs=[.ref p,v])(hp:H p=some (.tup [.str t,.ref q]))(h1:ClsAt H q t xs cs)(h2:∀ c∈cs,Ups c)(h3:RD H d v)(h4:cP cs d)(h5:∀ v' H',Same H H'->RC H H' (aR t cs d) v'->Q v' H'):rA vs H Q
def kG:Sp:=fun vs H Q _=>rA vs H Q
theorem ClsAt.mono {H H':Hp}{q:Addr}{t:Str}{xs:List V}{cs:List (List Int)}(h:ClsAt H q t xs cs)(k:Same H H'):ClsAt H' q t xs cs:=⟨k _ _ h.hq,h.hcs.mono k,h.ht,h.hn,h.hok,h.hc⟩
theorem RC.back {H H1 H':Hp}{o:Option (List (List Int))}{v:V}(k:Same H H1)(h:RC H1 H' o v):RC H H' o v:=by
 cases o with
 |none=>exact h
 |some cs=>
  obtain⟨l,xs,e,n,a,b⟩:=h
  exact⟨l,xs,e,k.free n,a,b⟩
section
variable {P:Program}{w:World}{K:PySem.W.Frag}{mg:Str->Option Value}{base:Heap}
theorem o_:ay ["_law_sentence_here","_law_step","_law_turns","_law_clauses","_law_clause"] ["_law_sentence_here","_law_step"] (ai o9):=⟨rfl,rfl,rfl,by decide+kernel,rfl,by decide+kernel,by decide+kernel⟩
theorem qB {f g1 g2 g3 g4 g5 g6:Addr}{fd e1 e2 e3 e4 e5 e6:FuncData}(F:Fun K "_law_behind" "_law_behind" o9 f fd)(T:qy mg)(G_law_ahead:Fn P w K mg base 2 "_law_ahead" g1 e1 ["_law_sets","_law_thing"] lH)(G_law_blocked:Fn P w K mg base 2 "_law_blocked" g2 e2 ["_law_turns","_law_clauses","_law_k","_law_literal"] jL)(G_law_dropped:Fn P w K mg base 2 "_law_dropped" g3 e3 ["_law_turns","_law_hand","_law_literals"] lG)(G_law_own:Fn P w K mg base 1 "_law_own" g4 e4 ["_law_turns","_law_hand","_law_literal"] jJ)(G_law_pure:Fn P w K mg base 2 "_law_pure" g5 e5 ["_law_turns","_law_clauses","_law_literal"] lM)(G_law_stand:Fn P w K mg base 1 "_law_stand" g6 e6 ["_law_clauses","_law_literal"] lK):aY P w K mg base cu 3 f fd ["_law_sentence_here","_law_step"] kG:=by
 have sc:=o_
 refine F.ok o_ (fun vs H Q E h=>?_) (fun cdv A outer s H vs Q E hr h=>?_)
 ·obtain⟨p,q,t,xs,cs,v,d,rfl,_⟩:=h
  rfl
 obtain⟨p,q,t,xs,cs,v,d,rfl,hp,S,hup,hd,hst,q'⟩:=h
 obtain⟨b,ys,rfl,hb,hz⟩:=qA hst hd
 clear hd hst
 have hu:=hr.units
 have hlen:=S.hcs.length
 have hn:=S.hn
 have ht:=S.ht
 refine⟨_,(ae (nn (pv 0) (fc rfl (bF (ao (i:=2) sc.nd rfl (Or.inl rfl)) (bF (ao (i:=3) sc.nd rfl (Or.inl rfl)) dN))))
  (ae (aH (PW.pt (b_ (bf (aK (ak bM rfl T.isinstance PyProof.Rows.boot_isinstance (aa (pv 1) (aa (dk (v:=.ty "tuple") rfl T.tuple PyProof.Rows.boot_tuple rfl) ad))))) (b_ (am fF (ak aF rfl T.len PySem.boot_len (aa (pv 1) ad)) ah (ax _)) (cg (am (cY hu) (ak aF rfl T.len PySem.boot_len (aa (pv 1) ad)) (aB b0 ah (b6 mw rfl T.int PyProof.Rows.boot_int (aa (bB dO (az ar (pv 1) ah (fun _ _=>rfl)) (cx (aa aJ (aa aJ ad))) (by with_unfolding_all rfl)) ad))) (ax _)))))) (ag (aj aW)) au)
  (ae (aH (am (bd hu) (az ar (pv 1) ah (fun _ _=>rfl)) aJ (ax _)) (ag (aj (aw G_law_pure hr (by omega) rfl (aa (pv 2) (aa (pv 3) (aa (az ar (pv 1) ah (fun _ _=>rfl)) ad)))))) au)
  (ae (aH (PW.pt (b_ (am bS (az ar (pv 1) ah (fun _ _=>rfl)) (cx (aa aJ (aa aJ (aa aJ (aa aJ ad))))) (by with_unfolding_all rfl)) (cg (bf (aK (aw G_law_ahead hr (by omega) rfl (aa (pv 3) (aa (az ar (pv 1) ah (fun _ _=>rfl)) ad)))))))) (ag (aj aW)) au)
  (ae (aC (i:=4) sc.nd rfl (Or.inr rfl) (az ar (pv 3) (az ar (pv 1) ah (fun _ _=>rfl)) (fun _ _=>rfl)))
  (ae (aH (am (bd hu) (az ar (pv 1) ah (fun _ _=>rfl)) aJ (ax _)) (ag (aj (aB ci (aB ci (bw bR (pv 3) bY (bK (az ar (pv 1) ah (fun _ _=>rfl)))) (cx (aa (aw G_law_dropped hr (by omega) rfl (aa (pv 2) (aa aJ (aa (pv 4) ad)))) ad))) (bw bR (pv 3) (bK (aB b0 (az ar (pv 1) ah (fun _ _=>rfl)) ah)) bY)))) au)
  (ae (aH (PW.pt (cX (am (bd hu) (az ar (pv 1) ah (fun _ _=>rfl)) aJ (ax _)) (cX (am (bd hu) (ak aF rfl T.len PySem.boot_len (aa (pv 4) ad)) ah (ax _)) (cS (aK (aw G_law_own hr (by omega) rfl (aa (pv 2) (aa aJ (aa (az ar (pv 4) ah (fun _ _=>rfl)) ad))))))))) (ag (aj (aw G_law_stand hr (by omega) rfl (aa (pv 3) (aa (az ar (pv 4) ah (fun _ _=>rfl)) ad))))) au)
  (ae (aH (am (bd hu) (az ar (pv 1) ah (fun _ _=>rfl)) aJ (ax _)) (ag (aj (aw G_law_blocked hr (by omega) rfl (aa (pv 2) (aa (pv 3) (aa (az ar (pv 1) ah (fun _ _=>rfl)) (aa (az ar (pv 1) ah (fun _ _=>rfl)) ad))))))) au)
  (ae (aH (PW.pt (cX (am (bd hu) (az ar (pv 1) ah (fun _ _=>rfl)) aJ (ax _)) (cX (aK (aw G_law_ahead hr (by omega) rfl (aa (pv 3) (aa (az ar (pv 1) ah (fun _ _=>rfl)) ad)))) (cS (am (cY hu) (az ar (pv 1) ah (fun _ _=>rfl)) (az ar (pv 1) ah (fun _ _=>rfl)) (ax _)))))) (ag (aH (am (bd hu) (ak aF rfl T.len PySem.boot_len (aa (aP (NY:=["_law_one","_law_clause"]) (idx:=[none,some 4]) rfl ⟨by with_unfolding_all rfl,(by with_unfolding_all exact⟨rfl,trivial⟩),fun _=>by rfl,by rfl,by rfl,by rfl,by decide⟩ (ca (az ar (pv 3) (az ar (pv 1) ah (fun _ _=>rfl)) (fun _ _=>rfl))) (fun _ _ _ _=>(ao (i:=0) (show List.Nodup (["_law_one","_law_clause"]:List Str) by decide+kernel) rfl (Or.inl rfl))) (fun _ _ _ _=>(bn (am (c6 (K:=K) rfl) (pv 0) (pv 1) (by with_unfolding_all rfl)))) (fun _ _ _ _=>(pv 0))) ad)) ah (ax _)) (ag (aj (aB ci (bw bR (pv 3) bY (bK (az ar (pv 1) ah (fun _ _=>rfl)))) (bw bR (pv 3) (bK (aB b0 (az ar (pv 1) ah (fun _ _=>rfl)) ah)) bY)))) au)) au)
  (ag (aj aW))))))))))),?_⟩
 refine⟨_,rfl,p,_,rfl,SqT.of hp,rfl,_,_,rfl,_,_,rfl,rfl,?_⟩
 cases hz with
 |pure z=>
  rw[eu] at q'
  refine⟨_,rfl,.ref b,_,"tuple",true,rfl,.tup hb,aU uE,true,rfl,aA ?_⟩
  refine⟨_,rfl,.ref b,_,rfl,.inr ⟨_,SqT.of hb,rfl⟩,_,_,rfl,rfl,_,rfl,cA (fun g=>absurd (of_decide_eq_true g) (show ¬ ((2:Int) < 2) by decide)) (fun _=>?_)⟩
  refine⟨_,rfl,.ref b,_,rfl,.inr ⟨_,SqT.of hb,rfl⟩,_,rfl,.inr (.inl ⟨b,_,0,.str bz,rfl,rfl,SqT.of hb,rfl,(by show 2<=sizeLine;decide),fun L1 q1=>?_⟩)⟩
  have k1:=af q1 (.lst [.str (Str.ofString "within"),.str (Str.ofString "blocked")])
  refine⟨L1,_,rfl,.inl (SqL.of ac),rfl,rfl,.inr ⟨_,rfl,_,_,rfl,rfl,.inl ⟨rfl,_,rfl,?_⟩⟩⟩
  refine sT (by rw[show (if false=true then !c_ (.str bz) [.str (Str.ofString "within"),.str (Str.ofString "blocked")] else c_ (.str bz) [.str (Str.ofString "within"),.str (Str.ofString "blocked")])=false by decide+kernel];rfl) ?_
  refine⟨_,rfl,.inr (.inl ⟨b,_,0,.str bz,rfl,rfl,SqT.of (k1 _ _ hb),rfl,.inl ⟨rfl,_,rfl,tN (by decide+kernel) ?_⟩⟩)⟩
  exact⟨_,rfl,_,rfl,_,rfl,.inr (.inl ⟨b,_,1,.int z,rfl,rfl,SqT.of (k1 _ _ hb),rfl,q,t,z,xs,cs,rfl,S.mono k1,fun v' H' k r=>q' v' H' (k1.trans k) (r.back k1)⟩)⟩
 |drop i hi=>
  rw[em] at q'
  have q2':∀ v' H',Same H H'->RC H H' (some (cs.take i++[gt t false (cs.getD i [])]++cs.drop (i+1))) v'->Q v' H':=fun v' H' k r=>q' v' H' k (by
   unfold fL
   rw[aL hi]
   exact r)
  refine⟨_,rfl,.ref b,_,"tuple",true,rfl,.tup hb,aU uE,true,rfl,aA ?_⟩
  refine⟨_,rfl,.ref b,_,rfl,.inr ⟨_,SqT.of hb,rfl⟩,_,_,rfl,rfl,_,rfl,cA (fun g=>absurd (of_decide_eq_true g) (show ¬ ((2:Int) < 2) by decide)) (fun _=>?_)⟩
  refine⟨_,rfl,.ref b,_,rfl,.inr ⟨_,SqT.of hb,rfl⟩,_,rfl,.inr (.inl ⟨b,_,0,.str br,rfl,rfl,SqT.of hb,rfl,(by show 2<=sizeLine;decide),fun L1 q1=>?_⟩)⟩
  have k1:=af q1 (.lst [.str (Str.ofString "within"),.str (Str.ofString "blocked")])
  refine⟨L1,_,rfl,.inl (SqL.of ac),rfl,rfl,.inr ⟨_,rfl,_,_,rfl,rfl,.inl ⟨rfl,_,rfl,?_⟩⟩⟩
  refine sT (by rw[show (if false=true then !c_ (.str br) [.str (Str.ofString "within"),.str (Str.ofString "blocked")] else c_ (.str br) [.str (Str.ofString "within"),.str (Str.ofString "blocked")])=false by decide+kernel];rfl) ?_
  refine⟨_,rfl,.inr (.inl ⟨b,_,0,.str br,rfl,rfl,SqT.of (k1 _ _ hb),rfl,.inl ⟨rfl,_,rfl,jN (by decide+kernel) ?_⟩⟩)⟩
  refine⟨_,rfl,.inr (.inl ⟨b,_,0,.str br,rfl,rfl,SqT.of (k1 _ _ hb),rfl,(by show 4<=sizeLine;decide),fun L2 q2=>?_⟩)⟩
  have k2:=k1.trans (af q2 (.lst [.str (Str.ofString "drop"),.str (Str.ofString "unit"),.str (Str.ofString "within"),.str (Str.ofString "blocked")]))
  refine⟨L2,_,rfl,.inl (SqL.of ac),rfl,rfl,_,rfl,?_⟩
  rw[show (if true=true then !c_ (.str br) [.str (Str.ofString "drop"),.str (Str.ofString "unit"),.str (Str.ofString "within"),.str (Str.ofString "blocked")] else c_ (.str br) [.str (Str.ofString "drop"),.str (Str.ofString "unit"),.str (Str.ofString "within"),.str (Str.ofString "blocked")])=false by decide+kernel]
  refine aA ⟨_,rfl,_,rfl,.inr (.inl ⟨b,_,1,.int (i:Int),rfl,rfl,SqT.of (k2 _ _ hb),rfl,q,.int (i:Int),.int (i:Int),xs,rfl,k2 _ _ S.hq,(by omega),bi _,_,rfl,?_⟩)⟩
  rw[← hlen,aL hi]
  refine aA ?_
  refine gC S.hcs hi fun tc hx htc hm=>?_
  refine⟨_,rfl,_,rfl,.inr (.inl ⟨b,_,1,.int (i:Int),rfl,rfl,SqT.of (k2 _ _ hb),rfl,.inl ⟨q,xs,(i:Int),.ref tc,rfl,rfl,SqL.of (k2 _ _ S.hq),aZ hx,?_⟩⟩)⟩
  have hq2:=k2 _ _ S.hq
  have hb2:=k2 _ _ hb
  have htc2:=k2 _ _ htc
  generalize upd (upd H L1 _) L2 _=H3 at k2 hq2 hb2 htc2 ⊢
  refine⟨_,rfl,.inr (.inl ⟨b,_,0,.str br,rfl,rfl,SqT.of hb2,rfl,.inl ⟨rfl,_,rfl,tN (by decide+kernel) ?_⟩⟩)⟩
  refine⟨_,rfl,_,rfl,.inr (.inl ⟨b,_,1,.int (i:Int),rfl,rfl,SqT.of hb2,rfl,_,rfl,q,xs,rfl,SqL.of hq2,fun l1 q1'=>?_⟩)⟩
  rw[fm]
  have j1:=af q1' (.lst (xs.take i))
  have s1:upd H3 l1 (.lst (xs.take i)) l1=some (.lst (xs.take i)):=ac
  generalize upd H3 l1 (.lst (xs.take i))=H4 at j1 s1
  refine⟨_,rfl,_,rfl,tc,t,false,_,rfl,ht,j1 _ _ htc2,⟨hup _ hm,S.hok _ hm⟩,fun l2 H5 j2 s2=>⟨(by show 1<=sizeLine;decide),fun l3 q3=>?_⟩⟩
  have j3:=af q3 (.lst [.ref l2])
  refine⟨l1,l3,_,_,rfl,rfl,(j2.trans j3) _ _ s1,ac,Nat.le_of_lt (av (by rw[List.length_take];show _+1<=1000;omega)),fun l4 q4=>?_⟩
  have j4:=af q4 (.lst (xs.take i++[.ref l2]))
  have j14:=j1.trans (j2.trans (j3.trans j4))
  refine⟨_,rfl,_,rfl,.inr (.inl ⟨b,_,1,.int (i:Int),rfl,rfl,SqT.of (j14 _ _ hb2),rfl,_,_,rfl,rfl,_,rfl,q,xs,rfl,SqL.of (j14 _ _ hq2),fun l5 q5=>?_⟩)⟩
  have ec:cy xs (some ((i:Int)+1)) none=xs.drop (i+1):=dg xs (i+1)
  rw[ec]
  have j5:=af q5 (.lst (xs.drop (i+1)))
  refine⟨l4,l5,_,_,rfl,rfl,j5 _ _ ac,ac,Nat.le_of_lt (av (by rw[List.length_append,List.length_take,List.length_drop];show _+1+_<=1000;omega)),fun l6 q6=>?_⟩
  have j6:=af q6 (.lst (xs.take i++[.ref l2]++xs.drop (i+1)))
  have kk:=k2.trans (j14.trans (j5.trans j6))
  refine q2' _ _ kk ⟨l6,_,rfl,(k2.trans (j14.trans j5)).free q6,ac,?_⟩
  exact bp (bp (bP i (S.hcs.mono kk)) (Paired.cons ⟨l2,rfl,(j3.trans (j4.trans (j5.trans j6))) _ _ s2⟩ .nil)) (bQ (i+1) (S.hcs.mono kk))
 |unit i hi=>
  rw[er] at q'
  have q2':∀ v' H',Same H H'->RC H H' (if dh t (cs.getD i [])=true then some (aT ((cs.getD i []).getD 0 0) cs) else none) v'->Q v' H':=fun v' H' k r=>q' v' H' k (by
   unfold fM
   rw[aL hi]
   exact r)
  refine⟨_,rfl,.ref b,_,"tuple",true,rfl,.tup hb,aU uE,true,rfl,aA ?_⟩
  refine⟨_,rfl,.ref b,_,rfl,.inr ⟨_,SqT.of hb,rfl⟩,_,_,rfl,rfl,_,rfl,cA (fun g=>absurd (of_decide_eq_true g) (show ¬ ((2:Int) < 2) by decide)) (fun _=>?_)⟩
  refine⟨_,rfl,.ref b,_,rfl,.inr ⟨_,SqT.of hb,rfl⟩,_,rfl,.inr (.inl ⟨b,_,0,.str a_,rfl,rfl,SqT.of hb,rfl,(by show 2<=sizeLine;decide),fun L1 q1=>?_⟩)⟩
  have k1:=af q1 (.lst [.str (Str.ofString "within"),.str (Str.ofString "blocked")])
  refine⟨L1,_,rfl,.inl (SqL.of ac),rfl,rfl,.inr ⟨_,rfl,_,_,rfl,rfl,.inl ⟨rfl,_,rfl,?_⟩⟩⟩
  refine sT (by rw[show (if false=true then !c_ (.str a_) [.str (Str.ofString "within"),.str (Str.ofString "blocked")] else c_ (.str a_) [.str (Str.ofString "within"),.str (Str.ofString "blocked")])=false by decide+kernel];rfl) ?_
  refine⟨_,rfl,.inr (.inl ⟨b,_,0,.str a_,rfl,rfl,SqT.of (k1 _ _ hb),rfl,.inl ⟨rfl,_,rfl,jN (by decide+kernel) ?_⟩⟩)⟩
  refine⟨_,rfl,.inr (.inl ⟨b,_,0,.str a_,rfl,rfl,SqT.of (k1 _ _ hb),rfl,(by show 4<=sizeLine;decide),fun L2 q2=>?_⟩)⟩
  have k2:=k1.trans (af q2 (.lst [.str (Str.ofString "drop"),.str (Str.ofString "unit"),.str (Str.ofString "within"),.str (Str.ofString "blocked")]))
  refine⟨L2,_,rfl,.inl (SqL.of ac),rfl,rfl,_,rfl,?_⟩
  rw[show (if true=true then !c_ (.str a_) [.str (Str.ofString "drop"),.str (Str.ofString "unit"),.str (Str.ofString "within"),.str (Str.ofString "blocked")] else c_ (.str a_) [.str (Str.ofString "drop"),.str (Str.ofString "unit"),.str (Str.ofString "within"),.str (Str.ofString "blocked")])=false by decide+kernel]
  refine aA ⟨_,rfl,_,rfl,.inr (.inl ⟨b,_,1,.int (i:Int),rfl,rfl,SqT.of (k2 _ _ hb),rfl,q,.int (i:Int),.int (i:Int),xs,rfl,k2 _ _ S.hq,(by omega),bi _,_,rfl,?_⟩)⟩
  rw[← hlen,aL hi]
  refine aA ?_
  refine gC S.hcs hi fun tc hx htc hm=>?_
  refine⟨_,rfl,_,rfl,.inr (.inl ⟨b,_,1,.int (i:Int),rfl,rfl,SqT.of (k2 _ _ hb),rfl,.inl ⟨q,xs,(i:Int),.ref tc,rfl,rfl,SqL.of (k2 _ _ S.hq),aZ hx,?_⟩⟩)⟩
  have hq2:=k2 _ _ S.hq
  have hb2:=k2 _ _ hb
  have htc2:=k2 _ _ htc
  generalize upd (upd H L1 _) L2 _=H3 at k2 hq2 hb2 htc2 ⊢
  refine⟨_,rfl,.inr (.inl ⟨b,_,0,.str a_,rfl,rfl,SqT.of hb2,rfl,.inl ⟨rfl,_,rfl,jN (by decide+kernel) ?_⟩⟩)⟩
  refine⟨_,rfl,.inr (.inl ⟨b,_,0,.str a_,rfl,rfl,SqT.of hb2,rfl,.inl ⟨rfl,_,rfl,tN (by decide+kernel) ?_⟩⟩)⟩
  refine⟨_,rfl,.ref tc,_,rfl,.inr ⟨_,SqT.of htc2,rfl⟩,.inl ⟨rfl,_,rfl,?_⟩⟩
  have hok:=S.hok _ hm
  generalize cs.getD i []=c at htc2 hok q2'
  match c,htc2,hok,q2' with
  |[],htc2,hok,q2'=>exact cA (fun y=>absurd (V.int.inj (of_decide_eq_true y)) (by decide)) (fun _=>aA ⟨_,rfl,.inr (.inl ⟨b,_,0,.str a_,rfl,rfl,SqT.of hb2,rfl,.inl ⟨rfl,_,rfl,jN (by decide+kernel) ⟨_,rfl,.inr (.inl ⟨b,_,0,.str a_,rfl,rfl,SqT.of hb2,rfl,.inl ⟨rfl,_,rfl,jN (by decide+kernel) (aA (q2' _ _ k2 rfl))⟩⟩)⟩⟩⟩)⟩)
  |[z],htc2,hok,q2'=>
   refine cA (fun _=>?_) (fun y=>absurd (decide_eq_true rfl) y)
   have hz:=hok z List.mem_cons_self
   refine⟨_,rfl,_,rfl,.inr (.inl ⟨tc,_,0,.int z,rfl,rfl,SqT.of htc2,rfl,t,true,z,rfl,hz.1,hz.2,(by omega),_,rfl,?_⟩)⟩
   have eo:(cq t (al z - 1).toNat == true)=dh t [z]:=by
    show _=bu t z
    unfold bu
    cases cq t (al z - 1).toNat<;>rfl
   rw[eo]
   cases g:dh t [z] with
   |true=>
    rw[g,if_pos rfl] at q2'
    exact aI ⟨_,rfl,_,rfl,.inr (.inl ⟨tc,_,0,.int z,rfl,rfl,SqT.of htc2,rfl,q,z,xs,cs,rfl,hq2,S.hcs.mono k2,hn,S.hc,fun l ys H' k n a b=>q2' _ _ (k2.trans k) ⟨l,ys,rfl,k2.free n,a,b⟩⟩)⟩
   |false=>
    rw[g,if_neg Bool.false_ne_true] at q2'
    exact aA ⟨_,rfl,.inr (.inl ⟨b,_,0,.str a_,rfl,rfl,SqT.of hb2,rfl,.inl ⟨rfl,_,rfl,jN (by decide+kernel) ⟨_,rfl,.inr (.inl ⟨b,_,0,.str a_,rfl,rfl,SqT.of hb2,rfl,.inl ⟨rfl,_,rfl,jN (by decide+kernel) (aA (q2' _ _ k2 rfl))⟩⟩)⟩⟩⟩)⟩
  |x::y::r,htc2,hok,q2'=>exact cA (fun z=>absurd (V.int.inj (of_decide_eq_true z)) (by simp;omega)) (fun _=>aA ⟨_,rfl,.inr (.inl ⟨b,_,0,.str a_,rfl,rfl,SqT.of hb2,rfl,.inl ⟨rfl,_,rfl,jN (by decide+kernel) ⟨_,rfl,.inr (.inl ⟨b,_,0,.str a_,rfl,rfl,SqT.of hb2,rfl,.inl ⟨rfl,_,rfl,jN (by decide+kernel) (aA (q2' _ _ k2 rfl))⟩⟩)⟩⟩⟩)⟩)
 |within i j hi hj=>
  rw[du] at q'
  have q2':∀ v' H',Same H H'->RC H H' (if (!decide (i=j)&&((cs.getD j []).all fun z=>(cs.getD i []).contains z))=true then some (bE cs i) else none) v'->Q v' H':=fun v' H' k r=>q' v' H' k (by
   unfold fN
   rw[aL hi,aL hj]
   exact r)
  refine⟨_,rfl,.ref b,_,"tuple",true,rfl,.tup hb,aU uE,true,rfl,aA ?_⟩
  refine⟨_,rfl,.ref b,_,rfl,.inr ⟨_,SqT.of hb,rfl⟩,_,_,rfl,rfl,_,rfl,cA (fun g=>absurd (of_decide_eq_true g) (show ¬ ((3:Int) < 2) by decide)) (fun _=>?_)⟩
  refine⟨_,rfl,.ref b,_,rfl,.inr ⟨_,SqT.of hb,rfl⟩,_,rfl,.inr (.inl ⟨b,_,0,.str aG,rfl,rfl,SqT.of hb,rfl,(by show 2<=sizeLine;decide),fun L1 q1=>?_⟩)⟩
  have k1:=af q1 (.lst [.str (Str.ofString "within"),.str (Str.ofString "blocked")])
  refine⟨L1,_,rfl,.inl (SqL.of ac),rfl,rfl,.inr ⟨_,rfl,_,_,rfl,rfl,.inl ⟨rfl,_,rfl,?_⟩⟩⟩
  refine sT (by rw[show (if false=true then !c_ (.str aG) [.str (Str.ofString "within"),.str (Str.ofString "blocked")] else c_ (.str aG) [.str (Str.ofString "within"),.str (Str.ofString "blocked")])=true by decide+kernel];rfl) ?_
  refine⟨_,rfl,.inr (.inl ⟨b,_,0,.str aG,rfl,rfl,SqT.of (k1 _ _ hb),rfl,.inl ⟨rfl,_,rfl,jN (by decide+kernel) ?_⟩⟩)⟩
  refine⟨_,rfl,.inr (.inl ⟨b,_,0,.str aG,rfl,rfl,SqT.of (k1 _ _ hb),rfl,(by show 4<=sizeLine;decide),fun L2 q2=>?_⟩)⟩
  have k2:=k1.trans (af q2 (.lst [.str (Str.ofString "drop"),.str (Str.ofString "unit"),.str (Str.ofString "within"),.str (Str.ofString "blocked")]))
  refine⟨L2,_,rfl,.inl (SqL.of ac),rfl,rfl,_,rfl,?_⟩
  rw[show (if true=true then !c_ (.str aG) [.str (Str.ofString "drop"),.str (Str.ofString "unit"),.str (Str.ofString "within"),.str (Str.ofString "blocked")] else c_ (.str aG) [.str (Str.ofString "drop"),.str (Str.ofString "unit"),.str (Str.ofString "within"),.str (Str.ofString "blocked")])=false by decide+kernel]
  refine aA ⟨_,rfl,_,rfl,.inr (.inl ⟨b,_,1,.int (i:Int),rfl,rfl,SqT.of (k2 _ _ hb),rfl,q,.int (i:Int),.int (i:Int),xs,rfl,k2 _ _ S.hq,(by omega),bi _,_,rfl,?_⟩)⟩
  rw[← hlen,aL hi]
  refine aA ?_
  refine gC S.hcs hi fun tc hx htc hm=>?_
  refine⟨_,rfl,_,rfl,.inr (.inl ⟨b,_,1,.int (i:Int),rfl,rfl,SqT.of (k2 _ _ hb),rfl,.inl ⟨q,xs,(i:Int),.ref tc,rfl,rfl,SqL.of (k2 _ _ S.hq),aZ hx,?_⟩⟩)⟩
  have hq2:=k2 _ _ S.hq
  have hb2:=k2 _ _ hb
  have htc2:=k2 _ _ htc
  generalize upd (upd H L1 _) L2 _=H3 at k2 hq2 hb2 htc2 ⊢
  refine⟨_,rfl,.inr (.inl ⟨b,_,0,.str aG,rfl,rfl,SqT.of hb2,rfl,.inl ⟨rfl,_,rfl,jN (by decide+kernel) ?_⟩⟩)⟩
  refine⟨_,rfl,.inr (.inl ⟨b,_,0,.str aG,rfl,rfl,SqT.of hb2,rfl,.inl ⟨rfl,_,rfl,jN (by decide+kernel) (aA ?_)⟩⟩)⟩
  refine⟨_,rfl,.inr (.inl ⟨b,_,0,.str aG,rfl,rfl,SqT.of hb2,rfl,.inl ⟨rfl,_,rfl,jN (by decide+kernel) ?_⟩⟩)⟩
  refine⟨_,rfl,.inr (.inl ⟨b,_,0,.str aG,rfl,rfl,SqT.of hb2,rfl,.inl ⟨rfl,_,rfl,tN (by decide+kernel) ?_⟩⟩)⟩
  refine⟨_,rfl,_,rfl,.inr (.inl ⟨b,_,2,.int (j:Int),rfl,rfl,SqT.of hb2,rfl,q,.int (j:Int),.int (j:Int),xs,rfl,hq2,(by omega),bi _,_,rfl,?_⟩)⟩
  rw[← hlen,aL hj]
  refine aI ?_
  refine⟨_,rfl,.inr (.inl ⟨b,_,1,.int (i:Int),rfl,rfl,SqT.of hb2,rfl,_,rfl,.inr (.inl ⟨b,_,2,.int (j:Int),rfl,rfl,SqT.of hb2,rfl,.inl ⟨rfl,_,rfl,?_⟩⟩)⟩)⟩
  by_cases eij:i=j
  ·subst eij
   rw[decide_eq_true rfl] at q2'
   exact sT rfl (q2' _ _ k2 rfl)
  rw[decide_eq_false eij] at q2'
  rw[decide_eq_false (fun z=>eij (by have:=V.int.inj z;omega))]
  refine aI ?_
  refine gC S.hcs hj fun td hy htd hm2=>?_
  have htd2:=k2 _ _ htd
  have hcl:=S.hc _ hm2
  refine⟨_,rfl,_,rfl,.inr (.inl ⟨b,_,2,.int (j:Int),rfl,rfl,SqT.of hb2,rfl,.inl ⟨q,xs,(j:Int),.ref td,rfl,rfl,SqL.of hq2,aZ hy,td,rfl,⟨_,SqT.of htd2⟩,fun D hD=>?_⟩⟩)⟩
  refine bx [some (.ref tc)] (mK fun o=>!(cs.getD i []).contains o) (fun x=>x) rfl htd2 hD (by rw[List.length_map];omega) ?_ ?_ ?_
  ·intro x hx H' R k r
   obtain⟨y,_,rfl⟩:=bZ hx
   refine⟨_,rfl,_,rfl,tc,_,rfl,.inr (SqT.of (k _ _ htc2)),rfl,aV _,_,rfl,?_⟩
   show R (!c_ (.int y) ((cs.getD i []).map V.int)) H'
   rw[bc]
   exact r
  ·intro x hx _ H' R k r
   exact⟨_,rfl,r⟩
  rw[bN (cs.getD j []) (fun o=>!(cs.getD i []).contains o) _ fun i=>rfl]
  have k3:=k2.trans (af hD (.lst (((cs.getD j []).filter fun o=>!(cs.getD i []).contains o).map V.int)))
  have hq3:=k3 _ _ S.hq
  have hb3:=k3 _ _ hb
  have el:((cs.getD j []).all fun z=>(cs.getD i []).contains z)=decide (((cs.getD j []).filter fun o=>!(cs.getD i []).contains o).length=0):=by
   rw[gA,Bool.eq_iff_iff,List.all_eq_true,Bool.not_eq_true',List.any_eq_false]
   exact⟨fun h x hx=>by rw[h x hx];decide,fun h x hx=>by
    have:=h x hx
    cases g:(cs.getD i []).contains x with
    |true=>rfl
    |false=>rw[g] at this;exact absurd rfl this⟩
  refine⟨.ref D,_,rfl,.inl ⟨_,SqL.of ac,rfl⟩,.inl ⟨rfl,_,rfl,?_⟩⟩
  rw[List.length_map]
  generalize upd H3 D _=H4 at k3 hq3 hb3 ⊢
  by_cases g:((cs.getD j []).filter fun o=>!(cs.getD i []).contains o).length=0
  ·rw[el,decide_eq_true g] at q2'
   rw[g]
   refine tN (by decide+kernel) ?_
   refine⟨_,rfl,_,rfl,.inr (.inl ⟨b,_,1,.int (i:Int),rfl,rfl,SqT.of hb3,rfl,_,rfl,q,xs,rfl,SqL.of hq3,fun l1 q1'=>?_⟩)⟩
   rw[fm]
   have j1:=af q1' (.lst (xs.take i))
   refine⟨_,rfl,_,rfl,.inr (.inl ⟨b,_,1,.int (i:Int),rfl,rfl,SqT.of (j1 _ _ hb3),rfl,_,_,rfl,rfl,_,rfl,q,xs,rfl,SqL.of (j1 _ _ hq3),fun l5 q5=>?_⟩)⟩
   have ec:cy xs (some ((i:Int)+1)) none=xs.drop (i+1):=dg xs (i+1)
   rw[ec]
   have j5:=af q5 (.lst (xs.drop (i+1)))
   refine⟨l1,l5,_,_,rfl,rfl,j5 _ _ ac,ac,Nat.le_of_lt (av (by rw[List.length_take,List.length_drop];omega)),fun l6 q6=>?_⟩
   have kk:=k3.trans (j1.trans (j5.trans (af q6 (.lst (xs.take i++xs.drop (i+1))))))
   exact q2' _ _ kk ⟨l6,_,rfl,(k3.trans (j1.trans j5)).free q6,ac,bp (bP i (S.hcs.mono kk)) (bQ (i+1) (S.hcs.mono kk))⟩
  ·rw[el,decide_eq_false g] at q2'
   refine jN (decide_eq_false fun z=>g (by have:=V.int.inj z;omega)) ?_
   exact q2' _ _ k3 rfl
 |blocked i z hi=>
  rw[c9] at q'
  have q2':∀ v' H',Same H H'->RC H H' (if ce t cs i z=true then some (bE cs i) else none) v'->Q v' H':=fun v' H' k r=>q' v' H' k (by
   show RC H H' ((bq cs.length (.int (i:Int))).bind _) v'
   rw[aL hi]
   exact r)
  refine⟨_,rfl,.ref b,_,"tuple",true,rfl,.tup hb,aU uE,true,rfl,aA ?_⟩
  refine⟨_,rfl,.ref b,_,rfl,.inr ⟨_,SqT.of hb,rfl⟩,_,_,rfl,rfl,_,rfl,cA (fun g=>absurd (of_decide_eq_true g) (show ¬ ((3:Int) < 2) by decide)) (fun _=>?_)⟩
  refine⟨_,rfl,.ref b,_,rfl,.inr ⟨_,SqT.of hb,rfl⟩,_,rfl,.inr (.inl ⟨b,_,0,.str aD,rfl,rfl,SqT.of hb,rfl,(by show 2<=sizeLine;decide),fun L1 q1=>?_⟩)⟩
  have k1:=af q1 (.lst [.str (Str.ofString "within"),.str (Str.ofString "blocked")])
  refine⟨L1,_,rfl,.inl (SqL.of ac),rfl,rfl,.inr ⟨_,rfl,_,_,rfl,rfl,.inl ⟨rfl,_,rfl,?_⟩⟩⟩
  refine sT (by rw[show (if false=true then !c_ (.str aD) [.str (Str.ofString "within"),.str (Str.ofString "blocked")] else c_ (.str aD) [.str (Str.ofString "within"),.str (Str.ofString "blocked")])=true by decide+kernel];rfl) ?_
  refine⟨_,rfl,.inr (.inl ⟨b,_,0,.str aD,rfl,rfl,SqT.of (k1 _ _ hb),rfl,.inl ⟨rfl,_,rfl,jN (by decide+kernel) ?_⟩⟩)⟩
  refine⟨_,rfl,.inr (.inl ⟨b,_,0,.str aD,rfl,rfl,SqT.of (k1 _ _ hb),rfl,(by show 4<=sizeLine;decide),fun L2 q2=>?_⟩)⟩
  have k2:=k1.trans (af q2 (.lst [.str (Str.ofString "drop"),.str (Str.ofString "unit"),.str (Str.ofString "within"),.str (Str.ofString "blocked")]))
  refine⟨L2,_,rfl,.inl (SqL.of ac),rfl,rfl,_,rfl,?_⟩
  rw[show (if true=true then !c_ (.str aD) [.str (Str.ofString "drop"),.str (Str.ofString "unit"),.str (Str.ofString "within"),.str (Str.ofString "blocked")] else c_ (.str aD) [.str (Str.ofString "drop"),.str (Str.ofString "unit"),.str (Str.ofString "within"),.str (Str.ofString "blocked")])=false by decide+kernel]
  refine aA ⟨_,rfl,_,rfl,.inr (.inl ⟨b,_,1,.int (i:Int),rfl,rfl,SqT.of (k2 _ _ hb),rfl,q,.int (i:Int),.int (i:Int),xs,rfl,k2 _ _ S.hq,(by omega),bi _,_,rfl,?_⟩)⟩
  rw[← hlen,aL hi]
  refine aA ?_
  refine gC S.hcs hi fun tc hx htc hm=>?_
  refine⟨_,rfl,_,rfl,.inr (.inl ⟨b,_,1,.int (i:Int),rfl,rfl,SqT.of (k2 _ _ hb),rfl,.inl ⟨q,xs,(i:Int),.ref tc,rfl,rfl,SqL.of (k2 _ _ S.hq),aZ hx,?_⟩⟩)⟩
  have hq2:=k2 _ _ S.hq
  have hb2:=k2 _ _ hb
  have htc2:=k2 _ _ htc
  generalize upd (upd H L1 _) L2 _=H3 at k2 hq2 hb2 htc2 ⊢
  refine⟨_,rfl,.inr (.inl ⟨b,_,0,.str aD,rfl,rfl,SqT.of hb2,rfl,.inl ⟨rfl,_,rfl,jN (by decide+kernel) ?_⟩⟩)⟩
  refine⟨_,rfl,.inr (.inl ⟨b,_,0,.str aD,rfl,rfl,SqT.of hb2,rfl,.inl ⟨rfl,_,rfl,jN (by decide+kernel) (aA ?_)⟩⟩)⟩
  refine⟨_,rfl,.inr (.inl ⟨b,_,0,.str aD,rfl,rfl,SqT.of hb2,rfl,.inl ⟨rfl,_,rfl,tN (by decide+kernel) ?_⟩⟩)⟩
  exact⟨_,rfl,_,rfl,_,rfl,.inr (.inl ⟨b,_,1,.int (i:Int),rfl,rfl,SqT.of hb2,rfl,_,rfl,.inr (.inl ⟨b,_,2,.int z,rfl,rfl,SqT.of hb2,rfl,q,t,i,z,xs,cs,rfl,S.mono k2,hi,hup,fun v' H' k r=>q2' v' H' (k2.trans k) (r.back k2)⟩)⟩)⟩
end
end K63
namespace K63
open PySem L2 OD
abbrev kH:Stmt:=cW 52
structure uX (mg:Str->Option Value):Prop where
 len:mg "len"=none
 list:mg "list"=none
 range:mg "range"=none
inductive dJ (cs:List (List Int)):List V->Prop
 |drop (i:Nat) (h:i < cs.length):dJ cs [.str br,.int (i:Int)]
 |unit (i:Nat) (h:i < cs.length):dJ cs [.str a_,.int (i:Int)]
 |pure (z:Int):dJ cs [.str bz,.int z]
 |within (i j:Nat) (h:i < cs.length) (g:j < cs.length):dJ cs [.str aG,.int (i:Int),.int (j:Int)]
 |blocked (i:Nat) (z:Int) (h:i < cs.length):dJ cs [.str aD,.int (i:Int),.int z]
def Steps (H:Hp)(cs:List (List Int))(ys:List V):Prop:=∀ y∈ys,∃ zs,dJ cs zs/\TupAt H zs y
theorem Steps.mono {H H':Hp}{cs:List (List Int)}{ys:List V}(h:Steps H cs ys)(k:Same H H'):Steps H' cs ys:=fun y hy=>let ⟨zs,a,b⟩:=h y hy;⟨zs,a,b.mono k⟩
theorem Steps.app {H:Hp}{cs:List (List Int)}{ys zs:List V}(h:Steps H cs ys)(g:Steps H cs zs):Steps H cs (ys++zs):=fun y hy=>(List.mem_append.mp hy).elim (h y) (g y)
inductive pb (vs:List V)(H:Hp)(Q:VK):Prop
 |mk (p q:Addr)(t:Str)(xs:List V)(cs:List (List Int))(h0:vs=[.ref p])(hp:H p=some (.tup [.str t,.ref q]))(h1:ClsAt H q t xs cs)(h2:t.length<=8)(h3:cs.length<=16)(h4:∀ c∈cs,c.length<=4)
  (h5:∀ (l:Addr) (ys:List V) (H':Hp),Same H H'->H' l=some (.lst ys)->ys.length<=900->Steps H' cs ys->Q (.ref l) H'):pb vs H Q
def lR:Sp:=fun vs H Q _=>pb vs H Q
theorem fA {n:Nat}{x:V}(h:x∈(List.range n).map fun i:Nat=>V.int (i:Int)):∃ i:Nat,i < n/\x=.int (i:Int):=by
 obtain⟨i,hi,e⟩:=List.mem_map.mp h
 exact⟨i,List.mem_range.mp hi,e.symm⟩
inductive rB (H:Hp)(p q L:Addr)(t:Str)(cs:List (List Int))(i:Nat)(σ:St)(H2:Hp):Prop
 |mk (M:Addr)(ys:List V)(v5:Option V)(h0:σ=[some (.ref p),some (.str t),some (.ref q),some (.ref L),some (.ref M),v5,none])(h1:H2 M=some (.lst ys))(h2:Same H H2)(h3:ys.length<=32+2*i)(h4:Steps H2 cs ys):rB H p q L t cs i σ H2
inductive rC (H:Hp)(p q L:Addr)(t:Str)(cs:List (List Int))(i:Nat)(σ:St)(H2:Hp):Prop
 |mk (M:Addr)(ys:List V)(v5 v6:Option V)(h0:σ=[some (.ref p),some (.str t),some (.ref q),some (.ref L),some (.ref M),v5,v6])(h1:H2 M=some (.lst ys))(h2:Same H H2)(h3:ys.length<=48+20*i)(h4:Steps H2 cs ys):rC H p q L t cs i σ H2
section
variable {P:Program}{w:World}{K:PySem.W.Frag}{mg:Str->Option Value}{base:Heap}
theorem lS:ay ["_law_sentence_here","_law_turns","_law_clauses","_law_places","_law_some_here","_law_variable","_law_k"] ["_law_sentence_here"] (ai kH):=⟨rfl,rfl,rfl,by decide+kernel,rfl,by decide+kernel,by decide+kernel⟩
theorem pd {f:Addr}{fd:FuncData}(F:Fun K "_law_tried" "_law_tried" kH f fd)(T:uX mg):aY P w K mg base cu 1 f fd ["_law_sentence_here"] lR:=by
 have sc:=lS
 refine F.ok lS (fun vs H Q E h=>?_) (fun cdv A outer s H vs Q E hr h=>?_)
 ·obtain⟨p,q,t,xs,cs,rfl,_⟩:=h
  rfl
 obtain⟨p,q,t,xs,cs,rfl,hp,S,t8,c13,c4,q'⟩:=h
 have hu:=hr.units
 have hlen:=S.hcs.length
 refine⟨_,(ae (nn (pv 0) (fc rfl (bF (ao (i:=1) sc.nd rfl (Or.inl rfl)) (bF (ao (i:=2) sc.nd rfl (Or.inl rfl)) dN))))
  (ae (aC (i:=3) sc.nd rfl (Or.inl rfl) (hV rfl rfl T.list rfl T.range (ak aF rfl T.len PySem.boot_len (aa (pv 2) ad))))
  (ae (aC (i:=4) sc.nd rfl (Or.inl rfl) (aB ci (aP (NY:=["_law_k"]) (idx:=[none]) rfl ⟨by with_unfolding_all rfl,(by with_unfolding_all exact trivial),fun _=>by rfl,by rfl,by rfl,by rfl,by decide⟩ (aS (pv 3)) (fun _ _ _ _=>(ao (i:=0) (show List.Nodup (["_law_k"]:List Str) by decide+kernel) rfl (Or.inl rfl))) (fun _ _ _ _=>bT) (fun _ _ _ _=>(bU (aa aJ (aa (pv 0) ad))))) (aP (NY:=["_law_k"]) (idx:=[none]) rfl ⟨by with_unfolding_all rfl,(by with_unfolding_all exact trivial),fun _=>by rfl,by rfl,by rfl,by rfl,by decide⟩ (aS (pv 3)) (fun _ _ _ _=>(ao (i:=0) (show List.Nodup (["_law_k"]:List Str) by decide+kernel) rfl (Or.inl rfl))) (fun _ _ _ _=>bT) (fun _ _ _ _=>(bU (aa aJ (aa (pv 0) ad)))))))
  (ae (bA PassesOwn.never rfl (gO rfl T.range (aa ah (aa (aB b0 (ak aF rfl T.len PySem.boot_len (aa (pv 1) ad)) ah) ad))) (ao (i:=5) sc.nd rfl (Or.inl rfl))
   (ag (aC (i:=4) sc.nd rfl (Or.inl rfl) (aB ci (pv 4) (cx (aa (bU (aa aJ (aa (pv 5) ad))) (aa (bU (aa aJ (aa (aB dW ah (pv 5)) ad))) ad)))))))
  (ae (bA PassesOwn.never rfl (aS (pv 3)) (ao (i:=6) sc.nd rfl (Or.inr rfl))
   (ag (aC (i:=4) sc.nd rfl (Or.inl rfl) (aB ci (aB ci (pv 4) (aP (NY:=["_law_j","_law_k"]) (idx:=[none,some 6]) rfl ⟨by with_unfolding_all rfl,(by with_unfolding_all exact⟨rfl,trivial⟩),fun _=>by rfl,by rfl,by rfl,by rfl,by decide⟩ (aS (pv 3)) (fun _ _ _ _=>(ao (i:=0) (show List.Nodup (["_law_j","_law_k"]:List Str) by decide+kernel) rfl (Or.inl rfl))) (fun _ _ _ _=>bT) (fun _ _ _ _=>(bU (aa aJ (aa (pv 1) (aa (pv 0) ad))))))) (aP (NY:=["_law_literal","_law_k"]) (idx:=[none,some 6]) rfl ⟨by with_unfolding_all rfl,(by with_unfolding_all exact⟨rfl,trivial⟩),fun _=>by rfl,by rfl,by rfl,by rfl,by decide⟩ (ca (az ar (pv 2) (pv 6) (fun _ _=>rfl))) (fun _ _ _ _=>(ao (i:=0) (show List.Nodup (["_law_literal","_law_k"]:List Str) by decide+kernel) rfl (Or.inl rfl))) (fun _ _ _ _=>bT) (fun _ _ _ _=>(bU (aa aJ (aa (pv 1) (aa (pv 0) ad))))))))))
  (ag (aj (pv 4)))))))),?_⟩
 refine⟨_,rfl,p,_,rfl,SqT.of hp,rfl,_,_,rfl,_,_,rfl,rfl,?_⟩
 refine⟨_,rfl,.ref q,_,rfl,.inl ⟨_,SqL.of S.hq,rfl⟩,xs.length,rfl,by omega,fun L hL=>?_⟩
 rw[← hlen]
 have kL:=af hL (.lst ((List.range cs.length).map fun i:Nat=>V.int (i:Int)))
 have sL:upd H L (.lst ((List.range cs.length).map fun i:Nat=>V.int (i:Int))) L=some (.lst ((List.range cs.length).map fun i:Nat=>V.int (i:Int))):=ac
 have ll:((List.range cs.length).map fun i:Nat=>V.int (i:Int)).length=cs.length:=by rw[List.length_map,List.length_range]
 generalize upd H L (.lst ((List.range cs.length).map fun i:Nat=>V.int (i:Int)))=H1 at kL sL ⊢
 refine⟨_,rfl,L,rfl,⟨_,SqL.of sL⟩,fun D1 hD1=>?_⟩
 refine d8 [] (dJ cs) (fun x=>[.str br,x]) rfl sL hD1 (by omega) (fun x hx=>by obtain⟨i,hi,rfl⟩:=fA hx;exact .drop i hi) (fun x hx H' R k r=>⟨_,rfl,(by show 2<=sizeLine;decide),r⟩) fun y1 H2 k2 s2 l2 g2=>?_
 refine⟨_,rfl,L,rfl,⟨_,SqL.of (k2 _ _ sL)⟩,fun D2 hD2=>?_⟩
 refine d8 [] (dJ cs) (fun x=>[.str a_,x]) rfl (k2 _ _ sL) hD2 (by omega) (fun x hx=>by obtain⟨i,hi,rfl⟩:=fA hx;exact .unit i hi) (fun x hx H' R k r=>⟨_,rfl,(by show 2<=sizeLine;decide),r⟩) fun y2 H3 k3 s3 l3 g3=>?_
 refine⟨D1,D2,_,_,rfl,rfl,k3 _ _ s2,s3,Nat.le_of_lt (av (by omega)),fun M hM=>?_⟩
 have k4:=af hM (.lst (y1++y2))
 have k14:Same H1 (upd H3 M (.lst (y1++y2))):=k2.trans (k3.trans k4)
 refine⟨_,rfl,.str t,_,rfl,⟨Nat.le_of_lt (av (by omega)),rfl⟩,_,_,rfl,rfl,1,_,rfl,⟨by decide,by decide,by omega,by omega⟩,?_⟩
 have hn:((t.length:Int)+1 - 1).toNat=t.length:=by omega
 refine gP (lo:=1) (n:=((t.length:Int)+1 - 1).toNat) (rB H1 p q L t cs) ⟨M,_,none,rfl,ac,k14,by rw[List.length_append];omega,Steps.app (Steps.mono g2 (k3.trans k4)) (Steps.mono g3 k4)⟩ ?_ ?_
 ·rintro i σ H5 hi ⟨M5,ys,v5,rfl,s5,k5,l5,g5⟩
  refine⟨_,rfl,_,rfl,(by show 2<=sizeLine;decide),fun p1 n1=>⟨_,rfl,_,_,rfl,rfl,(by show 2<=sizeLine;decide),fun p2 n2=>⟨(by show 2<=sizeLine;decide),fun l hl=>?_⟩⟩⟩
  have j1:=af n1 (.tup [.str bz,.int (1+(i:Int))])
  have j2:=af n2 (.tup [.str bz,.int (0 - (1+(i:Int)))])
  have j3:=af hl (.lst [.ref p1,.ref p2])
  refine⟨M5,l,_,_,rfl,rfl,j3 _ _ (j2 _ _ (j1 _ _ s5)),ac,Nat.le_of_lt (av (by show _+2<=1000;omega)),fun M6 n6=>?_⟩
  have j4:=af n6 (.lst (ys++[.ref p1,.ref p2]))
  have jj:=j1.trans (j2.trans (j3.trans j4))
  refine⟨M6,_,_,rfl,ac,k5.trans jj,by rw[List.length_append];show _+2<=_;omega,Steps.app (Steps.mono g5 jj) fun y hy=>?_⟩
  rcases List.mem_cons.mp hy with rfl|hy
  ·exact⟨_,.pure _,TupAt.mono ⟨p1,rfl,ac⟩ (j2.trans (j3.trans j4))⟩
  ·rw[List.mem_singleton.mp hy]
   exact⟨_,.pure _,TupAt.mono ⟨p2,rfl,ac⟩ (j3.trans j4)⟩
 rintro σ H5 ⟨M5,ys,v5,rfl,s5,k5,l5,g5⟩
 refine⟨_,rfl,L,rfl,⟨_,SqL.of (k5 _ _ sL)⟩,?_⟩
 refine cb (K:=K) (a:=L) (xs:=(List.range cs.length).map fun i:Nat=>V.int (i:Int)) (rC H1 p q L t cs) ⟨M5,ys,v5,none,rfl,s5,k5,by omega,g5⟩ ?_ ?_ ?_
 ·rintro i σ H6 _ ⟨_,_,_,_,_,_,k,_⟩
  exact SqL.of (k _ _ sL)
 ·rintro i x σ H6 hx ⟨M6,zs,w5,v6,rfl,s6,k6,l6,g6⟩
  have hil:i < ((List.range cs.length).map fun i:Nat=>V.int (i:Int)).length:=(List.getElem?_eq_some_iff.mp hx).1
  rw[ll] at hil
  have ex:x=.int (i:Int):=by
   rw[List.getElem?_map,List.getElem?_range hil] at hx
   exact (Option.some.inj hx).symm
  subst ex
  refine⟨_,rfl,_,rfl,L,rfl,⟨_,SqL.of (k6 _ _ sL)⟩,fun D3 n3=>?_⟩
  refine d8 [some (.int (i:Int))] (dJ cs) (fun x=>[.str aG,.int (i:Int),x]) rfl (k6 _ _ sL) n3 (by omega) (fun x hx=>by obtain⟨j,hj,rfl⟩:=fA hx;exact .within i j hil hj) (fun x hx H' R k r=>⟨_,rfl,_,rfl,(by show 3<=sizeLine;decide),r⟩) fun y3 H7 k7 s7 l7 g7=>?_
  refine⟨M6,D3,_,_,rfl,rfl,k7 _ _ s6,s7,Nat.le_of_lt (av (by omega)),fun M7 n7=>?_⟩
  have k8:=af n7 (.lst (zs++y3))
  have s8:upd H7 M7 (.lst (zs++y3)) M7=some (.lst (zs++y3)):=ac
  have g8:Steps (upd H7 M7 (.lst (zs++y3))) cs (zs++y3):=Steps.app (Steps.mono g6 (k7.trans k8)) (Steps.mono g7 k8)
  have k68:=k6.trans (k7.trans k8)
  generalize upd H7 M7 (.lst (zs++y3))=H8 at k8 s8 g8 k68
  have kH8:=kL.trans k68
  obtain⟨tc,hx',htc,hm⟩:=cE S.hcs hil
  have hc4:=c4 _ hm
  refine⟨_,rfl,_,rfl,.inl ⟨q,xs,(i:Int),.ref tc,rfl,rfl,SqL.of (kH8 _ _ S.hq),aZ hx',tc,rfl,⟨_,SqT.of (kH8 _ _ htc)⟩,fun D4 n4=>?_⟩⟩
  refine kb [some (.int (i:Int))] (dJ cs) (fun x=>[.str aD,.int (i:Int),x]) rfl (kH8 _ _ htc) n4 (by rw[List.length_map];omega) (fun x hx=>by obtain⟨z,_,rfl⟩:=bZ hx;exact .blocked i z hil) (fun x hx H' R k r=>⟨_,rfl,_,rfl,(by show 3<=sizeLine;decide),r⟩) fun y4 H9 k9 s9 l9 g9=>?_
  rw[List.length_map] at l9
  refine⟨M7,D4,_,_,rfl,rfl,k9 _ _ s8,s9,Nat.le_of_lt (av (by rw[List.length_append];omega)),fun M8 n8=>?_⟩
  have k10:=af n8 (.lst (zs++y3++y4))
  exact⟨M8,_,_,_,rfl,ac,k68.trans (k9.trans k10),by rw[List.length_append,List.length_append];omega,Steps.app (Steps.mono g8 (k9.trans k10)) (Steps.mono g9 k10)⟩
 ·rintro σ H6 ⟨M6,zs,w5,v6,rfl,s6,k6,l6,g6⟩
  rw[ll] at l6
  exact⟨_,rfl,q' M6 zs H6 (kL.trans k6) s6 (by omega) g6⟩
end
end K63
namespace K63
open PySem L2 OD
theorem pe {t:Str}{c:List Int}(h:dh t c=true):∃ z,c=[z]/\bu t z=true:=by
 unfold dh at h
 split at h
 ·exact⟨_,rfl,h⟩
 ·cases h
theorem gD {cs:List (List Int)}{i:Nat}(hi:i < cs.length):cs.getD i []∈cs:=by
 rw[List.getD_eq_getElem?_getD,List.getElem?_eq_getElem hi]
 exact List.getElem_mem hi
theorem kI {t:Str}{cs ds:List (List Int)}{d:PyData}(h:aR t cs d=some ds):ds.length<=cs.length/\∀ c∈ds,∃ k∈cs,∃ p:Int->Bool,c=k.filter p:=by
 have same:∀ k:List Int,∃ p:Int->Bool,k=k.filter p:=fun k=>⟨fun _=>true,(List.filter_eq_self.mpr fun _ _=>rfl).symm⟩
 have wl:∀ {i:Nat},i < cs.length->(bE cs i).length<=cs.length/\∀ c∈bE cs i,∃ k∈cs,∃ p:Int->Bool,c=k.filter p:=fun {i} hi=>⟨by
  unfold bE
  rw[List.length_append,List.length_take,List.length_drop]
  omega,fun c hc=>⟨c,oe hc,same c⟩⟩
 have bl:∀ z:Int,(aT z cs).length<=cs.length/\∀ c∈aT z cs,∃ k∈cs,∃ p:Int->Bool,c=k.filter p:=fun z=>⟨List.length_filterMap_le _ _,fun c hc=>by
  obtain⟨k,hk,_,e⟩:=mem_behind.mp hc
  exact⟨k,hk,_,e⟩⟩
 unfold aR at h
 split at h
 ·obtain⟨i,e,rfl⟩:=Option.map_eq_some_iff.mp h
  have hi:=(cr e).1
  refine⟨by rw[List.length_append,List.length_append,List.length_take,List.length_drop];show _+1+_<=_;omega,fun c hc=>?_⟩
  rcases List.mem_append.mp hc with hc|hc
  ·rcases List.mem_append.mp hc with hc|hc
   ·exact⟨c,List.mem_of_mem_take hc,same c⟩
   ·rw[List.mem_singleton.mp hc]
    exact⟨_,gD hi,_,rfl⟩
  ·exact⟨c,List.mem_of_mem_drop hc,same c⟩
 split at h
 ·obtain⟨i,e,h⟩:=Option.bind_eq_some_iff.mp h
  split at h
  ·cases h
   exact bl _
  ·cases h
 split at h
 ·unfold gw at h
  split at h
  ·split at h
   ·cases h
    exact bl _
   ·cases h
  ·cases h
 split at h
 ·obtain⟨i,e1,h⟩:=Option.bind_eq_some_iff.mp h
  obtain⟨j,e2,h⟩:=Option.bind_eq_some_iff.mp h
  split at h
  ·cases h
   exact wl (cr e1).1
  ·cases h
 split at h
 ·unfold d_ at h
  split at h
  ·obtain⟨i,e1,h⟩:=Option.bind_eq_some_iff.mp h
   split at h
   ·cases h
    exact wl (cr e1).1
   ·cases h
  ·cases h
 ·cases h
structure Few (t:Str)(cs:List (List Int)):Prop where
 ws:WS t
 t8:t.length<=8
 many:cs.length<=16
 ok:∀ c∈cs,ld t.length c
 c4:∀ c∈cs,c.length<=4
theorem Few.after {t:Str}{cs ds:List (List Int)}{d:PyData}(F:Few t cs)(h:aR t cs d=some ds):Few t ds:=by
 obtain⟨a,b⟩:=kI h
 refine⟨F.ws,F.t8,Nat.le_trans a F.many,fun c hc=>?_,fun c hc=>?_⟩
 ·obtain⟨k,hk,p,rfl⟩:=b c hc
  refine⟨?_,fun l hl=>(F.ok k hk).2 l (List.mem_filter.mp hl).1⟩
  exact (F.ok k hk).1.sublist ((List.filter_sublist (l:=k) (p:=p)).map al)
 ·obtain⟨k,hk,p,rfl⟩:=b c hc
  exact Nat.le_trans (List.length_filter_le _ _) (F.c4 k hk)
theorem Few.lits {t:Str}{cs:List (List Int)}(F:Few t cs):∀ c∈cs,gu t.length c:=fun c hc=>(F.ok c hc).2
end K63
namespace K63
open PySem L2 OD
inductive Nx:Type
 |unit (i:Nat)
 |drop (i:Nat)
 |pure (z:Int)
 |within (i j:Nat)
 |blocked (i:Nat) (z:Int)
def Nx.d:Nx->PyData
 |.unit i=>.tuple [.str a_,.int (i:Int)]
 |.drop i=>.tuple [.str br,.int (i:Int)]
 |.pure z=>.tuple [.str bz,.int z]
 |.within i j=>.tuple [.str aG,.int (i:Int),.int (j:Int)]
 |.blocked i z=>.tuple [.str aD,.int (i:Int),.int z]
def Nx.zs:Nx->List V
 |.unit i=>[.str a_,.int (i:Int)]
 |.drop i=>[.str br,.int (i:Int)]
 |.pure z=>[.str bz,.int z]
 |.within i j=>[.str aG,.int (i:Int),.int (j:Int)]
 |.blocked i z=>[.str aD,.int (i:Int),.int z]
def cf (f:Nat->Option Nx)(n:Nat):Option Nx:=(List.range n).findSome? f
theorem first_none {f:Nat->Option Nx}{n:Nat}:cf f n=none↔∀ j,j < n->f j=none:=by
 unfold cf
 rw[List.findSome?_eq_none_iff]
 exact⟨fun h j hj=>h j (List.mem_range.mpr hj),fun h j hj=>h j (List.mem_range.mp hj)⟩
theorem dw {f:Nat->Option Nx}{i:Nat}{s:Nx}:∀ {n:Nat},i < n->(∀ j,j < i->f j=none)->f i=some s->cf f n=some s
 |n+1,hi,h,e=>by
  unfold cf
  rw[List.range_succ,List.findSome?_append]
  by_cases hn:i < n
  ·have:=dw hn h e
   unfold cf at this
   rw[this];rfl
  ·have hin:i=n:=by omega
   subst hin
   have:=first_none.mpr h
   unfold cf at this
   rw[this]
   show (List.findSome? f [i])=some s
   simp [List.findSome?,e]
theorem fB {f:Nat->Option Nx}{n:Nat}{s:Nx}(h:cf f n=some s):∃ i,i < n/\f i=some s:=by
 obtain⟨i,hi,e⟩:=List.exists_of_findSome?_eq_some h
 exact⟨i,List.mem_range.mp hi,e⟩
def aX (cs:List (List Int)):Nat:=cs.length+(cs.map List.length).sum
def fP (t:Str)(c:List Int):Bool:=match c.getLast? with
 |some z=>!bu t z
 |none=>false
def cj (t:Str)(cs:List (List Int))(i:Nat):Option Nx:=if dh t (cs.getD i [])=true then some (.unit i) else if fP t (cs.getD i [])=true then some (.drop i) else none
def cH (ks:List Int)(z:Int):List Int:=if ks.contains z=true then ks else ks++[z]
def cD (cs:List (List Int)):List Int:=cs.flatten.foldl cH []
theorem eY {x:Int}:∀ (zs ks:List Int),x∈zs.foldl cH ks↔x∈ks\/x∈zs
 |[],ks=>by simp
 |z::r,ks=>by
  rw[List.foldl_cons,eY r]
  have h:x∈cH ks z↔x∈ks\/x=z:=by
   unfold cH
   split
   ·rename_i hc
    have:=List.contains_iff_mem.mp hc
    exact⟨.inl,fun h=>h.elim id fun e=>e▸this⟩
   ·simp
  rw[h,List.mem_cons,or_assoc]
theorem mem_keys {x:Int}{cs:List (List Int)}:x∈cD cs↔∃ c∈cs,x∈c:=by
 unfold cD
 rw[eY]
 simp [List.mem_flatten]
def eZ (cs:List (List Int)):Option Nx:=((cD cs).find? fun z=>!(cD cs).contains (-z)).map Nx.pure
def aN (cs:List (List Int))(z:Int):List Nat:=(List.range cs.length).filter fun i=>(cs.getD i []).contains z
def cQ (cs:List (List Int))(c:List Int):List Nat:=if c=[] then List.range cs.length else (c.map (aN cs)).getD (qh ((c.map (aN cs)).map List.length)) []
def fQ (cs:List (List Int))(j i:Nat):Bool:=!decide (i=j)&&((cs.getD j []).all fun z=>(cs.getD i []).contains z)
def lT (cs:List (List Int))(j:Nat):Option Nx:=((cQ cs (cs.getD j [])).find? (fQ cs j)).map fun i=>.within i j
def dL (cs:List (List Int)):Option Nx:=cf (lT cs) cs.length
def qC (t:Str)(cs:List (List Int))(i:Nat):Option Nx:=(((cs.getD i []).filter (bu t)).find? fun z=>ce t cs i z).map fun z=>.blocked i z
def fY (t:Str)(cs:List (List Int)):Option Nx:=cf (qC t cs) cs.length
def bg (t:Str)(cs:List (List Int)):Option Nx:=(cf (cj t cs) cs.length).or ((eZ cs).or ((dL cs).or (fY t cs)))
theorem ck (c:List Int)(cs:List (List Int)):aX (c::cs)=1+c.length+aX cs:=by
 unfold aX
 simp only [List.length_cons,List.map_cons,List.sum_cons]
 omega
theorem dj (a b:List (List Int)):aX (a++b)=aX a+aX b:=by
 unfold aX
 simp only [List.length_append,List.map_append,List.sum_append]
 omega
theorem eA {cs:List (List Int)}{i:Nat}(hi:i < cs.length):aX cs=aX (cs.take i)+(1+(cs.getD i []).length+aX (cs.drop (i+1))):=by
 have e:cs=cs.take i++(cs.getD i []::cs.drop (i+1)):=by
  rw[List.getD_eq_getElem?_getD,List.getElem?_eq_getElem hi,Option.getD_some,List.getElem_cons_drop,List.take_append_drop]
 have e2:=congrArg aX e
 rw[dj,ck] at e2
 exact e2
theorem e_ {cs:List (List Int)}{i:Nat}(hi:i < cs.length):aX (bE cs i) < aX cs:=by
 have:=eA hi
 unfold bE
 rw[dj]
 omega
theorem dM (z:Int):∀ cs:List (List Int),aX (aT z cs)<=aX cs/\((∃ c∈cs,z∈c\/ -z∈c)->aX (aT z cs) < aX cs)
 |[]=>⟨Nat.le_refl _,fun⟨_,h,_⟩=>nomatch h⟩
 |c::r=>by
  obtain⟨h1,h2⟩:=dM z r
  by_cases hc:c.contains z=true
  ·have e:aT z (c::r)=aT z r:=by
    unfold aT
    rw[List.filterMap_cons]
    unfold cp
    rw[if_pos hc]
   rw[e,ck]
   exact⟨by omega,fun _=>by omega⟩
  ·have e:aT z (c::r)=(c.filter fun x=>!decide (x=-z))::aT z r:=by
    have:=di z (c::r)
    rw[this,di,List.filter_cons_of_pos (by simpa using hc)]
    rfl
   rw[e,ck,ck]
   have hf:=List.length_filter_le (fun x=>!decide (x=-z)) c
   refine⟨by omega,fun⟨k,hk,hz⟩=>?_⟩
   rcases List.mem_cons.mp hk with rfl|hk
   ·have hm:-z∈k:=hz.elim (fun q=>absurd (List.contains_iff_mem.mpr q) hc) id
    have hlt:(k.filter fun x=>!decide (x=-z)).length < k.length:=List.length_filter_lt_length_iff_exists.mpr ⟨-z,hm,by simp⟩
    omega
   ·have:=h2 ⟨k,hk,hz⟩
    omega
theorem ii {c:List Int}{z y:Int}(u:Ups c)(hz:c.getLast?=some z)(hy:y∈c):al y < al z\/y=z:=by
 obtain⟨r,rfl⟩:=List.getLast?_eq_some_iff.mp hz
 unfold Ups at u
 rw[List.map_append,List.pairwise_append] at u
 rcases List.mem_append.mp hy with h|h
 ·exact .inl (u.2.2 _ (List.mem_map_of_mem h) _ (by simp))
 ·exact .inr (List.mem_singleton.mp h)
theorem m6 {n:Nat}{t:Str}{c:List Int}(h:ld n c)(hl:fP t c=true):(gt t false c).length < c.length:=by
 unfold fP at hl
 cases hz:c.getLast? with
 |none=>rw[hz] at hl;cases hl
 |some z=>
  rw[hz] at hl
  have hzc:z∈c:=List.mem_of_getLast? hz
  refine List.length_filter_lt_length_iff_exists.mpr ⟨z,hzc,fun hd=>?_⟩
  have hd:=of_decide_eq_true hd
  have h1:=(h.2 z hzc).1
  unfold dF at hd
  rcases (dQ ((c.filter fun l=>!(cq t (al l - 1).toNat == false)).map al) 0).2 with e|e
  ·omega
  ·obtain⟨y,hy,ey⟩:=List.mem_map.mp e
   obtain⟨hyc,hyo⟩:=List.mem_filter.mp hy
   rcases ii h.1 hz hyc with q|q
   ·omega
   ·subst q
    have hl':(!cq t (al y - 1).toNat)=true:=hl
    revert hyo hl'
    cases cq t (al y - 1).toNat<;>intro a b
    ·cases a
    ·cases b
theorem m7 {t:Str}{c:List Int}(u:Ups c)(hl:fP t c=false):gt t false c=c:=by
 refine List.filter_eq_self.mpr fun y hy=>decide_eq_true ?_
 unfold fP at hl
 cases hz:c.getLast? with
 |none=>rw[List.getLast?_eq_none_iff.mp hz] at hy;cases hy
 |some z=>
  rw[hz] at hl
  have hzc:z∈c:=List.mem_of_getLast? hz
  have ho:cq t (al z - 1).toNat=true:=by
   have hl':(!cq t (al z - 1).toNat)=false:=hl
   revert hl'
   cases cq t (al z - 1).toNat<;>intro a
   ·cases a
   ·rfl
  have hm:=(dQ ((c.filter fun l=>!(cq t (al l - 1).toNat == false)).map al) 0).1.2 (al z) (List.mem_map_of_mem (List.mem_filter.mpr ⟨hzc,by rw[ho];rfl⟩))
  unfold dF
  rcases ii u hz hy with q|q
  ·omega
  ·subst q;exact hm
theorem mem_places {cs:List (List Int)}{z:Int}{i:Nat}:i∈aN cs z↔i < cs.length/\z∈cs.getD i []:=by
 unfold aN
 rw[List.mem_filter,List.mem_range,List.contains_iff_mem]
theorem qD {cs:List (List Int)}{c:List Int}{i:Nat}(hi:i < cs.length)(h:∀ z∈c,z∈cs.getD i []):i∈cQ cs c:=by
 unfold cQ
 split
 ·exact List.mem_range.mpr hi
 ·rename_i hne
  have hn:(c.map (aN cs)).map List.length≠[]:=by simpa using hne
  have hm:=(li hn).1
  rw[List.length_map] at hm
  rw[List.getD_eq_getElem?_getD,List.getElem?_eq_getElem hm,Option.getD_some,List.getElem_map]
  exact mem_places.mpr ⟨hi,h _ (List.getElem_mem _)⟩
theorem pf {cs:List (List Int)}{c:List Int}{i:Nat}(h:i∈cQ cs c):i < cs.length:=by
 unfold cQ at h
 split at h
 ·exact List.mem_range.mp h
 ·rename_i hne
  have hn:(c.map (aN cs)).map List.length≠[]:=by simpa using hne
  have hm:=(li hn).1
  rw[List.length_map] at hm
  rw[List.getD_eq_getElem?_getD,List.getElem?_eq_getElem hm,Option.getD_some,List.getElem_map] at h
  exact (mem_places.mp h).1
theorem cm {t:Str}{cs:List (List Int)}{s:Nx}(F:Few t cs)(h:bg t cs=some s):cP cs s.d/\∃ ds,aR t cs s.d=some ds/\aX ds < aX cs:=by
 unfold bg at h
 rcases Option.or_eq_some_iff.mp h with h|⟨_,h⟩
 ·obtain⟨i,hi,e⟩:=fB h
  unfold cj at e
  split at e
  ·rename_i hu
   cases e
   refine⟨.unit i hi,aT ((cs.getD i []).getD 0 0) cs,?_,?_⟩
   ·show aR t cs (.tuple [.str a_,.int (i:Int)])=_
    rw[er];unfold fM
    rw[aL hi,Option.bind_some,if_pos hu]
   ·obtain⟨z,hz,_⟩:=pe hu
    refine (dM _ cs).2 ⟨cs.getD i [],gD hi,.inl ?_⟩
    rw[hz];simp
  split at e
  ·rename_i hl
   cases e
   refine⟨.drop i hi,cs.take i++[gt t false (cs.getD i [])]++cs.drop (i+1),?_,?_⟩
   ·show aR t cs (.tuple [.str br,.int (i:Int)])=_
    rw[em];unfold fL
    rw[aL hi,Option.map_some]
   ·have:=m6 (F.ok _ (gD hi)) hl
    rw[dj,dj,eA hi,ck]
    show _+(1+_+0)+_ < _
    omega
  ·cases e
 rcases Option.or_eq_some_iff.mp h with h|⟨_,h⟩
 ·obtain⟨z,e,rfl⟩:=Option.map_eq_some_iff.mp h
  have hz:=List.mem_of_find?_eq_some e
  have hn:=List.find?_some e
  have hk:(cs.any fun c=>c.contains z)=true:=by
   obtain⟨c,hc,hm⟩:=mem_keys.mp hz
   exact List.any_eq_true.mpr ⟨c,hc,List.contains_iff_mem.mpr hm⟩
  have hk2:(cs.any fun c=>c.contains (-z))=false:=by
   rw[Bool.eq_false_iff]
   intro q
   obtain⟨c,hc,hm⟩:=List.any_eq_true.mp q
   have:=mem_keys.mpr ⟨c,hc,List.contains_iff_mem.mp hm⟩
   rw[List.contains_iff_mem.mpr this] at hn
   cases hn
  refine⟨.pure z,aT (if bu t z=true then z else -z) cs,?_,?_⟩
  ·show aR t cs (.tuple [.str bz,.int z])=_
   rw[eu]
   show (if ((cs.any fun c=>c.contains z)&&!(cs.any fun c=>c.contains (-z)))=true then _ else _)=_
   rw[hk,hk2];rfl
  ·obtain⟨c,hc,hm⟩:=mem_keys.mp hz
   refine (dM _ cs).2 ⟨c,hc,?_⟩
   split
   ·exact .inl hm
   ·exact .inr (by rw[Int.neg_neg];exact hm)
 rcases Option.or_eq_some_iff.mp h with h|⟨_,h⟩
 ·obtain⟨j,hj,e0⟩:=fB h
  obtain⟨i,e,rfl⟩:=Option.map_eq_some_iff.mp e0
  have hi:=pf (List.mem_of_find?_eq_some e)
  have hb:=List.find?_some e
  refine⟨.within i j hi hj,bE cs i,?_,e_ hi⟩
  show aR t cs (.tuple [.str aG,.int (i:Int),.int (j:Int)])=_
  rw[du];unfold fN
  rw[aL hi,aL hj,Option.bind_some,Option.bind_some]
  exact if_pos hb
 ·obtain⟨i,hi,e0⟩:=fB h
  obtain⟨z,e,rfl⟩:=Option.map_eq_some_iff.mp e0
  have hb:=List.find?_some e
  refine⟨.blocked i z hi,bE cs i,?_,e_ hi⟩
  show aR t cs (.tuple [.str aD,.int (i:Int),.int z])=_
  rw[c9]
  show (bq cs.length (.int (i:Int))).bind _=_
  rw[aL hi,Option.bind_some]
  exact if_pos hb
theorem iO {a b:Option Nx}(h:a.or b=none):a=none/\b=none:=by
 cases a with
 |none=>exact⟨rfl,h⟩
 |some x=>cases h
theorem m8 {t:Str}{cs ds:List (List Int)}{d:PyData}(F:Few t cs)(h:bg t cs=none)(hd:cP cs d)(ha:aR t cs d=some ds):¬ aX ds < aX cs:=by
 unfold bg at h
 obtain⟨h1,h⟩:=iO h
 obtain⟨h2,h⟩:=iO h
 obtain⟨h3,h4⟩:=iO h
 have sh:∀ i,i < cs.length->dh t (cs.getD i [])=false/\fP t (cs.getD i [])=false:=fun i hi=>by
  have:=first_none.mp h1 i hi
  unfold cj at this
  split at this
  ·cases this
  ·rename_i q
   split at this
   ·cases this
   ·rename_i q2
    exact⟨by simpa using q,by simpa using q2⟩
 cases hd with
 |drop i hi=>
  rw[em] at ha
  unfold fL at ha
  rw[aL hi,Option.map_some] at ha
  cases ha
  rw[m7 (F.ok _ (gD hi)).1 (sh i hi).2,dj,dj,eA hi,ck]
  show ¬ _+(1+_+0)+_ < _
  omega
 |unit i hi=>
  rw[er] at ha
  unfold fM at ha
  rw[aL hi,Option.bind_some,(sh i hi).1] at ha
  cases ha
 |pure z=>
  rw[eu] at ha
  have ha':(if ((cs.any fun c=>c.contains z)&&!(cs.any fun c=>c.contains (-z)))=true then some (aT (if bu t z=true then z else -z) cs) else none)=some ds:=ha
  split at ha'
  ·rename_i q
   rw[Bool.and_eq_true] at q
   obtain⟨c,hc,hm⟩:=List.any_eq_true.mp q.1
   have hz:z∈cD cs:=mem_keys.mpr ⟨c,hc,List.contains_iff_mem.mp hm⟩
   have h2':=List.find?_eq_none.mp (Option.map_eq_none_iff.mp h2) z hz
   have hk:(cD cs).contains (-z)=true:=by simpa using h2'
   obtain⟨k,hk1,hk2⟩:=mem_keys.mp (List.contains_iff_mem.mp hk)
   have hany:(cs.any fun c=>c.contains (-z))=true:=List.any_eq_true.mpr ⟨k,hk1,List.contains_iff_mem.mpr hk2⟩
   rw[hany] at q
   cases q.2
  ·cases ha'
 |within i j hi hj=>
  rw[du] at ha
  unfold fN at ha
  rw[aL hi,aL hj,Option.bind_some,Option.bind_some] at ha
  split at ha
  ·rename_i q
   have q':fQ cs j i=true:=q
   rw[Bool.and_eq_true] at q
   have hm:=qD hi fun z hz=>List.contains_iff_mem.mp (List.all_eq_true.mp q.2 z hz)
   exact (List.find?_eq_none.mp (Option.map_eq_none_iff.mp (first_none.mp h3 j hj)) i hm q').elim
  ·cases ha
 |blocked i z hi=>
  rw[c9] at ha
  have ha':(bq cs.length (.int (i:Int))).bind (fun i=>if ce t cs i z=true then some (bE cs i) else none)=some ds:=ha
  rw[aL hi,Option.bind_some] at ha'
  split at ha'
  ·rename_i q
   have q0:=q
   unfold ce at q
   rw[Bool.and_eq_true,Bool.and_eq_true] at q
   exact (List.find?_eq_none.mp (Option.map_eq_none_iff.mp (first_none.mp h4 i hi)) z (List.mem_filter.mpr ⟨List.contains_iff_mem.mp q.1,q.2.1⟩) q0).elim
  ·cases ha'
def fb (t:Str):Nat->List (List Int)->List Nx
 |0,_=>[]
 |n+1,cs=>match bg t cs with
  |none=>[]
  |some s=>s::fb t n ((aR t cs s.d).getD [])
end K63
namespace K63
open PySem L2 OD
abbrev iP:Stmt:=cW 30
structure tO (mg:Str->Option Value):Prop where
 abs:mg "abs"=none
 len:mg "len"=none
 enumerate:mg "enumerate"=none
 min:mg "min"=none
 list:mg "list"=none
 range:mg "range"=none
 g_WISHER:gp mg "WISHER" (.str (Str.ofString "wisher"))
 g_SPOILER:gp mg "SPOILER" (.str (Str.ofString "spoiler"))
def RS (H:Hp)(o:Option Nx)(v:V):Prop:=match o with
 |none=>v=.non
 |some s=>∃ p:Addr,v=.ref p/\H p=some (.tup s.zs)
inductive rD (f:Str->List (List Int)->Option Nx)(vs:List V)(H:Hp)(Q:VK):Prop
 |mk (p q:Addr)(t:Str)(xs:List V)(cs:List (List Int))(h0:vs=[.ref p])(h1:SentAt H p q t xs cs)(hu:∀ c∈cs,Ups c)(h2:∀ v H',Same H H'->RS H' (f t cs) v->Q v H'):rD f vs H Q
def gE (f:Str->List (List Int)->Option Nx):Sp:=fun vs H Q _=>rD f vs H Q
theorem SentAt.mono {H H':Hp}{p q:Addr}{t:Str}{xs:List V}{cs:List (List Int)}(h:SentAt H p q t xs cs)(k:Same H H'):SentAt H' p q t xs cs:=⟨k _ _ h.hp,k _ _ h.hq,h.hcs.mono k,h.ht,h.hn,h.hok,h.hc⟩
theorem SentAt.cls {H:Hp}{p q:Addr}{t:Str}{xs:List V}{cs:List (List Int)}(h:SentAt H p q t xs cs):ClsAt H q t xs cs:=⟨h.hq,h.hcs,h.ht,h.hn,h.hok,h.hc⟩
inductive lU (p:Addr)(t:Str)(cs:List (List Int))(H:Hp)(i:Nat)(σ:St)(H2:Hp):Prop
 |mk (v1 v2:Option V)(h0:σ=[some (.ref p),v1,v2])(h1:Same H H2)(h2:∀ j,j < i->cj t cs j=none):lU p t cs H i σ H2
theorem qE {c:List Int}{z:Int}(h:c.getLast?=some z):jT (c.map V.int) (-1)=some (.int z):=by
 have hne:c≠[]:=fun e=>by subst e;cases h
 have hl:=List.length_pos_iff.mpr hne
 unfold jT sx
 rw[if_neg (by decide),if_pos (by rw[List.length_map];omega),Option.bind_some,List.getElem?_map,List.length_map]
 rw[List.getLast?_eq_getElem?] at h
 have e:(-1+((c.length:Nat):Int)).toNat=c.length - 1:=by omega
 rw[e,h];rfl
section
variable {P:Program}{w:World}{K:PySem.W.Frag}{mg:Str->Option Value}{base:Heap}
theorem jO:ay ["sentence","place","clause"] ["sentence"] (ai iP):=⟨rfl,rfl,rfl,by decide+kernel,rfl,by decide+kernel,by decide+kernel⟩
theorem m9 {f g1 g2:Addr}{fd e1 e2:FuncData}(F:Fun K "next_short" "next_short" iP f fd)(T:tO mg)(Gis_unit:Fn P w K mg base 3 "is_unit" g1 e1 ["sentence","clause"] gv)(Gis_of:Fn P w K mg base 2 "is_of" g2 e2 ["sentence","literal","hand"] fq):aY P w K mg base cu 4 f fd ["sentence"] (gE fun t cs=>cf (cj t cs) cs.length):=by
 have sc:=jO
 refine F.ok jO (fun vs H Q E h=>?_) (fun cdv A outer s H vs Q E hr h=>?_)
 ·obtain⟨p,q,t,xs,cs,rfl,_⟩:=h
  rfl
 obtain⟨p,q,t,xs,cs,rfl,S,hu,q'⟩:=h
 have hlen:=S.hcs.length
 refine⟨_,(ae (bA PassesOwn.never rfl (fW rfl T.enumerate (az ar (pv 0) ah (fun _ _=>rfl))) (fc rfl (bF (ao (i:=1) sc.nd rfl (Or.inl rfl)) (bF (ao (i:=2) sc.nd rfl (Or.inl rfl)) dN)))
   (ae (aH (aK (aw Gis_unit hr (by omega) rfl (aa (pv 0) (aa (pv 2) ad)))) (ag (aj (bU (aa aJ (aa (pv 1) ad))))) au)
   (ag (aH (PW.pt (cX (i9 (pv 2) (fun _=>rfl)) (cS (aK (aw Gis_of hr (by omega) rfl (aa (pv 0) (aa (az ar (pv 2) (eE dq ah) (fun _ _=>rfl)) (aa (bO rfl T.g_SPOILER) ad)))))))) (ag (aj (bU (aa aJ (aa (pv 1) ad))))) au))))
  (ag (aj aW))),?_⟩
 refine⟨_,rfl,.inr (.inl ⟨p,_,1,.ref q,rfl,rfl,SqT.of S.hp,rfl,q,rfl,⟨_,SqL.of S.hq⟩,?_⟩)⟩
 refine eO (K:=K) (a:=q) (xs:=xs) (lU p t cs H) ⟨none,none,rfl,Same.refl _,fun _ h=>absurd h (Nat.not_lt_zero _)⟩ ?_ ?_ ?_
 ·rintro i σ H2 _ ⟨v1,v2,rfl,k2,_⟩
  exact SqL.of (k2 _ _ S.hq)
 ·rintro i x σ H2 tt hx ⟨v1,v2,rfl,k2,hno⟩ htt
  have k3:=af htt (.tup [.int (i:Int),x])
  have kk:=k2.trans k3
  have hi:i < cs.length:=by
   have:=(List.getElem?_eq_some_iff.mp hx).1
   omega
  obtain⟨tc,hx',htc,hm⟩:=cE S.hcs hi
  rw[hx] at hx';cases hx'
  have S3:=S.mono kk
  have ht3:lp (upd H2 tt (.tup [.int (i:Int),.ref tc])) tc (cs.getD i []):=kk _ _ htc
  have hfin:∀ s,cj t cs i=some s->cf (cj t cs) cs.length=some s:=fun s e=>dw hi hno e
  have st1:upd H2 tt (.tup [.int (i:Int),.ref tc]) tt=some (.tup [.int (i:Int),.ref tc]):=ac
  generalize upd H2 tt (.tup [.int (i:Int),.ref tc])=G1 at kk S3 ht3 st1 ⊢
  have ht30:=S.ht
  have lok:=S.hok _ hm
  have hc60:=S.hc _ hm
  generalize hc:cs.getD i []=c at ht3 lok hc60
  refine⟨tt,_,rfl,SqT.of st1,rfl,_,_,rfl,_,_,rfl,rfl,?_⟩
  refine⟨_,rfl,_,rfl,p,tc,t,.ref q,c,rfl,S3.hp,(by omega),ht3,lok,_,rfl,?_⟩
  cases e1:dh t c with
  |true=>
   refine aI ⟨_,rfl,(by show 2<=sizeLine;decide),fun r hr2=>?_⟩
   have k4:=af hr2 (.tup [.str a_,.int (i:Int)])
   refine q' _ _ (kk.trans k4) ?_
   rw[hfin (.unit i) (by unfold cj;rw[hc,if_pos e1])]
   exact⟨r,rfl,ac⟩
  |false=>
   refine aA ?_
   cases hz:c.getLast? with
   |none=>
    have e0:=List.getLast?_eq_none_iff.mp hz
    subst e0
    refine⟨_,rfl,false,.inr (.inl ⟨_,SqT.of ht3,rfl⟩),?_⟩
    refine aA (aA ⟨_,_,rfl,kk,fun j hj=>?_⟩)
    by_cases e:j < i
    ·exact hno j e
    ·have:j=i:=by omega
     subst this
     unfold cj
     rw[hc,e1]
     rfl
   |some z=>
    have hzc:z∈c:=List.mem_of_getLast? hz
    have hzl:=lok z hzc
    refine⟨_,rfl,true,.inr (.inl ⟨_,SqT.of ht3,?_⟩),?_⟩
    ·cases c with
     |nil=>cases hzc
     |cons x r=>rfl
    refine aI ⟨_,rfl,_,rfl,_,rfl,.inr (.inl ⟨tc,c.map V.int,-1,.int z,rfl,rfl,SqT.of ht3,qE hz,p,t,.ref q,z,false,rfl,S3.hp,(by omega),hzl.1,hzl.2,_,rfl,?_⟩)⟩
    cases eo:bu t z with
    |false=>
     refine aI ⟨_,rfl,(by show 2<=sizeLine;decide),fun r hr2=>?_⟩
     have k4:=af hr2 (.tup [.str br,.int (i:Int)])
     refine q' _ _ (kk.trans k4) ?_
     rw[hfin (.drop i) (by unfold cj fP;rw[hc,e1,hz,if_neg Bool.false_ne_true];show (if (!bu t z)=true then _ else _)=_;rw[eo];rfl)]
     exact⟨r,rfl,ac⟩
    |true=>
     refine aA ⟨_,_,rfl,kk,fun j hj=>?_⟩
     by_cases e:j < i
     ·exact hno j e
     ·have:j=i:=by omega
      subst this
      unfold cj fP
      rw[hc,e1,hz,if_neg Bool.false_ne_true]
      show (if (!bu t z)=true then _ else _)=_
      rw[eo];rfl
 ·rintro σ H2 ⟨v1,v2,rfl,k2,hno⟩
  rw[hlen.symm] at hno
  exact q' _ _ k2 (by rw[first_none.mpr hno];rfl)
end
end K63
namespace K63
open PySem L2 OD
abbrev lV:Stmt:=cW 31
abbrev cR (ns:List Nat):List V:=ns.map fun i:Nat=>V.int (i:Int)
structure HoldAt (H:Hp)(a:Addr)(kvs:List (bo×V))(ks:List Int)(pl:Int->List Nat):Prop where
 ha:H a=some (.dK kvs)
 keys:kvs.map (·.1)=ks.map Sum.inl
 val:∀ z,z∈ks->∃ l:Addr,bV kvs (.inl z)=some (.ref l)/\H l=some (.lst (cR (pl z)))
 non:∀ z,z∉ks->bV kvs (.inl z)=none
 inj:∀ y z (l:Addr),bV kvs (.inl y)=some (.ref l)->bV kvs (.inl z)=some (.ref l)->y=z
theorem HoldAt.mono {H H':Hp}{a:Addr}{kvs:List (bo×V)}{ks:List Int}{pl:Int->List Nat}(h:HoldAt H a kvs ks pl)(k:Same H H'):HoldAt H' a kvs ks pl:=
 ⟨k _ _ h.ha,h.keys,fun z hz=>let ⟨l,e,q⟩:=h.val z hz;⟨l,e,k _ _ q⟩,h.non,h.inj⟩
structure HoldN (H0 H:Hp)(a:Addr)(kvs:List (bo×V))(ks:List Int)(pl:Int->List Nat):Prop where
 at_:HoldAt H a kvs ks pl
 sam:Same H0 H
 na:H0 a=none
 nl:∀ z (l:Addr),bV kvs (.inl z)=some (.ref l)->H0 l=none
theorem HoldN.mono {H0 H H':Hp}{a:Addr}{kvs:List (bo×V)}{ks:List Int}{pl:Int->List Nat}(h:HoldN H0 H a kvs ks pl)(k:Same H H'):HoldN H0 H' a kvs ks pl:=⟨h.at_.mono k,h.sam.trans k,h.na,h.nl⟩
def m_ (pl:Int->List Nat)(z:Int)(i:Nat):Int->List Nat:=fun y=>if y=z then pl y++[i] else pl y
theorem fC {α:Type}{l:List α}{i:Nat}{x:α}(h:l[i]? =some x):l.take (i+1)=l.take i++[x]:=by
 rw[List.take_add_one,h];rfl
theorem kJ (ns:List Nat)(i:Nat):cR ns++[V.int (i:Int)]=cR (ns++[i]):=by
 unfold cR
 rw[List.map_append];rfl
theorem ph {H0 H:Hp}{a l:Addr}{kvs:List (bo×V)}{ks:List Int}{pl:Int->List Nat}{z:Int}{i:Nat}(h:HoldN H0 H a kvs ks pl)(hz:z∈ks)(e:bV kvs (.inl z)=some (.ref l)):
  HoldN H0 (upd H l (.lst (cR (pl z)++[.int (i:Int)]))) a kvs (cH ks z) (m_ pl z i):=by
 have hl:H l=some (.lst (cR (pl z))):=by
  obtain⟨l',e',q⟩:=h.at_.val z hz
  rw[e] at e';cases e';exact q
 have nal:a≠l:=fun q=>by have:=h.at_.ha;rw[q,hl] at this;cases this
 have ek:cH ks z=ks:=by
  unfold cH
  rw[if_pos (List.contains_iff_mem.mpr hz)]
 rw[ek]
 refine⟨⟨by rw[ap nal];exact h.at_.ha,h.at_.keys,fun y hy=>?_,h.at_.non,h.at_.inj⟩,h.sam.upd_new (h.nl z l e) _,h.na,h.nl⟩
 obtain⟨l',e',q⟩:=h.at_.val y hy
 refine⟨l',e',?_⟩
 unfold m_
 by_cases hyz:y=z
 ·subst hyz
  rw[e] at e';cases e'
  rw[ac,if_pos rfl,kJ]
 ·rw[if_neg hyz,ap (fun q'=>hyz (h.at_.inj y z l (by rw[← q'];exact e') e))]
  exact q
theorem pi {H0 H:Hp}{a l:Addr}{kvs:List (bo×V)}{ks:List Int}{pl:Int->List Nat}{z:Int}{i:Nat}(h:HoldN H0 H a kvs ks pl)(hz:z∉ks)(hp:pl z=[])(nl:H l=none):
  HoldN H0 (upd (upd (upd H l (.lst [])) a (.dK (cF kvs (.inl z) (.ref l)))) l (.lst ([]++[.int (i:Int)]))) a (cF kvs (.inl z) (.ref l)) (cH ks z) (m_ pl z i):=by
 have hv:=h.at_.non z hz
 have nal:a≠l:=fun q=>by have:=h.at_.ha;rw[q,nl] at this;cases this
 have ek:cH ks z=ks++[z]:=by
  unfold cH
  rw[if_neg (fun q=>hz (List.contains_iff_mem.mp q))]
 have hany:(kvs.any fun kv=>decide (kv.1=(Sum.inl z:bo)))=false:=by
  rw[Bool.eq_false_iff]
  intro q
  obtain⟨kv,hm,e⟩:=List.any_eq_true.mp q
  have:kv.1∈kvs.map (·.1):=List.mem_map_of_mem hm
  rw[h.at_.keys,of_decide_eq_true e] at this
  obtain⟨y,hy,e2⟩:=List.mem_map.mp this
  cases e2
  exact hz hy
 have n0:H0 l=none:=h.sam.free nl
 have nref:∀ y (l':Addr),bV kvs (.inl y)=some (.ref l')->l'≠l:=fun y l' e q=>by
  by_cases hy:y∈ks
  ·obtain⟨l2,e2,q2⟩:=h.at_.val y hy
   rw[e] at e2;cases e2
   rw[q,nl] at q2;cases q2
  ·rw[h.at_.non y hy] at e;cases e
 rw[ek]
 refine⟨⟨by rw[ap nal,ac],?_,fun y hy=>?_,fun y hy=>?_,fun y x l' e1 e2=>?_⟩,((h.sam.upd_new n0 _).upd_new h.na _).upd_new n0 _,h.na,fun y l' e=>?_⟩
 ·unfold cF
  rw[hany,if_neg Bool.false_ne_true,List.map_append,h.at_.keys,List.map_append];rfl
 ·rw[eK]
  unfold m_
  by_cases hyz:y=z
  ·subst hyz
   rw[if_pos rfl,if_pos rfl,hp]
   exact⟨l,rfl,ac⟩
  ·rw[if_neg (fun q=>hyz (Sum.inl.inj q)),if_neg hyz]
   have hy':y∈ks:=(List.mem_append.mp hy).elim id fun q=>absurd (List.mem_singleton.mp q) hyz
   obtain⟨l',e',q⟩:=h.at_.val y hy'
   have n1:=nref y l' e'
   have n2:l'≠a:=fun q2=>by have:=h.at_.ha;rw[← q2,q] at this;cases this
   exact⟨l',e',by rw[ap n1,ap n2,ap n1];exact q⟩
 ·rw[eK,if_neg (fun q=>hy (List.mem_append_right _ (by rw[Sum.inl.inj q];exact List.mem_singleton.mpr rfl)))]
  exact h.at_.non y fun q=>hy (List.mem_append_left _ q)
 ·rw[eK] at e1 e2
  by_cases h1:y=z
  ·by_cases h2:x=z
   ·rw[h1,h2]
   ·subst h1
    rw[if_pos rfl] at e1
    rw[if_neg (fun q=>h2 (Sum.inl.inj q))] at e2
    cases e1
    exact absurd rfl (nref x l e2)
  ·rw[if_neg (fun q=>h1 (Sum.inl.inj q))] at e1
   by_cases h2:x=z
   ·subst h2
    rw[if_pos rfl] at e2
    cases e2
    exact absurd rfl (nref y l e1)
   ·rw[if_neg (fun q=>h2 (Sum.inl.inj q))] at e2
    exact h.at_.inj y x l' e1 e2
 ·rw[eK] at e
  by_cases h1:(Sum.inl y:bo)=.inl z
  ·rw[if_pos h1] at e;cases e;exact n0
  ·rw[if_neg h1] at e;exact h.nl y l' e
def lW (cs:List (List Int))(i:Nat)(c:List Int)(z:Int):List Nat:=((List.range i).filter fun k=>(cs.getD k []).contains z)++if c.contains z=true then [i] else []
theorem lX (cs:List (List Int))(i:Nat):lW cs i []=fun z=>(List.range i).filter fun k=>(cs.getD k []).contains z:=by
 funext z
 unfold lW
 rw[show ([]:List Int).contains z=false from rfl,if_neg Bool.false_ne_true,List.append_nil]
theorem pj {cs:List (List Int)}{i:Nat}:lW cs i (cs.getD i [])=lW cs (i+1) []:=by
 rw[lX]
 funext z
 unfold lW
 rw[List.range_succ,List.filter_append]
 congr 1
 by_cases h:(cs.getD i []).contains z=true
 ·rw[if_pos h,List.filter_cons_of_pos (p:=fun k=>(cs.getD k []).contains z) h];rfl
 ·rw[if_neg h,List.filter_cons_of_neg (p:=fun k=>(cs.getD k []).contains z) h];rfl
theorem jP {cs:List (List Int)}{i:Nat}{c:List Int}{y:Int}(hy:y∉c):m_ (lW cs i c) y i=lW cs i (c++[y]):=by
 funext z
 unfold m_ lW
 by_cases h:z=y
 ·subst h
  rw[if_pos rfl,if_neg (fun q=>hy (List.contains_iff_mem.mp q)),if_pos (List.contains_iff_mem.mpr (List.mem_append_right _ (List.mem_singleton.mpr rfl))),List.append_nil]
 ·rw[if_neg h]
  congr 1
  have:(c++[y]).contains z=c.contains z:=by
   rw[Bool.eq_iff_iff,List.contains_iff_mem,List.contains_iff_mem,List.mem_append,List.mem_singleton]
   exact⟨fun q=>q.elim id fun q=>absurd q h,.inl⟩
  rw[this]
theorem qF {cs:List (List Int)}{i:Nat}{c:List Int}{y:Int}(hi:i<=cs.length)(h:y∉c.foldl cH ((cs.take i).flatten.foldl cH [])):lW cs i c y=[]:=by
 rw[eY,eY] at h
 unfold lW
 have h1:¬ c.contains y=true:=fun q=>h (.inr (List.contains_iff_mem.mp q))
 rw[if_neg h1,List.append_nil,List.filter_eq_nil_iff]
 intro k hk q
 have hk:=List.mem_range.mp hk
 have hkl:k < cs.length:=by omega
 refine h (.inl (.inr (List.mem_flatten.mpr ⟨cs.getD k [],?_,List.contains_iff_mem.mp q⟩)))
 rw[List.getD_eq_getElem?_getD,List.getElem?_eq_getElem hkl,Option.getD_some]
 exact List.mem_take_iff_getElem.mpr ⟨k,by omega,rfl⟩
theorem gF:∀ (zs ks:List Int),(zs.foldl cH ks).length<=ks.length+zs.length
 |[],ks=>Nat.le_refl _
 |z::r,ks=>by
  rw[List.foldl_cons]
  have h:=gF r (cH ks z)
  have h2:(cH ks z).length<=ks.length+1:=by
   unfold cH
   split
   ·omega
   ·rw[List.length_append];exact Nat.le_refl _
  rw[List.length_cons]
  omega
theorem qG {c:List Int}{j:Nat}{y:Int}(u:Ups c)(h:c[j]? =some y):y∉c.take j:=fun hm=>by
 have hj:=(List.getElem?_eq_some_iff.mp h).1
 have e:c=c.take j++y::c.drop (j+1):=by
  rw[← (List.getElem?_eq_some_iff.mp h).2,List.getElem_cons_drop,List.take_append_drop]
 unfold Ups at u
 rw[e,List.map_append,List.pairwise_append] at u
 have:=u.2.2 (al y) (List.mem_map_of_mem hm) (al y) (by simp)
 omega
inductive rE (vs:List V)(H:Hp)(Q:VK):Prop
 |mk (q:Addr)(xs:List V)(cs:List (List Int))(h0:vs=[.ref q])(h1:H q=some (.lst xs))(h2:CLs H cs xs)(h3:cs.length<=400)(h4:∀ c∈cs,c.length<=60)(h5:∀ c∈cs,Ups c)
  (h6:∀ (a:Addr) (kvs:List (bo×V)) (H':Hp),Same H H'->HoldAt H' a kvs (cD cs) (aN cs)->Q (.ref a) H'):rE vs H Q
def pk:Sp:=fun vs H Q _=>rE vs H Q
inductive rF (q a:Addr)(cs:List (List Int))(H:Hp)(i:Nat)(σ:St)(H2:Hp):Prop
 |mk (v2 v3 v4:Option V)(kvs:List (bo×V))(h0:σ=[some (.ref q),some (.ref a),v2,v3,v4])(h1:HoldN H H2 a kvs ((cs.take i).flatten.foldl cH []) (lW cs i []))(h2:((cs.take i).flatten.foldl cH []).length<=60*i):rF q a cs H i σ H2
inductive rG (q a tc:Addr)(cs:List (List Int))(c:List Int)(H:Hp)(i j:Nat)(σ:St)(H2:Hp):Prop
 |mk (v4:Option V)(kvs:List (bo×V))(h0:σ=[some (.ref q),some (.ref a),some (.int (i:Int)),some (.ref tc),v4])(h1:HoldN H H2 a kvs ((c.take j).foldl cH ((cs.take i).flatten.foldl cH [])) (lW cs i (c.take j))):rG q a tc cs c H i j σ H2
section
variable {P:Program}{w:World}{K:PySem.W.Frag}{mg:Str->Option Value}{base:Heap}
theorem pq:ay ["clauses","holders","place","clause","literal"] ["clauses"] (ai lV):=⟨rfl,rfl,rfl,by decide+kernel,rfl,by decide+kernel,by decide+kernel⟩
theorem qH {f:Addr}{fd:FuncData}(F:Fun K "holders_of" "holders_of" lV f fd)(T:tO mg):aY P w K mg base cu 1 f fd ["clauses"] pk:=by
 have sc:=pq
 refine F.ok pq (fun vs H Q E h=>?_) (fun cdv A outer s H vs Q E hr h=>?_)
 ·obtain⟨q,xs,cs,rfl,_⟩:=h
  rfl
 obtain⟨q,xs,cs,rfl,hq,hcs,hn,hc60,hup,q'⟩:=h
 have hlen:=hcs.length
 have hu:=hr.units
 have hu1:(A.deeper (PyProof.Rows.envOfC "holders_of" (ai lV) s.heap.objs.size f cdv)).units+1 < cLine:=by omega
 refine⟨_,(ae (aC (i:=1) sc.nd rfl (Or.inl rfl) jd)
  (ae (bA PassesOwn.never rfl (fW rfl T.enumerate (pv 0)) (fc rfl (bF (ao (i:=2) sc.nd rfl (Or.inl rfl)) (bF (ao (i:=3) sc.nd rfl (Or.inl rfl)) dN)))
   (ag (bA PassesOwn.never rfl (ca (pv 3)) (ao (i:=4) sc.nd rfl (Or.inl rfl))
    (ag (eD (gU PySem.F.plainAttrs_list PySem.F.slot_list_append PySem.F.type_list_append cI (n_ hu1 (pv 1) (pv 4) (cx ad) ⟨rfl,rfl,rfl,rfl⟩) (aa (pv 2) ad)))))))
  (ag (aj (pv 1))))),?_⟩
 refine fun a na=>⟨_,rfl,q,rfl,⟨_,SqL.of (af na _ _ _ hq)⟩,?_⟩
 refine eO (K:=K) (a:=q) (xs:=xs) (rF q a cs H) ⟨none,none,none,[],rfl,⟨⟨ac,rfl,fun z hz=>(nomatch hz),fun z _=>rfl,fun y z l e=>(nomatch e)⟩,af na _,na,fun z l e=>(nomatch e)⟩,Nat.le_refl _⟩ ?_ ?_ ?_
 ·rintro i σ H2 _ ⟨_,_,_,_,_,hN,_⟩
  exact SqL.of (hN.sam _ _ hq)
 ·rintro i x σ H2 tt hx ⟨v2,v3,v4,kvs,rfl,hN,hk60⟩ htt
  have k3:=af htt (.tup [.int (i:Int),x])
  have hi:i < cs.length:=by
   have:=(List.getElem?_eq_some_iff.mp hx).1
   omega
  obtain⟨tc,hx',htc,hm⟩:=cE hcs hi
  rw[hx] at hx';cases hx'
  have hN3:=hN.mono k3
  have st1:upd H2 tt (.tup [.int (i:Int),.ref tc]) tt=some (.tup [.int (i:Int),.ref tc]):=ac
  generalize upd H2 tt (.tup [.int (i:Int),.ref tc])=G1 at hN3 st1 ⊢
  have u:=hup _ hm
  have hc:=hc60 _ hm
  have enext:=@pj cs i
  have etake:(cs.take (i+1)).flatten=(cs.take i).flatten++cs.getD i []:=by
   rw[fC (List.getElem?_eq_getElem hi),List.flatten_append,List.flatten_singleton,List.getD_eq_getElem?_getD,List.getElem?_eq_getElem hi]
   rfl
  refine⟨tt,_,rfl,SqT.of st1,rfl,_,_,rfl,_,_,rfl,rfl,?_⟩
  generalize cs.getD i []=c at htc hm u hc enext etake
  refine⟨_,rfl,tc,rfl,⟨_,SqT.of (hN3.sam _ _ htc)⟩,?_⟩
  refine im (K:=K) (a:=tc) (xs:=c.map V.int) (rG q a tc cs c H i) ⟨_,kvs,rfl,hN3⟩ ?_ ?_ ?_
  ·rintro j σ H4 _ ⟨_,_,_,hN4⟩
   exact SqT.of (hN4.sam _ _ htc)
  ·rintro j x σ H4 hx4 ⟨w4,kvs4,rfl,hN4⟩
   obtain⟨y,rfl,hy⟩:=df hx4
   have hj:=(List.getElem?_eq_some_iff.mp hy).1
   refine cV ?_
   refine⟨_,rfl,a,rfl,.inl ⟨_,.inl hN4.at_.ha⟩,_,rfl,(by show 0<=sizeLine;decide),fun l0 nl0=>?_⟩
   have ynew:=qG u hy
   have esn:=fC hy
   have k5:=af nl0 (.lst [])
   have hpl:∀ z,(lW cs i (c.take j) z).length<=401:=fun z=>by
    unfold lW
    rw[List.length_append]
    have h1:=List.length_filter_le (fun k=>(cs.getD k []).contains z) (List.range i)
    rw[List.length_range] at h1
    have h2:(if (c.take j).contains z=true then [i] else ([]:List Nat)).length<=1:=by
     split
     ·exact Nat.le_refl _
     ·exact Nat.zero_le _
    omega
   have s24:sizeLine=16777216:=sizeLine_eq
   by_cases hm4:y∈(c.take j).foldl cH ((cs.take i).flatten.foldl cH [])
   ·obtain⟨l,el,hl⟩:=hN4.at_.val y hm4
    have hN5:=hN4.mono k5
    refine .inl ⟨.ref l,by rw[← el];exact DGet.k (k:=.inl y) hN5.at_.ha,?_⟩
    have hl5:=k5 _ _ hl
    refine⟨.inl ⟨rfl,_,SqL.of hl5⟩,_,rfl,l,_,_,rfl,rfl,hl5,by rw[List.length_map];have:=hpl y;omega,?_⟩
    have hN6:=ph (i:=i) hN5 hm4 el
    rw[jP ynew,← esn] at hN6
    refine⟨_,kvs4,rfl,?_⟩
    rw[esn,List.foldl_append]
    rw[← esn]
    exact hN6
   ·have ev:=hN4.at_.non y hm4
    have klen:kvs4.length<=60*i+j:=by
     have e1:=congrArg List.length hN4.at_.keys
     rw[List.length_map,List.length_map] at e1
     have e2:=gF (c.take j) ((cs.take i).flatten.foldl cH [])
     rw[List.length_take] at e2
     omega
    refine .inr ⟨by rw[← ev];exact DGet.k (k:=.inl y) (k5 _ _ hN4.at_.ha),_,DPut.k (k:=.inl y) (k5 _ _ hN4.at_.ha) (by omega),?_⟩
    have hN6:=pi (i:=i) hN4 hm4 (qF (Nat.le_of_lt hi) hm4) nl0
    rw[jP ynew,← esn] at hN6
    have nal:l0≠a:=fun z=>by have:=hN4.at_.ha;rw[← z,nl0] at this;cases this
    have hl6:upd (upd H4 l0 (.lst [])) a (.dK (cF kvs4 (.inl y) (.ref l0))) l0=some (.lst []):=by rw[ap nal];exact ac
    refine⟨.inl ⟨rfl,_,SqL.of hl6⟩,_,rfl,l0,_,_,rfl,rfl,hl6,by show 0 < sizeLine;decide,?_⟩
    refine⟨_,cF kvs4 (.inl y) (.ref l0),rfl,?_⟩
    rw[esn,List.foldl_append]
    rw[← esn]
    exact hN6
  ·rintro σ H4 ⟨w4,kvs4,rfl,hN4⟩
   have et:c.take (c.map V.int).length=c:=List.take_of_length_le (by rw[List.length_map];exact Nat.le_refl _)
   rw[et] at hN4
   rw[enext,← List.foldl_append,← etake] at hN4
   refine⟨_,_,_,kvs4,rfl,hN4,?_⟩
   have:=gF c ((cs.take i).flatten.foldl cH [])
   rw[etake,List.foldl_append]
   omega
 ·rintro σ H2 ⟨v2,v3,v4,kvs,rfl,hN,_⟩
  refine⟨_,rfl,q' a kvs H2 hN.sam ?_⟩
  have e:cs.take xs.length=cs:=List.take_of_length_le (by omega)
  have h1:=hN.at_
  rw[e,lX,← hlen] at h1
  exact h1
end
end K63
namespace K63
open PySem L2 OD
abbrev iQ:Stmt:=cW 32
inductive rH (vs:List V)(H:Hp)(Q:VK):Prop
 |mk (a:Addr)(kvs:List (bo×V))(ks:List Int)(pl:Int->List Nat)(h0:vs=[.ref a])(h1:HoldAt H a kvs ks pl)(h2:∀ v H',Same H H'->RS H' ((ks.find? fun z=>!ks.contains (-z)).map Nx.pure) v->Q v H'):rH vs H Q
def pr:Sp:=fun vs H Q _=>rH vs H Q
inductive rJ (a:Addr)(o:Obj)(kvs:List (bo×V))(ks:List Int)(H:Hp)(i:Nat)(σ:St)(H2:Hp):Prop
 |mk (v1:Option V)(h0:σ=[some (.ref a),v1])(h1:H2=upd H a (.frz o (.dK kvs)))(h2:∀ z∈ks.take i,(!ks.contains (-z))=false):rJ a o kvs ks H i σ H2
theorem HoldAt.key {H:Hp}{a:Addr}{kvs:List (bo×V)}{ks:List Int}{pl:Int->List Nat}{i:Nat}{k:bo}{v:V}(h:HoldAt H a kvs ks pl)(e:kvs[i]? =some (k,v)):∃ z,k=.inl z/\ks[i]? =some z:=by
 have e1:(kvs.map (·.1))[i]? =some k:=by rw[List.getElem?_map,e];rfl
 rw[h.keys,List.getElem?_map] at e1
 obtain⟨z,e2,e3⟩:=Option.map_eq_some_iff.mp e1
 exact⟨z,e3.symm,e2⟩
theorem HoldAt.has {H:Hp}{a:Addr}{kvs:List (bo×V)}{ks:List Int}{pl:Int->List Nat}(h:HoldAt H a kvs ks pl)(z:Int):(bV kvs (.inl z)).isSome=ks.contains z:=by
 by_cases hz:z∈ks
 ·obtain⟨l,e,_⟩:=h.val z hz
  rw[e,List.contains_iff_mem.mpr hz];rfl
 ·rw[h.non z hz,Bool.eq_false_iff.mpr fun q=>hz (List.contains_iff_mem.mp q)];rfl
theorem iR {α:Type}{l:List α}{p:α->Bool}{i:Nat}{z:α}(e:l[i]? =some z) (h:∀ y∈l.take i,p y=false) (hz:p z=true):l.find? p=some z:=by
 have hi:=(List.getElem?_eq_some_iff.mp e).1
 have e2:l=l.take i++z::l.drop (i+1):=by
  rw[← (List.getElem?_eq_some_iff.mp e).2,List.getElem_cons_drop,List.take_append_drop]
 rw[e2,List.find?_append,List.find?_eq_none.mpr fun y hy=>by rw[h y hy];exact Bool.false_ne_true,List.find?_cons_of_pos hz]
 rfl
theorem fD {α:Type}{l:List α}{i:Nat}{z y:α}(e:l[i]? =some z) (h:y∈l.take (i+1)):y∈l.take i\/y=z:=by
 rw[fC e] at h
 exact (List.mem_append.mp h).imp id List.mem_singleton.mp
theorem pw {H:Hp}{a r:Addr}{x y:HO}(h:a≠r):upd (upd H a x) r y=upd (upd H r y) a x:=by
 funext b
 by_cases e:b=r
 ·subst e
  rw[ac,ap (Ne.symm h),ac]
 ·rw[ap e]
  by_cases e2:b=a
  ·subst e2;rw[ac,ac]
  ·rw[ap e2,ap e2,ap e]
section
variable {P:Program}{w:World}{K:PySem.W.Frag}{mg:Str->Option Value}{base:Heap}
theorem lY:ay ["holders","literal"] ["holders"] (ai iQ):=⟨rfl,rfl,rfl,by decide+kernel,rfl,by decide+kernel,by decide+kernel⟩
theorem px {f:Addr}{fd:FuncData}(F:Fun K "next_pure" "next_pure" iQ f fd):aY P w K mg base cu 1 f fd ["holders"] pr:=by
 have sc:=lY
 refine F.ok lY (fun vs H Q E h=>?_) (fun cdv A outer s H vs Q E hr h=>?_)
 ·obtain⟨a,kvs,ks,pl,rfl,_⟩:=h
  rfl
 obtain⟨a,kvs,ks,pl,rfl,hA,q'⟩:=h
 have hu:=hr.units
 have hu1:(A.deeper (PyProof.Rows.envOfC "next_pure" (ai iQ) s.heap.objs.size f cdv)).units+1 < cLine:=by omega
 have hlk:kvs.length=ks.length:=by
  have:=congrArg List.length hA.keys
  rw[List.length_map,List.length_map] at this
  exact this
 refine⟨_,(ae (qg (bA PassesOwn.never rfl (qf (pv 0)) (ao (i:=1) sc.nd rfl (Or.inl rfl))
   (ag (aH (se (mE hu1 (eE dq (pv 1)) (pv 0))) (ag (aj (bU (aa aJ (aa (pv 1) ad))))) au))))
  (ag (aj aW))),?_⟩
 refine⟨a,kvs,hA.ha,_,rfl,a,kvs,rfl,hA.ha,fun o=>?_⟩
 refine oa (a:=a) (o:=o) (kvs:=kvs) (rJ a o kvs ks H) ⟨none,rfl,rfl,fun z hz=>(nomatch hz)⟩ ?_ ?_ ?_
 ·rintro i σ H2 _ ⟨_,_,rfl,_⟩
  exact ac
 ·rintro i k v σ H2 hk ⟨v1,rfl,rfl,hno⟩
  obtain⟨z,rfl,hz⟩:=hA.key hk
  refine cV ?_
  refine⟨_,rfl,_,rfl,_,rfl,a,_,rfl,.inl ⟨kvs,.inl (-z),.inr ⟨o,ac⟩,rfl,rfl⟩,_,rfl,?_⟩
  have eh:=hA.has (-z)
  cases ev:ks.contains (-z) with
  |false=>
   rw[ev] at eh
   rw[eh]
   refine aI ⟨_,rfl,(by show 2<=sizeLine;decide),fun r hr2=>?_⟩
   have nar:a≠r:=fun q=>by rw[← q,ac] at hr2;cases hr2
   have hr0:H r=none:=by rw[ap (Ne.symm nar)] at hr2;exact hr2
   have k4:=af hr0 (.tup [.str bz,.int z])
   refine⟨o,kvs,upd H r (.tup [.str bz,.int z]),k4 _ _ hA.ha,pw nar,q' _ _ k4 ?_⟩
   rw[iR (p:=fun z=>!ks.contains (-z)) hz hno (by rw[ev];rfl)]
   exact⟨r,rfl,ac⟩
  |true=>
   rw[ev] at eh
   rw[eh]
   refine aA ⟨_,rfl,rfl,fun y hy=>?_⟩
   rcases fD hz hy with q|q
   ·exact hno y q
   ·subst q;rw[ev];rfl
 ·rintro σ H2 ⟨v1,rfl,rfl,hno⟩
  refine⟨o,kvs,H,hA.ha,rfl,?_⟩
  refine q' _ _ (Same.refl _) ?_
  rw[List.take_of_length_le (by omega)] at hno
  rw[List.find?_eq_none.mpr fun z hz=>by rw[hno z hz];exact Bool.false_ne_true]
  rfl
end
end K63
namespace K63
open PySem L2 OD
abbrev qI:Stmt:=cW 33
def adr (kvs:List (bo×V))(z:Int):Addr:=match bV kvs (.inl z) with
 |some (.ref l)=>l
 |_=>0
def uY (kvs:List (bo×V)):V->V
 |.int z=>.ref (adr kvs z)
 |_=>.non
inductive uZ (vs:List V)(H:Hp)(Q:VK):Prop
 |mk (a b:Addr)(kvs:List (bo×V))(cs:List (List Int))(c:List Int)(h0:vs=[.ref a,.ref b,.int (cs.length:Int)])(h1:HoldAt H a kvs (cD cs) (aN cs))(h2:lp H b c)(h3:c.length<=60)(h4:cs.length<=400)(h5:∀ z∈c,z∈cD cs)
  (h6:∀ (l:Addr) (H':Hp),Same H H'->H' l=some (.lst (cR (cQ cs c)))->Q (.ref l) H'):uZ vs H Q
def rK:Sp:=fun vs H Q _=>uZ vs H Q
theorem HoldAt.adr {H:Hp}{a:Addr}{kvs:List (bo×V)}{ks:List Int}{pl:Int->List Nat}{z:Int}(h:HoldAt H a kvs ks pl)(hz:z∈ks):bV kvs (.inl z)=some (.ref (adr kvs z))/\H (adr kvs z)=some (.lst (cR (pl z))):=by
 obtain⟨l,e,q⟩:=h.val z hz
 have:K63.adr kvs z=l:=by unfold K63.adr;rw[e]
 rw[this]
 exact⟨e,q⟩
section
variable {P:Program}{w:World}{K:PySem.W.Frag}{mg:Str->Option Value}{base:Heap}
theorem rL:ay ["holders","literals","many"] ["holders","literals","many"] (ai qI):=⟨rfl,rfl,rfl,by decide+kernel,rfl,by decide+kernel,by decide+kernel⟩
theorem tG {f:Addr}{fd:FuncData}(F:Fun K "fewest_holders" "fewest_holders" qI f fd)(T:tO mg):aY P w K mg base cu 1 f fd ["holders","literals","many"] rK:=by
 have sc:=rL
 refine F.ok rL (fun vs H Q E h=>?_) (fun cdv A outer s H vs Q E hr h=>?_)
 ·obtain⟨a,b,kvs,cs,c,rfl,_⟩:=h
  rfl
 obtain⟨a,b,kvs,cs,c,rfl,hA,hb,c60,c400,hk,q'⟩:=h
 have hu:=hr.units
 have hu1:(A.deeper (PyProof.Rows.envOfC "fewest_holders" (ai qI) s.heap.objs.size f cdv)).units+1 < cLine:=by omega
 refine⟨_,(ae (aH (bf (i9 (pv 1) (fun _=>rfl))) (ag (aj (hV rfl rfl T.list rfl T.range (pv 2)))) au)
  (ag (aj (qi rfl rfl T.min rfl T.len (aP (NY:=["literal","holders"]) (idx:=[none,some 0]) rfl ⟨by with_unfolding_all rfl,(by with_unfolding_all exact⟨rfl,trivial⟩),fun _=>by rfl,by rfl,by rfl,by rfl,by decide⟩ (ca (pv 1)) (fun _ _ _ _=>(ao (i:=0) (show List.Nodup (["literal","holders"]:List Str) by decide+kernel) rfl (Or.inl rfl))) (fun _ _ _ _=>bT) (fun _ _ _ _=>(kX hu1 (pv 1) (pv 0) (fun _ _=>rfl)))))))),?_⟩
 refine⟨_,rfl,!(c.map V.int).isEmpty,.inr (.inl ⟨_,SqT.of hb,rfl⟩),?_⟩
 cases c with
 |nil=>
  refine aI ⟨_,rfl,cs.length,rfl,by omega,fun L hL=>?_⟩
  exact q' L _ (af hL _) ac
 |cons y r=>
  refine aA ?_
  refine⟨_,rfl,b,rfl,⟨_,SqT.of hb⟩,fun D nD=>?_⟩
  refine bx [some (.ref a)] (fun _=>true) (uY kvs) rfl hb nD (by rw[List.length_map];omega) (fun x hx H' R k q=>q) (fun x hx _ H' R k q=>?_) ?_
  ·obtain⟨z,hz,rfl⟩:=List.mem_map.mp hx
   obtain⟨e1,_⟩:=hA.adr (hk z hz)
   exact⟨_,rfl,_,rfl,a,.ref (adr kvs z),rfl,by rw[← e1];exact DGet.k (k:=.inl z) (k _ _ hA.ha),q⟩
  ·have ef:(((y::r).map V.int).filter fun _=>true).map (uY kvs)=((y::r).map (adr kvs)).map V.ref:=by
    rw[List.filter_eq_self.mpr fun _ _=>rfl,List.map_map,List.map_map]
    rfl
   rw[ef]
   have k1:=af nD (.lst (((y::r).map (adr kvs)).map V.ref))
   have s1:upd H D (.lst (((y::r).map (adr kvs)).map V.ref)) D=some (.lst (((y::r).map (adr kvs)).map V.ref)):=ac
   have hA1:=hA.mono k1
   generalize upd H D (.lst (((y::r).map (adr kvs)).map V.ref))=H1 at k1 s1 hA1 ⊢
   refine⟨D,(y::r).map (adr kvs),((y::r).map (aN cs)).map List.length,rfl,SqL.of s1,(by simp),⟨by simp,fun i a' ha=>?_⟩,fun a' ha=>?_⟩
   ·rw[List.getElem?_map] at ha
    obtain⟨z,hz,rfl⟩:=Option.map_eq_some_iff.mp ha
    obtain⟨_,e2⟩:=hA1.adr (hk z (List.mem_of_getElem? hz))
    refine⟨_,SqL.of e2,?_⟩
    rw[List.getElem?_map,List.getElem?_map,hz,List.length_map]
    rfl
   ·rw[List.getElem?_map] at ha
    obtain⟨z,hz,rfl⟩:=Option.map_eq_some_iff.mp ha
    obtain⟨_,e2⟩:=hA1.adr (hk z (List.mem_of_getElem? hz))
    refine q' _ _ k1 ?_
    rw[e2]
    unfold cQ
    rw[if_neg (by simp),List.getD_eq_getElem?_getD,List.getElem?_map,hz]
    rfl
end
end K63
namespace K63
open PySem L2 OD
abbrev kK:Stmt:=cW 34
inductive py (vs:List V)(H:Hp)(Q:VK):Prop
 |mk (q a:Addr)(xs:List V)(cs:List (List Int))(kvs:List (bo×V))(h0:vs=[.ref q,.ref a])(h1:H q=some (.lst xs))(h2:CLs H cs xs)(h3:cs.length<=400)(h4:∀ c∈cs,c.length<=60)(h5:HoldAt H a kvs (cD cs) (aN cs))
  (h6:∀ v H',Same H H'->RS H' (dL cs) v->Q v H'):py vs H Q
def lZ:Sp:=fun vs H Q _=>py vs H Q
inductive pz (q a:Addr)(cs:List (List Int))(H:Hp)(j:Nat)(σ:St)(H2:Hp):Prop
 |mk (v2 v3 v4:Option V)(h0:σ=[some (.ref q),some (.ref a),v2,v3,v4])(h1:Same H H2)(h2:∀ k,k < j->lT cs k=none):pz q a cs H j σ H2
inductive kM (q a tc:Addr)(cs:List (List Int))(H:Hp)(j:Nat)(ns:List Nat)(i:Nat)(σ:St)(H2:Hp):Prop
 |mk (v4:Option V)(h0:σ=[some (.ref q),some (.ref a),some (.int (j:Int)),some (.ref tc),v4])(h1:Same H H2)(h2:∀ k∈ns.take i,fQ cs j k=false):kM q a tc cs H j ns i σ H2
theorem pA {ns:List Nat}{i:Nat}{x:V}(h:(cR ns)[i]? =some x):∃ n:Nat,x=.int (n:Int)/\ns[i]? =some n:=by
 unfold cR at h
 rw[List.getElem?_map] at h
 obtain⟨n,e,rfl⟩:=Option.map_eq_some_iff.mp h
 exact⟨n,rfl,e⟩
section
variable {P:Program}{w:World}{K:PySem.W.Frag}{mg:Str->Option Value}{base:Heap}
theorem l8:ay ["clauses","holders","within","literals","place"] ["clauses","holders"] (ai kK):=⟨rfl,rfl,rfl,by decide+kernel,rfl,by decide+kernel,by decide+kernel⟩
theorem pB {f g1 g2:Addr}{fd e1 e2:FuncData}(F:Fun K "next_within" "next_within" kK f fd)(T:tO mg)(Gfewest_holders:Fn P w K mg base 1 "fewest_holders" g1 e1 ["holders","literals","many"] rK)(Gholds_all:Fn P w K mg base 1 "holds_all" g2 e2 ["clause","literals"] iH):aY P w K mg base cu 2 f fd ["clauses","holders"] lZ:=by
 have sc:=l8
 refine F.ok l8 (fun vs H Q E h=>?_) (fun cdv A outer s H vs Q E hr h=>?_)
 ·obtain⟨q,a,xs,cs,kvs,rfl,_⟩:=h
  rfl
 obtain⟨q,a,xs,cs,kvs,rfl,hq,hcs,c400,c60,hA,q'⟩:=h
 have hu:=hr.units
 have hlen:=hcs.length
 refine⟨_,(ae (bA PassesOwn.never rfl (fW rfl T.enumerate (pv 0)) (fc rfl (bF (ao (i:=2) sc.nd rfl (Or.inl rfl)) (bF (ao (i:=3) sc.nd rfl (Or.inl rfl)) dN)))
   (ag (bA PassesOwn.never rfl (aS (aw Gfewest_holders hr (by omega) rfl (aa (pv 1) (aa (pv 3) (aa (ak aF rfl T.len PySem.boot_len (aa (pv 0) ad)) ad))))) (ao (i:=4) sc.nd rfl (Or.inl rfl))
    (ag (aH (PW.pt (cX (am (cY hu) (pv 4) (pv 2) (ax _)) (cS (aK (aw Gholds_all hr (by omega) rfl (aa (az ar (pv 0) (pv 4) (fun _ _=>rfl)) (aa (pv 3) ad))))))) (ag (aj (bU (aa aJ (aa (pv 4) (aa (pv 2) ad)))))) au)))))
  (ag (aj aW))),?_⟩
 refine⟨_,rfl,q,rfl,⟨_,SqL.of hq⟩,?_⟩
 refine eO (K:=K) (a:=q) (xs:=xs) (pz q a cs H) ⟨none,none,none,rfl,Same.refl _,fun _ h=>absurd h (Nat.not_lt_zero _)⟩ ?_ ?_ ?_
 ·rintro j σ H2 _ ⟨_,_,_,_,k,_⟩
  exact SqL.of (k _ _ hq)
 ·rintro j x σ H2 tt hx ⟨v2,v3,v4,rfl,k2,hno⟩ htt
  have k3:=af htt (.tup [.int (j:Int),x])
  have kk:=k2.trans k3
  have hj:j < cs.length:=by
   have:=(List.getElem?_eq_some_iff.mp hx).1
   omega
  obtain⟨tc,hx',htc,hm⟩:=cE hcs hj
  rw[hx] at hx';cases hx'
  have st1:upd H2 tt (.tup [.int (j:Int),.ref tc]) tt=some (.tup [.int (j:Int),.ref tc]):=ac
  generalize upd H2 tt (.tup [.int (j:Int),.ref tc])=G1 at kk st1 ⊢
  refine⟨tt,_,rfl,SqT.of st1,rfl,_,_,rfl,_,_,rfl,rfl,?_⟩
  have c60':=c60 _ hm
  refine⟨_,rfl,_,rfl,_,rfl,.ref q,_,rfl,.inl ⟨_,SqL.of (kk _ _ hq),rfl⟩,?_⟩
  rw[← hlen]
  refine⟨a,tc,kvs,cs,cs.getD j [],rfl,hA.mono kk,kk _ _ htc,c60',c400,fun z hz=>mem_keys.mpr ⟨_,hm,hz⟩,fun l H4 k4 hl4=>⟨l,rfl,⟨_,SqL.of hl4⟩,?_⟩⟩
  have k14:=kk.trans k4
  have hfin:∀ i,(cQ cs (cs.getD j [])).find? (fQ cs j)=some i->dL cs=some (.within i j):=fun i e=>dw hj hno (by unfold lT;rw[e];rfl)
  refine cb (K:=K) (a:=l) (xs:=cR (cQ cs (cs.getD j []))) (kM q a tc cs H4 j (cQ cs (cs.getD j []))) ⟨_,rfl,Same.refl _,fun k hk=>(nomatch hk)⟩ ?_ ?_ ?_
  ·rintro i σ H5 _ ⟨_,_,k,_⟩
   exact SqL.of (k _ _ hl4)
  ·rintro i x σ H5 hx5 ⟨w4,rfl,k5,hno5⟩
   obtain⟨n,rfl,hn⟩:=pA hx5
   have hnl:=pf (List.mem_of_getElem? hn)
   obtain⟨tn,hxn,htn,hmn⟩:=cE hcs hnl
   have k15:=k14.trans k5
   refine cV ?_
   have stay:fQ cs j n=false->kM q a tc cs H4 j (cQ cs (cs.getD j [])) (i+1) [some (.ref q),some (.ref a),some (.int (j:Int)),some (.ref tc),some (.int (n:Int))] H5:=fun e=>by
    refine⟨_,rfl,k5,fun k hk=>?_⟩
    rcases fD hn hk with z|z
    ·exact hno5 k z
    ·subst z;exact e
   refine⟨_,rfl,_,rfl,.inl ⟨rfl,_,rfl,?_⟩⟩
   by_cases enj:n=j
   ·refine sT (by rw[enj]) (aA (stay ?_))
    unfold fQ
    rw[decide_eq_true enj];rfl
   ·rw[decide_eq_false (fun z:V.int (n:Int)=V.int (j:Int)=>enj (by have:=V.int.inj z;omega))]
    refine aI ?_
    refine⟨_,rfl,_,rfl,.inl ⟨q,xs,(n:Int),.ref tn,rfl,rfl,SqL.of (k15 _ _ hq),aZ hxn,_,rfl,tn,tc,_,_,rfl,k15 _ _ htn,k15 _ _ htc,_,rfl,?_⟩⟩
    cases ew:((cs.getD j []).all fun z=>(cs.getD n []).contains z) with
    |false=>
     refine aA (stay ?_)
     unfold fQ
     rw[ew,Bool.and_false]
    |true=>
     refine aI ⟨_,rfl,_,rfl,(by show 3<=sizeLine;decide),fun r hr2=>?_⟩
     have k6:=af hr2 (.tup [.str aG,.int (n:Int),.int (j:Int)])
     refine q' _ _ (k15.trans k6) ?_
     rw[hfin n (iR hn hno5 (by unfold fQ;rw[ew,decide_eq_false enj];rfl))]
     exact⟨r,rfl,ac⟩
  ·rintro σ H5 ⟨w4,rfl,k5,hno5⟩
   refine⟨_,_,_,rfl,k14.trans k5,fun k hk=>?_⟩
   by_cases e:k < j
   ·exact hno k e
   ·have:k=j:=by omega
    subst this
    rw[List.take_of_length_le (by rw[List.length_map];exact Nat.le_refl _)] at hno5
    unfold lT
    rw[List.find?_eq_none.mpr fun z hz=>by rw[hno5 z hz];exact Bool.false_ne_true]
    rfl
 ·rintro σ H2 ⟨v2,v3,v4,rfl,k2,hno⟩
  rw[← hlen] at hno
  exact q' _ _ k2 (by unfold dL;rw[first_none.mpr hno];rfl)
end
end K63
namespace K63
open PySem L2 OD
abbrev l_:Stmt:=cW 35
inductive rM (vs:List V)(H:Hp)(Q:VK):Prop
 |mk (p q a:Addr)(t:Str)(xs:List V)(cs:List (List Int))(kvs:List (bo×V))(h0:vs=[.ref p,.ref a])(h1:SentAt H p q t xs cs)(h5:HoldAt H a kvs (cD cs) (aN cs))
  (h6:∀ v H',Same H H'->RS H' (fY t cs) v->Q v H'):rM vs H Q
def pC:Sp:=fun vs H Q _=>rM vs H Q
theorem kN (cs:List (List Int))(z:Int):(aN cs z).map (fun i=>cs.getD i [])=cs.filter fun c=>c.contains z:=by
 have e:cs=(List.range cs.length).map fun i=>cs.getD i []:=by
  refine List.ext_getElem (by simp) fun i h1 h2=>?_
  rw[List.getElem_map,List.getElem_range,List.getD_eq_getElem?_getD,List.getElem?_eq_getElem h1]
  rfl
 unfold aN
 conv=>rhs;rw[e]
 rw[List.filter_map]
 rfl
theorem pD {H:Hp}{cs:List (List Int)}{xs:List V}(h:CLs H cs xs):∀ {ns:List Nat},(∀ n∈ns,n < cs.length)->CLs H (ns.map fun i=>cs.getD i []) (ns.map fun i=>xs.getD i .non)
 |[],_=>.nil
 |n::r,hn=>by
  obtain⟨tc,hx,htc,_⟩:=cE h (hn n List.mem_cons_self)
  refine Paired.cons ⟨tc,?_,htc⟩ (pD h fun m hm=>hn m (List.mem_cons_of_mem _ hm))
  show xs.getD n .non=.ref tc
  rw[List.getD_eq_getElem?_getD,hx];rfl
theorem qJ {H:Hp}{cs:List (List Int)}{xs:List V}(h:CLs H cs xs)(z:Int):CLs H (cs.filter fun c=>c.contains z) ((aN cs z).map fun i=>xs.getD i .non):=by
 rw[← kN]
 exact pD h fun n hn=>(mem_places.mp hn).1
def pE (t:Str):V->Bool
 |.int z=>bu t z
 |_=>false
theorem jQ (t:Str):∀ c:List Int,((c.map V.int).filter (pE t)).map id=(c.filter (bu t)).map V.int
 |[]=>rfl
 |z::r=>by
  have ih:=jQ t r
  rw[List.map_id] at ih ⊢
  rw[List.map_cons]
  by_cases h:bu t z=true
  ·rw[List.filter_cons_of_pos (p:=pE t) (a:=V.int z) h,List.filter_cons_of_pos h,List.map_cons,ih]
  ·rw[List.filter_cons_of_neg (p:=pE t) (a:=V.int z) h,List.filter_cons_of_neg h,ih]
def vF (xs:List V):V->V
 |.int n=>xs.getD n.toNat .non
 |_=>.non
theorem qK (xs:List V)(ns:List Nat):((cR ns).filter fun _=>true).map (vF xs)=ns.map fun i=>xs.getD i .non:=by
 rw[List.filter_eq_self.mpr fun _ _=>rfl]
 unfold cR
 rw[List.map_map]
 rfl
inductive rN (p q a:Addr)(t:Str)(cs:List (List Int))(H:Hp)(i:Nat)(σ:St)(H2:Hp):Prop
 |mk (v3 v4 v5 v6:Option V)(h0:σ=[some (.ref p),some (.ref a),some (.ref q),v3,v4,v5,v6])(h1:Same H H2)(h2:∀ k,k < i->qC t cs k=none):rN p q a t cs H i σ H2
inductive rO (p q a tc:Addr)(t:Str)(cs:List (List Int))(zs:List Int)(H:Hp)(i j:Nat)(σ:St)(H2:Hp):Prop
 |mk (v5 v6:Option V)(h0:σ=[some (.ref p),some (.ref a),some (.ref q),some (.int (i:Int)),some (.ref tc),v5,v6])(h1:Same H H2)(h2:∀ z∈zs.take j,ce t cs i z=false):rO p q a tc t cs zs H i j σ H2
section
variable {P:Program}{w:World}{K:PySem.W.Frag}{mg:Str->Option Value}{base:Heap}
theorem pF:ay ["sentence","holders","clauses","place","clause","literal","opposed"] ["sentence","holders"] (ai l_):=⟨rfl,rfl,rfl,by decide+kernel,rfl,by decide+kernel,by decide+kernel⟩
theorem qL {f g1 g2:Addr}{fd e1 e2:FuncData}(F:Fun K "next_blocked" "next_blocked" l_ f fd)(T:tO mg)(Gis_of:Fn P w K mg base 2 "is_of" g1 e1 ["sentence","literal","hand"] fq)(Gis_blocked:Fn P w K mg base 2 "is_blocked" g2 e2 ["clause","literal","opposed"] ki):aY P w K mg base cu 3 f fd ["sentence","holders"] pC:=by
 have sc:=pF
 refine F.ok pF (fun vs H Q E h=>?_) (fun cdv A outer s H vs Q E hr h=>?_)
 ·obtain⟨p,q,a,t,xs,cs,kvs,rfl,_⟩:=h
  rfl
 obtain⟨p,q,a,t,xs,cs,kvs,rfl,S,hA,q'⟩:=h
 have hu:=hr.units
 have hu1:(A.deeper (PyProof.Rows.envOfC "next_blocked" (ai l_) s.heap.objs.size f cdv)).units+1 < cLine:=by omega
 have hlen:=S.hcs.length
 have ht:=S.ht
 have hn400:=S.hn
 refine⟨_,(ae (aC (i:=2) sc.nd rfl (Or.inr rfl) (az ar (pv 0) ah (fun _ _=>rfl)))
  (ae (bA PassesOwn.never rfl (fW rfl T.enumerate (pv 2)) (fc rfl (bF (ao (i:=3) sc.nd rfl (Or.inl rfl)) (bF (ao (i:=4) sc.nd rfl (Or.inl rfl)) dN)))
   (ag (bA PassesOwn.never rfl (aS (aP (NY:=["literal","sentence"]) (idx:=[none,some 0]) rfl ⟨by with_unfolding_all rfl,(by with_unfolding_all exact⟨rfl,trivial⟩),fun _=>by rfl,by rfl,by rfl,by rfl,by decide⟩ (ca (pv 4)) (fun _ _ _ _=>(ao (i:=0) (show List.Nodup (["literal","sentence"]:List Str) by decide+kernel) rfl (Or.inl rfl))) (fun _ _ _ _=>(bn (aK (aw Gis_of hr (by omega) rfl (aa (pv 1) (aa (pv 0) (aa (bO rfl T.g_WISHER) ad))))))) (fun _ _ _ _=>(pv 0)))) (ao (i:=5) sc.nd rfl (Or.inl rfl))
    (ae (dt (i:=6) sc.nd rfl rfl (NY:=["other","clauses"]) (idx:=[none,some 2]) rfl ⟨by with_unfolding_all rfl,(by with_unfolding_all exact⟨rfl,trivial⟩),fun _=>by rfl,by rfl,by rfl,by rfl,by decide⟩ (aS (nG hu1 (pv 1) (eE dq (pv 5)) (cx ad) ⟨rfl,rfl,rfl,rfl⟩)) (fun _ _ _ _=>(ao (i:=0) (show List.Nodup (["other","clauses"]:List Str) by decide+kernel) rfl (Or.inl rfl))) (fun _ _ _ _=>bT) (fun _ _ _ _=>(az (iy (K:=K) rfl) (pv 1) (pv 0) (fun _ _=>rfl))) (by with_unfolding_all rfl))
    (ag (aH (aK (aw Gis_blocked hr (by omega) rfl (aa (pv 4) (aa (pv 5) (aa (pv 6) ad))))) (ag (aj (bU (aa aJ (aa (pv 3) (aa (pv 5) ad)))))) au))))))
  (ag (aj aW)))),?_⟩
 refine⟨_,rfl,.inr (.inl ⟨p,_,1,.ref q,rfl,rfl,SqT.of S.hp,rfl,?_⟩)⟩
 refine⟨_,rfl,q,rfl,⟨_,SqL.of S.hq⟩,?_⟩
 refine eO (K:=K) (a:=q) (xs:=xs) (rN p q a t cs H) ⟨none,none,none,none,rfl,Same.refl _,fun _ h=>absurd h (Nat.not_lt_zero _)⟩ ?_ ?_ ?_
 ·rintro i σ H2 _ ⟨_,_,_,_,_,k,_⟩
  exact SqL.of (k _ _ S.hq)
 ·rintro i x σ H2 tt hx ⟨v3,v4,v5,v6,rfl,k2,hno⟩ htt
  have k3:=af htt (.tup [.int (i:Int),x])
  have kk:=k2.trans k3
  have hi:i < cs.length:=by
   have:=(List.getElem?_eq_some_iff.mp hx).1
   omega
  obtain⟨tc,hx',htc,hm⟩:=cE S.hcs hi
  rw[hx] at hx';cases hx'
  have st1:upd H2 tt (.tup [.int (i:Int),.ref tc]) tt=some (.tup [.int (i:Int),.ref tc]):=ac
  generalize upd H2 tt (.tup [.int (i:Int),.ref tc])=G1 at kk st1 ⊢
  refine⟨tt,_,rfl,SqT.of st1,rfl,_,_,rfl,_,_,rfl,rfl,?_⟩
  have c60:=S.hc _ hm
  have lok:=S.hok _ hm
  have htc1:=kk _ _ htc
  have S1:=S.mono kk
  have hfin:∀ z,((cs.getD i []).filter (bu t)).find? (fun z=>ce t cs i z)=some z->fY t cs=some (.blocked i z):=fun z e=>dw hi hno (by unfold qC;rw[e];rfl)
  refine⟨_,rfl,tc,rfl,⟨_,SqT.of htc1⟩,fun D nD=>?_⟩
  refine bx [some (.ref p)] (pE t) id rfl htc1 nD (by rw[List.length_map];omega) (fun x hx H' R k r=>?_) (fun x hx _ H' R k r=>⟨_,rfl,r⟩) ?_
  ·obtain⟨z,hz,rfl⟩:=List.mem_map.mp hx
   have hl:=lok z hz
   refine⟨_,rfl,_,rfl,p,t,.ref q,z,true,rfl,k _ _ S1.hp,(by omega),hl.1,hl.2,_,rfl,?_⟩
   have e:(bu t z == true)=pE t (.int z):=by
    show _=bu t z
    cases bu t z<;>rfl
   rw[e]
   exact r
  rw[jQ]
  have kD:=af nD (.lst (((cs.getD i []).filter (bu t)).map V.int))
  have sD:upd G1 D (.lst (((cs.getD i []).filter (bu t)).map V.int)) D=some (.lst (((cs.getD i []).filter (bu t)).map V.int)):=ac
  have kkD:=kk.trans kD
  generalize upd G1 D (.lst (((cs.getD i []).filter (bu t)).map V.int))=G2 at kD sD kkD ⊢
  refine⟨D,rfl,⟨_,SqL.of sD⟩,?_⟩
  refine cb (K:=K) (a:=D) (xs:=((cs.getD i []).filter (bu t)).map V.int) (rO p q a tc t cs ((cs.getD i []).filter (bu t)) G2 i) ⟨_,_,rfl,Same.refl _,fun k hk=>(nomatch hk)⟩ ?_ ?_ ?_
  ·rintro j σ H5 _ ⟨_,_,_,k,_⟩
   exact SqL.of (k _ _ sD)
  ·rintro j x σ H5 hx5 ⟨w5,w6,rfl,k5,hno5⟩
   obtain⟨z,rfl,hz⟩:=df hx5
   obtain⟨hzc,hzo⟩:=List.mem_filter.mp (List.mem_of_getElem? hz)
   have k15:=kkD.trans k5
   refine cV ?_
   refine⟨_,rfl,a,rfl,.inl ⟨_,.inl (k15 _ _ hA.ha)⟩,_,rfl,_,rfl,(by show 0<=sizeLine;decide),fun l0 nl0=>?_⟩
   have k6:=af nl0 (.lst [])
   have hl0:upd H5 l0 (.lst []) l0=some (.lst []):=ac
   have k16:=k15.trans k6
   have hA6:=hA.mono k16
   generalize upd H5 l0 (.lst [])=H6 at k6 hl0 k16 hA6 ⊢
   have hl:∃ l:Addr,(bV kvs (.inl (-z))).getD (.ref l0)=.ref l/\H6 l=some (.lst (cR (aN cs (-z)))):=by
    by_cases hk:-z∈cD cs
    ·obtain⟨e1,e2⟩:=hA6.adr hk
     exact⟨_,by rw[e1];rfl,e2⟩
    ·refine⟨l0,by rw[hA6.non _ hk];rfl,?_⟩
     have:aN cs (-z)=[]:=List.filter_eq_nil_iff.mpr fun n hn q=>hk (mem_keys.mpr ⟨_,gD (List.mem_range.mp hn),List.contains_iff_mem.mp q⟩)
     rw[this];exact hl0
   obtain⟨l,el,hl⟩:=hl
   refine⟨_,DGet.k (k:=.inl (-z)) hA6.ha,?_⟩
   rw[el]
   refine⟨l,rfl,⟨_,SqL.of hl⟩,fun D2 nD2=>?_⟩
   have pl400:(cR (aN cs (-z))).length<=900:=by
    rw[List.length_map]
    have:=List.length_filter_le (fun i=>(cs.getD i []).contains (-z)) (List.range cs.length)
    rw[List.length_range] at this
    unfold aN
    omega
   refine bD [some (.ref q)] (fun _=>true) (vF xs) rfl hl nD2 pl400 (fun x hx H' R k r=>r) (fun x hx _ H' R k r=>?_) ?_
   ·obtain⟨n,hn,rfl⟩:=List.mem_map.mp hx
    have hnl:=(mem_places.mp hn).1
    obtain⟨tn,hxn,_,_⟩:=cE S.hcs hnl
    refine⟨_,rfl,_,rfl,.inl ⟨q,xs,(n:Int),.ref tn,rfl,rfl,SqL.of (k _ _ (k16 _ _ S.hq)),aZ hxn,?_⟩⟩
    have e:vF xs (.int (n:Int))=.ref tn:=by
     show xs.getD (n:Int).toNat .non=_
     rw[Int.toNat_natCast,List.getD_eq_getElem?_getD,hxn];rfl
    rw[← e]
    exact r
   rw[qK]
   have k7:=af nD2 (.lst ((aN cs (-z)).map fun i=>xs.getD i .non))
   have s7:upd H6 D2 (.lst ((aN cs (-z)).map fun i=>xs.getD i .non)) D2=some (.lst ((aN cs (-z)).map fun i=>xs.getD i .non)):=ac
   have k17:=k16.trans k7
   have k57:=k5.trans (k6.trans k7)
   generalize upd H6 D2 (.lst ((aN cs (-z)).map fun i=>xs.getD i .non))=H7 at k7 s7 k17 k57 ⊢
   have eb:((cs.filter fun c=>c.contains (-z)).all fun k=>bj (cs.getD i []) z k)=ce t cs i z:=by
    unfold ce
    rw[List.contains_iff_mem.mpr hzc,hzo];rfl
   refine⟨_,rfl,_,rfl,_,rfl,tc,D2,cs.getD i [],z,_,_,rfl,k17 _ _ htc,s7,qJ (S.hcs.mono k17) (-z),_,rfl,?_⟩
   rw[eb]
   cases ew:ce t cs i z with
   |false=>
    refine aA ⟨_,_,rfl,k57,fun y hy=>?_⟩
    rcases fD hz hy with q1|q1
    ·exact hno5 y q1
    ·subst q1;exact ew
   |true=>
    refine aI ⟨_,rfl,_,rfl,(by show 3<=sizeLine;decide),fun r hr2=>?_⟩
    have k8:=af hr2 (.tup [.str aD,.int (i:Int),.int z])
    refine q' _ _ (k17.trans k8) ?_
    rw[hfin z (iR hz hno5 ew)]
    exact⟨r,rfl,ac⟩
  ·rintro σ H5 ⟨w5,w6,rfl,k5,hno5⟩
   refine⟨_,_,_,_,rfl,kkD.trans k5,fun k hk=>?_⟩
   by_cases e:k < i
   ·exact hno k e
   ·have:k=i:=by omega
    subst this
    rw[List.take_of_length_le (by rw[List.length_map];exact Nat.le_refl _)] at hno5
    unfold qC
    rw[List.find?_eq_none.mpr fun z hz=>by rw[hno5 z hz];exact Bool.false_ne_true]
    rfl
 ·rintro σ H2 ⟨v3,v4,v5,v6,rfl,k2,hno⟩
  rw[← hlen] at hno
  exact q' _ _ k2 (by unfold fY;rw[first_none.mpr hno];rfl)
end
end K63
namespace K63
open PySem L2 OD
abbrev kO:Stmt:=cW 36
abbrev tH:Stmt:=cW 37
inductive ma (vs:List V)(H:Hp)(Q:VK):Prop
 |mk (p q:Addr)(t:Str)(xs:List V)(cs ds:List (List Int))(v:V)(d:PyData)(h0:vs=[.ref p,v])(h1:SentAt H p q t xs cs)(h2:RD H d v)(h3:uU d)(h4:aR t cs d=some ds)
  (h5:∀ (r l:Addr) (ys:List V) (H':Hp),Same H H'->H l=none->H' r=some (.tup [.str t,.ref l])->H' l=some (.lst ys)->CLs H' ds ys->Q (.ref r) H'):ma vs H Q
def gG:Sp:=fun vs H Q _=>ma vs H Q
theorem Few.at {H:Hp}{p q:Addr}{t:Str}{xs:List V}{cs:List (List Int)}(F:Few t cs)(hp:H p=some (.tup [.str t,.ref q]))(hq:H q=some (.lst xs))(h:CLs H cs xs):SentAt H p q t xs cs:=
 ⟨hp,hq,h,by have:=F.t8;omega,by have:=F.many;omega,F.lits,fun c hc=>by have:=F.c4 c hc;omega⟩
def StpsAt (H:Hp)(ss:List Nx)(ys:List V):Prop:=Paired (fun s y=>∃ p:Addr,y=.ref p/\H p=some (.tup s.zs)) ss ys
theorem SentAt.but {H:Hp}{p q l:Addr}{t:Str}{xs ys:List V}{cs:List (List Int)}{o:HO}(h:SentAt H p q t xs cs)(hl:H l=some (.lst ys))(hq:q≠l):SentAt (upd H l o) p q t xs cs:=
 have nt:∀ (b:Addr) (zs:List V),H b=some (.tup zs)->b≠l:=fun b zs e z=>by rw[z,hl] at e;cases e
 ⟨by rw[ap (nt p _ h.hp)];exact h.hp,by rw[ap hq];exact h.hq,Paired.mapP h.hcs fun _ _ ⟨tc,e,q⟩=>⟨tc,e,by rw[ap (nt tc _ q)];exact q⟩,h.ht,h.hn,h.hok,h.hc⟩
theorem StpsAt.but {H:Hp}{l:Addr}{ys zs:List V}{ss:List Nx}{o:HO}(h:StpsAt H ss zs)(hl:H l=some (.lst ys)):StpsAt (upd H l o) ss zs:=
 Paired.mapP h fun _ _ ⟨tc,e,q⟩=>⟨tc,e,by rw[ap (fun z=>by rw[z,hl] at q;cases q)];exact q⟩
theorem StpsAt.mono {H H':Hp}{ss:List Nx}{ys:List V}(h:StpsAt H ss ys)(k:Same H H'):StpsAt H' ss ys:=by
 induction h with
 |nil=>exact .nil
 |cons h _ ih=>
  obtain⟨p,e,q⟩:=h
  exact .cons ⟨p,e,k _ _ q⟩ ih
theorem jR {t:Str}:∀ (n m:Nat) (cs:List (List Int)),Few t cs->aX cs<=n->aX cs<=m->fb t n cs=fb t m cs
 |0,0,_,_,_,_=>rfl
 |0,m+1,cs,F,hn,_=>by
  unfold fb
  cases e:bg t cs with
  |none=>rfl
  |some s=>
   obtain⟨_,ds,_,hlt⟩:=cm F e
   omega
 |n+1,0,cs,F,_,hm=>by
  unfold fb
  cases e:bg t cs with
  |none=>rfl
  |some s=>
   obtain⟨_,ds,_,hlt⟩:=cm F e
   omega
 |n+1,m+1,cs,F,hn,hm=>by
  unfold fb
  cases e:bg t cs with
  |none=>rfl
  |some s=>
   obtain⟨_,ds,ha,hlt⟩:=cm F e
   show s::fb t n ((aR t cs s.d).getD [])=s::fb t m ((aR t cs s.d).getD [])
   rw[ha,Option.getD_some,jR n m ds (F.after ha) (by omega) (by omega)]
def eB (t:Str)(cs:List (List Int)):List Nx:=fb t (aX cs) cs
theorem jS {t:Str}{cs:List (List Int)}(h:bg t cs=none):eB t cs=[]:=by
 unfold eB
 cases aX cs with
 |zero=>rfl
 |succ n=>unfold fb;rw[h]
theorem gH {t:Str}{cs ds:List (List Int)}{s:Nx}(F:Few t cs)(h:bg t cs=some s)(ha:aR t cs s.d=some ds):eB t cs=s::eB t ds:=by
 obtain⟨_,ds',ha',hlt⟩:=cm F h
 rw[ha] at ha';cases ha'
 unfold eB
 cases e:aX cs with
 |zero=>omega
 |succ n=>
  show (match bg t cs with
   |none=>[]
   |some s=>s::fb t n ((aR t cs s.d).getD []))=_
  rw[h]
  show s::fb t n ((aR t cs s.d).getD [])=_
  rw[ha,Option.getD_some,jR n (aX ds) ds (F.after ha) (by omega) (Nat.le_refl _)]
theorem md {t:Str}:∀ (n:Nat) (cs:List (List Int)),(fb t n cs).length<=n
 |0,_=>Nat.le_refl _
 |n+1,cs=>by
  unfold fb
  cases bg t cs with
  |none=>exact Nat.zero_le _
  |some s=>exact Nat.succ_le_succ (md n _)
theorem me:∀ {cs:List (List Int)},(∀ c∈cs,c.length<=4)->aX cs<=5*cs.length
 |[],_=>Nat.le_refl _
 |c::r,h=>by
  have h1:=h c List.mem_cons_self
  have h2:=me (cs:=r) fun k hk=>h k (List.mem_cons_of_mem _ hk)
  rw[ck,List.length_cons]
  omega
theorem Few.size {t:Str}{cs:List (List Int)}(F:Few t cs):aX cs<=80:=by
 have h1:=me F.c4
 have h2:=F.many
 omega
theorem ij {H:Hp}{s:Nx}{p:Addr}(h:H p=some (.tup s.zs)):RD H s.d (.ref p):=by
 cases s with
 |unit i=>exact cB h (aE (cC _) (aE (bi _) bL))
 |drop i=>exact cB h (aE (cC _) (aE (bi _) bL))
 |pure z=>exact cB h (aE (cC _) (aE (bi _) bL))
 |within i j=>exact cB h (aE (cC _) (aE (bi _) (aE (bi _) bL)))
 |blocked i z=>exact cB h (aE (cC _) (aE (bi _) (aE (bi _) bL)))
theorem rP (s:Nx):uU s.d:=by
 cases s with
 |unit i=>exact fun ds e=>by cases e;exact iK
 |drop i=>exact fun ds e=>by cases e;exact iJ
 |pure z=>exact fun ds e=>by cases e;exact iL
 |within i j=>exact fun ds e=>by cases e;exact fu
 |blocked i z=>exact fun ds e=>by cases e;exact eg
inductive u0 (vs:List V)(H:Hp)(Q:VK):Prop
 |mk (p q:Addr)(t:Str)(xs:List V)(cs:List (List Int))(h0:vs=[.ref p])(h1:SentAt H p q t xs cs)(h2:Few t cs)(h3:∀ (l:Addr) (ys:List V) (H':Hp),Same H H'->H' l=some (.lst ys)->StpsAt H' (eB t cs) ys->Q (.ref l) H'):u0 vs H Q
def rQ:Sp:=fun vs H Q _=>u0 vs H Q
inductive tI (p l:Addr)(t:Str)(cs0:List (List Int))(H:Hp)(m:Nat)(σ:St)(H2:Hp):Prop
 |mk (r q:Addr)(xs ys:List V)(cs:List (List Int))(ss:List Nx)(v:V)(h0:σ=[some (.ref p),some (.ref l),some (.ref r),some v])(h1:Same H H2)(h2:H2 l=some (.lst ys))(h3:StpsAt H2 ss ys)(h4:SentAt H2 r q t xs cs)(h5:Few t cs)(h6:eB t cs0=ss++eB t cs)(h7:RS H2 (bg t cs) v)(h8:m=aX cs)(h9:q≠l):tI p l t cs0 H m σ H2
section
variable {P:Program}{w:World}{K:PySem.W.Frag}{mg:Str->Option Value}{base:Heap}
theorem nc {f g:Addr}{fd gd:FuncData}(F:Fun K "smaller_by" "smaller_by" kr f fd)(Gclauses_after:Fn P w K mg base 5 "clauses_after" g gd ["sentence","step"] lB):aY P w K mg base cu 6 f fd ["sentence","step"] gG:=by
 have sc:=lD
 refine F.ok lD (fun vs H Q E h=>?_) (fun cdv A outer s H vs Q E hr h=>?_)
 ·obtain⟨p,q,t,xs,cs,ds,v,d,rfl,_⟩:=h
  rfl
 obtain⟨p,q,t,xs,cs,ds,v,d,rfl,S,hd,hsh,e,q1⟩:=h
 refine⟨_,(ae (aC (i:=2) sc.nd rfl (Or.inl rfl) (aw Gclauses_after hr (by omega) rfl (aa (pv 0) (aa (pv 1) ad))))
  (ae (aH (am jY (pv 2) aW (ax _)) (ag iX) au)
  (ag (aj (bU (aa (az ar (pv 0) ah (fun _ _=>rfl)) (aa (pv 2) ad))))))),?_⟩
 refine⟨_,rfl,_,rfl,p,q,t,xs,cs,v,d,rfl,S,hd,hsh,fun v' H1 k1 r1=>?_⟩
 rw[e] at r1
 obtain⟨l,ys,rfl,nl,hl,hc⟩:=r1
 refine⟨_,rfl,rfl,_,rfl,?_⟩
 rw[decide_eq_false (fun z=>nomatch z)]
 refine aA ⟨_,rfl,.inr (.inl ⟨p,_,0,.str t,rfl,rfl,SqT.of (k1 _ _ S.hp),rfl,_,rfl,(by show 2<=sizeLine;decide),fun r hr2=>?_⟩)⟩
 have k2:=af hr2 (.tup [.str t,.ref l])
 exact q1 r l ys _ (k1.trans k2) nl ac (k2 _ _ hl) (hc.mono k2)
theorem mf:ay ["sentence","step","holders"] ["sentence"] (ai kO):=⟨rfl,rfl,rfl,by decide+kernel,rfl,by decide+kernel,by decide+kernel⟩
theorem pG {f g1 g2 g3 g4 g5:Addr}{fd e1 e2 e3 e4 e5:FuncData}(F:Fun K "next_step" "next_step" kO f fd)(Gnext_short:Fn P w K mg base 4 "next_short" g1 e1 ["sentence"] (gE fun t cs=>cf (cj t cs) cs.length))(Gholders_of:Fn P w K mg base 1 "holders_of" g2 e2 ["clauses"] pk)(Gnext_pure:Fn P w K mg base 1 "next_pure" g3 e3 ["holders"] pr)
  (Gnext_within:Fn P w K mg base 2 "next_within" g4 e4 ["clauses","holders"] lZ) (Gnext_blocked:Fn P w K mg base 3 "next_blocked" g5 e5 ["sentence","holders"] pC):aY P w K mg base cu 5 f fd ["sentence"] (gE bg):=by
 have sc:=mf
 refine F.ok mf (fun vs H Q E h=>?_) (fun cdv A outer s H vs Q E hr h=>?_)
 ·obtain⟨p,q,t,xs,cs,rfl,_⟩:=h
  rfl
 obtain⟨p,q,t,xs,cs,rfl,S,hu,q'⟩:=h
 refine⟨_,(ae (aC (i:=1) sc.nd rfl (Or.inl rfl) (aw Gnext_short hr (by omega) rfl (aa (pv 0) ad)))
  (ae (aH (am eF (pv 1) aW (ax _)) (ag (aj (pv 1))) au)
  (ae (aC (i:=2) sc.nd rfl (Or.inl rfl) (aw Gholders_of hr (by omega) rfl (aa (az ar (pv 0) ah (fun _ _=>rfl)) ad)))
  (ae (aC (i:=1) sc.nd rfl (Or.inl rfl) (aw Gnext_pure hr (by omega) rfl (aa (pv 2) ad)))
  (ae (aH (am eF (pv 1) aW (ax _)) (ag (aj (pv 1))) au)
  (ae (aC (i:=1) sc.nd rfl (Or.inl rfl) (aw Gnext_within hr (by omega) rfl (aa (az ar (pv 0) ah (fun _ _=>rfl)) (aa (pv 2) ad))))
  (ae (aH (am eF (pv 1) aW (ax _)) (ag (aj (pv 1))) au)
  (ag (aj (aw Gnext_blocked hr (by omega) rfl (aa (pv 0) (aa (pv 2) ad)))))))))))),?_⟩
 refine⟨_,rfl,p,q,t,xs,cs,rfl,S,hu,fun v H1 k1 r1=>?_⟩
 have fin:∀ {o:Option Nx} {H':Hp} {v:V},Same H H'->RS H' o v->bg t cs=o->Q v H':=fun {o H' v} k r e=>q' v H' k (by rw[e];exact r)
 cases o1:cf (cj t cs) cs.length with
 |some s=>
  have en:bg t cs=some s:=by unfold bg;rw[o1];rfl
  rw[o1] at r1
  obtain⟨r,rfl,hr1⟩:=r1
  refine⟨_,rfl,rfl,_,rfl,?_⟩
  rw[decide_eq_false (fun z=>nomatch z)]
  exact aI ⟨_,rfl,fin (o:=some s) k1 ⟨r,rfl,hr1⟩ en⟩
 |none=>
  rw[o1] at r1
  have r1':v=.non:=r1
  subst r1'
  refine⟨_,rfl,rfl,_,rfl,?_⟩
  rw[decide_eq_true rfl]
  refine aA ?_
  have S1:=S.mono k1
  refine⟨_,rfl,.inr (.inl ⟨p,_,1,.ref q,rfl,rfl,SqT.of S1.hp,rfl,q,xs,cs,rfl,S1.hq,S1.hcs,S1.hn,S1.hc,hu,fun a kvs H2 k2 hA=>?_⟩)⟩
  have k12:=k1.trans k2
  have S2:=S.mono k12
  refine⟨_,rfl,a,kvs,_,_,rfl,hA,fun v H3 k3 r3=>?_⟩
  have k13:=k12.trans k3
  cases o2:eZ cs with
  |some s=>
   have en:bg t cs=some s:=by unfold bg;rw[o1,o2];rfl
   have r3':RS H3 (eZ cs) v:=r3
   rw[o2] at r3'
   obtain⟨r,rfl,hr1⟩:=r3'
   refine⟨_,rfl,rfl,_,rfl,?_⟩
   rw[decide_eq_false (fun z=>nomatch z)]
   exact aI ⟨_,rfl,fin (o:=some s) k13 ⟨r,rfl,hr1⟩ en⟩
  |none=>
   have r3':RS H3 (eZ cs) v:=r3
   rw[o2] at r3'
   have r3'':v=.non:=r3'
   subst r3''
   refine⟨_,rfl,rfl,_,rfl,?_⟩
   rw[decide_eq_true rfl]
   refine aA ?_
   have S3:=S.mono k13
   refine⟨_,rfl,.inr (.inl ⟨p,_,1,.ref q,rfl,rfl,SqT.of S3.hp,rfl,_,rfl,q,a,xs,cs,kvs,rfl,S3.hq,S3.hcs,S3.hn,S3.hc,hA.mono k3,fun v H4 k4 r4=>?_⟩)⟩
   have k14:=k13.trans k4
   cases o3:dL cs with
   |some s=>
    have en:bg t cs=some s:=by unfold bg;rw[o1,o2,o3];rfl
    rw[o3] at r4
    obtain⟨r,rfl,hr1⟩:=r4
    refine⟨_,rfl,rfl,_,rfl,?_⟩
    rw[decide_eq_false (fun z=>nomatch z)]
    exact aI ⟨_,rfl,fin (o:=some s) k14 ⟨r,rfl,hr1⟩ en⟩
   |none=>
    rw[o3] at r4
    have r4':v=.non:=r4
    subst r4'
    refine⟨_,rfl,rfl,_,rfl,?_⟩
    rw[decide_eq_true rfl]
    refine aA ?_
    have S4:=S.mono k14
    refine⟨_,rfl,_,rfl,p,q,a,t,xs,cs,kvs,rfl,S4,hA.mono (k3.trans k4),fun v H5 k5 r5=>?_⟩
    exact fin (k14.trans k5) r5 (by unfold bg;rw[o1,o2,o3];rfl)
theorem rR:ay ["sentence","steps","left","step"] ["sentence"] (ai tH):=⟨rfl,rfl,rfl,by decide+kernel,rfl,by decide+kernel,by decide+kernel⟩
theorem tJ {f g1 g2:Addr}{fd e1 e2:FuncData}(F:Fun K "all_smaller" "all_smaller" tH f fd)(Gnext_step:Fn P w K mg base 5 "next_step" g1 e1 ["sentence"] (gE bg))(Gsmaller_by:Fn P w K mg base 6 "smaller_by" g2 e2 ["sentence","step"] gG):aY P w K mg base cu 7 f fd ["sentence"] rQ:=by
 have sc:=rR
 refine F.ok rR (fun vs H Q E h=>?_) (fun cdv A outer s H vs Q E hr h=>?_)
 ·obtain⟨p,q,t,xs,cs,rfl,_⟩:=h
  rfl
 obtain⟨p,q,t,xs,cs,rfl,S,Fw,q'⟩:=h
 refine⟨_,(ae (aC (i:=1) sc.nd rfl (Or.inl rfl) (cx ad))
  (ae (aC (i:=2) sc.nd rfl (Or.inl rfl) (pv 0))
  (ae (aC (i:=3) sc.nd rfl (Or.inl rfl) (aw Gnext_step hr (by omega) rfl (aa (pv 2) ad)))
  (ae (np PassesOwn.never (am eF (pv 3) aW (ax _))
   (ae (eD (gU PySem.F.plainAttrs_list PySem.F.slot_list_append PySem.F.type_list_append cI (pv 1) (aa (pv 3) ad)))
   (ae (aC (i:=2) sc.nd rfl (Or.inl rfl) (aw Gsmaller_by hr (by omega) rfl (aa (pv 2) (aa (pv 3) ad))))
   (ag (aC (i:=3) sc.nd rfl (Or.inl rfl) (aw Gnext_step hr (by omega) rfl (aa (pv 2) ad)))))))
  (ag (aj (pv 1))))))),?_⟩
 refine⟨(by show 0<=sizeLine;decide),fun l nl=>?_⟩
 have k1:=af nl (.lst [])
 have s1:upd H l (.lst []) l=some (.lst []):=ac
 generalize upd H l (.lst [])=H1 at k1 s1 ⊢
 have S1:=S.mono k1
 refine⟨_,rfl,_,rfl,p,q,t,xs,cs,rfl,S1,fun c hc=>(Fw.ok c hc).1,fun v H2 k2 r2=>?_⟩
 refine⟨tI p l t cs H,⟨_,p,q,xs,[],cs,[],v,rfl,k1.trans k2,k2 _ _ s1,.nil,S1.mono k2,Fw,rfl,r2,rfl,fun z=>by rw[← z,S.hq] at nl;cases nl⟩,?_⟩
 rintro m σ H3 ⟨r,q3,xs3,ys,ds,ss,v3,rfl,k3,hl3,hss,S3,F3,eall,r3,rfl,nql⟩
 cases o:bg t ds with
 |none=>
  rw[o] at r3
  have r3':v3=.non:=r3
  subst r3'
  refine⟨_,rfl,rfl,_,rfl,?_⟩
  rw[decide_eq_true rfl]
  refine aA ⟨_,rfl,?_⟩
  rw[jS o,List.append_nil] at eall
  exact q' l ys H3 k3 hl3 (by rw[eall];exact hss)
 |some s=>
  rw[o] at r3
  obtain⟨b,rfl,hb⟩:=r3
  obtain⟨_,es,ha,hlt⟩:=cm F3 o
  have hz:=F3.size
  have elen:=congrArg List.length eall
  have hss80:ys.length<=80:=by
   have h1:=md (t:=t) (aX cs) cs
   have h2:=Fw.size
   have h3:ss.length=ys.length:=Paired.length hss
   unfold eB at elen
   rw[List.length_append] at elen
   omega
  refine⟨_,rfl,rfl,_,rfl,?_⟩
  rw[decide_eq_false (fun z=>nomatch z)]
  refine aI ⟨fun σ' H'=>∃ m',m' < aX ds/\tI p l t cs H m' σ' H',fun _ _ z=>z,?_⟩
  refine⟨_,rfl,.inl ⟨rfl,_,SqL.of hl3⟩,_,rfl,l,_,_,rfl,rfl,hl3,av (by omega),?_⟩
  have k4:=k3.upd_new nl (.lst (ys++[.ref b]))
  have S4:=S3.but (o:=.lst (ys++[.ref b])) hl3 nql
  have hss4:=hss.but (o:=.lst (ys++[.ref b])) hl3
  have hb4:upd H3 l (.lst (ys++[.ref b])) b=some (.tup s.zs):=by rw[ap (fun z=>by rw[z,hl3] at hb;cases hb)];exact hb
  have hl4:upd H3 l (.lst (ys++[.ref b])) l=some (.lst (ys++[.ref b])):=ac
  generalize upd H3 l (.lst (ys++[.ref b]))=H4 at k4 S4 hss4 hb4 hl4 ⊢
  refine⟨_,rfl,_,rfl,r,q3,t,xs3,ds,es,.ref b,s.d,rfl,S4,ij hb4,rP s,ha,fun r5 l5 us H5 k5 nl5 hr5 hl5 hc5=>?_⟩
  have F5:=F3.after ha
  have S5:=F5.at hr5 hl5 hc5
  refine⟨_,rfl,r5,l5,t,us,es,rfl,S5,fun c hc=>(F5.ok c hc).1,fun v6 H6 k6 r6=>?_⟩
  refine⟨_,hlt,r5,l5,us,ys++[.ref b],es,ss++[s],v6,rfl,k4.trans (k5.trans k6),k6 _ _ (k5 _ _ hl4),bp (hss4.mono (k5.trans k6)) (Paired.cons ⟨b,rfl,k6 _ _ (k5 _ _ hb4)⟩ .nil),S5.mono k6,F5,?_,r6,rfl,fun z=>by rw[z,hl4] at nl5;cases nl5⟩
  rw[eall,gH F3 o ha,List.append_assoc]
  rfl
end
end K63
namespace K63
open PySem L2 OD
abbrev pH:Stmt:=cW 53
abbrev pI:Stmt:=cW 54
structure vU (mg:Str->Option Value):Prop where
 len:mg "len"=none
 sum:mg "sum"=none
inductive rS (vs:List V)(H:Hp)(Q:VK):Prop
 |mk (q:Addr)(xs:List V)(cs:List (List Int))(h0:vs=[.ref q])(h1:H q=some (.lst xs))(h2:CLs H cs xs)(h3:cs.length<=400)(h4:∀ c∈cs,c.length<=60)(h5:∀ H',Same H H'->Q (.int (aX cs:Nat)) H'):rS vs H Q
def kP:Sp:=fun vs H Q _=>rS vs H Q
def ng (H:Hp):V->V
 |.ref b=>match H b with
  |some (.tup zs)=>.int (zs.length:Nat)
  |_=>.non
 |_=>.non
theorem mh {H:Hp}:∀ {cs:List (List Int)} {xs:List V},CLs H cs xs->xs.map (ng H)=(cs.map fun c=>((c.length:Nat):Int)).map V.int
 |_,_,.nil=>rfl
 |_,_,.cons ⟨tc,e,q⟩ h=>by
  subst e
  rw[List.map_cons,mh h,List.map_cons,List.map_cons]
  congr 1
  show (match H tc with
   |some (.tup zs)=>V.int (zs.length:Nat)
   |_=>.non)=_
  rw[q]
  show V.int ((List.map V.int _).length:Nat)=_
  rw[List.length_map]
theorem mi:∀ cs:List (List Int),(cs.map fun c=>((c.length:Nat):Int)).sum=((cs.map List.length).sum:Nat)
 |[]=>rfl
 |c::r=>by
  rw[List.map_cons,List.sum_cons,List.map_cons,List.sum_cons,mi r]
  omega
inductive rT (vs:List V)(H:Hp)(Q:VK):Prop
 |mk (p q:Addr)(t:Str)(xs:List V)(cs:List (List Int))(h0:vs=[.ref p])(h1:SentAt H p q t xs cs)(h2:Few t cs)(h3:bg t cs=none)(h4:∀ H',Same H H'->Q (.bl false) H'):rT vs H Q
def pJ:Sp:=fun vs H Q _=>rT vs H Q
inductive rV (p:Addr)(H:Hp)(i:Nat)(σ:St)(H2:Hp):Prop
 |mk (v1 v2:Option V)(h0:σ=[some (.ref p),v1,v2])(h1:Same H H2):rV p H i σ H2
theorem qM {H:Hp}{cs:List (List Int)}{zs:List V}{y:V}(h:dJ cs zs)(g:TupAt H zs y):∃ d,cP cs d/\RD H d y/\uU d:=by
 obtain⟨p,rfl,hp⟩:=g
 cases h with
 |drop i hi=>exact⟨_,.drop i hi,cB hp (aE (cC _) (aE (bi _) bL)),fun ds e=>by cases e;exact iJ⟩
 |unit i hi=>exact⟨_,.unit i hi,cB hp (aE (cC _) (aE (bi _) bL)),fun ds e=>by cases e;exact iK⟩
 |pure z=>exact⟨_,.pure z,cB hp (aE (cC _) (aE (bi _) bL)),fun ds e=>by cases e;exact iL⟩
 |within i j hi hj=>exact⟨_,.within i j hi hj,cB hp (aE (cC _) (aE (bi _) (aE (bi _) bL))),fun ds e=>by cases e;exact fu⟩
 |blocked i z hi=>exact⟨_,.blocked i z hi,cB hp (aE (cC _) (aE (bi _) (aE (bi _) bL))),fun ds e=>by cases e;exact eg⟩
section
variable {P:Program}{w:World}{K:PySem.W.Frag}{mg:Str->Option Value}{base:Heap}
theorem pK:ay ["_law_clauses"] ["_law_clauses"] (ai pH):=⟨rfl,rfl,rfl,by decide+kernel,rfl,by decide+kernel,by decide+kernel⟩
theorem qN {f:Addr}{fd:FuncData}(F:Fun K "_law_size" "_law_size" pH f fd)(T:vU mg):aY P w K mg base cu 1 f fd ["_law_clauses"] kP:=by
 have sc:=pK
 refine F.ok pK (fun vs H Q E h=>?_) (fun cdv A outer s H vs Q E hr h=>?_)
 ·obtain⟨q,xs,cs,rfl,_⟩:=h
  rfl
 obtain⟨q,xs,cs,rfl,hq,hcs,c400,c60,q'⟩:=h
 have hlen:=hcs.length
 refine⟨_,(ag (aj (aB b0 (ak aF rfl T.len PySem.boot_len (aa (pv 0) ad)) (ak (nR rfl) rfl T.sum PyProof.Rows.boot_sum (aa (aP (NY:=["_law_clause"]) (idx:=[none]) rfl ⟨by with_unfolding_all rfl,(by with_unfolding_all exact trivial),fun _=>by rfl,by rfl,by rfl,by rfl,by decide⟩ (aS (pv 0)) (fun _ _ _ _=>(ao (i:=0) (show List.Nodup (["_law_clause"]:List Str) by decide+kernel) rfl (Or.inl rfl))) (fun _ _ _ _=>bT) (fun _ _ _ _=>(ak (gY (K:=K) rfl) rfl T.len PySem.boot_len (aa (pv 0) ad)))) ad))))),?_⟩
 refine⟨_,rfl,.ref q,_,rfl,.inl ⟨_,SqL.of hq,rfl⟩,_,rfl,q,rfl,⟨_,SqL.of hq⟩,fun D nD=>?_⟩
 refine bD [] (fun _=>true) (ng H) rfl hq nD (by omega) (fun x hx H' R k r=>r) (fun x hx _ H' R k r=>?_) ?_
 ·obtain⟨i,hi,e⟩:=List.getElem_of_mem hx
  obtain⟨tc,hxi,htc,hm⟩:=cE (i:=i) hcs (by omega)
  rw[List.getElem?_eq_getElem hi,e] at hxi
  cases hxi
  have el:ng H (.ref tc)=.int ((cs.getD i []).length:Nat):=by
   show (match H tc with
    |some (.tup zs)=>V.int (zs.length:Nat)
    |_=>.non)=_
   rw[htc]
   show V.int ((List.map V.int _).length:Nat)=_
   rw[List.length_map]
  rw[el] at r
  refine⟨_,rfl,.ref tc,_,rfl,.inr ⟨_,SqT.of (k _ _ htc),rfl⟩,?_⟩
  rw[List.length_map]
  exact r
 ·have ef:(xs.filter fun _=>true).map (ng H)=(cs.map fun c=>((c.length:Nat):Int)).map V.int:=by
   rw[List.filter_eq_self.mpr fun _ _=>rfl,mh hcs]
  rw[ef]
  have k1:=af nD (.lst ((cs.map fun c=>((c.length:Nat):Int)).map V.int))
  have s1:upd H D (.lst ((cs.map fun c=>((c.length:Nat):Int)).map V.int)) D=some (.lst ((cs.map fun c=>((c.length:Nat):Int)).map V.int)):=ac
  generalize upd H D (.lst ((cs.map fun c=>((c.length:Nat):Int)).map V.int))=H1 at k1 s1 ⊢
  refine⟨D,_,rfl,SqL.of s1,_,_,rfl,rfl,?_⟩
  have e:((xs.length:Nat):Int)+(cs.map fun c=>((c.length:Nat):Int)).sum=(aX cs:Nat):=by
   rw[mi]
   unfold aX
   omega
  show Q (.int (((xs.length:Nat):Int)+(cs.map fun c=>((c.length:Nat):Int)).sum)) H1
  rw[e]
  exact q' _ k1
theorem pL:ay ["_law_sentence_here","_law_step","_law_behind_here"] ["_law_sentence_here"] (ai pI):=⟨rfl,rfl,rfl,by decide+kernel,rfl,by decide+kernel,by decide+kernel⟩
theorem qO {f g1 g2 g3:Addr}{fd e1 e2 e3:FuncData}(F:Fun K "_law_some" "_law_some" pI f fd)(G_law_tried:Fn P w K mg base 1 "_law_tried" g1 e1 ["_law_sentence_here"] lR)(G_law_behind:Fn P w K mg base 3 "_law_behind" g2 e2 ["_law_sentence_here","_law_step"] kG)(G_law_size:Fn P w K mg base 1 "_law_size" g3 e3 ["_law_clauses"] kP):aY P w K mg base cu 4 f fd ["_law_sentence_here"] pJ:=by
 have sc:=pL
 refine F.ok pL (fun vs H Q E h=>?_) (fun cdv A outer s H vs Q E hr h=>?_)
 ·obtain⟨p,q,t,xs,cs,rfl,_⟩:=h
  rfl
 obtain⟨p,q,t,xs,cs,rfl,S,Fw,hno,q'⟩:=h
 refine⟨_,(ae (bA PassesOwn.never rfl (aS (aw G_law_tried hr (by omega) rfl (aa (pv 0) ad))) (ao (i:=1) sc.nd rfl (Or.inl rfl))
   (ae (aC (i:=2) sc.nd rfl (Or.inl rfl) (aw G_law_behind hr (by omega) rfl (aa (pv 0) (aa (pv 1) ad))))
   (ag (aH (PW.pt (cX (am eF (pv 2) aW (ax _)) (cS (am fF (aw G_law_size hr (by omega) rfl (aa (pv 2) ad)) (aw G_law_size hr (by omega) rfl (aa (az ar (pv 0) ah (fun _ _=>rfl)) ad)) (ax _))))) (ag (aj de)) au))))
  (ag (aj de))),?_⟩
 refine⟨_,rfl,p,q,t,xs,cs,rfl,S.hp,S.cls,Fw.t8,Fw.many,Fw.c4,fun L ys H1 k1 sL yl g1=>⟨L,rfl,⟨_,SqL.of sL⟩,?_⟩⟩
 refine cb (K:=K) (a:=L) (xs:=ys) (rV p H1) ⟨none,none,rfl,Same.refl _⟩ ?_ ?_ ?_
 ·rintro i σ H2 _ ⟨_,_,_,k⟩
  exact SqL.of (k _ _ sL)
 ·rintro i y σ H2 hy ⟨v1,v2,rfl,k2⟩
  obtain⟨sz,gz,ga⟩:=g1 y (List.mem_of_getElem? hy)
  obtain⟨d,din,hdy,hsh⟩:=qM gz (ga.mono k2)
  have S2:=S.mono (k1.trans k2)
  refine cV ?_
  refine⟨_,rfl,_,rfl,p,q,t,xs,cs,y,d,rfl,S2.hp,S2.cls,fun c hc=>(Fw.ok c hc).1,hdy,din,fun v' H3 k3 r3=>?_⟩
  cases ea:aR t cs d with
  |none=>
   rw[ea] at r3
   have r3':v'=.non:=r3
   subst r3'
   refine⟨_,rfl,rfl,_,rfl,?_⟩
   rw[decide_eq_true rfl]
   exact aA (aA ⟨_,_,rfl,k2.trans k3⟩)
  |some ds=>
   rw[ea] at r3
   obtain⟨l,us,rfl,nl,hl,hc⟩:=r3
   have Fd:=Fw.after ea
   refine⟨_,rfl,rfl,_,rfl,?_⟩
   rw[decide_eq_false (fun z=>nomatch z)]
   refine aI ?_
   refine⟨_,rfl,l,us,ds,rfl,hl,hc,by have:=Fd.many;omega,fun c hc=>by have:=Fd.c4 c hc;omega,fun H4 k4=>?_⟩
   have S4:=S2.mono (k3.trans k4)
   refine⟨_,rfl,.inr (.inl ⟨p,_,1,.ref q,rfl,rfl,SqT.of S4.hp,rfl,q,xs,cs,rfl,S4.hq,S4.hcs,S4.hn,S4.hc,fun H5 k5=>?_⟩)⟩
   refine⟨_,_,rfl,rfl,_,rfl,wc ?_ ⟨_,_,rfl,k2.trans (k3.trans (k4.trans k5))⟩⟩
   have:=m8 Fw hno din ea
   omega
 ·rintro σ H2 ⟨v1,v2,rfl,k2⟩
  exact q' _ (k1.trans k2)
end
end K63
namespace K63
open PySem L2 OD
abbrev nh:Stmt:=cW 55
structure vV (mg:Str->Option Value):Prop where
 len:mg "len"=none
 list:mg "list"=none
 isinstance:mg "isinstance"=none
def mj (K:PySem.W.Frag):Sp:=fun vs H Q _=>∃ (a:Addr) (ns:List Int),vs=[.ref a]/\SqL K H a (ns.map V.int)/\ns.length<=63/\∀ H',Q (.bl true) H'
theorem mm (s:Nx):Nice 3 s.d:=by
 have two:∀ (x:Str) (i:Int),PyData.strOk x=true->Nice 3 (.tuple [.str x,.int i]):=fun x i h=>js fun d hd=>by
  rcases List.mem_cons.mp hd with rfl|hd
  ·exact cM 2 h
  ·rw[List.mem_singleton.mp hd];exact gr 2 _
 have three:∀ (x:Str) (i j:Int),PyData.strOk x=true->Nice 3 (.tuple [.str x,.int i,.int j]):=fun x i j h=>js fun d hd=>by
  rcases List.mem_cons.mp hd with rfl|hd
  ·exact cM 2 h
  rcases List.mem_cons.mp hd with rfl|hd
  ·exact gr 2 _
  ·rw[List.mem_singleton.mp hd];exact gr 2 _
 cases s with
 |unit i=>exact two _ _ (by decide+kernel)
 |drop i=>exact two _ _ (by decide+kernel)
 |pure z=>exact two _ _ (by decide+kernel)
 |within i j=>exact three _ _ _ (by decide+kernel)
 |blocked i z=>exact three _ _ _ (by decide+kernel)
theorem iS {H:Hp}:∀ {ss:List Nx} {ys:List V},StpsAt H ss ys->fh H (ss.map Nx.d) ys
 |_,_,.nil=>bL
 |_,_,.cons ⟨p,e,q⟩ h=>by subst e;exact aE (ij q) (iS h)
theorem pM {H:Hp}{ss:List Nx}{ys:List V}(h:StpsAt H ss ys):∀ {i:Nat} {y:V},ys[i]? =some y->∃ s,ss[i]? =some s/\∃ p:Addr,y=.ref p/\H p=some (.tup s.zs):=by
 induction h with
 |nil=>intro i y e;simp at e
 |cons r _ ih=>
  intro i y e
  cases i with
  |zero=>cases e;exact⟨_,rfl,r⟩
  |succ i=>exact ih e
theorem qP {t:Str}{ds:List (List Int)}{s:Nx}{r:List Nx}(F:Few t ds)(h:eB t ds=s::r):bg t ds=some s/\∃ es,aR t ds s.d=some es/\aX es < aX ds/\cP ds s.d/\r=eB t es:=by
 cases e:bg t ds with
 |none=>rw[jS e] at h;cases h
 |some s'=>
  obtain⟨hin,es,ha,hlt⟩:=cm F e
  rw[gH F e ha] at h
  cases h
  exact⟨rfl,es,ha,hlt,hin,rfl⟩
inductive u1 (a p p2 L:Addr)(t:Str)(ss:List Nx)(H0:Hp)(i:Nat)(σ:St)(H:Hp):Prop
 |mk (r q:Addr)(xs:List V)(ds:List (List Int))(v5 v6:Option V)(h0:σ=[some (.ref a),some (.ref p),some (.ref p2),some (.ref L),some (.ref r),v5,v6])(h1:Same H0 H)(h2:SentAt H r q t xs ds)(h3:Few t ds)(h4:eB t ds=ss.drop i):u1 a p p2 L t ss H0 i σ H
section
variable {P:Program}{w:World}{K:PySem.W.Frag}{mg:Str->Option Value}{base:Heap}
theorem rW:ay ["_law_script","_law_sentence_here","_law_handed","_law_steps","_law_current","_law_step","_law_behind_here"] ["_law_script"] (ai nh):=⟨rfl,rfl,rfl,by decide+kernel,rfl,by decide+kernel,by decide+kernel⟩
theorem tK {f f1 f2 f3 f4 f5 f6 f7:Addr}{fd d1 d2 d3 d4 d5 d6 d7:FuncData}(F:Fun K "law" "law" nh f fd)(T:vV mg)(G_law_sentence:Fn P w K mg base 2 "_law_sentence" f1 d1 ["_law_script","_law_most"] (oq K))(Gall_smaller:Fn P w K mg base 7 "all_smaller" f2 d2 ["sentence"] rQ)
  (G_law_behind:Fn P w K mg base 3 "_law_behind" f3 d3 ["_law_sentence_here","_law_step"] kG) (Gnext_step:Fn P w K mg base 5 "next_step" f4 d4 ["sentence"] (gE bg)) (G_law_size:Fn P w K mg base 1 "_law_size" f5 d5 ["_law_clauses"] kP) (Gsmaller_by:Fn P w K mg base 6 "smaller_by" f6 d6 ["sentence","step"] gG) (G_law_some:Fn P w K mg base 4 "_law_some" f7 d7 ["_law_sentence_here"] pJ):aY P w K mg base cu 8 f fd ["_law_script"] (mj K):=by
 have sc:=rW
 refine F.ok rW (fun vs H Q E h=>?_) (fun cdv A outer s H vs Q E hr h=>?_)
 ·obtain⟨a,ns,rfl,_⟩:=h
  rfl
 obtain⟨a,ns,rfl,hS,hl,q⟩:=h
 have hu:=hr.units
 refine⟨_,(ae (aC (i:=1) sc.nd rfl (Or.inl rfl) (aw G_law_sentence hr (by omega) rfl (aa (pv 0) (aa ah ad))))
  (ae (aC (i:=2) sc.nd rfl (Or.inl rfl) (bU (aa (az ar (pv 1) ah (fun _ _=>rfl)) (aa (b6 iq rfl T.list PyProof.Rows.boot_list (aa (az ar (pv 1) ah (fun _ _=>rfl)) ad)) ad))))
  (ae (aC (i:=3) sc.nd rfl (Or.inl rfl) (aw Gall_smaller hr (by omega) rfl (aa (pv 2) ad)))
  (ae (aH (PW.pt (b_ (bf (aK (ak bM rfl T.isinstance PyProof.Rows.boot_isinstance (aa (pv 3) (aa (dk (v:=.ty "list") rfl T.list PyProof.Rows.boot_list rfl) ad))))) (cg (am (cY hu) (pv 2) (pv 1) (ax _))))) (ag (aj de)) au)
  (ae (aH (PW.pt (cX (am fF (ak aF rfl T.len PySem.boot_len (aa (pv 3) ad)) ah (ax _)) (cS (am (cY hu) (aw Gall_smaller hr (by omega) rfl (aa (pv 2) ad)) (pv 3) (ax _))))) (ag (aj de)) au)
  (ae (aC (i:=4) sc.nd rfl (Or.inl rfl) (pv 1))
  (ae (bA PassesOwn.never rfl (aS (pv 3)) (ao (i:=5) sc.nd rfl (Or.inl rfl))
   (ae (aC (i:=6) sc.nd rfl (Or.inl rfl) (aw G_law_behind hr (by omega) rfl (aa (pv 4) (aa (pv 5) ad))))
   (ae (aH (PW.pt (b_ (am (cY hu) (aw Gnext_step hr (by omega) rfl (aa (pv 4) ad)) (pv 5) (ax _)) (b_ (am jY (pv 6) aW (ax _)) (cg (am nu (aw G_law_size hr (by omega) rfl (aa (pv 6) ad)) (aw G_law_size hr (by omega) rfl (aa (az ar (pv 4) ah (fun _ _=>rfl)) ad)) (ax _)))))) (ag (aj de)) au)
   (ae (aH (am (cY hu) (aw Gsmaller_by hr (by omega) rfl (aa (pv 4) (aa (pv 5) ad))) (bU (aa (az ar (pv 4) ah (fun _ _=>rfl)) (aa (pv 6) ad))) (ax _)) (ag (aj de)) au)
   (ag (aC (i:=4) sc.nd rfl (Or.inl rfl) (bU (aa (az ar (pv 4) ah (fun _ _=>rfl)) (aa (pv 6) ad)))))))))
  (ag (aj (dl (bB jY (aw Gnext_step hr (by omega) rfl (aa (pv 4) ad)) aW (ax _)) (dU (jU (aw G_law_some hr (by omega) rfl (aa (pv 4) ad)))))))))))))),?_⟩
 refine⟨_,rfl,a,ns,8,rfl,hS,hl,(by decide),(by decide),fun p t cs H1 k1 hd ok c4=>?_⟩
 have htl:=ok.len
 have Fw:Few t cs:=⟨ok.ws,by omega,by have:=ok.many;omega,fun c hc=>⟨(jw (n:=0) (ok.cl c hc).1).1,fun l hl=>⟨(ok.cl c hc).pos l hl,(ok.cl c hc).2 l hl⟩⟩,c4⟩
 obtain⟨pp,qa,zs,ep,h1,h2,h3⟩:=nX hd
 cases ep
 refine⟨_,rfl,.inr (.inl ⟨p,_,0,.str t,rfl,rfl,SqT.of h1,rfl,_,rfl,.inr (.inl ⟨p,_,1,.ref qa,rfl,rfl,SqT.of h1,rfl,qa,zs,rfl,.inl (SqL.of h2),fun q2 n2=>⟨(by show 2<=sizeLine;decide),fun p2 np2=>?_⟩⟩)⟩)⟩
 have j1:=af n2 (.lst zs)
 have s1:upd H1 q2 (.lst zs) q2=some (.lst zs):=ac
 have np2':upd H1 q2 (.lst zs) p2=none:=np2
 clear np2
 generalize upd H1 q2 (.lst zs)=H2 at j1 s1 np2' ⊢
 have j2:=af np2' (.tup [.str t,.ref q2])
 have s2:upd H2 p2 (.tup [.str t,.ref q2]) p2=some (.tup [.str t,.ref q2]):=ac
 have s1':=j2 _ _ s1
 have j12:=j1.trans j2
 show sf _ _ _ _ (upd H2 p2 (.tup [.str t,.ref q2]))
 generalize upd H2 p2 (.tup [.str t,.ref q2])=H3 at j2 s2 s1' j12 ⊢
 have S:SentAt H3 p2 q2 t zs cs:=Fw.at s2 s1' (h3.mono j12)
 have S0:SentAt H3 p qa t zs cs:=Fw.at (j12 _ _ h1) (j12 _ _ h2) (h3.mono j12)
 refine⟨_,rfl,p2,q2,t,zs,cs,rfl,S,Fw,fun L ys H4 k4 hL hss=>?_⟩
 have S4:=S.mono k4
 have S04:=S0.mono k4
 have hlen:(eB t cs).length=ys.length:=Paired.length hss
 refine⟨_,rfl,.ref L,_,"list",true,rfl,.lst hL,aU we,true,rfl,aA ?_⟩
 refine⟨_,rfl,_,rfl,eQ (eP S4.hp S4.hq S4.hcs) (eP S04.hp S04.hq S04.hcs) (fK ok.ws cs) ⟨false,rfl,aA ?_⟩⟩
 refine⟨_,rfl,.ref L,_,rfl,.inl ⟨_,SqL.of hL,rfl⟩,_,_,rfl,rfl,_,rfl,?_⟩
 by_cases h9:((ys.length:Nat):Int) < 9
 case' pos=>
  rw[decide_eq_true h9]
  refine aI ⟨_,rfl,p2,q2,t,zs,cs,rfl,S4,Fw,fun L5 ys5 H5 k5 hL5 hss5=>⟨_,rfl,?_⟩⟩
  refine eQ (ir hL5 (iS hss5)) (ir (k5 _ _ hL) (iS (hss.mono k5))) (Nice.shaped (Nice.mono (mM fun d hd=>?_) (by decide:4<=8))) ⟨false,rfl,aA ?_⟩
  ·obtain⟨s',_,rfl⟩:=List.mem_map.mp hd
   exact mm s'
  clear hL5 hss5
 case' neg=>
  rw[decide_eq_false h9]
  refine aA (aA ?_)
  obtain⟨H5,k5,e5⟩:∃ H5,Same H4 H5/\H4=H5:=⟨H4,Same.refl _,rfl⟩
  rw[e5]
  clear e5
 all_goals
  have S5:=S04.mono k5
  have hL5:=k5 _ _ hL
  have hs5:=hss.mono k5
  refine⟨_,rfl,_,rfl,L,rfl,⟨_,SqL.of hL5⟩,?_⟩
  refine cb (K:=K) (a:=L) (xs:=ys) (u1 a p p2 L t (eB t cs) H5) ⟨p,qa,zs,cs,none,none,rfl,Same.refl _,S5,Fw,rfl⟩ ?_ ?_ ?_
  ·rintro i σ H6 _ ⟨_,_,_,_,_,_,_,k,_⟩
   exact SqL.of (k _ _ hL5)
  ·rintro i y σ H6 hy ⟨r,qr,xs6,ds,v5,v6,rfl,k6,S6,F6,eall⟩
   have hi:i < (eB t cs).length:=by
    have:=(List.getElem?_eq_some_iff.mp hy).1
    omega
   obtain⟨s6,hs6,b,rfl,hb⟩:=pM (hs5.mono k6) hy
   rw[List.drop_eq_getElem_cons hi,(List.getElem?_eq_some_iff.mp hs6).2] at eall
   obtain⟨en,es,ha,hlt,hin,erest⟩:=qP F6 eall
   refine cV ?_
   refine⟨_,rfl,_,rfl,r,qr,t,xs6,ds,.ref b,s6.d,rfl,S6.hp,S6.cls,fun c hc=>(F6.ok c hc).1,ij hb,hin,fun v' H7 k7 r7=>?_⟩
   rw[ha] at r7
   obtain⟨l7,xs7,rfl,nl7,hl7,hc7⟩:=r7
   have S7:=S6.mono k7
   have F7:=F6.after ha
   refine⟨_,rfl,r,qr,t,xs6,ds,rfl,S7,fun c hc=>(F6.ok c hc).1,fun v8 H8 k8 r8=>?_⟩
   rw[en] at r8
   obtain⟨b8,rfl,hb8⟩:=r8
   have S8:=S7.mono k8
   refine⟨_,rfl,eQ (ij hb8) (ij (k8 _ _ (k7 _ _ hb))) (Nice.shaped ((mm s6).mono (by decide))) ⟨false,rfl,aA ?_⟩⟩
   refine⟨_,rfl,rfl,_,rfl,?_⟩
   rw[decide_eq_false (fun z=>nomatch z)]
   refine aA ?_
   have c400:es.length<=400:=by have:=F7.many;omega
   refine⟨_,rfl,l7,xs7,es,rfl,k8 _ _ hl7,hc7.mono k8,c400,fun c hc=>by have:=F7.c4 c hc;omega,fun H9 k9=>?_⟩
   have S9:=S8.mono k9
   refine⟨_,rfl,.inr (.inl ⟨r,_,1,.ref qr,rfl,rfl,SqT.of S9.hp,rfl,qr,xs6,ds,rfl,S9.hq,S9.hcs,S9.hn,S9.hc,fun H10 k10=>?_⟩)⟩
   refine⟨_,_,rfl,rfl,_,rfl,?_⟩
   rw[decide_eq_false (by omega)]
   refine aA ?_
   have S10:=S9.mono k10
   have k610:=k7.trans (k8.trans (k9.trans k10))
   have hl10:=k10 _ _ (k9 _ _ (k8 _ _ hl7))
   have hc10:=hc7.mono (k8.trans (k9.trans k10))
   refine⟨_,rfl,_,rfl,r,qr,t,xs6,ds,es,.ref b,s6.d,rfl,S10,ij (k610 _ _ hb),rP s6,ha,fun r11 l11 us H11 k11 _ hr11 hl11 hc11=>?_⟩
   have S11:=S10.mono k11
   refine⟨_,rfl,.inr (.inl ⟨r,_,0,.str t,rfl,rfl,SqT.of S11.hp,rfl,_,rfl,(by show 2<=sizeLine;decide),fun b12 nb12=>?_⟩)⟩
   have k12:=af nb12 (.tup [.str t,.ref l7])
   refine eQ (eP (k12 _ _ hr11) (k12 _ _ hl11) (hc11.mono k12)) (eP ac (k12 _ _ (k11 _ _ hl10)) (hc10.mono (k11.trans k12))) (fK ok.ws es) ⟨false,rfl,aA ?_⟩
   have S12:=S11.mono k12
   refine⟨_,rfl,.inr (.inl ⟨r,_,0,.str t,rfl,rfl,SqT.of S12.hp,rfl,_,rfl,(by show 2<=sizeLine;decide),fun b13 nb13=>?_⟩)⟩
   have k13:=af nb13 (.tup [.str t,.ref l7])
   have k613:=k610.trans (k11.trans (k12.trans k13))
   refine⟨b13,l7,xs7,es,_,_,rfl,k6.trans k613,F7.at ac ((k11.trans (k12.trans k13)) _ _ hl10) (hc10.mono (k11.trans (k12.trans k13))),F7,erest.symm⟩
  ·rintro σ H6 ⟨r,qr,xs6,ds,v5,v6,rfl,k6,S6,F6,eall⟩
   rw[List.drop_of_length_le (by omega)] at eall
   have en:bg t ds=none:=by
    cases e:bg t ds with
    |none=>rfl
    |some s'=>
     obtain⟨_,es,ha,_⟩:=cm F6 e
     rw[gH F6 e ha] at eall
     cases eall
   refine⟨_,rfl,r,qr,t,xs6,ds,rfl,S6,fun c hc=>(F6.ok c hc).1,fun v7 H7 k7 r7=>?_⟩
   rw[en] at r7
   have r7':v7=.non:=r7
   subst r7'
   refine⟨rfl,_,rfl,?_⟩
   rw[decide_eq_true rfl]
   exact aI ⟨_,rfl,r,qr,t,xs6,ds,rfl,S6.mono k7,F6,en,fun H8 k8=>⟨_,rfl,q _⟩⟩
end
end K63
namespace K63
open PySem L2 OD
theorem all_mk {l:PySem.W.OpenLaw}{w:World}{K:PySem.W.Frag}{h:Heap}{mg:Str->Option Value}{fa f1 f2 f3 f4 f5 f6 f7 f8 f9 f10 f11 f12 f13 f14 f15 f16 f17 f18 f19 f20 f21 f22 f23 f24 f25 f26 f27 f28 f29 f30 f31 f32 f33 f34 f35 f36 f37 f38 f39 f40 f41 f42 f43 f44:Addr}{e1 e2 e3 e4 e5 e6 e7 e8 e9 e10 e11 e12 e13 e14 e15 e16 e17 e18 e19 e20 e21 e22 e23 e24 e25 e26 e27 e28 e29 e30 e31 e32 e33 e34 e35 e36 e37 e38 e39 e40 e41 e42 e43 e44:FuncData}(X:K.In h)(G:h.Ns mainGlobals mg)(hfa:mg "law"=some (.ref fa))
  (a1:PySem.W.nsIn K mainGlobals "is_number"=some (some (.ref f1))) (F1:Fun K "is_number" "is_number" oy f1 e1)
  (a2:PySem.W.nsIn K mainGlobals "is_place"=some (some (.ref f2))) (F2:Fun K "is_place" "is_place" iE f2 e2)
  (a3:PySem.W.nsIn K mainGlobals "begins_with"=some (some (.ref f3))) (F3:Fun K "begins_with" "begins_with" tj f3 e3)
  (a4:PySem.W.nsIn K mainGlobals "hand_of"=some (some (.ref f4))) (F4:Fun K "hand_of" "hand_of" iD f4 e4)
  (a5:PySem.W.nsIn K mainGlobals "other_hand"=some (some (.ref f5))) (F5:Fun K "other_hand" "other_hand" kt f5 e5)
  (a6:PySem.W.nsIn K mainGlobals "variables_of"=some (some (.ref f6))) (F6:Fun K "variables_of" "variables_of" oQ f6 e6)
  (a7:PySem.W.nsIn K mainGlobals "dropped"=some (some (.ref f7))) (F7:Fun K "dropped" "dropped" gy f7 e7)
  (a8:PySem.W.nsIn K mainGlobals "clauses_behind"=some (some (.ref f8))) (F8:Fun K "clauses_behind" "clauses_behind" iM f8 e8)
  (a9:PySem.W.nsIn K mainGlobals "is_of"=some (some (.ref f9))) (F9:Fun K "is_of" "is_of" oA f9 e9)
  (a10:PySem.W.nsIn K mainGlobals "is_unit"=some (some (.ref f10))) (F10:Fun K "is_unit" "is_unit" iF f10 e10)
  (a11:PySem.W.nsIn K mainGlobals "holds_all"=some (some (.ref f11))) (F11:Fun K "holds_all" "holds_all" kh f11 e11)
  (a12:PySem.W.nsIn K mainGlobals "has_other_way"=some (some (.ref f12))) (F12:Fun K "has_other_way" "has_other_way" iG f12 e12)
  (a13:PySem.W.nsIn K mainGlobals "is_blocked"=some (some (.ref f13))) (F13:Fun K "is_blocked" "is_blocked" oB f13 e13)
  (a14:PySem.W.nsIn K mainGlobals "behind_drop"=some (some (.ref f14))) (F14:Fun K "behind_drop" "behind_drop" kj f14 e14)
  (a15:PySem.W.nsIn K mainGlobals "behind_unit"=some (some (.ref f15))) (F15:Fun K "behind_unit" "behind_unit" kl f15 e15)
  (a16:PySem.W.nsIn K mainGlobals "behind_within"=some (some (.ref f16))) (F16:Fun K "behind_within" "behind_within" ko f16 e16)
  (a17:PySem.W.nsIn K mainGlobals "behind_pure"=some (some (.ref f17))) (F17:Fun K "behind_pure" "behind_pure" kn f17 e17)
  (a18:PySem.W.nsIn K mainGlobals "behind_blocked"=some (some (.ref f18))) (F18:Fun K "behind_blocked" "behind_blocked" tq f18 e18)
  (a19:PySem.W.nsIn K mainGlobals "clauses_after"=some (some (.ref f19))) (F19:Fun K "clauses_after" "clauses_after" kq f19 e19)
  (a20:PySem.W.nsIn K mainGlobals "smaller_by"=some (some (.ref f20))) (F20:Fun K "smaller_by" "smaller_by" kr f20 e20)
  (a21:PySem.W.nsIn K mainGlobals "next_short"=some (some (.ref f21))) (F21:Fun K "next_short" "next_short" iP f21 e21)
  (a22:PySem.W.nsIn K mainGlobals "holders_of"=some (some (.ref f22))) (F22:Fun K "holders_of" "holders_of" lV f22 e22)
  (a23:PySem.W.nsIn K mainGlobals "next_pure"=some (some (.ref f23))) (F23:Fun K "next_pure" "next_pure" iQ f23 e23)
  (a24:PySem.W.nsIn K mainGlobals "fewest_holders"=some (some (.ref f24))) (F24:Fun K "fewest_holders" "fewest_holders" qI f24 e24)
  (a25:PySem.W.nsIn K mainGlobals "next_within"=some (some (.ref f25))) (F25:Fun K "next_within" "next_within" kK f25 e25)
  (a26:PySem.W.nsIn K mainGlobals "next_blocked"=some (some (.ref f26))) (F26:Fun K "next_blocked" "next_blocked" l_ f26 e26)
  (a27:PySem.W.nsIn K mainGlobals "next_step"=some (some (.ref f27))) (F27:Fun K "next_step" "next_step" kO f27 e27)
  (a28:PySem.W.nsIn K mainGlobals "all_smaller"=some (some (.ref f28))) (F28:Fun K "all_smaller" "all_smaller" tH f28 e28)
  (a29:PySem.W.nsIn K mainGlobals "_law_cell_at"=some (some (.ref f29))) (F29:Fun K "_law_cell_at" "_law_cell_at" og f29 e29)
  (a30:PySem.W.nsIn K mainGlobals "_law_mix"=some (some (.ref f30))) (F30:Fun K "_law_mix" "_law_mix" s0 f30 e30)
  (a31:PySem.W.nsIn K mainGlobals "_law_drawn"=some (some (.ref f31))) (F31:Fun K "_law_drawn" "_law_drawn" kd f31 e31)
  (a32:PySem.W.nsIn K mainGlobals "_law_sentence"=some (some (.ref f32))) (F32:Fun K "_law_sentence" "_law_sentence" oh f32 e32)
  (a33:PySem.W.nsIn K mainGlobals "_law_own"=some (some (.ref f33))) (F33:Fun K "_law_own" "_law_own" tz f33 e33)
  (a34:PySem.W.nsIn K mainGlobals "_law_dropped"=some (some (.ref f34))) (F34:Fun K "_law_dropped" "_law_dropped" kB f34 e34)
  (a35:PySem.W.nsIn K mainGlobals "_law_number"=some (some (.ref f35))) (F35:Fun K "_law_number" "_law_number" oV f35 e35)
  (a36:PySem.W.nsIn K mainGlobals "_law_ahead"=some (some (.ref f36))) (F36:Fun K "_law_ahead" "_law_ahead" kC f36 e36)
  (a37:PySem.W.nsIn K mainGlobals "_law_stand"=some (some (.ref f37))) (F37:Fun K "_law_stand" "_law_stand" kE f37 e37)
  (a38:PySem.W.nsIn K mainGlobals "_law_pure"=some (some (.ref f38))) (F38:Fun K "_law_pure" "_law_pure" kF f38 e38)
  (a39:PySem.W.nsIn K mainGlobals "_law_blocked"=some (some (.ref f39))) (F39:Fun K "_law_blocked" "_law_blocked" iN f39 e39)
  (a40:PySem.W.nsIn K mainGlobals "_law_behind"=some (some (.ref f40))) (F40:Fun K "_law_behind" "_law_behind" o9 f40 e40)
  (a41:PySem.W.nsIn K mainGlobals "_law_tried"=some (some (.ref f41))) (F41:Fun K "_law_tried" "_law_tried" kH f41 e41)
  (a42:PySem.W.nsIn K mainGlobals "_law_size"=some (some (.ref f42))) (F42:Fun K "_law_size" "_law_size" pH f42 e42)
  (a43:PySem.W.nsIn K mainGlobals "_law_some"=some (some (.ref f43))) (F43:Fun K "_law_some" "_law_some" pI f43 e43)
  (a44:PySem.W.nsIn K mainGlobals "law"=some (some (.ref f44))) (F44:Fun K "law" "law" nh f44 e44)
  (z0:PySem.W.nsIn K mainGlobals "len"=some none)
  (z1:PySem.W.nsIn K mainGlobals "range"=some none)
  (z2:PySem.W.nsIn K mainGlobals "tuple"=some none)
  (z3:PySem.W.nsIn K mainGlobals "sorted"=some none)
  (z4:PySem.W.nsIn K mainGlobals "isinstance"=some none)
  (z5:PySem.W.nsIn K mainGlobals "int"=some none)
  (z6:PySem.W.nsIn K mainGlobals "bool"=some none)
  (z7:PySem.W.nsIn K mainGlobals "list"=some none)
  (z8:PySem.W.nsIn K mainGlobals "all"=some none)
  (z9:PySem.W.nsIn K mainGlobals "enumerate"=some none)
  (z10:PySem.W.nsIn K mainGlobals "abs"=some none)
  (z11:PySem.W.nsIn K mainGlobals "any"=some none)
  (z12:PySem.W.nsIn K mainGlobals "max"=some none)
  (z13:PySem.W.nsIn K mainGlobals "min"=some none)
  (z14:PySem.W.nsIn K mainGlobals "sum"=some none)
  {tW tS:Tok} (zW:PySem.W.nsIn K mainGlobals "WISHER"=some (some (.str (Str.ofString "wisher") tW))) (zS:PySem.W.nsIn K mainGlobals "SPOILER"=some (some (.str (Str.ofString "spoiler") tS)))
  :∃ fd:FuncData,(∀ (s:Shared) (v:Value),BindsTo s fd ⟨[v],[]⟩ [("_law_script",v)])/\∀ base:Heap,K.In base->base.Ns mainGlobals mg->aY l.prog w K mg base cu 8 fa fd ["_law_script"] (mj K):=by
 have e:=hfa.symm.trans (PySem.W.mg_of X G a44)
 cases e
 have TG:u9 mg:=⟨PySem.W.mg_none_of X G z0,PySem.W.mg_none_of X G z1,PySem.W.mg_none_of X G z2,PySem.W.mg_none_of X G z3⟩
 have TH:vD mg:=⟨PySem.W.mg_none_of X G z0,⟨_,PySem.W.mg_of X G zW,⟨_,rfl⟩⟩,⟨_,PySem.W.mg_of X G zS,⟨_,rfl⟩⟩⟩
 have TP:vE mg:=⟨PySem.W.mg_none_of X G z4,PySem.W.mg_none_of X G z5,PySem.W.mg_none_of X G z6,PySem.W.mg_none_of X G z2,PySem.W.mg_none_of X G z7,PySem.W.mg_none_of X G z0,PySem.W.mg_none_of X G z8,PySem.W.mg_none_of X G z9⟩
 have TA:qp mg:=⟨PySem.W.mg_none_of X G z10,PySem.W.mg_none_of X G z0,PySem.W.mg_none_of X G z11,⟨_,PySem.W.mg_of X G zW,⟨_,rfl⟩⟩,⟨_,PySem.W.mg_of X G zS,⟨_,rfl⟩⟩⟩
 have TV:u_ mg:=⟨PySem.W.mg_none_of X G z10,PySem.W.mg_none_of X G z12,PySem.W.mg_none_of X G z2,PySem.W.mg_none_of X G z7,PySem.W.mg_none_of X G z0,PySem.W.mg_none_of X G z1⟩
 have TO:qy mg:=⟨PySem.W.mg_none_of X G z4,PySem.W.mg_none_of X G z5,PySem.W.mg_none_of X G z6,PySem.W.mg_none_of X G z2,PySem.W.mg_none_of X G z7,PySem.W.mg_none_of X G z10,PySem.W.mg_none_of X G z0,PySem.W.mg_none_of X G z12,PySem.W.mg_none_of X G z1⟩
 have TR1:uX mg:=⟨PySem.W.mg_none_of X G z0,PySem.W.mg_none_of X G z7,PySem.W.mg_none_of X G z1⟩
 have TN:tO mg:=⟨PySem.W.mg_none_of X G z10,PySem.W.mg_none_of X G z0,PySem.W.mg_none_of X G z9,PySem.W.mg_none_of X G z13,PySem.W.mg_none_of X G z7,PySem.W.mg_none_of X G z1,⟨_,PySem.W.mg_of X G zW,⟨_,rfl⟩⟩,⟨_,PySem.W.mg_of X G zS,⟨_,rfl⟩⟩⟩
 have TSz:vU mg:=⟨PySem.W.mg_none_of X G z0,PySem.W.mg_none_of X G z14⟩
 have TW:vV mg:=⟨PySem.W.mg_none_of X G z0,PySem.W.mg_none_of X G z7,PySem.W.mg_none_of X G z4⟩
 obtain⟨_,_,kV,dc,pm,an,cd,ct,_,rfl,_,_⟩:=F44.ex
 refine⟨PySem.W.fnOf "law" "law" (cG nh) (cn nh) (ai nh) .none kV dc pm an cd ct,fun s v=>.of_eq rfl,fun base _ _=>?_⟩
 have G1:=c8 l.prog w base X G a1 F1 F1.b1 (qo F1 TP)
 have G2:=c8 l.prog w base X G a2 F2 F2.b2 (mV F2 G1)
 have G3:=c8 l.prog w base X G a3 F3 F3.b3 (tp F3 TP)
 have G4:=c8 l.prog w base X G a4 F4 F4.b2 (mU F4 TH)
 have G5:=c8 l.prog w base X G a5 F5 F5.b1 (oT F5 TH)
 have G6:=c8 l.prog w base X G a6 F6 F6.b2 (qv F6 TV G4)
 have G7:=c8 l.prog w base X G a7 F7 F7.b3 (ku F7 TV G5 G6)
 have G8:=c8 l.prog w base X G a8 F8 F8.b2 (m4 F8 TV)
 have G9:=c8 l.prog w base X G a9 F9 F9.b3 (qq F9 TA G4)
 have G10:=c8 l.prog w base X G a10 F10 F10.b2 (mW F10 TA G9)
 have G11:=c8 l.prog w base X G a11 F11 F11.b2 (oG F11)
 have G12:=c8 l.prog w base X G a12 F12 F12.b3 (mY F12 TA)
 have G13:=c8 l.prog w base X G a13 F13 F13.b3 (qt F13 G12)
 have G14:=c8 l.prog w base X G a14 F14 F14.b2 (oJ F14 TA G2 G7)
 have G15:=c8 l.prog w base X G a15 F15 F15.b2 (oK F15 TA G2 G10 G8)
 have G16:=c8 l.prog w base X G a16 F16 F16.b3 (oM F16 TA G2 G11)
 have G17:=c8 l.prog w base X G a17 F17 F17.b2 (oN F17 TA G1 G9 G8)
 have G18:=c8 l.prog w base X G a18 F18 F18.b3 (tu F18 TA G2 G1 G9 G13)
 have G19:=c8 l.prog w base X G a19 F19 F19.b2 (oP F19 G3 G14 G15 G17 G16 G18)
 have G20:=c8 l.prog w base X G a20 F20 F20.b2 (nc F20 G19)
 have G21:=c8 l.prog w base X G a21 F21 F21.b1 (m9 F21 TN G10 G9)
 have G22:=c8 l.prog w base X G a22 F22 F22.b1 (qH F22 TN)
 have G23:=c8 l.prog w base X G a23 F23 F23.b1 (px F23)
 have G24:=c8 l.prog w base X G a24 F24 F24.b3 (tG F24 TN)
 have G25:=c8 l.prog w base X G a25 F25 F25.b2 (pB F25 TN G24 G11)
 have G26:=c8 l.prog w base X G a26 F26 F26.b2 (qL F26 TN G9 G13)
 have G27:=c8 l.prog w base X G a27 F27 F27.b1 (pG F27 G21 G22 G23 G25 G26)
 have G28:=c8 l.prog w base X G a28 F28 F28.b1 (tJ F28 G27 G20)
 have G29:=c8 l.prog w base X G a29 F29 F29.b2 (qj F29 TG)
 have G30:=c8 l.prog w base X G a30 F30 F30.b3 (ti F30)
 have G31:=c8 l.prog w base X G a31 F31 F31.b2 (ow F31 TG)
 have G32:=c8 l.prog w base X G a32 F32 F32.b2 (qm F32 TG G29 G30 G31)
 have G33:=c8 l.prog w base X G a33 F33 F33.b3 (tD F33 TO)
 have G34:=c8 l.prog w base X G a34 F34 F34.b3 (oY F34 TO G33)
 have G35:=c8 l.prog w base X G a35 F35 F35.b1 (qz F35 TO)
 have G36:=c8 l.prog w base X G a36 F36 F36.b2 (oZ F36 TO G35)
 have G37:=c8 l.prog w base X G a37 F37 F37.b2 (o6 F37 TO)
 have G38:=c8 l.prog w base X G a38 F38 F38.b3 (o8 F38 TO G35 G33)
 have G39:=c8 l.prog w base X G a39 F39 F39.b4 (m5 F39 TO G35 G33)
 have G40:=c8 l.prog w base X G a40 F40 F40.b2 (qB F40 TO G36 G39 G34 G33 G38 G37)
 have G41:=c8 l.prog w base X G a41 F41 F41.b1 (pd F41 TR1)
 have G42:=c8 l.prog w base X G a42 F42 F42.b1 (qN F42 TSz)
 have G43:=c8 l.prog w base X G a43 F43 F43.b1 (qO F43 G41 G40 G42)
 exact tK F44 TW G32 G28 G40 G27 G42 G20 G43
theorem walk {l:PySem.W.OpenLaw}{q:Program}{loose:List Str}{XP:(Str->Option Value)->Heap->Prop}{YP:World->Heap->Prop}{d:DefRec}{K:Params->PySem.W.Frag}(hn:l.most=some 63)(hdf:d.params.defaults=[])
  (hY:∀ (w:World) (h:Heap),YP w h->(K w.params).In h)
  (F:∀ (w:World) (mg:Str->Option Value) (fa:Addr) (h:Heap),(K w.params).In h->h.Ns mainGlobals mg->mg d.name=some (.ref fa)->
   ∃ fd:FuncData,(∀ (s:Shared) (u:Value),BindsTo s fd ⟨[u],[]⟩ [("_law_script",u)])/\∀ base:Heap,(K w.params).In base->base.Ns mainGlobals mg->aY l.prog w (K w.params) mg base cu 8 fa fd ["_law_script"] (mj (K w.params))):
  PySem.W.WalkO q loose XP YP l.row.toRowW d [] (fun f vs=>PySem.call f vs):=
 L2.walk_of (n:=63) (k:=8) (x:="_law_script") (CX:=fun _=>cu) (sp:=fun w=>mj (K w.params)) hn (by decide) hdf ⟨rfl,by decide,by decide⟩ hY F (fun _ _ a ns hl _ hS=>⟨a,ns,rfl,hS,hl,fun _=>rfl⟩) fun _ _ _ _ _ z=>z
end K63
open PySem PySem.W PySem.Calls PyProof.Rows
set_option maxRecDepth 100000
set_option maxHeartbeats 0
noncomputable def K63.vQ:Program:=view PySem.Challenge.pw_oathduel_k63_next_and_all [1,2,3,5,6,7,9,10,11,12,13,15,16,18,19,20,21,22,23,24,25,26,27,28,29,30,31,32,33,34,35,36,37,39,40,41,42,43,44,45,46,47,48,49,50,51,52,53,54,55]
theorem K63.said:OpenLaw.wellSaid PySem.Challenge.rw_oathduel_k63_next_and_all=true:=(congrFun Fast.te9446332074065402090 PySem.Challenge.rw_oathduel_k63_next_and_all).trans (by kernel_rfl)
theorem K63.seen (w:World)(os:OsState):HD.lookAt PySem.Challenge.pw_oathduel_k63_next_and_all 11 (some (.ref 6)) 2048 w os (HD.seenAt PySem.Challenge.pw_oathduel_k63_next_and_all K63.vQ [] (fun s=>xlAt K63.vQ [] s&&recOk [] s) true w)=some (true,openGood K63.vQ []):=by kernel_rfl
local macro_rules|`(tactic|o_head $H)=>`(tactic|refine HD.head (q:=K63.vQ) (loose:=[]) (lv:=[]) $H (N:=4096) (HD.left (by kernel_rfl) (fun s=>by kernel_rfl) (by kernel_rfl) (by kernel_rfl) (fun w=>by kernel_rfl) K63.seen (fun w os=>by kernel_rfl)) (by rfl) (by rfl) (by rfl) (by rfl) (by assumption) (by decide+kernel) ⟨rfl,rfl,rfl,rfl,rfl,by decide+kernel⟩ ?hw ?hc)
theorem PySem.Challenge.cw_oathduel_k63_next_and_all_holds : PySem.Challenge.rw_oathduel_k63_next_and_all.Holds := by
 w_on
 refine holds_law K63.said fun said=>?_
 k_head
 (case hw=>w_witness2)
 k_fill
 refine K63.walk (l:=PySem.Challenge.rw_oathduel_k63_next_and_all) rfl rfl (fun w h Y=>PySem.W.kIn_of Y) ?F
 case F=>
  intro w mg fa h KX G hmg
  refine' K63.all_mk KX G hmg ?a1 ?F1 ?a2 ?F2 ?a3 ?F3 ?a4 ?F4 ?a5 ?F5 ?a6 ?F6 ?a7 ?F7 ?a8 ?F8 ?a9 ?F9 ?a10 ?F10 ?a11 ?F11 ?a12 ?F12 ?a13 ?F13 ?a14 ?F14 ?a15 ?F15 ?a16 ?F16 ?a17 ?F17 ?a18 ?F18 ?a19 ?F19 ?a20 ?F20 ?a21 ?F21 ?a22 ?F22 ?a23 ?F23 ?a24 ?F24 ?a25 ?F25 ?a26 ?F26 ?a27 ?F27 ?a28 ?F28 ?a29 ?F29 ?a30 ?F30 ?a31 ?F31 ?a32 ?F32 ?a33 ?F33 ?a34 ?F34 ?a35 ?F35 ?a36 ?F36 ?a37 ?F37 ?a38 ?F38 ?a39 ?F39 ?a40 ?F40 ?a41 ?F41 ?a42 ?F42 ?a43 ?F43 ?a44 ?F44 ?z0 ?z1 ?z2 ?z3 ?z4 ?z5 ?z6 ?z7 ?z8 ?z9 ?z10 ?z11 ?z12 ?z13 ?z14 ?zW ?zS
  (case a1|a2|a3|a4|a5|a6|a7|a8|a9|a10|a11|a12|a13|a14|a15|a16|a17|a18|a19|a20|a21|a22|a23|a24|a25|a26|a27|a28|a29|a30|a31|a32|a33|a34|a35|a36|a37|a38|a39|a40|a41|a42|a43|a44|z0|z1|z2|z3|z4|z5|z6|z7|z8|z9|z10|z11|z12|z13|z14|zW|zS=>k_is)
  (case F1|F2|F3|F4|F5|F6|F7|F8|F9|F10|F11|F12|F13|F14|F15|F16|F17|F18|F19|F20|F21|F22|F23|F24|F25|F26|F27|F28|F29|F30|F31|F32|F33|F34|F35|F36|F37|F38|F39|F40|F41|F42|F43|F44=>refine' L2.fun_mk ?l ?c ?k;(case l=>k_is);(case c=>k_is);(case k=>k_is))
