import PyProof.Rows.All
import Wide.All
import OpenK.AllK
import PySem.Challenge.RW_formshift_k15_form_written
open Option renaming bind_some → aa, map_some → ae, some → aS
open List renaming getElem?_set_ne → af, mem_append_right → ah, length_cons → ai, getElem?_set_self → aj, mem_cons_of_mem → ak, length_append → au, getElem?_eq_some_iff → ax, mem_cons → ay, length_map → az, mem_cons_self → aB, size_toArray → aC, map_cons → aD, mem_append_left → aE, mem_append → aG, getElem?_map → aH, mem_singleton → aI, length_replicate → aJ, filterMap_cons → aM, append_nil → aO, length_drop → aP, append_assoc → aQ, lookup_cons → aR, getElem?_append_right → aT, length_singleton → aU, length_set → aV, mem_of_getElem? → aX, length_take → aZ, replicate → a8, getD_eq_getElem?_getD → a9, getElem?_append_left → ba, mem_filter → bc, nodup_cons → bh, flatMap_cons → bp, range → bq, mem_of_mem_drop → br, cons_append → bt, drop_eq_getElem_cons → bu, set_eq_of_length_le → bw, getElem?_eq_getElem → bx, getElem?_replicate → bA, all_eq_true → bC, nil_append → bE, range' → bH, idxOf_lt_length_iff → bJ, take_length → bK, set → bL, range'_succ → bM, getElem?_cons_succ → bN, filter_cons → bO, drop_length → bP, mem_map → bR, length_nil → bT, singleton_append → bU
open PySem renaming wpAny_bind → ag, wpAny_pure → aA, wpAny_newObj_type → bj, wpAny_field → bD, wpAny_holding → bI
open Nat renaming lt_of_lt_of_le → ao, le_refl → aq, lt_irrefl → aF, ne_of_lt → aK, le_trans → aL, zero_le → bf, le_of_succ_le → bo, lt_of_succ_lt → bB, ne_of_gt → bQ
open PySem.Heap renaming lt_size → av, get?_push_of_some → aw, get?_push_size → aN, size_push → bG, get?_update_other → bS
open Int renaming emod_lt_of_pos → aW, emod_nonneg → aY
open Array renaming getElem?_eq_none → bg, append_assoc → bz, length_toList → bF
local macro_rules | `(⋯) => `(by omega)
set_option compiler.extract_closed false
set_option genSizeOf false
set_option genInjectivity false
set_option Elab.async false
set_option linter.all false
set_option maxRecDepth 100000
namespace L2
open PySem PySem.Spec PyProof.Rows
noncomputable abbrev mX:=Sum Int Str
noncomputable def tM:mX->Value->Bool
 |.inl k,v=>Value.isInt k v
 |.inr x,v=>Value.isStrOf x v
noncomputable def wy (w:World):mX->Int
 |.inl k=>hashInt k
 |.inr x=>hashStr w x
theorem di:∀{k:mX}{v:Value},tM k v=true->(∃i t,k=Sum.inl i/\v=Value.int i t)\/(∃x t,k=Sum.inr x/\v=Value.str x t)
 | .inl i,v,h=>by
  obtain⟨t,e⟩:=Value.isInt_shape (k:=i) (v:=v) h;exact .inl ⟨i,t,rfl,e⟩
 | .inr x,v,h=>by
  obtain⟨t,e⟩:=Value.isStrOf_shape (x:=x) (v:=v) h;exact .inr ⟨x,t,rfl,e⟩
theorem uo (a b:Int):decide ((Sum.inl a:mX)=Sum.inl b)=(a==b):=by
 by_cases e:a=b
 ·subst e;simp
 ·have h:¬(Sum.inl a:mX)=Sum.inl b:=fun q=>e (Sum.inl.inj q);rw[decide_eq_false h];exact (beq_eq_false_iff_ne.mpr e).symm
theorem uj (a b:Str):decide ((Sum.inr a:mX)=Sum.inr b)=decide (a=b):=by
 by_cases e:a=b
 ·subst e;simp
 ·have h:¬(Sum.inr a:mX)=Sum.inr b:=fun q=>e (Sum.inr.inj q);rw[decide_eq_false h,decide_eq_false e]
theorem um (a:Int)(b:Str):decide ((Sum.inl a:mX)=Sum.inr b)=false:=decide_eq_false (fun q=>nomatch q)
theorem uk (a:Str)(b:Int):decide ((Sum.inr a:mX)=Sum.inl b)=false:=decide_eq_false (fun q=>nomatch q)
noncomputable def oj (prog:Program)(w:World):PySem.KeyKind prog w mX where
 is:=tM
 hash:=wy w
 inj:=fun v a b ha hb=>by
  rcases di ha with ⟨i,t,rfl,rfl⟩|⟨x,t,rfl,rfl⟩
  ·rcases di hb with ⟨j,u,rfl,e⟩|⟨y,u,rfl,e⟩
   ·injection e with e1 _;rw[e1]
   ·exact nomatch e
  ·rcases di hb with ⟨j,u,rfl,e⟩|⟨y,u,rfl,e⟩
   ·exact nomatch e
   ·injection e with e1 _;rw[e1]
 byValue:=fun k v h=>by
  rcases di h with ⟨i,t,rfl,rfl⟩|⟨x,t,rfl,rfl⟩ <;> rfl
 pyHash:=fun hv h=>by
  rcases di hv with ⟨i,t,rfl,rfl⟩|⟨x,t,rfl,rfl⟩
  ·exact wpAny_pyHash_int h
  ·exact wpAny_pyHash_str h
 eqBool:=fun hu hv h=>by
  rcases di hu with ⟨i,t,rfl,rfl⟩|⟨x,t,rfl,rfl⟩
  ·rcases di hv with ⟨j,u,rfl,rfl⟩|⟨y,u,rfl,rfl⟩
   ·rw[uo] at h;exact wpAny_eqBool_int h
   ·rw[um] at h;exact SeqAt.EqAt.int_str i t y u _ _ _ _ h
  ·rcases di hv with ⟨j,u,rfl,rfl⟩|⟨y,u,rfl,rfl⟩
   ·rw[uk] at h;exact SeqAt.EqAt.str_int x t j u _ _ _ _ h
   ·rw[uj] at h;exact wpAny_eqBool_str h
 «strs»:=fun k x t v h=>by
  rcases di h with ⟨i,u,rfl,e⟩|⟨y,u,rfl,e⟩
  ·exact nomatch e
  ·injection e with e1 _
   subst e1;cases v <;> rfl
end L2
namespace L2
open PySem PySem.Spec PyProof.Rows
inductive V where
 |non|bl (b:Bool)|int (i:Int)|str (x:Str)|byt (b:Array UInt8)|flt (b:UInt64)|ref (a:Addr)|ty (n:String)
 deriving DecidableEq
noncomputable def cI:V->Value->Prop
 |.non,u=>u=Value.none
 |.bl b,u=>u=Value.bool b
 |.int i,u=>∃t,u=Value.int i t
 |.str x,u=>∃t,u=Value.str x t
 |.byt b,u=>∃t,u=Value.bytes b t
 |.flt b,u=>∃t,u=Value.float b t
 |.ref a,u=>u=Value.ref a
 |.ty n,u=>u=Value.type n
noncomputable abbrev cA:List V->List Value->Prop:=Paired cI
theorem cA.length {xs:List V}{us:List Value}(r:cA xs us):xs.length=us.length:=Paired.length r
theorem cA.get:∀{xs:List V}{us:List Value}{i:Nat}{x:V},cA xs us->xs[i]?=some x->∃u,us[i]?=some u/\cI x u
 |_,_,_,_,.nil,e=>by simp at e
 |_,_,0,_,.cons r _,e=>by simp at e;subst e;exact⟨_,rfl,r⟩
 | _,_,i+1,x,.cons _ t,e=>by
  obtain⟨u,h1,h2⟩:=cA.get (i:=i) (x:=x) t (by simpa using e);exact⟨u,by simpa using h1,h2⟩
theorem cA.set {x:V}{u:Value}(r:cI x u):∀{xs:List V}{us:List Value} (i:Nat),cA xs us->cA (xs.set i x) (us.set i u)
 |_,_,_,.nil=>.nil
 |_,_,0,.cons _ t=>.cons r t
 |_,_,i+1,.cons q t=>.cons q (cA.set r i t)
theorem cA.append:∀{xs ys:List V}{us ws:List Value},cA xs us->cA ys ws->cA (xs++ys) (us++ws):=by
 intro xs ys us ws h s;induction h with
 |nil=>exact s
 |cons r t ih=>exact .cons r ih
theorem cA.take:∀{xs:List V}{us:List Value} (n:Nat),cA xs us->cA (xs.take n) (us.take n)
 |_,_,0,_=>.nil
 |_,_,_+1,.nil=>.nil
 |_,_,n+1,.cons r t=>.cons r (cA.take n t)
theorem cA.drop:∀{xs:List V}{us:List Value} (n:Nat),cA xs us->cA (xs.drop n) (us.drop n)
 |_,_,0,r=>r
 |_,_,_+1,.nil=>.nil
 |_,_,n+1,.cons _ t=>cA.drop n t
noncomputable def vV:Option V->Option Value->Prop
 |some v,some u=>cI v u
 |none,none=>True
 |_,_=>False
noncomputable def KV {κ:Type}:List (κ×V)->List (κ×Value)->Prop:=Paired fun (p:κ×V) (q:κ×Value)=>p.1=q.1/\cI p.2 q.2
noncomputable def kV:mX->V
 |.inl i=>.int i
 |.inr x=>.str x
inductive HO where
 |lst (xs:List V)
 |tup (xs:List V)
 |dK (kvs:List (mX×V))|dT (kvs:List (List mX×V))
 |set (S:Int->Bool) (n:Nat)
 |ins (C dx:Addr) (fs:List (Str×V))
 |own (x:Addr)
 |xd (fs:List (Str×V))
 |met (f x:Addr)
 |rng (lo hi:Int)
 |frz (o:Obj) (u:HO)
 |tbl (ps:Array Value)
 |ext (φ:Heap->Prop)
noncomputable abbrev Hp:=Addr->Option HO
noncomputable def cX (H:Hp)(a:Addr)(o:HO):Hp:=fun b=>if b=a then some o else H b
theorem cg {H:Hp}{a:Addr}{o:HO}:cX H a o a=some o:=by unfold cX;rw[if_pos rfl]
theorem bZ {H:Hp}{a b:Addr}{o:HO}(h:b≠a):cX H a o b=H b:=by unfold cX;rw[if_neg h]
theorem bV {H:Hp}{a b:Addr}{o:HO}(h:H a=some o)(h':H b=none):a≠b:=by
 intro e;subst e;rw[h] at h';cases h'
section
variable (P:Program)(w:World)
noncomputable def fk (H:Hp)(h:Heap)(a:Addr):HO->Prop
 |.lst xs=>xs.length<=sizeLine/\∃(its:List Value) (n:Nat),cA xs its/\h.get? a=some { cls:=.type "list", data:=.seq its.toArray n }
 |.tup xs=>xs.length<=sizeLine/\∃its:List Value,cA xs its/\IsTup h a its.toArray
 |.dK kvs=>kvs.length<=sizeLine/\(a==sysModules)=false/\∃vs,KV kvs vs/\h.DictOf (oj P w) a vs
 | .dT kvs=>kvs.length<=sizeLine/\(a==sysModules)=false/\∃xs:List (List mX×Addr×Value),
   Paired (fun (p:List mX×V) (q:List mX×Addr×Value)=>p.1=q.1/\H q.2.1=some (.tup (p.1.map kV))/\cI p.2 q.2.2) kvs xs ∧
   ∃o es ep,h.get? a=some o/\o.ExactDict/\o.data=.dict es ep/\es.toList=xs.map (entryOfKey (tupleKind (oj P w)))/\(xs.map (·.1)).Nodup
 |.set S n=>h.SetOf (intKind P w) a S n
 | .ins C dx fs=>H dx=some (.own a)/\fs.length<=1000/\dx≠a/\h.get? a=some (PySem.W.instObj C dx) ∧
   ∃mA,h.Ns1 dx mA/\(∀f,vV (fs.lookup f) (mA f))/\PySem.Within mA (fs.map (·.1))
 |.own _=>∃o,h.get? a=some o
 |.xd fs=>∃mA,h.Ns1 a mA/\∀f,vV (fs.lookup f) (mA f)
 |.rng lo hi=>∃t u v,h.get? a=some { cls:=.type "range", data:=.fields #[.int lo t,.int hi u,.int 1 v] }
 |.frz o u=>h.get? a=some o/\fk H h a u
 |.tbl ps=>h.get? a=some { cls:=.none,data:=.fields ps }
 |.met f x=>h.get? a=some (PySem.W.methodObj (.ref f) (.ref x))
 |.ext φ=>φ h/\(∃o,h.get? a=some o)/\∀h1 h2:Heap,φ h1->(∀o,h1.get? a=some o->h2.get? a=some o)->φ h2
def iq (H:Hp)(h:Heap):Prop:=∀a o,H a=some o->fk P w H h a o
end
section
variable {P:Program}{w:World}{H H':Hp}{h h':Heap}{a:Addr}{o:HO}
theorem fk.lt (x:fk P w H h a o):a<h.objs.size:=by
 cases o with
 |lst xs=>obtain⟨_,_,_,_,e⟩:=x;exact av e
 |tup xs=>obtain⟨_,_,_,p⟩:=x;exact p.lt
 |dK kvs=>obtain⟨_,_,_,_,o,_,_,e,_⟩:=x;exact av e
 |dT kvs=>obtain⟨_,_,_,_,o,_,_,e,_⟩:=x;exact av e
 |set S n=>obtain⟨o,_,_,_,e,_⟩:=x;exact av e
 |ins C dx fs=>obtain⟨_,_,_,e,_⟩:=x;exact av e
 |own y=>obtain⟨_,e⟩:=x;exact av e
 |xd fs=>obtain⟨_,⟨_,_,_,e,_⟩,_⟩:=x;exact av e
 |rng lo hi=>obtain⟨_,_,_,e⟩:=x;exact av e
 |frz ob u=>obtain⟨e,_⟩:=x;exact av e
 |tbl ps=>exact av (show h.get? a=some _ from x)
 |met f y=>exact av (show h.get? a=some _ from x)
 |ext φ=>obtain⟨_,⟨_,e⟩,_⟩:=x;exact av e
theorem Paired.mapP {α β:Type}{F G:α->β->Prop}:∀{l₁:List α}{l₂:List β},Paired F l₁ l₂->(∀a b,F a b->G a b)->Paired G l₁ l₂:=by
 intro l₁ l₂ h f;induction h with
 |nil=>exact .nil
 |cons r t ih=>exact .cons (f _ _ r) ih
theorem fk.stay (x:fk P w H h a o)(k:∀b u,(b=a\/H b=some (.own a))->h.get? b=some u->h'.get? b=some u)
  (ho:∀b,H b=some (.own a)->H' b=some (.own a)) (ht:∀b xs,H b=some (.tup xs)->H' b=some (.tup xs)):fk P w H' h' a o:=by
 induction o with
 |lst xs=>obtain⟨z,its,n,r,e⟩:=x;exact⟨z,its,n,r,k _ _ (.inl rfl) e⟩
 |tup xs=>obtain⟨z,its,r,ob,e,c⟩:=x;exact⟨z,its,r,ob,k _ _ (.inl rfl) e,c⟩
 |dK kvs=>obtain⟨z,y,vs,r,ob,es,ep,e,c⟩:=x;exact⟨z,y,vs,r,ob,es,ep,k _ _ (.inl rfl) e,c⟩
 |dT kvs =>
  obtain⟨z,y,xs,r,ob,es,ep,e,c⟩:=x;exact⟨z,y,xs,Paired.mapP r fun p q z=>⟨z.1,ht _ _ z.2.1,z.2.2⟩,ob,es,ep,k _ _ (.inl rfl) e,c⟩
 |set S n=>obtain⟨ob,es,ep,t,e,c⟩:=x;exact⟨ob,es,ep,t,k _ _ (.inl rfl) e,c⟩
 |ins C dx fs =>
  obtain⟨d,z,ne,e,mA,⟨od,es,ep,e2,c⟩,r⟩:=x;exact⟨ho _ d,z,ne,k _ _ (.inl rfl) e,mA,⟨od,es,ep,k _ _ (.inr d) e2,c⟩,r⟩
 |own y=>obtain⟨ob,e⟩:=x;exact⟨ob,k _ _ (.inl rfl) e⟩
 |xd fs=>obtain⟨mA,⟨od,es,ep,e,c⟩,r⟩:=x;exact⟨mA,⟨od,es,ep,k _ _ (.inl rfl) e,c⟩,r⟩
 |rng lo hi=>obtain⟨t,u,v,e⟩:=x;exact⟨t,u,v,k _ _ (.inl rfl) e⟩
 |frz ob u ih=>obtain⟨e,q⟩:=x;exact⟨k _ _ (.inl rfl) e,ih q⟩
 |tbl ps =>
  have e:h.get? a=some { cls:=.none,data:=.fields ps }:=x;show h'.get? a=some { cls:=.none,data:=.fields ps };exact k a _ (.inl rfl) e
 |met f y =>
  have e:h.get? a=some (PySem.W.methodObj (.ref f) (.ref y)):=x;show h'.get? a=some (PySem.W.methodObj (.ref f) (.ref y));exact k a _ (.inl rfl) e
 |ext φ=>obtain⟨p,⟨o,e⟩,st⟩:=x;exact⟨st _ _ p fun o q=>k _ _ (.inl rfl) q,⟨o,k _ _ (.inl rfl) e⟩,st⟩
theorem iq.lt (x:iq P w H h)(e:H a=some o):a<h.objs.size:=(x a o e).lt
theorem iq.fresh (x:iq P w H h)(e:h.objs.size<=a):H a=none:=by
 cases q:H a with
 |none=>rfl
 |some u=>exact absurd (ao (x.lt q) e) (aF _)
theorem iq.kept (x:iq P w H h)(k:∀b u,h.get? b=some u->h'.get? b=some u):iq P w H h':=fun a o e =>
 (x a o e).stay (fun b u _ q=>k b u q) (fun _ q=>q) fun _ _ q=>q
theorem iq.laid (x:iq P w H h)(k:∀b u,h.get? b=some u->h'.get? b=some u)(hp:h.objs.size<=a)(new:fk P w (cX H a o) h' a o):iq P w (cX H a o) h':=fun b u e=>by
 have hn:=x.fresh hp;by_cases hb:b=a
 ·subst hb;rw[cg] at e;cases e;exact new
 ·rw[bZ hb] at e;exact (x b u e).stay (fun c v _ q=>k c v q) (fun c q=>by rw[bZ (bV q hn)];exact q) fun c xs q=>by rw[bZ (bV q hn)];exact q
end
def Rd (H:Hp)(a:Addr)(u:HO):Prop:=H a=some u\/∃o,H a=some (.frz o u)
theorem Rd.ok {P:Program}{w:World}{H:Hp}{h:Heap}{a:Addr}{u:HO}(r:Rd H a u)(x:iq P w H h):fk P w H h a u:=by
 rcases r with r|⟨o,r⟩
 ·exact x a u r
 ·obtain⟨_,q⟩:=x a _ r;exact q
noncomputable def v5:Option HO->Prop
 |some (.lst _)=>True
 |some (.dK _)=>True
 |some (.dT _)=>True
 |some (.set _ _)=>True
 |some (.ins _ _ _)=>True
 |some (.ext _)=>True
 |_=>False
section
variable {P:Program}{w:World}{H:Hp}{h h':Heap}{x e:Addr}{o':HO}
theorem iq.write (ok:iq P w H h)(mu:v5 (H x))(he:e=x\/H e=some (.own x))(k:∀b u,b≠e->h.get? b=some u->h'.get? b=some u)(heo:∃u,h'.get? e=some u)
  (new:fk P w (cX H x o') h' x o'):iq P w (cX H x o') h':=fun b u q=>by
 have nown:∀c y,H c=some (.own y)->c≠x:=fun c y r z=>by subst z;rw[r] at mu;exact mu
 have ntup:∀c xs,H c=some (.tup xs)->c≠x:=fun c xs r z=>by subst z;rw[r] at mu;exact mu
 by_cases hb:b=x
 ·subst hb;rw[cg] at q;cases q;exact new
 ·rw[bZ hb] at q;by_cases hbe:b=e
  ·have q':H b=some (.own x):=by
    rcases he with z|z
    ·exact absurd (hbe.trans z) hb
    ·rw[hbe];exact z
   rw[q] at q';cases q';obtain⟨v,hv⟩:=heo;exact⟨v,by rw[hbe];exact hv⟩
  ·refine (ok b u q).stay (fun c v hc r=>k c v ?_ r) (fun c r=>by rw[bZ (nown c b r)];exact r) fun c xs r=>by rw[bZ (ntup c xs r)];exact r
   rcases hc with rfl|hc
   ·exact hbe
   ·rintro rfl;rcases he with z|z
    ·exact nown c b hc z
    ·rw[hc] at z;cases z;exact hb rfl
end
structure Un (fs ex:List Addr)(H H':Hp)(h h':Heap):Prop where
 keep:∀b o,h.get? b=some o->H b=none->b∉fs->b∉ex->h'.get? b=some o
 slot:∀b o,h.get? b=some o->H b=none->b∈fs->b∉ex->∃sl,h'.get? b=some { o with slots:=sl }
 free:∀b o,h.get? b=some o->H b=none->b∉ex->H' b=none
 there:∀b o,h.get? b=some o->b∉ex->∃o',h'.get? b=some o'
 tups:∀b xs,H b=some (.tup xs)->H' b=some (.tup xs)
 frzs:∀b o u,H b=some (.frz o u)->H' b=some (.frz o u)
 tbls:∀b ps,H b=some (.tbl ps)->∃more,H' b=some (.tbl (ps++more))
section
variable {fs fs' ex ex':List Addr}{H H1 H2:Hp}{h h1 h2 h':Heap}{a x e:Addr}{o:HO}
theorem Un.any (u:Un fs ex H H1 h h1){b:Addr}{ob:Obj}(q:h.get? b=some ob)(n:H b=none)(hx:b∉ex):∃sl,h1.get? b=some { ob with slots:=sl }:=by
 by_cases hb:b∈fs
 ·exact u.slot b ob q n hb hx
 ·exact⟨ob.slots,u.keep b ob q n hb hx⟩
theorem Un.trans (a:Un fs ex H H1 h h1)(b:Un fs ex H1 H2 h1 h2):Un fs ex H H2 h h2 where
 keep:=fun c ob q n hc hx=>b.keep c ob (a.keep c ob q n hc hx) (a.free c ob q n hx) hc hx
 slot:=fun c ob q n hc hx=>by
  obtain⟨sl,e1⟩:=a.slot c ob q n hc hx;obtain⟨sl',e2⟩:=b.slot c _ e1 (a.free c ob q n hx) hc hx;exact⟨sl',e2⟩
 free:=fun c ob q n hx=>by
  obtain⟨o',e1⟩:=a.there c ob q hx;exact b.free c o' e1 (a.free c ob q n hx) hx
 there:=fun c ob q hx=>by
  obtain⟨o',e1⟩:=a.there c ob q hx;exact b.there c o' e1 hx
 tups:=fun c xs q=>b.tups c xs (a.tups c xs q)
 frzs:=fun c ob xs q=>b.frzs c ob xs (a.frzs c ob xs q)
 tbls:=fun c ps q=>by
  obtain⟨m1,e1⟩:=a.tbls c ps q;obtain⟨m2,e2⟩:=b.tbls c _ e1;exact⟨m1++m2,by rw[e2,bz]⟩
theorem Un.kept (k:∀b u,h.get? b=some u->h'.get? b=some u):Un fs ex H H h h' :=
 ⟨fun b ob q _ _ _=>k b ob q,fun b ob q _ _ _=>⟨ob.slots,k b ob q⟩,fun _ _ _ n _=>n,fun b ob q _=>⟨ob,k b ob q⟩,fun _ _ q=>q,fun _ _ _ q=>q,fun _ ps q=>⟨#[],by rw[q];simp⟩⟩
theorem Un.refl:Un fs ex H H h h:=Un.kept fun _ _ q=>q
theorem Un.laid (k:∀b u,h.get? b=some u->h'.get? b=some u)(hp:h.objs.size<=a)(hn:H a=none):Un fs ex H (cX H a o) h h' where
 keep:=fun b u q _ _ _=>k b u q
 slot:=fun b u q _ _ _=>⟨u.slots,k b u q⟩
 free:=fun b u q n _=>by rw[bZ (aK (ao (av q) hp))];exact n
 there:=fun b u q _=>⟨u,k b u q⟩
 tups:=fun b xs q=>by rw[bZ (bV q hn)];exact q
 frzs:=fun b u xs q=>by rw[bZ (bV q hn)];exact q
 tbls:=fun b ps q=>⟨#[],by rw[bZ (bV q hn),q];simp⟩
theorem Un.write (mu:v5 (H x))(he:e=x\/H e=some (.own x))(k:∀b u,b≠e->h.get? b=some u->h'.get? b=some u)(heo:∃u,h'.get? e=some u):Un fs ex H (cX H x o) h h':=by
 have hx:∀b,H b=none->b≠x:=fun b n z=>by subst z;rw[n] at mu;exact mu
 have hb:∀b,H b=none->b≠e:=fun b n z=>by
  subst z;rcases he with r|r
  ·exact hx b n r
  ·rw[n] at r;cases r
 have hm:∀b u,H b=some u->¬v5 (some u)->b≠x:=fun b u q nm z=>by subst z;rw[q] at mu;exact nm mu
 refine⟨fun b u q n _ _=>k b u (hb b n) q,fun b u q n _ _=>⟨u.slots,k b u (hb b n) q⟩,fun b u q n _=>by rw[bZ (hx b n)];exact n,fun b u q _=>?_,
  fun b xs q=>by rw[bZ (hm b _ q fun z=>z)];exact q,fun b u xs q=>by rw[bZ (hm b _ q fun z=>z)];exact q,fun b ps q=>⟨#[],by rw[bZ (hm b _ q fun z=>z),q];simp⟩⟩
 by_cases hbe:b=e
 ·subst hbe;exact heo
 ·exact⟨u,k b u hbe q⟩
end
noncomputable def tY (h:Heap)(H:Hp):List Addr:=(bq h.objs.size).filter fun a=>(H a).isSome
noncomputable def lO (h:Heap)(H:Hp):Heap:=PySem.W.hideAll h (tY h H)
theorem pD (h:Heap)(H:Hp):(lO h H).objs.size=h.objs.size:=PySem.W.hideAll_size _ _
theorem qU {h:Heap}{H:Hp}{b:Addr}{o:Obj}(e:h.get? b=some o)(n:H b=none):(lO h H).get? b=some o :=
 PySem.W.hideAll_get _ e fun hm=>by
  have q:(H b).isSome=true:=(bc.mp hm).2;rw[n] at q;simp at q
theorem si {h:Heap}{H:Hp}{b:Addr}{o:Obj}(e:(lO h H).get? b=some o):h.get? b=some o/\H b=none:=by
 have e':h.get? b=some o:=PySem.W.of_hideAll (tY h H) e;refine⟨e',?_⟩;cases q:H b with
 |none=>rfl
 |some x =>
  have hm:b∈tY h H:=bc.mpr ⟨List.mem_range.mpr (av e'),by simp[q]⟩;have z:(lO h H).get? b=none:=PySem.W.hideAll_none (tY h H) hm;rw[z] at e;cases e
noncomputable def tE (g h:Heap)(L:Addr):List (Addr×Obj):=(bq h.objs.size).filterMap fun a=>if a=L\/(g.get? a).isSome=true then none else (h.get? a).map fun o=>(a,o)
noncomputable def de (g h:Heap)(L d:Addr):List (Addr×Obj):=(tE g h L).filter fun p=>decide (p.1≠d)
end L2
namespace L2
open PySem PySem.Spec PyProof.Rows
structure Mod (K:PySem.W.Frag)(mg:Str->Option Value)(base:Heap):Prop where
 kin:K.In base
 glob:base.Ns mainGlobals mg
 blt:∃mb,base.Ns builtinsNs mb/\∀x:Str,x ≠ "__name__" ->mb x=bootBuiltins x
 nolimit:base.NoLimit
structure Cx where
 prog:Program
 w:World
 K:PySem.W.Frag
 mg:Str->Option Value
 base:Heap
 A:Around
 N:List Str
 s₀:Shared
 H₀:Hp
 env:Env
 outer:List Env
 stack:List Env
 ex:List Addr
 fn:Str->Bool
 calm:Bool
 pn:List (Addr×Obj)
 xe:Value->Shared->Prop
noncomputable def frs (l:List Env):List Addr:=l.filterMap (·.frame)
noncomputable abbrev Cx.fs (X:Cx):List Addr:=frs X.outer
def Vis (sc:Scope)(x:Str):Prop:=sc.names.lookup x=some .local\/sc.names.lookup x=some .cell\/sc.names.lookup x=some .free
def Loc (sc:Scope)(x:Str):Prop:=sc.names.lookup x=some .local\/sc.names.lookup x=some .cell
noncomputable def vW (env:Env)(h:Heap)(m:Str->Option Value)(x:Str)(u:Value):Prop :=
 (env.kindOf x=some .local/\m x=some u)\/((env.kindOf x=some .cell\/env.kindOf x=some .free)/\∃c,env.cells.lookup x=some c/\h.IsCell c (some u))
structure Cx.Ok (X:Cx):Prop where
 mod:Mod X.K X.mg X.base
 kind:X.env.scope.kind=.function
 glob:X.env.globals=mainGlobals
 blt:X.env.builtins=builtinsNs
 above:X.s₀.heap.objs.size<=X.env.locals
 inj:∀x y c,X.env.cells.lookup x=some c->X.env.cells.lookup y=some c->x=y
 has:∀x,(X.env.kindOf x=some .cell\/X.env.kindOf x=some .free)->∃c,X.env.cells.lookup x=some c
 cab:∀x c,X.fn x=true->X.env.cells.lookup x=some c->X.s₀.heap.objs.size<=c
 hd:X.calm=true->X.A.handled=none
 frames:X.A.frames=some X.stack
 stk:X.stack=X.outer\/(X.stack=X.env::X.outer/\X.env.frame=some X.env.locals)
 exf:∀b∈X.ex,b≠X.env.locals/\∀x c,X.env.cells.lookup x=some c->c≠b
 bs:∀b o,X.base.get? b=some o->X.s₀.heap.get? b=some o/\X.H₀ b=none
 bsz:X.base.objs.size<=X.s₀.heap.objs.size
 noex:∀b o,X.base.get? b=some o->b∉X.ex
 exfs:∀b∈X.ex,b∉X.fs
 funs:X.s₀.heap.FunFrames X.base X.outer
 frf:∀b∈X.fs,X.H₀ b=none
structure Inv (X:Cx)(pins:List (Addr×Obj))(σ:List (Option V))(H:Hp)(s:Shared):Prop where
 ok:X.Ok
 os:s.os=X.s₀.os
 bare:AllBare s.gens
 base:Un X.fs X.ex X.H₀ H X.s₀.heap s.heap
 loc:∃m,s.heap.Ns X.env.locals m/\∀(i:Nat) (x:Str) (v:V),X.N[i]?=some x->σ[i]?=some (some v)->Vis X.env.scope x->∃u,cI v u/\vW X.env s.heap m x u
 cell:∀x c,X.env.cells.lookup x=some c->∃v,s.heap.IsCell c v
 free:H X.env.locals=none
 freeC:∀x c,X.env.cells.lookup x=some c->H c=none
 pin:∀p∈X.pn++pins,s.heap.get? p.1=some p.2/\H p.1=none/\p.1≠X.env.locals/\p.1∉X.fs/\∀v,p.2.data≠.cell v
 hok:iq X.prog X.w H s.heap
 len:σ.length=X.N.length
section
variable {X:Cx}{pins:List (Addr×Obj)}{σ:List (Option V)}{H H':Hp}{s:Shared}{h':Heap}
theorem Cx.Ok.nofr (ok:X.Ok){b:Addr}{o:Obj}(e:X.base.get? b=some o):b∉X.fs:=fun hb=>by
 have:=(ok.funs.mem hb).1;rw[e] at this;cases this
theorem Inv.bs (I:Inv X pins σ H s):∀b o,X.base.get? b=some o->s.heap.get? b=some o/\H b=none:=fun b o e =>
 ⟨I.base.keep b o (I.ok.bs b o e).1 (I.ok.bs b o e).2 (I.ok.nofr e) (I.ok.noex b o e),I.base.free b o (I.ok.bs b o e).1 (I.ok.bs b o e).2 (I.ok.noex b o e)⟩
theorem Inv.bk (I:Inv X pins σ H s):∀b o,X.base.get? b=some o->s.heap.get? b=some o:=fun b o e=>(I.bs b o e).1
theorem Inv.mod (I:Inv X pins σ H s):Mod X.K X.mg X.base:=I.ok.mod
theorem Inv.kIn (I:Inv X pins σ H s):X.K.In s.heap:=I.ok.mod.kin.keeps I.bk
theorem Inv.nolimit (I:Inv X pins σ H s):s.heap.NoLimit:=I.ok.mod.nolimit.keeps I.bk
theorem Inv.lt (I:Inv X pins σ H s):X.env.locals<s.heap.objs.size:=let ⟨_,hn,_⟩:=I.loc;hn.lt
theorem Inv.sz (I:Inv X pins σ H s):X.s₀.heap.objs.size<=s.heap.objs.size:=aL I.ok.above (Nat.le_of_lt I.lt)
theorem Inv.nofs (I:Inv X pins σ H s){a:Addr}(h:s.heap.objs.size<=a):a∉X.fs:=fun hb=>by
 obtain⟨_,o,ho,_⟩:=I.ok.funs.mem hb;exact absurd (ao (av ho) (aL I.sz h)) (aF _)
theorem Inv.cne (I:Inv X pins σ H s):∀x c,X.env.cells.lookup x=some c->c≠X.env.locals:=fun x c e z=>by
 obtain⟨v,o,ho,hd⟩:=I.cell x c e;obtain⟨m,⟨o',es,ep,ho',hd',_⟩,_⟩:=I.loc;rw[z,ho'] at ho;cases ho;rw[hd'] at hd;cases hd
theorem Inv.funs (I:Inv X pins σ H s):s.heap.FunFrames X.base X.outer:=by
 have all:∀(l:List Env),(∀b∈frs l,b∈X.fs)->X.s₀.heap.FunFrames X.base l->s.heap.FunFrames X.base l:=by
  intro l;induction l with
  |nil=>intro _ _;trivial
  |cons env r ih =>
   intro hs hl;obtain⟨hk,⟨L,o,hf,hn,ho,hd⟩,hr⟩:=hl;have hL:L∈X.fs:=hs L (by unfold frs;rw[aM,hf];exact aB);obtain⟨sl,e⟩:=I.base.slot L o ho (I.ok.frf L hL) hL fun z=>I.ok.exfs L z hL;exact⟨hk,⟨L,_,hf,hn,e,hd⟩,ih (fun b hb=>hs b (by unfold frs;rw[aM,hf];exact ak _ hb)) hr⟩
 exact all X.outer (fun _ hb=>hb) I.ok.funs
theorem Inv.stack (I:Inv X pins σ H s):s.heap.FunFrames X.base X.stack:=by
 rcases I.ok.stk with e|⟨e,hf⟩
 ·rw[e];exact I.funs
 ·rw[e];obtain⟨m,hn,_⟩:=I.loc;refine .cons (by rw[I.ok.kind];decide) hf hn ?_ I.funs;exact Heap.get?_none_of_le (aL I.ok.bsz I.ok.above)
theorem Inv.stkSub (I:Inv X pins σ H s):∀b∈frs X.stack,b∈X.env.locals::X.fs:=fun b hb=>by
 rcases I.ok.stk with e|⟨e,hf⟩
 ·rw[e] at hb;exact ak _ hb
 ·rw[e] at hb;unfold frs at hb;rw[aM,hf] at hb;exact hb
theorem Inv.stkFree (I:Inv X pins σ H s):∀b∈frs X.stack,H b=none:=fun b hb=>by
 rcases ay.mp (I.stkSub b hb) with e|hb
 ·rw[e];exact I.free
 ·obtain⟨_,o,ho,_⟩:=I.ok.funs.mem hb;exact I.base.free b o ho (I.ok.frf b hb) fun z=>I.ok.exfs b z hb
theorem Inv.step {g':Array GenState}{t':Nat}{d':Drawn}{ch:List Addr}(I:Inv X pins σ H s)
  (hch:∀b∈ch,(b∈X.ex\/X.s₀.heap.objs.size<=b)/\b≠X.env.locals/\(∀x c,X.env.cells.lookup x=some c->c≠b)/\∀p∈X.pn++pins,p.1≠b)
  (keep:∀b o,b≠X.env.locals->b∉X.fs->b∉ch->s.heap.get? b=some o->H b=none->h'.get? b=some o)
  (slot:∀b o,b≠X.env.locals->b∈X.fs->b∉ch->s.heap.get? b=some o->H b=none->∃sl,h'.get? b=some { o with slots:=sl }) (free:∀b o,b∉ch->s.heap.get? b=some o->H b=none->H' b=none)
  (there:∀b o,b∉ch->s.heap.get? b=some o->∃o',h'.get? b=some o')
  (tups:∀b xs,H b=some (.tup xs)->H' b=some (.tup xs)) (frzs:∀b o u,H b=some (.frz o u)->H' b=some (.frz o u)) (tbls:∀b ps,H b=some (.tbl ps)->∃more,H' b=some (.tbl (ps++more)))
  (ns:∀m,s.heap.Ns X.env.locals m->h'.Ns X.env.locals m) (hok:iq X.prog X.w H' h') (hg:AllBare g') :
  Inv X pins σ H' { s with heap:=h',gens:=g',drawn:=d',toks:=t' }:=by
 have neL:∀b o,X.s₀.heap.get? b=some o->b≠X.env.locals:=fun b o e=>aK (ao (av e) I.ok.above);have neC:∀b o,X.s₀.heap.get? b=some o->b∉X.ex->b∉ch:=fun b o e hx hb=>by
  rcases (hch b hb).1 with z|z
  ·exact hx z
  ·exact absurd (ao (av e) z) (aF _)
 have cellK:∀x c,X.env.cells.lookup x=some c->∀v,s.heap.IsCell c v->h'.IsCell c v:=fun x c e v zz=>by
  obtain ⟨o,ho,hd⟩:=zz;have nch:c∉ch:=fun z=>(hch c z).2.2.1 x c e rfl;by_cases hc:c∈X.fs
  ·obtain⟨sl,q⟩:=slot c o (I.cne x c e) hc nch ho (I.freeC x c e);exact⟨_,q,hd⟩
  ·exact⟨o,keep c o (I.cne x c e) hc nch ho (I.freeC x c e),hd⟩
 refine⟨I.ok,I.os,hg,⟨fun b o e n hb hx=>?_,fun b o e n hb hx=>?_,fun b o e n hx=>?_,fun b o e hx=>?_,fun b xs e=>tups b xs (I.base.tups b xs e),fun b o xs e=>frzs b o xs (I.base.frzs b o xs e),fun b ps e=>?_⟩,?_,fun x c e=>?_,?_,fun x c e=>?_,fun p hp=>?_,hok,I.len⟩
 ·exact keep b o (neL b o e) hb (neC b o e hx) (I.base.keep b o e n hb hx) (I.base.free b o e n hx)
 ·obtain⟨sl,e1⟩:=I.base.slot b o e n hb hx;obtain⟨sl',e2⟩:=slot b _ (neL b o e) hb (neC b o e hx) e1 (I.base.free b o e n hx);exact⟨sl',e2⟩
 ·obtain⟨o',e1⟩:=I.base.there b o e hx;exact free b o' (neC b o e hx) e1 (I.base.free b o e n hx)
 ·obtain⟨o',e1⟩:=I.base.there b o e hx;exact there b o' (neC b o e hx) e1
 ·obtain⟨m1,e1⟩:=I.base.tbls b ps e;obtain⟨m2,e2⟩:=tbls b _ e1;exact⟨m1++m2,by rw[e2,bz]⟩
 ·obtain⟨m,hn,hl⟩:=I.loc;refine⟨m,ns m hn,fun i x v e1 e2 e3=>?_⟩;obtain⟨u,r,l⟩:=hl i x v e1 e2 e3;refine⟨u,r,?_⟩;rcases l with l|⟨k,c,e,z⟩
  ·exact .inl l
  ·exact .inr ⟨k,c,e,cellK x c e _ z⟩
 ·obtain⟨v,z⟩:=I.cell x c e;exact⟨v,cellK x c e v z⟩
 ·obtain⟨m,⟨o,_,_,ho,_⟩,_⟩:=I.loc;exact free _ o (fun z=>(hch _ z).2.1 rfl) ho I.free
 ·obtain⟨v,o,ho,hd⟩:=I.cell x c e;exact free c o (fun z=>(hch c z).2.2.1 x c e rfl) ho (I.freeC x c e)
 ·obtain⟨e,n,ne,nf,d⟩:=I.pin p hp;have nch:p.1∉ch:=fun z=>(hch p.1 z).2.2.2 p hp rfl;exact⟨keep p.1 p.2 ne nf nch e n,free p.1 p.2 nch e n,ne,nf,d⟩
theorem Inv.un {t':Nat}(I:Inv X pins σ H s)(u:Un X.fs [] H H' s.heap h')(hok:iq X.prog X.w H' h'):Inv X pins σ H' { s with heap:=h',toks:=t' }:=by
 obtain⟨m,⟨o,es,ep,ho,r⟩,_⟩:=id I.loc;obtain⟨sl,hL⟩:=u.any ho I.free (by simp);exact I.step (g':=s.gens) (d':=s.drawn) (ch:=[]) (fun _ z=>nomatch z) (fun b o _ hb _ e n=>u.keep b o e n hb (by simp)) (fun b o _ hb _ e n=>u.slot b o e n hb (by simp)) (fun b o _ e n=>u.free b o e n (by simp)) (fun b o _ e=>u.there b o e (by simp)) u.tups u.frzs u.tbls (fun m' hm=>by
  obtain⟨o',es',ep',ho',r'⟩:=hm;rw[ho] at ho';cases ho';exact⟨_,es',ep',hL,r'⟩) hok I.bare
theorem Inv.call {g':Array GenState}{t':Nat}{d':Drawn}{ch:List Addr}(I:Inv X pins σ H s)(u:Un (frs X.stack) ch H H' s.heap h')(hok:iq X.prog X.w H' h')(hg:AllBare g')
  (hch:∀b∈ch,(b∈X.ex\/X.s₀.heap.objs.size<=b)/\b≠X.env.locals/\(∀x c,X.env.cells.lookup x=some c->c≠b)/\∀p∈X.pn++pins,p.1≠b) :
  Inv X pins σ H' { s with heap:=h',gens:=g',drawn:=d',toks:=t' }:=by
 obtain⟨m,⟨o,es,ep,ho,r⟩,_⟩:=id I.loc;obtain⟨sl,hL⟩:=u.any ho I.free fun z=>(hch _ z).2.1 rfl;exact I.step (ch:=ch) hch (fun b o hL hb hc e n=>u.keep b o e n (fun z=>(ay.mp (I.stkSub b z)).elim hL hb) hc) (fun b o _ _ hc e n=>u.any e n hc) (fun b o hc e n=>u.free b o e n hc) (fun b o hc e=>u.there b o e hc) u.tups u.frzs u.tbls (fun m' hm=>by
  obtain⟨o',es',ep',ho',r'⟩:=hm;rw[ho] at ho';cases ho';exact⟨_,es',ep',hL,r'⟩) hok hg
theorem Inv.turned {t':Nat}{it:Addr}(I:Inv X pins σ H s)(k:∀b o,b≠it->s.heap.get? b=some o->h'.get? b=some o)(hn:H it=none)(hL:it≠X.env.locals)
  (h1:it∈X.ex\/X.s₀.heap.objs.size<=it) (h2:∀x c,X.env.cells.lookup x=some c->c≠it) (h3:∀p∈X.pn++pins,p.1≠it):Inv X pins σ H { s with heap:=h',toks:=t' }:=by
 have nit:∀b u,H b=some u->b≠it:=fun b u e z=>by rw[z,hn] at e;cases e
 refine I.step (g':=s.gens) (d':=s.drawn) (ch:=[it]) (fun b hb=>?_) (fun b o _ _ hc e _=>k b o (fun z=>hc (by simp[z])) e) (fun b o _ _ hc e _=>⟨o.slots,k b o (fun z=>hc (by simp[z])) e⟩) (fun _ _ _ _ n=>n)
  (fun b o hc e=>⟨o,k b o (fun z=>hc (by simp[z])) e⟩) (fun _ _ e=>e) (fun _ _ _ e=>e) (fun b ps e=>⟨#[],by rw[e];simp⟩) (fun m hm=>?_) (fun b u e=>?_) I.bare
 ·have e:b=it:=by simpa using hb
  subst e;exact⟨h1,hL,h2,h3⟩
 ·obtain⟨o,es,ep,ho,r⟩:=hm;exact⟨o,es,ep,k _ o (Ne.symm hL) ho,r⟩
 ·refine (I.hok b u e).stay (fun c v hc q=>k c v ?_ q) (fun _ q=>q) fun _ _ q=>q;rcases hc with z|z
  ·rw[z];exact nit b u e
  ·exact nit c _ z
theorem Inv.tok (I:Inv X pins σ H s)(t:Nat):Inv X pins σ H { s with toks:=t }:=I.un (h':=s.heap) (t':=t) Un.refl I.hok
theorem Inv.kept {t':Nat}(I:Inv X pins σ H s)(k:∀b u,s.heap.get? b=some u->h'.get? b=some u):Inv X pins σ H { s with heap:=h',toks:=t' }:=I.un (Un.kept k) (I.hok.kept k)
theorem Inv.laid {a:Addr}{o:HO}{t':Nat}(I:Inv X pins σ H s)(k:∀b u,s.heap.get? b=some u->h'.get? b=some u)(hp:s.heap.objs.size<=a)(new:fk X.prog X.w (cX H a o) h' a o) :
  Inv X pins σ (cX H a o) { s with heap:=h',toks:=t' }:=I.un (Un.laid k hp (I.hok.fresh hp)) (I.hok.laid k hp new)
theorem Inv.write {x e:Addr}{o:HO}{t':Nat}(I:Inv X pins σ H s)(mu:v5 (H x))(he:e=x\/H e=some (.own x))(k:∀b u,b≠e->s.heap.get? b=some u->h'.get? b=some u)(heo:∃u,h'.get? e=some u)
  (new:fk X.prog X.w (cX H x o) h' x o):Inv X pins σ (cX H x o) { s with heap:=h',toks:=t' }:=I.un (Un.write mu he k heo) (I.hok.write mu he k heo new)
theorem Inv.pins_of {pins':List (Addr×Obj)}(I:Inv X pins σ H s)(h:∀p∈pins',s.heap.get? p.1=some p.2/\H p.1=none/\p.1≠X.env.locals/\p.1∉X.fs/\∀v,p.2.data≠.cell v):Inv X pins' σ H s :=
 ⟨I.ok,I.os,I.bare,I.base,I.loc,I.cell,I.free,I.freeC,fun p hp=>(aG.mp hp).elim (fun z=>I.pin p (aE _ z)) (h p),I.hok,I.len⟩
theorem mv {N:List Str}(hN:N.Nodup){i j:Nat}{x:Str}(a:N[i]?=some x)(b:N[j]?=some x):i=j:=by
 obtain⟨h1,e1⟩:=ax.mp a;obtain⟨h2,e2⟩:=ax.mp b;exact (List.getElem_inj hN).mp (e1.trans e2.symm)
theorem o9 {M:Model}{A:Around}{E:Value->Shared->Prop}{i:Nat}{x:Str}{v:V}{u:Value}{Q:Unit->Shared->Prop}(I:Inv X pins σ H s)(hN:X.N.Nodup)(hi:X.N[i]?=some x)(hx:Loc X.env.scope x)(r:cI v u)
  (h:∀s',Inv X pins (σ.set i (some v)) H s'->(∃a,Heap.SameBut a s.heap s'.heap/\(a=X.env.locals\/X.env.cells.lookup x=some a))->Q () s') (hf:X.fn x=true\/X.env.scope.names.lookup x=some .local:=by first|exact .inl rfl|exact .inr rfl|assumption):wpAny M A (storeName X.env x u) Q E s:=by
 obtain⟨m,hn,hl⟩:=id I.loc;have hcls:(X.env.scope.kind==.class||(X.env.scope.kind==.module&&X.env.locals != X.env.globals))=false:=by rw[I.ok.kind];rfl
 have hiσ:i<σ.length:=by rw[I.len];exact (ax.mp hi).1
 have cne:=I.cne;have tracked:∀{a:Addr}{h':Heap},(∃o,s.heap.get? a=some o/\H a=none)->Heap.SameBut a s.heap h'->iq X.prog X.w H h':=fun {a h'} ha hs b ob e=>by
  obtain⟨_,_,hfree⟩:=ha;refine (I.hok b ob e).stay (fun c w' hc q=>(hs.2 c ?_).trans q) (fun _ q=>q) fun _ _ q=>q;rintro rfl;rcases hc with rfl|hc
  ·rw[hfree] at e;cases e
  ·rw[hfree] at hc;cases hc
 rcases hx with hk|hk
 ·refine wpAny_storeName_local hk hn (fun h' hn' hs=>?_) hcls;obtain⟨oL,_,_,hoL,_⟩:=id hn;refine h _ ⟨I.ok,I.os,I.bare,⟨fun b o e n hb hx=>?_,fun b o e n hb hx=>?_,I.base.free,fun b o e hx=>?_,I.base.tups,I.base.frzs,I.base.tbls⟩,⟨_,hn',fun j y v' e1 e2 e3=>?_⟩,fun y c e=>?_,I.free,I.freeC,fun p hp=>?_,tracked ⟨oL,hoL,I.free⟩ hs,by simpa using I.len⟩ ⟨_,hs,.inl rfl⟩
  ·exact (hs.2 b (aK (ao (av e) I.ok.above))).trans (I.base.keep b o e n hb hx)
  ·obtain⟨sl,e1⟩:=I.base.slot b o e n hb hx;exact⟨sl,(hs.2 b (aK (ao (av e) I.ok.above))).trans e1⟩
  ·obtain⟨o',e1⟩:=I.base.there b o e hx;exact⟨o',(hs.2 b (aK (ao (av e) I.ok.above))).trans e1⟩
  ·by_cases hj:j=i
   ·subst hj;rw[hi] at e1;cases e1;rw[aj hiσ] at e2;cases e2;exact⟨u,r,.inl ⟨hk,by simp⟩⟩
   ·rw[af (Ne.symm hj)] at e2;obtain⟨u',r',q⟩:=hl j y v' e1 e2 e3;refine⟨u',r',?_⟩;rcases q with ⟨k,e⟩|⟨k,c,e,z⟩
    ·refine .inl ⟨k,?_⟩;have:y≠x:=fun e=>hj (mv hN e1 (e▸hi));simp[this,e]
    ·exact .inr ⟨k,c,e,z.sameBut hs (cne y c e)⟩
  ·obtain⟨w',z⟩:=I.cell y c e;exact⟨w',z.sameBut hs (cne y c e)⟩
  ·obtain⟨e,n,ne,nf,d⟩:=I.pin p hp;exact⟨(hs.2 p.1 ne).trans e,n,ne,nf,d⟩
 ·have hfn:X.fn x=true:=by
   rcases hf with z|z
   ·exact z
   ·rw[z] at hk;cases hk
  obtain⟨c,hc⟩:=I.ok.has x (.inl hk);obtain⟨w',z⟩:=I.cell x c hc;refine wpAny_storeName_cell I.ok.kind hk hc z (fun h' hc' hs=>?_);obtain⟨oc,hoc,hocd⟩:=id z;refine h { s with heap:=h' } ⟨I.ok,I.os,I.bare,⟨fun b o e n hb hx=>?_,fun b o e n hb hx=>?_,I.base.free,fun b o e hx=>?_,I.base.tups,I.base.frzs,I.base.tbls⟩,⟨m,hn.sameBut hs (Ne.symm (cne x c hc)),fun j y v' e1 e2 e3=>?_⟩,fun y c' e=>?_,I.free,I.freeC,fun p hp=>?_,tracked ⟨oc,hoc,I.freeC x c hc⟩ hs,by simpa using I.len⟩ ⟨c,hs,.inr hc⟩
  ·exact (hs.2 b (aK (ao (av e) (I.ok.cab x c hfn hc)))).trans (I.base.keep b o e n hb hx)
  ·obtain⟨sl,e1⟩:=I.base.slot b o e n hb hx;exact⟨sl,(hs.2 b (aK (ao (av e) (I.ok.cab x c hfn hc)))).trans e1⟩
  ·obtain⟨o',e1⟩:=I.base.there b o e hx;exact⟨o',(hs.2 b (aK (ao (av e) (I.ok.cab x c hfn hc)))).trans e1⟩
  ·by_cases hj:j=i
   ·subst hj;rw[hi] at e1;cases e1;rw[aj hiσ] at e2;cases e2;exact⟨u,r,.inr ⟨.inl hk,c,hc,hc'⟩⟩
   ·rw[af (Ne.symm hj)] at e2;obtain⟨u',r',q⟩:=hl j y v' e1 e2 e3;refine⟨u',r',?_⟩;rcases q with q|⟨k,c',e,z'⟩
    ·exact .inl q
    ·refine .inr ⟨k,c',e,z'.sameBut hs ?_⟩;rintro rfl;exact hj (mv hN e1 (I.ok.inj _ _ _ e hc▸hi))
  ·by_cases hcc:c'=c
   ·subst hcc;exact⟨_,hc'⟩
   ·obtain⟨w2,z2⟩:=I.cell y c' e;exact⟨w2,z2.sameBut hs hcc⟩
  ·obtain⟨e,n,ne,nf,d⟩:=I.pin p hp;refine⟨(hs.2 p.1 ?_).trans e,n,ne,nf,d⟩;intro q;rw[q,hoc] at e;have q':oc=p.2:=aS.inj e;exact d w' (by rw[<-q'];exact hocd)
theorem store_ok {M:Model}{A:Around}{E:Value->Shared->Prop}{i:Nat}{x:Str}{v:V}{u:Value}{Q:Unit->Shared->Prop}(I:Inv X pins σ H s)(hN:X.N.Nodup)(hi:X.N[i]?=some x)(hx:Loc X.env.scope x)(r:cI v u)
  (h:∀s',Inv X pins (σ.set i (some v)) H s'->Q () s') (hf:X.fn x=true\/X.env.scope.names.lookup x=some .local:=by first|exact .inl rfl|exact .inr rfl|assumption):wpAny M A (storeName X.env x u) Q E s :=
 o9 I hN hi hx r (fun s' I' _=>h s' I') hf
theorem Inv.call' {s':Shared}{ch:List Addr}(I:Inv X pins σ H s)(ho:s'.os=s.os)(u:Un (frs X.stack) ch H H' s.heap s'.heap)(hok:iq X.prog X.w H' s'.heap)(hg:AllBare s'.gens)
  (hch:∀b∈ch,(b∈X.ex\/X.s₀.heap.objs.size<=b)/\b≠X.env.locals/\(∀x c,X.env.cells.lookup x=some c->c≠b)/\∀p∈X.pn++pins,p.1≠b):Inv X pins σ H' s':=by
 obtain⟨h',g',d',t',o'⟩:=s';have e:o'=s.os:=ho;subst e;exact I.call (g':=g') (t':=t') (d':=d') u hok hg hch
end
noncomputable abbrev XK:=Value->Option Addr->Hp->Prop
noncomputable abbrev St:=List (Option V)
noncomputable abbrev VK:=V->Hp->Prop
noncomputable abbrev TE:=St->Hp->VK->Prop
noncomputable abbrev TT:=St->Hp->(Bool->Hp->Prop)->Prop
noncomputable abbrev TA:=St->Hp->(List V->Hp->Prop)->Prop
structure c7 where
 nx:St->Hp->Prop
 rt:VK
 bk:St->Hp->Prop:=fun _ _=>False
 ct:St->Hp->Prop:=fun _ _=>False
noncomputable abbrev TS:=c7->St->Hp->Prop
def EP (X:Cx)(pins:List (Addr×Obj))(σ:St)(Q:VK)(u:Value)(s':Shared):Prop:=∃v H',Inv X pins σ H' s'/\cI v u/\Q v H'
def TP (X:Cx)(pins:List (Addr×Obj))(σ:St)(Q:Bool->Hp->Prop)(b:Bool)(s':Shared):Prop:=∃H',Inv X pins σ H' s'/\Q b H'
def AP (X:Cx)(pins:List (Addr×Obj))(σ:St)(Q:List V->Hp->Prop)(us:List Value)(s':Shared):Prop:=∃vs H',Inv X pins σ H' s'/\cA vs us/\Q vs H'
noncomputable def SP (X:Cx)(pins:List (Addr×Obj))(D:c7)(f:Flow)(s':Shared):Prop :=
 match f with
 |.next=>∃σ' H',Inv X pins σ' H' s'/\D.nx σ' H'
 |.brk=>∃σ' H',Inv X pins σ' H' s'/\D.bk σ' H'
 |.cont=>∃σ' H',Inv X pins σ' H' s'/\D.ct σ' H'
 |.ret u=>∃v σ' H',Inv X pins σ' H' s'/\cI v u/\D.rt v H'
noncomputable def PE (X:Cx)(e:Expr)(t:TE):Prop :=
 ∀(pins:List (Addr×Obj)) (s:Shared) (σ:St) (H:Hp) (Q:VK),Inv X pins σ H s->t σ H Q->wpAny (model X.prog X.w) X.A (eval e X.env) (EP X pins σ Q) X.xe s
noncomputable def PT (X:Cx)(e:Expr)(t:TT):Prop :=
 ∀(pins:List (Addr×Obj)) (s:Shared) (σ:St) (H:Hp) (Q:Bool->Hp->Prop),Inv X pins σ H s->t σ H Q->wpAny (model X.prog X.w) X.A (isTrue e X.env (eval e X.env)) (TP X pins σ Q) X.xe s
noncomputable def PW (X:Cx)(e:Expr)(t:TT):Prop :=
 ∀(whole:Sem Value) (pins:List (Addr×Obj)) (s:Shared) (σ:St) (H:Hp) (Q:Bool->Hp->Prop),Inv X pins σ H s->t σ H Q->wpAny (model X.prog X.w) X.A (isTrue e X.env whole) (TP X pins σ Q) X.xe s
noncomputable def PA (X:Cx)(es:List Expr)(t:TA):Prop :=
 ∀(pos:Pos) (pins:List (Addr×Obj)) (s:Shared) (σ:St) (H:Hp) (Q:List V->Hp->Prop),Inv X pins σ H s->t σ H Q->wpAny (model X.prog X.w) X.A (spliced (backTo pos (starEach es X.env))) (AP X pins σ Q) X.xe s
noncomputable def PS (X:Cx)(st:Stmt)(t:TS):Prop :=
 ∀(pins:List (Addr×Obj)) (s:Shared) (σ:St) (H:Hp) (D:c7),Inv X pins σ H s->t D σ H->wpAny (model X.prog X.w) X.A (exec st X.env) (SP X pins D) X.xe s
noncomputable def PSs (X:Cx)(st:List Stmt)(t:TS):Prop :=
 ∀(pins:List (Addr×Obj)) (s:Shared) (σ:St) (H:Hp) (D:c7),Inv X pins σ H s->t D σ H->wpAny (model X.prog X.w) X.A (execs st X.env) (SP X pins D) X.xe s
theorem thn {α:Type}{t:Sem α}{Q Q':α->Shared->Prop}{M:Model}{A:Around}{E:Value->Shared->Prop}{s:Shared}(h:wpAny M A t Q E s)(hQ:∀a s,Q a s->Q' a s):wpAny M A t Q' E s:=wpAny_mono h hQ fun _ _ x=>x
end L2
namespace L2
open PySem PySem.Spec PyProof.Rows
section
variable {X:Cx}
noncomputable def v9 (i:Nat):TE:=fun σ H Q=>∃v,σ[i]?=some (some v)/\Q v H
noncomputable def tC (v:V):TE:=fun _ H Q=>Q v H
theorem pe_var {i:Nat}{x:Str}{pos:Pos}(hN:X.N[i]?=some x)(hv:Vis X.env.scope x)(hd:(x==("__debug__" : Str))=false:=by decide)(hcd:(x==("__classdict__" : Str))=false:=by decide):PE X (.Name x pos) (v9 i):=by
 intro pins s σ H Q I h;obtain⟨v,e,h⟩:=h;obtain⟨m,hn,hl⟩:=I.loc;obtain⟨u,r,l⟩:=hl i x v hN e hv;have fin:EP X pins σ Q u s:=⟨v,H,I,r,h⟩;rcases l with ⟨hk,hm⟩|⟨hk,c,hc,hcell⟩
 ·exact wpAny_Name (wpAny_loadName_local I.ok.kind hk hn hm fin) hd
 ·rcases hk with hk|hk
  ·exact wpAny_Name (wpAny_loadName_cell I.ok.kind hk hc hcell fin) hd
  ·exact wpAny_Name (wpAny_loadName_free I.ok.kind hk hc hcell fin hcd) hd
theorem pe_int {i j pos}:PE X (.Constant (.int i) j pos) (tC (.int i)):=fun _ _ _ H _ I h=>wpAny_Constant_int ⟨.int i,H,I.tok _,⟨_,rfl⟩,h⟩
theorem pe_bl {b j pos}:PE X (.Constant (.bool b) j pos) (tC (.bl b)):=fun _ _ _ H _ I h=>Constant_bool ⟨.bl b,H,I,rfl,h⟩
theorem pe_non {j pos}:PE X (.Constant .none j pos) (tC .non):=fun _ _ _ H _ I h=>Constant_none ⟨.non,H,I,rfl,h⟩
theorem pe_str {x j pos}:PE X (.Constant (.str x) j pos) (tC (.str x)):=fun _ _ _ H _ I h=>Calls.Constant_str ⟨.str x,H,I.tok _,⟨_,rfl⟩,h⟩
def Gl (X:Cx)(x:Str):Prop:=X.env.kindOf x=some .globalImplicit
theorem ld_glob {E:Value->Shared->Prop}{pins:List (Addr×Obj)}{s:Shared}{σ:St}{H:Hp}{x:Str}{u:Value}{pos:Pos}{Q:Value->Shared->Prop}(I:Inv X pins σ H s)(hg:Gl X x)(hm:X.mg x=some u)(h:Q u s)
  (hd:(x==("__debug__" : Str))=false:=by decide):wpAny (model X.prog X.w) X.A (eval (.Name x pos) X.env) Q E s :=
 Calls.Name_function_global I.ok.kind hg (Calls.loadGlobal_global (by rw[I.ok.glob];exact I.mod.glob.keeps I.bk) hm h) hd
theorem lL {E:Value->Shared->Prop}{pins:List (Addr×Obj)}{s:Shared}{σ:St}{H:Hp}{x:Str}{u:Value}{pos:Pos}{Q:Value->Shared->Prop}(I:Inv X pins σ H s)(hg:Gl X x)(hm:X.mg x=none)(hv:bootBuiltins x=some u)(h:Q u s)
  (hn:x ≠ "__name__" := by decide) (hd:(x==("__debug__" : Str))=false:=by decide):wpAny (model X.prog X.w) X.A (eval (.Name x pos) X.env) Q E s:=by
 obtain⟨mb,h1,h2⟩:=I.mod.blt;exact Calls.Name_function_global I.ok.kind hg (Calls.loadGlobal_builtin (by rw[I.ok.glob];exact I.mod.glob.keeps I.bk) hm (by rw[I.ok.blt];exact h1.keeps I.bk) ((h2 x hn).trans hv) h) hd
theorem pe_glob {x:Str}{v:V}{u:Value}{pos:Pos}(hg:Gl X x)(hm:X.mg x=some u)(r:cI v u)(hd:(x==("__debug__" : Str))=false:=by decide):PE X (.Name x pos) (tC v) :=
 fun _ _ _ H _ I h=>ld_glob I hg hm ⟨v,H,I,r,h⟩ hd
theorem pe_bltn {x:Str}{v:V}{u:Value}{pos:Pos}(hg:Gl X x)(hm:X.mg x=none)(hv:bootBuiltins x=some u)(r:cI v u)(hn:x ≠ "__name__" := by decide)(hd:(x==("__debug__" : Str))=false:=by decide):PE X (.Name x pos) (tC v) :=
 fun _ _ _ H _ I h=>lL I hg hm hv ⟨v,H,I,r,h⟩ hn hd
variable {a b:Expr}{ta tb:TE}{pos:Pos}
noncomputable def tB (t:TE):TT:=fun σ H Q=>t σ H fun x H1=>∃c,x=.bl c/\Q c H1
theorem pt_val {e:Expr}{t:TE}(h:PE X e t)(he:∀whole,isTrue e X.env whole=(do let v <-whole;standAt e.pos;holding [v] (truthy v)):=by intro _;rfl):PT X e (tB t):=by
 intro pins s σ H Q I hw;refine isTrue_plain (thn (h pins s σ H _ I hw) fun v s1 ⟨x,H1,I1,r1,q1⟩=>?_) (he _);obtain⟨d,rfl,q⟩:=q1;cases r1;exact wpAny_truthy_bool ⟨H1,I1,q⟩
variable {tA tB':TT}{de:List Expr}
noncomputable def jz (t u:TT):TT:=fun σ H Q=>t σ H fun c H1=>if c=true then u σ H1 Q else Q false H1
noncomputable def ir (t u:TT):TT:=fun σ H Q=>t σ H fun c H1=>if c=true then Q true H1 else u σ H1 Q
noncomputable def dP (t:TT):TT:=fun σ H Q=>t σ H fun c H1=>Q (!c) H1
theorem pw_and1 (ha:PT X a tA):PW X (.BoolOp .And [a] pos) tA:=by
 intro wh pins s σ H Q I h;refine isTrue_and (thn (ha pins s σ H Q I h) fun c s1 e=>?_);cases c with
 |true=>exact isTrue_and_nil e
 |false=>exact e
theorem pw_or1 (ha:PT X a tA):PW X (.BoolOp .Or [a] pos) tA:=by
 intro wh pins s σ H Q I h;refine isTrue_or (thn (ha pins s σ H Q I h) fun c s1 e=>?_);cases c with
 |false=>exact isTrue_or_nil e
 |true=>exact e
theorem pw_and (ha:PT X a tA)(hb:PW X (.BoolOp .And (b::de) pos) tB'):PW X (.BoolOp .And (a::b::de) pos) (jz tA tB'):=by
 intro wh pins s σ H Q I h;refine isTrue_and (thn (ha pins s σ H _ I h) fun c s1 zz=>?_);obtain ⟨H1,I1,q1⟩:=zz;cases c with
 |true=>exact hb wh pins s1 σ H1 Q I1 q1
 |false=>exact⟨H1,I1,q1⟩
theorem pw_or (ha:PT X a tA)(hb:PW X (.BoolOp .Or (b::de) pos) tB'):PW X (.BoolOp .Or (a::b::de) pos) (ir tA tB'):=by
 intro wh pins s σ H Q I h;refine isTrue_or (thn (ha pins s σ H _ I h) fun c s1 zz=>?_);obtain ⟨H1,I1,q1⟩:=zz;cases c with
 |true=>exact⟨H1,I1,q1⟩
 |false=>exact hb wh pins s1 σ H1 Q I1 q1
theorem pt_not (ha:PT X a tA):PT X (.UnaryOp .Not a pos) (dP tA):=by
 intro pins s σ H Q I h;exact isTrue_not (ha pins s σ H (fun c H1=>Q (!c) H1) I h)
noncomputable def vC (ta tb:TE):TE:=fun σ H Q=>ta σ H fun x H1=>∃c,x=.bl c/\if c=true then tb σ H1 Q else Q (.bl false) H1
noncomputable def vt (ta:TE):TE:=fun σ H Q=>ta σ H fun x H1=>∃c,x=.bl c/\Q (.bl (!c)) H1
theorem pe_one {op}{t:TE}(h:PE X a t):PE X (.BoolOp op [a] pos) t:=fun pins s σ H Q I hw=>BoolOp_one (h pins s σ H Q I hw)
theorem pe_and (ha:PE X a ta)(hb:PE X (.BoolOp .And (b::de) pos) tb):PE X (.BoolOp .And (a::b::de) pos) (vC ta tb):=by
 intro pins s σ H Q I h;refine BoolOp_and (thn (ha pins s σ H _ I h) fun v s1 zz=>?_);obtain ⟨x,H1,I1,r1,q1⟩:=zz;obtain⟨c,rfl,q1⟩:=q1;cases r1;refine wpAny_truthy_bool ?_;cases c with
 |true=>exact hb pins s1 σ H1 Q I1 q1
 |false=>exact⟨.bl false,H1,I1,rfl,q1⟩
theorem pe_not (ha:PE X a ta):PE X (.UnaryOp .Not a pos) (vt ta):=by
 intro pins s σ H Q I h;refine UnaryOp_ (thn (ha pins s σ H _ I h) fun v s1 zz=>?_);obtain ⟨x,H1,I1,r1,q1⟩:=zz;obtain⟨c,rfl,q1⟩:=q1;cases r1;exact not_of (wpAny_truthy_bool ⟨.bl (!c),H1,I1,rfl,q1⟩)
end
end L2
namespace L2
open PySem PySem.Spec PyProof.Rows
noncomputable def dq (K:PySem.W.Frag)(H:Hp)(a:Addr)(xs:List V):Prop :=
 Rd H a (.lst xs) ∨
  ∃(o:Obj) (its:Array Value) (n:Nat),K.lookup a=some o/\o.cls=.type "list" ∧ o.dict=none/\o.data=.seq its n/\its.size<=sizeLine/\cA xs its.toList
noncomputable def dr (K:PySem.W.Frag)(H:Hp)(a:Addr)(xs:List V):Prop :=
 Rd H a (.tup xs) ∨
  ∃(o:Obj) (its:Array Value) (n:Nat),K.lookup a=some o/\o.cls=.type "tuple" ∧ o.data=.seq its n/\its.size<=sizeLine/\cA xs its.toList
noncomputable def wD:Value->Option V
 |.none=>some .non
 |.bool b=>some (.bl b)
 |.int i _=>some (.int i)
 |.str x _=>some (.str x)
 |.bytes b _=>some (.byt b)
 |.float b _=>some (.flt b)
 |.ref a=>some (.ref a)
 |.type n=>some (.ty n)
 |_=>none
theorem cI.abs {x:V}{u:Value}(r:cI x u):wD u=some x:=by
 cases x with
 |non=>cases r;rfl
 |bl _=>cases r;rfl
 |int _=>obtain⟨t,rfl⟩:=r;rfl
 |str _=>obtain⟨t,rfl⟩:=r;rfl
 |byt _=>obtain⟨t,rfl⟩:=r;rfl
 |flt _=>obtain⟨t,rfl⟩:=r;rfl
 |ref _=>cases r;rfl
 |ty _=>cases r;rfl
theorem cI.inj {x y:V}{u:Value}(r:cI x u)(q:cI y u):x=y:=aS.inj (r.abs.symm.trans q.abs)
theorem cA.inj:∀{xs ys:List V}{us:List Value},cA xs us->cA ys us->xs=ys:=by
 intro xs ys us h;induction h generalizing ys with
 |nil=>intro q; cases q; rfl
 |cons r t ih=>
  intro q;cases q with
  |cons r2 t2=>rw [r.inj r2,ih t2]
section
variable {X:Cx}{pins:List (Addr×Obj)}{σ:St}{H:Hp}{s:Shared}{a:Addr}{xs ys:List V}
theorem Inv.list (I:Inv X pins σ H s)(h:dq X.K H a xs):∃its:List Value,cA xs its/\PlainL s.heap a its.toArray/\xs.length<=sizeLine:=by
 rcases h with h|⟨o,its,n,hk,hc,hd,hs,hz,r⟩
 ·obtain⟨z,its,n,r,e⟩:=h.ok I.hok;exact⟨its,r,⟨_,n,e,rfl,rfl,rfl⟩,z⟩
 ·refine⟨its.toList,r,⟨o,n,I.kIn a o hk,hc,hd,by simpa using hs⟩,?_⟩;have e:=r.length;simp only[bF] at e;omega
theorem Inv.tuple (I:Inv X pins σ H s)(h:dr X.K H a xs):∃its:List Value,cA xs its/\IsTup s.heap a its.toArray/\xs.length<=sizeLine:=by
 rcases h with h|⟨o,its,n,hk,hc,hs,hz,r⟩
 ·obtain⟨z,its,r,p⟩:=h.ok I.hok;exact⟨its,r,p,z⟩
 ·refine⟨its.toList,r,⟨o,I.kIn a o hk,hc,n,by simpa using hs⟩,?_⟩;have e:=r.length;simp only[bF] at e;omega
theorem Inv.list_inj (I:Inv X pins σ H s)(h:dq X.K H a xs)(h':dq X.K H a ys):xs=ys:=by
 obtain⟨its,r,⟨o,n,e,_,_,d⟩,_⟩:=I.list h;obtain⟨its',r',⟨o',n',e',_,_,d'⟩,_⟩:=I.list h';rw[e] at e';cases e';rw[d] at d';injection d' with d1 _
 have:its=its':=by simpa using congrArg Array.toList d1
 subst this;exact r.inj r'
theorem Inv.tuple_inj (I:Inv X pins σ H s)(h:dr X.K H a xs)(h':dr X.K H a ys):xs=ys:=by
 obtain⟨its,r,⟨o,e,_,n,d⟩,_⟩:=I.tuple h;obtain⟨its',r',⟨o',e',_,n',d'⟩,_⟩:=I.tuple h';rw[e] at e';cases e';rw[d] at d';injection d' with d1 _
 have:its=its':=by simpa using congrArg Array.toList d1
 subst this;exact r.inj r'
end
noncomputable abbrev Cx.wish (X:Cx)(E:Value->Shared->Prop):Cx:={ X with xe:=E }
noncomputable abbrev Cx.nox (X:Cx):Cx:=X.wish fun _ _=>False
theorem Cx.Ok.wish {X:Cx}(ok:X.Ok)(E:Value->Shared->Prop):(X.wish E).Ok :=
 ⟨ok.mod,ok.kind,ok.glob,ok.blt,ok.above,ok.inj,ok.has,ok.cab,ok.hd,ok.frames,ok.stk,ok.exf,ok.bs,ok.bsz,ok.noex,ok.exfs,ok.funs,ok.frf⟩
theorem Cx.Ok.unwish {X:Cx}{E:Value->Shared->Prop}(ok:(X.wish E).Ok):X.Ok :=
 ⟨ok.mod,ok.kind,ok.glob,ok.blt,ok.above,ok.inj,ok.has,ok.cab,ok.hd,ok.frames,ok.stk,ok.exf,ok.bs,ok.bsz,ok.noex,ok.exfs,ok.funs,ok.frf⟩
section
variable {X:Cx}{pins:List (Addr×Obj)}{σ:St}{H:Hp}{s:Shared}{E:Value->Shared->Prop}
theorem Inv.wish (I:Inv X pins σ H s)(E:Value->Shared->Prop):Inv (X.wish E) pins σ H s:=⟨I.ok.wish E,I.os,I.bare,I.base,I.loc,I.cell,I.free,I.freeC,I.pin,I.hok,I.len⟩
theorem Inv.unwish (I:Inv (X.wish E) pins σ H s):Inv X pins σ H s:=⟨I.ok.unwish,I.os,I.bare,I.base,I.loc,I.cell,I.free,I.freeC,I.pin,I.hok,I.len⟩
theorem SP.unwish {D:c7}{f:Flow}{s':Shared}(h:SP (X.wish E) pins D f s'):SP X pins D f s':=by
 cases f with
 |next=>obtain⟨σ',H',I,q⟩:=h;exact⟨σ',H',I.unwish,q⟩
 |brk=>obtain⟨σ',H',I,q⟩:=h;exact⟨σ',H',I.unwish,q⟩
 |cont=>obtain⟨σ',H',I,q⟩:=h;exact⟨σ',H',I.unwish,q⟩
 |ret u=>obtain⟨v,σ',H',I,r,q⟩:=h;exact⟨v,σ',H',I.unwish,r,q⟩
theorem PE.nox {e:Expr}{t:TE}(h:PE X.nox e t):PE X e t:=fun pins s σ H Q I hw =>
 wpAny_mono (h pins s σ H Q (I.wish _) hw) (fun _ _ ⟨v,H',I',r,q⟩=>⟨v,H',I'.unwish,r,q⟩) fun _ _ z=>False.elim z
theorem PT.nox {e:Expr}{t:TT}(h:PT X.nox e t):PT X e t:=fun pins s σ H Q I hw =>
 wpAny_mono (h pins s σ H Q (I.wish _) hw) (fun _ _ ⟨H',I',q⟩=>⟨H',I'.unwish,q⟩) fun _ _ z=>False.elim z
theorem PSs.nox {st:List Stmt}{t:TS}(h:PSs X.nox st t):PSs X st t:=fun pins s σ H D I hw =>
 wpAny_mono (h pins s σ H D (I.wish _) hw) (fun _ _ q=>q.unwish) fun _ _ z=>False.elim z
end
section
variable {X:Cx}{st:Stmt}{de:List Stmt}{t u:TS}{e:Expr}{te:TE}{pos:Pos}
noncomputable def vv:TS:=fun D σ H=>D.nx σ H
noncomputable def wb (t u:TS):TS:=fun D σ H=>t { D with nx:=u D } σ H
theorem pss_nil:PSs X [] vv:=fun _ _ σ H _ I h=>wpAny_execs_nil ⟨σ,H,I,h⟩
theorem pss_cons (h1:PS X st t)(h2:PSs X de u):PSs X (st::de) (wb t u):=by
 intro pins s σ H D I h;refine wpAny_execs_cons (thn (h1 pins s σ H { D with nx:=u D } I h) fun f s1 q=>?_);cases f with
 |next =>
  obtain⟨σ',H',I',q⟩:=q;exact h2 pins s1 σ' H' D I' q
 |ret v=>exact q
 |brk=>exact q
 |cont=>exact q
theorem pss_one (h1:PS X st t):PSs X [st] t:=by
 intro pins s σ H D I h;refine wpAny_execs_cons (thn (h1 pins s σ H D I h) fun f s1 q=>?_);cases f with
 |next=>exact wpAny_execs_nil q
 |ret v=>exact q
 |brk=>exact q
 |cont=>exact q
theorem Inv.quiet {pins:List (Addr×Obj)}{σ:St}{H:Hp}{s:Shared}(I:Inv X pins σ H s):interactive X.env=false:=by simp[interactive,I.ok.kind]
noncomputable def vA (te:TE):TS:=fun D σ H=>te σ H fun _ H1=>D.nx σ H1
theorem ps_expr (he:PE X e te)(hs:swapsWith e none pos.line X.env=pure false:=by rfl):PS X (.Expr e pos) (vA te):=by
 intro pins s σ H D I h;exact wpAny_Expr_any (thn (he pins s σ H _ I h) fun v s1 ⟨x,H1,I1,r1,q1⟩=>⟨σ,H1,I1,q1⟩) I.quiet hs
noncomputable def wc (te:TE):TS:=fun D σ H=>te σ H D.rt
theorem ps_ret (he:PE X e te):PS X (.Return (some e) pos) (wc te):=by
 intro pins s σ H D I h;exact wpAny_Return_some (thn (he pins s σ H _ I h) fun v s1 ⟨x,H1,I1,r1,q1⟩=>⟨x,σ,H1,I1,r1,q1⟩)
noncomputable def wg (c:TT)(t u:TS):TS:=fun D σ H=>c σ H fun b H1=>if b=true then t D σ H1 else u D σ H1
theorem ps_if {c:Expr}{a b:List Stmt}{tc:TT}(hc:PT X c tc)(ha:PSs X a t)(hb:PSs X b u):PS X (.If c a b pos) (wg tc t u):=by
 intro pins s σ H D I h;refine wpAny_If (thn (hc pins s σ H _ I h) fun d s1 zz=>?_);obtain ⟨H1,I1,q1⟩:=zz;cases d with
 |true=>exact ha pins s1 σ H1 D I1 q1
 |false=>exact hb pins s1 σ H1 D I1 q1
end
noncomputable abbrev TG:=V->St->Hp->(St->Hp->Prop)->Prop
noncomputable abbrev TGs:=List V->St->Hp->(St->Hp->Prop)->Prop
noncomputable def PG (X:Cx)(target:Expr)(t:TG):Prop :=
 ∀(pins:List (Addr×Obj)) (s:Shared) (σ:St) (H:Hp) (v:V) (u:Value) (Q:St->Hp->Prop),Inv X pins σ H s->cI v u->t v σ H Q →
  wpAny (model X.prog X.w) X.A (assign target X.env u) (fun _ s'=>∃σ' H',Inv X pins σ' H' s'/\Q σ' H') X.xe s
noncomputable def PGs (X:Cx)(ts:List Expr)(t:TGs):Prop :=
 ∀(pins:List (Addr×Obj)) (s:Shared) (σ:St) (H:Hp) (vs:List V) (us:List Value) (Q:St->Hp->Prop),Inv X pins σ H s->cA vs us->t vs σ H Q →
  wpAny (model X.prog X.w) X.A (assignInOrder ((assignEach ts X.env).map (·.2)) us) (fun _ s'=>∃σ' H',Inv X pins σ' H' s'/\Q σ' H') X.xe s
section
variable {X:Cx}{pos:Pos}
noncomputable def gName (i:Nat):TG:=fun v σ H Q=>Q (σ.set i (some v)) H
theorem pg_name {i:Nat}{x:Str}(hN:X.N.Nodup)(hi:X.N[i]?=some x)(hx:Loc X.env.scope x)(hf:X.fn x=true\/X.env.scope.names.lookup x=some .local:=by first|exact .inl rfl|exact .inr rfl|assumption):PG X (.Name x pos) (gName i):=by
 intro pins s σ H v u Q I r h;exact wpAny_assign_Name (store_ok I hN hi hx r (fun s' I'=>⟨_,H,I',h⟩) hf)
noncomputable def wA:TGs:=fun vs σ H Q=>vs=[]/\Q σ H
noncomputable def vP (t:TG)(u:TGs):TGs:=fun vs σ H Q=>∃v r,vs=v::r/\t v σ H fun σ' H'=>u r σ' H' Q
theorem pgs_nil:PGs X [] wA:=by
 intro pins s σ H vs us Q I r h;obtain⟨e,h⟩:=h;subst e;cases r;exact assignInOrder_nil ⟨σ,H,I,h⟩
theorem pgs_cons {e:Expr}{es:List Expr}{t:TG}{u:TGs}(h1:PG X e t)(h2:PGs X es u)
  (hs:(assignEach (e::es) X.env).map (·.2)=assign e X.env::(assignEach es X.env).map (·.2):=by rfl):PGs X (e::es) (vP t u):=by
 intro pins s σ H vs us Q I r h;obtain⟨v,vr,e1,h⟩:=h;subst e1;cases r with
 |cons r rr =>
  rw[hs];refine assignInOrder_cons (thn (h1 pins s σ H _ _ _ I r h) fun _ s1 zz=>?_);obtain ⟨σ1,H1,I1,q1⟩:=zz;exact h2 pins s1 σ1 H1 _ _ Q I1 rr q1
noncomputable def wz (K:PySem.W.Frag)(n:Nat)(t:TGs):TG:=fun v σ H Q=>∃a xs,v=.ref a/\dr K H a xs/\xs.length=n/\t xs σ H Q
theorem pg_tup {es:List Expr}{k:Nat}{t:TGs}{n:Nat}(hc:X.calm=true)(h:PGs X es t)
  (hn:(assignEach es X.env).length=n:=by rfl) (hst:(assignEach es X.env).findIdx? (·.1)=none:=by rfl):PG X (.Tuple es k pos) (wz X.K n t):=by
 intro pins s σ H v u Q I r hw;obtain⟨a,xs,e1,hq,hl,hw⟩:=hw;subst e1;cases r;obtain⟨its,rv,ht,hz⟩:=I.tuple hq;refine assign_Tuple_tuple (I.ok.hd hc) ht (by simp[hn,<-hl,rv.length]) hst fun h' hx=>?_;have I1:Inv X pins σ H { s with heap:=h' }:=I.kept (t':=s.toks) fun b o e=>hx b o (aK (av e)) e;exact h pins _ σ H xs _ Q I1 (by simpa using rv) hw
noncomputable def tAsg (te:TE)(g:TG):TS:=fun D σ H=>te σ H fun x H1=>g x σ H1 D.nx
theorem ps_set {i:Nat}{x:Str}{e:Expr}{te:TE}{pos':Pos}(hN:X.N.Nodup)(hi:X.N[i]?=some x)(hx:Loc X.env.scope x)(he:PE X e te)(hs:swapsWith e (some (.Name x pos')) pos.line X.env=pure false:=by rfl)(hf:X.fn x=true\/X.env.scope.names.lookup x=some .local:=by first|exact .inl rfl|exact .inr rfl|assumption) :
  PS X (.Assign [.Name x pos'] e pos) (tAsg te (gName i)):=by
 intro pins s σ H D I h;refine wpAny_Assign_Name (thn (he pins s σ H _ I h) fun v s1 ⟨y,H1,I1,r1,q1⟩=>?_) hs;exact store_ok I1 hN hi hx r1 (fun s2 I2=>⟨_,H1,I2,q1⟩) hf
end
section
variable {X:Cx}{pos:Pos}
end
structure It where
 go:Nat->Hp->Prop
 yld:Nat->Hp->V->Hp->Prop
 stop:Nat->Hp->Prop
noncomputable def i6 (X:Cx)(pins:List (Addr×Obj))(H:Hp)(b:Addr):Prop :=
 H b=none/\b≠X.env.locals/\b∉X.fs/\(b∈X.ex\/X.s₀.heap.objs.size<=b)/\(∀x c,X.env.cells.lookup x=some c->c≠b)/\∀p∈X.pn++pins,p.1≠b
theorem Inv.fpOk {X:Cx}{pins:List (Addr×Obj)}{σ:St}{H H':Hp}{s:Shared}{b:Addr}(I:Inv X pins σ H s)(hb:s.heap.objs.size<=b)(hn:H' b=none):i6 X pins H' b:=by
 refine⟨hn,bQ (ao I.lt hb),I.nofs hb,.inr (aL I.sz hb),fun x c e z=>?_,fun p hp z=>?_⟩
 ·obtain⟨v,q⟩:=I.cell x c e;exact absurd (ao q.lt (by rw[z];exact hb)) (aF _)
 ·exact absurd (ao (av (I.pin p hp).1) (by rw[z];exact hb)) (aF _)
structure Turn (P:Program)(w:World)(K:PySem.W.Frag)(tg:Expr)(J:It)(fp:List Addr)(it:Addr)(tn:Nat->Heap->Prop):Prop where
 mem:it∈fp
 obj:∀i h,tn i h->∀b∈fp,∃o,h.get? b=some o/\∀v,o.data≠.cell v
 keep:∀i h h',tn i h->(∀b∈fp,∀o,h.get? b=some o->h'.get? b=some o)->tn i h'
 item:∀(X:Cx),X.prog=P->X.w=w->X.K=K->X.calm=true->∀(i:Nat) (pins:List (Addr×Obj)) (s:Shared) (σ:St) (H:Hp) (E:Value->Shared->Prop),Inv X pins σ H s->(∀b∈fp,i6 X pins H b)->tn i s.heap->J.go i H →
  wpAny (model P w) X.A (pyNext (.ref it)) (fun r s1=>∃u,r=some u ∧
   wpAny (model P w) X.A (letOwnedTupleGo tg (.ref it) u) (fun _ s2=>∃x H',Inv X pins σ H' s2/\cI x u/\J.yld i H x H'/\tn (i+1) s2.heap/\∀b∈fp,H' b=none) E s1) E s
 done:∀(X:Cx),X.prog=P->X.w=w->X.K=K->X.calm=true->∀(i:Nat) (pins:List (Addr×Obj)) (s:Shared) (σ:St) (H:Hp) (E:Value->Shared->Prop),Inv X pins σ H s->(∀b∈fp,i6 X pins H b)->tn i s.heap->J.stop i H →
  wpAny (model P w) X.A (pyNext (.ref it)) (fun r s1=>r=none/\Inv X pins σ H s1) E s
 self:∀(A:Around) (i:Nat) (s:Shared) (Q:Value->Shared->Prop) (E:Value->Shared->Prop),tn i s.heap->Q (.ref it) s->wpAny (model P w) A (pyIter (.ref it)) Q E s
noncomputable abbrev TI:=St->Hp->(It->Hp->Prop)->Prop
noncomputable def wO (X:Cx)(pins:List (Addr×Obj))(σ:St)(tg:Expr)(R:It->Hp->Prop)(itv:Value)(s2:Shared):Prop :=
 ∃(it:Addr) (fp:List Addr) (tn:Nat->Heap->Prop) (J:It) (H':Hp),itv=.ref it/\Inv X pins σ H' s2/\Turn X.prog X.w X.K tg J fp it tn/\tn 0 s2.heap/\(∀b∈fp,i6 X pins H' b)/\R J H'
noncomputable def PI (X:Cx)(tg iter:Expr)(wi:TI):Prop :=
 ∀(pins:List (Addr×Obj)) (s:Shared) (σ:St) (H:Hp) (R:It->Hp->Prop),Inv X pins σ H s->wi σ H R →
  wpAny (model X.prog X.w) X.A (eval iter X.env) (fun v s1=>wpAny (model X.prog X.w) X.A (pyIter v) (wO X pins σ tg R) X.xe s1) X.xe s
theorem go_of {M:Model}{A:Around}{E:Value->Shared->Prop}{s:Shared}{tg:Expr}{it:Addr}{u:Value}{o:Obj}{n:String}{vs:Array Value}{Q:Unit->Shared->Prop}(ho:s.heap.get? it=some o)(hc:o.cls=.type n)(hd:o.data=.fields vs)
    (hn:["enumerate", "zip", "dict_itemiterator", "dict_reverseitemiterator", "odict_iterator", "itertools.zip_longest", "itertools.pairwise"].contains n=false) (hQ:Q () s):wpAny M A (letOwnedTupleGo tg (.ref it) u) Q E s:=by
  unfold letOwnedTupleGo;cases tg <;> first
    |exact aA hQ
    | (cases u <;> first
        |exact aA hQ
        | (refine ag (wpAny_load ho ?_)
           rw[hc,hd];show wpAny M A (if (["enumerate", "zip", "dict_itemiterator", "dict_reverseitemiterator", "odict_iterator", "itertools.zip_longest", "itertools.pairwise"].contains n&&vs[0]?==some (rawInt _))=true then _ else _) Q E s;rw[if_neg (by intro h;rw[hn,Bool.false_and] at h;cases h)];exact aA hQ))
noncomputable def Itl (K:PySem.W.Frag)(a:Addr):It :=
 ⟨fun i H=>∃xs x,dq K H a xs/\xs[i]?=some x,fun i H x H'=>H'=H/\∀xs,dq K H a xs->xs[i]?=some x,fun i H=>∃xs,dq K H a xs/\xs.length<=i⟩
noncomputable def Itt (K:PySem.W.Frag)(a:Addr):It :=
 ⟨fun i H=>∃xs x,dr K H a xs/\xs[i]?=some x,fun i H x H'=>H'=H/\∀xs,dr K H a xs->xs[i]?=some x,fun i H=>∃xs,dr K H a xs/\xs.length<=i⟩
noncomputable def Itr (lo:Int)(n:Nat):It:=⟨fun i _=>i<n,fun i H x H'=>H'=H/\x=.int (lo+i),fun i _=>n<=i⟩
theorem turn_list {P:Program}{w:World}{K:PySem.W.Frag}{tg:Expr}(a it:Addr):Turn P w K tg (Itl K a) [it] it (fun i h=>h.IsListIter it a i) where
 mem:=by simp
 obj:=fun i h st b hb=>by
  have e:b=it:=by simpa using hb
  subst e;obtain⟨o,e,c,d⟩:=st;exact⟨o,e,fun v z=>by rw[d] at z;cases z⟩
 keep:=fun i h h' st k=>st.at fun o e=>k it (by simp) o e
 item:=by
  intro X hP hw hK hc i pins s σ H E I hf st hg;subst hP hw hK;obtain⟨xs,x,hq,hx⟩:=hg;obtain⟨its,rv,p,hz⟩:=I.list hq;obtain⟨u,hu,ru⟩:=rv.get hx;obtain⟨f0,f1,f2,f3,f4,f5⟩:=hf it (by simp);refine wpAny_pyNext_list_item st p.isList (x:=u) (by simpa using hu) fun h' st' sb=>?_;have I1:Inv X pins σ H { s with heap:=h' }:=I.turned (t':=s.toks) (fun b o hb e=>(sb.2 b hb).trans e) f0 f1 f3 f4 f5;obtain⟨o,e,c,d⟩:=id st';exact⟨u,rfl,go_of (s:={ s with heap:=h' }) e c d (by decide) ⟨x,H,I1,ru,⟨rfl,fun ys hy=>by rw[I.list_inj hy hq];exact hx⟩,st',fun b hb=>(hf b hb).1⟩⟩
 done:=by
  intro X hP hw hK hc i pins s σ H E I hf st hg;subst hP hw hK;obtain⟨xs,hq,hx⟩:=hg;obtain⟨its,rv,p,hz⟩:=I.list hq;obtain⟨f0,f1,f2,f3,f4,f5⟩:=hf it (by simp);have hl:=rv.length;exact wpAny_pyNext_list_end (I.ok.hd hc) st p.isList (by simp;omega) fun h' eb=>⟨rfl,I.turned (t':=s.toks) (fun b o hb e=>eb b o hb e) f0 f1 f3 f4 f5⟩
 self:=fun _ _ _ _ _ st h=>wpAny_pyIter_listiter st h
theorem turn_tuple {P:Program}{w:World}{K:PySem.W.Frag}{tg:Expr}(a it:Addr):Turn P w K tg (Itt K a) [it] it (fun i h=>h.IsTupleIter it a i) where
 mem:=by simp
 obj:=fun i h st b hb=>by
  have e:b=it:=by simpa using hb
  subst e;obtain⟨o,e,c,d⟩:=st;exact⟨o,e,fun v z=>by rw[d] at z;cases z⟩
 keep:=fun i h h' st k=>st.at fun o e=>k it (by simp) o e
 item:=by
  intro X hP hw hK hc i pins s σ H E I hf st hg;subst hP hw hK;obtain⟨xs,x,hq,hx⟩:=hg;obtain⟨its,rv,p,hz⟩:=I.tuple hq;obtain⟨u,hu,ru⟩:=rv.get hx;obtain⟨f0,f1,f2,f3,f4,f5⟩:=hf it (by simp);refine wpAny_pyNext_tuple_item st (show s.heap.IsTuple a its.toArray from p) (x:=u) (by simpa using hu) fun h' st' sb=>?_;have I1:Inv X pins σ H { s with heap:=h' }:=I.turned (t':=s.toks) (fun b o hb e=>(sb.2 b hb).trans e) f0 f1 f3 f4 f5;obtain⟨o,e,c,d⟩:=id st';exact⟨u,rfl,go_of (s:={ s with heap:=h' }) e c d (by decide) ⟨x,H,I1,ru,⟨rfl,fun ys hy=>by rw[I.tuple_inj hy hq];exact hx⟩,st',fun b hb=>(hf b hb).1⟩⟩
 done:=by
  intro X hP hw hK hc i pins s σ H E I hf st hg;subst hP hw hK;obtain⟨xs,hq,hx⟩:=hg;obtain⟨its,rv,p,hz⟩:=I.tuple hq;obtain⟨f0,f1,f2,f3,f4,f5⟩:=hf it (by simp);have hl:=rv.length;exact wpAny_pyNext_tuple_end (I.ok.hd hc) st (show s.heap.IsTuple a its.toArray from p) (by simp;omega) fun h' eb=>⟨rfl,I.turned (t':=s.toks) (fun b o hb e=>eb b o hb e) f0 f1 f3 f4 f5⟩
 self:=fun _ _ _ _ _ st h=>wpAny_pyIter_tupleiter st h
theorem m6 {P:Program}{w:World}{K:PySem.W.Frag}{tg:Expr}(it:Addr)(lo:Int)(n:Nat):Turn P w K tg (Itr lo n) [it] it (fun i h=>IsRangeIter h it (lo+(i:Nat)*1) ((n:Int)-(i:Nat)) 1) where
 mem:=by simp
 obj:=fun i h st b hb=>by
  have e:b=it:=by simpa using hb
  subst e;exact⟨_,st,fun v z=>by
   have z':Data.fields _=Data.cell v:=z;cases z'⟩
 keep:=fun i h h' st k=>k it (by simp) _ st
 item:=by
  intro X hP hw hK hc i pins s σ H E I hf st hg;subst hP hw hK;obtain⟨f0,f1,f2,f3,f4,f5⟩:=hf it (by simp);have W:=Walks.range (prog:=X.prog) (w:=X.w) (I.ok.hd hc) it lo 1 n;refine W.item i s _ _ hg st fun v h' tk hv st' kk=>?_;obtain⟨t,rfl⟩:=hv;have I1:Inv X pins σ H { s with heap:=h',toks:=tk }:=I.turned (fun b o hb e=>kk b o (by simpa using hb) e) f0 f1 f3 f4 f5;refine⟨_,rfl,go_of (s:={ s with heap:=h',toks:=tk }) (n := "range_iterator") st' rfl rfl (by decide) ⟨.int (lo+i),H,I1,⟨t,?_⟩,⟨rfl,rfl⟩,st',fun b hb=>(hf b hb).1⟩⟩;rw[Int.mul_one]
 done:=by
  intro X hP hw hK hc i pins s σ H E I hf st hg;subst hP hw hK;obtain⟨f0,f1,f2,f3,f4,f5⟩:=hf it (by simp);exact wpAny_pyNext_range_end (I.ok.hd hc) st (by have:n<=i:=hg;omega) fun h' eb=>⟨rfl,I.turned (t':=s.toks) (fun b o hb e=>eb b o hb e) f0 f1 f3 f4 f5⟩
 self:=fun _ _ _ _ _ st h=>wpAny_pyIter_rangeiter st h
end L2
namespace L2
open PySem PySem.Spec PyProof.Rows
section
variable {X:Cx}{tg:Expr}
theorem qp {pins:List (Addr×Obj)}{σ:St}{H:Hp}{s:Shared}{R:It->Hp->Prop}{E:Value->Shared->Prop}{lo hi:Int}{t u v:Tok}{tk:Nat}(I:Inv X pins σ H s)(h1:-(2 ^ 62)<=lo)(h2:lo<2 ^ 62)(h3:-(2 ^ 62)<=hi)(h4:hi<2 ^ 62)
  (q:R (Itr lo (hi-lo).toNat) H):wpAny (model X.prog X.w) X.A (pyIter (.ref s.heap.objs.size)) (wO X pins σ tg R) E { s with heap:=s.heap.push { cls:=.type "range", data:=.fields #[.int lo t,.int hi u,.int 1 v] },toks:=tk }:=by
 refine wpAny_pyIter_range (IsRange.new ..) (small_one h1 h2 h3 h4) ?_;have I1:Inv X pins σ H { s with heap:=s.heap.push { cls:=.type "range", data:=.fields #[.int lo t,.int hi u,.int 1 v] },toks:=tk }:=I.kept fun b o e=>aw _ e;refine⟨(s.heap.push { cls:=.type "range", data:=.fields #[.int lo t,.int hi u,.int 1 v] }).objs.size,[(s.heap.push { cls:=.type "range", data:=.fields #[.int lo t,.int hi u,.int 1 v] }).objs.size],_,_,H,rfl,
  I1.kept (t':=tk) fun b o e=>aw _ e,m6 _ lo (hi-lo).toNat,?_,fun b hb=>?_,q⟩
 ·have e1:lo+((0:Nat):Int)*1=lo:=by simp
  have e2:(((hi-lo).toNat:Nat):Int)-((0:Nat):Int)=Builtin.Range.rangeSize lo hi 1:=by rw[rangeSize_one];split <;> omega
  show IsRangeIter _ _ (lo+((0:Nat):Int)*1) ((((hi-lo).toNat:Nat):Int)-((0:Nat):Int)) 1;rw[e1,e2];exact aN _ rfl
 ·have e:b=(s.heap.push { cls:=.type "range", data:=.fields #[.int lo t,.int hi u,.int 1 v] }).objs.size:=by simpa using hb
  subst e;exact I1.fpOk (aq _) (I1.hok.fresh (aq _))
noncomputable def vO (ta:TA):TI:=fun σ H R=>ta σ H fun vs H1=>∃j:Int,vs=[.int j]/\-(2 ^ 62)<=j/\j<2 ^ 62/\R (Itr 0 j.toNat) H1
theorem pi_range1 {a:Expr}{ta:TA}{p pos:Pos}(hg:Gl X "range")(hm:X.mg "range" = none)(ha:PA X [a] ta)(hs:starEach [a] X.env=[(false,eval a X.env)]:=by rfl):PI X tg (.Call (.Name "range" p) [a] [] pos) (vO ta):=by
 intro pins s σ H R I h;refine Call_ (lL I hg hm boot_range (PyProof.Rows.callWith_type1 (thn (ha pos pins s σ H _ I h) fun us s1 ⟨vs,H1,I1,r1,q1⟩=>?_) hs rfl));obtain⟨j,e,q1,q2,q⟩:=q1;subst e;cases r1 with
 |cons r rr =>
  cases rr;obtain⟨t,rfl⟩:=r;exact call_range_1 (qp I1 ⋯ ⋯ q1 q2 (by simpa using q))
noncomputable def wj (wi:TI)(g:TG)(tb:TS):TS:=fun D σ H=>wi σ H fun J H1=>∃W:Nat->Nat->St->Hp->Prop,(∃m,W 0 m σ H1)/\∀i m σ H,W i m σ H →
 (J.stop i H/\D.nx σ H)\/(J.go i H/\∃N:St->Hp->Prop,(∀σ' H',N σ' H'->∃m',m'<m/\W (i+1) m' σ' H')/\∀x H',J.yld i H x H'->g x σ H' fun σ2 H2=>tb { D with nx:=N,ct:=N,bk:=D.nx } σ2 H2)
noncomputable def iT (fp:List Addr)(h:Heap):List (Addr×Obj):=fp.filterMap fun b=>(h.get? b).map fun o=>(b,o)
theorem el {fp:List Addr}{h:Heap}{b:Addr}{o:Obj}(hb:b∈fp)(e:h.get? b=some o):(b,o)∈iT fp h:=List.mem_filterMap.mpr ⟨b,hb,by rw[e];rfl⟩
theorem pv {fp:List Addr}{h:Heap}{p:Addr×Obj}(hp:p∈iT fp h):p.1∈fp/\h.get? p.1=some p.2:=by
 obtain⟨b,hb,e⟩:=List.mem_filterMap.mp hp;cases q:h.get? b with
 |none=>rw[q] at e;cases e
 |some o =>
  rw[q] at e;have e':(b,o)=p:=aS.inj e;subst e';exact⟨hb,q⟩
theorem Inv.pinned {pins:List (Addr×Obj)}{σ:St}{H:Hp}{s:Shared}{fp:List Addr}(I:Inv X pins σ H s)(hf:∀b∈fp,i6 X pins H b)(ho:∀b∈fp,∃o,s.heap.get? b=some o/\∀v,o.data≠.cell v):Inv X (pins++iT fp s.heap) σ H s :=
 I.pins_of fun p hp=>(aG.mp hp).elim (fun z=>I.pin p (ah _ z)) fun z=>by
  obtain⟨hb,e⟩:=pv z;obtain⟨f0,f1,f2,_⟩:=hf p.1 hb;obtain⟨o,e',d⟩:=ho p.1 hb;rw[e] at e';cases e';exact⟨e,f0,f1,f2,d⟩
theorem Inv.unpinned {pins pl:List (Addr×Obj)}{σ:St}{H:Hp}{s:Shared}(I:Inv X (pins++pl) σ H s):Inv X pins σ H s:=I.pins_of fun p hp=>I.pin p (ah _ (aE _ hp))
theorem ps_for {iter:Expr}{body:List Stmt}{wi:TI}{g:TG}{tb:TS}{pos:Pos}(hp:PassesOwn (model X.prog X.w) X.A X.env X.xe)(hc:X.calm=true)(hi:PI X tg iter wi)(hg:PG X tg g)(hb:PSs X body tb)
  (hs:∀x,foldedSetIterable iter X.env x=pure x:=by intro _;rfl):PS X (.For tg iter body [] pos) (wj wi g tb):=by
 intro pins s σ H D I h;refine wpAny_For (thn (hi pins s σ H _ I h) fun v s1 h1=>thn h1 fun itv s2 h2=>?_) hs;obtain⟨it,fp,tn,J,H2,e,I2,T,st2,f2,W,⟨m0,w0⟩,turn⟩:=h2;subst e;have stat:∀{H':Hp},(∀b∈fp,H' b=none)->∀b∈fp,i6 X pins H' b:=fun hn b hb=>⟨hn b hb,(f2 b hb).2⟩;refine codeAny_forLoop_any (fun n s'=>∃i σ' H',Inv X pins σ' H' s'/\tn i s'.heap/\(∀b∈fp,H' b=none)/\W i n σ' H') ?_ m0 ⟨0,σ,H2,I2,st2,fun b hb=>(f2 b hb).1,w0⟩;rintro n s3 ⟨i,σ3,H3,I3,st3,fr3,w3⟩;rcases turn i n σ3 H3 w3 with ⟨stop,qn⟩|⟨go,N,hN,step⟩
 ·refine wpAny_passesOwn hp (thn (T.done X rfl rfl rfl hc i pins s3 σ3 H3 X.xe I3 (stat fr3) st3 stop) fun r s4 zz=>?_);obtain ⟨hr,I4⟩:=zz;subst hr;exact wpAny_execs_nil ⟨σ3,H3,I4,qn⟩
 ·refine wpAny_passesOwn hp (thn (T.item X rfl rfl rfl hc i pins s3 σ3 H3 X.xe I3 (stat fr3) st3 go) fun r s4 zz=>?_);obtain ⟨u,hr,h4⟩:=zz;subst hr;refine wpAny_passesOwn hp (thn h4 fun _ s5 zz=>?_);obtain ⟨x,H5,I5,r5,y5,st5,fr5⟩:=zz;have I5':=I5.pinned (stat fr5) (T.obj _ _ st5);refine wpAny_passesOwn hp (thn (hg _ s5 σ3 H5 x u _ I5' r5 (step x H5 y5)) fun _ s6 zz=>?_);obtain ⟨σ6,H6,I6,q6⟩:=zz;refine wpAny_passesOwn hp (thn (hb _ s6 σ6 H6 _ I6 q6) fun f s7 q7=>?_);have again:∀{σ7:St}{H7:Hp},Inv X (pins++iT fp s5.heap) σ7 H7 s7->N σ7 H7->∃m,m<n/\∃i σ' H',Inv X pins σ' H' s7/\tn i s7.heap/\(∀b∈fp,H' b=none)/\W i m σ' H':=fun {σ7 H7} I7 n7=>by
   obtain⟨m',hm,w7⟩:=hN σ7 H7 n7;refine⟨m',hm,i+1,σ7,H7,I7.unpinned,T.keep _ _ _ st5 fun b hb o e=>(I7.pin (b,o) (ah _ (ah _ (el hb e)))).1,fun b hb=>?_,w7⟩;obtain⟨o,e,d⟩:=T.obj _ _ st5 b hb;exact (I7.pin (b,o) (ah _ (ah _ (el hb e)))).2.1
  cases f with
  |next=>obtain⟨σ7,H7,I7,n7⟩:=q7;exact again I7 n7
  |cont=>obtain⟨σ7,H7,I7,n7⟩:=q7;exact again I7 n7
  |brk=>obtain⟨σ7,H7,I7,q7⟩:=q7;exact⟨σ7,H7,I7.unpinned,q7⟩
  |ret v=>obtain⟨x7,σ7,H7,I7,r7,q7⟩:=q7;exact⟨x7,σ7,H7,I7.unpinned,r7,q7⟩
end
end L2
namespace L2
open PySem PySem.Spec PyProof.Rows
noncomputable abbrev R2:=V->V->Hp->VK->Prop
noncomputable def OpR (X:Cx)(f:Value->Value->Sem Value)(r:R2):Prop :=
 ∀(pins:List (Addr×Obj)) (s:Shared) (σ:St) (H:Hp) (x y:V) (v u:Value) (Q:VK),Inv X pins σ H s->cI x v->cI y u->r x y H Q →
  wpAny (model X.prog X.w) X.A (f v u) (EP X pins σ Q) X.xe s
noncomputable def UnR (X:Cx)(f:Value->Sem Value)(r:V->Hp->VK->Prop):Prop :=
 ∀(pins:List (Addr×Obj)) (s:Shared) (σ:St) (H:Hp) (x:V) (v:Value) (Q:VK),Inv X pins σ H s->cI x v->r x H Q →
  wpAny (model X.prog X.w) X.A (f v) (EP X pins σ Q) X.xe s
noncomputable def CallR (X:Cx)(f:Value)(r:List V->Hp->VK->Prop):Prop :=
 ∀(pins:List (Addr×Obj)) (s:Shared) (σ:St) (H:Hp) (xs:List V) (us:List Value) (Q:VK),Inv X pins σ H s->cA xs us->r xs H Q →
  wpAny (model X.prog X.w) X.A (call f us) (EP X pins σ Q) X.xe s
noncomputable def tOp (r:R2)(ta tb:TE):TE:=fun σ H Q=>ta σ H fun x H1=>tb σ H1 fun y H2=>r x y H2 Q
noncomputable def tUn (r:V->Hp->VK->Prop)(ta:TE):TE:=fun σ H Q=>ta σ H fun x H1=>r x H1 Q
noncomputable def rI (C:Int->Int->Prop)(g:Int->Int->V):R2:=fun x y H Q=>∃i j,x=.int i/\y=.int j/\C i j/\Q (g i j) H
noncomputable def rI0 (g:Int->Int->V):R2:=fun x y H Q=>∃i j,x=.int i/\y=.int j/\Q (g i j) H
noncomputable def rU (g:Int->V):V->Hp->VK->Prop:=fun x H Q=>∃i,x=.int i/\Q (g i) H
section
variable {X:Cx}{a b c:Expr}{ta tb tc:TE}{pos:Pos}
theorem vc (ha:PE X a ta)(hb:PE X b tb){pins:List (Addr×Obj)}{s:Shared}{σ:St}{H:Hp}{R:V->V->Hp->Prop}(I:Inv X pins σ H s)
  (h:ta σ H fun x H1=>tb σ H1 fun y H2=>R x y H2) {Q:Value->Shared->Prop}{f:Value->Value->Sem Value}
  (hf:∀v u s2 x y H2,Inv X pins σ H2 s2->cI x v->cI y u->R x y H2->wpAny (model X.prog X.w) X.A (f v u) Q X.xe s2) :
  wpAny (model X.prog X.w) X.A (eval a X.env) (fun v s₁=>wpAny (model X.prog X.w) X.A (eval b X.env) (fun u s₂=>wpAny (model X.prog X.w) X.A (f v u) Q X.xe s₂) X.xe s₁) X.xe s:=by
 refine thn (ha pins s σ H _ I h) fun v s1 zz=>?_;obtain ⟨x,H1,I1,r1,q1⟩:=zz;refine thn (hb pins s1 σ H1 _ I1 q1) fun u s2 zz=>?_;obtain ⟨y,H2,I2,r2,q2⟩:=zz;exact hf v u s2 x y H2 I2 r1 r2 q2
theorem pe_op {op:Operator}{r:R2}(ho:OpR X (binaryOp op) r)(ha:PE X a ta)(hb:PE X b tb):PE X (.BinOp a op b pos) (tOp r ta tb):=by
 intro pins s σ H Q I h;exact wpAny_BinOp (vc ha hb I h fun v u s2 x y H2 I2 rx ry q=>ho pins s2 σ H2 x y v u Q I2 rx ry q)
theorem pe_un {op:UnaryOp}{r:V->Hp->VK->Prop}(ho:UnR X (unaryOp op) r)(ha:PE X a ta):PE X (.UnaryOp op a pos) (tUn r ta):=by
 intro pins s σ H Q I h;exact UnaryOp_ (thn (ha pins s σ H _ I h) fun v s1 ⟨x,H1,I1,r1,q1⟩=>ho pins s1 σ H1 x v Q I1 r1 q1)
theorem vZ {f:Value->Value->Sem Value}{C:Int->Int->Prop}{g:Int->Int->Int}
  (rule:∀(i j:Int) (t u:Tok) (s:Shared) (Q:Value->Shared->Prop) (E:Value->Shared->Prop),C i j->Q (.int (g i j) s.toks) { s with toks:=s.toks+1 }->wpAny (model X.prog X.w) X.A (f (.int i t) (.int j u)) Q E s) :
  OpR X f (rI C fun i j=>.int (g i j)):=by
 intro pins s σ H x y v u Q I rx ry h;obtain⟨i,j,rfl,rfl,hc,q⟩:=h;obtain⟨t,rfl⟩:=rx;obtain⟨t',rfl⟩:=ry;exact rule i j t t' s _ _ hc ⟨.int (g i j),H,I.tok _,⟨_,rfl⟩,q⟩
theorem vL {f:Value->Value->Sem Value}{g:Int->Int->Int}
  (rule:∀(i j:Int) (t u:Tok) (s:Shared) (Q:Value->Shared->Prop) (E:Value->Shared->Prop),Q (.int (g i j) s.toks) { s with toks:=s.toks+1 }->wpAny (model X.prog X.w) X.A (f (.int i t) (.int j u)) Q E s) :
  OpR X f (rI0 fun i j=>.int (g i j)):=by
 intro pins s σ H x y v u Q I rx ry h;obtain⟨i,j,rfl,rfl,q⟩:=h;obtain⟨t,rfl⟩:=rx;obtain⟨t',rfl⟩:=ry;exact rule i j t t' s _ _ ⟨.int (g i j),H,I.tok _,⟨_,rfl⟩,q⟩
theorem uc {f:Value->Value->Sem Value}{g:Int->Int->Bool}
  (rule:∀(i j:Int) (t u:Tok) (s:Shared) (Q:Value->Shared->Prop) (E:Value->Shared->Prop),Q (.bool (g i j)) s->wpAny (model X.prog X.w) X.A (f (.int i t) (.int j u)) Q E s) :
  OpR X f (rI0 fun i j=>.bl (g i j)):=by
 intro pins s σ H x y v u Q I rx ry h;obtain⟨i,j,rfl,rfl,q⟩:=h;obtain⟨t,rfl⟩:=rx;obtain⟨t',rfl⟩:=ry;exact rule i j t t' s _ _ ⟨.bl (g i j),H,I,rfl,q⟩
def CDiv (i j:Int):Prop:=0<j/\j<1073741824
def CPow (i j:Int):Prop:=0<=j/\j<=1000000/\i.natAbs<2 ^ 64
def CMul (i j:Int):Prop:=(-(2 ^ 64)<i/\i<2 ^ 64)\/(-(2 ^ 64)<j/\j<2 ^ 64)
theorem CMul.ok {i j:Int}(h:CMul i j):IntMulOk i j:=by
 rcases h with ⟨h1,h2⟩|⟨h1,h2⟩
 ·exact .of_left (intBits_le_64 h1 h2)
 ·exact .of_right (intBits_le_64 h1 h2)
theorem ub:OpR X (binaryOp .Add) (rI0 fun i j=>.int (i+j)):=vL fun _ _ _ _ _ _ _ q=>add_int q
theorem op_sub:OpR X (binaryOp .Sub) (rI0 fun i j=>.int (i-j)):=vL fun _ _ _ _ _ _ _ q=>sub_int q
theorem op_mul:OpR X (binaryOp .Mult) (rI CMul fun i j=>.int (i*j)):=vZ fun _ _ _ _ _ _ _ hc q=>mul_int q hc.ok
theorem op_fdiv:OpR X (binaryOp .FloorDiv) (rI CDiv fun i j=>.int (i/j)):=vZ fun i j _ _ _ _ _ hc q=>by
 have h1:(0:Int)<j:=hc.1;have h2:j<1073741824:=hc.2;exact floordiv_int ⋯ (by rw[Int.fdiv_eq_ediv_of_nonneg i ⋯];exact q) (.inl (PyProof.noPylong_small ⋯))
theorem op_mod:OpR X (binaryOp .Mod) (rI (fun _ j=>0<j) fun i j=>.int (i%j)):=vZ fun i j _ _ _ _ _ hc q=>by
 have h1:(0:Int)<j:=hc;exact mod_int' ⋯ (by rw[Int.fmod_eq_emod_of_nonneg i ⋯];exact q)
theorem op_pow:OpR X (binaryOp .Pow) (rI CPow fun i j=>.int (i ^ j.toNat)):=vZ fun _ _ _ _ _ _ _ hc q=>pow_int_small hc.1 hc.2.1 hc.2.2 q
theorem wR {f:Value->Sem Value}{g:Int->Int}
  (rule:∀(i:Int) (t:Tok) (s:Shared) (Q:Value->Shared->Prop) (E:Value->Shared->Prop),Q (.int (g i) s.toks) { s with toks:=s.toks+1 }->wpAny (model X.prog X.w) X.A (f (.int i t)) Q E s) :
  UnR X f (rU fun i=>.int (g i)):=by
 intro pins s σ H x v Q I rx h;obtain⟨i,rfl,q⟩:=h;obtain⟨t,rfl⟩:=rx;exact rule i t s _ _ ⟨.int (g i),H,I.tok _,⟨_,rfl⟩,q⟩
theorem un_neg:UnR X (unaryOp .USub) (rU fun i=>.int (-i)):=wR fun _ _ _ _ _ q=>neg_int q
end
section
variable {X:Cx}{a b c:Expr}{ta tb tc:TE}{pos:Pos}
theorem nG {pins:List (Addr×Obj)}{σ:St}{H:Hp}{s:Shared}{Q:VK}{k k':Bool}(I:Inv X pins σ H s)(q:Q (.bl k) H)(e:k=k'):EP X pins σ Q (.bool k') s:=by
 subst e;exact⟨.bl k,H,I,rfl,q⟩
theorem op_lt:OpR X (compareOp .Lt) (rI0 fun i j=>.bl (decide (i<j))):=uc fun _ _ _ _ _ _ _ q=>lt_int q
theorem op_le:OpR X (compareOp .LtE) (rI0 fun i j=>.bl (decide (i<=j))):=uc fun _ _ _ _ _ _ _ q=>le_int q
theorem op_gt:OpR X (compareOp .Gt) (rI0 fun i j=>.bl (decide (j<i))):=uc fun _ _ _ _ _ _ _ q=>gt_int q
theorem op_in_str:OpR X (compareOp .In) (fun x y H Q=>∃i j,x=.str i/\y=.str j/\Q (.bl (!(Builtin.Str.occurrences j i 0 j.length 1).isEmpty)) H):=by
 intro pins s σ H x y v u Q I rx ry h;obtain⟨i,j,rfl,rfl,q⟩:=h;obtain⟨t,rfl⟩:=rx;obtain⟨t',rfl⟩:=ry;exact in_str (nG I q rfl)
theorem op_isN:OpR X (compareOp .Is) (fun x y H Q=>y=.non/\Q (.bl (decide (x=.non))) H):=by
 intro pins s σ H x y v u Q I rx ry h;obtain⟨rfl,q⟩:=h;cases ry;refine is_none_gen (nG I q ?_);cases x <;> first
  |(cases rx;rfl)
  |(obtain⟨t,rfl⟩:=rx;rfl)
theorem op_notin_str:OpR X (compareOp .NotIn) (fun x y H Q=>∃i j,x=.str i/\y=.str j/\Q (.bl (!(!(Builtin.Str.occurrences j i 0 j.length 1).isEmpty))) H):=by
 intro pins s σ H x y v u Q I rx ry h;obtain⟨i,j,rfl,rfl,q⟩:=h;obtain⟨t,rfl⟩:=rx;obtain⟨t',rfl⟩:=ry;exact notIn_str (nG I q rfl)
theorem OpR.or {f:Value->Value->Sem Value}{r r':R2}(h:OpR X f r)(h':OpR X f r'):OpR X f (fun x y H Q=>r x y H Q\/r' x y H Q):=by
 intro pins s σ H x y v u Q I rx ry q;rcases q with q|q
 ·exact h pins s σ H x y v u Q I rx ry q
 ·exact h' pins s σ H x y v u Q I rx ry q
theorem nomark (b:Expr){op:CmpOp}(h:op≠.In:=by decide)(h2:op≠.NotIn:=by decide):behindInMarks op b=false:=by
 have e1:(op==CmpOp.In)=false:=by cases op <;> first|rfl|exact absurd rfl h
 have e2:(op==CmpOp.NotIn)=false:=by cases op <;> first|rfl|exact absurd rfl h2
 cases b <;> simp[behindInMarks,e1,e2]
theorem pe_cmpR {op:CmpOp}{r:R2}(ho:OpR X (compareOp op) r)(ha:PE X a ta)(hb:PE X b tb)(hm:behindInMarks op b=false):PE X (.Compare a [op] [b] pos) (tOp r ta tb):=by
 intro pins s σ H Q I h;exact wpAny_Compare1 (vc ha hb I h fun v u s2 x y H2 I2 rx ry q=>ho pins s2 σ H2 x y v u Q I2 rx ry q) hm
noncomputable def tJ (t:TE):TT:=fun σ H Q=>t σ H fun x H'=>∃k,x=.bl k/\Q k H'
theorem pt_cmpR {op:CmpOp}{r:R2}(ho:OpR X (compareOp op) r)(ha:PE X a ta)(hb:PE X b tb)(hm:behindInMarks op b=false):PT X (.Compare a [op] [b] pos) (tJ (tOp r ta tb)):=by
 intro pins s σ H Q I h;refine wpAny_isTrue_Compare1 (thn (ha pins s σ H _ I h) fun v s1 ⟨x,H1,I1,r1,q1⟩=>thn (hb pins s1 σ H1 _ I1 q1) fun u s2 ⟨y,H2,I2,r2,q2⟩ =>
  thn (ho pins s2 σ H2 x y v u _ I2 r1 r2 q2) fun c s3 ⟨z,H3,I3,r3,k,e,q3⟩=>?_) hm
 subst e;cases r3;exact wpAny_truthy_bool ⟨H3,I3,q3⟩
noncomputable def tChain (r r':R2)(ta tb tc:TE):TE:=fun σ H Q=>ta σ H fun x H1=>tb σ H1 fun y H2=>r x y H2 fun z H3=>∃k,z=.bl k ∧
 (if k=true then tc σ H3 fun w' H4=>r' y w' H4 Q else Q (.bl false) H3)
theorem pt_chain {op op':CmpOp}{r r':R2}(ho:OpR X (compareOp op) r)(ho':OpR X (compareOp op') r')(ha:PE X a ta)(hb:PE X b tb)(hc:PE X c tc)
  (hm:lastMarks [op,op'] [b,c]=false:=by with_unfolding_all rfl):PT X (.Compare a [op,op'] [b,c] pos) (tJ (tChain r r' ta tb tc)):=by
 intro pins s σ H Q I h;refine isTrue_chain (thn (ha pins s σ H _ I h) fun v s1 ⟨x,H1,I1,r1,q1⟩=>test_link (thn (hb pins s1 σ H1 _ I1 q1) fun u s2 ⟨y,H2,I2,r2,q2⟩ =>
  thn (ho pins s2 σ H2 x y v u _ I2 r1 r2 q2) fun d s3 ⟨z,H3,I3,r3,k,e,q3⟩=>?_)) hm
 subst e;cases r3;refine wpAny_truthy_bool ?_;cases k with
 |false =>
  obtain⟨k',e',q'⟩:=q3;cases e';exact ite_ff ⟨H3,I3,q'⟩
 |true =>
  refine ite_tt (test_last (thn (hc pins s3 σ H3 _ I3 q3) fun w' s4 ⟨z',H4,I4,r4,q4⟩=>thn (ho' pins s4 σ H4 y z' u w' _ I4 r2 r4 q4) fun d' s5 zz=>?_));obtain ⟨z2,H5,I5,r5,k2,e2,q5⟩:=zz;subst e2;cases r5;exact wpAny_truthy_bool ⟨H5,I5,q5⟩
theorem jP:(sizeLine:Nat)<2 ^ 63:=by rw[sizeLine_eq];decide
theorem nh:OpR X (binaryOp .Add) (fun x y H Q=>∃i j,x=.str i/\y=.str j/\i.length+j.length<=sizeLine/\Q (.str (i++j)) H):=by
 intro pins s σ H x y v u Q I rx ry h;obtain⟨i,j,rfl,rfl,hz,q⟩:=h;obtain⟨t,rfl⟩:=rx;obtain⟨t',rfl⟩:=ry;exact add_str (fun t' tk=>⟨.str (i++j),H,I.tok _,⟨_,rfl⟩,q⟩) hz
theorem qe {x:V}{us:List Value}(r:cA [x] us):∃u,us=[u]/\cI x u:=by
 cases r with
 |cons r1 r2=>cases r2;exact⟨_,rfl,r1⟩
theorem vn {x y:V}{us:List Value}(r:cA [x,y] us):∃u w',us=[u,w']/\cI x u/\cI y w':=by
 cases r with
 |cons r1 r2 =>
  cases r2 with
  |cons r3 r4=>cases r4;exact⟨_,_,rfl,r1,r3⟩
theorem call_max2 (hc:X.calm=true):CallR X (.builtin "max") (fun xs H Q=>∃i j,xs=[.int i,.int j]/\Q (.int (if j>i then j else i)) H):=by
 intro pins s σ H xs us Q I r h;obtain⟨i,j,rfl,q⟩:=h;obtain⟨u,w',rfl,⟨t,rfl⟩,⟨t',rfl⟩⟩:=vn r;refine max_two_ints (I.ok.hd hc) fun h' tk k=>⟨_,H,I.kept k,?_,q⟩;by_cases hj:j>i
 ·rw[if_pos hj,if_pos hj];exact⟨_,rfl⟩
 ·rw[if_neg hj,if_neg hj];exact⟨_,rfl⟩
end
end L2
namespace L2
open PySem PySem.Spec PyProof.Rows
section
variable {prog:Program}{w:World}{A:Around}{E:Value->Shared->Prop}{s:Shared}{K:PySem.W.Frag}{x dx C f:Addr}{mA:Str->Option Value}{name:Str}{v:Value}
end
section
variable {P:Program}{w:World}{H H':Hp}{h h':Heap}{a C dx:Addr}{fs fs':List (Str×V)}
end
section
variable {X:Cx}{pins:List (Addr×Obj)}{σ:St}{H:Hp}{s:Shared}{a C dx:Addr}{fs:List (Str×V)}{f:Str}{v:V}{A:Around}{E:Value->Shared->Prop}
end
section
variable {X:Cx}{o e value:Expr}{f:Str}{pos pos' tpos:Pos}{ta tv:TE}
end
section
variable {X:Cx}{pins:List (Addr×Obj)}{σ:St}{H:Hp}{s:Shared}{A:Around}{E:Value->Shared->Prop}{Q:Value->Shared->Prop}{c:Value}{b:Bool}
end
end L2
namespace L2
open PySem PySem.Spec PyProof.Rows
structure Room (k:Nat)(A:Around):Prop where
 hd:A.handled=none
 dp:A.depth+3*k+5<recursionLimit
 un:A.units+16*k+200<cLine
theorem Room.mono {j k:Nat}{A:Around}(r:Room k A)(h:j<=k):Room j A:=⟨r.hd,by have:=r.dp;omega,by have:=r.un;omega⟩
theorem Room.deeper {k:Nat}{A:Around}(r:Room (k+1) A)(env:Env):Room k (A.deeper env) :=
 ⟨r.hd,by have:=r.dp;show A.depth+1+3*k+5<_;omega,by have:=r.un;show A.units+3+16*k+200<_;omega⟩
theorem Room.depth {k:Nat}{A:Around}(r:Room k A):A.depth<recursionLimit:=by have:=r.dp;omega
theorem Room.units {k:Nat}{A:Around}(r:Room k A):A.units+64<cLine:=by have:=r.un;omega
noncomputable def tNil:TA:=fun _ H Q=>Q [] H
noncomputable def tCons (ta:TE)(tr:TA):TA:=fun σ H Q=>ta σ H fun x H1=>tr σ H1 fun xs H2=>Q (x::xs) H2
section
variable {X:Cx}{e:Expr}{es:List Expr}{te:TE}{t:TA}{pos:Pos}
theorem pa_nil:PA X [] tNil:=fun _ _ _ _ H Q I h=>Calls.spliced_nil ⟨[],H,I,.nil,h⟩
theorem pa_cons (ha:PE X e te)(hr:PA X es t)(hs:starEach (e::es) X.env=(false,eval e X.env)::starEach es X.env:=by rfl):PA X (e::es) (tCons te t):=by
 intro pos pins s σ H Q I h;rw[hs];show wpAny _ _ (spliced ((false,eval e X.env)::backTo pos (starEach es X.env))) _ _ s;refine Calls.spliced_cons (thn (ha pins s σ H _ I h) fun u s1 zz=>?_);obtain ⟨x,H1,I1,r1,q1⟩:=zz;exact thn (hr pos pins s1 σ H1 _ I1 q1) fun us s2 ⟨xs,H2,I2,r2,q2⟩=>⟨x::xs,H2,I2,.cons r1 r2,q2⟩
noncomputable def wa (t:TA):TE:=fun σ H Q=>t σ H fun xs H1=>xs.length<=sizeLine/\∀p,H1 p=none->Q (.ref p) (cX H1 p (.tup xs))
noncomputable def we (t:TA):TE:=fun σ H Q=>t σ H fun xs H1=>xs.length<=sizeLine/\∀p,H1 p=none->Q (.ref p) (cX H1 p (.lst xs))
theorem pe_tup {x1}(h:PA X es t):PE X (.Tuple es x1 pos) (wa t):=by
 intro pins s σ H Q I hq;refine wpAny_Tuple_spliced (thn (h pos pins s σ H _ I hq) fun us s1 ⟨xs,H1,I1,r,z,q⟩=>⟨by rw[<-r.length];exact z,?_⟩);have hf:H1 s1.heap.objs.size=none:=I1.hok.fresh (aq _);refine⟨.ref s1.heap.objs.size,cX H1 s1.heap.objs.size (.tup xs),I1.laid (t':=s1.toks) (fun b u e=>aw _ e) (aq _) ?_,rfl,q _ hf⟩;exact⟨z,us,r,⟨_,aN _ rfl,rfl,_,rfl⟩⟩
theorem pe_lst (h:PA X es t):PE X (.List es pos) (we t):=by
 intro pins s σ H Q I hq;refine wpAny_List_spliced (thn (h pos pins s σ H _ I hq) fun us s1 ⟨xs,H1,I1,r,z,q⟩=>⟨by rw[<-r.length];exact z,?_⟩);have hf:H1 s1.heap.objs.size=none:=I1.hok.fresh (aq _);refine⟨.ref s1.heap.objs.size,cX H1 s1.heap.objs.size (.lst xs),I1.laid (t':=s1.toks) (fun b u e=>aw _ e) (aq _) ?_,rfl,q _ hf⟩;exact⟨z,us,0,r,aN _ rfl⟩
end
noncomputable abbrev Sp:=List V->Hp->VK->XK->Prop
noncomputable abbrev pY:=List Env->Hp->Shared->XK->Value->Shared->Prop
structure tI (P:Program)(w:World)(K:PySem.W.Frag)(mg:Str->Option Value)(base:Heap)(A:Around)(outer:List Env)(s:Shared)(H:Hp):Prop where
 frames:A.frames=some outer
 mod:Mod K mg base
 bs:∀b o,base.get? b=some o->s.heap.get? b=some o/\H b=none
 bsz:base.objs.size<=s.heap.objs.size
 funs:s.heap.FunFrames base outer
 frf:∀b∈frs outer,H b=none
 hok:iq P w H s.heap
 bare:AllBare s.gens
noncomputable def CE (outer:List Env)(P:Program)(w:World)(H:Hp)(s:Shared)(Q:VK)(u:Value)(s':Shared):Prop :=
 ∃v H',s'.os=s.os/\AllBare s'.gens/\Un (frs outer) [] H H' s.heap s'.heap/\iq P w H' s'.heap/\cI v u/\Q v H'
noncomputable def CR (CX:pY)(outer:List Env)(P:Program)(w:World)(H:Hp)(s:Shared)(Q:VK)(E:XK)(r:Result)(s':Shared):Prop :=
 match r with
 |.ok (.ret u)=>CE outer P w H s Q u s'
 |.ok _=>False
 |.error e=>CX outer H s E e s'
structure FnOk (P:Program)(w:World)(K:PySem.W.Frag)(mg:Str->Option Value)(base:Heap)(CX:pY)(k:Nat)(f:Addr)(fd:FuncData)(ps:List Str)(sp:Sp):Prop where
 len:∀vs H Q E,sp vs H Q E->vs.length=ps.length
 run:∀(A:Around) (outer:List Env) (s:Shared) (H:Hp) (args:Args) (us:List Value) (vs:List V) (Q:VK) (E:XK),Room k A->tI P w K mg base A outer s H->BindsTo s fd args (ps.zip us)->cA vs us->sp vs H Q E →
  codeAny (model P w) A (.call (.ref f) args) (CR CX outer P w H s Q E) s
section
variable {X:Cx}{pins:List (Addr×Obj)}{σ:St}{H:Hp}{s s':Shared}
theorem Inv.env0 (I:Inv X pins σ H s):tI X.prog X.w X.K X.mg X.base X.A X.stack s H :=
 ⟨I.ok.frames,I.ok.mod,I.bs,aL I.ok.bsz I.sz,I.stack,I.stkFree,I.hok,I.bare⟩
theorem Inv.after {Q:VK}{u:Value}(I:Inv X pins σ H s)(h:CE X.stack X.prog X.w H s Q u s'):EP X pins σ Q u s':=by
 obtain⟨v,H',os,bare,un,hok,r,q⟩:=h;obtain⟨hh,g,d,t,os'⟩:=s'
 obtain rfl:os'=s.os:=os
 exact⟨v,H',I.call (h':=hh) (g':=g) (d':=d) (t':=t) (ch:=[]) un hok bare (fun b z=>absurd z (by simp)),r,q⟩
end
noncomputable def vB (sp:Sp)(dvs:List V)(E:XK)(t:TA):TE:=fun σ H Q=>t σ H fun vs H1=>sp (vs++dvs) H1 Q E
noncomputable def Binds (K:PySem.W.Frag)(fd:FuncData)(ps:List Str)(ds:List Value):Prop :=
 ∀(s:Shared) (us:List Value),K.In s.heap->(us++ds).length=ps.length->BindsTo s fd ⟨us,[]⟩ (ps.zip (us++ds))
theorem Binds.all {K:PySem.W.Frag}{fd:FuncData}{ps:List Str}(h:∀us:List Value,us.length=ps.length->bindArgs fd ⟨us,[]⟩=pure (ps.zip us)):Binds K fd ps []:=fun s us _ hl=>by
 rw[aO] at hl ⊢;exact .of_eq (h us hl)
def nV (CX:pY)(X:Cx)(E:XK):Prop:=∀(pins:List (Addr×Obj)) (σ:St) (H:Hp) (s:Shared) (e:Value) (s':Shared),Inv X pins σ H s->CX X.stack H s E e s'->X.xe e s'
section
variable {X:Cx}{CX:pY}{k:Nat}{f C:Addr}{fd:FuncData}{ps:List Str}{sp:Sp}{dvs:List V}{ds:List Value}{E:XK}{x m:Str}{p pos apos:Pos}{e o:Expr}{es:List Expr}{ta:TE}{t:TA}
theorem t9 {pins:List (Addr×Obj)}{σ:St}{H:Hp}{s:Shared}{Q:VK}{us:List Value}{vs:List V}(F:FnOk X.prog X.w X.K X.mg X.base CX k f fd ps sp)(hr:Room k X.A)(hb:Binds X.K fd ps ds)(hd:cA dvs ds)(hx:nV CX X E)
  (I:Inv X pins σ H s) (r:cA vs us) (h:sp (vs++dvs) H Q E):wpAny (model X.prog X.w) X.A (call (.ref f) us) (EP X pins σ Q) X.xe s:=by
 have r2:cA (vs++dvs) (us++ds):=r.append hd;have hl:(us++ds).length=ps.length:=by rw[<-r2.length];exact F.len _ _ _ _ h
 refine wpAny_call (codeAny_mono (F.run X.A X.stack s H ⟨us,[]⟩ (us++ds) (vs++dvs) Q E hr I.env0 (hb s us I.kIn hl) r2 h) fun r s' hq=>?_);cases r with
 |error e=>exact hx pins σ H s e s' I hq
 |ok fl =>
  cases fl with
  |ret u=>exact I.after hq
  |next=>exact False.elim hq
  |brk=>exact False.elim hq
  |cont=>exact False.elim hq
theorem pe_call (F:FnOk X.prog X.w X.K X.mg X.base CX k f fd ps sp)(hr:Room k X.A)(hg:Gl X x)(hm:X.mg x=some (.ref f))(hk:PySem.W.keepIn X.K (.ref f)=true)(hb:Binds X.K fd ps ds)(hd:cA dvs ds)(hx:nV CX X E)
  (ha:PA X (e::es) t) (hdb:(x==("__debug__" : Str))=false:=by decide) (he:starEach (e::es) X.env=(false,eval e X.env)::starEach es X.env:=by rfl) (hpl:(backTo pos (starEach es X.env)).any (·.1)=false:=by rfl) :
  PE X (.Call (.Name x p) (e::es) [] pos) (vB sp dvs E t):=by
 intro pins s σ H Q I h;refine wpAny_Call_Name_kw (ld_glob I hg hm ?_ hdb);refine PySem.W.callWith_K (h₀:=X.base) I.ok.mod.kin hk (thn (ha pos pins s σ H _ I h) fun us s1 ⟨vs,H1,I1,r,q⟩=>⟨I1.kIn,?_⟩) he hpl;exact t9 F hr hb hd hx I1 r q
end
section
variable {X:Cx}{CX:pY}{k:Nat}{f C:Addr}{fd:FuncData}{ps ks:List Str}{sp:Sp}{E:XK}{x m:Str}{p pos apos kpos:Pos}{e o:Expr}{es:List Expr}{kws:List Keyword}{te ta:TE}{t tk:TA}{nm:Option Str}
variable {g:List Value->List Value->List Value}{gV:List V->List V->List V}
end
structure FnScope (N P:List Str)(sc:Scope):Prop where
 kind:sc.kind=.function
 co:sc.isCoroutine=false
 gen:sc.isGenerator=false
 nd:N.Nodup
 pre:N.take P.length=P
 par:∀x∈P,sc.names.lookup x=some .local\/sc.names.lookup x=some .cell
 nofree:∀y∈sc.names,y.2≠.free
theorem kX {kindOf:Str->Option NameKind}{x:Str}:∀{binds:List (Str×Value)}{m:Str->Option Value},(∀v,(x,v)∉binds)->bindL kindOf binds m x=m x
 |[],_,_=>rfl
 | (n,v)::r,m,h=>by
  unfold bindL;rw[kX fun w hw=>h w (ak _ hw)];split
  ·have:x≠n:=by rintro rfl;exact h v aB
   simp[this]
  ·rfl
theorem kZ {kindOf:Str->Option NameKind}{x:Str}:∀{binds:List (Str×Value)}{m:Str->Option Value},(∀v,(x,v)∉binds)->bindC kindOf binds m x=m x
 |[],_,_=>rfl
 | (n,v)::r,m,h=>by
  unfold bindC;rw[kZ fun w hw=>h w (ak _ hw)];split
  ·rfl
  ·have:x≠n:=by rintro rfl;exact h v aB
   simp[this]
theorem kY {kindOf:Str->Option NameKind}{x:Str}{v:Value}:∀{P:List Str}{vs:List Value}{i:Nat}{m:Str->Option Value},P.Nodup->P[i]?=some x->vs[i]?=some v->kindOf x=some .local →
  bindL kindOf (P.zip vs) m x=some v
 |[],_,_,_,_,h,_,_=>by simp at h
 |_::_,[],_,_,_,_,h,_=>by simp at h
 | p::P,w::vs,0,m,nd,h1,h2,hk=>by
  simp at h1 h2;subst h1;subst h2;show bindL kindOf ((p,w)::P.zip vs) m p=_;unfold bindL;rw[kX fun v hv=>(bh.mp nd).1 (List.of_mem_zip hv).1,if_pos hk];simp
 | p::P,w::vs,i+1,m,nd,h1,h2,hk=>by
  show bindL kindOf ((p,w)::P.zip vs) m x=_;unfold bindL;exact kY (i:=i) (bh.mp nd).2 (by simpa using h1) (by simpa using h2) hk
theorem k4 {kindOf:Str->Option NameKind}{x:Str}{v:Value}:∀{P:List Str}{vs:List Value}{i:Nat}{m:Str->Option Value},P.Nodup->P[i]?=some x->vs[i]?=some v->kindOf x≠some .local →
  bindC kindOf (P.zip vs) m x=some v
 |[],_,_,_,_,h,_,_=>by simp at h
 |_::_,[],_,_,_,_,h,_=>by simp at h
 | p::P,w::vs,0,m,nd,h1,h2,hk=>by
  simp at h1 h2;subst h1;subst h2;show bindC kindOf ((p,w)::P.zip vs) m p=_;unfold bindC;rw[kZ fun v hv=>(bh.mp nd).1 (List.of_mem_zip hv).1,if_neg hk];simp
 | p::P,w::vs,i+1,m,nd,h1,h2,hk=>by
  show bindC kindOf ((p,w)::P.zip vs) m x=_;unfold bindC;exact k4 (i:=i) (bh.mp nd).2 (by simpa using h1) (by simpa using h2) hk
noncomputable def start (N:List Str)(vs:List V):St:=vs.map some++a8 (N.length-vs.length) none
noncomputable def cxOf (CX:pY)(P:Program)(w:World)(K:PySem.W.Frag)(mg:Str->Option Value)(base:Heap)(N:List Str)(qual:Str)(scope:Scope)(f:Addr)(cd:Value)(A:Around)(outer:List Env)(s:Shared)(H:Hp)(E:XK):Cx where
 prog:=P
 w:=w
 K:=K
 mg:=mg
 base:=base
 A:=A.deeper (envOfC qual scope s.heap.objs.size f cd)
 N:=N
 s₀:=s
 H₀:=H
 env:=envOfC qual scope s.heap.objs.size f cd
 outer:=outer
 stack:=envOfC qual scope s.heap.objs.size f cd::outer
 ex:=[]
 calm:=true
 fn:=fun _=>true
 pn:=[]
 xe:=fun e s'=>wpAny (model P w) (A.deeper (envOfC qual scope s.heap.objs.size f cd)) (leaving (envOfC qual scope s.heap.objs.size f cd) e) (fun _ s''=>CX outer H s E e s'') (fun e' s''=>CX outer H s E e' s'') s'
theorem mR {sc:Scope}{n:Nat}{x:Str}(h:sc.names.lookup x=some .cell):∃c,(cellsFrom n sc.names []).lookup x=some c:=by
 have q:=PySem.W.cellsFrom_some sc.names n [] (.inl h);exact Option.isSome_iff_exists.mp q
theorem pA {CX:pY}{P:Program}{w:World}{K:PySem.W.Frag}{mg:Str->Option Value}{base:Heap}{N ps:List Str}{qual:Str}{scope:Scope}{f:Addr}{cd:Value}{A:Around}{outer:List Env}{s s1:Shared}{H:Hp}{E:XK}{us:List Value}{vs:List V}
  (S:FnScope N ps scope) (hd:A.handled=none) (e0:tI P w K mg base A outer s H) (hl:vs.length=ps.length) (r:cA vs us)
  (x:InCallC s s.heap.objs.size (bindL (envOfC qual scope s.heap.objs.size f cd).kindOf (ps.zip us) fun _=>none) (cellsFrom (s.heap.objs.size+1) scope.names []) (bindC (envOfC qual scope s.heap.objs.size f cd).kindOf (ps.zip us) fun _=>none) s1) :
  Inv (cxOf CX P w K mg base N qual scope f cd A outer s H E) [] (start N vs) H s1:=by
 have hpl:ps.length<=N.length:=by have:=congrArg List.length S.pre;rw[aZ] at this;omega
 obtain⟨h1,tk,rfl,hk⟩:=x.done;have noA:∀b:Addr,b∉(cxOf CX P w K mg base N qual scope f cd A outer s H E).ex:=fun b z=>absurd (show b∈([]:List Addr) from z) (by simp);refine⟨⟨e0.mod,S.kind,rfl,rfl,aq _,fun y z c h1 h2=>?_,fun y hy=>?_,fun y c _ h=>?_,fun _=>hd,Around.frames_deeper e0.frames,.inr ⟨rfl,rfl⟩,fun b z=>absurd z (noA b),e0.bs,e0.bsz,fun b _ _=>noA b,fun b z=>absurd z (noA b),e0.funs,e0.frf⟩,
  rfl,e0.bare,Un.kept hk,⟨_,x.toInCall.ns,fun i y v h1 h2 h3=>?_⟩,fun y c h=>⟨_,x.cell y c h⟩,e0.hok.fresh (aq _),fun y c h=>?_,fun p hp=>absurd (show p∈([]:List (Addr×Obj)) from hp) (by simp),e0.hok.kept hk,?_⟩
 ·exact name_of_addr x.apart (PySem.mem_of_lookup h1) (PySem.mem_of_lookup h2)
 ·have hy:scope.names.lookup y=some .cell\/scope.names.lookup y=some .free:=hy;rcases hy with hy|hy
  ·exact mR hy
  ·exact absurd rfl (S.nofree _ (PySem.mem_of_lookup hy))
 ·exact Nat.le_of_lt (x.above y c (PySem.mem_of_lookup h))
 ·have hi:i<vs.length:=by
   unfold start at h2;by_cases hi:i<vs.length
   ·exact hi
   ·rw[aT (by simpa using hi)] at h2;rw[bA] at h2;split at h2 <;> cases h2
  have ha:vs[i]?=some v:=by
   unfold start at h2;rw[ba (by simpa using hi),aH] at h2;cases e:vs[i]? with
   |none=>rw[e] at h2;cases h2
   |some a=>rw[e] at h2;cases h2;rfl
  obtain⟨u,hu,rv⟩:=r.get ha;have hp:ps[i]?=some y:=by
   rw[<-S.pre,List.getElem?_take_of_lt ⋯];exact h1
  have ndP:ps.Nodup:=by rw[<-S.pre];exact S.nd.sublist (List.take_sublist _ _)
  refine⟨u,rv,?_⟩;rcases S.par y (aX hp) with k|k
  ·exact .inl ⟨k,kY ndP hp hu k⟩
  ·obtain⟨c,e⟩:=mR (n:=s.heap.objs.size+1) k;refine .inr ⟨.inl k,c,e,?_⟩;have q:=x.cell y c e;rw[k4 ndP hp hu (by show scope.names.lookup y≠_;rw[k];decide)] at q;exact q
 ·exact e0.hok.fresh (Nat.le_of_lt (x.above y c (PySem.mem_of_lookup h)))
 ·unfold start;show _=N.length;rw[au,az,aJ];omega
theorem fn_of {CX:pY}{P:Program}{w:World}{K:PySem.W.Frag}{mg:Str->Option Value}{base:Heap}{k:Nat}{f:Addr}{name qual:Str}{params:Arguments}{body:List Stmt}{scope:Scope}{dV kV doc pm cdv ct oc:Value}{an od:Option Addr}
  {osl:Array (Option Value)}{N ps:List Str}{sp:Sp} (lk:K.lookup f=some ⟨oc,od,.func (PySem.W.fnOf name qual params body scope dV kV doc pm an cdv ct),osl⟩) (hcd:PySem.W.codeIn K cdv qual=true) (S:FnScope N ps scope)
  (len:∀vs H Q E,sp vs H Q E->vs.length=ps.length)
  (hbody:∀(A:Around) (outer:List Env) (s:Shared) (H:Hp) (vs:List V) (Q:VK) (E:XK),Room k (A.deeper (envOfC qual scope s.heap.objs.size f cdv))->sp vs H Q E →
   ∃t,PSs (cxOf CX P w K mg base N qual scope f cdv A outer s H E) body t/\t { nx:=fun _ H'=>Q .non H',rt:=Q } (start N vs) H) :
  FnOk P w K mg base CX (k+1) f (PySem.W.fnOf name qual params body scope dV kV doc pm an cdv ct) ps sp:=by
 refine⟨len,fun A outer s H args us vs Q E hr e0 hb r hsp=>?_⟩;have hl:=len _ _ _ _ hsp;have KX:K.In s.heap:=e0.mod.kin.keeps fun b o e=>(e0.bs b o e).1;have lim:s.heap.NoLimit:=e0.mod.nolimit.keeps fun b o e=>(e0.bs b o e).1;have hkind:∀y∈ps.zip us,scope.names.lookup y.1=some .local\/(scope.names.lookup y.1=some .cell/\((cellsFrom (s.heap.objs.size+1) scope.names []).lookup y.1).isSome=true):=fun⟨n,v⟩ hy=>by
  rcases S.par n (List.of_mem_zip hy).1 with q|q
  ·exact .inl q
  ·exact .inr ⟨q,PySem.W.cellsFrom_some _ _ _ (.inl q)⟩
 refine codeAny_call_function hr.depth (KX _ _ lk) rfl S.co S.gen rfl (PySem.W.codeRec_of KX hcd) (hb _ _ _ _ ?_);refine wpAny_newFunctionEnv_cells S.kind hkind fun env he s1 x=>?_;subst he;refine⟨lim.keeps x.toInCall.keep,codeAny_func ?_⟩;obtain⟨t,ht,hq⟩:=hbody A outer s H vs Q E (hr.deeper _) hsp;have I:Inv (cxOf CX P w K mg base N qual scope f cdv A outer s H E) [] (start N vs) H s1:=pA S hr.hd e0 hl r x;refine wpAny_mono (ht [] s1 (start N vs) H _ I hq) (fun fl s' hs=>?_) fun e s' hs=>hs;have fin:∀{σ':St}{H':Hp}{v:V}{u:Value},Inv (cxOf CX P w K mg base N qual scope f cdv A outer s H E) [] σ' H' s'->cI v u->Q v H'->CE outer P w H s Q u s' :=
  fun {σ' H' v u} J rv q=>⟨v,H',J.os,J.bare,J.base,J.hok,rv,q⟩
 cases fl with
 |ret u =>
  obtain⟨v,σ',H',J,rv,q⟩:=hs;exact fin J rv q
 |next =>
  obtain⟨σ',H',J,q⟩:=hs;exact fin (v:=V.non) (u:=Value.none) J rfl q
 |brk =>
  obtain⟨_,_,_,q⟩:=hs;exact False.elim q
 |cont =>
  obtain⟨_,_,_,q⟩:=hs;exact False.elim q
end L2
namespace L2
open PySem PySem.Spec PyProof.Rows
section
variable {X:Cx}{x:Str}{p pos:Pos}{e:Expr}{es:List Expr}{t:TA}{id T:String}{r:List V->Hp->VK->Prop}
noncomputable def tCB (r:List V->Hp->VK->Prop)(t:TA):TE:=fun σ H Q=>t σ H fun vs H1=>r vs H1 Q
theorem pe_callB (hc:CallR X (.builtin id) r)(hg:Gl X x)(hm:X.mg x=none)(hv:bootBuiltins x=some (.builtin id))(ha:PA X (e::es) t)(hn:x ≠ "__name__" := by decide)(hdb:(x==("__debug__" : Str))=false:=by decide)
  (he:starEach (e::es) X.env=(false,eval e X.env)::starEach es X.env:=by rfl) (hpl:(backTo pos (starEach es X.env)).any (·.1)=false:=by rfl):PE X (.Call (.Name x p) (e::es) [] pos) (tCB r t):=by
 intro pins s σ H Q I h;refine wpAny_Call_Name_kw (lL I hg hm hv ?_ hn hdb);exact PyProof.Rows.callWith_builtin1 (thn (ha pos pins s σ H _ I h) fun us s1 ⟨vs,H1,I1,r1,q1⟩=>hc pins s1 σ H1 vs us Q I1 r1 q1) he hpl
theorem pe_callTy (hc:CallR X (.type T) r)(hg:Gl X x)(hm:X.mg x=none)(hv:bootBuiltins x=some (.type T))(ha:PA X (e::es) t)(hn:x ≠ "__name__" := by decide)(hdb:(x==("__debug__" : Str))=false:=by decide)
  (he:starEach (e::es) X.env=(false,eval e X.env)::starEach es X.env:=by rfl) (hpl:(backTo pos (starEach es X.env)).any (·.1)=false:=by rfl):PE X (.Call (.Name x p) (e::es) [] pos) (tCB r t):=by
 intro pins s σ H Q I h;refine wpAny_Call_Name_kw (lL I hg hm hv ?_ hn hdb);exact PyProof.Rows.callWith_type1 (thn (ha pos pins s σ H _ I h) fun us s1 ⟨vs,H1,I1,r1,q1⟩=>hc pins s1 σ H1 vs us Q I1 r1 q1) he hpl
end
end L2
namespace HT
open PySem PyProof.Rows
section
open PySem.SeqAt
open PySem.AutoSeq1 (wpAny_loadPart')
open PySem.MeetsSeq PySem.MeetsSeq2 PySem.MeetsSeq3
end
section
variable {prog:Program}{w:World}{A:Around}{E:Value->Shared->Prop}{s:Shared}
theorem cat_tup {t b:Addr}{vs ws:List Value}{Q:Value->Shared->Prop}(ht:IsTup s.heap t vs.toArray)(hb:IsTup s.heap b ws.toArray)(hv:vs≠[])
  (h1:ws=[]->Q (.ref t) s) (h2:ws≠[]->Q (.ref s.heap.objs.size) { s with heap:=s.heap.push { cls:=.type "tuple", data:=.seq (vs++ws).toArray } })
  (hsz:vs.length+ws.length<=sizeLine):wpAny (model prog w) A (binaryOp .Add (.ref t) (.ref b)) Q E s:=by
 obtain⟨⟨cls,dd,data,sl⟩,ho,hc,n,hd⟩:=id ht;obtain⟨⟨cls2,dd2,data2,sl2⟩,ho2,hc2,n2,hd2⟩:=id hb;simp only at hc hd hc2 hd2;subst hc hd hc2 hd2;have e:vs.toArray++ws.toArray=(vs++ws).toArray:=by simp
 by_cases hw:ws=[]
 ·exact concat_meets ⟨_,ho,rfl⟩ ⟨_,ho2,rfl⟩ noFill_tuple_add seq_tuple_add PySem.F.slot_tuple_add PySem.F.entry_tuple_add (PySem.F.args_tuple_add_2 _ _)
   (tuple_addW1 t b vs.toArray ws.toArray n n2 dd dd2 sl sl2 (by simpa using hv) (by simp[hw])) ⟨ho,ho2,h1 hw⟩
 ·refine concat_meets ⟨_,ho,rfl⟩ ⟨_,ho2,rfl⟩ noFill_tuple_add seq_tuple_add PySem.F.slot_tuple_add PySem.F.entry_tuple_add (PySem.F.args_tuple_add_2 _ _)
   (tuple_addW2 t b vs.toArray ws.toArray n n2 dd dd2 sl sl2 (by simpa using hv) (by simpa using hw) (by rw[aC,aC];exact hsz)) ⟨ho,ho2,?_⟩
  rw[e];exact h2 hw
noncomputable def sIx (n d:Nat):Option Int->Nat
 |none=>d
 |some v=>if v<0 then (v+(n:Int)).toNat else min v.toNat n
theorem t8 (n d:Nat)(hd:d<=n)(o:Option Int):sIx n d o<=n:=by
 cases o with
 |none=>exact hd
 |some v =>
  show (if v<0 then (v+(n:Int)).toNat else min v.toNat n)<=n;by_cases hv:v<0
  ·rw[if_pos hv];omega
  ·rw[if_neg hv];exact Nat.min_le_right _ _
theorem oO (v:Int)(n d:Nat):(if v<0 then max (v+(n:Int)) 0 else min v (n:Int))=((sIx n d (some v):Nat):Int):=by
 show (if v<0 then max (v+(n:Int)) 0 else min v (n:Int))=(((if v<0 then (v+(n:Int)).toNat else min v.toNat n):Nat):Int);by_cases hv:v<0
 ·simp only[if_pos hv];omega
 ·simp only[if_neg hv];omega
theorem nU (lo hi:Option Int)(n:Nat):Builtin.Slice.sliceAdjust lo hi 1 (n:Int)=(((sIx n 0 lo:Nat):Int),((sIx n n hi:Nat):Int)):=by
 have h1:¬((1:Int)<0):=by omega
 unfold Builtin.Slice.sliceAdjust;simp only[h1,if_false];refine Prod.ext ?_ ?_
 ·cases lo with
  |none=>rfl
  |some v=>exact oO v n 0
 ·cases hi with
  |none=>rfl
  |some v=>exact oO v n n
theorem ng (i j:Nat):Builtin.Slice.slicePlaces (i:Int) (j:Int) 1=j-i:=by
 unfold Builtin.Slice.slicePlaces;have h1:(1:Int)>0:=by omega
 simp only[h1,if_true,Int.ediv_one];split <;> omega
theorem jE {v:Value}{o:Option Int}{Q:Option Int->Shared->Prop}(p:IsPart v o)(h:Q o s):wpAny (model prog w) A (Builtin.Slice.slicePartIndex v) Q E s:=by
 cases p with
 |none=>exact slicePart_none h
 |int i t=>exact slicePart_int h
theorem fO {sl:Addr}{vl vu:Value}{lo hi:Option Int}{n:Nat}{Q:Int×Int×Nat->Shared->Prop}(hs:s.heap.IsSliceOf sl vl vu .none)(pl:IsPart vl lo)(pu:IsPart vu hi)
  (h:Q (((sIx n 0 lo:Nat):Int),1,sIx n n hi-sIx n 0 lo) s):wpAny (model prog w) A (Builtin.Slice.sliceApplied (.ref sl) (pure (n:Int))) Q E s:=by
 obtain⟨os,hos,hcs,hds⟩:=id hs;unfold Builtin.Slice.sliceApplied Builtin.Slice.sliceFields;refine ag (ag (bD hos hds (x:=vl) rfl (ag (bD hos hds (x:=vu) rfl (ag (bD hos hds (x:=.none) rfl (aA ?_)))))));refine ag (slicePart_none ?_);show wpAny _ _ (if ((1:Int)==0)=true then _ else _) _ _ s;rw[if_neg (by decide)];refine ag (jE pl (ag (jE pu (ag (aA ?_)))));show wpAny _ _ (match Builtin.Slice.sliceAdjust lo hi 1 (n:Int) with|(lo,hi)=>pure (lo,(1:Int),Builtin.Slice.slicePlaces lo hi 1)) _ _ s;rw[nU lo hi n];show wpAny _ _ (pure (((sIx n 0 lo:Nat):Int),(1:Int),Builtin.Slice.slicePlaces ((sIx n 0 lo:Nat):Int) ((sIx n n hi:Nat):Int) 1)) _ _ s;rw[ng];exact aA h
theorem qq (xs:Array Value)(i k:Nat):((bq k).filterMap fun (m:Nat)=>xs[((i:Int)+(m:Int)*1).toNat]?).toArray=((xs.toList.drop i).take k).toArray:=by
 have e:(fun (m:Nat)=>xs[((i:Int)+(m:Int)*1).toNat]?)=fun m=>xs[i+m]?:=by
  funext m;have:((i:Int)+(m:Int)*1).toNat=i+m:=by omega
  rw[this]
 rw[e];have:=pick_run xs i k;rw[List.filterMap_map] at this;have e2:((fun x=>xs[x]?)∘fun x=>i+x)=fun m=>xs[i+m]?:=rfl;rw[e2] at this;rw[this]
theorem getItem_tuple_cut {t sl:Addr}{items:Array Value}{vl vu:Value}{lo hi:Option Int}{Q:Value->Shared->Prop}(ht:IsTup s.heap t items)(hs:s.heap.IsSliceOf sl vl vu .none)(pl:IsPart vl lo)(pu:IsPart vu hi)
  (hw:¬(sIx items.size 0 lo=0/\sIx items.size items.size hi=items.size))
  (h:Q (.ref s.heap.objs.size) { s with heap:=s.heap.push { cls:=.type "tuple", data:=.seq ((items.toList.drop (sIx items.size 0 lo)).take (sIx items.size items.size hi-sIx items.size 0 lo)).toArray } })
  (hsz:items.size<=sizeLine):wpAny (model prog w) A (getItem (.ref t) (.ref sl)) Q E s:=by
 have htake:sizeOk (.seq ((items.toList.drop (sIx items.size 0 lo)).take (sIx items.size items.size hi-sIx items.size 0 lo)).toArray):=by
  show ((items.toList.drop (sIx items.size 0 lo)).take (sIx items.size items.size hi-sIx items.size 0 lo)).toArray.size<=sizeLine;rw[aC,aZ,aP,bF];omega
 have hj:sIx items.size items.size hi<=items.size:=t8 _ _ (aq _) hi;obtain⟨os,hos,hcs,hds⟩:=id hs;have hTs:s.TypeIs (.ref sl) "slice" := ⟨os,hos,hcs⟩;unfold getItem
 try with_reducible refine bI ?_
 first|refine ag (aA ?_)|skip
 refine ag (wpAny_sequenceKey ht.typeIs (by decide) ?_);refine ag (wpAny_callSpecial?_slot (name:=Str.ofString "__getitem__") ht.typeIs PyProof.Rows.slot_tuple_getitem
  (wpAny_call_entry PyProof.Rows.slot_tuple_getitem ht.typeIs entry_tuple_getitem ?_ (args_tuple_getitem _ _)))
 show wpAny _ _ (Builtin.Tuple.tupleItemsOf (.ref t)>>=_) _ _ s;refine ag (tupleItemsOf_ ht ?_);refine ag (wpAny_typeOf hTs ?_);rw[if_pos (by decide)];refine ag (fO hs pl pu ?_);have hno:¬((((sIx items.size 0 lo:Nat):Int)==0&&(1:Int)==1&&(sIx items.size items.size hi-sIx items.size 0 lo)==items.size)=true):=by
  intro q;rw[Bool.and_eq_true,Bool.and_eq_true] at q;have q1:((sIx items.size 0 lo:Nat):Int)=0:=eq_of_beq q.1.1;have q2:sIx items.size items.size hi-sIx items.size 0 lo=items.size:=eq_of_beq q.2;exact hw ⟨by omega,by omega⟩
 show wpAny _ _ (if (((sIx items.size 0 lo:Nat):Int)==0&&(1:Int)==1&&(sIx items.size items.size hi-sIx items.size 0 lo)==items.size)=true then _ else _) _ _ s;rw[if_neg hno,qq]
 first
  |exact ag (m:=Builtin.Tuple.tupleExact _) (bj (aA ⟨_,rfl,aA h⟩) htake)
  |exact ag (m:=Builtin.Tuple.tupleExact _) (bj (ag (aA (aA ⟨_,rfl,aA h⟩))) htake)
  |exact ag (ag (m:=Builtin.Tuple.tupleExact _) (bj (aA (aA ⟨_,rfl,aA h⟩)) htake))
  |exact ag (ag (m:=Builtin.Tuple.tupleExact _) (bj (aA ⟨_,rfl,aA h⟩) htake))
end
end HT
namespace L2
open PySem PySem.Spec PyProof.Rows
noncomputable abbrev TO:=St->Hp->(Option Int->Hp->Prop)->Prop
noncomputable def PO (X:Cx)(e:Option Expr)(t:TO):Prop :=
 ∀(pins:List (Addr×Obj)) (s:Shared) (σ:St) (H:Hp) (Q:Option Int->Hp->Prop),Inv X pins σ H s->t σ H Q →
  wpAny (model X.prog X.w) X.A (evalPart e X.env) (fun u s'=>∃o H',Inv X pins σ H' s'/\IsPart u o/\Q o H') X.xe s
noncomputable def rV:TO:=fun _ H Q=>Q none H
noncomputable def vq (t:TE):TO:=fun σ H Q=>t σ H fun x H1=>∃i,x=.int i/\Q (some i) H1
section
variable {X:Cx}{e:Expr}{te:TE}{lo hi:Option Expr}{tl th:TO}{pos p2:Pos}
theorem po_none:PO X none rV:=by
 intro pins s σ H Q I h;rw[evalPart_none];exact aA ⟨none,H,I,.none,h⟩
theorem po_some (h:PE X e te):PO X (some e) (vq te):=by
 intro pins s σ H Q I hw;rw[evalPart_some];refine thn (h pins s σ H _ I hw) fun u s1 zz=>?_;obtain ⟨x,H1,I1,r1,q1⟩:=zz;obtain⟨i,rfl,q⟩:=q1;obtain⟨t,rfl⟩:=r1;exact⟨some i,H1,I1,.int i t,q⟩
noncomputable def tF (X:Cx)(r:V->Option Int->Option Int->Hp->VK->Prop):Prop :=
 ∀(pins:List (Addr×Obj)) (s:Shared) (σ:St) (H:Hp) (x:V) (v vl vu:Value) (lo hi:Option Int) (sl:Addr) (Q:VK),Inv X pins σ H s->cI x v->s.heap.IsSliceOf sl vl vu .none->IsPart vl lo->IsPart vu hi->r x lo hi H Q →
  ∃T id,typeLookup (.type T) "__getitem__" = pure (some (.builtin id))/\s.TypeIs v T/\wpAny (model X.prog X.w) X.A (getItem v (.ref sl)) (EP X pins σ Q) X.xe s
theorem tF.or {r r':V->Option Int->Option Int->Hp->VK->Prop}(h:tF X r)(h':tF X r'):tF X (fun x lo hi H Q=>r x lo hi H Q\/r' x lo hi H Q):=by
 intro pins s σ H x v vl vu lo hi sl Q I rx hs pl pu q;rcases q with q|q
 ·exact h pins s σ H x v vl vu lo hi sl Q I rx hs pl pu q
 ·exact h' pins s σ H x v vl vu lo hi sl Q I rx hs pl pu q
noncomputable def wW (r:V->Option Int->Option Int->Hp->VK->Prop)(te:TE)(tl th:TO):TE:=fun σ H Q=>te σ H fun x H1=>tl σ H1 fun l H2=>th σ H2 fun u H3=>r x l u H3 Q
theorem pe_slice {r:V->Option Int->Option Int->Hp->VK->Prop}(hr:tF X r)(he:PE X e te)(hl:PO X lo tl)(hu:PO X hi th):PE X (.Subscript e (.Slice lo hi none p2) pos) (wW r te tl th):=by
 intro pins s σ H Q I h;refine Subscript_ (thn (he pins s σ H _ I h) fun v s1 zz=>?_);obtain ⟨x,H1,I1,r1,q1⟩:=zz;refine wpAny_Slice (thn (hl pins s1 σ H1 _ I1 q1) fun vl s2 ⟨l,H2,I2,pl,q2⟩=>thn (hu pins s2 σ H2 _ I2 q2) fun vu s3 zz=>?_);obtain ⟨u,H3,I3,pu,q3⟩:=zz;rw[evalPart_none];refine aA ?_;have I4:Inv X pins σ H3 { s3 with heap:=s3.heap.push { cls:=.type "slice", data:=.fields #[vl,vu,.none] } }:=I3.kept (t':=s3.toks) fun b ob q=>aw _ q;obtain⟨T,id,hT,ht,hg⟩:=hr pins { s3 with heap:=s3.heap.push { cls:=.type "slice", data:=.fields #[vl,vu,.none] } } σ H3 x v vl vu l u s3.heap.objs.size Q I4 r1 (Heap.IsSliceOf.new ..) pl pu q3;show wpAny (model X.prog X.w) X.A (subscriptTail e (.Slice lo hi none p2) v (.ref s3.heap.objs.size)) (EP X pins σ Q) X.xe { s3 with heap:=s3.heap.push { cls:=.type "slice", data:=.fields #[vl,vu,.none] } };exact tail_any (ops:=[.ref s3.heap.objs.size,v]) ht hT hg (by with_unfolding_all rfl)
noncomputable def cutV (xs:List V)(lo hi:Option Int):List V:=(xs.drop (HT.sIx xs.length 0 lo)).take (HT.sIx xs.length xs.length hi-HT.sIx xs.length 0 lo)
theorem jc (xs:List V)(lo hi:Option Int):(cutV xs lo hi).length<=xs.length:=by
 unfold cutV;rw[aZ,aP];omega
noncomputable def wo (K:PySem.W.Frag):V->Option Int->Option Int->Hp->VK->Prop:=fun x lo hi H Q=>∃a xs,x=.ref a/\dr K H a xs ∧
 ¬(HT.sIx xs.length 0 lo=0/\HT.sIx xs.length xs.length hi=xs.length)/\∀p,H p=none->Q (.ref p) (cX H p (.tup (cutV xs lo hi)))
theorem sl_tup:tF X (wo X.K):=by
 intro pins s σ H x v vl vu lo hi sl Q I rx hs pl pu h;obtain⟨a,xs,rfl,hx,hw,q⟩:=h;cases rx;obtain⟨its,r,ht,hz⟩:=I.tuple hx;have hlen:its.toArray.size=xs.length:=by rw[aC];exact r.length.symm
 refine⟨"tuple", _,PyProof.Rows.slot_tuple_getitem.lookup,ht.typeIs,?_⟩;refine HT.getItem_tuple_cut ht hs pl pu (by rw[hlen];exact hw) ?_ (by rw[hlen];exact hz);rw[hlen];refine⟨.ref s.heap.objs.size,_,I.laid (t':=s.toks) (o:=.tup (cutV xs lo hi)) (fun b ob q=>aw _ q) (aq _) ?_,rfl,q _ (I.hok.fresh (aq _))⟩;exact⟨aL (jc xs lo hi) hz,_,(r.drop (HT.sIx xs.length 0 lo)).take (HT.sIx xs.length xs.length hi-HT.sIx xs.length 0 lo),IsTup.new _ _⟩
noncomputable def tK (K:PySem.W.Frag):R2:=fun x y H Q=>∃a b xs ys,x=.ref a/\y=.ref b/\dr K H a xs/\dr K H b ys/\xs≠[]/\xs.length+ys.length<=sizeLine ∧
 (ys=[]->Q (.ref a) H)/\(ys≠[]->∀p,H p=none->Q (.ref p) (cX H p (.tup (xs++ys))))
theorem cA.nil_iff {xs:List V}{us:List Value}(r:cA xs us):us=[]<->xs=[]:=by
 cases r with
 |nil=>simp
 |cons _ _=>simp
theorem sf:OpR X (binaryOp .Add) (tK X.K):=by
 intro pins s σ H x y v u Q I rx ry h;obtain⟨a,b,xs,ys,rfl,rfl,ha,hb,hx,hz,q1,q2⟩:=h;cases rx;cases ry;obtain⟨its,r1,p1,_⟩:=I.tuple ha;obtain⟨its2,r2,p2,_⟩:=I.tuple hb;refine HT.cat_tup p1 p2 (fun z=>hx (r1.nil_iff.mp z)) (fun z=>⟨.ref a,H,I,rfl,q1 (r2.nil_iff.mp z)⟩) (fun z=>?_) (by rw[<-r1.length,<-r2.length];exact hz);refine⟨.ref s.heap.objs.size,_,I.laid (t':=s.toks) (o:=.tup (xs++ys)) (fun b ob q=>aw _ q) (aq _) ?_,rfl,q2 (fun w=>z (r2.nil_iff.mpr w)) _ (I.hok.fresh (aq _))⟩;exact⟨by rw[au];exact hz,_,r1.append r2,IsTup.new _ _⟩
end
end L2
namespace L2
open PySem PySem.Spec PyProof.Rows
noncomputable def ixN (n:Nat)(i:Int):Option Nat:=if 0<=i then (if i<n then some i.toNat else none) else if -(n:Int)<=i then some (i+n).toNat else none
noncomputable def atI {α:Type}(xs:List α)(i:Int):Option α:=(ixN xs.length i).bind fun j=>xs[j]?
theorem sQ {n:Nat}{i:Int}{j:Nat}(h:ixN n i=some j):seqIndex? i n=some j/\j<n/\-(n:Int)<=i/\i<n:=by
 unfold ixN at h;by_cases h0:0<=i
 ·rw[if_pos h0] at h;by_cases h1:i<n
  ·rw[if_pos h1] at h;have e:i.toNat=j:=aS.inj h;exact⟨by rw[seqIndex_of h0 h1,e],by omega,by omega,h1⟩
  ·rw[if_neg h1] at h;cases h
 ·rw[if_neg h0] at h;by_cases h1:-(n:Int)<=i
  ·rw[if_pos h1] at h;have e:(i+n).toNat=j:=aS.inj h;exact⟨by rw[seqIndex_neg ⋯ h1,e],by omega,h1,by omega⟩
  ·rw[if_neg h1] at h;cases h
theorem l4 {α:Type}{xs:List α}{i:Int}{v:α}(h:atI xs i=some v):∃j,seqIndex? i xs.length=some j/\xs[j]?=some v/\j<xs.length/\-(xs.length:Int)<=i/\i<xs.length:=by
 unfold atI at h;cases e:ixN xs.length i with
 |none=>rw[e] at h;cases h
 |some j =>
  rw[e] at h;obtain⟨h1,h2,h3,h4⟩:=sQ e;exact⟨j,h1,h,h2,h3,h4⟩
def PlainIx (b:Expr):Prop:=∀o i,subscripted b false o i=operate [o,i] (getItem o i)
noncomputable def tH (X:Cx)(r:R2):Prop :=
 ∀(value slice:Expr) (pins:List (Addr×Obj)) (s:Shared) (σ:St) (H:Hp) (x y:V) (v u:Value) (Q:VK),Inv X pins σ H s->cI x v->cI y u->r x y H Q →
  subscripted slice false v u=operate [v,u] (getItem v u)->wpAny (model X.prog X.w) X.A (subscriptTail value slice v u) (EP X pins σ Q) X.xe s
noncomputable def MtR (X:Cx)(id:String)(r:V->List V->Hp->VK->Prop):Prop :=
 ∀(pins:List (Addr×Obj)) (s:Shared) (σ:St) (H:Hp) (x:V) (xs:List V) (v:Value) (us:List Value) (Q:VK),Inv X pins σ H s->cI x v->cA xs us->r x xs H Q →
  wpAny (model X.prog X.w) X.A (call (.builtin id) (v::us)) (EP X pins σ Q) X.xe s
section
variable {X:Cx}{a b:Expr}{ta tb:TE}{pos:Pos}
theorem tH.or {r r':R2}(h:tH X r)(h':tH X r'):tH X (fun x y H Q=>r x y H Q\/r' x y H Q):=by
 intro value slice pins s σ H x y v u Q I rx ry q hs;rcases q with q|q
 ·exact h value slice pins s σ H x y v u Q I rx ry q hs
 ·exact h' value slice pins s σ H x y v u Q I rx ry q hs
theorem pe_ix {r:R2}(hr:tH X r)(ha:PE X a ta)(hb:PE X b tb)(hs:PlainIx b):PE X (.Subscript a b pos) (tOp r ta tb):=by
 intro pins s σ H Q I h;exact Subscript_ (vc ha hb I h fun v u s2 x y H2 I2 rx ry q=>hr a b pins s2 σ H2 x y v u Q I2 rx ry q (hs _ _))
noncomputable def vH (K:PySem.W.Frag):R2:=fun x y H Q=>∃p xs i v,x=.ref p/\y=.int i/\dq K H p xs/\atI xs i=some v/\Q v H
noncomputable def vF (K:PySem.W.Frag):R2:=fun x y H Q=>∃p xs i v,x=.ref p/\y=.int i/\dr K H p xs/\atI xs i=some v/\Q v H
noncomputable def vG:R2:=fun x y H Q=>∃z i c,x=.str z/\y=.int i/\z.length<=sizeLine/\atI z.cps.toList i=some c/\Q (.str ⟨#[c]⟩) H
theorem sP:tH X (vH X.K):=by
 intro value slice pins s σ H x y v u Q I rx ry h hs;obtain⟨p,xs,i,z,rfl,rfl,hq,he,q⟩:=h;cases rx;obtain⟨t,rfl⟩:=ry;obtain⟨its,r,pl,hz⟩:=I.list hq;obtain⟨j,h1,h2,h3,h4,h5⟩:=l4 he;obtain⟨w,ew,rw'⟩:=r.get h2;have hl:=r.length;have hn:=jP;have fin:EP X pins σ Q w s:=⟨z,H,I,rw',q⟩;by_cases h0:0<=i
 ·have hj:i.toNat=j:=by
   rw[seqIndex_of h0 h5] at h1;exact aS.inj h1
  exact item_listR pl.isList h0 ⋯ (by rw[hj];simpa using ew) fin hs
 ·have hj:(i+(its.toArray.size:Int)).toNat=j:=by
   rw[seqIndex_neg ⋯ h4] at h1;rw[aC,<-hl];exact aS.inj h1
  exact subscriptTail_builtinR (x:=w) pl.isList.typeIs slot_list_getitem.lookup
   (wpAny_getItem_list_neg (Q:=fun r s'=>r=w/\EP X pins σ Q r s') pl.isList ⋯ (by rw[aC] <;> omega) ⋯ (by rw[hj];simpa using ew) ⟨rfl,fin⟩) hs
theorem ur:tH X (vF X.K):=by
 intro value slice pins s σ H x y v u Q I rx ry h hs;obtain⟨p,xs,i,z,rfl,rfl,hq,he,q⟩:=h;cases rx;obtain⟨t,rfl⟩:=ry;obtain⟨its,r,pl,hz⟩:=I.tuple hq;obtain⟨j,h1,h2,h3,h4,h5⟩:=l4 he;obtain⟨w,ew,rw'⟩:=r.get h2;have hl:=r.length;have hn:=jP;have fin:EP X pins σ Q w s:=⟨z,H,I,rw',q⟩;exact subscriptTail_builtinR (x:=w) pl.typeIs slot_tuple_getitem.lookup
  (getItem_tuple (j:=j) (Q:=fun r s'=>r=w/\EP X pins σ Q r s') pl ⋯ ⋯ (by rw[aC,<-hl];exact h1) (by simpa using ew) ⟨rfl,fin⟩) hs
theorem uu:tH X vG:=by
 intro value slice pins s σ H x y v u Q I rx ry h hs;obtain⟨z,i,c,rfl,rfl,hz,he,q⟩:=h;obtain⟨t,rfl⟩:=rx;obtain⟨t',rfl⟩:=ry;obtain⟨j,h1,h2,h3,h4,h5⟩:=l4 he;have hl:z.cps.toList.length=z.length:=by simp[Str.length]
 rw[hl] at h1 h4 h5;have hn:=jP;exact tail_any (typeIs_str s z t) slot_str_getitem.lookup (getItem_str (c:=c) (by
  have e1:decide (i < -(2 ^ 63:Int))=false:=decide_eq_false ⋯;have e2:decide (i ≥ 2 ^ 63)=false:=decide_eq_false ⋯;rw[e1,e2,Bool.or_false]) (by rw[h1];simpa using h2) ⟨.str ⟨#[c]⟩,H,I.tok _,⟨_,rfl⟩,q⟩) hs
noncomputable def rIx (K:PySem.W.Frag):R2:=fun x y H Q=>vH K x y H Q\/vF K x y H Q\/vG x y H Q
theorem ix_seq:tH X (rIx X.K):=sP.or (ur.or uu)
theorem Inv.lst {pins:List (Addr×Obj)}{σ:St}{H:Hp}{s:Shared}{p:Addr}{xs:List V}(I:Inv X pins σ H s)(h:H p=some (.lst xs)) :
  ∃(its:List Value) (n:Nat),cA xs its/\s.heap.get? p=some { cls:=.type "list", data:=.seq its.toArray n }/\xs.length<=sizeLine:=by
 obtain⟨z,its,n,r,e⟩:=I.hok p _ h;exact⟨its,n,r,e,z⟩
theorem lg (lo hi:Option Int)(n:Nat):(sliceBounds lo hi none n).1=((HT.sIx n 0 lo:Nat):Int)/\(sliceBounds lo hi none n).2.1=((HT.sIx n n hi:Nat):Int)/\(sliceBounds lo hi none n).2.2=1:=by
 refine⟨?_,?_,rfl⟩
 ·cases lo with
  |none=>simp[sliceBounds,HT.sIx]
  |some i =>
   simp only[sliceBounds,HT.sIx,Option.getD_none,show (1:Int)>0 by decide,if_true];by_cases h:i<0
   ·simp only[h,if_true] <;> omega
   ·simp only[h,if_false] <;> omega
 ·cases hi with
  |none=>simp[sliceBounds,HT.sIx]
  |some i =>
   simp only[sliceBounds,HT.sIx,Option.getD_none,show (1:Int)>0 by decide,if_true];by_cases h:i<0
   ·simp only[h,if_true] <;> omega
   ·simp only[h,if_false] <;> omega
theorem kg (its:List Value)(lo hi:Option Int):slicePick its.toArray lo hi none=((its.drop (HT.sIx its.length 0 lo)).take (HT.sIx its.length its.length hi-HT.sIx its.length 0 lo)).toArray:=by
 obtain⟨h1,h2,h3⟩:=lg lo hi its.toArray.size;unfold slicePick;rw[h1,h2,h3];simp only[sliceRange_one,pick_run,aC] <;> rfl
noncomputable def wu (K:PySem.W.Frag):V->Option Int->Option Int->Hp->VK->Prop:=fun x lo hi H Q=>∃a xs,x=.ref a/\dq K H a xs/\∀p,H p=none->Q (.ref p) (cX H p (.lst (cutV xs lo hi)))
theorem sl_list:tF X (wu X.K):=by
 intro pins s σ H x v vl vu lo hi sl Q I rx hs pl pu h;obtain⟨a,xs,rfl,hx,q⟩:=h;cases rx;obtain⟨its,r,ht,hz⟩:=I.list hx;have hlen:=r.length;refine⟨"list", _,slot_list_getitem.lookup,ht.isList.typeIs,?_⟩;refine wpAny_getItem_list_slice ht.isList hs pl pu .none (by simp) ?_ (by rw[aC] <;> omega);rw[kg,<-hlen];refine⟨.ref s.heap.objs.size,_,I.laid (t':=s.toks) (o:=.lst (cutV xs lo hi)) (fun b ob q=>aw _ q) (aq _) ?_,rfl,q _ (I.hok.fresh (aq _))⟩;exact⟨aL (jc xs lo hi) hz,_,0,(r.drop (HT.sIx xs.length 0 lo)).take (HT.sIx xs.length xs.length hi-HT.sIx xs.length 0 lo),aN _ rfl⟩
theorem call_len_seq:CallR X (.builtin "len") (fun xs H Q=>∃p ys,xs=[.ref p]/\(dq X.K H p ys\/dr X.K H p ys)/\Q (.int ys.length) H):=by
 intro pins s σ H xs us Q I r h;obtain⟨p,ys,rfl,hq,q⟩:=h;obtain⟨u,rfl,rx⟩:=qe r;cases rx;have hn:=jP;rcases hq with hq|hq
 ·obtain⟨its,r',pl,hz⟩:=I.list hq;have hlen:=r'.length;exact Calls.call_len_list pl.isList (by simp only[aC] <;> omega) ⟨.int ys.length,H,I.tok _,⟨s.toks+1,by rw[aC,hlen]⟩,q⟩
 ·obtain⟨its,r',pl,hz⟩:=I.tuple hq;have hlen:=r'.length;exact len_tuple pl (by simp only[aC] <;> omega) ⟨.int ys.length,H,I.tok _,⟨s.toks+1,by rw[aC,hlen]⟩,q⟩
theorem call_len_str:CallR X (.builtin "len") (fun xs H Q=>∃z,xs=[.str z]/\z.length<=sizeLine/\Q (.int z.length) H):=by
 intro pins s σ H xs us Q I r h;obtain⟨z,rfl,hz,q⟩:=h;obtain⟨u,rfl,t,rfl⟩:=qe r;have hn:=jP;exact len_str ⋯ ⟨.int z.length,H,I.tok _,⟨_,rfl⟩,q⟩
theorem call_tuple_of:CallR X (.type "tuple") (fun xs H Q=>∃p ys,xs=[.ref p]/\((dq X.K H p ys/\∀l,H l=none->Q (.ref l) (cX H l (.tup ys)))\/(dr X.K H p ys/\Q (.ref p) H))):=by
 intro pins s σ H xs us Q I r h;obtain⟨p,ys,rfl,h⟩:=h;obtain⟨u,rfl,rx⟩:=qe r;cases rx;rcases h with ⟨hq,q⟩|⟨hq,q⟩
 ·obtain⟨its,r',pl,hz⟩:=I.list hq;have hlen:=r'.length;refine call_tuple_list pl.isList (fun h' kp=>?_) (by simp only[aC] <;> omega);have I1:Inv X pins σ H { s with heap:=h' }:=I.kept (t':=s.toks) kp;have I2:Inv X pins σ (cX H h'.objs.size (.tup ys)) { s with heap:=h'.push { cls:=.type "tuple", data:=.seq its.toArray } } :=
   I1.laid (t':=s.toks) (fun b o e=>aw _ e) (aq _) (show fk X.prog X.w _ _ _ (.tup ys) from ⟨hz,its,r',IsTup.new _ _⟩)
  exact⟨.ref h'.objs.size,_,I2,rfl,q _ (I1.hok.fresh (aq _))⟩
 ·obtain⟨its,r',pl,hz⟩:=I.tuple hq;exact call_tuple_same pl ⟨.ref p,H,I,rfl,q⟩
def wJ (K:PySem.W.Frag)(T:String)(x:V)(H:Hp):Prop:=match x with
 |.str _=>T = "str"
 |.int _=>T = "int"
 | .ref p=>(T = "list" ∧ ∃xs,dq K H p xs)\/(T = "tuple" ∧ ∃o,K.lookup p=some o/\o.cls=.type "tuple" ∧ o.dict=none) ∨
   (T = "dict" ∧ ((∃kvs,H p=some (.dK kvs))\/∃kvs,H p=some (.dT kvs)))\/(T = "set" ∧ ∃S n,H p=some (.set S n))
 |_=>False
theorem tX {pins:List (Addr×Obj)}{σ:St}{H:Hp}{s:Shared}{T:String}{x:V}{v:Value}(I:Inv X pins σ H s)(r:cI x v)(ty:wJ X.K T x H) :
  s.TypeIs v T/\∀a,v=.ref a->∃ob,s.heap.get? a=some ob/\ob.dict=none:=by
 cases x with
 |str z =>
  obtain⟨t,rfl⟩:=r;cases (show T = "str" from ty);exact⟨typeIs_str s z t,fun _ e=>nomatch e⟩
 |int i =>
  obtain⟨t,rfl⟩:=r;cases (show T = "int" from ty);exact⟨typeIs_int s i t,fun _ e=>nomatch e⟩
 |ref p =>
  cases r;rcases ty with ⟨rfl,xs,hq⟩|⟨rfl,o,hk,hc,hd⟩|⟨rfl,hk⟩|⟨rfl,S,n,hk⟩
  ·obtain⟨its,_,pl,_⟩:=I.list hq;refine⟨pl.isList.typeIs,fun a e=>?_⟩;cases e;obtain⟨o,n,e,c,hd,_⟩:=pl;exact⟨o,e,hd⟩
  ·refine⟨⟨o,I.kIn p o hk,hc⟩,fun a e=>?_⟩;cases e;exact⟨o,I.kIn _ o hk,hd⟩
  ·have z:∃o,s.heap.get? p=some o/\o.ExactDict:=by
    rcases hk with ⟨kvs,hk⟩|⟨kvs,hk⟩
    ·obtain⟨_,_,_,_,o,_,_,e,ex,_⟩:=I.hok p _ hk;exact⟨o,e,ex⟩
    ·obtain⟨_,_,_,_,o,_,_,e,ex,_⟩:=I.hok p _ hk;exact⟨o,e,ex⟩
   obtain⟨o,e,ex⟩:=z;refine⟨⟨o,e,ex.1⟩,fun a e2=>?_⟩;cases e2;exact⟨o,e,ex.2.1⟩
  ·obtain⟨o,_,_,_,e,ex,_⟩:=I.hok p _ hk;refine⟨⟨o,e,ex.1⟩,fun a e2=>?_⟩;cases e2;exact⟨o,e,ex.2.1⟩
 |_=>exact False.elim ty
noncomputable def wX (K:PySem.W.Frag)(T:String)(r:V->List V->Hp->VK->Prop)(to:TE)(t:TA):TE:=fun σ H Q=>to σ H fun x H1=>wJ K T x H1/\t σ H1 fun xs H2=>r x xs H2 Q
variable {o e:Expr}{es:List Expr}{to:TE}{t:TA}{name:Str}{apos cpos:Pos}{T id:String}{r:V->List V->Hp->VK->Prop}
theorem pe_bm (pa:PlainAttrs T)(slot:Slot T name id)(hty:typeOf (.builtin id)=pure (.type "method_descriptor"))(hm:MtR X id r)(ho:PE X o to)(ha:PA X (e::es) t)
  (hbase:attributeBase o name X.env (eval o X.env)=eval o X.env:=by rfl)
  (hfew:((backTo cpos (starEach (e::es) X.env)).all (fun x=>!x.1)&&(backToKw cpos (keywordEach [] X.env)).all (fun x=>x.1.isSome)
   && decide ((e::es).length+([]:List Keyword).length+(if ([]:List Keyword).isEmpty then 0 else 1)<30))=true:=by rfl)
  (hline:(apos.endLine==cpos.line)=true:=by rfl) (hs:starEach (e::es) X.env=(false,eval e X.env)::starEach es X.env:=by rfl) (hplain:(backTo cpos (starEach es X.env)).any (·.1)=false:=by rfl) :
  PE X (.Call (.Attribute o name apos) (e::es) [] cpos) (wX X.K T r to t):=by
 intro pins s σ H Q I h;refine wpAny_Call_method_late hbase hfew hline rfl (thn (ho pins s σ H _ I h) fun v s1 zz=>?_);obtain ⟨x,H1,I1,r1,ty,q1⟩:=zz;obtain⟨h1,h2⟩:=tX I1 r1 ty;refine⟨T,id,pa,slot,hty,h1,h2,?_⟩;have hA:=ha cpos pins s1 σ H1 _ I1 q1;rw[hs] at hA ⊢;refine Calls.callWith_builtin (by show (false||(backTo cpos (starEach es X.env)).any (·.1))=false;rw[hplain] <;> rfl) (Calls.evalArgs_plain ?_);exact thn hA fun us s2 ⟨vs,H2,I2,r2,q2⟩=>hm pins s2 σ H2 x vs v us Q I2 r1 r2 q2
end
end L2
namespace L2
open PySem PySem.Spec PyProof.Rows
noncomputable def w8 (X:Cx)(id:String)(r:V->List V->Hp->VK->Prop):Prop :=
 ∀(pins:List (Addr×Obj)) (s:Shared) (σ:St) (H:Hp) (x:V) (xs:List V) (v:Value) (us:List Value) (Q:VK),Inv X pins σ H s->cI x v->cA xs us->r x xs H Q →
  wpAny (model X.prog X.w) X.A (call (.builtin id) (v::us)) (EP X pins σ Q) X.xe s
theorem cA.one:∀{x:V}{us:List Value},cA [x] us->∃u,us=[u]/\cI x u:=by
 intro x us h;cases h with
 |cons r q=>cases q; exact ⟨_,rfl,r⟩
theorem cA.two:∀{x y:V}{us:List Value},cA [x,y] us->∃u v,us=[u,v]/\cI x u/\cI y v:=by
 intro x y us h;cases h with
 |cons r q=>
  cases q with
  |cons q z=>cases z; exact ⟨_,_,rfl,r,q⟩
section
variable {X:Cx}{pins:List (Addr×Obj)}{σ:St}{H:Hp}{s:Shared}{l b:Addr}{xs ys zs:List V}
theorem Inv.lset {its its':List Value}{n:Nat}{f:Array Value->Array Value}{t':Nat}(I:Inv X pins σ H s)(hH:H l=some (.lst xs))
  (e:s.heap.get? l=some { cls:=.type "list", data:=.seq its.toArray n }) (hf:f its.toArray=its'.toArray) (hv:cA ys its') (hz:ys.length<=sizeLine) :
  Inv X pins σ (cX H l (.lst ys)) { s with heap:=s.heap.update l (Obj.mapSeq f),toks:=t' }:=by
 have q:=PySem.IsL.update e f;rw[hf] at q;refine I.write (x:=l) (e:=l) (by rw[hH];exact trivial) (.inl rfl) (fun b' u hb hu=>(bS s.heap (Obj.mapSeq f) (Ne.symm hb)).trans hu) ⟨_,q⟩ ?_;exact⟨hz,its',_,hv,q⟩
theorem Inv.lnew {its:List Value}{t':Nat}(I:Inv X pins σ H s)(hv:cA ys its)(hz:ys.length<=sizeLine) :
  Inv X pins σ (cX H s.heap.objs.size (.lst ys)) { s with heap:=s.heap.push { cls:=.type "list", data:=.seq its.toArray },toks:=t' } :=
 I.laid (fun _ _ q=>aw _ q) (aq _) ⟨hz,its,0,hv,aN _ rfl⟩
theorem Inv.fresh (I:Inv X pins σ H s):H s.heap.objs.size=none:=I.hok.fresh (aq _)
theorem Inv.lstM (I:Inv X pins σ H s)(hH:H l=some (.lst xs)):xs.length<=sizeLine/\∃(its:List Value) (n:Nat),cA xs its/\xs.length=its.length/\s.heap.get? l=some { cls:=.type "list", data:=.seq its.toArray n }:=by
 obtain⟨z,its,n,r,e⟩:=I.hok l _ hH;exact⟨z,its,n,r,r.length,e⟩
end
section
variable {X:Cx}
noncomputable def r9:V->List V->Hp->VK->Prop:=fun x vs H Q=>∃l xs y,x=.ref l/\vs=[y]/\H l=some (.lst xs)/\xs.length<sizeLine/\Q .non (cX H l (.lst (xs++[y])))
theorem mt_append:w8 X "list.append" r9:=by
 intro pins s σ H x vs v us Q I rx rv h;obtain⟨l,xs,y,rfl,rfl,hH,hz,q⟩:=h;cases rx;obtain⟨u,rfl,ru⟩:=rv.one;obtain⟨z,its,n,r,hl,e⟩:=I.lstM hH;refine call_meets F.slot_list_append ⟨_,e,rfl⟩ F.entry_list_append (F.args_list_append_2 _ _) (PySem.list_append l its.toArray n u (by rw[aC];omega)) ⟨e,?_⟩;refine⟨.non,_,I.lset (its':=its++[u]) hH e (by simp) (r.append (.cons ru .nil)) ?_,rfl,q⟩;rw[au,aU];omega
end
section
variable {prog:Program}{w:World}{A:Around}{E:Value->Shared->Prop}{s:Shared}
set_option maxRecDepth 100000 in
end
section
variable {X:Cx}
end
end L2
namespace Att
open PySem PySem.W PySem.Calls PyProof.Rows
theorem ji {P:Params}{h:Heap}:∀(ns:List Int) (vs:List Value),WellAll P h vs (ns.map WData.int)->IntsAre vs ns:=by
 intro ns;induction ns with
 |nil =>
  intro vs w;rw[List.map_nil] at w;cases w;exact .nil
 |cons n ns ih =>
  intro vs w;rw[aD] at w;cases w with
  |cons a b =>
   cases a;exact .cons _ _ (ih _ b)
theorem pf {l:OpenLaw}{n:Nat}(hn:l.most=some n){P:Params}{h:Heap}{args:List WData}{vals:List Value}
  (hpre:l.row.toRowW.claim.pre args=true) (hwl:WellAll P h vals args) :
  ∃a vs ns,vals=[Value.ref a]/\args=[WData.list (ns.map WData.int)]/\h.get? a=some { cls:=.type "list", data:=.seq vs.toArray }/\IntsAre vs ns/\ns.length<=n:=by
 have hsh:WShape.hasAll [] args [.list .int]=true:=(pre_splitW hpre).1;have hc:l.pre.holds [] { args:=args }=true:=(pre_splitW hpre).2;obtain⟨d,r,rfl,h1,h2⟩:=hasAllW_cons hsh
 obtain rfl:=hasAllW_nil h2
 obtain⟨xs,rfl,h3⟩:=hasW_list h1;obtain⟨ns,rfl⟩:=items_int h3;have hlen:ns.length<=n:=by
  unfold OpenLaw.pre at hc;have h4:(WTm.not (.lt (.lit (.int (n:Int))) (.len (.arg 0)))).holds [] { args:=[.list (ns.map .int)] }=true:=by
   have h4:=(holds_andW hc).1;rw[hn] at h4;exact h4
  have h5:=condW_of h4 (w_not (w_lt w_lit (w_len_list (w_arg rfl))));rw[az] at h5;refine Nat.le_of_not_lt fun q=>?_;have q':(n:Int)<((ns.length:Nat):Int):=by omega
  first
   |(rw[decide_eq_true q'] at h5;exact absurd h5 (by decide))
   |(simp at h5;omega)
 cases hwl with
 |cons w1 w2 =>
  cases w2;cases w1 with
  |list ho hall=>exact⟨_,_,ns,rfl,rfl,ho,ji ns _ hall,hlen⟩
theorem pq (l:OpenLaw)(args:List WData):l.row.toRowW.claim.post args (.bool true) args=true :=
 postW_of (r:=l.row.toRowW) (X:=(true==true))
  (show WShape.has [] (.bool true) .bool=true by first|rfl|decide|simp[WShape.has,WShape.arms,WShape.armsAll])
  (show (WTm.eq .res (.lit (.bool true))).value [] { args:=args,res:=some (.bool true),after:=args }=some (.bool (true==true)) from w_eq_bool (w_res rfl) w_lit) rfl
theorem attach_call {l:OpenLaw}{n:Nat}{q:Program}{loose:List Str}{XP:(Str->Option Value)->Heap->Prop}{YP:World->Heap->Prop}{d:DefRec}
  (hn:l.most=some n) (hdf:d.params.defaults=[])
  (call:∀(w:World) (s₀ s₁:Shared) (mg mb:Str->Option Value) (fa:Addr) (o:Obj) (pm cd doc:Value) (a:Addr) (vs:List Value) (ns:List Int),
   Ground q loose [] XP w s₀ mg mb s₁.heap->YP w s₁.heap →
   s₁.heap.get? fa=some o->o.data=.func (docDef d.name d.params d.body d.scope pm cd doc)->s₁.heap.CodeRec cd d.name->mg d.name=some (.ref fa) →
   s₁.heap.get? a=some { cls:=.type "list", data:=.seq vs.toArray }->IntsAre vs ns->ns.length<=n->s₁.gens=#[] →
   codeAny (model l.prog w) callerA (.call (.ref fa) ⟨[.ref a],[]⟩) (fun r s'=>r=.ok (.ret (.bool true))/\OldK s₁.heap s'.heap/\s'.os=s₁.os/\AllBare s'.gens) s₁) :
  WalkO q loose XP YP l.row.toRowW d [] (fun f vs=>PySem.call f vs):=by
 intro w s₀ s₁ mg mb G Y fa o pm cd doc dV kV ho hd hcd hD hmg hg args vals as hpre hlay hrd hwl hlo
 obtain rfl:dV=.none:=Dflts.none hD hdf
 obtain rfl:kV=.none:=Dflts.noKw hD
 obtain⟨a,vs,ns,rfl,rfl,hobj,hints,hlen⟩:=pf hn hpre hwl;refine enter_call (codeAny_mono (call w s₀ s₁ mg mb fa o pm cd doc a vs ns G Y ho (fd_plain hd) hcd hmg hobj hints hlen hg) fun r s' hq=>?_);obtain⟨rfl,h2,h3,h4⟩:=hq;exact⟨.inl ⟨.bool true,.bool true,[],rfl,fun _=>rfl,.bool true,pq l _,fun _=>⟨List.Pairwise.nil,fun _ hm=>(nomatch hm)⟩⟩,h2,h3,h4⟩
section
variable {prog:Program}{w:World}{A:Around}{E:Value->Shared->Prop}{s:Shared}{K:Frag}
end
end Att
namespace L2
open PySem PySem.Spec PyProof.Rows
theorem o7:∀{vs:List Value}{ns:List Int},IntsAre vs ns->cA (ns.map V.int) vs:=by
 intro vs ns h;induction h with
 |nil=>exact .nil
 |cons n t _ ih=>exact .cons ⟨t,rfl⟩ ih
def tG (H:Hp):Prop:=∀b,H b=none\/∃o xs,H b=some (.frz o (.lst xs))
theorem qL {P:Program}{w:World}{K:PySem.W.Frag}{mg mb:Str->Option Value}{CX:pY}{k:Nat}{fa a:Addr}{fd:FuncData}{x:Str}{sp:Sp}{s₁:Shared}{vs:List Value}{ns:List Int}
  (KX:K.In s₁.heap) (hns:s₁.heap.Ns mainGlobals mg) (hb:s₁.heap.Ns builtinsNs mb) (hbb:∀x:Str,x ≠ "__name__" ->mb x=bootBuiltins x) (hlim:s₁.heap.NoLimit) (hg:s₁.gens=#[])
  (ha:s₁.heap.get? a=some { cls:=.type "list", data:=.seq vs.toArray }) (hi:IntsAre vs ns) (hl:ns.length<=sizeLine) (hr:Room k callerA)
  (F:∀base:Heap,K.In base->base.Ns mainGlobals mg->FnOk P w K mg base CX k fa fd [x] sp) (hbind:∀(s:Shared) (u:Value),BindsTo s fd ⟨[u],[]⟩ [(x,u)])
  (hsp:∀H:Hp,tG H->dq K H a (ns.map V.int)->sp [.ref a] H (fun v _=>v=.bl true) fun _ _ _=>False)
  (hCX:∀H e s',CX [] H s₁ (fun _ _ _=>False) e s'->False) :
  codeAny (model P w) callerA (.call (.ref fa) ⟨[.ref a],[]⟩) (fun r s'=>r=.ok (.ret (.bool true))/\OldK s₁.heap s'.heap/\s'.os=s₁.os/\AllBare s'.gens) s₁:=by
 have rv:=o7 hi;have lenV:=hi.length;have core:∀H:Hp,tG H->dq K H a (ns.map V.int)->iq P w H s₁.heap->(∀b,H b≠none->b=a)->(H a≠none->K.lookup a=none) →
   codeAny (model P w) callerA (.call (.ref fa) ⟨[.ref a],[]⟩) (fun r s'=>r=.ok (.ret (.bool true))/\OldK s₁.heap s'.heap/\s'.os=s₁.os/\AllBare s'.gens) s₁:=by
  intro H hO hS hok hA hK;have base_of:∀{b:Addr}{o:Obj},s₁.heap.get? b=some o->H b=none->(lO s₁.heap H).get? b=some o:=fun e n=>qU e n;have noA:∀{b:Addr}{o:Obj}{es:Array DictEntry}{ep:Nat},s₁.heap.get? b=some o->o.data=.dict es ep->H b=none:=fun {b o es ep} e d=>by
   cases q:H b with
   |none=>rfl
   |some u =>
    have e':b=a:=hA b (by rw[q];simp);subst e';rw[ha] at e;cases e;have d':Data.seq vs.toArray _=Data.dict es ep:=d;cases d'
  have nsK:∀{b:Addr}{m:Str->Option Value},s₁.heap.Ns b m->(lO s₁.heap H).Ns b m:=fun {b m} ⟨o,es,ep,e,d,r⟩=>⟨o,es,ep,base_of e (noA e d),d,r⟩;have hKb:K.In (lO s₁.heap H):=fun b o e=>base_of (KX b o e) (by
   cases q:H b with
   |none=>rfl
   |some u =>
    have e':b=a:=hA b (by rw[q];simp);subst e';rw[hK (by rw[q];simp)] at e;cases e)
  have hM:Mod K mg (lO s₁.heap H):=⟨hKb,nsK hns,⟨mb,nsK hb,hbb⟩,let ⟨mc,h1,h2⟩:=hlim;⟨mc,nsK h1,h2⟩⟩;have e0:tI P w K mg (lO s₁.heap H) callerA [] s₁ H:=⟨rfl,hM,fun b o e=>si e,Nat.le_of_eq (pD _ _),trivial,fun b hb=>absurd (show b∈([]:List Addr) from hb) (by simp),hok,.of_eq hg⟩;refine codeAny_mono ((F _ hKb (nsK hns)).run callerA [] s₁ H ⟨[.ref a],[]⟩ [.ref a] [.ref a] _ _ hr e0 (hbind s₁ (.ref a)) (.cons rfl .nil) (hsp H hO hS)) fun r s' h=>?_;cases r with
  |error e=>exact (hCX H e s' h).elim
  |ok fl =>
   cases fl with
   |next=>exact False.elim h
   |brk=>exact False.elim h
   |cont=>exact False.elim h
   |ret u =>
    obtain⟨v,H',os,bare,un,hok',r',q⟩:=h;have q':v=.bl true:=q;subst q'
    obtain rfl:u=Value.bool true:=r'
    refine⟨rfl,OldK.of_keep fun b o e=>?_,os,bare⟩;cases q:H b with
    |none=>exact un.keep b o e q (by intro z;exact absurd (show b∈([]:List Addr) from z) (by simp)) (by simp)
    |some u =>
     rcases hO b with z|⟨ob,xs,z⟩
     ·rw[q] at z;cases z
     ·have z2:=un.frzs b ob _ z;obtain⟨e1,_⟩:=hok b _ z;obtain⟨e2,_⟩:=hok' b _ z2;rw[e] at e1;cases e1;exact e2
 cases hk:K.lookup a with
 |some o =>
  have e:=KX a o hk;rw[ha] at e;cases e;refine core (fun _=>none) (fun _=>.inl rfl) (.inr ⟨_,vs.toArray,_,hk,rfl,rfl,rfl,by rw[aC,lenV];exact hl,by simpa using rv⟩) (fun b u z=>by have z':(none:Option HO)=some u:=z;cases z') (fun b z=>absurd rfl z) fun z=>absurd rfl z
 |none =>
  refine core (fun b=>if b=a then some (.frz { cls:=.type "list", data:=.seq vs.toArray } (.lst (ns.map V.int))) else none) (fun b=>?_) (.inl (.inr ⟨{ cls:=.type "list", data:=.seq vs.toArray },if_pos rfl⟩)) (fun b u z=>?_) (fun b z=>?_) fun _=>hk
  ·by_cases hb:b=a
   ·exact .inr ⟨_,_,if_pos hb⟩
   ·exact .inl (if_neg hb)
  ·by_cases hb:b=a
   ·have z':=(if_pos hb).symm.trans z;cases z';subst hb;exact⟨ha,by rw[az];exact hl,vs,_,rv,ha⟩
   ·have z':=(if_neg hb).symm.trans z;cases z'
  ·by_cases hb:b=a
   ·exact hb
   ·exact absurd (if_neg hb) z
end L2
namespace L2
open PySem PySem.Spec PyProof.Rows
theorem rT {l:PySem.W.OpenLaw}{n k:Nat}{q:Program}{loose:List Str}{XP:(Str->Option Value)->Heap->Prop}{YP:World->Heap->Prop}{d:DefRec}{K:Params->PySem.W.Frag}{CX:World->pY}{sp:World->Sp}{x:Str}
  (hn:l.most=some n) (hn2:n<=sizeLine) (hdf:d.params.defaults=[]) (hr:Room k callerA)
  (hY:∀(w:World) (h:Heap),YP w h->(K w.params).In h)
  (F:∀(w:World) (mg:Str->Option Value) (fa:Addr) (h:Heap),(K w.params).In h->h.Ns mainGlobals mg->mg d.name=some (.ref fa) →
   ∃fd:FuncData,(∀(s:Shared) (u:Value),BindsTo s fd ⟨[u],[]⟩ [(x,u)]) ∧
    ∀base:Heap,(K w.params).In base->base.Ns mainGlobals mg->FnOk l.prog w (K w.params) mg base (CX w) k fa fd [x] (sp w))
  (hsp:∀(w:World) (H:Hp) (a:Addr) (ns:List Int),ns.length<=n->tG H->dq (K w.params) H a (ns.map V.int)->sp w [.ref a] H (fun v _=>v=.bl true) fun _ _ _=>False)
  (hCX:∀(w:World) (H:Hp) (s:Shared) (e:Value) (s':Shared),CX w [] H s (fun _ _ _=>False) e s'->False) :
  PySem.W.WalkO q loose XP YP l.row.toRowW d [] (fun f vs=>PySem.call f vs):=by
 refine Att.attach_call hn hdf fun w s₀ s₁ mg mb fa o pm cd doc a vs ns G Y ho hd hcd hmg hobj hints hlen hg=>?_;have KX:=hY w _ Y;obtain⟨fd,hb,hF⟩:=F w mg fa _ KX G.T.g hmg;exact qL KX G.T.g G.T.b G.T.builtins G.T.nolimit hg hobj hints (aL hlen hn2) hr hF hb (fun H hO hS=>hsp w H a ns hlen hO hS) fun H e s'=>hCX w H s₁ e s'
theorem walk_ofK {l:PySem.W.OpenLaw}{n k:Nat}{q:Program}{loose:List Str}{XP:(Str->Option Value)->Heap->Prop}{YP:World->Heap->Prop}{d:DefRec}{K:Params->PySem.W.Frag}{CX:pY}{sp:PySem.W.Frag->Sp}{x:Str}
  (hn:l.most=some n) (hn2:n<=sizeLine) (hdf:d.params.defaults=[]) (hr:Room k callerA)
  (hY:∀(w:World) (h:Heap),YP w h->(K w.params).In h)
  (F:∀(w:World) (mg:Str->Option Value) (fa:Addr) (h:Heap),(K w.params).In h->h.Ns mainGlobals mg->mg d.name=some (.ref fa) →
   ∃fd:FuncData,(∀(s:Shared) (u:Value),BindsTo s fd ⟨[u],[]⟩ [(x,u)]) ∧
    ∀base:Heap,(K w.params).In base->base.Ns mainGlobals mg->FnOk l.prog w (K w.params) mg base CX k fa fd [x] (sp (K w.params)))
  (hsp:∀(K:PySem.W.Frag) (H:Hp) (a:Addr) (ns:List Int),ns.length<=n->tG H->dq K H a (ns.map V.int)->sp K [.ref a] H (fun v _=>v=.bl true) fun _ _ _=>False)
  (hCX:∀(H:Hp) (s:Shared) (e:Value) (s':Shared),CX [] H s (fun _ _ _=>False) e s'->False) :
  PySem.W.WalkO q loose XP YP l.row.toRowW d [] (fun f vs=>PySem.call f vs) :=
 rT (K:=K) (CX:=fun _=>CX) (sp:=fun w=>sp (K w.params)) hn hn2 hdf hr hY F (fun w H a ns h1 h2 h3=>hsp (K w.params) H a ns h1 h2 h3) fun _ H s e s'=>hCX H s e s'
end L2
namespace L2
open PySem PySem.Spec PyProof.Rows
noncomputable def defArgs (s:Stmt):Arguments:=match s with
 |.FunctionDef _ a _ _ _ _ _ _ _ _=>a
 |_=>{ posonlyargs:=[],args:=[],vararg:=none,kwonlyargs:=[],kw_defaults:=[],kwarg:=none,defaults:=[] }
noncomputable def defBody (s:Stmt):List Stmt:=match s with
 |.FunctionDef _ _ b _ _ _ _ _ _ _=>b
 |_=>[]
noncomputable def defScope (s:Stmt):Scope:=match s with
 |.FunctionDef _ _ _ _ _ _ sc _ _ _=>sc
 |_=>{ kind:=.function,names:=[],isGenerator:=false,isCoroutine:=false }
noncomputable abbrev CX0:pY:=fun _ _ _ _ _ _=>False
noncomputable abbrev E0:XK:=fun _ _ _=>False
theorem pass0 {X:Cx}:nV CX0 X E0:=fun _ _ _ _ _ _ _ h=>h.elim
structure Fun (K:PySem.W.Frag)(x qual:Str)(st:Stmt)(f:Addr)(fd:FuncData):Prop where
 ex:∃(oc:Value) (od:Option Addr) (kV doc pm:Value) (an:Option Addr) (cdv ct:Value) (osl:Array (Option Value)),
  fd=PySem.W.fnOf x qual (defArgs st) (defBody st) (defScope st) .none kV doc pm an cdv ct/\K.lookup f=some ⟨oc,od,.func fd,osl⟩/\PySem.W.codeIn K cdv qual=true
 kp:PySem.W.keepIn K (.ref f)=true
section
variable {P:Program}{w:World}{K:PySem.W.Frag}{mg:Str->Option Value}{base:Heap}
theorem Fun.ok {x qual:Str}{st:Stmt}{f:Addr}{fd:FuncData}{N ps:List Str}{k:Nat}{sp:Sp}(F:Fun K x qual st f fd)(S:FnScope N ps (defScope st))(len:∀vs H Q E,sp vs H Q E->vs.length=ps.length)
  (hbody:∀(cdv:Value) (A:Around) (outer:List Env) (s:Shared) (H:Hp) (vs:List V) (Q:VK) (E:XK),Room k (A.deeper (envOfC qual (defScope st) s.heap.objs.size f cdv))->sp vs H Q E →
   ∃t,PSs (cxOf CX0 P w K mg base N qual (defScope st) f cdv A outer s H E).nox (defBody st) t/\t { nx:=fun _ H'=>Q .non H',rt:=Q } (start N vs) H):FnOk P w K mg base CX0 (k+1) f fd ps sp:=by
 obtain⟨oc,od,kV,doc,pm,an,cdv,ct,osl,rfl,lk,hcd⟩:=F.ex;refine fn_of lk hcd S len fun A outer s H vs Q E hr hsp=>?_;obtain⟨t,h,q⟩:=hbody cdv A outer s H vs Q E hr hsp;exact⟨t,h.nox,q⟩
theorem Fun.binds {x qual:Str}{st:Stmt}{f:Addr}{fd:FuncData}{ps:List Str}(F:Fun K x qual st f fd)
  (h:∀(kV doc pm:Value) (an:Option Addr) (cdv ct:Value) (us:List Value),us.length=ps.length->bindArgs (PySem.W.fnOf x qual (defArgs st) (defBody st) (defScope st) .none kV doc pm an cdv ct) ⟨us,[]⟩=pure (ps.zip us)):Binds K fd ps []:=by
 obtain⟨oc,od,kV,doc,pm,an,cdv,ct,osl,rfl,lk,hcd⟩:=F.ex;exact .all (h kV doc pm an cdv ct)
theorem fun_mk {x qual:Str}{st:Stmt}{f:Addr}{oc:Value}{od an:Option Addr}{osl:Array (Option Value)}{kV doc pm cdv ct:Value}(l:K.lookup f=some ⟨oc,od,.func (PySem.W.fnOf x qual (defArgs st) (defBody st) (defScope st) .none kV doc pm an cdv ct),osl⟩)
  (c:PySem.W.codeIn K cdv qual=true) (k:PySem.W.keepIn K (.ref f)=true):Fun K x qual st f (PySem.W.fnOf x qual (defArgs st) (defBody st) (defScope st) .none kV doc pm an cdv ct):=⟨⟨oc,od,kV,doc,pm,an,cdv,ct,osl,rfl,l,c⟩,k⟩
end
section
variable {X:Cx}
end
def cw (H H':Hp):Prop:=∀b o,H b=some o->H' b=some o
theorem cw.refl (H:Hp):cw H H:=fun _ _ h=>h
theorem cw.trans {H H1 H2:Hp}(a:cw H H1)(b:cw H1 H2):cw H H2:=fun c o h=>b c o (a c o h)
theorem cw.free {H H':Hp}(e:cw H H'){l:Addr}(h:H' l=Option.none):H l=Option.none:=by
 cases q:H l with
 |none=>rfl
 |some o =>
  rw[e l o q] at h;cases h
theorem cw.seq {K:PySem.W.Frag}{H H':Hp}{a:Addr}{xs:List V}(e:cw H H')(h:dq K H a xs):dq K H' a xs:=by
 rcases h with (h|⟨o,h⟩)|h
 ·exact .inl (.inl (e _ _ h))
 ·exact .inl (.inr ⟨o,e _ _ h⟩)
 ·exact .inr h
end L2
namespace L2
open PySem PyProof.Rows
noncomputable def fT (env:Env):List (Str×NameKind)->List (Str×Addr)->List (Str×Addr)
 |[],acc=>acc
 |(y,k)::r,acc=>if k==.free then (match env.cells.lookup y with|some c=>fT env r ((y,c)::acc)|none=>fT env r acc) else fT env r acc
theorem g0 {scope:Scope}{env:Env}(h:∀y,(y,NameKind.free)∈scope.names->∃c,env.cells.lookup y=some c):closureFor scope env=pure (fT env scope.names []):=by
 have key:∀(names:List (Str×NameKind)) (acc:List (Str×Addr)),(∀y,(y,NameKind.free)∈names->∃c,env.cells.lookup y=some c) →
   (forIn names acc fun x r=>if (x.2==NameKind.free)=true then (do let a <-cellOf env x.1;pure (ForInStep.yield ((x.1,a)::r))) else pure (ForInStep.yield r):Sem (List (Str×Addr)))=pure (fT env names acc):=by
  intro names;induction names with
  |nil=>intro acc _;rfl
  |cons x r ih =>
   intro acc hh;obtain⟨y,k⟩:=x;have hr:=fun z hz=>hh z (ak _ hz);rw[List.forIn_cons];unfold fT;by_cases hk:(k==NameKind.free)=true
   ·have hk':k=.free:=by simpa using hk
    subst hk';obtain⟨c,hc⟩:=hh y aB;have hcell:cellOf env y=pure c:=by unfold cellOf;rw[hc]
    simp only[hcell,hc];exact ih _ hr
   ·have hk':(k==NameKind.free)=false:=by simpa using hk
    simp only[hk'];exact ih _ hr
 unfold closureFor;have:=key scope.names [] h;refine Eq.trans ?_ (congrArg (fun m:Sem _=>m>>=fun r=>pure r) this);rfl
theorem iO {env:Env}{y:Str}{c:Addr}:∀(names:List (Str×NameKind)) (acc:List (Str×Addr)),(∀c,acc.lookup y=some c->env.cells.lookup y=some c)->(fT env names acc).lookup y=some c->env.cells.lookup y=some c
 |[],acc,h,e=>h c e
 | (z,k)::r,acc,h,e=>by
  unfold fT at e;split at e
  ·split at e
   ·rename_i c' hc;refine iO r _ (fun d hd=>?_) e;rw[aR] at hd;cases hb:y==z with
    |true=>rw[hb] at hd;rw[beq_iff_eq.mp hb];cases hd;exact hc
    |false=>rw[hb] at hd;exact h d hd
   ·exact iO r _ h e
  ·exact iO r _ h e
theorem gR {env:Env}{y:Str}{c:Addr}:∀(names:List (Str×NameKind)) (acc:List (Str×Addr)),env.cells.lookup y=some c->acc.lookup y=some c->(fT env names acc).lookup y=some c
 |[],acc,_,e=>e
 | (z,k)::r,acc,h,e=>by
  unfold fT;split
  ·split
   ·rename_i c' hc;refine gR r _ h ?_;rw[aR];cases hb:y==z with
    |true=>rw[<-beq_iff_eq.mp hb,h] at hc;cases hc;rfl
    |false=>exact e
   ·exact gR r _ h e
  ·exact gR r _ h e
theorem iP {env:Env}{y:Str}{c:Addr}(h:env.cells.lookup y=some c):∀(names:List (Str×NameKind)) (acc:List (Str×Addr)),(y,NameKind.free)∈names->(fT env names acc).lookup y=some c
 | (z,k)::r,acc,hm=>by
  unfold fT;rcases ay.mp hm with e|hm
  ·cases e;simp only[beq_self_eq_true,if_true,h];exact gR r _ h (by rw[aR];simp)
  ·split
   ·split
    ·exact iP h r _ hm
    ·exact iP h r _ hm
   ·exact iP h r _ hm
theorem dE:∀(names:List (Str×NameKind)) (n:Nat) (acc:List (Str×Addr)),cellsFrom n names acc=cellsFrom n names []++acc
 |[],_,_=>rfl
 | (y,k)::r,n,acc=>by
  unfold cellsFrom;split
  ·rw[dE r (n+1) ((y,n)::acc),dE r (n+1) [(y,n)],aQ];rfl
  ·exact dE r n acc
theorem f6 {α:Type}{y:Str}:∀(l m:List (Str×α)),(l++m).lookup y=(l.lookup y).or (m.lookup y)
 |[],_=>by simp
 | (z,c)::r,m=>by
  rw[bt,aR,aR];cases y==z with
  |true=>rfl
  |false=>exact f6 r m
theorem fI {y:Str}{c:Addr}:∀(names:List (Str×NameKind)) (n:Nat) (acc:List (Str×Addr)),(y,c)∈cellsFrom n names acc->(y,NameKind.cell)∈names\/(y,c)∈acc
 |[],_,_,h=>.inr h
 | (z,k)::r,n,acc,h=>by
  unfold cellsFrom at h;split at h
  ·rename_i hk;have hk':k=.cell:=by simpa using hk
   subst hk';rcases fI r _ _ h with q|q
   ·exact .inl (ak _ q)
   ·rcases ay.mp q with e|q
    ·cases e;exact .inl aB
    ·exact .inr q
  ·rcases fI r _ _ h with q|q
   ·exact .inl (ak _ q)
   ·exact .inr q
theorem mw {M:Model}{A:Around}{E:Value->Shared->Prop}{s:Shared}{scope:Scope}{globals:Addr}{cl:List (Str×Addr)}{qual:Str}{env:Env}{Q:Env->Shared->Prop}
  (hQ:∀h',h'.Ns s.heap.objs.size (fun _=>none)->(∀b o,s.heap.get? b=some o->h'.get? b=some o)->CellsOk h' (s.heap.objs.size+1) (cellsFrom (s.heap.objs.size+1) scope.names [])->s.heap.objs.size<h'.objs.size →
   Q (newEnv scope s.heap.objs.size globals (cellsFrom (s.heap.objs.size+1) scope.names cl) qual none .none (some env) builtinsNs) { s with heap:=h' }) :
  wpAny M A (newFunctionEnv scope globals cl [] qual none .none (some env)) Q E s:=by
 simp only[newFunctionEnv,Option.isSome_some,if_true];refine ag (wpAny_alloc ?_);refine ag (wpAny_layCells _ (fun name kind cells=>by cases hkc:kind==NameKind.cell <;> simp[hkc]) _ _ _ _ ?_);have ok:=cellsFrom_ok scope.names (s.heap.push { cls:=.type "dict", data:=.dict #[] }) (s.heap.objs.size+1) [] ⟨fun _ _ hm=>(nomatch hm),List.Pairwise.nil⟩ (by rw[bG];exact aq _);rw[bG] at ok;rw[show ({ s with heap:=s.heap.push { cls:=.type "dict", data:=.dict #[] } }:Shared).heap.objs.size=s.heap.objs.size+1 from bG ..];refine ag (aA (aA ?_));exact hQ _ ((Heap.Ns.new s.heap (.type "dict")).keeps (pushCells_keeps _ _)) (fun b o e=>pushCells_keeps _ _ b o (aw _ e)) ok (Heap.Ns.lt ((Heap.Ns.new s.heap (.type "dict")).keeps (pushCells_keeps scope.names _)))
end L2
namespace L2
open PySem PySem.Spec PyProof.Rows
structure CompSc (osc:Scope)(oN:List Str)(scope:Scope)(own:List Str)(ix:List Nat)(caps:List Str):Prop where
 kind:scope.kind=.function
 nd:(own++caps).Nodup
 loc:∀x∈own,scope.names.lookup x=some .local\/scope.names.lookup x=some .cell
 ixs:ix.map (fun j=>oN[j]?)=caps.map some
 frees:∀p∈scope.names,p.2=.free->(osc.names.lookup p.1=some .cell\/osc.names.lookup p.1=some .free)
 caps:∀y∈caps,(y,NameKind.free)∈scope.names
 uniq:∀p∈scope.names,scope.names.lookup p.1=some p.2
noncomputable def fi (X:Cx)(scope:Scope)(C:Addr):Env :=
 { newEnv scope C X.env.globals (cellsFrom (C+1) scope.names (fT X.env scope.names [])) X.env.qual none .none (some X.env) builtinsNs with scope:=relabel scope X.env }
noncomputable def compCx (X:Cx)(scope:Scope)(N':List Str)(s₀:Shared)(H₀:Hp)(ex:List Addr)(pn:List (Addr×Obj)):Cx :=
 { X with N:=N',s₀:=s₀,H₀:=H₀,env:=fi X scope s₀.heap.objs.size,outer:=X.stack,stack:=X.stack,ex:=ex,fn:=fun x=>scope.names.lookup x==some .cell,pn:=pn,xe:=fun _ _=>False }
noncomputable def capt (n:Nat)(ix:List Nat)(σ:St):St:=a8 n none++ix.map (fun j=>(σ[j]?).join)
theorem gw {env:Env}{scope:Scope}{y:Str} :
  (relabel scope env).names.lookup y=(scope.names.lookup y).map fun k=>if (k==NameKind.free&&env.scope.kind==.function&&env.kindOf y==some .cell)=true then .cell else k:=by
 unfold relabel;dsimp only;generalize scope.names=names;induction names with
 |nil=>rfl
 |cons x r ih =>
  obtain⟨n,k⟩:=x;rw[aD];dsimp only;by_cases hb:(y==n)=true
  ·have e:y=n:=beq_iff_eq.mp hb;subst e;by_cases hc:(k==NameKind.free&&env.scope.kind==.function&&env.kindOf y==some .cell)=true
   ·rw[if_pos hc,aR,aR];simp only[beq_self_eq_true,ae,if_pos hc]
   ·rw[if_neg hc,aR,aR];simp only[beq_self_eq_true,ae,if_neg hc]
  ·have hb':(y==n)=false:=by simpa using hb
   rw[aR (a:=y) (b:=(n,k).2),hb'];by_cases hc:(k==NameKind.free&&env.scope.kind==.function&&env.kindOf n==some .cell)=true
   ·rw[if_pos hc,aR,hb'];exact ih
   ·rw[if_neg hc,aR,hb'];exact ih
section
variable {X:Cx}{pins:List (Addr×Obj)}{σ:St}{H:Hp}{s:Shared}{scope:Scope}{own caps:List Str}{ix:List Nat}
theorem kP {C:Addr}{x:Str}(S:CompSc X.env.scope X.N scope own ix caps)(h:scope.names.lookup x=some .cell):∃c,(fi X scope C).cells.lookup x=some c/\(x,c)∈cellsFrom (C+1) scope.names []:=by
 have q:=PySem.W.cellsFrom_some scope.names (C+1) [] (.inl h);obtain⟨c,hc⟩:=Option.isSome_iff_exists.mp q;refine⟨c,?_,mem_of_lookup hc⟩;show (cellsFrom (C+1) scope.names (fT X.env scope.names [])).lookup x=some c;rw[dE,f6,hc];rfl
theorem kO {C:Addr}{x:Str}(S:CompSc X.env.scope X.N scope own ix caps)(h:scope.names.lookup x=some .free)(hX:∃c,X.env.cells.lookup x=some c):(fi X scope C).cells.lookup x=X.env.cells.lookup x:=by
 obtain⟨c,hc⟩:=hX;show (cellsFrom (C+1) scope.names (fT X.env scope.names [])).lookup x=_;rw[dE,f6];have hn:(cellsFrom (C+1) scope.names []).lookup x=none:=by
  cases e:(cellsFrom (C+1) scope.names []).lookup x with
  |none=>rfl
  |some d =>
   rcases fI _ _ _ (mem_of_lookup e) with q|q
   ·have:=S.uniq _ q;rw[h] at this;cases this
   ·cases q
 rw[hn,iP hc _ _ (mem_of_lookup h),hc];rfl
theorem ey {C:Addr}{x:Str}{c:Addr}(h:(fi X scope C).cells.lookup x=some c):(x,c)∈cellsFrom (C+1) scope.names []\/X.env.cells.lookup x=some c:=by
 have h':(cellsFrom (C+1) scope.names (fT X.env scope.names [])).lookup x=some c:=h;rw[dE,f6] at h';cases e:(cellsFrom (C+1) scope.names []).lookup x with
 |some d =>
  rw[e] at h';cases h';exact .inl (mem_of_lookup e)
 |none =>
  rw[e] at h';exact .inr (iO _ [] (fun _ z=>by cases z) h')
theorem mO {fp:List Addr}{h':Heap}(S:CompSc X.env.scope X.N scope own ix caps)(I:Inv X pins σ H s)(hf:∀b∈fp,i6 X pins H b)(hlt:∀b∈fp,b<s.heap.objs.size)
  (hn:h'.Ns s.heap.objs.size (fun _=>none)) (hk:∀b o,s.heap.get? b=some o->h'.get? b=some o) (hc:CellsOk h' (s.heap.objs.size+1) (cellsFrom (s.heap.objs.size+1) scope.names [])) :
  Inv (compCx X scope (own++caps) s H fp (X.pn++pins)) [] (capt own.length ix σ) H { s with heap:=h' }:=by
 have lenS:ix.length=caps.length:=by
  have:=congrArg List.length S.ixs;simpa using this
 have oldc:∀x c,X.env.cells.lookup x=some c->c<s.heap.objs.size:=fun x c e=>by
  obtain⟨v,q⟩:=I.cell x c e;exact q.lt
 have newc:∀{x c},(x,c)∈cellsFrom (s.heap.objs.size+1) scope.names []->s.heap.objs.size+1<=c:=fun h=>(hc.empty _ _ h).2;have freeOf:∀x,scope.names.lookup x=some .free->(X.env.kindOf x=some .cell\/X.env.kindOf x=some .free):=fun x h=>S.frees (x,.free) (mem_of_lookup h) rfl;have xHas:∀x,scope.names.lookup x=some .free->∃c,X.env.cells.lookup x=some c:=fun x h=>I.ok.has x (freeOf x h);have stkF:∀b∈frs X.stack,H b=none:=I.stkFree;have hOk:(compCx X scope (own++caps) s H fp (X.pn++pins)).Ok:=by
  refine⟨I.ok.mod,S.kind,I.ok.glob,I.ok.blt,aq _,?_,?_,?_,I.ok.hd,I.ok.frames,.inl rfl,?_,I.bs,aL I.ok.bsz I.sz,?_,?_,I.stack,stkF⟩
  ·intro x y c e1 e2;rcases ey e1 with q1|q1 <;> rcases ey e2 with q2|q2
   ·exact name_of_addr hc.apart q1 q2
   ·exact absurd (ao (oldc _ _ q2) (bo (newc q1))) (aF _)
   ·exact absurd (ao (oldc _ _ q1) (bo (newc q2))) (aF _)
   ·exact I.ok.inj _ _ _ q1 q2
  ·intro x hx;have hx':(relabel scope X.env).names.lookup x=some .cell\/(relabel scope X.env).names.lookup x=some .free:=hx;rw[gw] at hx';cases e:scope.names.lookup x with
   |none=>rw[e] at hx';rcases hx' with z|z <;> cases z
   |some k =>
    by_cases hcell:k=.cell
    ·subst hcell;obtain⟨c,hc,_⟩:=kP (C:=s.heap.objs.size) S e;exact⟨c,hc⟩
    ·by_cases hfree:k=.free
     ·subst hfree;obtain⟨c,hc⟩:=xHas x e;exact⟨c,(kO S e ⟨c,hc⟩).trans hc⟩
     ·rw[e,ae] at hx';have hkf:(k==NameKind.free)=false:=by simpa using hfree
      rw[hkf] at hx';rcases hx' with z|z
      ·exact absurd (aS.inj z) hcell
      ·exact absurd (aS.inj z) hfree
  ·intro x c hfn e;have hcell:scope.names.lookup x=some .cell:=by simpa [compCx] using hfn
   rcases ey e with q|q
   ·exact bo (newc q)
   ·obtain⟨c',e',m'⟩:=kP (C:=s.heap.objs.size) S hcell;have:c'=c:=by
     have e2:(fi X scope s.heap.objs.size).cells.lookup x=some c:=e;rw[e'] at e2;exact aS.inj e2
    subst this;exact bo (newc m')
  ·intro b hb;refine⟨aK (hlt b hb),fun x c e=>?_⟩;rcases ey e with q|q
   ·exact bQ (ao (hlt b hb) (bo (newc q)))
   ·exact (hf b hb).2.2.2.2.1 x c q
  ·intro b o e hb;rcases (hf b hb).2.2.2.1 with z|z
   ·exact I.ok.noex b o e z
   ·exact absurd (ao (av e) (aL I.ok.bsz z)) (aF _)
  ·intro b hb hb2;rcases ay.mp (I.stkSub b hb2) with z|z
   ·exact (hf b hb).2.1 z
   ·exact (hf b hb).2.2.1 z
 refine⟨hOk,rfl,I.bare,Un.kept hk,⟨fun _=>none,hn,?_⟩,?_,I.hok.fresh (aq _),?_,?_,I.hok.kept hk,?_⟩
 ·intro i x v h1 h2 h3;by_cases hi:i<own.length
  ·have h2':(capt own.length ix σ)[i]?=some (some v):=h2;unfold capt at h2';rw[ba (by simpa using hi),bA,if_pos hi] at h2';cases h2'
  ·have h2':(capt own.length ix σ)[i]?=some (some v):=h2;unfold capt at h2';rw[aT (by simpa using hi),aJ,aH] at h2';have h1':(own++caps)[i]?=some x:=h1;rw[aT (by simpa using hi)] at h1';cases ej:ix[i-own.length]? with
   |none=>rw[ej] at h2';cases h2'
   |some j =>
    rw[ej,ae] at h2';have hj:X.N[j]?=some x:=by
     have q:(ix.map (fun j=>X.N[j]?))[i-own.length]?=(caps.map some)[i-own.length]?:=by rw[S.ixs]
     rw[aH,aH,ej,h1',ae,ae] at q;exact aS.inj q
    have hv:σ[j]?=some (some v):=by
     have q:(σ[j]?).join=some v:=aS.inj h2';cases e:σ[j]? with
     |none=>rw[e] at q;cases q
     |some w'=>rw[e] at q;exact congrArg some q
    have hfree:scope.names.lookup x=some .free:=S.uniq _ (S.caps x (aX h1'));obtain⟨m,hm,hl⟩:=I.loc;have hvis:Vis X.env.scope x:=by
     rcases freeOf x hfree with z|z
     ·exact .inr (.inl z)
     ·exact .inr (.inr z)
    obtain⟨u,r,l⟩:=hl j x v hj hv hvis;refine⟨u,r,?_⟩;rcases l with ⟨k,_⟩|⟨k,c,e,z⟩
    ·rcases freeOf x hfree with q|q <;> rw[q] at k <;> cases k
    ·refine .inr ⟨?_,c,(kO S hfree ⟨c,e⟩).trans e,z.keeps hk⟩;show (relabel scope X.env).names.lookup x=some .cell\/(relabel scope X.env).names.lookup x=some .free;rw[gw,hfree,ae];split
     ·exact .inl rfl
     ·exact .inr rfl
 ·intro x c e;rcases ey e with q|q
  ·exact⟨none,(hc.empty _ _ q).1⟩
  ·obtain⟨v,z⟩:=I.cell x c q;exact⟨v,z.keeps hk⟩
 ·intro x c e;rcases ey e with q|q
  ·exact I.hok.fresh (bo (newc q))
  ·exact I.freeC x c q
 ·intro p hp;have hp':p∈X.pn++pins:=by
   have:p∈(X.pn++pins)++[]:=hp;simpa using this
  obtain⟨e,n,ne,nf,d⟩:=I.pin p hp';refine⟨hk _ _ e,n,aK (av e),fun z=>?_,d⟩;rcases ay.mp (I.stkSub p.1 z) with q|q
  ·exact ne q
  ·exact nf q
 ·show (capt own.length ix σ).length=(own++caps).length;unfold capt;rw[au,au,aJ,az,lenS]
end
end L2
namespace L2
open PySem PySem.Spec PyProof.Rows
noncomputable abbrev NoX:Value->Shared->Prop:=fun _ _=>False
theorem lX {prog:Program}{w:World}{A:Around}{R:Result->Shared->Prop}{s:Shared}{elt target iter:Expr}{ifs:List Expr}{scope:Scope}{pos:Pos}{it acc:Value}{env:Env}(I:Nat->Shared->Prop)
  (turn:∀n s,I n s->wpAny (model prog w) A (pyNext it) (fun r s₁=>match r with
   |none=>R (.ok .next) s₁
   |some v=>wpAny (model prog w) A (letOwnedTupleGo target it v) (fun _ s₁'=>wpAny (model prog w) A (assign target env v) (fun _ s₂ =>
     wpAny (model prog w) A (forIn ifs true fun c r=>if r=true then do let ok <-isTrue c env (eval c env);pure (ForInStep.yield ok) else pure (ForInStep.yield r)) (fun ok s₃ =>
      if ok=true then wpAny (model prog w) A (eval elt env) (fun x s₄ =>
       wpAny (model prog w) A (call (.builtin "list.append") [acc,x]) (fun _ s₅=>∃m,m<n/\I m s₅) NoX s₄) NoX s₃
      else ∃m,m<n/\I m s₃) NoX s₂) NoX s₁') NoX s₁) NoX s)
  (n:Nat) (h:I n s) :
  codeAny (model prog w) A (.compLoop (.ListComp elt [⟨target,iter,ifs,0⟩] scope pos) 0 it acc env) R s:=by
 refine codeAny_loop rfl I (fun n s hI=>?_) n h;show wpAny _ A ((compTurn (.ListComp elt [⟨target,iter,ifs,0⟩] scope pos) 0 it acc env).onRaise (fun x=>do noteFrame x env;theTreesLotGoes x)) _ _ s;refine wpAny_noted ?_;rw[compTurn_list];refine ag (wpAny_standAt (ag (wpAny_mono (turn n s hI) (fun r s₁ h₁=>?_) fun _ _ h'=>h'.elim)));cases r with
 |none=>exact aA h₁
 |some v =>
  refine ag (wpAny_mono h₁ (fun _ s₁' h₁'=>?_) fun _ _ h'=>h'.elim);refine ag (wpAny_mono h₁' (fun _ s₂ h₂=>ag (wpAny_mono h₂ (fun ok s₃ h₃=>?_) fun _ _ h'=>h'.elim)) fun _ _ h'=>h'.elim);cases ok with
  |false=>exact aA ⟨rfl,h₃⟩
  |true =>
   exact ag (ag (wpAny_mono h₃ (fun x s₄ h₄=>ag (wpAny_mono h₄ (fun _ s₅ h₅=>aA (aA ⟨rfl,h₅⟩)) fun _ _ h'=>h'.elim)) fun _ _ h'=>h'.elim))
noncomputable def PTs (X:Cx)(ifs:List Expr)(t:TT):Prop :=
 ∀(pins:List (Addr×Obj)) (s:Shared) (σ:St) (H:Hp) (Q:Bool->Hp->Prop),Inv X pins σ H s->t σ H Q →
  wpAny (model X.prog X.w) X.A (forIn ifs true fun c r=>if r=true then do let ok <-isTrue c X.env (eval c X.env);pure (ForInStep.yield ok) else pure (ForInStep.yield r)) (TP X pins σ Q) X.xe s
noncomputable def vp:TT:=fun _ H Q=>Q true H
theorem pts_nil {X:Cx}:PTs X [] vp:=fun pins s σ H Q I h=>wpAny_tests_nil ⟨H,I,h⟩
noncomputable def tComp (wi:TI)(n:Nat)(ix:List Nat)(g:TG)(tc:TT)(te:TE):TE:=fun σ H Q=>wi σ H fun J H1=>∀D,H1 D=none →
 ∃W:Nat->Nat->St->Hp->Prop,(∃m,W 0 m (capt n ix σ) (cX H1 D (.lst [])))/\∀i m σ' H',W i m σ' H' →
  (J.stop i H'/\Q (.ref D) H')\/(J.go i H'/\∃N:St->Hp->Prop,(∀σ2 H2,N σ2 H2->∃m',m'<m/\W (i+1) m' σ2 H2) ∧
   ∀x H2,J.yld i H' x H2->g x σ' H2 fun σ3 H3=>tc σ3 H3 fun b H4=>if b=true then te σ3 H4 fun y H5=>∃ys,H5 D=some (.lst ys)/\ys.length<sizeLine/\N σ3 (cX H5 D (.lst (ys++[y]))) else N σ3 H4)
section
variable {X:Cx}{scope:Scope}{own caps:List Str}{ix:List Nat}{tg iter elt:Expr}{ifs:List Expr}{wi:TI}{g:TG}{tc:TT}{te:TE}
theorem nP {pos:Pos}{pins:List (Addr×Obj)}{s2:Shared}{σ:St}{H2:Hp}{E:Value->Shared->Prop}{J:It}{it:Addr}{fp:List Addr}{tn:Nat->Heap->Prop}{Q:VK}{RR:Value->Addr->Result->Shared->Prop}
  (S:CompSc X.env.scope X.N scope own ix caps) (hc:X.calm=true)
  (hg:∀s₀ H₀ ex pn,PG (compCx X scope (own++caps) s₀ H₀ ex pn) tg g) (ht:∀s₀ H₀ ex pn,PTs (compCx X scope (own++caps) s₀ H₀ ex pn) ifs tc) (he:∀s₀ H₀ ex pn,PE (compCx X scope (own++caps) s₀ H₀ ex pn) elt te)
  (I2:Inv X pins σ H2 s2) (T:Turn X.prog X.w X.K tg J fp it tn) (st2:tn 0 s2.heap) (f2:∀b∈fp,i6 X pins H2 b)
  (hW:∀D,H2 D=none->∃W:Nat->Nat->St->Hp->Prop,(∃m,W 0 m (capt own.length ix σ) (cX H2 D (.lst [])))/\∀i m σ' H',W i m σ' H' →
   (J.stop i H'/\Q (.ref D) H')\/(J.go i H'/\∃N:St->Hp->Prop,(∀σ2 H2,N σ2 H2->∃m',m'<m/\W (i+1) m' σ2 H2) ∧
    ∀x H2,J.yld i H' x H2->g x σ' H2 fun σ3 H3=>tc σ3 H3 fun b H4=>if b=true then te σ3 H4 fun y H5=>∃ys,H5 D=some (.lst ys)/\ys.length<sizeLine/\N σ3 (cX H5 D (.lst (ys++[y]))) else N σ3 H4))
  (hRR:∀(D C:Addr) (H':Hp) (s':Shared),Inv X pins σ H' s'->Q (.ref D) H'->(∃m,s'.heap.Ns C m)->H' C=none->C≠X.env.locals->X.s₀.heap.objs.size<=C->(∀x c,X.env.cells.lookup x=some c->c≠C)->(∀p∈X.pn++pins,p.1≠C)->RR (.ref D) C (.ok .next) s') :
  wpAny (model X.prog X.w) X.A (newList []) (fun acc s₃=>wpAny (model X.prog X.w) X.A (newFunctionEnv scope X.env.globals (fT X.env scope.names []) [] X.env.qual none .none (some X.env)) (fun cenv s₄ =>
   codeAny (model X.prog X.w) X.A (.compStart (.ListComp elt [⟨tg,iter,ifs,0⟩] scope pos) 0 (.ref it) acc { cenv with scope:=relabel scope X.env }) (RR acc cenv.locals) s₄) E s₃) E s2:=by
 refine bj (mw fun h' hn hk hcl hs=>?_);have hD:H2 s2.heap.objs.size=none:=I2.hok.fresh (aq _);obtain⟨W,⟨m0,w0⟩,turn⟩:=hW s2.heap.objs.size hD;have I3:=I2.lnew (ys:=[]) (its:=[]) (t':=s2.toks) .nil (bf _);generalize hs3:({ s2 with heap:=s2.heap.push { cls:=.type "list", data:=.seq ([]:List Value).toArray },toks:=s2.toks }:Shared)=s3 at I3;have hlt:∀b∈fp,b<s2.heap.objs.size:=fun b hb=>by
  obtain⟨o,e,_⟩:=T.obj _ _ st2 b hb;exact av e
 have hsz:s3.heap.objs.size=s2.heap.objs.size+1:=by rw[<-hs3];exact bG ..
 have k3:∀b o,s2.heap.get? b=some o->s3.heap.get? b=some o:=fun b o e=>by rw[<-hs3];exact aw _ e
 have f3:∀b∈fp,i6 X pins (cX H2 s2.heap.objs.size (.lst [])) b:=fun b hb=>by
  obtain⟨f0,fr⟩:=f2 b hb;exact⟨by rw[bZ (aK (hlt b hb))];exact f0,fr⟩
 have es3:s3={ s2 with heap:=s2.heap.push { cls:=.type "list", data:=.seq ([]:List Value).toArray } }:=hs3.symm
 try rw[<-es3] at hn
 try rw[<-es3] at hk
 try rw[<-es3] at hcl
 try rw[<-es3] at hs
 try rw[<-es3]
 have hlt3:∀b∈fp,b<s3.heap.objs.size:=fun b hb=>by rw[hsz];exact Nat.lt_succ_of_lt (hlt b hb)
 have I4:=mO S I3 f3 hlt3 hn hk hcl;have st4:tn 0 h':=T.keep _ _ _ st2 fun b hb o e=>hk b o (k3 b o e);have stat:∀{H':Hp},(∀b∈fp,H' b=none)->∀b∈fp,i6 (compCx X scope (own++caps) s3 (cX H2 s2.heap.objs.size (.lst [])) fp (X.pn++pins)) [] H' b:=fun hn b hb=>by
  obtain⟨f0,f1,f2',f3',f4,f5⟩:=f3 b hb;refine⟨hn b hb,aK (hlt3 b hb),fun z=>?_,.inl hb,fun x c e=>(I4.ok.exf b hb).2 x c e,fun p hp=>f5 p (by simpa [compCx] using hp)⟩;rcases ay.mp (I2.stkSub b z) with q|q
  ·exact f1 q
  ·exact f2' q
 have main:codeAny (model X.prog X.w) X.A (.compLoop (.ListComp elt [⟨tg,iter,ifs,0⟩] scope pos) 0 (.ref it) (.ref s2.heap.objs.size) (fi X scope s3.heap.objs.size))
   (RR (.ref s2.heap.objs.size) s3.heap.objs.size) { s3 with heap:=h' }:=by
  refine lX (fun n s'=>∃i σ' H',Inv (compCx X scope (own++caps) s3 (cX H2 s2.heap.objs.size (.lst [])) fp (X.pn++pins)) [] σ' H' s'/\tn i s'.heap/\(∀b∈fp,H' b=none)/\W i n σ' H') ?_ m0
   ⟨0,_,_,I4,st4,fun b hb=>(f3 b hb).1,w0⟩
  rintro n s5 ⟨i,σ5,H5,I5,st5,fr5,w5⟩;rcases turn i n σ5 H5 w5 with ⟨stop,qn⟩|⟨go,N,hN,step⟩
  ·refine thn (T.done (compCx X scope (own++caps) s3 (cX H2 s2.heap.objs.size (.lst [])) fp (X.pn++pins)) rfl rfl rfl hc i [] s5 σ5 H5 NoX I5 (stat fr5) st5 stop) fun r s6 zz=>?_;obtain ⟨hr,I6⟩:=zz;subst hr;have u:Un (frs X.stack) fp H2 H5 s2.heap s6.heap:=(Un.laid (o:=.lst []) k3 (aq _) hD).trans I6.base;have e6:s6.os=s2.os:=by
    have:=I6.os;rw[this,<-hs3];rfl
   have I7:Inv X pins σ H5 s6:=I2.call' e6 u I6.hok I6.bare fun b hb=>⟨(f2 b hb).2.2.2.1,(f2 b hb).2.1,(f2 b hb).2.2.2.2.1,(f2 b hb).2.2.2.2.2⟩;obtain⟨mC,hC,_⟩:=I6.loc;refine hRR _ _ H5 s6 I7 qn ⟨mC,hC⟩ I6.free (bQ (ao I2.lt (by rw[hsz];exact Nat.le_succ _))) (aL I2.sz (by rw[hsz];exact Nat.le_succ _)) (fun x c e z=>?_) fun p hp z=>?_
   ·obtain⟨v,q⟩:=I2.cell x c e;have:=q.lt;rw[z,hsz] at this;exact aF _ (bB this)
   ·have:=av (I2.pin p hp).1;rw[z,hsz] at this;exact aF _ (bB this)
  ·refine thn (T.item (compCx X scope (own++caps) s3 (cX H2 s2.heap.objs.size (.lst [])) fp (X.pn++pins)) rfl rfl rfl hc i [] s5 σ5 H5 NoX I5 (stat fr5) st5 go) fun r s6 zz=>?_;obtain ⟨u,hr,h6⟩:=zz;subst hr;refine thn h6 fun _ s7 zz=>?_;obtain ⟨x,H7,I7,r7,y7,st7,fr7⟩:=zz;have I7':=I7.pinned (stat fr7) (T.obj _ _ st7);refine thn (hg _ _ _ _ _ s7 σ5 H7 x u _ I7' r7 (step x H7 y7)) fun _ s8 zz=>?_;obtain ⟨σ8,H8,I8,q8⟩:=zz;refine thn (ht _ _ _ _ _ s8 σ8 H8 _ I8 q8) fun b s9 zz=>?_;obtain ⟨H9,I9,q9⟩:=zz;have again:∀{σ':St}{H':Hp}{s':Shared},Inv (compCx X scope (own++caps) s3 (cX H2 s2.heap.objs.size (.lst [])) fp (X.pn++pins)) ([]++iT fp s7.heap) σ' H' s'->N σ' H' →
     ∃m,m<n/\∃i σ' H',Inv (compCx X scope (own++caps) s3 (cX H2 s2.heap.objs.size (.lst [])) fp (X.pn++pins)) [] σ' H' s'/\tn i s'.heap/\(∀b∈fp,H' b=none)/\W i m σ' H':=fun {σ' H' s'} J n7=>by
    obtain⟨m',hm,w7⟩:=hN σ' H' n7;refine⟨m',hm,i+1,σ',H',J.unpinned,T.keep _ _ _ st7 fun b hb o e=>(J.pin (b,o) (ah _ (ah _ (el hb e)))).1,fun b hb=>?_,w7⟩;obtain⟨o,e,d⟩:=T.obj _ _ st7 b hb;exact (J.pin (b,o) (ah _ (ah _ (el hb e)))).2.1
   cases b with
   |false=>exact again I9 q9
   |true =>
    rw[if_pos rfl] at q9;show wpAny _ _ (eval elt _) _ _ _;refine thn (he _ _ _ _ _ s9 σ8 H9 _ I9 q9) fun y s10 zz=>?_;obtain ⟨vy,H10,I10,r10,ys,hD10,hz10,q10⟩:=zz;refine thn (mt_append _ s10 σ8 H10 (.ref s2.heap.objs.size) [vy] (.ref s2.heap.objs.size) [y] (fun _ H'=>N σ8 H') I10 rfl (.cons r10 .nil) ⟨_,ys,vy,rfl,rfl,hD10,hz10,q10⟩) fun _ s11 zz=>?_;obtain ⟨_,H11,I11,_,q11⟩:=zz;exact again I11 q11
 exact codeAny_compStart_list main (T.self _ 0 _ _ _ st4 main)
theorem pe_lcomp {pos:Pos}(S:CompSc X.env.scope X.N scope own ix caps)(hc:X.calm=true)(hi:PI X tg iter wi)
  (hg:∀s₀ H₀ ex pn,PG (compCx X scope (own++caps) s₀ H₀ ex pn) tg g) (ht:∀s₀ H₀ ex pn,PTs (compCx X scope (own++caps) s₀ H₀ ex pn) ifs tc) (he:∀s₀ H₀ ex pn,PE (compCx X scope (own++caps) s₀ H₀ ex pn) elt te)
  (hs:∀x,foldedSetIterable iter X.env x=pure x:=by intro _;rfl) :
  PE X (.ListComp elt [⟨tg,iter,ifs,0⟩] scope pos) (tComp wi own.length ix g tc te):=by
 intro pins s σ H Q I h;have hcl:closureFor scope X.env=pure (fT X.env scope.names []):=g0 fun y hy=>I.ok.has y (S.frees (y,.free) hy rfl);rw[eval_ListComp];refine wpAny_comprehension_free (use:=none) rfl hs hcl S.kind (fun y hy hl=>by have:=S.uniq y hy;rw[hl] at this;exact this) ?_;refine thn (hi pins s σ H _ I h) fun v s1 h1=>thn h1 fun itv s2 h2=>?_;obtain⟨it,fp,tn,J,H2,e,I2,T,st2,f2,hW⟩:=h2;subst e;refine nP (E:=X.xe) (Q:=Q) (RR:=fun acc C=>compPost (model X.prog X.w) X.A X.xe none (EP X pins σ Q) acc C) S hc hg ht he I2 T st2 f2 hW ?_;intro D C H' s' I' q hC hH hL hs0 hcell hp;obtain⟨m,hm⟩:=hC;refine⟨m,hm,fun h'' hsb=>⟨.ref D,H',?_,rfl,q⟩⟩;exact I'.turned (t':=s'.toks) (fun b o hb e=>(hsb.2 b hb).trans e) hH (Ne.symm hL).symm (.inr hs0) hcell hp
end
end L2
namespace DL
open PySem PySem.Spec PySem.SeqAt
noncomputable abbrev D:=PyData
noncomputable abbrev Vl:=D×Bool
noncomputable abbrev Sl:=List (Option Vl)
set_option genInjectivity true in
inductive Fl where
 |next (ρ:Sl)|ret (r:Vl)|brk (ρ:Sl)|cont (ρ:Sl)
noncomputable abbrev ED:=Sl->Option Vl
noncomputable abbrev BD:=Sl->Option D
noncomputable abbrev TD:=Sl->Option Bool
noncomputable abbrev AD:=Sl->Option (List D)
noncomputable abbrev SD:=Sl->Option Fl
noncomputable abbrev GD:=D->Sl->Option Sl
noncomputable abbrev O2:=D->D->Option Vl
noncomputable abbrev FD:=List D->Option Vl
noncomputable def dC (d:D):ED:=fun _=>some (d,false)
noncomputable def cE (i:Nat):ED:=fun ρ=>match ρ[i]? with
 |some (some (d,false))=>some (d,false)
 |_=>none
noncomputable def bW (i:Nat):BD:=fun ρ=>match ρ[i]? with
 |some (some (d,false))=>some d
 |some (some (.list xs,true))=>some (.list xs)
 |some (some (.dict [(.dict kvs,.bool true)],true))=>some (.dict kvs)
 |_=>none
noncomputable def cf (f:ED):BD:=fun ρ=>(f ρ).map (·.1)
noncomputable def d1 (op:D->Option Vl)(f:BD):ED:=fun ρ=>(f ρ).bind op
noncomputable def d2 (op:O2)(f g:BD):ED:=fun ρ=>(f ρ).bind fun x=>(g ρ).bind fun y=>op x y
noncomputable def cJ:AD:=fun _=>some []
noncomputable def bY (f:ED)(t:AD):AD:=fun ρ=>(f ρ).bind fun x=>(t ρ).bind fun xs=>some (x.1::xs)
noncomputable def iZ (t:AD):ED:=fun ρ=>(t ρ).bind fun xs=>if xs.length<=sizeLine then some (.tuple xs,false) else none
noncomputable def fM (t:AD):ED:=fun ρ=>(t ρ).bind fun xs=>if xs.length<=sizeLine then some (.list xs,true) else none
noncomputable def cC (F:FD)(t:AD):ED:=fun ρ=>(t ρ).bind F
noncomputable def pZ:D->Option Bool
 |.bool b=>some b
 |_=>none
noncomputable def uU (f g:ED):ED:=fun ρ=>(f ρ).bind fun x=>(pZ x.1).bind fun c=>if c=true then g ρ else some (.bool false,false)
noncomputable def uR (f:ED):ED:=fun ρ=>(f ρ).bind fun x=>(pZ x.1).bind fun c=>some (.bool (!c),false)
noncomputable def gC (t:TD):ED:=fun ρ=>(t ρ).bind fun c=>some (.bool c,false)
noncomputable def k9 (f:ED):TD:=fun ρ=>(f ρ).bind fun x=>pZ x.1
noncomputable def jz (f g:TD):TD:=fun ρ=>(f ρ).bind fun c=>if c=true then g ρ else some false
noncomputable def ir (f g:TD):TD:=fun ρ=>(f ρ).bind fun c=>if c=true then some true else g ρ
noncomputable def dP (f:TD):TD:=fun ρ=>(f ρ).bind fun c=>some (!c)
noncomputable def gS:TD:=fun _=>some true
noncomputable abbrev C2:=D->D->Option Bool
noncomputable def tChain:D->List (C2×BD)->TD
 |_,[]=>fun _=>some true
 |x,[(op,f)]=>fun ρ=>(f ρ).bind fun y=>op x y
 |x,(op,f)::r=>fun ρ=>(f ρ).bind fun y=>(op x y).bind fun c=>if c=true then tChain y r ρ else some false
noncomputable def cF (f:BD)(l:List (C2×BD)):TD:=fun ρ=>(f ρ).bind fun x=>tChain x l ρ
noncomputable def nR (i j:Int):Bool:=(decide (-(2 ^ 64)<i)&&decide (i<2 ^ 64))||(decide (-(2 ^ 64)<j)&&decide (j<2 ^ 64))
noncomputable def cS:O2
 |.int i,.int j=>some (.int (i+j),false)
 |.tuple xs,.tuple ys=>if xs.length+ys.length<=sizeLine then some (.tuple (xs++ys),false) else none
 |.str x,.str y=>if x.length+y.length<=sizeLine then some (.str (x++y),false) else none
 |_,_=>none
noncomputable def qx:O2
 |.int i,.int j=>some (.int (i-j),false)
 |_,_=>none
noncomputable def jg:O2
 |.int i,.int j=>if nR i j=true then some (.int (i*j),false) else none
 |_,_=>none
noncomputable def ia:O2
 |.int i,.int j=>if 0<j/\j<1073741824 then some (.int (i/j),false) else none
 |_,_=>none
noncomputable def dW:O2
 |.int i,.int j=>if 0<j then some (.int (i%j),false) else none
 |_,_=>none
noncomputable def lG:O2
 |.int i,.int j=>if 0<=j/\j<=1000000/\i.natAbs<2 ^ 64 then some (.int (i ^ j.toNat),false) else none
 |_,_=>none
noncomputable def ny:D->Option Vl
 |.int i=>some (.int (-i),false)
 |_=>none
noncomputable def nS:C2
 |.int i,.int j=>some (decide (i<j))
 |_,_=>none
noncomputable def j8:C2
 |.int i,.int j=>some (decide (i<=j))
 |_,_=>none
noncomputable def lY:C2
 |.int i,.int j=>some (decide (j<i))
 |_,_=>none
noncomputable def g4:C2:=fun x y=>if (shaped x&&shaped y&&noMix x y)=true then some (same x y) else none
noncomputable def i4:C2:=fun x y=>if (shaped x&&shaped y&&noMix x y)=true then some (!same x y) else none
noncomputable def qR (n:Nat)(i:Int):Option Nat:=if 0<=i then (if i<n then some i.toNat else none) else if -(n:Int)<=i then some (i+n).toNat else none
noncomputable def mW (xs:List D)(i:Int):Option D:=(qR xs.length i).bind fun j=>xs[j]?
noncomputable def eh:O2
 |.tuple xs,.int i=>(mW xs i).map fun d=>(d,false)
 |.list xs,.int i=>(mW xs i).map fun d=>(d,false)
 |_,_=>none
noncomputable def eY:D->Option Vl
 |.tuple xs=>some (.int xs.length,false)
 |.list xs=>some (.int xs.length,false)
 |_=>none
noncomputable def fH:D->Option Vl
 |.tuple xs=>some (.tuple xs,false)
 |.list xs=>some (.tuple xs,false)
 |_=>none
noncomputable def eL:List D->Option (List Bool)
 |[]=>some []
 |d::r=>(pZ d).bind fun b=>(eL r).map fun bs=>b::bs
noncomputable def lJ:D->Option Vl
 |.tuple xs=>(eL xs).map fun bs=>(.bool (bs.all id),false)
 |.list xs=>(eL xs).map fun bs=>(.bool (bs.all id),false)
 |_=>none
noncomputable def qA:O2
 |.int i,.int j=>some (.int (if j>i then j else i),false)
 |_,_=>none
noncomputable def rQ (T:String):D->Bool
 |.bool _=>T == "bool" || T == "int"
 |.int _=>T == "int"
 |.str _=>T == "str"
 |.tuple _=>T == "tuple"
 |.list _=>T == "list"
 |_=>false
noncomputable def lI (T:String):D->Option Vl
 |.bool b=>some (.bool (rQ T (.bool b)),false)
 |.int b=>some (.bool (rQ T (.int b)),false)
 |.str b=>some (.bool (rQ T (.str b)),false)
 |.tuple b=>some (.bool (rQ T (.tuple b)),false)
 |.list b=>some (.bool (rQ T (.list b)),false)
 |_=>none
noncomputable def gN (i:Nat):GD:=fun d ρ=>some (ρ.set i (some (d,false)))
noncomputable def jT:List GD->List D->Sl->Option Sl
 |[],[],ρ=>some ρ
 |g::gs,d::ds,ρ=>(g d ρ).bind fun ρ'=>jT gs ds ρ'
 |_,_,_=>none
noncomputable def gT (gs:List GD):GD:=fun d ρ=>match d with
 |.tuple ds=>jT gs ds ρ
 |_=>none
noncomputable def gL:D->Option (List D)
 |.tuple xs=>some xs
 |.list xs=>some xs
 |_=>none
noncomputable def kj (f:ED):AD:=fun ρ=>(f ρ).bind fun x=>gL x.1
noncomputable def eu (f:AD):AD:=f
noncomputable def vd:D->Option Int
 |.int i=>some i
 |_=>none
noncomputable def ic (i:Int)(n:Nat):List D:=(bq n).map fun (k:Nat)=>.int (i+k)
noncomputable def gM (f:ED):AD:=fun ρ=>(f ρ).bind fun x=>(vd x.1).bind fun j=>if -(2 ^ 62)<=j/\j<2 ^ 62 then some (ic 0 j.toNat) else none
noncomputable def fS (g:GD)(t:TD)(e:ED)(ρ:Sl):List D->Option (List D)
 |[]=>some []
 |d::ds=>(g d ρ).bind fun ρ1=>(t ρ1).bind fun c=>if c=true then (e ρ1).bind fun x=>(fS g t e ρ ds).map fun xs=>x.1::xs else fS g t e ρ ds
noncomputable def dg (n:Nat)(ix:List Nat)(ρ:Sl):Sl:=a8 n none++ix.map (fun j=>(ρ[j]?).join)
noncomputable def gD (it:AD)(n:Nat)(ix:List Nat)(g:GD)(t:TD)(e:ED):ED:=fun ρ=>(it ρ).bind fun ds=>if ds.length<=sizeLine then (fS g t e (dg n ix ρ) ds).map fun xs=>(.list xs,true) else none
noncomputable def dA:SD:=fun ρ=>some (.next ρ)
noncomputable def cD (a b:SD):SD:=fun ρ=>(a ρ).bind fun fl=>match fl with
 |.next ρ'=>b ρ'
 |fl=>some fl
noncomputable def cO (i:Nat)(f:ED):SD:=fun ρ=>(f ρ).bind fun x=>some (.next (ρ.set i (some x)))
noncomputable def cU (f:ED):SD:=fun ρ=>(f ρ).map .ret
noncomputable def eM (t:TD)(a b:SD):SD:=fun ρ=>(t ρ).bind fun c=>if c=true then a ρ else b ρ
noncomputable def share (i:Nat)(ρ:Sl):Sl:=match ρ[i]? with
 |some (some (.list xs,true))=>ρ.set i (some (.list xs,false))
 |_=>ρ
noncomputable def jH (i:Nat)(a:SD):SD:=fun ρ=>a (share i ρ)
noncomputable def rZ (i:Nat)(F:SD):SD:=fun ρ=>(F ρ).map fun fl=>match fl with
 |.next ρ'=>.next (share i ρ')
 |fl=>fl
noncomputable def qH (xs:List D):D:=.dict [(.list xs,.none)]
noncomputable def vj (c:D):D:=.dict [(c,.bool true)]
noncomputable def lA (i:Nat):AD:=fun ρ=>match ρ[i]? with
 |some (some (.list xs,false))=>some xs
 |some (some (.tuple xs,false))=>some xs
 |some (some (.dict [(.list xs,.none)],true))=>some xs
 |_=>none
noncomputable def qk (i:Nat)(h:List D->Option (List D)):SD:=fun ρ=>match ρ[i]? with
 |some (some (.list xs,true))=>(h xs).map fun ys=>.next (ρ.set i (some (.list ys,true)))
 |_=>none
noncomputable def pj (i:Nat)(f:ED):SD:=fun ρ=>(f ρ).bind fun x=>qk i (fun xs=>if xs.length<sizeLine then some (xs++[x.1]) else none) ρ
noncomputable def fq (g:GD)(b:SD):List D->SD
 |[],ρ=>some (.next ρ)
 | d::ds,ρ=>(g d ρ).bind fun ρ1=>(b ρ1).bind fun fl=>match fl with
  |.next ρ'=>fq g b ds ρ'
  |.cont ρ'=>fq g b ds ρ'
  |.brk ρ'=>some (.next ρ')
  |.ret r=>some (.ret r)
noncomputable def fP (it:AD)(g:GD)(b:SD):SD:=fun ρ=>(it ρ).bind fun ds=>fq g b ds ρ
open Classical in
noncomputable def d7:Fl->Option Vl
 |.next _=>some (.none,false)
 |.ret r=>some r
 |_=>none
noncomputable def gO (n m:Nat)(b:SD):FD:=fun ds=>if ds.length=n then (b (ds.map (fun d=>some (d,false))++a8 m none)).bind d7 else none
end DL
namespace DL
open PySem PySem.Spec PySem.SeqAt
noncomputable abbrev PD:=Sl->Option (Option Int)
noncomputable def fo:PD:=fun _=>some none
noncomputable def fm (f:ED):PD:=fun ρ=>(f ρ).bind fun x=>(vd x.1).map some
noncomputable def lx (n d:Nat):Option Int->Nat
 |none=>d
 |some v=>if v<0 then (v+(n:Int)).toNat else min v.toNat n
noncomputable def lW (xs:List D)(lo hi:Option Int):List D:=(xs.drop (lx xs.length 0 lo)).take (lx xs.length xs.length hi-lx xs.length 0 lo)
noncomputable def nO (x:D)(lo hi:Option Int):Option Vl:=match x with
 |.tuple xs=>some (.tuple (lW xs lo hi),false)
 |.list xs=>some (.list (lW xs lo hi),true)
 |_=>none
noncomputable def oJ (f:BD)(lo hi:PD):ED:=fun ρ=>(f ρ).bind fun x=>(lo ρ).bind fun l=>(hi ρ).bind fun h=>nO x l h
mutual
noncomputable def mx:D->Bool
 |.none=>true
 |.bool _=>true
 |.int _=>true
 |.str _=>true
 |.tuple ds=>iA ds
 |.list _=>false
 |.dict _=>false
noncomputable def iA:List D->Bool
 |[]=>true
 |d::ds=>mx d&&iA ds
end
noncomputable def jh:O2
 |.list xs,.list ys=>if xs.length+ys.length<=sizeLine then some (.list (xs++ys),true) else none
 |_,_=>none
noncomputable def iE (n:Int):Vl:=(.dict [(.int n,.int 7)],true)
noncomputable def dX:Vl->Option Int
 |(.dict [(.int n,.int 7)],true)=>some n
 |_=>none
noncomputable def gu (t:AD)(n:Int):SD:=fun ρ=>(t ρ).bind fun ds=>if ds.length<=100 then some (.ret (iE n)) else none
noncomputable def rY (F:FD)(t:AD)(r':Vl):SD:=fun ρ=>(t ρ).bind fun ds=>(F ds).bind fun r=>match dX r with
 |some _=>some (.ret r')
 |none=>some (.ret r)
mutual
noncomputable def w4:D->D->Option Bool
 |.int i,.int j=>some (decide (j<=i))
 |.tuple xs,.tuple ys=>wL xs ys
 |_,_=>none
noncomputable def wL:List D->List D->Option Bool
 |[],[]=>some true
 |[],_::_=>some false
 |_::_,[]=>some true
 |x::xs,y::ys=>if same x y=true then wL xs ys else w4 x y
end
end DL
set_option autoImplicit false
namespace DL
open PySem PySem.Spec PySem.SeqAt
open L2 (V Hp HO cI)
mutual
inductive Kb:Nat->D->Prop where
 |int (n:Nat) (i:Int):Kb n (.int i)
 |tuple {n:Nat}{ds:List D}:oZ n ds->Kb (n+1) (.tuple ds)
inductive oZ:Nat->List D->Prop where
 |nil {n:Nat}:oZ n []
 |cons {n:Nat}{d:D}{ds:List D}:Kb n d->oZ n ds->oZ n (d::ds)
end
mutual
noncomputable def tO:D->Int
 |.int i=>hashInt i
 |.tuple ds=>reduceHash (Builtin.Tuple.tupleHashOf (qV ds))
 |_=>0
noncomputable def qV:List D->List Int
 |[]=>[]
 |d::ds=>tO d::qV ds
end
noncomputable def wB (x:D×Addr×Value):DictEntry:=⟨tO x.1,.ref x.2.1,x.2.2⟩
noncomputable abbrev En:=D×V×V
def wH (p:En)(q:D×Addr×Value):Prop:=p.1=q.1/\p.2.1=.ref q.2.1/\cI p.2.2 q.2.2
def vX (a:Addr)(o:Obj)(es:List En)(h:Heap):Prop:=es.length<=sizeLine/\(a==sysModules)=false/\h.get? a=some o/\∃xs:List (D×Addr×Value),PySem.Paired wH es xs ∧
 ∃ds ep,o.ExactDict/\o.data=.dict ds ep/\ds.toList=xs.map wB/\(xs.map (·.1)).Nodup
noncomputable abbrev Es:=Obj×List En
noncomputable def wC (a:Addr)(es:Es):HO:=.ext (vX a es.1 es.2)
noncomputable def oW:(List V ⊕ (Heap->Prop))->HO
 |.inl vs=>.lst vs
 |.inr φ=>.ext φ
end DL
namespace DL
open PySem PySem.Spec PySem.SeqAt
open L2 (V Hp St HO VK TE TT TA TS TI TG Cx Inv PE PT PA PS PSs PI PG dr dq cw cX cg bZ bV cA cI EP TP AP SP c7 It)
noncomputable abbrev Fg:=PySem.W.Frag
noncomputable def pW (K:Fg)(H:Hp)(O:List Addr)(a:Addr)(vs:List V):Prop :=
 (H a=some (.lst vs)/\a∉O)\/(∃o,H a=some (.frz o (.lst vs))) ∨
  ∃(o:Obj) (its:Array Value) (n:Nat),K.lookup a=some o/\o.cls=.type "list" ∧ o.dict=none/\o.data=.seq its n/\its.size<=sizeLine/\cA vs its.toList
theorem pW.sq {K:Fg}{H:Hp}{O:List Addr}{a:Addr}{vs:List V}(h:pW K H O a vs):dq K H a vs:=by
 rcases h with h|h|h
 ·exact .inl (.inl h.1)
 ·exact .inl (.inr h)
 ·exact .inr h
mutual
inductive R (K:Fg)(H:Hp)(O:List Addr):D->V->Prop where
 |none:R K H O .none .non
 |bool (b:Bool):R K H O (.bool b) (.bl b)
 |int (i:Int):R K H O (.int i) (.int i)
 |str (x:Str):R K H O (.str x) (.str x)
 |tuple {a:Addr}{ds:List D}{vs:List V}:dr K H a vs->Rs K H O ds vs->R K H O (.tuple ds) (.ref a)
 |list {a:Addr}{ds:List D}{vs:List V}:pW K H O a vs->Rs K H O ds vs->R K H O (.list ds) (.ref a)
 |dict {a:Addr}{kvs:List (D×D)}{es:Es}:H a=some (wC a es)->a∉O->Rd K H O kvs es.2->R K H O (.dict kvs) (.ref a)
inductive Rs (K:Fg)(H:Hp)(O:List Addr):List D->List V->Prop where
 |nil:Rs K H O [] []
 |cons {d:D}{v:V}{ds:List D}{vs:List V}:R K H O d v->Rs K H O ds vs->Rs K H O (d::ds) (v::vs)
inductive Rd (K:Fg)(H:Hp)(O:List Addr):List (D×D)->List En->Prop where
 |nil:Rd K H O [] []
 |cons {k d:D}{u v:V}{kvs:List (D×D)}{es:List En}:R K H O k u->R K H O d v->Rd K H O kvs es->Rd K H O ((k,d)::kvs) ((k,u,v)::es)
end
structure gm (M O:List Addr)(H:Hp)(O':List Addr)(H':Hp):Prop where
 tup:∀b xs,H b=some (.tup xs)->H' b=some (.tup xs)
 frz:∀b o u,H b=some (.frz o u)->H' b=some (.frz o u)
 lst:∀b xs,b∉M->H b=some (.lst xs)->H' b=some (.lst xs)
 ext:∀b φ,b∉M->H b=some (.ext φ)->H' b=some (.ext φ)
 new:∀b∈O',b∈O\/H b=none
 sub:∀b∈M,b∈O
theorem gm.same {O:List Addr}{H H':Hp}(s:cw H H'):gm [] O H O H':=⟨fun b _ e=>s b _ e,fun b _ _ e=>s b _ e,fun b _ _ e=>s b _ e,fun b _ _ e=>s b _ e,fun _ h=>.inl h,(fun _ h=>nomatch h)⟩
theorem gm.less {O O':List Addr}{H:Hp}(s:∀b∈O',b∈O):gm [] O H O' H:=⟨fun _ _ e=>e,fun _ _ _ e=>e,fun _ _ _ e=>e,fun _ _ _ e=>e,fun b h=>.inl (s b h),(fun _ h=>nomatch h)⟩
theorem gm.fresh {O:List Addr}{H H':Hp}{p:Addr}(s:cw H H')(hp:H p=none):gm [] O H (p::O) H':=⟨fun b _ e=>s b _ e,fun b _ _ e=>s b _ e,fun b _ _ e=>s b _ e,fun b _ _ e=>s b _ e,fun b hb=>(ay.mp hb).elim (fun z=>.inr (z▸hp)) .inl,(fun _ h=>nomatch h)⟩
theorem dr.ext {K:Fg}{M O O':List Addr}{H H':Hp}{a:Addr}{vs:List V}(e:gm M O H O' H')(h:dr K H a vs):dr K H' a vs:=by
 rcases h with (h|⟨o,h⟩)|h
 ·exact .inl (.inl (e.tup _ _ h))
 ·exact .inl (.inr ⟨o,e.frz _ _ _ h⟩)
 ·exact .inr h
theorem pW.ext {K:Fg}{M O O':List Addr}{H H':Hp}{a:Addr}{vs:List V}(e:gm M O H O' H')(h:pW K H O a vs):pW K H' O' a vs:=by
 rcases h with ⟨h,n⟩|⟨o,h⟩|h
 ·refine .inl ⟨e.lst _ _ (fun z=>n (e.sub _ z)) h,fun z=>?_⟩;rcases e.new _ z with q|q
  ·exact n q
  ·rw[q] at h;cases h
 ·exact .inr (.inl ⟨o,e.frz _ _ _ h⟩)
 ·exact .inr (.inr h)
mutual
theorem R.ext {K:Fg}{M O O':List Addr}{H H':Hp}{d:D}{v:V}(e:gm M O H O' H'):R K H O d v->R K H' O' d v
 |.none=>.none
 |.bool b=>.bool b
 |.int i=>.int i
 |.str x=>.str x
 |.tuple h r=>.tuple (dr.ext e h) (Rs.ext e r)
 |.list h r=>.list (h.ext e) (Rs.ext e r)
 |.dict h n r=>.dict (e.ext _ _ (fun z=>n (e.sub _ z)) h) (fun z=>(e.new _ z).elim n fun q=>by rw[q] at h;cases h) (Rd.ext e r)
theorem Rs.ext {K:Fg}{M O O':List Addr}{H H':Hp}{ds:List D}{vs:List V}(e:gm M O H O' H'):Rs K H O ds vs->Rs K H' O' ds vs
 |.nil=>.nil
 |.cons h r=>.cons (R.ext e h) (Rs.ext e r)
theorem Rd.ext {K:Fg}{M O O':List Addr}{H H':Hp}{kvs:List (D×D)}{es:List En}(e:gm M O H O' H'):Rd K H O kvs es->Rd K H' O' kvs es
 |.nil=>.nil
 |.cons h g r=>.cons (R.ext e h) (R.ext e g) (Rd.ext e r)
end
section
variable {K:Fg}{H H':Hp}{O:List Addr}
theorem Rd.length:∀{kvs:List (D×D)}{es:List En},Rd K H O kvs es->kvs.length=es.length:=by
 intro ds;induction ds with
 |nil=>intro vs h; cases h; rfl
 |cons d ds ih=>
  intro vs h;cases h with
  |cons _ _ r=>rw [ai,ai,ih r]
theorem Rd.same {kvs:List (D×D)}{es:List En}(s:cw H H')(h:Rd K H O kvs es):Rd K H' O kvs es:=h.ext (.same s)
theorem Rs.length:∀{ds:List D}{vs:List V},Rs K H O ds vs->ds.length=vs.length:=by
 intro ds;induction ds with
 |nil=>intro vs h; cases h; rfl
 |cons d ds ih=>
  intro vs h;cases h with
  |cons _ r=>rw [ai,ai,ih r]
theorem Rs.get:∀{ds:List D}{vs:List V}{i:Nat}{d:D},Rs K H O ds vs->ds[i]?=some d->∃v,vs[i]?=some v/\R K H O d v
 |_,_,_,_,.nil,e=>by simp at e
 |_,_,0,_,.cons h _,e=>by simp at e;subst e;exact⟨_,rfl,h⟩
 |_,_,i+1,_,.cons _ r,e=>by simpa using Rs.get r (by simpa using e)
theorem Rs.append:∀{ds es:List D}{vs us:List V},Rs K H O ds vs->Rs K H O es us->Rs K H O (ds++es) (vs++us):=by
 intro ds;induction ds with
 |nil=>intro es vs us h s; cases h; exact s
 |cons d ds ih=>
  intro es vs us h s;cases h with
  |cons q r=>exact .cons q (ih r s)
theorem Rs.take:∀{ds:List D}{vs:List V} (n:Nat),Rs K H O ds vs->Rs K H O (ds.take n) (vs.take n)
 |_,_,0,_=>.nil
 |_,_,_+1,.nil=>.nil
 |_,_,n+1,.cons h r=>.cons h (Rs.take n r)
theorem Rs.drop:∀{ds:List D}{vs:List V} (n:Nat),Rs K H O ds vs->Rs K H O (ds.drop n) (vs.drop n)
 |_,_,0,r=>r
 |_,_,_+1,.nil=>.nil
 |_,_,n+1,.cons _ r=>Rs.drop n r
theorem R.same {d:D}{v:V}(s:cw H H')(h:R K H O d v):R K H' O d v:=h.ext (.same s)
theorem Rs.same {ds:List D}{vs:List V}(s:cw H H')(h:Rs K H O ds vs):Rs K H' O ds vs:=h.ext (.same s)
end
inductive Dp (K:Fg)(H:Hp)(O M:List Addr):List D->List Addr->Prop where
 |nil:Dp K H O M [] []
 |cons {xs:List D}{vs:List V}{b:Addr}{ds:List D}{bs:List Addr}:H b=some (.lst vs)->b∈M->Rs K H O xs vs->Dp K H O M ds bs->Dp K H O M (.list xs::ds) (b::bs)
theorem Dp.go {K:Fg}{H H':Hp}{Mx O O' M M':List Addr}{ds:List D}{bs:List Addr}(x:gm Mx O H O' H')(h:Dp K H O M ds bs)(k:∀b∈bs,b∈M->b∈M'/\∀vs,H b=some (.lst vs)->H' b=some (.lst vs)):Dp K H' O' M' ds bs:=by
 induction h with
 |nil=>exact .nil
 |cons h1 h2 h3 _ ih=>exact .cons ((k _ aB h2).2 _ h1) (k _ aB h2).1 (h3.ext x) (ih fun b hb=>k b (ak _ hb))
theorem Dp.mem {K:Fg}{H:Hp}{O M:List Addr}{ds:List D}{bs:List Addr}(h:Dp K H O M ds bs):∀b∈bs,b∈M:=by
 induction h with
 |nil=>exact fun b hb=>nomatch hb
 |cons _ h2 _ _ ih=>exact fun b hb=>(ay.mp hb).elim (fun z=>z▸h2) (ih b)
def vf (K:Fg)(H:Hp)(O M:List Addr)(ρ:Sl)(σ:St)(i:Nat)(ds:List D):Prop:=∃a bs,σ[i]?=some (some (.ref a))/\H a=some (.lst (bs.map V.ref))/\a∈M/\(a::bs).Nodup/\Dp K H O M ds bs/\∀(j:Nat) (es:List D) (c:Addr),ρ[j]?=some (some (.list es,true))->σ[j]?=some (some (.ref c))->c∉a::bs
def tR (K:Fg)(H:Hp)(O M:List Addr)(ρ:Sl)(σ:St)(i:Nat)(kvs:List (D×D)):Prop:=∃a es,σ[i]?=some (some (.ref a))/\H a=some (wC a es)/\a∈M/\Rd K H O kvs es.2/\∀(j:Nat) (es:List D) (c:Addr),ρ[j]?=some (some (.list es,true))->σ[j]?=some (some (.ref c))->c≠a
def wF (K:Fg)(H:Hp)(O M:List Addr)(ρ:Sl)(σ:St)(i:Nat)(c:D):Prop:=(∃ds,c=.list ds/\vf K H O M ρ σ i ds)\/∃kvs,c=.dict kvs/\tR K H O M ρ σ i kvs
structure gJ (K:Fg)(H:Hp)(O M:List Addr)(ρ:Sl)(σ:St):Prop where
 pk:∀(i:Nat) (c:D),ρ[i]?=some (some (vj c,true))->wF K H O M ρ σ i c
 one:∀(i j:Nat) (c e:D),ρ[i]?=some (some (vj c,true))->ρ[j]?=some (some (vj e,true))->i=j
theorem gJ.dc {K:Fg}{H:Hp}{O M:List Addr}{ρ:Sl}{σ:St}(h:gJ K H O M ρ σ)(i:Nat)(kvs:List (D×D))(e:ρ[i]?=some (some (vj (.dict kvs),true))):tR K H O M ρ σ i kvs:=by
 rcases h.pk i (.dict kvs) e with ⟨_,z,q⟩|⟨_,z,q⟩
 ·cases z
 ·cases z;exact q
theorem gJ.none_ {K:Fg}{H:Hp}{O M:List Addr}{ρ:Sl}{σ:St}(h:∀(i:Nat) (x:Vl),ρ[i]?=some (some x)->x.2=false):gJ K H O M ρ σ:=⟨fun i ds e=>absurd (h i _ e) (by simp),fun i j ds es e=>absurd (h i _ e) (by simp)⟩
theorem gJ.go {K:Fg}{H H':Hp}{Mx O O' M M':List Addr}{ρ ρ':Sl}{σ σ':St}(h:gJ K H O M ρ σ)(x:gm Mx O H O' H')(hd:∀(i:Nat) (c:D),ρ'[i]?=some (some (vj c,true))->ρ[i]?=some (some (vj c,true))/\σ'[i]?=σ[i]?)
  (hm:∀b∈M,(∀(j:Nat) (es:List D),ρ[j]?=some (some (.list es,true))->σ[j]?≠some (some (.ref b)))->b∈M'/\∀u,H b=some (oW u)->H' b=some (oW u))
  (ho:∀(j:Nat) (es:List D) (c:Addr),ρ'[j]?=some (some (.list es,true))->σ'[j]?=some (some (.ref c))->c∉M\/∃(j':Nat) (es':List D),ρ[j']?=some (some (PyData.list es',true))/\σ[j']?=some (some (V.ref c))):gJ K H' O' M' ρ' σ' where
 one:=fun i j ds es e1 e2=>h.one i j ds es (hd i ds e1).1 (hd j es e2).1
 pk:=fun i c e=>by
  obtain⟨e1,e2⟩:=hd i c e;rcases h.pk i c e1 with ⟨ds,rfl,q⟩|⟨kvs,rfl,q⟩
  ·refine .inl ⟨ds,rfl,?_⟩;obtain⟨a,bs,h1,h2,h3,h4,h5,h6⟩:=q;have inM:∀b∈a::bs,b∈M:=fun b hb=>(ay.mp hb).elim (fun z=>z▸h3) (h5.mem b);have good:∀b∈a::bs,b∈M'/\∀vs,H b=some (.lst vs)->H' b=some (.lst vs):=fun b hb =>
    let g:=hm b (inM b hb) fun j es e z=>h6 j es b e z hb
    ⟨g.1,fun vs e=>g.2 (.inl vs) e⟩
   refine⟨a,bs,e2.trans h1,(good a aB).2 _ h2,(good a aB).1,h4,h5.go x fun b hb _=>good b (ak _ hb),fun j es c z1 z2 z3=>?_⟩;rcases ho j es c z1 z2 with z|⟨j',es',z4,z5⟩
   ·exact z (inM c z3)
   ·exact h6 j' es' c z4 z5 z3
  ·refine .inr ⟨kvs,rfl,?_⟩;obtain⟨a,es,h1,h2,h3,h5,h6⟩:=q;obtain⟨g1,g2⟩:=hm a h3 fun j es e z=>h6 j es a e z rfl;refine⟨a,es,e2.trans h1,g2 (.inr _) h2,g1,h5.ext x,fun j es c z1 z2 z3=>?_⟩;rcases ho j es c z1 z2 with z|⟨j',es',z4,z5⟩
   ·exact z (z3▸h3)
   ·exact h6 j' es' c z4 z5 z3
structure ER (K:Fg)(H:Hp)(O M:List Addr)(lad:Nat->Addr)(ρ:Sl)(σ:St):Prop where
 sh:∀(i:Nat) (d:D),ρ[i]?=some (some (d,false))->∃v,σ[i]?=some (some v)/\R K H O d v
 ow:∀(i:Nat) (ds:List D),ρ[i]?=some (some (.list ds,true))->∃a vs,σ[i]?=some (some (.ref a))/\H a=some (.lst vs)/\a∈M/\Rs K H O ds vs
 le:∀(i:Nat) (ds:List D),ρ[i]?=some (some (qH ds,true))->σ[i]?=some (some (.ref (lad i)))/\∃vs,H (lad i)=some (.lst vs)/\lad i∈O/\lad i∉M/\Rs K H O ds vs
 ap:∀(i j:Nat) (ds es:List D) (a:Addr),ρ[i]?=some (some (.list ds,true))->ρ[j]?=some (some (.list es,true))->σ[i]?=some (some (.ref a))->σ[j]?=some (some (.ref a))->i=j
 tr:∀a∈O,∃u,H a=some (oW u)
 sub:∀a∈M,a∈O
 len:ρ.length=σ.length
 dp:gJ K H O M ρ σ
noncomputable def j9 (K:Fg)(H:Hp)(O:List Addr)(H':Hp)(r:Vl)(v:V):Prop :=
 (r.2=false/\R K H' O r.1 v)\/(r.2=true/\∃a ds vs,r.1=.list ds/\v=.ref a/\H a=none/\H' a=some (.lst vs)/\Rs K H' (a::O) ds vs)
noncomputable def BR (K:Fg)(H:Hp)(O:List Addr)(d:D)(v:V):Prop :=
 R K H O d v\/(∃a ds vs,d=.list ds/\v=.ref a/\H a=some (.lst vs)/\Rs K H O ds vs)\/∃a kvs es,d=.dict kvs/\v=.ref a/\H a=some (wC a es)/\Rd K H O kvs es.2
section
variable {K:Fg}{H H' H1 H2:Hp}{O M:List Addr}{lad:Nat->Addr}{ρ:Sl}{σ:St}{d:D}{v:V}{r:Vl}
theorem ER.same (s:cw H H')(h:ER K H O M lad ρ σ):ER K H' O M lad ρ σ where
 sh:=fun i d e=>let ⟨v,e1,q⟩:=h.sh i d e;⟨v,e1,q.same s⟩
 ow:=fun i d e=>let ⟨a,vs,e2,e3,e4,q⟩:=h.ow i d e;⟨a,vs,e2,s _ _ e3,e4,q.same s⟩
 le:=fun i d e=>let ⟨e2,vs,e3,e4,e5,q⟩:=h.le i d e;⟨e2,vs,s _ _ e3,e4,e5,q.same s⟩
 ap:=h.ap
 tr:=fun a ha=>let ⟨vs,e⟩:=h.tr a ha;⟨vs,s _ _ e⟩
 sub:=h.sub
 len:=h.len
 dp:=h.dp.go (.same s) (fun _ _ e=>⟨e,rfl⟩) (fun b hb _=>⟨hb,fun vs e=>s _ _ e⟩) fun j es c e1 e2=>.inr ⟨j,es,e1,e2⟩
theorem ER.ne (h:ER K H O M lad ρ σ):∀a∈O,H a≠none:=fun a ha e=>by
 obtain⟨vs,q⟩:=h.tr a ha;rw[e] at q;cases q
theorem R.bb (h:R K H O d v):BR K H O d v:=.inl h
theorem BR.same (s:cw H H')(h:BR K H O d v):BR K H' O d v:=by
 rcases h with h|⟨a,ds,vs,e1,e2,e3,q⟩|⟨a,kvs,es,e1,e2,e3,q⟩
 ·exact .inl (h.same s)
 ·exact .inr (.inl ⟨a,ds,vs,e1,e2,s _ _ e3,q.same s⟩)
 ·exact .inr (.inr ⟨a,kvs,es,e1,e2,s _ _ e3,q.same s⟩)
theorem j9.toR (tr:∀a∈O,H a≠none)(h:j9 K H O H' r v):R K H' O r.1 v:=by
 rcases h with ⟨_,h⟩|⟨_,a,ds,vs,e1,e2,e3,e4,q⟩
 ·exact h
 ·rw[e1,e2];exact .list (.inl ⟨e4,fun z=>tr a z e3⟩) (q.ext (.less fun b hb=>ak _ hb))
theorem j9.of (h:R K H' O d v):j9 K H O H' (d,false) v:=.inl ⟨rfl,h⟩
theorem j9.back (s:cw H H1)(h:j9 K H1 O H' r v):j9 K H O H' r v:=by
 rcases h with h|⟨e,a,ds,vs,e1,e2,e3,e4,q⟩
 ·exact .inl h
 ·exact .inr ⟨e,a,ds,vs,e1,e2,s.free e3,e4,q⟩
end
noncomputable def uE (K:Fg)(f:ED):TE:=fun σ H Q=>∃ρ O M lad r,ER K H O M lad ρ σ/\f ρ=some r/\∀v H',cw H H'->j9 K H O H' r v->Q v H'
noncomputable def uB (K:Fg)(f:BD):TE:=fun σ H Q=>∃ρ O M lad d,ER K H O M lad ρ σ/\f ρ=some d/\∀v H',cw H H'->BR K H' O d v->Q v H'
noncomputable def uT (K:Fg)(f:TD):TT:=fun σ H Q=>∃ρ O M lad b,ER K H O M lad ρ σ/\f ρ=some b/\∀H',cw H H'->Q b H'
noncomputable def uA (K:Fg)(f:AD):TA:=fun σ H Q=>∃ρ O M lad ds,ER K H O M lad ρ σ/\f ρ=some ds/\∀vs H',cw H H'->Rs K H' O ds vs->Q vs H'
def DE (X:Cx)(e:Expr)(f:ED):Prop:=PE X e (uE X.K f)
def DB (X:Cx)(e:Expr)(f:BD):Prop:=PE X e (uB X.K f)
def DT (X:Cx)(e:Expr)(f:TD):Prop:=PT X e (uT X.K f)
def DA (X:Cx)(es:List Expr)(f:AD):Prop:=PA X es (uA X.K f)
theorem _root_.L2.PE.imp {X:Cx}{e:Expr}{t t':TE}(h:PE X e t)(i:∀σ H Q,t' σ H Q->t σ H Q):PE X e t':=fun pins s σ H Q I q=>h pins s σ H Q I (i σ H Q q)
theorem _root_.L2.PT.imp {X:Cx}{e:Expr}{t t':TT}(h:PT X e t)(i:∀σ H Q,t' σ H Q->t σ H Q):PT X e t':=fun pins s σ H Q I q=>h pins s σ H Q I (i σ H Q q)
theorem _root_.L2.PA.imp {X:Cx}{e:List Expr}{t t':TA}(h:PA X e t)(i:∀σ H Q,t' σ H Q->t σ H Q):PA X e t':=fun pos pins s σ H Q I q=>h pos pins s σ H Q I (i σ H Q q)
theorem _root_.L2.PS.imp {X:Cx}{e:Stmt}{t t':TS}(h:PS X e t)(i:∀D σ H,t' D σ H->t D σ H):PS X e t':=fun pins s σ H D I q=>h pins s σ H D I (i D σ H q)
theorem _root_.L2.PSs.imp {X:Cx}{e:List Stmt}{t t':TS}(h:PSs X e t)(i:∀D σ H,t' D σ H->t D σ H):PSs X e t':=fun pins s σ H D I q=>h pins s σ H D I (i D σ H q)
section
variable {X:Cx}{e a b c:Expr}{es:List Expr}{f g:ED}{fb gb hb:BD}{t u:TD}{pos:Pos}
theorem DE.bb (h:DE X e f):DB X e (cf f):=h.imp fun σ H Q zz=>by
 obtain ⟨ρ,O,M,lad,d,hE,hf,k⟩:=zz;unfold cf at hf;cases hr:f ρ with
 |none=>rw[hr] at hf;cases hf
 |some r =>
  rw[hr,ae] at hf;cases hf;exact⟨ρ,O,M,lad,r,hE,hr,fun v H' s q=>k v H' s (q.toR hE.ne).bb⟩
theorem bX (i:Nat){x:Str}(hN:X.N[i]?=some x:=by rfl)(hv:L2.Vis X.env.scope x:=by first|exact Or.inl rfl|exact Or.inr (Or.inl rfl)|exact Or.inr (Or.inr rfl))(hd:(x==("__debug__" : Str))=false:=by decide)
  (hcd:(x==("__classdict__" : Str))=false:=by decide):DB X (.Name x pos) (bW i):=(L2.pe_var hN hv hd hcd).imp fun σ H Q zz=>by
 obtain ⟨ρ,O,M,lad,d,hE,hf,k⟩:=zz;unfold bW at hf;split at hf
 ·rename_i d' hr;cases hf;obtain⟨v,e1,q⟩:=hE.sh i _ hr;exact⟨v,e1,k v H (.refl H) q.bb⟩
 ·rename_i ds hr;cases hf;obtain⟨a,vs,e2,e3,e4,q⟩:=hE.ow i _ hr;exact⟨_,e2,k _ H (.refl H) (.inr (.inl ⟨a,ds,vs,rfl,rfl,e3,q⟩))⟩
 ·rename_i kvs hr;cases hf;obtain⟨a,es,e2,e3,e4,q,_⟩:=hE.dp.dc i kvs hr;exact⟨_,e2,k _ H (.refl H) (.inr (.inr ⟨a,kvs,es,rfl,rfl,e3,q⟩))⟩
 ·cases hf
theorem cL (i:Nat){x:Str}(hN:X.N[i]?=some x:=by rfl)(hv:L2.Vis X.env.scope x:=by first|exact Or.inl rfl|exact Or.inr (Or.inl rfl)|exact Or.inr (Or.inr rfl))(hd:(x==("__debug__" : Str))=false:=by decide)
  (hcd:(x==("__classdict__" : Str))=false:=by decide):DE X (.Name x pos) (cE i):=(L2.pe_var hN hv hd hcd).imp fun σ H Q zz=>by
 obtain ⟨ρ,O,M,lad,d,hE,hf,k⟩:=zz;unfold cE at hf;split at hf
 ·rename_i d' hr;cases hf;obtain⟨v,e1,q⟩:=hE.sh i _ hr;exact⟨v,e1,k v H (.refl H) (.of q)⟩
 ·cases hf
theorem pK {d:D}{v:V}(h:PE X e (L2.tC v))(r:∀(H:Hp) (O:List Addr),R X.K H O d v):DE X e (dC d):=h.imp fun σ H Q zz=>by
 obtain ⟨ρ,O,M,lad,r',hE,hf,k⟩:=zz;cases hf;exact k v H (.refl H) (.of (r H O))
theorem cj {i j}:DE X (.Constant (.int i) j pos) (dC (.int i)):=pK L2.pe_int fun _ _=>.int _
theorem iJ {i j}:DE X (.Constant (.bool i) j pos) (dC (.bool i)):=pK L2.pe_bl fun _ _=>.bool _
theorem jX {j}:DE X (.Constant .none j pos) (dC .none):=pK L2.pe_non fun _ _=>.none
theorem c8 {i j}:DE X (.Constant (.str i) j pos) (dC (.str i)):=pK L2.pe_str fun _ _=>.str _
theorem sY {x:Str}{i:Int}{tk:Tok}(hg:L2.Gl X x)(hm:X.mg x=some (.int i tk))(hd:(x==("__debug__" : Str))=false:=by decide):DE X (.Name x pos) (dC (.int i)):=pK (L2.pe_glob (v:=.int i) hg hm ⟨tk,rfl⟩ hd) fun _ _=>.int _
def OD (X:Cx)(r:L2.R2)(op:O2):Prop:=∀(x y:D) (vx vy:V) (H:Hp) (O:List Addr) (res:Vl) (Q:VK),(∀a∈O,H a≠none)->BR X.K H O x vx->BR X.K H O y vy->op x y=some res →
 (∀v H',cw H H'->j9 X.K H O H' res v->Q v H')->r vx vy H Q
theorem lV {r:L2.R2}{op:O2}(hd:OD X r op){σ:St}{H:Hp}{Q:VK}(h:uE X.K (d2 op fb gb) σ H Q):L2.tOp r (uB X.K fb) (uB X.K gb) σ H Q:=by
 obtain⟨ρ,O,M,lad,res,hE,hf,k⟩:=h;unfold d2 at hf;cases hx:fb ρ with
 |none=>rw[hx] at hf;cases hf
 |some x =>
  rw[hx,aa] at hf;cases hy:gb ρ with
  |none=>rw[hy] at hf;cases hf
  |some y =>
   rw[hy,aa] at hf;refine⟨ρ,O,M,lad,x,hE,hx,fun vx H1 s1 q1=>⟨ρ,O,M,lad,y,hE.same s1,hy,fun vy H2 s2 q2=>?_⟩⟩;exact hd x y vx vy H2 O res Q ((hE.same s1).same s2).ne (q1.same s2) q2 hf fun v H' s q=>k v H' ((s1.trans s2).trans s) (q.back (s1.trans s2))
theorem cG {op:Operator}{r:L2.R2}{o:O2}(ho:L2.OpR X (binaryOp op) r)(hd:OD X r o)(ha:DB X a fb)(hb:DB X b gb):DE X (.BinOp a op b pos) (d2 o fb gb) :=
 (L2.pe_op ho ha hb).imp fun _ _ _ h=>lV hd h
def UD (X:Cx)(r:V->Hp->VK->Prop)(op:D->Option Vl):Prop:=∀(x:D) (vx:V) (H:Hp) (O:List Addr) (res:Vl) (Q:VK),(∀a∈O,H a≠none)->BR X.K H O x vx->op x=some res →
 (∀v H',cw H H'->j9 X.K H O H' res v->Q v H')->r vx H Q
theorem rD {r:V->Hp->VK->Prop}{op:D->Option Vl}(hd:UD X r op){σ:St}{H:Hp}{Q:VK}(h:uE X.K (d1 op fb) σ H Q):L2.tUn r (uB X.K fb) σ H Q:=by
 obtain⟨ρ,O,M,lad,res,hE,hf,k⟩:=h;unfold d1 at hf;cases hx:fb ρ with
 |none=>rw[hx] at hf;cases hf
 |some x =>
  rw[hx,aa] at hf;refine⟨ρ,O,M,lad,x,hE,hx,fun vx H1 s1 q1=>?_⟩;exact hd x vx H1 O res Q (hE.same s1).ne q1 hf fun v H' s q=>k v H' (s1.trans s) (q.back s1)
theorem rz {op:UnaryOp}{r:V->Hp->VK->Prop}{o:D->Option Vl}(ho:L2.UnR X (unaryOp op) r)(hd:UD X r o)(ha:DB X a fb):DE X (.UnaryOp op a pos) (d1 o fb) :=
 (L2.pe_un ho ha).imp fun _ _ _ h=>rD hd h
theorem cH:DA X [] cJ:=L2.pa_nil.imp fun σ H Q zz=>by
 obtain ⟨ρ,O,M,lad,ds,hE,hf,k⟩:=zz;cases hf;exact k [] H (.refl H) .nil
theorem ck {t:AD}(ha:DE X e f)(hr:DA X es t)(hs:starEach (e::es) X.env=(false,eval e X.env)::starEach es X.env:=by rfl):DA X (e::es) (bY f t):=(L2.pa_cons ha hr hs).imp fun σ H Q zz=>by
 obtain ⟨ρ,O,M,lad,ds,hE,hf,k⟩:=zz;unfold bY at hf;cases hx:f ρ with
 |none=>rw[hx] at hf;cases hf
 |some x =>
  rw[hx,aa] at hf;cases hy:t ρ with
  |none=>rw[hy] at hf;cases hf
  |some xs =>
   rw[hy,aa] at hf;cases hf;exact⟨ρ,O,M,lad,x,hE,hx,fun v H1 s1 q1=>⟨ρ,O,M,lad,xs,hE.same s1,hy,fun vs H2 s2 q2=>k _ H2 (s1.trans s2) (.cons ((q1.toR hE.ne).same s2) q2)⟩⟩
theorem lR {x1}{t:AD}(h:DA X es t):DE X (.Tuple es x1 pos) (iZ t):=(L2.pe_tup h).imp fun σ H Q zz=>by
 obtain ⟨ρ,O,M,lad,r,hE,hf,k⟩:=zz;unfold iZ at hf;cases hx:t ρ with
 |none=>rw[hx] at hf;cases hf
 |some xs =>
  rw[hx,aa] at hf;split at hf
  ·rename_i hz;cases hf;refine⟨ρ,O,M,lad,xs,hE,hx,fun vs H1 s1 q1=>⟨by rw[<-q1.length];exact hz,fun p hp=>?_⟩⟩;have s2:cw H1 (cX H1 p (.tup vs)):=fun b o e=>by rw[bZ (bV e hp)];exact e
   exact k _ _ (s1.trans s2) (.of (.tuple (.inl (.inl cg)) (q1.same s2)))
  ·cases hf
theorem ig {t:AD}(h:DA X es t):DE X (.List es pos) (fM t):=(L2.pe_lst h).imp fun σ H Q zz=>by
 obtain ⟨ρ,O,M,lad,r,hE,hf,k⟩:=zz;unfold fM at hf;cases hx:t ρ with
 |none=>rw[hx] at hf;cases hf
 |some xs =>
  rw[hx,aa] at hf;split at hf
  ·rename_i hz;cases hf;refine⟨ρ,O,M,lad,xs,hE,hx,fun vs H1 s1 q1=>⟨by rw[<-q1.length];exact hz,fun p hp=>?_⟩⟩;have s2:cw H1 (cX H1 p (.lst vs)):=fun b o e=>by rw[bZ (bV e hp)];exact e
   refine k _ _ (s1.trans s2) (.inr ⟨rfl,p,xs,vs,rfl,rfl,s1.free hp,cg,q1.ext (gm.fresh s2 hp)⟩)
  ·cases hf
noncomputable def spD (K:Fg)(F:FD):L2.Sp:=fun vs H Q _=>∃ds O r,Rs K H O ds vs/\(∀a∈O,∃u,H a=some (oW u))/\F ds=some r/\∀v H',cw H H'->j9 K H O H' r v->Q v H'
theorem tf {k:Nat}{fa:Addr}{fd:FuncData}{ps:List Str}{F:FD}{x:Str}{p:Pos}{t:AD}(G:L2.FnOk X.prog X.w X.K X.mg X.base L2.CX0 k fa fd ps (spD X.K F))(hr:L2.Room k X.A)(hg:L2.Gl X x)(hm:X.mg x=some (.ref fa))(hk:PySem.W.keepIn X.K (.ref fa)=true)
  (hb:L2.Binds X.K fd ps []) (ha:DA X (e::es) t) (hdb:(x==("__debug__" : Str))=false:=by decide) (he:starEach (e::es) X.env=(false,eval e X.env)::starEach es X.env:=by rfl) (hpl:(backTo pos (starEach es X.env)).any (·.1)=false:=by rfl) :
  DE X (.Call (.Name x p) (e::es) [] pos) (cC F t):=by
 refine (L2.pe_call G hr hg hm hk hb (.nil:cA [] []) L2.pass0 ha hdb he hpl).imp fun σ H Q zz=>?_;obtain ⟨ρ,O,M,lad,r,hE,hf,k⟩:=zz;unfold cC at hf;cases hx:t ρ with
 |none=>rw[hx] at hf;cases hf
 |some ds =>
  rw[hx,aa] at hf;refine⟨ρ,O,M,lad,ds,hE,hx,fun vs H1 s1 q1=>?_⟩;show spD X.K F (vs++[]) H1 Q L2.E0;rw[aO];exact⟨ds,O,r,q1,(hE.same s1).tr,hf,fun v H' s q=>k v H' (s1.trans s) (q.back s1)⟩
theorem mU {d:D}{c:Bool}(h:pZ d=some c):d=.bool c:=by
 cases d <;> first|(cases h;rfl)|cases h
theorem j9.bool {K:Fg}{H H':Hp}{O:List Addr}{r:Vl}{v:V}{c:Bool}(h:j9 K H O H' r v)(e:pZ r.1=some c):v=.bl c:=by
 have e':=mU e;rcases h with ⟨_,h⟩|⟨_,a,ds,vs,e1,_⟩
 ·rw[e'] at h;cases h;rfl
 ·rw[e'] at e1;cases e1
theorem uK {op}(h:DE X a f):DE X (.BoolOp op [a] pos) f:=L2.pe_one h
theorem uO {de:List Expr}(ha:DE X a f)(hb:DE X (.BoolOp .And (b::de) pos) g):DE X (.BoolOp .And (a::b::de) pos) (uU f g):=(L2.pe_and ha hb).imp fun σ H Q zz=>by
 obtain ⟨ρ,O,M,lad,r,hE,hf,k⟩:=zz;unfold uU at hf;cases hx:f ρ with
 |none=>rw[hx] at hf;cases hf
 |some x =>
  rw[hx,aa] at hf;cases hc:pZ x.1 with
  |none=>rw[hc] at hf;cases hf
  |some c =>
   rw[hc,aa] at hf;refine⟨ρ,O,M,lad,x,hE,hx,fun v H1 s1 q1=>⟨c,q1.bool hc,?_⟩⟩;cases c with
   |true =>
    rw[if_pos rfl] at hf ⊢;exact⟨ρ,O,M,lad,r,hE.same s1,hf,fun v H' s q=>k v H' (s1.trans s) (q.back s1)⟩
   |false =>
    rw[if_neg Bool.false_ne_true] at hf ⊢;cases hf;exact k _ H1 s1 (.of (.bool _))
theorem uL (ha:DE X a f):DE X (.UnaryOp .Not a pos) (uR f):=(L2.pe_not ha).imp fun σ H Q zz=>by
 obtain ⟨ρ,O,M,lad,r,hE,hf,k⟩:=zz;unfold uR at hf;cases hx:f ρ with
 |none=>rw[hx] at hf;cases hf
 |some x =>
  rw[hx,aa] at hf;cases hc:pZ x.1 with
  |none=>rw[hc] at hf;cases hf
  |some c =>
   rw[hc,aa] at hf;cases hf;exact⟨ρ,O,M,lad,x,hE,hx,fun v H1 s1 q1=>⟨c,q1.bool hc,k _ H1 s1 (.of (.bool _))⟩⟩
theorem gc (h:DE X e f)(he:∀whole,isTrue e X.env whole=(do let v <-whole;standAt e.pos;holding [v] (truthy v)):=by intro _;rfl):DT X e (k9 f):=(L2.pt_val h he).imp fun σ H Q zz=>by
 obtain ⟨ρ,O,M,lad,c,hE,hf,k⟩:=zz;unfold k9 at hf;cases hx:f ρ with
 |none=>rw[hx] at hf;cases hf
 |some x =>
  rw[hx,aa] at hf;exact⟨ρ,O,M,lad,x,hE,hx,fun v H1 s1 q1=>⟨c,q1.bool hf,k H1 s1⟩⟩
def DW (X:Cx)(e:Expr)(f:TD):Prop:=L2.PW X e (uT X.K f)
theorem _root_.L2.PW.imp {X:Cx}{e:Expr}{t t':TT}(h:L2.PW X e t)(i:∀σ H Q,t' σ H Q->t σ H Q):L2.PW X e t':=fun whole pins s σ H Q I q=>h whole pins s σ H Q I (i σ H Q q)
theorem ox (ha:DT X a t):DW X (.BoolOp .And [a] pos) t:=L2.pw_and1 ha
theorem iW (ha:DT X a t):DW X (.BoolOp .Or [a] pos) t:=L2.pw_or1 ha
theorem DW.tt (h:DW X e t):DT X e t:=h _
theorem qZ {de:List Expr}(ha:DT X a t)(hb:DW X (.BoolOp .And (b::de) pos) u):DW X (.BoolOp .And (a::b::de) pos) (jz t u):=(L2.pw_and ha hb).imp fun σ H Q zz=>by
 obtain ⟨ρ,O,M,lad,r,hE,hf,k⟩:=zz;unfold jz at hf;cases hx:t ρ with
 |none=>rw[hx] at hf;cases hf
 |some c =>
  rw[hx,aa] at hf;refine⟨ρ,O,M,lad,c,hE,hx,fun H1 s1=>?_⟩;cases c with
  |true =>
   rw[if_pos rfl] at hf ⊢;exact⟨ρ,O,M,lad,r,hE.same s1,hf,fun H' s=>k H' (s1.trans s)⟩
  |false =>
   rw[if_neg Bool.false_ne_true] at hf ⊢;cases hf;exact k H1 s1
theorem gZ {de:List Expr}(ha:DT X a t)(hb:DW X (.BoolOp .Or (b::de) pos) u):DW X (.BoolOp .Or (a::b::de) pos) (ir t u):=(L2.pw_or ha hb).imp fun σ H Q zz=>by
 obtain ⟨ρ,O,M,lad,r,hE,hf,k⟩:=zz;unfold ir at hf;cases hx:t ρ with
 |none=>rw[hx] at hf;cases hf
 |some c =>
  rw[hx,aa] at hf;refine⟨ρ,O,M,lad,c,hE,hx,fun H1 s1=>?_⟩;cases c with
  |false =>
   rw[if_neg Bool.false_ne_true] at hf ⊢;exact⟨ρ,O,M,lad,r,hE.same s1,hf,fun H' s=>k H' (s1.trans s)⟩
  |true =>
   rw[if_pos rfl] at hf ⊢;cases hf;exact k H1 s1
theorem eK (ha:DT X a t):DT X (.UnaryOp .Not a pos) (dP t):=(L2.pt_not ha).imp fun σ H Q zz=>by
 obtain ⟨ρ,O,M,lad,r,hE,hf,k⟩:=zz;unfold dP at hf;cases hx:t ρ with
 |none=>rw[hx] at hf;cases hf
 |some c =>
  rw[hx,aa] at hf;cases hf;exact⟨ρ,O,M,lad,c,hE,hx,fun H1 s1=>k H1 s1⟩
def CD (X:Cx)(r:L2.R2)(op:C2):Prop:=∀(x y:D) (vx vy:V) (H:Hp) (O:List Addr) (c:Bool) (Q:VK),BR X.K H O x vx->BR X.K H O y vy->op x y=some c->Q (.bl c) H->r vx vy H Q
theorem rJ {r:L2.R2}{op:C2}(hd:CD X r op){ρ:Sl}{O M:List Addr}{lad:Nat->Addr}{k:Bool}{σ:St}{H:Hp}{Q:VK}(hE:ER X.K H O M lad ρ σ)(hf:cF fb [(op,gb)] ρ=some k)(q:∀H',cw H H'->Q (.bl k) H'):L2.tOp r (uB X.K fb) (uB X.K gb) σ H Q:=by
 unfold cF tChain at hf;cases hx:fb ρ with
 |none=>rw[hx] at hf;cases hf
 |some x =>
  rw[hx,aa] at hf;cases hy:gb ρ with
  |none=>rw[hy] at hf;cases hf
  |some y =>
   rw[hy,aa] at hf;exact⟨ρ,O,M,lad,x,hE,hx,fun vx H1 s1 q1=>⟨ρ,O,M,lad,y,hE.same s1,hy,fun vy H2 s2 q2=>hd x y vx vy H2 O k Q (q1.same s2) q2 hf (q H2 (s1.trans s2))⟩⟩
theorem j0 {ρ:Sl}{r:Vl}(h:gC t ρ=some r):∃c,t ρ=some c/\r=(.bool c,false):=by
 unfold gC at h;cases hx:t ρ with
 |none=>rw[hx] at h;cases h
 |some c=>rw[hx] at h;cases h;exact⟨c,rfl,rfl⟩
theorem rC {op:CmpOp}{r:L2.R2}{o:C2}(ho:L2.OpR X (compareOp op) r)(hd:CD X r o)(ha:DB X a fb)(hb:DB X b gb)(hm:behindInMarks op b=false:=by first|exact L2.nomark _|with_unfolding_all rfl):DE X (.Compare a [op] [b] pos) (gC (cF fb [(o,gb)])) :=
 (L2.pe_cmpR ho ha hb hm).imp fun σ H Q zz=>by
  obtain ⟨ρ,O,M,lad,r,hE,hf,k⟩:=zz;obtain⟨c,hc,rfl⟩:=j0 hf;exact rJ hd hE hc fun H' s=>k _ H' s (.of (.bool _))
theorem dt {op:CmpOp}{r:L2.R2}{o:C2}(ho:L2.OpR X (compareOp op) r)(hd:CD X r o)(ha:DB X a fb)(hb:DB X b gb)(hm:behindInMarks op b=false:=by first|exact L2.nomark _|with_unfolding_all rfl):DT X (.Compare a [op] [b] pos) (cF fb [(o,gb)]) :=
 (L2.pt_cmpR ho ha hb hm).imp fun σ H Q ⟨ρ,O,M,lad,c,hE,hf,k⟩=>rJ hd hE hf fun H' s=>⟨c,rfl,k H' s⟩
theorem u9 {r r':L2.R2}{op op':C2}(hd:CD X r op)(hd':CD X r' op'){ρ:Sl}{O M:List Addr}{lad:Nat->Addr}{k:Bool}{σ:St}{H:Hp}{Q:VK}(hE:ER X.K H O M lad ρ σ)(hf:cF fb [(op,gb),(op',hb)] ρ=some k)(q:∀H',cw H H'->Q (.bl k) H') :
  L2.tChain r r' (uB X.K fb) (uB X.K gb) (uB X.K hb) σ H Q:=by
 unfold cF tChain at hf;cases hx:fb ρ with
 |none=>rw[hx] at hf;cases hf
 |some x =>
  rw[hx,aa] at hf;cases hy:gb ρ with
  |none=>rw[hy] at hf;cases hf
  |some y =>
   rw[hy,aa] at hf;cases hc:op x y with
   |none=>rw[hc] at hf;cases hf
   |some c =>
    rw[hc,aa] at hf;refine⟨ρ,O,M,lad,x,hE,hx,fun vx H1 s1 q1=>⟨ρ,O,M,lad,y,hE.same s1,hy,fun vy H2 s2 q2=>hd x y vx vy H2 O c _ (q1.same s2) q2 hc ⟨c,rfl,?_⟩⟩⟩;cases c with
    |false =>
     rw[if_neg Bool.false_ne_true] at hf ⊢;cases hf;exact q H2 (s1.trans s2)
    |true =>
     rw[if_pos rfl] at hf ⊢;unfold tChain at hf;cases hz:hb ρ with
     |none=>rw[hz] at hf;cases hf
     |some z =>
      rw[hz,aa] at hf;exact⟨ρ,O,M,lad,z,(hE.same s1).same s2,hz,fun vz H3 s3 q3=>hd' y z vy vz H3 O k Q (q2.same s3) q3 hf (q H3 ((s1.trans s2).trans s3))⟩
theorem tQ {op op':CmpOp}{r r':L2.R2}{o o':C2}(ho:L2.OpR X (compareOp op) r)(hd:CD X r o)(ho':L2.OpR X (compareOp op') r')(hd':CD X r' o')(ha:DB X a fb)(hb':DB X b gb)(hc:DB X c hb)(hm:lastMarks [op,op'] [b,c]=false:=by with_unfolding_all rfl) :
  DT X (.Compare a [op,op'] [b,c] pos) (cF fb [(o,gb),(o',hb)]):=(L2.pt_chain ho ho' ha hb' hc hm).imp fun σ H Q ⟨ρ,O,M,lad,c,hE,hf,k⟩=>u9 hd hd' hE hf fun H' s=>⟨c,rfl,k H' s⟩
end
end DL
namespace DL
open PySem PySem.Spec PySem.SeqAt
open L2 (V Hp St HO VK TE TT TA TS TI TG Cx Inv PE PT PA PS PSs PI PG dr dq cw cX cg bZ bV cA cI EP TP AP SP c7 It)
structure fu (M:List Addr)(H:Hp)(M':List Addr)(H':Hp):Prop where
 keep:∀b o,b∉M->H b=some o->H' b=some o
 tup:∀b xs,H b=some (.tup xs)->H' b=some (.tup xs)
 frz:∀b o u,H b=some (.frz o u)->H' b=some (.frz o u)
 new:∀b∈M',b∈M\/H b=none
 there:∀b,H b≠none->H' b≠none
theorem fu.refl (M:List Addr)(H:Hp):fu M H M H:=⟨fun _ _ _ e=>e,fun _ _ e=>e,fun _ _ _ e=>e,fun _ h=>.inl h,fun _ h=>h⟩
theorem fu.same {M:List Addr}{H H':Hp}(s:cw H H'):fu M H M H':=⟨fun b o _ e=>s b o e,fun b _ e=>s b _ e,fun b _ _ e=>s b _ e,fun _ h=>.inl h,fun b h z=>by
 cases e:H b with
 |none=>exact h e
 |some o=>rw[s b o e] at z;cases z⟩
theorem fu.trans {M M1 M2:List Addr}{H H1 H2:Hp}(a:fu M H M1 H1)(b:fu M1 H1 M2 H2):fu M H M2 H2 where
 keep:=fun c o n e=>b.keep c o (fun z=>(a.new c z).elim n fun q=>by rw[q] at e;cases e) (a.keep c o n e)
 tup:=fun c xs e=>b.tup c xs (a.tup c xs e)
 frz:=fun c o u e=>b.frz c o u (a.frz c o u e)
 new:=fun c hc=>by
  rcases b.new c hc with z|z
  ·exact a.new c z
  ·refine .inr ?_;cases e:H c with
   |none=>rfl
   |some o=>exact absurd z (a.there c (by rw[e];simp))
 there:=fun c h=>b.there c (a.there c h)
theorem fu.ext {M M' B:List Addr}{H H':Hp}(a:fu M H M' H'):gm M (M++B) H (M'++B) H' where
 sub:=fun b hb=>aE _ hb
 tup:=a.tup
 frz:=a.frz
 lst:=fun b xs n e=>a.keep b _ n e
 ext:=fun b φ n e=>a.keep b _ n e
 new:=fun b hb=>(aG.mp hb).elim (fun z=>(a.new b z).elim (fun q=>.inl (aE _ q)) .inr) fun z=>.inl (ah _ z)
def SR (K:Fg)(B:List Addr)(H₀:Hp)(M₀:List Addr)(lad:Nat->Addr)(ρ:Sl)(σ:St)(H:Hp):Prop:=∃M,fu M₀ H₀ M H/\(∀a∈M,a∉B)/\ER K H (M++B) M lad ρ σ
noncomputable def oX (K:Fg)(B:List Addr)(H₀:Hp)(M₀:List Addr)(H':Hp)(r:Vl)(v:V):Prop :=
 (∃M',fu M₀ H₀ M' H')/\((r.2=false/\R K H' B r.1 v)\/(r.2=true/\∃a ds vs,r.1=.list ds/\v=.ref a/\(a∈M₀\/H₀ a=none)/\H' a=some (.lst vs)/\Rs K H' (a::B) ds vs))
noncomputable def o4 (K:Fg)(B:List Addr)(H₀:Hp)(M₀:List Addr)(lad:Nat->Addr)(E:c7):Fl->Prop
 |.next ρ=>∀σ H,SR K B H₀ M₀ lad ρ σ H->E.nx σ H
 |.brk ρ=>∀σ H,SR K B H₀ M₀ lad ρ σ H->E.bk σ H
 |.cont ρ=>∀σ H,SR K B H₀ M₀ lad ρ σ H->E.ct σ H
 |.ret r=>∀v H,oX K B H₀ M₀ H r v->E.rt v H
noncomputable def uS (K:Fg)(B:List Addr)(H₀:Hp)(M₀:List Addr)(lad:Nat->Addr)(F:SD):TS:=fun E σ H=>∃ρ fl,SR K B H₀ M₀ lad ρ σ H/\F ρ=some fl/\o4 K B H₀ M₀ lad E fl
def DS (X:Cx)(st:Stmt)(F:SD):Prop:=∀B H₀ M₀ lad,PS X st (uS X.K B H₀ M₀ lad F)
def nY (X:Cx)(st:List Stmt)(F:SD):Prop:=∀B H₀ M₀ lad,PSs X st (uS X.K B H₀ M₀ lad F)
theorem lK {a b:Addr}{M B:List Addr}(h:a∈(b::M)++B):a=b\/a∈M++B:=by
 rw[bt] at h;exact ay.mp h
theorem ER.set {K:Fg}{H H':Hp}{B M:List Addr}{lad:Nat->Addr}{ρ:Sl}{σ:St}{r:Vl}{v:V}(i:Nat)(h:ER K H (M++B) M lad ρ σ)(hB:∀a∈M,a∉B)(s:cw H H')(q:j9 K H (M++B) H' r v) :
  ∃M',fu M H M' H'/\(∀a∈M',a∉B)/\ER K H' (M'++B) M' lad (ρ.set i (some r)) (σ.set i (some v)):=by
 have h':=h.same s;by_cases hi:i<ρ.length
 ·have hi':i<σ.length:=by rw[<-h.len];exact hi
  obtain⟨d,o⟩:=r;rcases q with ⟨e,q⟩|⟨e,a,ds,vs,e1,e2,e3,e4,q⟩
  ·cases e;have out:∀{j:Nat}{x:Vl},x.2=true->(ρ.set i (some (d,false)))[j]?=some (some x)->i≠j:=fun {j x} hx ej z=>by subst z;rw[aj hi] at ej;cases ej;cases hx
   refine⟨M,.same s,hB,⟨fun j d' ej=>?_,fun j d' ej=>?_,fun j d' ej=>?_,fun j k d' e' a e1 e2 e3 e4=>?_,h'.tr,h'.sub,by rw[aV,aV];exact h.len,h'.dp.go (.same (.refl _)) (fun j es ej=>?_) (fun b hb _=>⟨hb,fun _ e=>e⟩) fun j es c ej ec=>.inr ?_⟩⟩
   ·by_cases hj:i=j
    ·subst hj;rw[aj hi] at ej;cases ej;exact⟨v,aj hi',q⟩
    ·rw[af hj] at ej ⊢;exact h'.sh j d' ej
   ·have hj:=out rfl ej;rw[af hj] at ej ⊢;exact h'.ow j d' ej
   ·have hj:=out rfl ej;rw[af hj] at ej ⊢;exact h'.le j d' ej
   ·have nj:=out rfl e1;have nk:=out rfl e2;rw[af nj] at e1 e3;rw[af nk] at e2 e4;exact h'.ap j k d' e' a e1 e2 e3 e4
   ·have nj:=out rfl ej;rw[af nj] at ej;exact⟨ej,af nj⟩
   ·have nj:=out rfl ej;rw[af nj] at ej ec;exact⟨j,es,ej,ec⟩
  ·cases e;have e1':d=.list ds:=e1;subst e1' e2;have x:gm [] (M++B) H ((a::M)++B) H':=gm.fresh s e3;have notIn:∀b,b∈M++B->b≠a:=fun b hb z=>h.ne b hb (z▸e3);refine⟨a::M,⟨fun b o _ e=>s b o e,fun b _ e=>s b _ e,fun b _ _ e=>s b _ e,fun b hb=>(ay.mp hb).elim (fun z=>.inr (z▸e3)) .inl,(fu.same (M:=M) s).there⟩,fun b hb=>(ay.mp hb).elim (fun z hbB=>h.ne a (ah _ (z▸hbB)) e3) (hB b),
    ⟨fun j d' ej=>?_,fun j d' ej=>?_,fun j d' ej=>?_,fun j k d' e' b e1 e2 e3' e4'=>?_,fun b hb=>?_,fun b hb=>?_,by rw[aV,aV];exact h.len,h.dp.go x (fun j es ej=>?_) (fun b hb _=>⟨ak _ hb,fun _ e=>s _ _ e⟩) fun j es c ej ec=>?_⟩⟩
   ·by_cases hj:i=j
    ·subst hj;rw[aj hi] at ej;cases ej
    ·rw[af hj] at ej ⊢;obtain⟨w,e5,q5⟩:=h.sh j d' ej;exact⟨w,e5,q5.ext x⟩
   ·by_cases hj:i=j
    ·subst hj;rw[aj hi] at ej;cases ej;exact⟨a,vs,aj hi',e4,aB,q⟩
    ·rw[af hj] at ej ⊢;obtain⟨b,us,e6,e7,e8,q5⟩:=h.ow j d' ej;exact⟨b,us,e6,s _ _ e7,ak _ e8,q5.ext x⟩
   ·have hj:i≠j:=fun z=>by subst z;rw[aj hi] at ej;cases ej
    rw[af hj] at ej ⊢;obtain⟨e6,us,e7,e8,e9,q5⟩:=h.le j d' ej;exact⟨e6,us,s _ _ e7,ak _ e8,fun z=>(ay.mp z).elim (fun z=>notIn _ e8 z) e9,q5.ext x⟩
   ·by_cases hj:i=j
    ·subst hj;by_cases hk:i=k
     ·exact hk
     ·rw[aj hi'] at e3';cases e3';rw[af hk] at e2 e4';obtain⟨b,us,e6,e7,e8,q5⟩:=h.ow k e' e2;rw[e4'] at e6;cases e6;exact absurd rfl (notIn _ (aE _ e8))
    ·by_cases hk:i=k
     ·subst hk;rw[aj hi'] at e4';cases e4';rw[af hj] at e1 e3';obtain⟨b,us,e6,e7,e8,q5⟩:=h.ow j d' e1;rw[e3'] at e6;cases e6;exact absurd rfl (notIn _ (aE _ e8))
     ·rw[af hj] at e1 e3';rw[af hk] at e2 e4';exact h'.ap j k d' e' b e1 e2 e3' e4'
   ·rcases lK hb with z|z
    ·subst z;exact⟨.inl vs,e4⟩
    ·exact h'.tr b z
   ·rcases ay.mp hb with z|z
    ·subst z;exact aE _ aB
    ·exact aE _ (ak _ z)
   ·have nj:i≠j:=fun z=>by subst z;rw[aj hi] at ej;cases ej
    rw[af nj] at ej;exact⟨ej,af nj⟩
   ·by_cases hj:i=j
    ·subst hj;rw[aj hi'] at ec;cases ec;exact .inl fun z=>notIn _ (aE _ z) rfl
    ·rw[af hj] at ej ec;exact .inr ⟨j,es,ej,ec⟩
 ·refine⟨M,.same s,hB,?_⟩;rw[bw ⋯,bw (by rw[<-h.len];omega)];exact h'
section
variable {X:Cx}{e a b c:Expr}{es:List Expr}{f g:ED}{fb gb hb:BD}{t u:TD}{pos:Pos}{st:Stmt}{de sts:List Stmt}{F G:SD}
theorem cY:nY X [] dA:=fun B H₀ M₀ lad=>L2.pss_nil.imp fun E σ H zz=>by
 obtain ⟨ρ,fl,hR,hf,k⟩:=zz;cases hf;exact k σ H hR
theorem cq (h1:DS X st F)(h2:nY X de G):nY X (st::de) (cD F G):=fun B H₀ M₀ lad=>(L2.pss_cons (h1 B H₀ M₀ lad) (h2 B H₀ M₀ lad)).imp fun E σ H zz=>by
 obtain ⟨ρ,fl,hR,hf,k⟩:=zz;unfold cD at hf;cases hx:F ρ with
 |none=>rw[hx] at hf;cases hf
 |some fl1 =>
  rw[hx,aa] at hf;refine⟨ρ,fl1,hR,hx,?_⟩;cases fl1 with
  |next ρ'=>exact fun σ' H' r=>⟨ρ',fl,r,hf,k⟩
  |ret r=>cases hf;exact k
  |brk ρ'=>cases hf;exact k
  |cont ρ'=>cases hf;exact k
theorem cB (h1:DS X st F):nY X [st] F:=fun B H₀ M₀ lad=>L2.pss_one (h1 B H₀ M₀ lad)
theorem dS (hc:DT X c t)(ha:nY X sts F)(hb:nY X de G):DS X (.If c sts de pos) (eM t F G):=fun B H₀ M₀ lad=>(L2.ps_if hc (ha B H₀ M₀ lad) (hb B H₀ M₀ lad)).imp fun E σ H zz=>by
 obtain ⟨ρ,fl,⟨M,hx,hB,hE⟩,hf,k⟩:=zz;unfold eM at hf;cases ht:t ρ with
 |none=>rw[ht] at hf;cases hf
 |some c =>
  rw[ht,aa] at hf;refine⟨ρ,_,M,lad,c,hE,ht,fun H1 s1=>?_⟩;have hR:SR X.K B H₀ M₀ lad ρ σ H1:=⟨M,hx.trans (.same s1),hB,hE.same s1⟩;cases c with
  |true=>dsimp only at hf ⊢;rw[if_pos rfl] at hf ⊢;exact⟨ρ,fl,hR,hf,k⟩
  |false=>dsimp only at hf ⊢;rw[if_neg Bool.false_ne_true] at hf ⊢;exact⟨ρ,fl,hR,hf,k⟩
theorem rX {i:Nat}{B:List Addr}{H₀:Hp}{M₀:List Addr}{lad:Nat->Addr}{E:c7}{σ:St}{H:Hp}(h:uS X.K B H₀ M₀ lad (cO i f) E σ H):L2.tAsg (uE X.K f) (L2.gName i) E σ H:=by
 obtain⟨ρ,fl,⟨M,hx,hB,hE⟩,hf,k⟩:=h;unfold cO at hf;cases hr:f ρ with
 |none=>rw[hr] at hf;cases hf
 |some r =>
  rw[hr,aa] at hf;cases hf;refine⟨ρ,_,M,lad,r,hE,hr,fun v H1 s1 q1=>?_⟩;obtain⟨M',x',B',E'⟩:=hE.set i hB s1 q1;exact k _ _ ⟨M',hx.trans x',B',E'⟩
theorem cT {i:Nat}{x:Str}{pos':Pos}(hN:X.N.Nodup)(he:DE X e f)(hi:X.N[i]?=some x:=by rfl)(hx:L2.Loc X.env.scope x:=by first|exact Or.inl rfl|exact Or.inr rfl)(hs:swapsWith e (some (.Name x pos')) pos.line X.env=pure false:=by rfl)(hf:X.fn x=true\/X.env.scope.names.lookup x=some .local:=by first|exact .inl rfl|exact .inr rfl|assumption) :
  DS X (.Assign [.Name x pos'] e pos) (cO i f):=fun B H₀ M₀ lad=>(L2.ps_set hN hi hx he hs hf).imp fun E σ H h=>rX h
theorem cR (he:DE X e f):DS X (.Return (some e) pos) (cU f):=fun B H₀ M₀ lad=>(L2.ps_ret he).imp fun E σ H zz=>by
 obtain ⟨ρ,fl,⟨M,hx,hB,hE⟩,hf,k⟩:=zz;unfold cU at hf;cases hr:f ρ with
 |none=>rw[hr] at hf;cases hf
 |some r =>
  rw[hr,ae] at hf;cases hf;refine⟨ρ,_,M,lad,r,hE,hr,fun v H1 s1 q1=>k v H1 ⟨⟨M,hx.trans (.same s1)⟩,?_⟩⟩;rcases q1 with ⟨e,q⟩|⟨e,a,ds,vs,e1,e2,e3,e4,q⟩
  ·exact .inl ⟨e,q.ext (.less fun b hb=>ah _ hb)⟩
  ·refine .inr ⟨e,a,ds,vs,e1,e2,.inr ?_,e4,q.ext (.less fun b hb=>(ay.mp hb).elim (fun z=>z▸aB) fun z=>ak _ (ah _ z))⟩;cases e5:H₀ a with
   |none=>rfl
   |some o=>exact absurd e3 (hx.there a (by rw[e5];simp))
theorem ER.share {K:Fg}{H:Hp}{B M:List Addr}{lad:Nat->Addr}{ρ:Sl}{σ:St}(i:Nat)(h:ER K H (M++B) M lad ρ σ)(hB:∀a∈M,a∉B):∃M',(∀a∈M',a∈M)/\ER K H (M'++B) M' lad (share i ρ) σ:=by
 unfold DL.share;split
 ·rename_i ds hr;have hi:i<ρ.length:=(ax.mp hr).1;obtain⟨a,vs,e2,e3,e4,q⟩:=h.ow i _ hr;have sub:∀b∈M.filter (fun b=>decide (b≠a))++B,b∈M++B:=fun b hb=>(aG.mp hb).elim (fun z=>aE _ (bc.mp z).1) fun z=>ah _ z;have out:∀{j:Nat}{x:Vl},x.2=true->(ρ.set i (some (.list ds,false)))[j]?=some (some x)->i≠j:=fun {j x} hx ej z=>by subst z;rw[aj hi] at ej;cases ej;cases hx
  refine⟨M.filter (fun b=>decide (b≠a)),fun b hb=>(bc.mp hb).1,⟨fun j d' ej=>?_,fun j d' ej=>?_,fun j d' ej=>?_,fun j k d' e' b e5 e6 e7 e8=>?_,fun b hb=>h.tr b (sub b hb),fun b hb=>aE _ hb,by rw[aV];exact h.len,h.dp.go (.less sub) (fun j es ej=>?_) (fun b hb nb=>⟨bc.mpr ⟨hb,decide_eq_true fun z=>nb i _ hr (by rw[z];exact e2)⟩,fun _ e=>e⟩) fun j es c ej ec=>.inr ?_⟩⟩
  ·by_cases hj:i=j
   ·subst hj;rw[aj hi] at ej;cases ej;refine⟨_,e2,.list (.inl ⟨e3,fun z=>?_⟩) (q.ext (.less sub))⟩;rcases aG.mp z with z|z
    ·exact absurd rfl (of_decide_eq_true (bc.mp z).2)
    ·exact hB a e4 z
   ·rw[af hj] at ej;obtain⟨v,e5,q5⟩:=h.sh j d' ej;exact⟨v,e5,q5.ext (.less sub)⟩
  ·have hj:=out rfl ej;rw[af hj] at ej;obtain⟨b,us,e6,e7,e8,q5⟩:=h.ow j d' ej;refine⟨b,us,e6,e7,bc.mpr ⟨e8,decide_eq_true fun z=>?_⟩,q5.ext (.less sub)⟩;subst z;exact hj (h.ap i j _ d' b hr ej e2 e6)
  ·have hj:=out rfl ej;rw[af hj] at ej;obtain⟨e6,us,e7,e8,e9,q5⟩:=h.le j d' ej;refine⟨e6,us,e7,?_,fun z=>e9 (bc.mp z).1,q5.ext (.less sub)⟩;exact (aG.mp e8).elim (fun z=>absurd z e9) fun z=>ah _ z
  ·have nj:=out rfl e5;have nk:=out rfl e6;rw[af nj] at e5;rw[af nk] at e6;exact h.ap j k d' e' b e5 e6 e7 e8
  ·have nj:=out rfl ej;rw[af nj] at ej;exact⟨ej,rfl⟩
  ·have nj:=out rfl ej;rw[af nj] at ej;exact⟨j,es,ej,ec⟩
 ·exact⟨M,fun _ h=>h,h⟩
theorem SR.share {K:Fg}{B:List Addr}{H₀:Hp}{M₀:List Addr}{lad:Nat->Addr}{ρ:Sl}{σ:St}{H:Hp}(i:Nat)(h:SR K B H₀ M₀ lad ρ σ H):SR K B H₀ M₀ lad (DL.share i ρ) σ H:=by
 obtain⟨M,hx,hB,hE⟩:=h;obtain⟨M',sub,E'⟩:=hE.share i hB;exact⟨M',⟨hx.keep,hx.tup,hx.frz,fun b hb=>hx.new b (sub b hb),hx.there⟩,fun a ha=>hB a (sub a ha),E'⟩
theorem ri (i:Nat)(h:DS X st F):DS X st (jH i F):=fun B H₀ M₀ lad=>(h B H₀ M₀ lad).imp fun E σ H ⟨ρ,fl,hR,hf,k⟩=>⟨_,fl,hR.share i,hf,k⟩
theorem ER.mut {K:Fg}{H:Hp}{B M:List Addr}{lad:Nat->Addr}{ρ:Sl}{σ:St}{i:Nat}{ds ds':List D}{a:Addr}{vs':List V}(h:ER K H (M++B) M lad ρ σ)(hr:ρ[i]?=some (some (.list ds,true)))(hσ:σ[i]?=some (some (.ref a)))(q:Rs K H (M++B) ds' vs') :
  fu M H M (cX H a (.lst vs'))/\ER K (cX H a (.lst vs')) (M++B) M lad (ρ.set i (some (.list ds',true))) σ:=by
 obtain⟨a',us,e2,e3,e4,q0⟩:=h.ow i _ hr;rw[hσ] at e2;cases e2;have hi:i<ρ.length:=(ax.mp hr).1;have x:fu M H M (cX H a (.lst vs')):=by
  refine⟨fun b o n e=>?_,fun b xs e=>?_,fun b o u e=>?_,fun b hb=>.inl hb,fun b hb=>?_⟩
  ·rw[bZ (fun (z:b=a)=>n (by rw[z];exact e4))];exact e
  ·rw[bZ (fun z=>by subst z;rw[e3] at e;cases e)];exact e
  ·rw[bZ (fun z=>by subst z;rw[e3] at e;cases e)];exact e
  ·by_cases hz:b=a
   ·subst hz;rw[cg];simp
   ·rw[bZ hz];exact hb
 have x':gm M (M++B) H (M++B) (cX H a (.lst vs')):=x.ext;refine⟨x,⟨fun j d' ej=>?_,fun j d' ej=>?_,fun j d' ej=>?_,fun j k d' e' b e5 e6 e7 e8=>?_,fun b hb=>?_,h.sub,by rw[aV];exact h.len,h.dp.go x' (fun j es ej=>?_) (fun b hb nb=>⟨hb,fun _ e=>by rw[bZ (fun (z:b=a)=>nb i _ hr (by rw[z];exact hσ))];exact e⟩) fun j es c ej ec=>.inr ?_⟩⟩
 ·have nj:i≠j:=fun z=>by subst z;rw[aj hi] at ej;cases ej
  rw[af nj] at ej;obtain⟨v,e5,q5⟩:=h.sh j d' ej;exact⟨v,e5,q5.ext x'⟩
 ·by_cases hj:i=j
  ·subst hj;rw[aj hi] at ej;cases ej;exact⟨a,vs',hσ,cg,e4,q.ext x'⟩
  ·rw[af hj] at ej;obtain⟨b,us',e6,e7,e8,q5⟩:=h.ow j d' ej;refine⟨b,us',e6,?_,e8,q5.ext x'⟩;rw[bZ (fun (z:b=a)=>hj (h.ap i j _ d' b hr ej (by rw[z];exact hσ) e6))];exact e7
 ·have nj:i≠j:=fun z=>by subst z;rw[aj hi] at ej;cases ej
  rw[af nj] at ej;obtain⟨e6,us',e7,e8,e9,q5⟩:=h.le j d' ej;refine⟨e6,us',?_,e8,e9,q5.ext x'⟩;rw[bZ (fun (z:lad j=a)=>e9 (by rw[z];exact e4))];exact e7
 ·by_cases hj:i=j
  ·by_cases hk:i=k
   ·exact hj.symm.trans hk
   ·subst hj;rw[af hk] at e6;exact h.ap i k _ e' b hr e6 e7 e8
  ·rw[af hj] at e5;by_cases hk:i=k
   ·subst hk;exact h.ap j i d' _ b e5 hr e7 e8
   ·rw[af hk] at e6;exact h.ap j k d' e' b e5 e6 e7 e8
 ·by_cases hz:b=a
  ·subst hz;exact⟨.inl vs',cg⟩
  ·rw[bZ hz];exact h.tr b hb
 ·have nj:i≠j:=fun z=>by subst z;rw[aj hi] at ej;cases ej
  rw[af nj] at ej;exact⟨ej,rfl⟩
 ·by_cases hj:i=j
  ·subst hj;exact⟨i,ds,hr,ec⟩
  ·rw[af hj] at ej;exact⟨j,es,ej,ec⟩
theorem pg {i:Nat}{h:List D->Option (List D)}{ρ:Sl}{fl:Fl}(e:qk i h ρ=some fl):∃xs ys,ρ[i]?=some (some (.list xs,true))/\h xs=some ys/\fl=.next (ρ.set i (some (.list ys,true))):=by
 unfold qk at e;split at e
 ·rename_i xs hr;cases hy:h xs with
  |none=>rw[hy] at e;cases e
  |some ys =>
   rw[hy] at e;cases e;exact⟨xs,ys,hr,hy,rfl⟩
 ·cases e
theorem rj {i:Nat}{x:Str}{p1 p2 p3:Pos}(he:DE X e f)(hN:X.N[i]?=some x:=by rfl)(hv:L2.Vis X.env.scope x:=by first|exact Or.inl rfl|exact Or.inr (Or.inl rfl)|exact Or.inr (Or.inr rfl))(hd:(x==("__debug__" : Str))=false:=by decide)
  (hcd:(x==("__classdict__" : Str))=false:=by decide)
  (hs0:starEach [e] X.env=[(false,eval e X.env)]:=by rfl)
  (hbase:attributeBase (.Name x p1) "append" X.env (eval (.Name x p1) X.env)=eval (.Name x p1) X.env:=by rfl)
  (hfew:((backTo p3 (starEach [e] X.env)).all (fun x=>!x.1)&&(backToKw p3 (keywordEach [] X.env)).all (fun x=>x.1.isSome)&&decide ([e].length+([]:List Keyword).length+(if ([]:List Keyword).isEmpty then 0 else 1)<30))=true:=by rfl)
  (hline:(p2.endLine==p3.line)=true:=by rfl) (hs:starEach [e] X.env=(false,eval e X.env)::starEach [] X.env:=by rfl) (hplain:(backTo p3 (starEach [] X.env)).any (·.1)=false:=by rfl)
  (hsw:swapsWith (.Call (.Attribute (.Name x p1) "append" p2) [e] [] p3) none pos.line X.env=pure false:=by rfl) :
  DS X (.Expr (.Call (.Attribute (.Name x p1) "append" p2) [e] [] p3) pos) (pj i f):=fun B H₀ M₀ lad =>
 (L2.ps_expr (L2.pe_bm PySem.F.plainAttrs_list PySem.F.slot_list_append PySem.F.type_list_append L2.mt_append (L2.pe_var hN hv hd hcd) (ck he cH hs) hbase hfew hline hs hplain) hsw).imp fun E σ H zz=>by
  obtain ⟨ρ,fl,⟨M,hx,hB,hE⟩,hf,k⟩:=zz;unfold pj at hf;cases hr:f ρ with
  |none=>rw[hr] at hf;cases hf
  |some r =>
   rw[hr,aa] at hf;obtain⟨xs,ys,hi,hy,rfl⟩:=pg hf;split at hy
   ·rename_i hz;cases hy;obtain⟨a,vs,e2,e3,e4,q⟩:=hE.ow i _ hi;refine⟨_,e2,.inl ⟨rfl,vs,.inl (.inl e3)⟩,ρ,_,M,lad,[r.1],hE,by unfold bY;rw[hr];rfl,fun us H2 s2 q2=>?_⟩;cases q2 with
    |cons qy qn =>
     cases qn;have E2:=hE.same s2;have l:=q.length;refine⟨a,vs,_,rfl,rfl,s2 _ _ e3,by omega,?_⟩;obtain⟨x',E'⟩:=E2.mut hi e2 ((q.same s2).append (.cons qy .nil));exact k _ _ ⟨M,(hx.trans (.same s2)).trans x',hB,E'⟩
   ·cases hy
end
end DL
namespace DL
open PySem PySem.Spec PySem.SeqAt
open L2 (V Hp St HO VK TE TT TA TS TI TG Cx Inv PE PT PA PS PSs PI PG dr dq cw cX cg bZ bV cA cI EP TP AP SP c7 It)
theorem _root_.L2.PG.imp {X:Cx}{e:Expr}{t t':TG}(h:PG X e t)(i:∀v σ H Q,t' v σ H Q->t v σ H Q):PG X e t':=fun pins s σ H v u Q I r q=>h pins s σ H v u Q I r (i v σ H Q q)
theorem _root_.L2.PGs.imp {X:Cx}{e:List Expr}{t t':L2.TGs}(h:L2.PGs X e t)(i:∀v σ H Q,t' v σ H Q->t v σ H Q):L2.PGs X e t':=fun pins s σ H v u Q I r q=>h pins s σ H v u Q I r (i v σ H Q q)
theorem _root_.L2.PI.imp {X:Cx}{tg e:Expr}{t t':TI}(h:PI X tg e t)(i:∀σ H Q,t' σ H Q->t σ H Q):PI X tg e t':=fun pins s σ H R I q=>h pins s σ H R I (i σ H R q)
theorem _root_.L2.PTs.imp {X:Cx}{es:List Expr}{t t':TT}(h:L2.PTs X es t)(i:∀σ H Q,t' σ H Q->t σ H Q):L2.PTs X es t':=fun pins s σ H Q I q=>h pins s σ H Q I (i σ H Q q)
theorem ER.setS {K:Fg}{H:Hp}{O M:List Addr}{lad:Nat->Addr}{ρ:Sl}{σ:St}{d:D}{v:V}(i:Nat)(h:ER K H O M lad ρ σ)(q:R K H O d v):ER K H O M lad (ρ.set i (some (d,false))) (σ.set i (some v)):=by
 by_cases hi:i<ρ.length
 ·have hi':i<σ.length:=by rw[<-h.len];exact hi
  have out:∀{j:Nat}{x:Vl},x.2=true->(ρ.set i (some (d,false)))[j]?=some (some x)->i≠j:=fun {j x} hx ej z=>by subst z;rw[aj hi] at ej;cases ej;cases hx
  refine⟨fun j d' ej=>?_,fun j d' ej=>?_,fun j d' ej=>?_,fun j k d' e' a e1 e2 e3 e4=>?_,h.tr,h.sub,by rw[aV,aV];exact h.len,h.dp.go (.same (.refl _)) (fun j es ej=>?_) (fun b hb _=>⟨hb,fun _ e=>e⟩) fun j es c ej ec=>.inr ?_⟩
  ·by_cases hj:i=j
   ·subst hj;rw[aj hi] at ej;cases ej;exact⟨v,aj hi',q⟩
   ·rw[af hj] at ej ⊢;exact h.sh j d' ej
  ·have hj:=out rfl ej;rw[af hj] at ej ⊢;exact h.ow j d' ej
  ·have hj:=out rfl ej;rw[af hj] at ej ⊢;exact h.le j d' ej
  ·have nj:=out rfl e1;have nk:=out rfl e2;rw[af nj] at e1 e3;rw[af nk] at e2 e4;exact h.ap j k d' e' a e1 e2 e3 e4
  ·have nj:=out rfl ej;rw[af nj] at ej;exact⟨ej,af nj⟩
  ·have nj:=out rfl ej;rw[af nj] at ej ec;exact⟨j,es,ej,ec⟩
 ·rw[bw ⋯,bw (by rw[<-h.len];omega)];exact h
noncomputable def uG (K:Fg)(g:GD):TG:=fun v σ H Q=>∃ρ O M lad d ρ',ER K H O M lad ρ σ/\R K H O d v/\g d ρ=some ρ'/\∀σ' H',cw H H'->ER K H' O M lad ρ' σ'->Q σ' H'
noncomputable def wU (K:Fg)(gs:List GD):L2.TGs:=fun vs σ H Q=>∃ρ O M lad ds ρ',ER K H O M lad ρ σ/\Rs K H O ds vs/\jT gs ds ρ=some ρ'/\∀σ' H',cw H H'->ER K H' O M lad ρ' σ'->Q σ' H'
def DG (X:Cx)(tg:Expr)(g:GD):Prop:=PG X tg (uG X.K g)
def v7 (X:Cx)(ts:List Expr)(gs:List GD):Prop:=L2.PGs X ts (wU X.K gs)
section
variable {X:Cx}{e a b c tg iter elt:Expr}{es:List Expr}{f g:ED}{t u:TD}{pos:Pos}{st:Stmt}{de sts body:List Stmt}{F G:SD}{it:AD}{gd:GD}{gs:List GD}
theorem dj {i:Nat}{x:Str}(hN:X.N.Nodup)(hi:X.N[i]?=some x:=by rfl)(hx:L2.Loc X.env.scope x:=by first|exact Or.inl rfl|exact Or.inr rfl)(hf:X.fn x=true\/X.env.scope.names.lookup x=some .local:=by first|exact .inl rfl|exact .inr rfl|assumption):DG X (.Name x pos) (gN i) :=
 (L2.pg_name hN hi hx hf).imp fun v σ H Q zz=>by
  obtain ⟨ρ,O,M,lad,d,ρ',hE,q,hg,k⟩:=zz;cases hg;exact k _ _ (.refl H) (hE.setS i q)
theorem js:v7 X [] []:=L2.pgs_nil.imp fun vs σ H Q zz=>by
 obtain ⟨ρ,O,M,lad,ds,ρ',hE,q,hg,k⟩:=zz;cases q with
 |nil =>
  cases hg;exact⟨rfl,k _ _ (.refl H) hE⟩
 |cons _ _=>cases hg
theorem eH (h1:DG X e gd)(h2:v7 X es gs)(hs:(assignEach (e::es) X.env).map (·.2)=assign e X.env::(assignEach es X.env).map (·.2):=by rfl):v7 X (e::es) (gd::gs):=(L2.pgs_cons h1 h2 hs).imp fun vs σ H Q zz=>by
 obtain ⟨ρ,O,M,lad,ds,ρ',hE,q,hg,k⟩:=zz;cases q with
 |nil=>cases hg
 |@cons d v ds vs q qs =>
  unfold jT at hg;cases hx:gd d ρ with
  |none=>rw[hx] at hg;cases hg
  |some ρ1 =>
   rw[hx,aa] at hg;exact⟨v,vs,rfl,ρ,O,M,lad,d,ρ1,hE,q,hx,fun σ1 H1 s1 E1=>⟨ρ1,O,M,lad,ds,ρ',E1,qs.same s1,hg,fun σ2 H2 s2 E2=>k σ2 H2 (s1.trans s2) E2⟩⟩
theorem mE:∀{gs:List GD}{ds:List D}{ρ ρ':Sl},jT gs ds ρ=some ρ'->ds.length=gs.length
 |[],[],_,_,_=>rfl
 |[],_::_,_,_,h=>by cases h
 |_::_,[],_,_,h=>by cases h
 | g::gs,d::ds,ρ,ρ',h=>by
  unfold jT at h;cases hx:g d ρ with
  |none=>rw[hx] at h;cases h
  |some ρ1 =>
   rw[hx,aa] at h;rw[ai,ai,mE h]
theorem lQ {k:Nat}(hc:X.calm=true)(h:v7 X es gs)(hn:(assignEach es X.env).length=gs.length:=by rfl)(hst:(assignEach es X.env).findIdx? (·.1)=none:=by rfl):DG X (.Tuple es k pos) (gT gs):=(L2.pg_tup hc h hn hst).imp fun v σ H Q zz=>by
 obtain ⟨ρ,O,M,lad,d,ρ',hE,q,hg,k⟩:=zz;unfold gT at hg;split at hg
 ·rename_i ds;cases q with
  |tuple ha qs=>exact⟨_,_,rfl,ha,by rw[<-qs.length];exact mE hg,ρ,O,M,lad,ds,ρ',hE,qs,hg,k⟩
 ·cases hg
def j6 (K:Fg)(J:It)(ds:List D)(M O:List Addr)(H':Hp):Prop:=∀(O'':List Addr) (H'':Hp),gm M O H' O'' H'' →
 (∀(i:Nat) (d:D),ds[i]?=some d->J.go i H''/\∀x H3,J.yld i H'' x H3->cw H'' H3/\R K H3 O'' d x)/\J.stop ds.length H''
noncomputable def uI (K:Fg)(it:AD):TI:=fun σ H Q=>∃ρ O M lad ds,ER K H O M lad ρ σ/\it ρ=some ds/\∀J H',cw H H'->j6 K J ds M O H'->Q J H'
def DI (X:Cx)(tg e:Expr)(it:AD):Prop:=PI X tg e (uI X.K it)
def w6 (kd:Bool)(K:Fg)(H:Hp)(a:Addr)(xs:List V):Prop:=if kd=true then dq K H a xs else dr K H a xs
def QR (K:Fg)(M O:List Addr)(H:Hp)(ds:List D)(v:V)(kd:Bool):Prop:=∃a vs,v=.ref a/\Rs K H O ds vs/\∀O' H',gm M O H O' H'->w6 kd K H' a vs
noncomputable def uQ (K:Fg)(f:AD):TE:=fun σ H Q=>∃ρ O M lad ds,ER K H O M lad ρ σ/\f ρ=some ds/\∀v H' kd,cw H H'->QR K M O H' ds v kd->Q v H'
theorem gm.id (M O:List Addr)(H:Hp)(h:∀b∈M,b∈O):gm M O H O H:=⟨fun _ _ e=>e,fun _ _ _ e=>e,fun _ _ _ e=>e,fun _ _ _ e=>e,fun _ h=>.inl h,h⟩
theorem R.qr {K:Fg}{H:Hp}{M O:List Addr}{d:D}{v:V}{ds:List D}(q:R K H O d v)(h:gL d=some ds):∃kd,QR K M O H ds v kd:=by
 cases q with
 |tuple ha qs =>
  cases h;exact⟨false,_,_,rfl,qs,fun _ _ x=>dr.ext x ha⟩
 |list ha qs =>
  cases h;exact⟨true,_,_,rfl,qs,fun _ _ x=>(ha.ext x).sq⟩
 |_=>cases h
def DQ (X:Cx)(e:Expr)(f:AD):Prop:=PE X e (uQ X.K f)
theorem kJ (h:DE X e f):DQ X e (kj f):=h.imp fun σ H Q zz=>by
 obtain ⟨ρ,O,M,lad,ds,hE,hf,k⟩:=zz;unfold kj at hf;cases hr:f ρ with
 |none=>rw[hr] at hf;cases hf
 |some r =>
  rw[hr,aa] at hf;refine⟨ρ,O,M,lad,r,hE,hr,fun v H1 s1 q1=>?_⟩;obtain⟨kd,q⟩:=(q1.toR hE.ne).qr (M:=M) hf;exact k v H1 kd s1 q
theorem nJ (i:Nat){x:Str}(hN:X.N[i]?=some x:=by rfl)(hv:L2.Vis X.env.scope x:=by first|exact Or.inl rfl|exact Or.inr (Or.inl rfl)|exact Or.inr (Or.inr rfl))(hd:(x==("__debug__" : Str))=false:=by decide)
  (hcd:(x==("__classdict__" : Str))=false:=by decide):DQ X (.Name x pos) (lA i):=(L2.pe_var hN hv hd hcd).imp fun σ H Q zz=>by
 obtain ⟨ρ,O,M,lad,ds,hE,hf,k⟩:=zz;unfold lA at hf;split at hf
 ·rename_i xs hr;cases hf;obtain⟨v,e1,q⟩:=hE.sh i _ hr;obtain⟨kd,q⟩:=q.qr (M:=M) rfl;exact⟨v,e1,k v H kd (.refl H) q⟩
 ·rename_i xs hr;cases hf;obtain⟨v,e1,q⟩:=hE.sh i _ hr;obtain⟨kd,q⟩:=q.qr (M:=M) rfl;exact⟨v,e1,k v H kd (.refl H) q⟩
 ·rename_i xs hr;cases hf;obtain⟨e6,us,e7,e8,e9,q5⟩:=hE.le i _ hr;exact⟨_,e6,k _ H true (.refl H) ⟨_,us,rfl,q5,fun O' H' x=>.inl (.inl (x.lst _ _ e9 e7))⟩⟩
 ·cases hf
theorem px {K:Fg}{H:Hp}{M O:List Addr}{a:Addr}{ds:List D}{vs:List V}(h:∀O' H',gm M O H O' H'->dq K H' a vs)(q:Rs K H O ds vs):j6 K (L2.Itl K a) ds M O H:=by
 intro O2 H2 x;have h2:=h _ _ x;have q2:=q.ext x;refine⟨fun i d e=>?_,vs,h2,by rw[q.length];exact aq _⟩;obtain⟨v,ev,rv⟩:=q2.get e;refine⟨⟨vs,v,h2,ev⟩,fun y H3 ⟨e3,hy⟩=>?_⟩;subst e3;have:=hy vs h2;rw[ev] at this;cases this;exact⟨.refl _,rv⟩
theorem pw {K:Fg}{H:Hp}{M O:List Addr}{a:Addr}{ds:List D}{vs:List V}(h:∀O' H',gm M O H O' H'->dr K H' a vs)(q:Rs K H O ds vs):j6 K (L2.Itt K a) ds M O H:=by
 intro O2 H2 x;have h2:=h _ _ x;have q2:=q.ext x;refine⟨fun i d e=>?_,vs,h2,by rw[q.length];exact aq _⟩;obtain⟨v,ev,rv⟩:=q2.get e;refine⟨⟨vs,v,h2,ev⟩,fun y H3 ⟨e3,hy⟩=>?_⟩;subst e3;have:=hy vs h2;rw[ev] at this;cases this;exact⟨.refl _,rv⟩
theorem sd {l:Expr}{tl:TE}(hl:PE X l tl):PI X tg l (fun σ H R=>tl σ H fun x H1=>∃a,x=.ref a/\(((∃xs,dq X.K H1 a xs)/\R (L2.Itl X.K a) H1)\/((∃xs,dr X.K H1 a xs)/\R (L2.Itt X.K a) H1))):=by
 intro pins s σ H R I h;refine L2.thn (hl pins s σ H _ I h) fun v s1 zz=>?_;obtain ⟨x,H1,I1,r1,q1⟩:=zz;obtain⟨a,rfl,q1⟩:=q1;cases (show v=Value.ref a from r1);rcases q1 with ⟨⟨xs,hq⟩,q⟩|⟨⟨xs,hq⟩,q⟩
 ·obtain⟨its,rv,p,hz⟩:=I1.list hq;refine wpAny_pyIter_list p.isList ⟨s1.heap.objs.size,[s1.heap.objs.size],_,_,H1,rfl,I1.kept (t':=s1.toks) fun b o e=>aw _ e,L2.turn_list a _,⟨_,aN _ rfl,rfl,rfl⟩,fun b hb=>?_,q⟩;have e:b=s1.heap.objs.size:=by simpa using hb
  subst e;exact I1.fpOk (aq _) (I1.hok.fresh (aq _))
 ·obtain⟨its,rv,p,hz⟩:=I1.tuple hq;refine wpAny_pyIter_tuple (show s1.heap.IsTuple a its.toArray from p) ⟨s1.heap.objs.size,[s1.heap.objs.size],_,_,H1,rfl,I1.kept (t':=s1.toks) fun b o e=>aw _ e,L2.turn_tuple a _,⟨_,aN _ rfl,rfl,rfl⟩,fun b hb=>?_,q⟩;have e:b=s1.heap.objs.size:=by simpa using hb
  subst e;exact I1.fpOk (aq _) (I1.hok.fresh (aq _))
theorem gf {f:AD}(h:DQ X e f):DI X tg e (eu f):=(sd h).imp fun σ H Q zz=>by
 obtain ⟨ρ,O,M,lad,ds,hE,hf,k⟩:=zz;refine⟨ρ,O,M,lad,ds,hE,hf,fun v H1 kd s1 ⟨a,vs,ev,qs,st⟩=>⟨a,ev,?_⟩⟩;have st0:=st _ _ (gm.id M O H1 (hE.same s1).sub);cases kd with
 |true=>exact .inl ⟨⟨vs,st0⟩,k _ H1 s1 (px (fun O' H' x=>st O' H' x) qs)⟩
 |false=>exact .inr ⟨⟨vs,st0⟩,k _ H1 s1 (pw (fun O' H' x=>st O' H' x) qs)⟩
theorem mT {d:D}{i:Int}(h:vd d=some i):d=.int i:=by
 cases d <;> first|(cases h;rfl)|cases h
theorem nB {K:Fg}{H:Hp}{M O:List Addr}(lo:Int)(n:Nat):j6 K (L2.Itr lo n) (ic lo n) M O H:=by
 intro O2 H2 x;refine⟨fun i d e=>?_,?_⟩
 ·unfold ic at e;rw[aH] at e;cases er:(bq n)[i]? with
  |none=>rw[er] at e;cases e
  |some k =>
   rw[er,ae] at e;cases e;obtain⟨h1,h2⟩:=ax.mp er;rw[List.length_range] at h1;rw[List.getElem_range] at h2;subst h2;exact⟨h1,fun y H3 zz=>by obtain ⟨e3,e4⟩:=zz; subst e3 e4;exact⟨.refl _,.int _⟩⟩
 ·show n<=_;unfold ic;rw[az,List.length_range];exact aq _
theorem kK {p pos':Pos}(hm:X.mg "range" = none)(h:DE X a f)(hg:L2.Gl X "range" := by rfl)(hs:starEach [a] X.env=[(false,eval a X.env)]:=by rfl):DI X tg (.Call (.Name "range" p) [a] [] pos') (gM f) :=
 (L2.pi_range1 hg hm (ck h cH hs) hs).imp fun σ H Q zz=>by
  obtain ⟨ρ,O,M,lad,ds,hE,hf,k⟩:=zz;unfold gM at hf;cases hr:f ρ with
  |none=>rw[hr] at hf;cases hf
  |some r =>
   rw[hr,aa] at hf;cases hj:vd r.1 with
   |none=>rw[hj] at hf;cases hf
   |some j =>
    rw[hj,aa] at hf;split at hf
    ·rename_i hb;cases hf;refine⟨ρ,O,M,lad,[r.1],hE,by unfold bY;rw[hr];rfl,fun vs H1 s1 q1=>?_⟩;rw[mT hj] at q1;cases q1 with
     |cons q qn =>
      cases q;cases qn;exact⟨j,rfl,hb.1,hb.2,k _ H1 s1 (nB 0 j.toNat)⟩
    ·cases hf
noncomputable def uX (K:Fg)(F:SD):TS:=fun E σ H=>∃B H₀ M₀ lad,uS K B H₀ M₀ lad F E σ H
theorem nY.x (h:nY X sts F):PSs X sts (uX X.K F):=fun pins s σ H D I ⟨B,H₀,M₀,lad,q⟩=>h B H₀ M₀ lad pins s σ H D I q
theorem oX.up {K:Fg}{B:List Addr}{H₀ H1 H':Hp}{M₀ M:List Addr}{r:Vl}{v:V}(x:fu M₀ H₀ M H1)(h:oX K B H1 M H' r v):oX K B H₀ M₀ H' r v:=by
 obtain⟨⟨M',x'⟩,q⟩:=h;refine⟨⟨M',x.trans x'⟩,?_⟩;rcases q with q|⟨e,a,ds,vs,e1,e2,e3,e4,q⟩
 ·exact .inl q
 ·refine .inr ⟨e,a,ds,vs,e1,e2,?_,e4,q⟩;rcases e3 with z|z
  ·exact x.new a z
  ·refine .inr ?_;cases e5:H₀ a with
   |none=>rfl
   |some o=>exact absurd z (x.there a (by rw[e5];simp))
theorem SR.up {K:Fg}{B:List Addr}{H₀ H1 H:Hp}{M₀ M:List Addr}{lad:Nat->Addr}{ρ:Sl}{σ:St}(x:fu M₀ H₀ M H1)(h:SR K B H1 M lad ρ σ H):SR K B H₀ M₀ lad ρ σ H:=by
 obtain⟨M',x',hB,hE⟩:=h;exact⟨M',x.trans x',hB,hE⟩
theorem gz (hc:X.calm=true)(hi:DI X tg iter it)(hg:DG X tg gd)(hb:nY X body F)(hp:PassesOwn (model X.prog X.w) X.A X.env X.xe:=by exact PassesOwn.never)
  (hs:∀x,foldedSetIterable iter X.env x=pure x:=by intro _;rfl):DS X (.For tg iter body [] pos) (fP it gd F):=fun B H₀ M₀ lad=>(L2.ps_for hp hc hi hg hb.x hs).imp fun E σ H zz=>by
 obtain ⟨ρ,fl,⟨M,hx,hB,hE⟩,hf,k⟩:=zz;unfold fP at hf;cases hd:it ρ with
 |none=>rw[hd] at hf;cases hf
 |some ds =>
  rw[hd,aa] at hf;refine⟨ρ,_,M,lad,ds,hE,hd,fun J H1 s1 iok=>?_⟩;have x1:fu M₀ H₀ M H1:=hx.trans (.same s1);refine⟨fun i m σ' H'=>m=ds.length-i/\i<=ds.length/\∃ρ',SR X.K B H1 M lad ρ' σ' H'/\fq gd F (ds.drop i) ρ'=some fl,⟨ds.length,by simp,bf _,ρ,⟨M,.refl M H1,hB,hE.same s1⟩,by simpa using hf⟩,?_⟩;rintro i m σ' H' ⟨rfl,hi,ρ',hR,hl⟩;obtain⟨M',x',hB',hE'⟩:=id hR;obtain⟨go,stop⟩:=iok _ _ x'.ext;by_cases hlt:i<ds.length
  ·have ed:ds.drop i=ds[i]::ds.drop (i+1):=bu hlt;rw[ed] at hl;unfold fq at hl;cases hg1:gd ds[i] ρ' with
   |none=>rw[hg1] at hl;cases hl
   |some ρ1 =>
    rw[hg1,aa] at hl;cases hF:F ρ1 with
    |none=>rw[hF] at hl;cases hl
    |some fl1 =>
     rw[hF,aa] at hl;obtain⟨g1,g2⟩:=go i ds[i] (by simp[hlt]);refine .inr ⟨g1,fun σ2 H2=>∃ρ2,SR X.K B H1 M lad ρ2 σ2 H2/\fq gd F (ds.drop (i+1)) ρ2=some fl,fun σ2 H2 ⟨ρ2,r2,l2⟩=>⟨ds.length-(i+1),by omega,rfl,hlt,ρ2,r2,l2⟩,fun x H2 hy=>?_⟩;obtain⟨s2,q2⟩:=g2 x H2 hy;refine⟨ρ',_,M',lad,ds[i],ρ1,hE'.same s2,q2,hg1,fun σ3 H3 s3 E3=>⟨B,H1,M,lad,ρ1,fl1,⟨M',(x'.trans (.same s2)).trans (.same s3),hB',E3⟩,hF,?_⟩⟩;cases fl1 with
     |next ρ2=>exact fun σ4 H4 r4=>⟨ρ2,r4,hl⟩
     |cont ρ2=>exact fun σ4 H4 r4=>⟨ρ2,r4,hl⟩
     |brk ρ2 =>
      cases hl;exact fun σ4 H4 r4=>k σ4 H4 (r4.up x1)
     |ret r =>
      cases hl;exact fun v H4 r4=>k v H4 (r4.up x1)
  ·have e:i=ds.length:=by omega
   subst e;rw[bP] at hl;cases hl;exact .inl ⟨stop,k σ' H' (hR.up x1)⟩
end
end DL
namespace L2
open PySem PySem.Spec PyProof.Rows
section
variable {X:Cx}
noncomputable def tL (K:PySem.W.Frag):R2:=fun x y H Q=>∃a b ys,x=.ref a/\y=.ref b/\dr K H a []/\dr K H b ys/\Q (.ref b) H
theorem sg:OpR X (binaryOp .Add) (tL X.K):=by
 intro pins s σ H x y v u Q I rx ry h;obtain⟨a,b,ys,rfl,rfl,ha,hb,q⟩:=h;cases rx;cases ry;obtain⟨its,r1,p1,_⟩:=I.tuple ha;obtain⟨its2,r2,p2,_⟩:=I.tuple hb;cases r1;obtain⟨⟨cls,dd,data,sl⟩,ho,hc,n,hd⟩:=id p1;obtain⟨⟨cls2,dd2,data2,sl2⟩,ho2,hc2,n2,hd2⟩:=id p2;simp only at hc hd hc2 hd2;subst hc hd hc2 hd2;exact concat_meets ⟨_,ho,rfl⟩ ⟨_,ho2,rfl⟩ noFill_tuple_add seq_tuple_add PySem.F.slot_tuple_add PySem.F.entry_tuple_add (PySem.F.args_tuple_add_2 _ _)
   (tuple_addW0 a b _ _ n n2 dd dd2 sl sl2 (by simp)) ⟨ho,ho2,⟨.ref b,H,I,rfl,q⟩⟩
noncomputable def rAddA (K:PySem.W.Frag):R2:=fun x y H Q=>rI0 (fun i j=>.int (i+j)) x y H Q\/(tK K x y H Q\/(tL K x y H Q\/∃i j,x=.str i/\y=.str j/\i.length+j.length<=sizeLine/\Q (.str (i++j)) H))
theorem op_addA:OpR X (binaryOp .Add) (rAddA X.K):=ub.or (sf.or (sg.or nh))
theorem call_allB (hc:X.calm=true):CallR X (.builtin "all") (fun xs H Q=>∃(a:Addr) (ys:List V) (bs:List Bool),xs=[.ref a]/\(dq X.K H a ys\/dr X.K H a ys)/\ys=bs.map V.bl/\Q (.bl (bs.all id)) H):=by
 intro pins s σ H xs us Q I rx h;obtain⟨a,ys,bs,rfl,hq,rfl,q⟩:=h;obtain⟨u,rfl,ru⟩:=cA.one rx;cases ru;have bools:∀(bs:List Bool) (its:List Value),cA (bs.map V.bl) its->its=bs.map Value.bool:=by
  intro bs;induction bs with
  |nil=>intro its r;cases r;rfl
  |cons b bs ih =>
   intro its r;cases r with
   |cons r rs =>
    have:_=Value.bool b:=r;rw[aD,ih _ rs,this]
 have alls:∀(bs:List Bool),(bq bs.length).all (fun i=>bs.getD i false)=bs.all id:=by
  intro bs;induction bs with
  |nil=>rfl
  |cons b bs ih =>
   rw[ai,List.range_succ_eq_map,List.all_cons,List.all_cons,List.all_map];show (b&&_)=(b&&_);congr 1
 have tru:TruthOf X.prog X.w X.A.in1 (fun i v=>(bs.map Value.bool).toArray[i]?=some v) (fun i=>bs.getD i false):=by
  intro i v s' Q' E' hP hQ;have hP':(bs.map Value.bool)[i]?=some v:=by simpa using hP
  rw[aH] at hP';cases e:bs[i]? with
  |none=>rw[e] at hP';cases hP'
  |some b =>
   rw[e,ae] at hP';cases hP';refine wpAny_truthy_bool ?_;have:bs.getD i false=b:=by rw[a9,e];rfl
   have hQ2:Q' (bs.getD i false) s':=hQ;rw[this] at hQ2;exact hQ2
 have fin:∀(o:Obj) (h':Heap) (tk:Nat),(∀b ob,b∉[s.heap.objs.size]->(s.heap.push o).get? b=some ob->h'.get? b=some ob) →
   EP X pins σ Q (.bool ((bq (bs.map Value.bool).toArray.size).all fun i=>bs.getD i false)) { s with heap:=h',toks:=tk }:=by
  intro o h' tk hk;have ez:(bs.map Value.bool).toArray.size=bs.length:=by simp
  rw[ez,alls];exact⟨.bl _,H,I.kept (t':=tk) fun b ob e=>hk b ob (by simpa using aK (av e)) (aw _ e),rfl,q⟩
 refine call_all_walk ?_;rcases hq with hq|hq
 ·obtain⟨its,rv,p,hz⟩:=I.list hq;have e:=bools bs its rv;subst e;refine wpAny_pyIter_list p.isList ?_;have hne:a≠s.heap.objs.size:=aK (by obtain⟨o,n,e,_⟩:=p;exact av e);exact⟨_,_,_,_,_,_,fun i=>bs.getD i false,rfl,Walks.list (A:=X.A.in1) (I.ok.hd hc) s.heap.objs.size a hne (bs.map Value.bool).toArray,⟨⟨_,aN _ rfl,rfl,rfl⟩,p.isList.at fun o e=>aw _ e⟩,tru,fun h' tk hk=>fin _ h' tk hk⟩
 ·obtain⟨its,rv,p,hz⟩:=I.tuple hq;have e:=bools bs its rv;subst e;have p':s.heap.IsTuple a (bs.map Value.bool).toArray:=p;refine wpAny_pyIter_tuple p' ?_;have hne:a≠s.heap.objs.size:=aK p.lt;exact⟨_,_,_,_,_,_,fun i=>bs.getD i false,rfl,Walks.tuple (A:=X.A.in1) (I.ok.hd hc) s.heap.objs.size a hne (bs.map Value.bool).toArray,⟨⟨_,aN _ rfl,rfl,rfl⟩,p'.at fun o e=>aw _ e⟩,tru,fun h' tk hk=>fin _ h' tk hk⟩
def KdV (K:PySem.W.Frag)(H:Hp)(x:V)(t:String):Prop:=match x with
 |.bl _=>t = "bool"
 |.int _=>t = "int"
 |.str _=>t = "str"
 |.ref a=>(t = "tuple" ∧ ∃xs,dr K H a xs)\/(t = "list" ∧ ∃xs,dq K H a xs)
 |_=>False
theorem call_isa:CallR X (.builtin "isinstance") (fun xs H Q=>∃x t T b,xs=[x,.ty T]/\KdV X.K H x t/\PySem.W.kitOne X.K (.type t) (.type T)=some b/\Q (.bl b) H):=by
 intro pins s σ H xs us Q I rx h;obtain⟨x,t,T,b,rfl,kd,e,q⟩:=h;obtain⟨u,w',rfl,r1,r2⟩:=cA.two rx;cases r2;have fin:∀tk,EP X pins σ Q (.bool b) { s with toks:=tk }:=fun tk=>⟨.bl b,H,I.tok tk,rfl,q⟩;cases x with
 |bl y =>
  cases (show t = "bool" from kd);cases (show u=Value.bool y from r1);exact PySem.W.kia_one PySem.W.kitx_bool I.kIn True.intro e (fun z=>nomatch z) fin
 |int i =>
  cases (show t = "int" from kd);obtain⟨t',q'⟩:=(show ∃t,u=Value.int i t from r1);cases q';exact PySem.W.kia_one PySem.W.kitx_int I.kIn True.intro e (fun z=>nomatch z) fin
 |str y =>
  cases (show t = "str" from kd);obtain⟨t',q'⟩:=(show ∃t,u=Value.str y t from r1);cases q';exact PySem.W.kia_one PySem.W.kitx_str I.kIn True.intro e (fun z=>nomatch z) fin
 |ref a =>
  cases (show u=Value.ref a from r1);rcases kd with ⟨rfl,ys,hq⟩|⟨rfl,ys,hq⟩
  ·obtain⟨its,rv,⟨o,h1,h2,_⟩,hz⟩:=I.tuple hq;exact PySem.W.kia_one PySem.W.kitx_tuple I.kIn ⟨o,h1,h2⟩ e (fun z=>nomatch z) fin
  ·obtain⟨its,rv,⟨o,n,h1,h2,_⟩,hz⟩:=I.list hq;exact PySem.W.kia_one PySem.W.kitx_list I.kIn ⟨o,h1,h2⟩ e (fun z=>nomatch z) fin
 |_=>exact False.elim kd
end
end L2
namespace DL
open PySem PySem.Spec PySem.SeqAt
open L2 (V Hp St HO VK TE TT TA TS TI TG Cx Inv PE PT PA PS PSs PI PG dr dq cw cX cg bZ bV cA cI EP TP AP SP c7 It)
section
variable {K:Fg}{H:Hp}{O:List Addr}{v:V}
theorem BR.int {i:Int}(h:BR K H O (.int i) v):v=.int i:=by
 rcases h with h|⟨a,ds,vs,e,_⟩|⟨a,ds,vs,e,_⟩
 ·cases h;rfl
 ·cases e
 ·cases e
theorem BR.bool {b:Bool}(h:BR K H O (.bool b) v):v=.bl b:=by
 rcases h with h|⟨a,ds,vs,e,_⟩|⟨a,ds,vs,e,_⟩
 ·cases h;rfl
 ·cases e
 ·cases e
theorem BR.str {x:Str}(h:BR K H O (.str x) v):v=.str x:=by
 rcases h with h|⟨a,ds,vs,e,_⟩|⟨a,ds,vs,e,_⟩
 ·cases h;rfl
 ·cases e
 ·cases e
theorem BR.tuple {ds:List D}(h:BR K H O (.tuple ds) v):∃a vs,v=.ref a/\dr K H a vs/\Rs K H O ds vs:=by
 rcases h with h|⟨a,es,vs,e,_⟩|⟨a,es,vs,e,_⟩
 ·cases h with
  |tuple ha hs=>exact⟨_,_,rfl,ha,hs⟩
 ·cases e
 ·cases e
theorem BR.list {ds:List D}(h:BR K H O (.list ds) v):∃a vs,v=.ref a/\dq K H a vs/\Rs K H O ds vs:=by
 rcases h with h|⟨a,es,vs,e,e2,e3,q⟩|⟨a,es,vs,e,_⟩
 ·cases h with
  |list ha hs=>exact⟨_,_,rfl,ha.sq,hs⟩
 ·cases e;exact⟨a,vs,e2,.inl (.inl e3),q⟩
 ·cases e
end
section
variable {X:Cx}{e a b c:Expr}{es:List Expr}{f g:ED}{fb gb:BD}{t u:TD}{pos:Pos}
theorem c9:OD X (L2.rAddA X.K) cS:=by
 intro x y vx vy H O r Q ne hx hy hf k;cases x <;> first|(cases hf;done)|(cases y <;> first|cases hf|skip)
 ·cases hx.int;cases hy.int;exact .inl ⟨_,_,rfl,rfl,k _ H (.refl H) (.of (.int _))⟩
 ·cases hx.str;cases hy.str;unfold cS at hf;dsimp only at hf;split at hf
  ·rename_i hz;cases hf;exact .inr (.inr (.inr ⟨_,_,rfl,rfl,hz,k _ H (.refl H) (.of (.str _))⟩))
  ·cases hf
 ·unfold cS at hf;dsimp only at hf;split at hf
  ·rename_i ds es hz;cases hf;obtain⟨a,vs,rfl,ha,qa⟩:=hx.tuple;obtain⟨b,us,rfl,hb,qb⟩:=hy.tuple;by_cases hn:ds=[]
   ·subst hn;cases qa;exact .inr (.inr (.inl ⟨a,b,us,rfl,rfl,ha,hb,k _ H (.refl H) (.of (.tuple hb qb))⟩))
   ·refine .inr (.inl ⟨a,b,vs,us,rfl,rfl,ha,hb,fun z=>?_,by rw[<-qa.length,<-qb.length];exact hz,fun z=>?_,fun z p hp=>?_⟩)
    ·subst z;cases qa;exact hn rfl
    ·subst z;cases qb;rw[aO] at k;exact k _ H (.refl H) (.of (.tuple ha qa))
    ·have s2:cw H (cX H p (.tup (vs++us))):=fun b o e=>by rw[bZ (bV e hp)];exact e
     exact k _ _ s2 (.of (.tuple (.inl (.inl cg)) ((qa.append qb).same s2)))
  ·cases hf
theorem iD {α:Type}{op:D->D->Option α}(h1:∀x y,(∀i,x≠.int i)->op x y=none)(h2:∀i y,(∀j,y≠.int j)->op (.int i) y=none){x y:D}{r:α}(h:op x y=some r):∃i j,x=.int i/\y=.int j:=by
 by_cases e1:∃i,x=.int i
 ·obtain⟨i,rfl⟩:=e1;by_cases e2:∃j,y=.int j
  ·obtain⟨j,rfl⟩:=e2;exact⟨i,j,rfl,rfl⟩
  ·rw[h2 i y fun j z=>e2 ⟨j,z⟩] at h;cases h
 ·rw[h1 x y fun i z=>e1 ⟨i,z⟩] at h;cases h
theorem nu:OD X (L2.rI0 fun i j=>.int (i-j)) qx:=by
 intro x y vx vy H O r Q ne hx hy hf k;obtain⟨_,_,rfl,rfl⟩:=iD (fun x y n=>by cases x <;> first|rfl|exact absurd rfl (n _)) (fun i y n=>by cases y <;> first|rfl|exact absurd rfl (n _)) hf;cases hx.int;cases hy.int;cases hf;exact⟨_,_,rfl,rfl,k _ H (.refl H) (.of (.int _))⟩
theorem tD {i j:Int}(h:nR i j=true):L2.CMul i j:=by
 unfold nR at h;simpa [L2.CMul] using h
theorem iU:OD X (L2.rI L2.CMul fun i j=>.int (i*j)) jg:=by
 intro x y vx vy H O r Q ne hx hy hf k;obtain⟨_,_,rfl,rfl⟩:=iD (fun x y n=>by cases x <;> first|rfl|exact absurd rfl (n _)) (fun i y n=>by cases y <;> first|rfl|exact absurd rfl (n _)) hf;cases hx.int;cases hy.int;unfold jg at hf;dsimp only at hf;split at hf
 ·rename_i hc;cases hf;exact⟨_,_,rfl,rfl,tD hc,k _ H (.refl H) (.of (.int _))⟩
 ·cases hf
theorem jM:OD X (L2.rI L2.CDiv fun i j=>.int (i/j)) ia:=by
 intro x y vx vy H O r Q ne hx hy hf k;obtain⟨_,_,rfl,rfl⟩:=iD (fun x y n=>by cases x <;> first|rfl|exact absurd rfl (n _)) (fun i y n=>by cases y <;> first|rfl|exact absurd rfl (n _)) hf;cases hx.int;cases hy.int;unfold ia at hf;dsimp only at hf;split at hf
 ·rename_i hc;cases hf;exact⟨_,_,rfl,rfl,hc,k _ H (.refl H) (.of (.int _))⟩
 ·cases hf
theorem dU:OD X (L2.rI (fun _ j=>0<j) fun i j=>.int (i%j)) dW:=by
 intro x y vx vy H O r Q ne hx hy hf k;obtain⟨_,_,rfl,rfl⟩:=iD (fun x y n=>by cases x <;> first|rfl|exact absurd rfl (n _)) (fun i y n=>by cases y <;> first|rfl|exact absurd rfl (n _)) hf;cases hx.int;cases hy.int;unfold dW at hf;dsimp only at hf;split at hf
 ·rename_i hc;cases hf;exact⟨_,_,rfl,rfl,hc,k _ H (.refl H) (.of (.int _))⟩
 ·cases hf
theorem qw:OD X (L2.rI L2.CPow fun i j=>.int (i ^ j.toNat)) lG:=by
 intro x y vx vy H O r Q ne hx hy hf k;obtain⟨_,_,rfl,rfl⟩:=iD (fun x y n=>by cases x <;> first|rfl|exact absurd rfl (n _)) (fun i y n=>by cases y <;> first|rfl|exact absurd rfl (n _)) hf;cases hx.int;cases hy.int;unfold lG at hf;dsimp only at hf;split at hf
 ·rename_i hc;cases hf;exact⟨_,_,rfl,rfl,hc,k _ H (.refl H) (.of (.int _))⟩
 ·cases hf
theorem mY:UD X (L2.rU fun i=>.int (-i)) ny:=by
 intro x vx H O r Q ne hx hf k;cases x <;> first|cases hf|skip
 cases hx.int;exact⟨_,rfl,k _ H (.refl H) (.of (.int _))⟩
theorem nQ {c:C2}{p:Int->Int->Bool}(hc:∀x y k,c x y=some k->∃i j,x=.int i/\y=.int j/\k=p i j):CD X (L2.rI0 fun i j=>.bl (p i j)) c:=by
 intro x y vx vy H O k Q hx hy hf q;obtain⟨i,j,rfl,rfl,rfl⟩:=hc _ _ _ hf;cases hx.int;cases hy.int;exact⟨_,_,rfl,rfl,q⟩
theorem kQ:CD X (L2.rI0 fun i j=>.bl (decide (i<j))) nS:=nQ fun x y k h=>by
 obtain⟨_,_,rfl,rfl⟩:=iD (fun x y n=>by cases x <;> first|rfl|exact absurd rfl (n _)) (fun i y n=>by cases y <;> first|rfl|exact absurd rfl (n _)) h;cases h;exact⟨_,_,rfl,rfl,rfl⟩
theorem kR:CD X (L2.rI0 fun i j=>.bl (decide (i<=j))) j8:=nQ fun x y k h=>by
 obtain⟨_,_,rfl,rfl⟩:=iD (fun x y n=>by cases x <;> first|rfl|exact absurd rfl (n _)) (fun i y n=>by cases y <;> first|rfl|exact absurd rfl (n _)) h;cases h;exact⟨_,_,rfl,rfl,rfl⟩
theorem kS:CD X (L2.rI0 fun i j=>.bl (decide (j<i))) lY:=nQ fun x y k h=>by
 obtain⟨_,_,rfl,rfl⟩:=iD (fun x y n=>by cases x <;> first|rfl|exact absurd rfl (n _)) (fun i y n=>by cases y <;> first|rfl|exact absurd rfl (n _)) h;cases h;exact⟨_,_,rfl,rfl,rfl⟩
end
end DL
namespace DL
open PySem PySem.Spec PySem.SeqAt
open L2 (V Hp St HO VK TE TT TA TS TI TG Cx Inv PE PT PA PS PSs PI PG dr dq cw cX cg bZ bV cA cI EP TP AP SP c7 It)
section
variable {X:Cx}{pins:List (Addr×Obj)}{σ:St}{H:Hp}{s:Shared}{O:List Addr}
mutual
theorem R.reads (I:Inv X pins σ H s){d:D}{v:V}:R X.K H O d v->d.canLay0=true->∀u,cI v u->∃as,Reads s.heap u d as
 |.none,_,u,r=>by cases (show u=Value.none from r);exact⟨_,.none⟩
 |.bool b,_,u,r=>by cases (show u=Value.bool b from r);exact⟨_,.bool b⟩
 |.int i,_,u,r=>by obtain⟨t,rfl⟩:=(show ∃t,u=Value.int i t from r);exact⟨_,.int i t⟩
 |.str x,_,u,r=>by obtain⟨t,rfl⟩:=(show ∃t,u=Value.str x t from r);exact⟨_,.str x t⟩
 | .tuple (a:=a) ha hs,hl,u,r=>by
  cases (show u=Value.ref a from r);obtain⟨its,rv,⟨o,e,c,n,hd⟩,_⟩:=I.tuple ha;obtain⟨as,q⟩:=Rs.reads I hs (by simpa [PyData.canLay0] using hl) its rv;exact⟨_,.tuple e c hd (by simpa using q)⟩
 |.dict _ _ _,hl,_,_=>by simp[PyData.canLay0] at hl
 | .list (a:=a) ha hs,hl,u,r=>by
  cases (show u=Value.ref a from r);obtain⟨its,rv,⟨o,n,e,c,_,hd⟩,_⟩:=I.list ha.sq;obtain⟨as,q⟩:=Rs.reads I hs (by simpa [PyData.canLay0] using hl) its rv;exact⟨_,.list e c hd (by simpa using q)⟩
theorem Rs.reads (I:Inv X pins σ H s){ds:List D}{vs:List V}:Rs X.K H O ds vs->PyData.canLayAll0 ds=true->∀us,cA vs us->∃as,ReadsAll s.heap us ds as
 |.nil,_,us,r=>by cases r;exact⟨_,.nil⟩
 | .cons h hs,hl,us,r=>by
  cases r with
  |cons r rs =>
   simp only[PyData.canLayAll0,Bool.and_eq_true] at hl;obtain⟨as,q⟩:=R.reads I h hl.1 _ r;obtain⟨bs,qs⟩:=Rs.reads I hs hl.2 _ rs;exact⟨_,.cons q qs⟩
end
theorem jl {d:D}(h:shaped d=true):d.canLay0=true:=by
 unfold shaped at h;rw[Bool.and_eq_true] at h;exact h.1
theorem BR.reads (I:Inv X pins σ H s){d:D}{v:V}(h:BR X.K H O d v)(hl:d.canLay0=true)(u:Value)(r:cI v u):∃as,Reads s.heap u d as:=by
 rcases h with h|⟨a,ds,vs,rfl,rfl,e,q⟩|⟨a,ds,vs,rfl,_⟩
 ·exact h.reads I hl u r
 ·cases (show u=Value.ref a from r);obtain⟨its,rv,⟨o,n,e',c,_,hd⟩,_⟩:=I.list (show dq X.K H a vs from .inl (.inl e));obtain⟨as,q'⟩:=q.reads I (by simpa [PyData.canLay0] using hl) its rv;exact⟨_,.list e' c hd (by simpa using q')⟩
 ·simp[PyData.canLay0] at hl
end
noncomputable def vI (K:Fg):L2.R2:=fun x y H Q=>∃(O:List Addr) (dx dy:D),BR K H O dx x/\BR K H O dy y/\shaped dx=true/\shaped dy=true/\noMix dx dy=true/\Q (.bl (same dx dy)) H
noncomputable def vD (K:Fg):L2.R2:=fun x y H Q=>∃(O:List Addr) (dx dy:D),BR K H O dx x/\BR K H O dy y/\shaped dx=true/\shaped dy=true/\noMix dx dy=true/\Q (.bl (!same dx dy)) H
section
variable {X:Cx}{e a b c:Expr}{es:List Expr}{f g:ED}{fb gb:BD}{t u:TD}{pos:Pos}
theorem eX (hu:X.A.units+64<cLine):L2.OpR X (compareOp .Eq) (vI X.K):=by
 intro pins s σ H x y v u Q I rx ry h;obtain⟨O,dx,dy,hx,hy,sx,sy,nm,q⟩:=h;obtain⟨as,ra⟩:=hx.reads I (jl sx) v rx;obtain⟨bs,rb⟩:=hy.reads I (jl sy) u ry;exact PyProof.Rows.eq_dataH_same ra rb sx sy hu nm ⟨.bl _,H,I,rfl,q⟩
theorem hV (hu:X.A.units+64<cLine):L2.OpR X (compareOp .NotEq) (vD X.K):=by
 intro pins s σ H x y v u Q I rx ry h;obtain⟨O,dx,dy,hx,hy,sx,sy,nm,q⟩:=h;obtain⟨as,ra⟩:=hx.reads I (jl sx) v rx;obtain⟨bs,rb⟩:=hy.reads I (jl sy) u ry;exact PyProof.Rows.ne_dataH_same ra rb sx sy hu nm ⟨.bl _,H,I,rfl,q⟩
theorem gF:CD X (vI X.K) g4:=by
 intro x y vx vy H O k Q hx hy hf q;unfold g4 at hf;split at hf
 ·rename_i h;cases hf;rw[Bool.and_eq_true,Bool.and_eq_true] at h;exact⟨O,x,y,hx,hy,h.1.1,h.1.2,h.2,q⟩
 ·cases hf
theorem j1:CD X (vD X.K) i4:=by
 intro x y vx vy H O k Q hx hy hf q;unfold i4 at hf;split at hf
 ·rename_i h;cases hf;rw[Bool.and_eq_true,Bool.and_eq_true] at h;exact⟨O,x,y,hx,hy,h.1.1,h.1.2,h.2,q⟩
 ·cases hf
theorem Rs.at {K:Fg}{H:Hp}{O:List Addr}{ds:List D}{vs:List V}{i:Int}{d:D}(q:Rs K H O ds vs)(h:mW ds i=some d):∃v,L2.atI vs i=some v/\R K H O d v:=by
 unfold mW at h;cases hj:qR ds.length i with
 |none=>rw[hj] at h;cases h
 |some j =>
  rw[hj,aa] at h;obtain⟨v,e,r⟩:=q.get h;refine⟨v,?_,r⟩;unfold L2.atI;have:L2.ixN vs.length i=some j:=by rw[<-q.length];exact hj
  rw[this,aa];exact e
theorem vM:OD X (L2.rIx X.K) eh:=by
 intro x y vx vy H O r Q ne hx hy hf k;cases x <;> first|(cases hf;done)|(cases y <;> first|cases hf|skip)
 ·obtain⟨a,vs,rfl,ha,qa⟩:=hx.list;cases hy.int;rename_i ds i;unfold eh at hf;dsimp only at hf;cases hd:mW ds i with
  |none=>rw[hd] at hf;cases hf
  |some d =>
   rw[hd] at hf;cases hf;obtain⟨v,e,rv⟩:=qa.at hd;exact .inl ⟨a,vs,i,v,rfl,rfl,ha,e,k _ H (.refl H) (.of rv)⟩
 ·obtain⟨a,vs,rfl,ha,qa⟩:=hx.tuple;cases hy.int;rename_i ds i;unfold eh at hf;dsimp only at hf;cases hd:mW ds i with
  |none=>rw[hd] at hf;cases hf
  |some d =>
   rw[hd] at hf;cases hf;obtain⟨v,e,rv⟩:=qa.at hd;exact .inr (.inl ⟨a,vs,i,v,rfl,rfl,ha,e,k _ H (.refl H) (.of rv)⟩)
theorem eI (ha:DB X a fb)(hb:DB X b gb)(hs:L2.PlainIx b:=by exact fun _ _=>rfl):DE X (.Subscript a b pos) (d2 eh fb gb):=(L2.pe_ix L2.ix_seq ha hb hs).imp fun _ _ _ h=>lV vM h
theorem kT {r:List V->Hp->VK->Prop}{op:D->Option Vl}(hd:UD X (fun x H Q=>r [x] H Q) op){σ:St}{H:Hp}{Q:VK}(h:uE X.K (d1 op fb) σ H Q):L2.tCB r (L2.tCons (uB X.K fb) L2.tNil) σ H Q:=rD hd h
theorem pT {r:List V->Hp->VK->Prop}{op:O2}(hd:OD X (fun x y H Q=>r [x,y] H Q) op){σ:St}{H:Hp}{Q:VK}(h:uE X.K (d2 op fb gb) σ H Q):L2.tCB r (L2.tCons (uB X.K fb) (L2.tCons (uB X.K gb) L2.tNil)) σ H Q:=lV hd h
variable {x:Str}{p:Pos}{bid T:String}{r:List V->Hp->VK->Prop}
theorem jZ {op:D->Option Vl}(hc:L2.CallR X (.builtin bid) r)(hd:UD X (fun x H Q=>r [x] H Q) op)(hm:X.mg x=none)(hv:bootBuiltins x=some (.builtin bid))(ha:DB X a fb)(hg:L2.Gl X x:=by rfl)(hn:x ≠ "__name__" := by decide)(hdb:(x==("__debug__" : Str))=false:=by decide)
  (he:starEach [a] X.env=(false,eval a X.env)::starEach [] X.env:=by rfl) (hpl:(backTo pos (starEach [] X.env)).any (·.1)=false:=by rfl):DE X (.Call (.Name x p) [a] [] pos) (d1 op fb) :=
 (L2.pe_callB hc hg hm hv (L2.pa_cons ha L2.pa_nil he) hn hdb he hpl).imp fun _ _ _ h=>kT hd h
theorem jY {op:D->Option Vl}(hc:L2.CallR X (.type T) r)(hd:UD X (fun x H Q=>r [x] H Q) op)(hm:X.mg x=none)(hv:bootBuiltins x=some (.type T))(ha:DB X a fb)(hg:L2.Gl X x:=by rfl)(hn:x ≠ "__name__" := by decide)(hdb:(x==("__debug__" : Str))=false:=by decide)
  (he:starEach [a] X.env=(false,eval a X.env)::starEach [] X.env:=by rfl) (hpl:(backTo pos (starEach [] X.env)).any (·.1)=false:=by rfl):DE X (.Call (.Name x p) [a] [] pos) (d1 op fb) :=
 (L2.pe_callTy hc hg hm hv (L2.pa_cons ha L2.pa_nil he) hn hdb he hpl).imp fun _ _ _ h=>kT hd h
theorem rB {op:O2}(hc:L2.CallR X (.builtin bid) r)(hd:OD X (fun x y H Q=>r [x,y] H Q) op)(hm:X.mg x=none)(hv:bootBuiltins x=some (.builtin bid))(ha:DB X a fb)(hb:DB X b gb)(hg:L2.Gl X x:=by rfl)(hn:x ≠ "__name__" := by decide)(hdb:(x==("__debug__" : Str))=false:=by decide)
  (he:starEach [a,b] X.env=(false,eval a X.env)::starEach [b] X.env:=by rfl) (he2:starEach [b] X.env=(false,eval b X.env)::starEach [] X.env:=by rfl) (hpl:(backTo pos (starEach [b] X.env)).any (·.1)=false:=by rfl):DE X (.Call (.Name x p) [a,b] [] pos) (d2 op fb gb) :=
 (L2.pe_callB hc hg hm hv (L2.pa_cons ha (L2.pa_cons hb L2.pa_nil he2) he) hn hdb he hpl).imp fun _ _ _ h=>pT hd h
theorem tU:UD X (fun x H Q=>(fun xs H Q=>∃p ys,xs=[.ref p]/\(dq X.K H p ys\/dr X.K H p ys)/\Q (.int (ys.length:Nat)) H:List V->Hp->VK->Prop) [x] H Q) eY:=by
 intro x vx H O r Q ne hx hf k;cases x <;> first|cases hf|skip
 ·obtain⟨a,vs,rfl,ha,qa⟩:=hx.list;rw[qa.length] at k;exact⟨a,vs,rfl,.inl ha,k _ H (.refl H) (.of (.int _))⟩
 ·obtain⟨a,vs,rfl,ha,qa⟩:=hx.tuple;rw[qa.length] at k;exact⟨a,vs,rfl,.inr ha,k _ H (.refl H) (.of (.int _))⟩
theorem l7:UD X (fun x H Q=>(fun xs H Q=>∃p ys,xs=[.ref p]/\((dq X.K H p ys/\∀l,H l=none->Q (.ref l) (cX H l (.tup ys)))\/(dr X.K H p ys/\Q (.ref p) H)):List V->Hp->VK->Prop) [x] H Q) fH:=by
 intro x vx H O r Q ne hx hf k;cases x <;> first|cases hf|skip
 ·obtain⟨a,vs,rfl,ha,qa⟩:=hx.list;refine⟨a,vs,rfl,.inl ⟨ha,fun p hp=>?_⟩⟩;have s2:cw H (cX H p (.tup vs)):=fun b o e=>by rw[bZ (bV e hp)];exact e
  exact k _ _ s2 (.of (.tuple (.inl (.inl cg)) (qa.same s2)))
 ·obtain⟨a,vs,rfl,ha,qa⟩:=hx.tuple;exact⟨a,vs,rfl,.inr ⟨ha,k _ H (.refl H) (.of (.tuple ha qa))⟩⟩
theorem kW {K:Fg}{H:Hp}{O:List Addr}:∀{ds:List D}{vs:List V}{bs:List Bool},Rs K H O ds vs->eL ds=some bs->vs=bs.map V.bl:=by
 intro ds;induction ds with
 |nil=>intro vs bs q h;cases q;cases h;rfl
 |cons d ds ih =>
  intro vs bs q h;cases q with
  |cons q qs =>
    unfold eL at h;cases hb:pZ d with
    |none=>rw[hb] at h;cases h
    |some b =>
     rw[hb,aa] at h;cases hr:eL ds with
     |none=>rw[hr] at h;cases h
     |some cs =>
      rw[hr] at h;cases h;rw[mU hb] at q;cases q;rw[ih qs hr];rfl
theorem tW:UD X (fun x H Q=>(fun xs H Q=>∃(a:Addr) (ys:List V) (bs:List Bool),xs=[.ref a]/\(dq X.K H a ys\/dr X.K H a ys)/\ys=bs.map V.bl/\Q (.bl (bs.all id)) H:List V->Hp->VK->Prop) [x] H Q) lJ:=by
 intro x vx H O r Q ne hx hf k;cases x <;> first|cases hf|skip
 ·obtain⟨a,vs,rfl,ha,qa⟩:=hx.list;rename_i ds;unfold lJ at hf;dsimp only at hf;cases hb:eL ds with
  |none=>rw[hb] at hf;cases hf
  |some bs =>
   rw[hb] at hf;cases hf;exact⟨a,vs,bs,rfl,.inl ha,kW qa hb,k _ H (.refl H) (.of (.bool _))⟩
 ·obtain⟨a,vs,rfl,ha,qa⟩:=hx.tuple;rename_i ds;unfold lJ at hf;dsimp only at hf;cases hb:eL ds with
  |none=>rw[hb] at hf;cases hf
  |some bs =>
   rw[hb] at hf;cases hf;exact⟨a,vs,bs,rfl,.inr ha,kW qa hb,k _ H (.refl H) (.of (.bool _))⟩
theorem uf:OD X (fun x y H Q=>(fun xs H Q=>∃i j,xs=[.int i,.int j]/\Q (.int (if j>i then j else i)) H:List V->Hp->VK->Prop) [x,y] H Q) qA:=by
 intro x y vx vy H O r Q ne hx hy hf k;obtain⟨_,_,rfl,rfl⟩:=iD (fun x y n=>by cases x <;> first|rfl|exact absurd rfl (n _)) (fun i y n=>by cases y <;> first|rfl|exact absurd rfl (n _)) hf;cases hf;cases hx.int;cases hy.int;exact⟨_,_,rfl,k _ H (.refl H) (.of (.int _))⟩
theorem ij (hm:X.mg "len" = none)(ha:DB X a fb)(hg:L2.Gl X "len" := by rfl)(he:starEach [a] X.env=(false,eval a X.env)::starEach [] X.env:=by rfl):DE X (.Call (.Name "len" p) [a] [] pos) (d1 eY fb):=jZ L2.call_len_seq tU hm PySem.boot_len ha hg (by decide) (by decide) he
theorem mK (hm:X.mg "tuple" = none)(ha:DB X a fb)(hg:L2.Gl X "tuple" := by rfl)(he:starEach [a] X.env=(false,eval a X.env)::starEach [] X.env:=by rfl):DE X (.Call (.Name "tuple" p) [a] [] pos) (d1 fH fb):=jY L2.call_tuple_of l7 hm PyProof.Rows.boot_tuple ha hg (by decide) (by decide) he
theorem nN (hc:X.calm=true)(hm:X.mg "all" = none)(ha:DB X a fb)(hg:L2.Gl X "all" := by rfl)(he:starEach [a] X.env=(false,eval a X.env)::starEach [] X.env:=by rfl):DE X (.Call (.Name "all" p) [a] [] pos) (d1 lJ fb):=jZ (L2.call_allB hc) tW hm PyProof.Rows.boot_all ha hg (by decide) (by decide) he
theorem uM (hc:X.calm=true)(hm:X.mg "max" = none)(ha:DB X a fb)(hb:DB X b gb)(hg:L2.Gl X "max" := by rfl)(he:starEach [a,b] X.env=(false,eval a X.env)::starEach [b] X.env:=by rfl)(he2:starEach [b] X.env=(false,eval b X.env)::starEach [] X.env:=by rfl)(hpl:(backTo pos (starEach [b] X.env)).any (·.1)=false:=by rfl) :
  DE X (.Call (.Name "max" p) [a,b] [] pos) (d2 qA fb gb):=rB (L2.call_max2 hc) uf hm PyProof.Rows.boot_max ha hb hg (by decide) (by decide) he he2 hpl
noncomputable def rO:List String:=["bool", "int", "str", "tuple", "list"]
noncomputable def pz (t T:String):Bool:=T==t||(t == "bool" && T == "int")
theorem jQ (K:Fg):∀t∈rO,∀T∈rO,PySem.W.kitOne K (.type t) (.type T)=some (pz t T):=by
 intro t ht T hT;simp only[rO,ay,List.not_mem_nil,or_false] at ht hT;rcases ht with rfl|rfl|rfl|rfl|rfl <;> rcases hT with rfl|rfl|rfl|rfl|rfl <;> kernel_rfl
theorem tV {T:String}(hT:T∈rO):UD X (fun x H Q=>∃t b,L2.KdV X.K H x t/\PySem.W.kitOne X.K (.type t) (.type T)=some b/\Q (.bl b) H) (lI T):=by
 intro x vx H O r Q ne hx hf k;cases x <;> first|cases hf|skip
 ·cases hx.bool;refine⟨"bool", _,rfl,jQ _ _ (by simp[rO]) _ hT,?_⟩;have:=k _ H (.refl H) (.of (.bool _));simp only[rQ] at this;simpa [pz] using this
 ·cases hx.int;refine⟨"int", _,rfl,jQ _ _ (by simp[rO]) _ hT,?_⟩;have:=k _ H (.refl H) (.of (.bool _));simp only[rQ] at this;simpa [pz] using this
 ·cases hx.str;refine⟨"str", _,rfl,jQ _ _ (by simp[rO]) _ hT,?_⟩;have:=k _ H (.refl H) (.of (.bool _));simp only[rQ] at this;simpa [pz] using this
 ·obtain⟨a,vs,rfl,ha,qa⟩:=hx.list;refine⟨"list", _,.inr ⟨rfl,vs,ha⟩,jQ _ _ (by simp[rO]) _ hT,?_⟩;have:=k _ H (.refl H) (.of (.bool _));simp only[rQ] at this;simpa [pz] using this
 ·obtain⟨a,vs,rfl,ha,qa⟩:=hx.tuple;refine⟨"tuple", _,.inl ⟨rfl,vs,ha⟩,jQ _ _ (by simp[rO]) _ hT,?_⟩;have:=k _ H (.refl H) (.of (.bool _));simp only[rQ] at this;simpa [pz] using this
theorem iY {y:Str}{T:String}{p2:Pos}(hm:X.mg "isinstance" = none)(hmT:X.mg y=none)(hvT:bootBuiltins y=some (.type T))(ha:DB X a fb)(hT:T∈rO:=by decide)(hg:L2.Gl X "isinstance" := by rfl)(hgT:L2.Gl X y:=by rfl)(hnT:y ≠ "__name__" := by decide)(hdT:(y==("__debug__" : Str))=false:=by decide)
  (he:starEach [a,.Name y p2] X.env=(false,eval a X.env)::starEach [.Name y p2] X.env:=by rfl) (he2:starEach [.Name y p2] X.env=(false,eval (.Name y p2) X.env)::starEach [] X.env:=by rfl) (hpl:(backTo pos (starEach [.Name y p2] X.env)).any (·.1)=false:=by rfl) :
  DE X (.Call (.Name "isinstance" p) [a,.Name y p2] [] pos) (d1 (lI T) fb) :=
 (L2.pe_callB L2.call_isa hg hm PyProof.Rows.boot_isinstance (L2.pa_cons ha (L2.pa_cons (L2.pe_bltn (v:=.ty T) hgT hmT hvT rfl hnT hdT) L2.pa_nil he2) he) (by decide) (by decide) he hpl).imp fun σ H Q h=>by
  obtain⟨ρ,O,M,lad,res,hE,hf,k⟩:=h;unfold d1 at hf;cases hx:fb ρ with
  |none=>rw[hx] at hf;cases hf
  |some x =>
   rw[hx,aa] at hf;refine⟨ρ,O,M,lad,x,hE,hx,fun vx H1 s1 q1=>?_⟩;obtain⟨t,b,kd,e,q⟩:=tV hT x vx H1 O res Q (hE.same s1).ne q1 hf fun v H' s q=>k v H' (s1.trans s) (q.back s1);exact⟨vx,t,T,b,rfl,kd,e,q⟩
end
end DL
namespace DL
open PySem PySem.Spec PySem.SeqAt
open L2 (V Hp St HO VK TE TT TA TS TI TG Cx Inv PE PT PA PS PSs PI PG dr dq cw cX cg bZ bV cA cI EP TP AP SP c7 It)
def nW (n:Nat)(g:GD):Prop:=∀d ρ ρ1,g d ρ=some ρ1->ρ1.length=ρ.length/\∀i:Nat,n<=i->ρ1[i]?=ρ[i]?
theorem eW {n i:Nat}(h:i<n:=by decide):nW n (gN i):=fun d ρ ρ1 e=>by
 cases e;exact⟨by rw[aV],fun j hj=>by rw[af ⋯]⟩
def oY (n:Nat)(gs:List GD):Prop:=∀ds ρ ρ1,jT gs ds ρ=some ρ1->ρ1.length=ρ.length/\∀i:Nat,n<=i->ρ1[i]?=ρ[i]?
theorem oh {n:Nat}:oY n []:=fun ds ρ ρ1 e=>by
 cases ds with
 |nil=>cases e;exact⟨rfl,fun _ _=>rfl⟩
 |cons _ _=>cases e
theorem iy {n:Nat}{g:GD}{gs:List GD}(h:nW n g)(hs:oY n gs):oY n (g::gs):=fun ds ρ ρ1 e=>by
 cases ds with
 |nil=>cases e
 |cons d ds =>
  unfold jT at e;cases hx:g d ρ with
  |none=>rw[hx] at e;cases e
  |some ρ2 =>
   rw[hx,aa] at e;obtain⟨l1,q1⟩:=h _ _ _ hx;obtain⟨l2,q2⟩:=hs _ _ _ e;exact⟨l2.trans l1,fun i hi=>(q2 i hi).trans (q1 i hi)⟩
theorem og {n:Nat}{gs:List GD}(hs:oY n gs):nW n (gT gs):=fun d ρ ρ1 e=>by
 unfold gT at e;split at e
 ·exact hs _ _ _ e
 ·cases e
theorem pQ {n:Nat}{ix:List Nat}{ρ:Sl}{i:Nat}(h:i<n):(dg n ix ρ)[i]?=some none:=by
 unfold dg;rw[ba (by rw[aJ];exact h),bA,if_pos h]
theorem cZ {n:Nat}{ix:List Nat}{ρ:Sl}{i:Nat}{x:Vl}(h:(dg n ix ρ)[i]?=some (some x)):n<=i/\∃j,ix[i-n]?=some j/\ρ[j]?=some (some x):=by
 by_cases hi:i<n
 ·rw[pQ hi] at h;cases h
 ·refine⟨by omega,?_⟩;unfold dg at h;rw[aT (by rw[aJ];omega),aJ,aH] at h;cases ej:ix[i-n]? with
  |none=>rw[ej] at h;cases h
  |some j =>
   rw[ej,ae] at h;refine⟨j,rfl,?_⟩;cases er:ρ[j]? with
   |none=>rw[er] at h;cases h
   |some y=>rw[er] at h;exact congrArg some (aS.inj h)
theorem dQ {n:Nat}{ix:List Nat}{σ:St}{i j:Nat}{v:V}(hi:n<=i)(hj:ix[i-n]?=some j)(h:σ[j]?=some (some v)):(L2.capt n ix σ)[i]?=some (some v):=by
 unfold L2.capt;rw[aT (by rw[aJ];omega),aJ,aH,hj,ae,h];rfl
theorem ER.capt {K:Fg}{H:Hp}{O M:List Addr}{lad:Nat->Addr}{ρ:Sl}{σ:St}(n:Nat){ix:List Nat}(hix:ix.Nodup)(h:ER K H O M lad ρ σ):ER K H O M (fun i=>lad (ix.getD (i-n) 0)) (dg n ix ρ) (L2.capt n ix σ) where
 sh:=fun i d e=>by
  obtain⟨hi,j,hj,hr⟩:=cZ e;obtain⟨v,e1,q⟩:=h.sh j d hr;exact⟨v,dQ hi hj e1,q⟩
 ow:=fun i d e=>by
  obtain⟨hi,j,hj,hr⟩:=cZ e;obtain⟨a,vs,e2,r⟩:=h.ow j d hr;exact⟨a,vs,dQ hi hj e2,r⟩
 le:=fun i d e=>by
  obtain⟨hi,j,hj,hr⟩:=cZ e;obtain⟨e2,r⟩:=h.le j d hr;have z:ix.getD (i-n) 0=j:=by rw[a9,hj];rfl
  rw[z];exact⟨dQ hi hj e2,r⟩
 ap:=fun i k d e a e1 e2 e3 e4=>by
  obtain⟨hi,j,hj,hr⟩:=cZ e1;obtain⟨hk,l,hl,hs⟩:=cZ e2;obtain⟨a1,_,f1,_⟩:=h.ow j d hr;obtain⟨a2,_,f2,_⟩:=h.ow l e hs;have g1:=dQ hi hj f1;have g2:=dQ hk hl f2;rw[e3] at g1;rw[e4] at g2;cases g1;cases g2;have:=h.ap j l d e a hr hs f1 f2;subst this;have:i-n=k-n:=by
   obtain⟨h1,z1⟩:=ax.mp hj;obtain⟨h2,z2⟩:=ax.mp hl;exact (List.getElem_inj hix).mp (z1.trans z2.symm)
  omega
 tr:=h.tr
 sub:=h.sub
 len:=by
  unfold dg L2.capt;rw[au,au,aJ,aJ,az,az]
 dp:=by
  have inj:∀{i k j:Nat},n<=i->n<=k->ix[i-n]?=some j->ix[k-n]?=some j->i=k:=fun {i k j} hi hk h1 h2=>by
   obtain⟨l1,z1⟩:=ax.mp h1;obtain⟨l2,z2⟩:=ax.mp h2;have:i-n=k-n:=(List.getElem_inj hix).mp (z1.trans z2.symm);omega
  refine⟨fun i ds e=>?_,fun i k ds es e1 e2=>?_⟩
  ·obtain⟨hi,j,hj,hr⟩:=cZ e;rcases h.dp.pk j ds hr with ⟨ds',rfl,a,bs,h1,h2,h3,h4,h5,h6⟩|⟨kvs,rfl,a,es',h1,h2,h3,h5,h6⟩
   ·refine .inl ⟨ds',rfl,a,bs,dQ hi hj h1,h2,h3,h4,h5,fun k es c z1 z2=>?_⟩;obtain⟨hk,l,hl,hs⟩:=cZ z1;obtain⟨a2,_,f2,_⟩:=h.ow l es hs;have g2:=dQ hk hl f2;rw[z2] at g2;cases g2;exact h6 l es c hs f2
   ·refine .inr ⟨kvs,rfl,a,es',dQ hi hj h1,h2,h3,h5,fun k es c z1 z2=>?_⟩;obtain⟨hk,l,hl,hs⟩:=cZ z1;obtain⟨a2,_,f2,_⟩:=h.ow l es hs;have g2:=dQ hk hl f2;rw[z2] at g2;cases g2;exact h6 l es c hs f2
  ·obtain⟨hi,j,hj,hr⟩:=cZ e1;obtain⟨hk,l,hl,hs⟩:=cZ e2;have:=h.dp.one j l ds es hr hs;subst this;exact inj hi hk hj hl
theorem ER.fewer {K:Fg}{H:Hp}{O M:List Addr}{lad:Nat->Addr}{ρ ρ':Sl}{σ:St}(h:ER K H O M lad ρ σ)(hl:ρ'.length=ρ.length)(le:∀(i:Nat) x,ρ'[i]?=some (some x)->ρ[i]?=some (some x)):ER K H O M lad ρ' σ :=
 ⟨fun i d e=>h.sh i d (le i _ e),fun i d e=>h.ow i d (le i _ e),fun i d e=>h.le i d (le i _ e),fun i j d e a e1 e2=>h.ap i j d e a (le i _ e1) (le j _ e2),h.tr,h.sub,hl.trans h.len,h.dp.go (.same (.refl _)) (fun i ds e=>⟨le i _ e,rfl⟩) (fun b hb _=>⟨hb,fun _ e=>e⟩) fun j es c e1 e2=>.inr ⟨j,es,le j _ e1,e2⟩⟩
theorem ER.more {K:Fg}{H H':Hp}{O O' M:List Addr}{lad:Nat->Addr}{ρ:Sl}{σ:St}(h:ER K H O M lad ρ σ)(x:gm [] O H O' H')(so:∀b∈O,b∈O')(tr:∀b∈O',∃u,H' b=some (oW u))(kl:∀b u,H b=some (oW u)->H' b=some (oW u)):ER K H' O' M lad ρ σ where
 sh:=fun i d e=>let ⟨v,e1,q⟩:=h.sh i d e;⟨v,e1,q.ext x⟩
 ow:=fun i d e=>let ⟨a,vs,e2,e3,e4,q⟩:=h.ow i d e;⟨a,vs,e2,kl _ (.inl _) e3,e4,q.ext x⟩
 le:=fun i d e=>let ⟨e2,vs,e3,e4,e5,q⟩:=h.le i d e;⟨e2,vs,kl _ (.inl _) e3,so _ e4,e5,q.ext x⟩
 ap:=h.ap
 tr:=tr
 sub:=fun b hb=>so b (h.sub b hb)
 len:=h.len
 dp:=h.dp.go x (fun _ _ e=>⟨e,rfl⟩) (fun b hb _=>⟨hb,fun vs e=>kl _ _ e⟩) fun j es c e1 e2=>.inr ⟨j,es,e1,e2⟩
theorem rE {K:Fg}{it:AD}{n:Nat}{ix:List Nat}{g:GD}{t:TD}{e:ED}(hix:ix.Nodup)(hg:nW n g){σ:St}{H:Hp}{Q:VK}(h:uE K (gD it n ix g t e) σ H Q) :
  L2.tComp (uI K it) n ix (uG K g) (uT K t) (uE K e) σ H Q:=by
 obtain⟨ρ,O,M,lad,res,hE,hf,k⟩:=h;unfold gD at hf;cases hd:it ρ with
 |none=>rw[hd] at hf;cases hf
 |some ds =>
  rw[hd,aa] at hf;split at hf
  ·rename_i hz;cases hc:fS g t e (dg n ix ρ) ds with
   |none=>rw[hc] at hf;cases hf
   |some xs =>
    rw[hc,ae] at hf;cases hf;refine⟨ρ,O,M,lad,ds,hE,hd,fun J H1 s1 iok=>fun L hL=>?_⟩;have hLO:L∉O:=fun z=>(hE.same s1).ne L z hL;refine⟨fun i m σ' H'=>m=ds.length-i/\i<=ds.length/\cw H1 H'/\∃ys vs,ys.length<=i/\H' L=some (.lst vs)/\Rs K H' (L::O) ys vs/\ER K H' (L::O) M (fun i=>lad (ix.getD (i-n) 0)) (dg n ix ρ) σ' ∧
     (fS g t e (dg n ix ρ) (ds.drop i)).map (fun r=>ys++r)=some xs,⟨ds.length,by simp,bf _,?_,[],[],bf _,cg,.nil,?_,by simp[hc]⟩,?_⟩
    ·exact fun b o e=>by rw[bZ (bV e hL)];exact e
    ·have E1:=(hE.same s1).capt n hix;have x:gm [] O H1 (L::O) (cX H1 L (.lst [])):=gm.fresh (fun b o e=>by rw[bZ (bV e hL)];exact e) hL;refine E1.more x (fun b hb=>ak _ hb) (fun b hb=>?_) fun b vs e=>by rw[bZ (bV e hL)];exact e
     rcases ay.mp hb with z|z
     ·subst z;exact⟨.inl [],cg⟩
     ·obtain⟨vs,e⟩:=E1.tr b z;exact⟨vs,by rw[bZ (bV e hL)];exact e⟩
    ·rintro i m σ' H' ⟨rfl,hi,sm,ys,vs,hl,hD,qs,E',hrest⟩;have x0:gm [] O H1 (L::O) H':=gm.fresh sm hL;have x:gm M O H1 (L::O) H':=⟨x0.tup,x0.frz,fun b xs _ e=>sm b _ e,fun b φ _ e=>sm b _ e,x0.new,hE.sub⟩;obtain⟨go,stop⟩:=iok _ _ x;by_cases hlt:i<ds.length
     ·have ed:ds.drop i=ds[i]::ds.drop (i+1):=bu hlt;rw[ed] at hrest;unfold fS at hrest;cases hg1:g ds[i] (dg n ix ρ) with
      |none=>rw[hg1] at hrest;cases hrest
      |some ρ1 =>
       rw[hg1,aa] at hrest;cases ht:t ρ1 with
       |none=>rw[ht] at hrest;cases hrest
       |some c =>
        rw[ht,aa] at hrest;obtain⟨g1,g2⟩:=go i ds[i] (by simp[hlt]);obtain⟨ln,keep⟩:=hg _ _ _ hg1;have back:∀(j:Nat) y,(dg n ix ρ)[j]?=some (some y)->ρ1[j]?=some (some y):=fun j y e=>by
         rw[keep j (cZ e).1];exact e
        refine .inr ⟨g1,fun σ2 H2=>cw H1 H2/\∃ys vs,ys.length<=i+1/\H2 L=some (.lst vs)/\Rs K H2 (L::O) ys vs/\ER K H2 (L::O) M (fun i=>lad (ix.getD (i-n) 0)) (dg n ix ρ) σ2/\(fS g t e (dg n ix ρ) (ds.drop (i+1))).map (fun r=>ys++r)=some xs,
         fun σ2 H2 ⟨s2,r⟩=>⟨ds.length-(i+1),by omega,rfl,hlt,s2,r⟩,fun v H2 hy=>?_⟩
        obtain⟨s2,q2⟩:=g2 v H2 hy;refine⟨_,_,M,_,ds[i],ρ1,E'.same s2,q2,hg1,fun σ3 H3 s3 E3=>⟨ρ1,_,M,_,c,E3,ht,fun H4 s4=>?_⟩⟩;have S4:cw H' H4:=(s2.trans s3).trans s4;have E4:ER K H4 (L::O) M (fun i=>lad (ix.getD (i-n) 0)) ρ1 σ3:=E3.same s4;cases c with
        |false =>
         dsimp only at hrest ⊢;rw[if_neg Bool.false_ne_true] at hrest ⊢;exact⟨sm.trans S4,ys,vs,by omega,S4 _ _ hD,qs.same S4,E4.fewer ln.symm back,hrest⟩
        |true =>
         dsimp only at hrest ⊢;rw[if_pos rfl] at hrest ⊢;cases he:e ρ1 with
         |none=>rw[he] at hrest;cases hrest
         |some r1 =>
          rw[he,aa] at hrest;cases hc2:fS g t e (dg n ix ρ) (ds.drop (i+1)) with
          |none=>rw[hc2] at hrest;cases hrest
          |some zs =>
           rw[hc2,ae,ae] at hrest;cases hrest;refine⟨ρ1,_,M,_,r1,E4,he,fun y H5 s5 q5=>?_⟩;have S5:cw H' H5:=S4.trans s5;have hl2:=qs.length;have qy:=q5.toR E4.ne;have s6:gm [L] (L::O) H5 (L::O) (cX H5 L (.lst (vs++[y]))):=by
            have hD5:=S5 _ _ hD;refine⟨fun b xs e=>?_,fun b o u e=>?_,fun b xs nb e=>?_,fun b φ nb e=>?_,fun b hb=>.inl hb,fun b hb=>(aI.mp hb)▸aB⟩
            ·rw[bZ (fun (z:b=L)=>by rw[z,hD5] at e;cases e)];exact e
            ·rw[bZ (fun (z:b=L)=>by rw[z,hD5] at e;cases e)];exact e
            ·rw[bZ (fun (z:b=L)=>nb (by rw[z];exact aI.mpr rfl))];exact e
            ·rw[bZ (fun (z:b=L)=>nb (by rw[z];exact aI.mpr rfl))];exact e
           have kl:∀b us,b≠L->H5 b=some (oW us)->(cX H5 L (.lst (vs++[y]))) b=some (oW us):=fun b us nb e=>by rw[bZ nb];exact e
           refine⟨vs,S5 _ _ hD,by omega,?_,ys++[r1.1],vs++[y],by rw[au,aU];omega,cg,((qs.same S5).append (.cons qy .nil)).ext s6,?_,by rw[ae,aQ];rfl⟩
           ·intro b o e;rw[bZ (bV e hL)];exact S5 _ _ (sm _ _ e)
           ·have E5:ER K H5 (L::O) M (fun i=>lad (ix.getD (i-n) 0)) (dg n ix ρ) σ3:=(E4.same s5).fewer ln.symm back;have nM:∀b∈M,b≠L:=fun b hb z=>hLO (z▸hE.sub b hb);have nL:∀(j:Nat) (d:List D),(dg n ix ρ)[j]?=some (some (qH d,true))->lad (ix.getD (j-n) 0)≠L:=fun j d e z=>by
             obtain⟨hi,j',hj,hr⟩:=cZ e;obtain⟨_,_,_,e4,_⟩:=hE.le j' d hr;have z':ix.getD (j-n) 0=j':=by rw[a9,hj];rfl
             rw[z'] at z;exact hLO (z▸e4)
            exact⟨fun j d e=>let ⟨w,e1,q⟩:=E5.sh j d e;⟨w,e1,q.ext s6⟩,
             fun j d e=>let ⟨a,us,e2,e3,e4,q⟩:=E5.ow j d e;⟨a,us,e2,kl _ (.inl _) (nM a e4) e3,e4,q.ext s6⟩,
             fun j d e=>let ⟨e2,us,e3,e4,e5,q⟩:=E5.le j d e;⟨e2,us,kl _ (.inl _) (nL j d e) e3,e4,e5,q.ext s6⟩,E5.ap,
             fun b hb=>by
              by_cases z:b=L
              ·subst z;exact⟨.inl _,cg⟩
              ·obtain⟨us,e⟩:=E5.tr b hb;exact⟨us,kl b us z e⟩,E5.sub,E5.len,
             E5.dp.go s6 (fun _ _ e=>⟨e,rfl⟩) (fun b hb _=>⟨hb,fun us e=>kl b us (nM b hb) e⟩) fun j es c e1 e2=>.inr ⟨j,es,e1,e2⟩⟩
     ·have ei:i=ds.length:=by omega
      subst ei;rw[bP] at hrest;unfold fS at hrest;rw[ae,aO] at hrest;have ee:=aS.inj hrest;subst ee;exact .inl ⟨stop,k _ H' (s1.trans sm) (.inr ⟨rfl,L,ys,vs,rfl,rfl,s1.free hL,hD,qs⟩)⟩
  ·cases hf
section
variable {X:Cx}{e a b c elt tg iter:Expr}{es ifs:List Expr}{f g:ED}{fb gb hb' kb:BD}{t u:TD}{pos:Pos}{it:AD}{gd:GD}{scope:Scope}{own caps:List Str}{ix:List Nat}
def wI (X:Cx)(ifs:List Expr)(t:TD):Prop:=L2.PTs X ifs (uT X.K t)
theorem iH:wI X [] gS:=L2.pts_nil.imp fun σ H Q zz=>by
 obtain ⟨ρ,O,M,lad,b,hE,hf,k⟩:=zz;cases hf;exact k H (.refl H)
theorem jv (S:L2.CompSc X.env.scope X.N scope own ix caps)(hc:X.calm=true)(hix:ix.Nodup)(hw:nW own.length gd)(hi:DI X tg iter it)
  (hg:∀s₀ H₀ ex pn,DG (L2.compCx X scope (own++caps) s₀ H₀ ex pn) tg gd) (ht:∀s₀ H₀ ex pn,wI (L2.compCx X scope (own++caps) s₀ H₀ ex pn) ifs t) (he:∀s₀ H₀ ex pn,DE (L2.compCx X scope (own++caps) s₀ H₀ ex pn) elt f)
  (hs:∀x,foldedSetIterable iter X.env x=pure x:=by intro _;rfl):DE X (.ListComp elt [⟨tg,iter,ifs,0⟩] scope pos) (gD it own.length ix gd t f) :=
 (L2.pe_lcomp (g:=uG X.K gd) (tc:=uT X.K t) (te:=uE X.K f) S hc hi hg ht he hs).imp fun σ H Q h=>rE hix hw h
theorem jN {K:Fg}{H H1:Hp}{O:List Addr}{ds:List D}{vs:List V}{Q:VK}(s1:cw H H1)(qa:Rs K H1 O ds vs)(k:∀v H',cw H H'->j9 K H O H' (.list ds,true) v->Q v H'):∀l,H1 l=none->Q (.ref l) (cX H1 l (.lst vs)):=fun p hp=>by
 have s2:cw H1 (cX H1 p (.lst vs)):=fun b o e=>by rw[bZ (bV e hp)];exact e
 refine k _ _ (s1.trans s2) (.inr ⟨rfl,p,ds,vs,rfl,rfl,s1.free hp,cg,qa.ext (gm.fresh s2 hp)⟩)
theorem vU {op op' op2:CmpOp}{r r' r2:L2.R2}{o o' o2:C2}{d:Expr}(ho:L2.OpR X (compareOp op) r)(hd:CD X r o)(ho':L2.OpR X (compareOp op') r')(hd':CD X r' o')(ho2:L2.OpR X (compareOp op2) r2)(hd2:CD X r2 o2)(ha:DB X a fb)(hb:DB X b gb)(hc:DB X c hb')(hdd:DB X d kb)
  (hm:lastMarks [op,op',op2] [b,c,d]=false:=by with_unfolding_all rfl):DE X (.Compare a [op,op',op2] [b,c,d] pos) (gC (cF fb [(o,gb),(o',hb'),(o2,kb)])):=by
 intro pins s σ H Q I ⟨ρ,O,M,lad,r,hE,hf,k⟩;obtain⟨cc,hcc,rfl⟩:=j0 hf;unfold cF tChain at hcc;cases hx:fb ρ with
 |none=>rw[hx] at hcc;cases hcc
 |some x =>
  rw[hx,aa] at hcc;cases hy:gb ρ with
  |none=>rw[hy] at hcc;cases hcc
  |some y =>
   rw[hy,aa] at hcc;cases h1:o x y with
   |none=>rw[h1] at hcc;cases hcc
   |some k1 =>
    rw[h1,aa] at hcc;refine PyProof.Rows.Compare_chain (L2.thn (ha pins s σ H (fun vx H1=>cw H H1/\BR X.K H1 O x vx) I ⟨ρ,O,M,lad,x,hE,hx,fun vx H1 s1 q1=>⟨s1,q1⟩⟩) fun v s1 ⟨vx,H1,I1,r1,t1,q1⟩=>?_) hm;refine PyProof.Rows.chain_link (L2.thn (hb pins s1 σ H1 (fun vy H2=>cw H1 H2/\BR X.K H2 O y vy) I1 ⟨ρ,O,M,lad,y,hE.same t1,hy,fun vy H2 s2 q2=>⟨s2,q2⟩⟩) fun u s2 zz=>?_);obtain ⟨vy,H2,I2,r2',t2,q2⟩:=zz;refine L2.thn (ho pins s2 σ H2 vx vy v u (fun z H'=>z=.bl k1/\H'=H2) I2 r1 r2' (hd x y vx vy H2 O k1 _ (q1.same t2) q2 h1 ⟨rfl,rfl⟩)) fun z s3 zz=>?_;obtain ⟨vz,H3,I3,r3,e3,e3'⟩:=zz;subst e3 e3';cases r3;refine wpAny_truthy_bool ?_;cases k1 with
    |false =>
     rw[if_neg Bool.false_ne_true] at hcc;cases hcc;exact PyProof.Rows.ite_ff ⟨.bl false,_,I3,rfl,k _ _ (t1.trans t2) (.of (.bool _))⟩
    |true =>
     rw[if_pos rfl] at hcc;refine PyProof.Rows.ite_tt ?_;unfold tChain at hcc;cases hz:hb' ρ with
     |none=>rw[hz] at hcc;cases hcc
     |some zd =>
      rw[hz,aa] at hcc;cases h2:o' y zd with
      |none=>rw[h2] at hcc;cases hcc
      |some k2 =>
       rw[h2,aa] at hcc;refine PyProof.Rows.chain_link (L2.thn (hc pins s3 σ _ (fun vy H2'=>cw H3 H2'/\BR X.K H2' O zd vy) I3 ⟨ρ,O,M,lad,zd,(hE.same t1).same t2,hz,fun vy H2 s2 q2=>⟨s2,q2⟩⟩) fun u4 s4 zz=>?_);obtain ⟨vz,H4,I4,r4,t4,q4⟩:=zz;refine L2.thn (ho' pins s4 σ H4 vy vz u u4 (fun z H'=>z=.bl k2/\H'=H4) I4 r2' r4 (hd' y zd vy vz H4 O k2 _ (q2.same t4) q4 h2 ⟨rfl,rfl⟩)) fun z s5 zz=>?_;obtain ⟨vz5,H5,I5,r5,e5,e5'⟩:=zz;subst e5 e5';cases r5;refine wpAny_truthy_bool ?_;cases k2 with
       |false =>
        rw[if_neg Bool.false_ne_true] at hcc;cases hcc;exact PyProof.Rows.ite_ff ⟨.bl false,_,I5,rfl,k _ _ ((t1.trans t2).trans t4) (.of (.bool _))⟩
       |true =>
        rw[if_pos rfl] at hcc;refine PyProof.Rows.ite_tt ?_;unfold tChain at hcc;cases hw:kb ρ with
        |none=>rw[hw] at hcc;cases hcc
        |some wd =>
         rw[hw,aa] at hcc;refine PyProof.Rows.chain_last (L2.thn (hdd pins s5 σ _ (fun vy H2'=>cw H5 H2'/\BR X.K H2' O wd vy) I5 ⟨ρ,O,M,lad,wd,((hE.same t1).same t2).same t4,hw,fun vy H2 s2 q2=>⟨s2,q2⟩⟩) fun u6 s6 zz=>?_);obtain ⟨vw,H6,I6,r6,t6,q6⟩:=zz;exact ho2 pins s6 σ H6 vz vw u4 u6 Q I6 r4 r6 (hd2 zd wd vz vw H6 O cc _ (q4.same t6) q6 hcc (k _ _ (((t1.trans t2).trans t4).trans t6) (.of (.bool _))))
end
theorem jq {n m:Nat}{b:SD}{ds:List D}{r:Vl}(h:gO n m b ds=some r):ds.length=n:=by
 unfold gO at h;split at h
 ·assumption
 ·cases h
theorem mh {K:Fg}{H:Hp}{B:List Addr}{m:Nat}{ds:List D}{vs:List V}(q:Rs K H B ds vs)(tr:∀a∈B,∃u,H a=some (oW u))(lad:Nat->Addr):ER K H ([]++B) [] lad (ds.map (fun d=>some (d,false))++a8 m none) (vs.map some++a8 m none):=by
 have fl:∀{i:Nat}{d:D}{o:Bool},(ds.map (fun d=>some (d,false))++a8 m none:Sl)[i]?=some (some (d,o))->o=false/\ds[i]?=some d:=fun {i d o} e=>by
  by_cases hi:i<ds.length
  ·rw[ba (by rw[az];exact hi),aH] at e;cases er:ds[i]? with
   |none=>rw[er] at e;cases e
   |some d'=>rw[er] at e;cases e;exact⟨rfl,rfl⟩
  ·rw[aT (by rw[az];omega),bA] at e;split at e <;> cases e
 refine⟨fun i d e=>?_,fun i d e=>?_,fun i d e=>?_,fun i j d e a e1=>?_,tr,(fun a ha=>nomatch ha),by rw[au,au,az,az,q.length];simp,.none_ fun i x e=>(fl (d:=x.1) (o:=x.2) e).1⟩
 ·obtain⟨_,ed⟩:=fl e;obtain⟨v,ev,rv⟩:=q.get ed;refine⟨v,?_,rv⟩;have hi:i<vs.length:=(ax.mp ev).1;rw[ba (by rw[az];exact hi),aH,ev];rfl
 ·cases (fl e).1
 ·cases (fl e).1
 ·cases (fl e1).1
theorem fA {P:Program}{w:World}{K:Fg}{mg:Str->Option Value}{base:Heap}{x qual:Str}{st:Stmt}{f:Addr}{fd:FuncData}{N ps:List Str}{k:Nat}{b:SD}(F:L2.Fun K x qual st f fd)(S:L2.FnScope N ps (L2.defScope st))
  (hb:∀(cdv:Value) (A:Around) (outer:List Env) (s:Shared) (H:Hp) (E:L2.XK),L2.Room k (A.deeper (PyProof.Rows.envOfC qual (L2.defScope st) s.heap.objs.size f cdv))->nY (L2.cxOf L2.CX0 P w K mg base N qual (L2.defScope st) f cdv A outer s H E).nox (L2.defBody st) b) :
  L2.FnOk P w K mg base L2.CX0 (k+1) f fd ps (spD K (gO ps.length (N.length-ps.length) b)):=by
 refine F.ok S (fun vs H Q E zz=>by obtain ⟨ds,B,r,q,_,hF,_⟩:=zz; rw[<-q.length];exact jq hF) fun cdv A outer s H vs Q E hr zz=>?_;obtain ⟨ds,B,r,q,tr,hF,kk⟩:=zz;have hl:=jq hF;refine⟨_,hb cdv A outer s H E hr B H [] (fun _=>f),?_⟩;unfold gO at hF;rw[if_pos hl] at hF;cases hfl:b (ds.map (fun d=>some (d,false))++a8 (N.length-ps.length) none) with
 |none=>rw[hfl] at hF;cases hF
 |some fl =>
  rw[hfl,aa] at hF;have same:∀{M':List Addr}{H':Hp},fu [] H M' H'->cw H H':=fun x b o e=>x.keep b o (fun z=>(nomatch z)) e;refine⟨_,fl,⟨[],.refl [] H,(fun _ z=>nomatch z),?_⟩,hfl,?_⟩
  ·have:=mh (m:=N.length-ps.length) q tr (fun _=>f);unfold L2.start;rw[<-q.length,hl];exact this
  ·cases fl with
   |next ρ =>
    cases hF;exact fun σ H' ⟨M',x,_,_⟩=>kk _ H' (same x) (.of .none)
   |ret r' =>
    cases hF;refine fun v H' ⟨⟨M',x⟩,q'⟩=>kk v H' (same x) ?_;rcases q' with q'|⟨e,a,es,us,e1,e2,e3,e4,q'⟩
    ·exact .inl q'
    ·exact .inr ⟨e,a,es,us,e1,e2,e3.elim (fun z=>(nomatch z)) id,e4,q'⟩
   |brk ρ=>cases hF
   |cont ρ=>cases hF
end DL
namespace DL
open PySem PySem.Spec PySem.SeqAt
open L2 (V Hp St HO VK TE TT TA TS TI TG Cx Inv PE PT PA PS PSs PI PG dr dq cw cX cg bZ bV cA cI EP TP AP SP c7 It)
theorem uJ {X:Cx}{st:Stmt}{F:SD}(i:Nat)(h:DS X st F):DS X st (rZ i F):=fun B H₀ M₀ lad=>(h B H₀ M₀ lad).imp fun E σ H zz=>by
 obtain ⟨ρ,fl,hR,hf,k⟩:=zz;unfold rZ at hf;cases hx:F ρ with
 |none=>rw[hx] at hf;cases hf
 |some fl0 =>
  rw[hx,ae] at hf;refine⟨ρ,fl0,hR,hx,?_⟩;cases fl0 with
  |next ρ'=>cases hf;exact fun σ' H' r=>k σ' H' (r.share i)
  |ret r=>cases hf;exact k
  |brk ρ'=>cases hf;exact k
  |cont ρ'=>cases hf;exact k
structure gW (P:Program)(w:World)(K:Fg)(mg:Str->Option Value)(base:Heap)(k:Nat)(x:Str)(ps:List Str)(F:FD):Prop where
 ex:∃(fa:Addr) (fd:FuncData),L2.FnOk P w K mg base L2.CX0 k fa fd ps (spD K F)/\mg x=some (.ref fa)/\PySem.W.keepIn K (.ref fa)=true/\L2.Binds K fd ps []
theorem dB {X:Cx}{e:Expr}{es:List Expr}{pos p:Pos}{k j:Nat}{ps:List Str}{F:FD}{x:Str}{t:AD}(G:gW X.prog X.w X.K X.mg X.base k x ps F)(hr:L2.Room j X.A)(ha:DA X (e::es) t)(hj:k<=j:=by decide)(hg:L2.Gl X x:=by rfl)
  (hdb:(x==("__debug__" : Str))=false:=by decide) (he:starEach (e::es) X.env=(false,eval e X.env)::starEach es X.env:=by rfl) (hpl:(backTo pos (starEach es X.env)).any (·.1)=false:=by rfl) :
  DE X (.Call (.Name x p) (e::es) [] pos) (cC F t):=by
 obtain⟨fa,fd,h1,h2,h3,h4⟩:=G.ex;exact tf h1 (hr.mono hj) hg h2 h3 h4 ha hdb he hpl
theorem rA {X:Cx}{x:Str}{i:Int}{pos:Pos}(hm:∃tk,X.mg x=some (.int i tk))(hg:L2.Gl X x:=by rfl)(hd:(x==("__debug__" : Str))=false:=by decide):DE X (.Name x pos) (dC (.int i)):=by
 obtain⟨tk,hm⟩:=hm;exact sY hg hm hd
theorem vQ {X:Cx}{a b c d:Expr}{pos:Pos}{fb gb hb' kb:BD}{op op' op2:CmpOp}{r r' r2:L2.R2}{o o' o2:C2}(ho:L2.OpR X (compareOp op) r)(hd:CD X r o)(ho':L2.OpR X (compareOp op') r')(hd':CD X r' o')(ho2:L2.OpR X (compareOp op2) r2)(hd2:CD X r2 o2)(ha:DB X a fb)(hb:DB X b gb)(hc:DB X c hb')(hdd:DB X d kb)
  (hm:lastMarks [op,op',op2] [b,c,d]=false:=by with_unfolding_all rfl):DT X (.Compare a [op,op',op2] [b,c,d] pos) (cF fb [(o,gb),(o',hb'),(o2,kb)]):=by
 intro pins s σ H Q I ⟨ρ,O,M,lad,cc,hE,hcc,k⟩;unfold cF tChain at hcc;cases hx:fb ρ with
 |none=>rw[hx] at hcc;cases hcc
 |some x =>
  rw[hx,aa] at hcc;cases hy:gb ρ with
  |none=>rw[hy] at hcc;cases hcc
  |some y =>
   rw[hy,aa] at hcc;cases h1:o x y with
   |none=>rw[h1] at hcc;cases hcc
   |some k1 =>
    rw[h1,aa] at hcc;refine PyProof.Rows.isTrue_chain (L2.thn (ha pins s σ H (fun vx H1=>cw H H1/\BR X.K H1 O x vx) I ⟨ρ,O,M,lad,x,hE,hx,fun vx H1 s1 q1=>⟨s1,q1⟩⟩) fun v s1 ⟨vx,H1,I1,r1,t1,q1⟩=>?_) hm;refine PyProof.Rows.test_link (L2.thn (hb pins s1 σ H1 (fun vy H2=>cw H1 H2/\BR X.K H2 O y vy) I1 ⟨ρ,O,M,lad,y,hE.same t1,hy,fun vy H2 s2 q2=>⟨s2,q2⟩⟩) fun u s2 zz=>?_);obtain ⟨vy,H2,I2,r2',t2,q2⟩:=zz;refine L2.thn (ho pins s2 σ H2 vx vy v u (fun z H'=>z=.bl k1/\H'=H2) I2 r1 r2' (hd x y vx vy H2 O k1 _ (q1.same t2) q2 h1 ⟨rfl,rfl⟩)) fun z s3 zz=>?_;obtain ⟨vz,H3,I3,r3,e3,e3'⟩:=zz;subst e3 e3';cases r3;refine wpAny_truthy_bool ?_;cases k1 with
    |false =>
     rw[if_neg Bool.false_ne_true] at hcc;cases hcc;exact PyProof.Rows.ite_ff ⟨_,I3,k _ (t1.trans t2)⟩
    |true =>
     rw[if_pos rfl] at hcc;refine PyProof.Rows.ite_tt ?_;unfold tChain at hcc;cases hz:hb' ρ with
     |none=>rw[hz] at hcc;cases hcc
     |some zd =>
      rw[hz,aa] at hcc;cases h2:o' y zd with
      |none=>rw[h2] at hcc;cases hcc
      |some k2 =>
       rw[h2,aa] at hcc;refine PyProof.Rows.test_link (L2.thn (hc pins s3 σ _ (fun vy H2'=>cw H3 H2'/\BR X.K H2' O zd vy) I3 ⟨ρ,O,M,lad,zd,(hE.same t1).same t2,hz,fun vy H2 s2 q2=>⟨s2,q2⟩⟩) fun u4 s4 zz=>?_);obtain ⟨vz,H4,I4,r4,t4,q4⟩:=zz;refine L2.thn (ho' pins s4 σ H4 vy vz u u4 (fun z H'=>z=.bl k2/\H'=H4) I4 r2' r4 (hd' y zd vy vz H4 O k2 _ (q2.same t4) q4 h2 ⟨rfl,rfl⟩)) fun z s5 zz=>?_;obtain ⟨vz5,H5,I5,r5,e5,e5'⟩:=zz;subst e5 e5';cases r5;refine wpAny_truthy_bool ?_;cases k2 with
       |false =>
        rw[if_neg Bool.false_ne_true] at hcc;cases hcc;exact PyProof.Rows.ite_ff ⟨_,I5,k _ ((t1.trans t2).trans t4)⟩
       |true =>
        rw[if_pos rfl] at hcc;refine PyProof.Rows.ite_tt ?_;unfold tChain at hcc;cases hw:kb ρ with
        |none=>rw[hw] at hcc;cases hcc
        |some wd =>
         rw[hw,aa] at hcc;refine PyProof.Rows.test_last (L2.thn (hdd pins s5 σ _ (fun vy H2'=>cw H5 H2'/\BR X.K H2' O wd vy) I5 ⟨ρ,O,M,lad,wd,((hE.same t1).same t2).same t4,hw,fun vy H2 s2 q2=>⟨s2,q2⟩⟩) fun u6 s6 zz=>?_);obtain ⟨vw,H6,I6,r6,t6,q6⟩:=zz;refine L2.thn (ho2 pins s6 σ H6 vz vw u4 u6 (fun z H'=>z=.bl cc/\H'=H6) I6 r4 r6 (hd2 zd wd vz vw H6 O cc _ (q4.same t6) q6 hcc ⟨rfl,rfl⟩)) fun z s7 zz=>?_;obtain ⟨vz7,H7,I7,r7,e7,e7'⟩:=zz;subst e7 e7';cases r7;exact wpAny_truthy_bool ⟨_,I7,k _ (((t1.trans t2).trans t4).trans t6)⟩
end DL
namespace DL
open PySem PySem.Spec PySem.SeqAt
open L2 (V Hp St HO VK Cx dr dq)
noncomputable def oM (osc:Scope)(oN:List Str)(scope:Scope)(own:List Str)(ix:List Nat)(caps:List Str):Bool :=
 decide (scope.kind=.function)&&decide ((own++caps).Nodup)&&own.all (fun x=>scope.names.lookup x==some .local||scope.names.lookup x==some .cell)&&decide (ix.map (fun j=>oN[j]?)=caps.map some) &&
 scope.names.all (fun p=>p.2 != .free||osc.names.lookup p.1==some .cell||osc.names.lookup p.1==some .free)&&caps.all (fun y=>scope.names.any fun p=>p.1==y&&p.2==.free)&&scope.names.all (fun p=>scope.names.lookup p.1==some p.2)
theorem iN {X:Cx}{osc scope:Scope}{oN own caps:List Str}{ix:List Nat}(h1:X.env.scope=osc)(h2:X.N=oN)(h:oM osc oN scope own ix caps=true):L2.CompSc X.env.scope X.N scope own ix caps:=by
 rw[h1,h2];unfold oM at h;simp only[Bool.and_eq_true,decide_eq_true_eq,bC,Bool.or_eq_true,beq_iff_eq,List.any_eq_true,bne_iff_ne,ne_eq] at h;obtain⟨⟨⟨⟨⟨⟨a1,a2⟩,a3⟩,a4⟩,a5⟩,a6⟩,a7⟩:=h;refine⟨a1,a2,a3,a4,fun p hp hf=>?_,fun y hy=>?_,a7⟩
 ·rcases a5 p hp with (z|z)|z
  ·exact absurd hf z
  ·exact .inl z
  ·exact .inr z
 ·obtain⟨⟨z,k⟩,hp,e1,e2⟩:=a6 y hy;simp only at e1 e2;subst e1 e2;exact hp
theorem n6 {K:Fg}{H:Hp}{O:List Addr}:∀ns:List Int,Rs K H O (ns.map .int) (ns.map V.int)
 |[]=>.nil
 |n::ns=>.cons (.int n) (n6 ns)
theorem law_end {K:Fg}{H:Hp}{a:Addr}{ns:List Int}{F:FD}(hS:dq K H a (ns.map V.int))(hl:ns.length<=63)(h:∀ns:List Int,ns.length<=63->F [.list (ns.map .int)]=some (.bool true,false)) :
  spD K F [.ref a] H (fun v _=>v=.bl true) fun _ _ _=>False:=by
 refine⟨[.list (ns.map .int)],[],_,.cons (.list ?_ (n6 ns)) .nil,(fun _ z=>nomatch z),h ns hl,fun v H' s q=>?_⟩
 ·rcases hS with (z|z)|z
  ·exact .inl ⟨z,fun w=>nomatch w⟩
  ·exact .inr (.inl z)
  ·exact .inr (.inr z)
 ·rcases q with ⟨_,q⟩|⟨z,_⟩
  ·cases q;rfl
  ·cases z
theorem len1 {α:Type}{us:List α}(h:us.length=1):∃a0,us=[a0]:=match us,h with|[a0],_=>⟨a0,rfl⟩
theorem len2 {α:Type}{us:List α}(h:us.length=2):∃a0 a1,us=[a0,a1]:=match us,h with|[a0,a1],_=>⟨a0,a1,rfl⟩
theorem len3 {α:Type}{us:List α}(h:us.length=3):∃a0 a1 a2,us=[a0,a1,a2]:=match us,h with|[a0,a1,a2],_=>⟨a0,a1,a2,rfl⟩
theorem len4 {α:Type}{us:List α}(h:us.length=4):∃a0 a1 a2 a3,us=[a0,a1,a2,a3]:=match us,h with|[a0,a1,a2,a3],_=>⟨a0,a1,a2,a3,rfl⟩
end DL
namespace DL
open PySem
theorem u0 {i j:Int}(h1:-(2 ^ 64)<j)(h2:j<2 ^ 64):nR i j=true:=by
 simp only[nR,Bool.or_eq_true,Bool.and_eq_true,decide_eq_true_eq];exact Or.inr ⟨h1,h2⟩
theorem u3 {i j:Int}(h1:-(2 ^ 64)<i)(h2:i<2 ^ 64):nR i j=true:=by
 simp only[nR,Bool.or_eq_true,Bool.and_eq_true,decide_eq_true_eq];exact Or.inl ⟨h1,h2⟩
theorem lH {i j:Int}(h1:-(2 ^ 64)<j)(h2:j<2 ^ 64):jg (.int i) (.int j)=some (.int (i*j),false):=by
 unfold jg;simp[u0 h1 h2]
theorem ui {i j:Int}(h1:-(2 ^ 64)<i)(h2:i<2 ^ 64):jg (.int i) (.int j)=some (.int (i*j),false):=by
 unfold jg;simp[u3 h1 h2]
theorem dh {i j:Int}(h:0<j):dW (.int i) (.int j)=some (.int (i%j),false):=by
 unfold dW;simp[h]
theorem gv {i j:Int}(h:0<j)(h2:j<1073741824):ia (.int i) (.int j)=some (.int (i/j),false):=by
 unfold ia;simp[h,h2]
theorem qz:lG (.int 10) (.int 9)=some (.int 1000000000,false):=by
 simp[lG]
end DL
namespace DL
open PySem
theorem wk:(2:Nat)<=sizeLine:=by decide
theorem vg:(3:Nat)<=sizeLine:=by decide
theorem wY:(4:Nat)<=sizeLine:=by decide
theorem jA {n:Nat}(h:n<=1000000):n<=sizeLine:=aL h (by decide)
theorem wK {n:Nat}(h:n<1000000):n<sizeLine:=ao h (by decide)
end DL
namespace DL
open PySem
end DL
namespace DL
open PySem PySem.Spec PySem.SeqAt
mutual
inductive Nb:Nat->D->Prop where
 |int (n:Nat) (i:Int):Nb n (.int i)
 |tuple {n:Nat}{ds:List D}:ip n ds->Nb (n+1) (.tuple ds)
 |list {n:Nat}{ds:List D}:ip n ds->Nb (n+1) (.list ds)
inductive ip:Nat->List D->Prop where
 |nil {n:Nat}:ip n []
 |cons {n:Nat}{d:D}{ds:List D}:Nb n d->ip n ds->ip n (d::ds)
end
theorem qE {n:Nat}:∀{ds:List D},(∀d∈ds,Nb n d)->ip n ds
 |[],_=>.nil
 |d::ds,h=>.cons (h d (by simp)) (qE fun e he=>h e (by simp[he]))
theorem su {α:Type}{n:Nat}{f:α->D}(h:∀x,Nb n (f x))(xs:List α):ip n (xs.map f):=qE fun d hd=>by
 obtain⟨x,_,rfl⟩:=bR.mp hd;exact h x
mutual
theorem Nb.lay {n:Nat}{d:D}:Nb n d->d.canLay0=true
 |.int _ _=>by simp[PyData.canLay0]
 |.tuple h=>by simp only[PyData.canLay0];exact ip.lay h
 |.list h=>by simp only[PyData.canLay0];exact ip.lay h
theorem ip.lay {n:Nat}{ds:List D}:ip n ds->PyData.canLayAll0 ds=true
 |.nil=>by simp[PyData.canLayAll0]
 |.cons h hs=>by simp[PyData.canLayAll0,Nb.lay h,ip.lay hs]
end
mutual
theorem Nb.deep {n:Nat}{d:D}:Nb n d->d.depth<=n
 |.int _ _=>by simp[PyData.depth]
 |.tuple h=>by have:=ip.deep h;simp only[PyData.depth];omega
 |.list h=>by have:=ip.deep h;simp only[PyData.depth];omega
theorem ip.deep {n:Nat}{ds:List D}:ip n ds->PyData.depthAll ds<=n
 |.nil=>by simp[PyData.depthAll]
 |.cons h hs=>by have:=Nb.deep h;have:=ip.deep hs;simp only[PyData.depthAll];omega
end
mutual
theorem Nb.mix {n m:Nat}{x y:D}:Nb n x->Nb m y->noMix x y=true
 |.int _ _,.int _ _=>by simp[noMix]
 |.int _ _,.tuple _=>by simp[noMix]
 |.int _ _,.list _=>by simp[noMix]
 |.tuple _,.int _ _=>by simp[noMix]
 |.list _,.int _ _=>by simp[noMix]
 |.tuple _,.list _=>by simp[noMix]
 |.list _,.tuple _=>by simp[noMix]
 |.tuple h,.tuple h'=>by simp only[noMix];exact ip.mix h h'
 |.list h,.list h'=>by simp only[noMix];exact ip.mix h h'
theorem ip.mix {n m:Nat}{xs ys:List D}:ip n xs->ip m ys->noMixAll xs ys=true
 |.nil,.nil=>by simp[noMixAll]
 |.nil,.cons _ _=>by simp[noMixAll]
 |.cons _ _,.nil=>by simp[noMixAll]
 |.cons h hs,.cons h' hs'=>by simp[noMixAll,Nb.mix h h',ip.mix hs hs']
end
mutual
theorem Nb.eq {n m:Nat}{x y:D}:Nb n x->Nb m y->same x y=true->x=y
 |.int _ _,.int _ _,h=>by simp[same] at h;rw[h]
 |.int _ _,.tuple _,h=>by simp[same] at h
 |.int _ _,.list _,h=>by simp[same] at h
 |.tuple _,.int _ _,h=>by simp[same] at h
 |.list _,.int _ _,h=>by simp[same] at h
 |.tuple _,.list _,h=>by simp[same] at h
 |.list _,.tuple _,h=>by simp[same] at h
 |.tuple q,.tuple q',h=>by simp only[same] at h;rw[ip.eq q q' h]
 |.list q,.list q',h=>by simp only[same] at h;rw[ip.eq q q' h]
theorem ip.eq {n m:Nat}{xs ys:List D}:ip n xs->ip m ys->sameAll xs ys=true->xs=ys
 |.nil,.nil,_=>rfl
 |.nil,.cons _ _,h=>by simp[sameAll] at h
 |.cons _ _,.nil,h=>by simp[sameAll] at h
 | .cons q qs,.cons q' qs',h=>by
  simp only[sameAll,Bool.and_eq_true] at h;rw[Nb.eq q q' h.1,ip.eq qs qs' h.2]
end
theorem Nb.shp {n:Nat}{d:D}(h:Nb n d)(hn:n<=64):shaped d=true:=by
 unfold shaped;rw[Bool.and_eq_true];have:=h.deep;exact⟨h.lay,decide_eq_true ⋯⟩
theorem rH {n m:Nat}{x y:D}(hx:Nb n x)(hy:Nb m y)(hn:n<=64:=by decide)(hm:m<=64:=by decide):g4 x y=some (same x y):=by
 unfold g4;rw[hx.shp hn,hy.shp hm,hx.mix hy];rfl
theorem uY {n m:Nat}{x y:D}(hx:Nb n x)(hy:Nb m y)(hn:n<=64:=by decide)(hm:m<=64:=by decide):i4 x y=some (!same x y):=by
 unfold i4;rw[hx.shp hn,hy.shp hm,hx.mix hy];rfl
theorem rG {n:Nat}{x:D}(hx:Nb n x)(hn:n<=64:=by decide):g4 x x=some true:=by rw[rH hx hx hn hn,same_self]
theorem oR (a b:Int):g4 (.int a) (.int b)=some (decide (a=b)):=by
 rw[rH (.int 0 a) (.int 0 b)];simp only[same];by_cases e:a=b <;> simp[e]
theorem oQ (a b:Int):i4 (.int a) (.int b)=some (decide (a≠b)):=by
 rw[uY (.int 0 a) (.int 0 b)];simp only[same];by_cases e:a=b <;> simp[e]
end DL
namespace DL
open PySem PySem.Spec PySem.SeqAt
theorem mM {α:Type}{g:GD}{e:ED}{ρ:Sl}{d β:α->D}:∀l:List α,(∀x∈l,∃ρ1 o,g (d x) ρ=some ρ1/\e ρ1=some (β x,o))->fS g gS e ρ (l.map d)=some (l.map β)
 |[],_=>rfl
 | x::l,h=>by
  obtain⟨ρ1,o,h1,h2⟩:=h x (by simp);rw[aD,fS,h1,aa,gS,aa,if_pos rfl,h2,aa,mM l fun y hy=>h y (by simp[hy])];rfl
theorem kU {α:Type}(f:α->Bool):∀xs:List α,eL (xs.map fun x=>.bool (f x))=some (xs.map f)
 |[]=>rfl
 | x::xs=>by
  rw[aD,eL,kU f xs];rfl
theorem cW {a b:SD}{ρ ρ':Sl}(h:a ρ=some (.next ρ')):cD a b ρ=b ρ':=by
 rw[cD,h];rfl
end DL
namespace DL
open PySem PySem.Spec PySem.SeqAt
theorem kM {α:Type}{it:AD}{n:Nat}{ix:List Nat}{g:GD}{e:ED}{ρ:Sl}{d β:α->D}(l:List α)(hi:it ρ=some (l.map d))(hz:l.length<=1000000)(h:∀x∈l,∃ρ1 o,g (d x) (dg n ix ρ)=some ρ1/\e ρ1=some (β x,o)):gD it n ix g gS e ρ=some (.list (l.map β),true):=by
 rw[gD,hi,aa,if_pos (jA (by rw[az];exact hz)),mM l h];rfl
theorem jo {it:AD}{g:GD}{b:SD}{ρ:Sl}{ds:List D}(h:it ρ=some ds):fP it g b ρ=fq g b ds ρ:=by rw[fP,h,aa]
theorem gx {t:TD}{a b:SD}{ρ:Sl}(h:t ρ=some true):eM t a b ρ=a ρ:=by rw[eM,h,aa,if_pos rfl]
theorem qT {t:TD}{a b:SD}{ρ:Sl}(h:t ρ=some false):eM t a b ρ=b ρ:=by rw[eM,h,aa,if_neg Bool.false_ne_true]
theorem cQ {t:TD}{a b:SD}{ρ:Sl}(h:t ρ=some false):cD (eM t a dA) b ρ=b ρ:=by
 rw[cD,qT h];rfl
theorem da {t:TD}{f:ED}{b c:SD}{ρ:Sl}{r:Vl}(h:t ρ=some true)(hr:f ρ=some r):cD (eM t (cU f) c) b ρ=some (.ret r):=by
 rw[cD,gx h,cU,hr];rfl
end DL
namespace L2
open PySem PySem.Spec PyProof.Rows
section
variable {prog:Program}{w:World}{A:Around}{E:Value->Shared->Prop}{s:Shared}
end
section
variable {X:Cx}{pins:List (Addr×Obj)}{σ:St}{H:Hp}{s:Shared}{a:Addr}{xs ys:List V}{kd:Bool}
end
end L2
namespace L2
open PySem PySem.Spec PyProof.Rows
open AutoSeq1 (wpAny_loadPart')
set_option maxRecDepth 100000 in
section
variable {X:Cx}{l:Expr}{tl:TE}{p pos tp:Pos}{tes:List Expr}{tk:Nat}
end
end L2
namespace DL
open PySem PySem.Spec PySem.SeqAt
open L2 (V Hp St HO VK TE TT TA TS TI TG Cx Inv PE PT PA PS PSs PI PG dr dq cw cX cg bZ bV cA cI EP TP AP SP c7 It)
section
variable {X:Cx}{e:Expr}{f:AD}{p pos tp:Pos}{tes:List Expr}{tk:Nat}
end
end DL
namespace L2
open PySem PySem.Spec PyProof.Rows
section
variable {prog:Program}{w:World}{A:Around}{E:Value->Shared->Prop}{s:Shared}{z TI TO i1 i2:Addr}{n1 n2 k:Nat}{fp1 fp2:List Addr}{P1 P2:Nat->Value->Prop}{S1 S2:Nat->Heap->Prop}
end
end L2
namespace L2
open PySem PySem.Spec PyProof.Rows
section
variable {prog:Program}{w:World}{A:Around}{E:Value->Shared->Prop}{s:Shared}
end
set_option maxRecDepth 100000 in
section
variable {prog:Program}{w:World}{A:Around}{E:Value->Shared->Prop}{s:Shared}
end
section
variable {X:Cx}{e1 e2:Expr}{p pos tp:Pos}{tes:List Expr}{tk:Nat}
end
end L2
namespace DL
open PySem PySem.Spec PySem.SeqAt
open L2 (V Hp St HO VK TE TT TA TS TI TG Cx Inv PE PT PA PS PSs PI PG dr dq cw cX cg bZ bV cA cI EP TP AP SP c7 It)
section
variable {X:Cx}{e1 e2:Expr}{f g:AD}{p pos tp:Pos}{tes:List Expr}{tk:Nat}
end
end DL
namespace L2
open PySem PySem.Spec PyProof.Rows
section
variable {prog:Program}{w:World}{A:Around}{E:Value->Shared->Prop}{s:Shared}
end
section
variable {prog:Program}{w:World}{A:Around}{E:Value->Shared->Prop}{s:Shared}{z TI TO i1 i2 i3:Addr}{n1 n2 n3 k:Nat}{fp1 fp2 fp3:List Addr}{P1 P2 P3:Nat->Value->Prop}{S1 S2 S3:Nat->Heap->Prop}
end
set_option maxHeartbeats 4000000 in
set_option maxRecDepth 100000 in
section
variable {prog:Program}{w:World}{A:Around}{E:Value->Shared->Prop}{s:Shared}
end
section
variable {X:Cx}{e1 e2 e3:Expr}{p pos tp:Pos}{tes:List Expr}{tk:Nat}
end
end L2
namespace DL
open PySem PySem.Spec PySem.SeqAt
open L2 (V Hp St HO VK TE TT TA TS TI TG Cx Inv PE PT PA PS PSs PI PG dr dq cw cX cg bZ bV cA cI EP TP AP SP c7 It)
section
variable {X:Cx}{e1 e2 e3:Expr}{f g k:AD}{p pos tp:Pos}{tes:List Expr}{tk:Nat}
end
end DL
namespace L2.Srt
open PySem PyProof.Rows
section
variable {prog:Program}{w:World}{A:Around}{E:Value->Shared->Prop}{s:Shared}{a₀:Array Keyed}{κ:PyProof.Rows.KeyKind}{kd:SortKind}{st:SortSt}
end
end L2.Srt
namespace L2.Srt
open PySem PyProof.Rows
section
variable {prog:Program}{w:World}{A:Around}{E:Value->Shared->Prop}{s:Shared}{a₀:Array Keyed}{κ:PyProof.Rows.KeyKind}{kd:SortKind}{st:SortSt}
end
end L2.Srt
namespace L2.Srt
open PySem PyProof.Rows
def wG (h:Heap)(v:Value)(p:Int×Int):Prop:=∃(c:Addr) (t u:Tok),v=.ref c/\h.IsTuple c #[.int p.1 t,.int p.2 u]
noncomputable def vK (p q:Int×Int):Bool:=decide (p.1<q.1\/(p.1=q.1/\p.2<q.2))
open Classical in
@[reducible] noncomputable def wZ (h:Heap):PyProof.Rows.KeyKind where
 α:=Int×Int
 blt:=vK
 irrefl:=fun a=>by simp[vK]
 trans:=fun a b c x y=>by simp only[vK,decide_eq_true_eq] at *;omega
 negTrans:=fun a b c x=>by simp only[vK,decide_eq_true_eq] at *;omega
 total:=fun a b x y=>by
  simp only[vK,decide_eq_false_iff_not] at *;cases a;cases b;simp only[Prod.mk.injEq] at *;omega
 keyOf:=fun v=>if e:∃p,wG h v p then some e.choose else none
 dflt:=(0,0)
open Classical in
open Classical in
section
variable {prog:Program}{w:World}{A:Around}{E:Value->Shared->Prop}{s:Shared}
end
end L2.Srt
namespace L2.Srt
open PySem PyProof.Rows
section
variable {prog:Program}{w:World}{A:Around}{E:Value->Shared->Prop}{s:Shared}
end
end L2.Srt
namespace L2
open PySem PySem.Spec PyProof.Rows
section
variable {X:Cx}
end
end L2
namespace DL
open PySem PySem.Spec PySem.SeqAt
open L2 (V Hp St HO VK TE TT TA TS TI TG Cx Inv PE PT PA PS PSs PI PG dr dq cw cX cg bZ bV cA cI EP TP AP SP c7 It)
section
variable {X:Cx}{e a b c:Expr}{es:List Expr}{f g:ED}{fb gb:BD}{t u:TD}{pos p:Pos}
end
end DL
namespace HT
open PySem PyProof.Rows
section
variable {prog:Program}{w:World}{A:Around}{E:Value->Shared->Prop}{s:Shared}
theorem getItem_tuple_whole {t sl:Addr}{items:Array Value}{vl vu:Value}{lo hi:Option Int}{Q:Value->Shared->Prop}(ht:IsTup s.heap t items)(hs:s.heap.IsSliceOf sl vl vu .none)(pl:IsPart vl lo)(pu:IsPart vu hi)
  (hw:sIx items.size 0 lo=0/\sIx items.size items.size hi=items.size) (h:Q (.ref t) s):wpAny (model prog w) A (getItem (.ref t) (.ref sl)) Q E s:=by
 obtain⟨os,hos,hcs,hds⟩:=id hs;have all:((((sIx items.size 0 lo:Nat):Int)==0&&(1:Int)==1&&(sIx items.size items.size hi-sIx items.size 0 lo)==items.size)=true):=by rw[hw.1,hw.2];simp
 unfold getItem;try with_reducible refine bI ?_
 first|refine ag (aA ?_)|skip
 refine ag (wpAny_sequenceKey ht.typeIs (by decide) (ag (wpAny_callSpecial?_slot (name:=Str.ofString "__getitem__") ht.typeIs PyProof.Rows.slot_tuple_getitem (wpAny_call_entry PyProof.Rows.slot_tuple_getitem ht.typeIs entry_tuple_getitem ?_ (args_tuple_getitem _ _)))));show wpAny _ _ (Builtin.Tuple.tupleItemsOf (.ref t)>>=_) _ _ s;refine ag (tupleItemsOf_ ht (ag (wpAny_typeOf (T := "slice") ⟨os,hos,hcs⟩ ?_)));rw[if_pos (by decide)];refine ag (fO hs pl pu ?_);show wpAny _ _ (if (((sIx items.size 0 lo:Nat):Int)==0&&(1:Int)==1&&(sIx items.size items.size hi-sIx items.size 0 lo)==items.size)=true then _ else _) _ _ s;rw[if_pos all];have ex:∀{R:Bool->Shared->Prop},R true s->wpAny (model prog w) A.in1 (Builtin.Tuple.tupleIsExact (.ref t)) R E s:=fun {R} r=>by
  unfold Builtin.Tuple.tupleIsExact;exact ag (wpAny_typeOf ht.typeIs (aA r))
 refine ag (ex ?_);rw[if_pos rfl];exact ag (wpAny_rule (aA ⟨_,rfl,aA h⟩))
end
end HT
namespace L2
open PySem PySem.Spec PyProof.Rows
section
variable {X:Cx}
noncomputable def wm (K:PySem.W.Frag):V->Option Int->Option Int->Hp->VK->Prop:=fun x lo hi H Q=>∃a xs,x=.ref a/\dr K H a xs/\(HT.sIx xs.length 0 lo=0/\HT.sIx xs.length xs.length hi=xs.length)/\Q (.ref a) H
theorem sl_whole:tF X (wm X.K):=by
 intro pins s σ H x v vl vu lo hi sl Q I rx hs pl pu h;obtain⟨a,xs,rfl,hx,hw,q⟩:=h;cases rx;obtain⟨its,r,ht,hz⟩:=I.tuple hx;have hlen:its.toArray.size=xs.length:=by rw[aC];exact r.length.symm
 exact⟨"tuple", _,PyProof.Rows.slot_tuple_getitem.lookup,ht.typeIs,HT.getItem_tuple_whole ht hs pl pu (by rw[hlen];exact hw) ⟨.ref a,H,I,rfl,q⟩⟩
end
end L2
namespace DL
open PySem PySem.Spec PySem.SeqAt
open L2 (V Hp St HO VK TE TT TA TS TI TG Cx Inv PE PT PA PS PSs PI PG dr dq cw cX cg bZ bV cA cI EP TP AP SP c7 It)
section
variable {X:Cx}{e a b c:Expr}{es:List Expr}{f g:ED}{fb gb:BD}{t u:TD}{pos p p2:Pos}{lo hi:Option Expr}{pl ph:PD}
noncomputable def uP (K:Fg)(p:PD):L2.TO:=fun σ H Q=>∃ρ O M lad o,ER K H O M lad ρ σ/\p ρ=some o/\∀H',cw H H'->Q o H'
def vk (X:Cx)(e:Option Expr)(p:PD):Prop:=L2.PO X e (uP X.K p)
theorem _root_.L2.PO.imp {X:Cx}{e:Option Expr}{t t':L2.TO}(h:L2.PO X e t)(i:∀σ H Q,t' σ H Q->t σ H Q):L2.PO X e t':=fun pins s σ H Q I q=>h pins s σ H Q I (i σ H Q q)
theorem fh:vk X none fo:=L2.po_none.imp fun σ H Q zz=>by
 obtain ⟨ρ,O,M,lad,o,hE,hf,k⟩:=zz;cases hf;exact k H (.refl H)
theorem fc (h:DE X e f):vk X (some e) (fm f):=(L2.po_some h).imp fun σ H Q zz=>by
 obtain ⟨ρ,O,M,lad,o,hE,hf,k⟩:=zz;unfold fm at hf;cases hr:f ρ with
 |none=>rw[hr] at hf;cases hf
 |some r =>
  rw[hr,aa] at hf;cases hi:vd r.1 with
  |none=>rw[hi] at hf;cases hf
  |some i =>
   rw[hi,ae] at hf;cases hf;refine⟨ρ,O,M,lad,r,hE,hr,fun v H1 s1 q1=>⟨i,?_,k H1 s1⟩⟩;have:=q1.toR hE.ne;rw[mT hi] at this;cases this;rfl
theorem lr (n d:Nat)(o:Option Int):HT.sIx n d o=lx n d o:=by cases o <;> rfl
theorem Rs.cut {K:Fg}{H:Hp}{O:List Addr}{ds:List D}{vs:List V}(h:Rs K H O ds vs)(lo hi:Option Int):Rs K H O (lW ds lo hi) (L2.cutV vs lo hi):=by
 unfold lW L2.cutV;rw[lr,lr,<-h.length];exact (h.drop _).take _
theorem pL {ds:List D}{lo hi:Option Int}(h:lx ds.length 0 lo=0/\lx ds.length ds.length hi=ds.length):lW ds lo hi=ds:=by
 unfold lW;rw[h.1,h.2,List.drop_zero,Nat.sub_zero,bK]
theorem mL (ha:DB X a fb)(hl:vk X lo pl)(hh:vk X hi ph):DE X (.Subscript a (.Slice lo hi none p2) pos) (oJ fb pl ph):=(L2.pe_slice (L2.sl_list.or (L2.sl_tup.or L2.sl_whole)) ha hl hh).imp fun σ H Q zz=>by
 obtain ⟨ρ,O,M,lad,r,hE,hf,k⟩:=zz;unfold oJ at hf;cases hx:fb ρ with
 |none=>rw[hx] at hf;cases hf
 |some x =>
  rw[hx,aa] at hf;cases hy:pl ρ with
  |none=>rw[hy] at hf;cases hf
  |some l =>
   rw[hy,aa] at hf;cases hz:ph ρ with
   |none=>rw[hz] at hf;cases hf
   |some h =>
    rw[hz,aa] at hf;refine⟨ρ,O,M,lad,x,hE,hx,fun v H1 s1 q1=>⟨ρ,O,M,lad,l,hE.same s1,hy,fun H2 s2=>⟨ρ,O,M,lad,h,(hE.same s1).same s2,hz,fun H3 s3=>?_⟩⟩⟩;have S:cw H H3:=(s1.trans s2).trans s3;have q3:=(q1.same s2).same s3;cases x <;> first|cases hf|skip
    ·obtain⟨a,vs,rfl,ha,qa⟩:=q3.list;exact .inl ⟨a,vs,rfl,ha,jN S (qa.cut l h) k⟩
    ·obtain⟨a,vs,rfl,ha,qa⟩:=q3.tuple;by_cases hw:HT.sIx vs.length 0 l=0/\HT.sIx vs.length vs.length h=vs.length
     ·refine .inr (.inr ⟨a,vs,rfl,ha,hw,k _ H3 S (.of ?_)⟩);rw[lr,lr,<-qa.length] at hw;rw[pL hw];exact .tuple ha qa
     ·refine .inr (.inl ⟨a,vs,rfl,ha,hw,fun p hp=>?_⟩);have s4:cw H3 (cX H3 p (.tup (L2.cutV vs l h))):=fun b o e=>by rw[bZ (bV e hp)];exact e
      exact k _ _ (S.trans s4) (.of (.tuple (.inl (.inl cg)) ((qa.cut l h).same s4)))
mutual
theorem R.lf {K:Fg}{H:Hp}{O O':List Addr}{d:D}{v:V}:R K H O d v->mx d=true->R K H O' d v
 |.none,_=>.none
 |.bool b,_=>.bool b
 |.int i,_=>.int i
 |.str x,_=>.str x
 |.tuple h r,l=>.tuple h (Rs.lf r (by simpa [mx] using l))
 |.list _ _,l=>by simp[mx] at l
 |.dict _ _ _,l=>by simp[mx] at l
theorem Rs.lf {K:Fg}{H:Hp}{O O':List Addr}{ds:List D}{vs:List V}:Rs K H O ds vs->iA ds=true->Rs K H O' ds vs
 |.nil,_=>.nil
 | .cons h r,l=>by
  simp only[iA,Bool.and_eq_true] at l;exact .cons (R.lf h l.1) (Rs.lf r l.2)
end
end
end DL
namespace L2
open PySem PySem.Spec PyProof.Rows
section
variable {X:Cx}
noncomputable def rCatS (K:PySem.W.Frag):R2:=fun x y H Q=>∃l b xs zs,x=.ref l/\y=.ref b/\dq K H l xs/\dq K H b zs/\xs.length+zs.length<=sizeLine/\∀p,H p=none->Q (.ref p) (cX H p (.lst (xs++zs)))
theorem op_catS:OpR X (binaryOp .Add) (rCatS X.K):=by
 intro pins s σ H x y v u Q I rx ry h;obtain⟨l,b,xs,zs,rfl,rfl,hl,hb,hz,q⟩:=h;cases rx;cases ry;obtain⟨its,r,⟨⟨cls,dd,data,sl⟩,n,e,c,_,d⟩,_⟩:=I.list hl;obtain⟨its2,r2,⟨⟨cls2,dd2,data2,sl2⟩,n2,e2,c2,_,d2⟩,_⟩:=I.list hb;simp only at c d c2 d2;subst c d c2 d2;have l1:=r.length;have l2:=r2.length;refine concat_meets ⟨_,e,rfl⟩ ⟨_,e2,rfl⟩ noFill_list_add seq_list_add F.slot_list_add F.entry_list_add (F.args_list_add_2 _ _) (list_addW l b its.toArray its2.toArray n n2 dd dd2 sl sl2 (by rw[aC,aC];omega)) ⟨e,e2,?_⟩;rw[show its.toArray++its2.toArray=(its++its2).toArray by simp];exact⟨.ref _,_,I.lnew (t':=s.toks) (r.append r2) (by rw[au];omega),rfl,q _ I.fresh⟩
end
end L2
namespace DL
open PySem PySem.Spec PySem.SeqAt
open L2 (V Hp St HO VK TE TT TA TS TI TG Cx Inv PE PT PA PS PSs PI PG dr dq cw cX cg bZ bV cA cI EP TP AP SP c7 It)
section
variable {X:Cx}{e a b c:Expr}{es:List Expr}{f g:ED}{fb gb:BD}{t u:TD}{pos p p2:Pos}
theorem lF:OD X (L2.rCatS X.K) jh:=by
 intro x y vx vy H O r Q ne hx hy hf k;cases x <;> first|(cases hf;done)|(cases y <;> first|cases hf|skip)
 unfold jh at hf;dsimp only at hf;split at hf
 ·rename_i hz;cases hf;obtain⟨a,vs,rfl,ha,qa⟩:=hx.list;obtain⟨b,us,rfl,hb,qb⟩:=hy.list;have l1:=qa.length;have l2:=qb.length;exact⟨a,b,vs,us,rfl,rfl,ha,hb,by omega,jN (.refl H) (qa.append qb) k⟩
 ·cases hf
end
end DL
namespace DL
open PySem PySem.Spec PySem.SeqAt
open L2 (V Hp St HO VK TE TT TA TS TI TG Cx Inv PE PT PA PS PSs PI PG dr dq cw cX cg bZ bV cA cI EP TP AP SP c7 It)
section
variable {X:Cx}{e a b c elt tg iter:Expr}{es ifs:List Expr}{f g:ED}{t u:TD}{pos:Pos}{it:AD}{gd:GD}{scope:Scope}{own caps:List Str}{ix:List Nat}{st:Stmt}{F:SD}
end
end DL
namespace DL
open PySem PySem.Spec PySem.SeqAt
open L2 (V Hp St HO VK TE TT TA TS TI TG Cx Inv PE PT PA PS PSs PI PG dr dq cw cX cg bZ bV cA cI EP TP AP SP c7 It)
end DL
namespace DL
open PySem PySem.Spec PySem.SeqAt
open L2 (V Hp St HO VK TE TT TA TS TI TG Cx Inv PE PT PA PS PSs PI PG dr dq cw cX cg bZ bV cA cI EP TP AP SP c7 It)
section
variable {X:Cx}{ek ex ev:Expr}{ke kx vx:ED}{pos p1 p2 p3 p4 p5 p6 p7 p8 p9:Pos}{i s:Nat}{x y:Str}
end
end DL
namespace DL
open PySem
end DL
namespace DL
open PySem PySem.Spec PySem.SeqAt
open L2 (V Hp St HO VK TE TT TA TS TI TG Cx Inv PE PT PA PS PSs PI PG dr dq cw cX cg bZ bV cA cI EP TP AP SP c7 It)
end DL
namespace L2
open PySem PySem.Spec PyProof.Rows
section
variable {X:Cx}
end
end L2
namespace DL
open PySem PySem.Spec PySem.SeqAt
open L2 (V Hp St HO VK TE TT TA TS TI TG Cx Inv PE PT PA PS PSs PI PG dr dq cw cX cg bZ bV cA cI EP TP AP SP c7 It)
section
variable {X:Cx}
open Classical in
end
end DL
namespace L2
open PySem PySem.Spec PyProof.Rows
section
variable {prog:Program}{w:World}{A:Around}{E:Value->Shared->Prop}{s:Shared}
open AutoSeq1 (wpAny_loadPart')
set_option maxRecDepth 100000 in
end
section
variable {X:Cx}{a b:Expr}{ta:TA}{p p1 p2 pos:Pos}
end
end L2
namespace DL
open PySem PySem.Spec PySem.SeqAt
open L2 (V Hp St HO VK TE TT TA TS TI TG Cx Inv PE PT PA PS PSs PI PG dr dq cw cX cg bZ bV cA cI EP TP AP SP c7 It)
section
variable {X:Cx}{a b:Expr}{f g:ED}{p p1 p2 pos:Pos}
end
end DL
namespace DL
open PySem PySem.Spec PySem.SeqAt
end DL
namespace DL
open PySem PySem.Spec PySem.SeqAt
open L2 (V Hp St HO VK TE TT TA TS TI TG Cx Inv PE PT PA PS PSs PI PG dr dq cw cX cg bZ bV cA cI EP TP AP SP c7 It)
section
variable {X:Cx}
end
end DL
namespace DL
open PySem PySem.Spec PySem.SeqAt
open L2 (V Hp St HO VK TE TT TA TS TI TG Cx Inv PE PT PA PS PSs PI PG dr dq cw cX cg bZ bV cA cI EP TP AP SP c7 It)
section
variable {X:Cx}{e ek ex ev:Expr}{f ke kx vx:ED}{pos p1 p2 p3 p4:Pos}{i:Nat}{x:Str}
end
end DL
namespace L2
open PySem PySem.Spec PyProof.Rows
section
variable {X:Cx}
end
section
variable {X:Cx}{a b:Expr}{ta:TA}{p p1 p2 pos:Pos}
end
end L2
namespace DL
open PySem PySem.Spec PySem.SeqAt
open L2 (V Hp St HO VK TE TT TA TS TI TG Cx Inv PE PT PA PS PSs PI PG dr dq cw cX cg bZ bV cA cI EP TP AP SP c7 It)
section
variable {X:Cx}{a b:Expr}{f g:ED}{fb:BD}{p p1 p2 pos:Pos}
end
end DL
namespace L2
open PySem PySem.Spec PyProof.Rows
noncomputable def CX1 (P:Program)(w:World):pY:=fun outer H s E e s'=>∃(ea C t:Addr) (B:Heap) (H':Hp),e=.ref ea/\s'.os=s.os/\AllBare s'.gens/\Un (frs outer) [] H H' s.heap s'.heap/\iq P w H' s'.heap ∧
 Heap.FlyingW B outer ea (.ref C) (.ref t) s'.heap/\(∀b o o',s.heap.get? b=some o->s'.heap.get? b=some o'->b∉frs outer->B.get? b=some o')/\(∀b o,s'.heap.get? b=some o->H' b≠none->B.get? b=some o)/\E (.ref C) none H'
section
variable {P:Program}{w:World}{H:Hp}{h h' B:Heap}
theorem fk.there {a:Addr}{o:HO}(x:fk P w H h a o):∃u,h.get? a=some u:=by
 cases o with
 |lst xs=>obtain⟨_,_,_,_,e⟩:=x;exact⟨_,e⟩
 |tup xs=>obtain⟨_,_,_,ob,e,_⟩:=x;exact⟨_,e⟩
 |dK kvs=>obtain⟨_,_,_,_,o,_,_,e,_⟩:=x;exact⟨_,e⟩
 |dT kvs=>obtain⟨_,_,_,_,o,_,_,e,_⟩:=x;exact⟨_,e⟩
 |set S n=>obtain⟨o,_,_,_,e,_⟩:=x;exact⟨_,e⟩
 |ins C dx fs=>obtain⟨_,_,_,e,_⟩:=x;exact⟨_,e⟩
 |own y=>exact x
 |xd fs=>obtain⟨_,⟨_,_,_,e,_⟩,_⟩:=x;exact⟨_,e⟩
 |rng lo hi=>obtain⟨_,_,_,e⟩:=x;exact⟨_,e⟩
 |frz ob u=>obtain⟨e,_⟩:=x;exact⟨_,e⟩
 |tbl ps=>exact⟨_,show h.get? a=some _ from x⟩
 |met f y=>exact⟨_,show h.get? a=some _ from x⟩
 |ext φ=>obtain⟨_,e,_⟩:=x;exact e
theorem iq.held (x:iq P w H h)(hB:∀b o,h.get? b=some o->H b≠none->B.get? b=some o)(st:B.StaysIn h'):iq P w H h':=fun a o e =>
 (x a o e).stay (fun b u hb q=>st b u (hB b u q (by
  rcases hb with z|z
  ·subst z;rw[e];simp
  ·rw[z];simp))) (fun _ q=>q) fun _ _ q=>q
end
section
variable {X:Cx}{pins:List (Addr×Obj)}{σ:St}{H:Hp}{s:Shared}
theorem Inv.leaves (I:Inv X pins σ H s)(hst:X.stack=X.env::X.outer)(hf:X.env.frame=some X.env.locals)(hex:X.ex=[]){ea C:Addr}{vs:List Value}{h':Heap}{E:XK}(hx:Heap.MadeExcOf s.heap h' ea (.ref C) vs)(hE:E (.ref C) none H){EE:Value->Shared->Prop} :
  wpAny (model X.prog X.w) X.A (leaving X.env (.ref ea)) (fun _ s''=>CX1 X.prog X.w X.outer X.H₀ X.s₀ E (.ref ea) s'') EE { s with heap:=h' }:=by
 have hfr:X.A.frames=some (X.env::X.outer):=by rw[<-hst];exact I.ok.frames
 have hl:=I.stack;rw[hst] at hl;have inn:∀env∈(X.env::X.outer),∀a,env.frame=some a->a∈frs (X.env::X.outer):=fun env he a ha=>List.mem_filterMap.mpr ⟨env,he,ha⟩;have old:∀b o,X.s₀.heap.get? b=some o->b∉frs X.outer->b∉frs (X.env::X.outer):=fun b o e nb hb=>by
  unfold frs at hb;rw[aM,hf] at hb;rcases ay.mp hb with z|z
  ·subst z;exact absurd (ao (av e) I.ok.above) (aF _)
  ·exact nb z
 refine wpAny_leaves_madeW (base:=PySem.W.hideAll s.heap (frs (X.env::X.outer))) hfr hf (fun b o q=>PySem.W.of_hideAll _ q) (PySem.W.funFrames_hide hl inn) hx fun h'' t fl tup nt up=>?_;have hB:∀b o,s.heap.get? b=some o->b∉frs (X.env::X.outer)->(PySem.W.hideAll s.heap (frs (X.env::X.outer))).get? b=some o:=fun b o q n=>PySem.W.hideAll_get _ q n;have free:∀b∈frs (X.env::X.outer),H b=none:=fun b hb=>by
  have:=I.stkFree b;rw[hst] at this;exact this hb
 have nex:∀b:Addr,b∉X.ex:=fun b z=>by rw[hex] at z;cases z
 have tY:∀b o,s.heap.get? b=some o->H b≠none->(PySem.W.hideAll s.heap (frs (X.env::X.outer))).get? b=some o:=fun b o q n=>hB b o q fun z=>n (free b z);have ok:iq X.prog X.w H h'':=I.hok.held tY fl.1;have up2:s.heap.UpToSlots h'':=(Heap.UpToSlots.of_keeps hx.keeps).trans up;refine⟨ea,C,t,_,H,rfl,I.os,I.bare,⟨fun b o q n nb _=>?_,fun b o q n hb _=>?_,fun b o q n _=>I.base.free b o q n (nex b),fun b o q _=>?_,I.base.tups,I.base.frzs,I.base.tbls⟩,ok,fl,fun b o o' q q' nb=>?_,fun b o q n=>?_,hE⟩
 ·exact fl.1 b o (hB b o (I.base.keep b o q n nb (nex b)) (old b o q nb))
 ·obtain⟨sl,e1⟩:=I.base.slot b o q n hb (nex b);obtain⟨_,o',ho',hd'⟩:=I.funs.mem hb;rw[e1] at ho';cases ho';obtain⟨sl2,e2⟩:=up2 b _ e1 hd';exact⟨sl2,e2⟩
 ·obtain⟨o',e1⟩:=I.base.there b o q (nex b);by_cases hb:b∈frs (X.env::X.outer)
  ·obtain⟨_,o2,ho2,hd2⟩:=hl.mem hb;rw[e1] at ho2;cases ho2;obtain⟨sl2,e2⟩:=up2 b _ e1 hd2;exact⟨_,e2⟩
  ·exact⟨o',fl.1 b o' (hB b o' e1 hb)⟩
 ·obtain⟨o2,e2⟩:=I.base.there b o q (nex b);have e3:=hB b o2 e2 (old b o q nb);have e4:=fl.1 b o2 e3;have q':h''.get? b=some o':=q';rw[q'] at e4;cases e4;exact e3
 ·cases e:H b with
  |none=>exact absurd e n
  |some u =>
   obtain⟨o2,e2⟩:=(I.hok b u e).there;have e3:=tY b o2 e2 n;have e4:=fl.1 b o2 e3;rw[q] at e4;cases e4;exact e3
theorem Inv.seen (I:Inv X pins σ H s)(hst:X.stack=X.env::X.outer)(hf:X.env.frame=some X.env.locals)(hex:X.ex=[]){s':Shared}{H':Hp}{B h3:Heap}(un:Un (frs X.stack) [] H H' s.heap s'.heap)(hB:∀b o o',s.heap.get? b=some o->s'.heap.get? b=some o'->b∉frs X.stack->B.get? b=some o')
  (st:B.StaysIn h3) (up:s'.heap.UpToSlots h3):Un X.fs [] X.H₀ H' X.s₀.heap h3/\(∀b o o',X.s₀.heap.get? b=some o->h3.get? b=some o'->b∉X.fs->B.get? b=some o')/\(∀b o,s.heap.get? b=some o->H b=none->b∉frs X.stack->h3.get? b=some o):=by
 have nex:∀b:Addr,b∉X.ex:=fun b z=>by rw[hex] at z;cases z
 have no:∀b:Addr,b∉([]:List Addr):=fun b z=>by cases z
 have old:∀b o,X.s₀.heap.get? b=some o->b∉X.fs->b∉frs X.stack:=fun b o e nb hb=>by
  rw[hst] at hb;unfold frs at hb;rw[aM,hf] at hb;rcases ay.mp hb with z|z
  ·subst z;exact absurd (ao (av e) I.ok.above) (aF _)
  ·exact nb z
 have kB:∀b o,s.heap.get? b=some o->H b=none->b∉frs X.stack->h3.get? b=some o:=fun b o q n nb=>st b o (hB b o o q (un.keep b o q n nb (no b)) nb);have nE:∀b,b∈X.fs->b∈frs X.stack:=fun b hb=>by
  rw[hst];unfold frs;rw[aM,hf];exact ak _ hb
 refine⟨⟨fun b o q n nb _=>?_,fun b o q n hb _=>?_,fun b o q n _=>?_,fun b o q _=>?_,fun b xs q=>un.tups b xs (I.base.tups b xs q),fun b o u q=>un.frzs b o u (I.base.frzs b o u q),fun b ps q=>?_⟩,fun b o o' q q' nb=>?_,kB⟩
 ·exact kB b o (I.base.keep b o q n nb (nex b)) (I.base.free b o q n (nex b)) (old b o q nb)
 ·obtain⟨sl,e1⟩:=I.base.slot b o q n hb (nex b);obtain⟨_,o',ho',hd'⟩:=I.funs.mem hb;rw[e1] at ho';cases ho';obtain⟨sl2,e2⟩:=un.slot b _ e1 (I.base.free b o q n (nex b)) (nE b hb) (no b);obtain⟨sl3,e3⟩:=up b _ e2 hd';exact⟨sl3,e3⟩
 ·obtain⟨o',e1⟩:=I.base.there b o q (nex b);exact un.free b o' e1 (I.base.free b o q n (nex b)) (no b)
 ·obtain⟨o1,e1⟩:=I.base.there b o q (nex b);obtain⟨o2,e2⟩:=un.there b o1 e1 (no b);by_cases hb:b∈X.fs
  ·obtain⟨_,o3,ho3,hd3⟩:=I.funs.mem hb;rw[e1] at ho3;cases ho3;have n:=I.stkFree b (nE b hb);obtain⟨sl2,e4⟩:=un.slot b _ e1 n (nE b hb) (no b);obtain⟨sl3,e5⟩:=up b _ e4 hd3;exact⟨_,e5⟩
  ·exact⟨o2,st b o2 (hB b o1 o2 e1 e2 (old b o q hb))⟩
 ·obtain⟨m1,e1⟩:=I.base.tbls b ps q;obtain⟨m2,e2⟩:=un.tbls b _ e1;exact⟨m1++m2,by rw[e2,bz]⟩
 ·obtain⟨o1,e1⟩:=I.base.there b o q (nex b);obtain⟨o2,e2⟩:=un.there b o1 e1 (no b);have e3:=hB b o1 o2 e1 e2 (old b o q nb);have e4:=st b o2 e3;rw[q'] at e4;cases e4;exact e3
theorem Inv.passes (I:Inv X pins σ H s)(hst:X.stack=X.env::X.outer)(hf:X.env.frame=some X.env.locals)(hex:X.ex=[]){e:Value}{s':Shared}{E:XK}(c:CX1 X.prog X.w X.stack H s E e s'){EE:Value->Shared->Prop} :
  wpAny (model X.prog X.w) X.A (leaving X.env e) (fun _ s''=>CX1 X.prog X.w X.outer X.H₀ X.s₀ E e s'') EE s':=by
 obtain⟨ea,C,t,B,H',rfl,os,bare,un,ok,fl,hB,hT,hE⟩:=c;have hfr:X.A.frames=some (X.env::X.outer):=by rw[<-hst];exact I.ok.frames
 rw[hst] at fl;refine wpAny_leaves_onW hfr hf fl fun h'' fl2 up=>?_;obtain⟨u2,hB2,_⟩:=I.seen hst hf hex un hB fl2.1 up;refine⟨ea,C,t,B,H',rfl,os.trans I.os,bare,u2,ok.held hT fl2.1,fl2,hB2,fun b o q n=>?_,hE⟩;cases e:H' b with
 |none=>exact absurd e n
 |some u =>
  obtain⟨o2,e2⟩:=(ok b u e).there;have e3:=hT b o2 e2 n;have e4:=fl2.1 b o2 e3;have q:h''.get? b=some o:=q;rw[q] at e4;cases e4;exact e3
theorem Inv.caught (I:Inv X pins σ H s)(hst:X.stack=X.env::X.outer)(hf:X.env.frame=some X.env.locals)(hex:X.ex=[])(hfn:∀x,X.fn x=true){s':Shared}{H':Hp}{B h3:Heap}(hos:s'.os=s.os)(hbare:AllBare s'.gens)(un:Un (frs X.stack) [] H H' s.heap s'.heap)(ok:iq X.prog X.w H' s'.heap)(hB:∀b o o',s.heap.get? b=some o->s'.heap.get? b=some o'->b∉frs X.stack->B.get? b=some o')
  (hT:∀b o,s'.heap.get? b=some o->H' b≠none->B.get? b=some o) (st:B.StaysIn h3) (up:s'.heap.UpToSlots h3):Inv X pins σ H' { s' with heap:=h3 }:=by
 obtain⟨u2,_,kB⟩:=I.seen hst hf hex un hB st up;have no:∀b:Addr,b∉([]:List Addr):=fun b z=>by cases z
 have locS:X.env.locals∈frs X.stack:=by
  rw[hst];unfold frs;rw[aM,hf];exact aB
 have fsS:∀b,b∈frs X.stack->b=X.env.locals\/b∈X.fs:=fun b hb=>by
  rw[hst] at hb;unfold frs at hb;rw[aM,hf] at hb;exact ay.mp hb
 have cellS:∀x c,X.env.cells.lookup x=some c->c∉frs X.stack:=fun x c e hc=>by
  rcases fsS c hc with z|z
  ·exact I.cne x c e z
  ·obtain⟨_,o,ho,_⟩:=I.ok.funs.mem z;exact absurd (ao (av ho) (I.ok.cab x c (hfn x) e)) (aF _)
 have ns:∀m,s.heap.Ns X.env.locals m->h3.Ns X.env.locals m:=fun m hn=>by
  obtain⟨o,es,ep,ho,hd,r⟩:=hn;obtain⟨sl,e1⟩:=un.slot _ o ho I.free locS (no _);obtain⟨sl2,e2⟩:=up _ _ e1 fun vs q=>by rw[hd] at q;cases q
  exact⟨_,es,ep,e2,hd,r⟩
 have isC:∀x c v,X.env.cells.lookup x=some c->s.heap.IsCell c v->h3.IsCell c v:=fun x c v e ⟨o,ho,hd⟩=>⟨o,kB c o ho (I.freeC x c e) (cellS x c e),hd⟩;obtain⟨m,hm,hv⟩:=I.loc;refine⟨I.ok,hos.trans I.os,hbare,by rw[hex];exact u2,⟨m,ns m hm,fun i x v h1 h2 h3'=>?_⟩,fun x c e=>?_,?_,fun x c e=>?_,fun p hp=>?_,ok.held hT st,I.len⟩
 ·obtain⟨u,r,l⟩:=hv i x v h1 h2 h3';refine⟨u,r,?_⟩;rcases l with l|⟨l1,c,l2,l3⟩
  ·exact .inl l
  ·exact .inr ⟨l1,c,l2,isC x c _ l2 l3⟩
 ·obtain⟨v,hv⟩:=I.cell x c e;exact⟨v,isC x c v e hv⟩
 ·obtain⟨o,_,_,ho,_⟩:=hm;exact un.free _ o ho I.free (no _)
 ·obtain⟨v,o,ho,_⟩:=I.cell x c e;exact un.free _ o ho (I.freeC x c e) (no _)
 ·obtain⟨p1,p2,p3,p4,p5⟩:=I.pin p hp;refine⟨kB _ _ p1 p2 fun hb=>?_,un.free _ _ p1 p2 (no _),p3,p4,p5⟩;rcases fsS _ hb with z|z
  ·exact p3 z
  ·exact p4 z
end
end L2
namespace DL
open PySem PySem.Spec PySem.SeqAt
open L2 (V Hp St HO VK TE TT TA TS TI TG Cx Inv PE PT PA PS PSs PI PG dr dq cw cX cg bZ bV cA cI EP TP AP SP c7 It)
theorem uw {K:Fg}{h:Heap}{C:Addr}{bmB:List Value}{newId:String}(X:K.In h)(q:PySem.W.excIn K C bmB newId=true) :
  ∃bm N nm q bs hd sn sub ab col dd k0 k1 k2 k3 k5 mN,h.get? C=some (excClassObj nm q C N bs bm hd sn sub ab col dd k0 k1 k2 k3 k5 newId)/\h.Ns N mN/\mN "__init__" = none/\OwnTail h bmB bm:=by
 unfold PySem.W.excIn at q;split at q
 case h_2=>cases q
 case h_1 d1 cls sls hob =>
  split at q
  case h_2=>cases q
  case h_1 D bs' x0 x1 x2 x3 nid x5 hmro hsls =>
   rw[Bool.and_eq_true,Bool.and_eq_true,Bool.and_eq_true,Bool.and_eq_true,Bool.and_eq_true,beq_iff_eq,beq_iff_eq,beq_iff_eq,Bool.not_eq_true'] at q;obtain⟨⟨⟨⟨⟨c1,c2⟩,c3⟩,c4⟩,c5⟩,c6⟩:=q;have at1:=X _ _ hob;have hsl2:sls=#[x0,x1,x2,x3,some (.builtin newId),x5]:=by
    rw[<-c2];exact Array.toList_inj.mp hsls
   subst c1;refine⟨bs',cls.ns,cls.name,cls.qualname,cls.bases,cls.hasDict,cls.slotNames,cls.subclasses,cls.abstract,cls.collection,d1,x0,x1,x2,x3,x5,h.nsMap cls.ns,?_,.of_isNs (PySem.W.isNs_of_in X c5),PySem.W.nsMap_none_of_in X c5 c6,PySem.W.tail_of_in X c4⟩;rw[at1,hsl2];obtain⟨b1,b2,b3,b4,b5,b6,b7,b8,b9,b10,b11⟩:=cls;have hm2:b3=.ref D::bs':=hmro;have hd2:b11=false:=c3;rw[hm2,hd2]
theorem nD {r:Vl}{n:Int}(h:dX r=some n):r=iE n:=by
 unfold dX at h;split at h
 ·cases h;rfl
 ·cases h
def pX (K:Fg)(B:List Addr)(H₀:Hp)(M₀:List Addr)(lad:Nat->Addr)(Z:Int->Hp->Prop)(E:c7)(fl:Fl):Prop:=match fl with
 | .ret r=>match dX r with
  |some n=>∀H M',fu M₀ H₀ M' H->Z n H
  |none=>o4 K B H₀ M₀ lad E (.ret r)
 |fl=>o4 K B H₀ M₀ lad E fl
theorem pX.ok {K:Fg}{B:List Addr}{H₀:Hp}{M₀:List Addr}{lad:Nat->Addr}{Z:Int->Hp->Prop}{E:c7}{fl:Fl}(h:pX K B H₀ M₀ lad Z E fl):o4 K B H₀ M₀ lad E fl:=by
 unfold pX at h;cases fl with
 |next ρ=>exact h
 |brk ρ=>exact h
 |cont ρ=>exact h
 |ret r =>
  dsimp only at h;split at h
  ·rename_i n hn;have:=nD hn;subst this;rintro v H ⟨_,⟨z,_⟩|⟨_,a,ds,vs,z,_⟩⟩
   ·cases z
   ·cases z
  ·exact h
noncomputable def uZ (K:Fg)(B:List Addr)(H₀:Hp)(M₀:List Addr)(lad:Nat->Addr)(Z:Int->Hp->Prop)(F:SD):TS:=fun E σ H=>∃ρ fl,SR K B H₀ M₀ lad ρ σ H/\F ρ=some fl/\pX K B H₀ M₀ lad Z E fl
def DZ (X:Cx)(Z:Int->Hp->Prop)(st:Stmt)(F:SD):Prop:=∀B H₀ M₀ lad,PS X st (uZ X.K B H₀ M₀ lad Z F)
def tS (X:Cx)(Z:Int->Hp->Prop)(st:List Stmt)(F:SD):Prop:=∀B H₀ M₀ lad,PSs X st (uZ X.K B H₀ M₀ lad Z F)
section
variable {X:Cx}{Z:Int->Hp->Prop}{st:Stmt}{sts de:List Stmt}{F G:SD}{pos:Pos}{c:Expr}{t:TD}
theorem tP (h:DS X.nox st F):DZ X Z st F:=fun B H₀ M₀ lad pins s σ H D I ⟨ρ,fl,hR,hf,k⟩ =>
 wpAny_mono (h B H₀ M₀ lad pins s σ H D (I.wish _) ⟨ρ,fl,hR,hf,k.ok⟩) (fun _ _ q=>q.unwish) fun _ _ z=>False.elim z
theorem nI (h:nY X.nox sts F):tS X Z sts F:=fun B H₀ M₀ lad pins s σ H D I ⟨ρ,fl,hR,hf,k⟩ =>
 wpAny_mono (h B H₀ M₀ lad pins s σ H D (I.wish _) ⟨ρ,fl,hR,hf,k.ok⟩) (fun _ _ q=>q.unwish) fun _ _ z=>False.elim z
theorem iF (h1:DZ X Z st F):tS X Z [st] F:=fun B H₀ M₀ lad=>L2.pss_one (h1 B H₀ M₀ lad)
theorem jr:tS X Z [] dA:=nI cY
theorem eZ (h1:DZ X Z st F)(h2:tS X Z de G):tS X Z (st::de) (cD F G):=fun B H₀ M₀ lad=>(L2.pss_cons (h1 B H₀ M₀ lad) (h2 B H₀ M₀ lad)).imp fun E σ H zz=>by
 obtain ⟨ρ,fl,hR,hf,k⟩:=zz;unfold cD at hf;cases hx:F ρ with
 |none=>rw[hx] at hf;cases hf
 |some fl1 =>
  rw[hx,aa] at hf;refine⟨ρ,fl1,hR,hx,?_⟩;cases fl1 with
  |next ρ'=>exact fun σ' H' r=>⟨ρ',fl,r,hf,k⟩
  |ret r=>cases hf;exact k
  |brk ρ'=>cases hf;exact k
  |cont ρ'=>cases hf;exact k
theorem ou (hc:DT X.nox c t)(ha:tS X Z sts F)(hb:tS X Z de G):DZ X Z (.If c sts de pos) (eM t F G):=fun B H₀ M₀ lad=>(L2.ps_if (L2.PT.nox hc) (ha B H₀ M₀ lad) (hb B H₀ M₀ lad)).imp fun E σ H zz=>by
 obtain ⟨ρ,fl,⟨M,hx,hB,hE⟩,hf,k⟩:=zz;unfold eM at hf;cases ht:t ρ with
 |none=>rw[ht] at hf;cases hf
 |some d =>
  rw[ht,aa] at hf;refine⟨ρ,_,M,lad,d,hE,ht,fun H1 s1=>?_⟩;have hR:SR X.K B H₀ M₀ lad ρ σ H1:=⟨M,hx.trans (.same s1),hB,hE.same s1⟩;cases d with
  |true=>dsimp only at hf ⊢;rw[if_pos rfl] at hf ⊢;exact⟨ρ,fl,hR,hf,k⟩
  |false=>dsimp only at hf ⊢;rw[if_neg Bool.false_ne_true] at hf ⊢;exact⟨ρ,fl,hR,hf,k⟩
theorem iG {x:Str}{C:Addr}{n:Int}{e0:Expr}{es:List Expr}{ta:AD}{np cpos:Pos}{B₀ newId initId:String}{bmB:List Value}(FB:ExcBaseFacts B₀ newId initId bmB)(ha:DA X.nox (e0::es) ta)(hm:X.mg x=some (.ref C))(hq:PySem.W.excIn X.K C bmB newId=true)(hc:X.calm=true)
  (hZ:∀(pins:List (Addr×Obj)) (σ:St) (H:Hp) (s:Shared) (h':Heap) (ea:Addr) (vs:List Value),Inv X pins σ H s->Heap.MadeExcOf s.heap h' ea (.ref C) vs->Z n H->X.xe (.ref ea) { s with heap:=h' })
  (hg:L2.Gl X x:=by rfl) (hdb:(x==("__debug__" : Str))=false:=by decide) (he:starEach (e0::es) X.env=(false,eval e0 X.env)::starEach es X.env:=by rfl) (hpl:(backTo cpos (starEach es X.env)).any (·.1)=false:=by rfl) :
  DZ X Z (.Raise (some (.Call (.Name x np) (e0::es) [] cpos)) none pos) (gu ta n):=fun B H₀ M₀ lad pins s σ H D I zz=>by
 obtain ⟨ρ,fl,⟨M,hx,hB,hE⟩,hf,k⟩:=zz;unfold gu at hf;cases ht:ta ρ with
 |none=>rw[ht] at hf;cases hf
 |some ds =>
  rw[ht,aa] at hf;split at hf
  case isFalse=>cases hf
  case isTrue hds =>
   cases hf;obtain⟨bm,N,nm,q,bs,hd,sn,sub,ab,col,dd,k0,k1,k2,k3,k5,mN,hC,hN,hni,T⟩:=uw I.mod.kin hq;have hpl':(backTo cpos (starEach (e0::es) X.env)).any (·.1)=false:=by
    rw[he];show (false||(backTo cpos (starEach es X.env)).any (·.1))=false;rw[hpl];rfl
   refine wpAny_Raise_call_subT (mN:=mN) (C:=C) (N:=N) (bm:=bm) (nm:=nm) (q:=q) (bs:=bs) (hdct:=hd) (sn:=sn) (sub:=sub) (ab:=ab) (col:=col) (dd:=dd) (k0:=k0) (k1:=k1) (k2:=k2) (k3:=k3) (k5:=k5) FB (T.hasType FB.hasBase) (I.ok.hd hc) hpl' hni (L2.ld_glob I hg hm ⟨rfl,?_⟩ hdb);have w:=ha cpos pins s σ H (fun vs H1=>cw H H1/\vs.length=ds.length) (I.wish _) ⟨ρ,_,M,lad,ds,hE,ht,fun vs H1 s1 q1=>⟨s1,q1.length.symm⟩⟩;have w2:=wpAny_mono (E':=X.xe) w (fun us s2 z=>z) fun _ _ z=>False.elim z;rw[he] at w2 ⊢;refine Calls.evalArgs_plain (wpAny_mono w2 (fun us s2 ⟨vs,H1,I1,r1,s1,l1⟩=>?_) fun _ _ z=>z);have I2:=I1.unwish;have lu:=r1.length;refine⟨rfl,?_,I2.bk _ _ hC,hN.keeps I2.bk,T.keeps I2.bk,fun h' ea hm'=>hZ pins σ H1 s2 h' ea us I2 hm' (k H1 M (hx.trans (.same s1)))⟩;show us.length<=sizeLine;exact jA ⋯
end
end DL
namespace DL
open PySem PySem.Spec PySem.W PyProof.Rows PySem.Builtin PySem.Builtin.ObjectAttr PySem.Builtin.Getset_descriptor
theorem pU:splitId "BaseException.__getattribute__" = some ("BaseException", "__getattribute__"):=by decide +kernel
theorem rK:builtinKind "BaseException.__getattribute__" = some .slot:=by decide +kernel
def jd (x D:Addr)(h:Heap):Prop:=∃o,h.get? x=some o/\o.cls=.ref D
theorem jd.type {x D:Addr}{M:Model}{h:Heap}(I:jd x D h):Looks M h (typeOf (.ref x)) (.ref D):=by
 obtain⟨o,h1,h2⟩:=I;rw[<-h2];exact (Looks.ld h1).andThen .now
section
variable {prog:Program}{w:World}{A:Around}{E:Value->Shared->Prop}{s:Shared}{K:Frag}{x D:Addr}
theorem tq {R:Result->Shared->Prop}{tp:Value}(X:K.In s.heap)(I:jd x D s.heap)(hm:mroIn K D (.type "object")=some true)(hr:R (.ok (.ret (.ref D))) s) :
  codeAny (model prog w) A (.call (.builtin "getset_descriptor.__get__") ⟨[.builtin "object.__class__", .ref x,tp],[]⟩) R s:=by
 obtain⟨hp,gg,dd,tt,oo⟩:=s;have T0:=I.type (M:=model prog w);have T1:=looks_mroIn (M:=model prog w) X hm;refine codeAny_call_builtin KF.slot_gs.plain KF.entry_gs ?_;refine KF.slot_gs.check _ _ _ _ _ _ _ _ KF.type_class (KF.args_gs _ _ _) ?_;unfold Builtin.«getset_descriptor.__get__»;unfold descrGet;rw[dga_obj];refine ag (aA ?_);unfold descrGetter descrCheckInstance;unfold descrNameAndClass isInstance;simp only[KF.owner_class]
 repeat lk
 refine⟨Code.quiet_builtin _ (by decide +kernel),?_⟩;refine codeAny_builtin KF.entry_class ?_;unfold Builtin.«object.__class__»;unfold shownTypeOf
 repeat lk
 exact hr
theorem pV {M:Model}{n:Value}{Q:Unit->Shared->Prop}(X:K.In s.heap)(I:jd x D s.heap)(hsub:subIn K (.ref D) (.type "BaseException")=some true)(hq:Q () s):wpAny M A (checkBuiltinCall "BaseException.__getattribute__" ⟨[.ref x,n],[]⟩) Q E s:=by
 obtain⟨h,g,d,t,os⟩:=s;have L0:=I.type (M:=M);have L1:Looks M h (isInstance (.ref x) (.type "BaseException")) true:=L0.andThen (looks_subIn X hsub);have ok:=F.args_bexc_ga (.ref x) n;simp only[checkBuiltinCall,rK,pU];refine ag (L1.at ?_);simp only[Bool.not_true,Bool.false_eq_true,if_false];cases hsig:Manifest.signature? "BaseException.__getattribute__" with
 |none=>exact aA hq
 |some sig =>
  simp only[argsOk,hsig] at ok;show wpAny M A (Bind.checkArgs "BaseException.__getattribute__" sig ⟨[.ref x,n],[]⟩) Q E _;rw[show Bind.checkArgs "BaseException.__getattribute__" sig ⟨[.ref x,n],[]⟩=pure () from ok];exact aA hq
theorem pF {Q:Option Value->Shared->Prop}(X:K.In s.heap)(I:jd x D s.heap)(hga:findIn K (.ref D) "__getattribute__" = some (some (.builtin "BaseException.__getattribute__")))(hhk:findIn K (.ref D) "__getattr__" = some none)(hsub:subIn K (.ref D) (.type "BaseException")=some true)
  (ha:findIn K (.ref D) "__class__" = some (some (.builtin "object.__class__"))) (hn:specialIn K (.builtin "object.__class__") "__get__" = some (some (.builtin "getset_descriptor.__get__"))) (htk:takesIn K (.builtin "object.__class__")=some true) (hm:mroIn K D (.type "object")=some true)
  (h:Q (some (.ref D)) { s with toks:=s.toks+1 }):wpAny (model prog w) A (getAttr? (.ref x) "__class__") Q E s:=by
 obtain⟨hh,g,d,t,os⟩:=s;have L0:=I.type (M:=model prog w);have L1:=looks_findIn (M:=model prog w) X hga;have L2:=looks_findIn (M:=model prog w) X hhk;have L4:=looks_takesIn (M:=model prog w) X htk;have L3:Looks (model prog w) hh (Builtin.ObjectAttr.find (.ref x) (.ref D) "__class__") (.bind (.builtin "getset_descriptor.__get__") (.builtin "object.__class__")) :=
  (looks_findIn X ha).andThen ((looks_specialIn X hn).andThen ((show Looks (model prog w) hh (Builtin.ObjectAttr.dataDescriptor? (some (.builtin "object.__class__")) (some (.builtin "getset_descriptor.__get__"))) (some (.builtin "getset_descriptor.__get__", .builtin "object.__class__")) from L4.andThen .now).andThen (Looks.tag .now)))
 unfold getAttr? getAttrBy? getAttrBy;refine ag (wpAny_mkText (ag (wpAny_attempt (bI (ag (L0.at (ag (L1.at ?_))))))));have hne:(onTheHeap (Value.ref D)&&(Value.builtin "BaseException.__getattribute__" == .builtin "object.__getattribute__"))=false:=by
  rw[show (Value.builtin "BaseException.__getattribute__" == .builtin "object.__getattribute__")=false by decide];exact Bool.and_false _
 dsimp only;rw[if_neg (by rw[hne];exact Bool.false_ne_true)];unfold getAttrByItsOwn hookBefore;rw[if_pos (by rfl)];refine ag (L2.at ?_);refine ag (wpAny_attempt (bI ?_));unfold callGetattribute;rw[if_neg (by simp)];unfold boundAndCalled;refine ag (wpAny_of_eq (F.excAttr_ValueError.ga.bind (.ref x)) ?_);refine wpAny_call (codeAny_call_builtin F.excAttr_ValueError.ga.plain F.entry_bexc_ga (pV X I hsub ?_));unfold Builtin.«object.__getattribute__»;unfold slotArgs;simp only[List.isEmpty_nil,Bool.not_true,Bool.false_eq_true,if_false,bt,bE,ai,bT];rw[if_neg (by decide)];refine ag (aA ?_);dsimp only;unfold Builtin.ObjectAttr.attrName;refine ag (aA ?_);refine ag (L0.at (ag (L3.at ?_)));dsimp only;unfold Builtin.ObjectAttr.bindTo;dsimp only;refine ag (bI (wpAny_call (tq (s:=⟨hh,g,d,t+1,os⟩) X I hm (aA ?_))));exact W.handed_on rfl (aA h)
structure fN (K:Frag)(D:Addr):Prop where
 ga:findIn K (.ref D) "__getattribute__" = some (some (.builtin "BaseException.__getattribute__"))
 hk:findIn K (.ref D) "__getattr__" = some none
 sub:subIn K (.ref D) (.type "BaseException")=some true
 ha:findIn K (.ref D) "__class__" = some (some (.builtin "object.__class__"))
 hn:specialIn K (.builtin "object.__class__") "__get__" = some (some (.builtin "getset_descriptor.__get__"))
 tk:takesIn K (.builtin "object.__class__")=some true
 hm:mroIn K D (.type "object")=some true
 ex:∃bmB newId,excIn K D bmB newId=true
theorem fN.look {K:Frag}{D:Addr}(e:fN K D):∃dd cd sl,K.lookup D=some ⟨.type "type", dd,.cls cd,sl⟩:=by
 obtain⟨bmB,newId,q⟩:=e.ex;unfold excIn at q;split at q
 case h_1 d1 cls sls hob=>exact⟨_,_,_,hob⟩
 case h_2=>cases q
theorem fN.some {K:Frag}{D:Addr}(e:fN K D):(clsIn K D).isSome=true:=by
 obtain⟨dd,cd,sl,h⟩:=e.look;unfold clsIn;rw[h];rfl
theorem qM {K:Frag}{x D:Addr}(e:fN K D):KitX K (.ref x) (.ref D) (jd x D) where
 ty:=fun _ _ _ I=>I.type
 it:=fun _ _ X _=>by
  obtain⟨dd,cd,sl,hl⟩:=e.look;intro A' Q' E' s' k q;unfold isType loadHead;exact ag (wpAny_loadPart (k _ _ (X _ _ hl)) (aA q))
 ne:=fun h tp dd its n sl X htp=>by
  obtain⟨d2,cd,sl2,hl⟩:=e.look;refine Bool.eq_false_iff.mpr fun q=>?_;have e2:D=tp:=Value.ref.inj (beq_iff_eq.mp q);rw[<-e2,X _ _ hl] at htp;simp at htp
 ca:=fun X I k=>pF X I e.ga e.hk e.sub e.ha e.hn e.tk e.hm k
theorem sS {c:Value}{b:Bool}{Q:Value->Shared->Prop}(e:fN K D)(X:K.In s.heap)(I:jd x D s.heap)(hk:kitOne K (.ref D) c=some b)(h:∀tk,Q (.bool b) { s with toks:=tk }):wpAny (model prog w) A (call (.builtin "isinstance") [.ref x,c]) Q E s :=
 kia_one (qM e) X I hk (by intro q;cases q) h
end
end DL
namespace DL
open PySem PySem.Spec PySem.SeqAt
open L2 (V Hp St HO VK TE TT TA TS TI TG Cx Inv PE PT PA PS PSs PI PG dr dq cw cX cg bZ bV cA cI EP TP AP SP c7 It)
noncomputable def vi (K:Fg)(F:FD)(cls:Int->Addr):L2.Sp:=fun vs H Q E=>∃ds O r,Rs K H O ds vs/\(∀a∈O,∃u,H a=some (oW u))/\F ds=some r ∧
 (match dX r with|some n=>∀H',cw H H'->E (.ref (cls n)) none H'|none=>∀v H',cw H H'->j9 K H O H' r v->Q v H')
theorem nF {P:Program}{w:World}{K:Fg}{mg:Str->Option Value}{base:Heap}{x qual:Str}{st:Stmt}{f:Addr}{fd:FuncData}{N ps:List Str}{k:Nat}{b:SD}{cls:Int->Addr}(F:L2.Fun K x qual st f fd)(S:L2.FnScope N ps (L2.defScope st))
  (hb:∀(cdv:Value) (A:Around) (outer:List Env) (s:Shared) (H:Hp) (E:L2.XK),L2.Room k (A.deeper (PyProof.Rows.envOfC qual (L2.defScope st) s.heap.objs.size f cdv))->tS (L2.cxOf (L2.CX1 P w) P w K mg base N qual (L2.defScope st) f cdv A outer s H E) (fun n H'=>E (.ref (cls n)) none H') (L2.defBody st) b) :
  L2.FnOk P w K mg base (L2.CX1 P w) (k+1) f fd ps (vi K (gO ps.length (N.length-ps.length) b) cls):=by
 obtain⟨oc,od,kV,doc,pm,an,cdv,ct,osl,rfl,lk,hcd⟩:=F.ex;refine L2.fn_of lk hcd S (fun vs H Q E zz=>by obtain ⟨ds,B,r,q,_,hF,_⟩:=zz; rw[<-q.length];exact jq hF) fun A outer s H vs Q E hr zz=>?_;obtain ⟨ds,B,r,q,tr,hF,kk⟩:=zz;have hl:=jq hF;refine⟨_,hb cdv A outer s H E hr B H [] (fun _=>f),?_⟩;unfold gO at hF;rw[if_pos hl] at hF;cases hfl:b (ds.map (fun d=>some (d,false))++a8 (N.length-ps.length) none) with
 |none=>rw[hfl] at hF;cases hF
 |some fl =>
  rw[hfl,aa] at hF;have same:∀{M':List Addr}{H':Hp},fu [] H M' H'->cw H H':=fun x b o e=>x.keep b o (fun z=>(nomatch z)) e;refine⟨_,fl,⟨[],.refl [] H,(fun _ z=>nomatch z),?_⟩,hfl,?_⟩
  ·have z:=mh (m:=N.length-ps.length) q tr (fun _=>f);unfold L2.start;rw[<-q.length,hl];exact z
  ·cases fl with
   |next ρ =>
    cases hF;exact fun σ H' ⟨M',x,_,_⟩=>kk _ H' (same x) (.of .none)
   |ret r' =>
    cases hF;unfold pX;dsimp only;split
    ·rename_i n hn;rw[hn] at kk;exact fun H' M' x=>kk H' (same x)
    ·rename_i hn;rw[hn] at kk;refine fun v H' ⟨⟨M',x⟩,q'⟩=>kk v H' (same x) ?_;rcases q' with q'|⟨e,a,es,us,e1,e2,e3,e4,q'⟩
     ·exact .inl q'
     ·exact .inr ⟨e,a,es,us,e1,e2,e3.elim (fun z=>(nomatch z)) id,e4,q'⟩
   |brk ρ=>cases hF
   |cont ρ=>cases hF
structure j7 (P:Program)(w:World)(K:Fg)(mg:Str->Option Value)(base:Heap)(k:Nat)(x:Str)(ps:List Str)(F:FD)(cls:Int->Addr):Prop where
 ex:∃(fa:Addr) (fd:FuncData),L2.FnOk P w K mg base (L2.CX1 P w) k fa fd ps (vi K F cls)/\mg x=some (.ref fa)/\PySem.W.keepIn K (.ref fa)=true/\L2.Binds K fd ps []
noncomputable def excAt (ea:Addr)(oe:Obj):Heap->Prop:=fun h=>h.get? ea=some oe
noncomputable def wx (K:Fg)(C:Addr):List V->Hp->VK->Prop:=fun vs H Q=>∃ea oe cv c b,vs=[.ref ea,cv]/\cI cv c/\(∀u,cI cv u->u=c)/\H ea=some (.ext (excAt ea oe))/\oe.cls=.ref C/\PySem.W.kitOne K (.ref C) c=some b/\Q (.bl b) H
theorem mS {X:Cx}{C:Addr}(e:fN X.K C):L2.CallR X (.builtin "isinstance") (wx X.K C):=by
 intro pins s σ H xs us Q I r h;obtain⟨ea,oe,cv,c,b,rfl,rc,uq,hH,ho,hk,q⟩:=h;cases r with
 |@cons _ u1 _ r2 h1 h2 =>
  obtain⟨u2,rfl,h3⟩:=cA.one h2;cases (show u1=Value.ref ea from h1);have z:=uq u2 h3;subst z;have ok:=(I.hok ea _ hH).1;exact sS e I.kIn ⟨oe,ok,ho⟩ hk fun tk=>⟨.bl b,H,I.tok tk,rfl,q⟩
end DL
namespace L2
open PySem PySem.Spec PyProof.Rows
section
variable {X:Cx}{pins:List (Addr×Obj)}{σ:St}{H:Hp}{s:Shared}
noncomputable abbrev Cx.held (X:Cx)(ea:Addr)(E:Value->Shared->Prop):Cx:={ X with A:=X.A.mark (some (.ref ea)),calm:=false,xe:=E }
theorem Inv.held (I:Inv X pins σ H s)(ea:Addr)(E:Value->Shared->Prop):Inv (X.held ea E) pins σ H s :=
 ⟨⟨I.ok.mod,I.ok.kind,I.ok.glob,I.ok.blt,I.ok.above,I.ok.inj,I.ok.has,I.ok.cab,(fun z=>by cases z),I.ok.frames,I.ok.stk,I.ok.exf,I.ok.bs,I.ok.bsz,I.ok.noex,I.ok.exfs,I.ok.funs,I.ok.frf⟩,I.os,I.bare,I.base,I.loc,I.cell,I.free,I.freeC,I.pin,I.hok,I.len⟩
theorem Inv.unheld {ea:Addr}{E:Value->Shared->Prop}(ok:X.Ok)(I:Inv (X.held ea E) pins σ H s):Inv X pins σ H s:=⟨ok,I.os,I.bare,I.base,I.loc,I.cell,I.free,I.freeC,I.pin,I.hok,I.len⟩
theorem Inv.track (I:Inv X pins σ H s){ea:Addr}{oe:Obj}(he:s.heap.get? ea=some oe)(hn:H ea=none)(h0:X.s₀.heap.get? ea=none)(hl:ea≠X.env.locals)(hc:∀x c,X.env.cells.lookup x=some c->c≠ea)(hp:∀p∈X.pn++pins,p.1≠ea) :
  Inv X pins σ (cX H ea (.ext (DL.excAt ea oe))) s:=by
 have ne:∀b o,H b=some o->b≠ea:=fun b o e=>bV e hn;have ne0:∀b o,X.s₀.heap.get? b=some o->b≠ea:=fun b o e z=>by subst z;rw[h0] at e;cases e
 refine⟨I.ok,I.os,I.bare,⟨I.base.keep,I.base.slot,fun b o q n x=>by rw[bZ (ne0 b o q)];exact I.base.free b o q n x,I.base.there,fun b xs q=>?_,fun b o u q=>?_,fun b ps q=>?_⟩,I.loc,I.cell,by rw[bZ (Ne.symm hl)];exact I.free,fun x c e=>by rw[bZ (hc x c e)];exact I.freeC x c e,fun p q=>?_,fun a o e=>?_,I.len⟩
 ·have:=I.base.tups b xs q;rw[bZ (ne b _ this)];exact this
 ·have:=I.base.frzs b o u q;rw[bZ (ne b _ this)];exact this
 ·obtain⟨m,e⟩:=I.base.tbls b ps q;exact⟨m,by rw[bZ (ne b _ e)];exact e⟩
 ·obtain⟨p1,p2,p3⟩:=I.pin p q;exact⟨p1,by rw[bZ (hp p q)];exact p2,p3⟩
 ·by_cases z:a=ea
  ·subst z;rw[cg] at e;cases e;exact⟨he,⟨oe,he⟩,fun h1 h2 k q=>q _ k⟩
  ·rw[bZ z] at e;exact (I.hok a o e).stay (fun b u _ q=>q) (fun b q=>by rw[bZ (ne b _ q)];exact q) fun b xs q=>by rw[bZ (ne b _ q)];exact q
theorem _root_.List.Nodup.index {α:Type}:∀{l:List α}{i j:Nat}{x:α},l.Nodup->l[i]?=some x->l[j]?=some x->i=j
 |[],i,j,x,_,h,_=>by simp at h
 |a::l,0,0,x,_,_,_=>rfl
 | a::l,0,j+1,x,n,h,k=>by
  rw[List.getElem?_cons_zero] at h;cases h;rw[bN] at k;exact absurd (aX k) (bh.mp n).1
 | a::l,i+1,0,x,n,h,k=>by
  rw[List.getElem?_cons_zero] at k;cases k;rw[bN] at h;exact absurd (aX h) (bh.mp n).1
 | a::l,i+1,j+1,x,n,h,k=>by
  rw[bN] at h k;rw[List.Nodup.index (bh.mp n).2 h k]
theorem Inv.gone (I:Inv X pins σ H s)(hN:X.N.Nodup){n:Str}{ie:Nat}(hi:X.N[ie]?=some n){m:Str->Option Value}(hv:∀(i:Nat) (x:Str) (v:V),X.N[i]?=some x->σ[i]?=some (some v)->Vis X.env.scope x->∃u,cI v u/\vW X.env s.heap m x u){h':Heap}{v:Option Value}{tk:Nat}
  (hn:h'.Ns X.env.locals (fun x=>if x=n then v else m x)) (hs:Heap.SameBut X.env.locals s.heap h'):Inv X pins (σ.set ie none) H { s with heap:=h',toks:=tk }:=by
 have same:∀b,b≠X.env.locals->h'.get? b=s.heap.get? b:=hs.2;have ne0:∀b o,X.s₀.heap.get? b=some o->b≠X.env.locals:=fun b o e z=>by
  subst z;exact absurd (ao (av e) I.ok.above) (aF _)
 have tr:∀b o,H b=some o->b≠X.env.locals:=fun b o e=>bV e I.free;refine⟨I.ok,I.os,I.bare,⟨fun b o q n1 n2 n3=>(same b (ne0 b o q)).trans (I.base.keep b o q n1 n2 n3),fun b o q n1 n2 n3=>?_,I.base.free,fun b o q x=>?_,I.base.tups,I.base.frzs,I.base.tbls⟩,⟨_,hn,fun i x u h1 h2 h3=>?_⟩,fun x c e=>?_,I.free,I.freeC,fun p q=>?_,fun a o e=>?_,by rw[aV];exact I.len⟩
 ·obtain⟨sl,e⟩:=I.base.slot b o q n1 n2 n3;exact⟨sl,(same b (ne0 b o q)).trans e⟩
 ·obtain⟨o',e⟩:=I.base.there b o q x;exact⟨o',(same b (ne0 b o q)).trans e⟩
 ·have hne:ie≠i:=fun z=>by
   subst z;by_cases hl:ie<σ.length
   ·rw[aj hl] at h2;cases h2
   ·rw[List.getElem?_eq_none (by rw[aV];omega)] at h2;cases h2
  rw[af hne] at h2;obtain⟨w,r,l⟩:=hv i x u h1 h2 h3;have hx:x≠n:=fun z=>by
   subst z;exact hne (List.Nodup.index hN hi h1)
  refine⟨w,r,?_⟩;rcases l with ⟨l1,l2⟩|⟨l1,c,l2,l3⟩
  ·exact .inl ⟨l1,(if_neg hx).trans l2⟩
  ·obtain⟨o,ho,hd⟩:=l3;exact .inr ⟨l1,c,l2,o,(same c (I.cne x c l2)).trans ho,hd⟩
 ·obtain⟨u,o,ho,hd⟩:=I.cell x c e;exact⟨u,o,(same c (I.cne x c e)).trans ho,hd⟩
 ·obtain⟨p1,p2,p3,p4⟩:=I.pin p q;exact⟨(same _ p3).trans p1,p2,p3,p4⟩
 ·exact (I.hok a o e).stay (fun b u hb q=>(same b (by
   rcases hb with z|z
   ·subst z;exact tr _ _ e
   ·exact tr _ _ z)).trans q) (fun _ q=>q) fun _ _ q=>q
end
end L2
namespace DL
open PySem PySem.Spec PySem.SeqAt
open L2 (V Hp St HO VK TE TT TA TS TI TG Cx Inv PE PT PA PS PSs PI PG dr dq cw cX cg bZ bV cA cI EP TP AP SP c7 It)
def Holds (C:Addr)(i:Nat)(σ:St)(H:Hp):Prop:=∃ea oe,σ[i]?=some (some (.ref ea))/\H ea=some (.ext (excAt ea oe))/\oe.cls=.ref C
noncomputable def vo (C:Addr)(i:Nat)(b:Bool):TE:=fun σ H Q=>Holds C i σ H/\Q (.bl b) H
section
variable {X:Cx}{C Cc:Addr}{i:Nat}{b:Bool}{en cn:Str}{p p1 p2 pos:Pos}{T:String}
theorem n9 (e:fN X.K C)(hm:X.mg "isinstance" = none)(hmc:X.mg cn=some (.ref Cc))(hk:PySem.W.kitOne X.K (.ref C) (.ref Cc)=some b)(hN:X.N[i]?=some en:=by rfl)(hv:L2.Vis X.env.scope en:=by first|exact Or.inl rfl|exact Or.inr (Or.inl rfl))(hg:L2.Gl X "isinstance" := by rfl)(hgc:L2.Gl X cn:=by rfl)
  (hd1:(en==("__debug__" : Str))=false:=by decide) (hd2:(en==("__classdict__" : Str))=false:=by decide) (hd3:(cn==("__debug__" : Str))=false:=by decide)
  (he:starEach [.Name en p1,.Name cn p2] X.env=(false,eval (.Name en p1) X.env)::starEach [.Name cn p2] X.env:=by rfl) (he2:starEach [.Name cn p2] X.env=(false,eval (.Name cn p2) X.env)::starEach [] X.env:=by rfl) (hpl:(backTo pos (starEach [.Name cn p2] X.env)).any (·.1)=false:=by rfl) :
  PE X (.Call (.Name "isinstance" p) [.Name en p1,.Name cn p2] [] pos) (vo C i b) :=
 (L2.pe_callB (mS e) hg hm PyProof.Rows.boot_isinstance (L2.pa_cons (L2.pe_var hN hv hd1 hd2) (L2.pa_cons (L2.pe_glob (v:=.ref Cc) hgc hmc rfl hd3) L2.pa_nil he2) he) (by decide) (by decide) he hpl).imp fun σ H Q ⟨⟨ea,oe,h1,h2,h3⟩,q⟩ =>
  ⟨_,h1,ea,oe,.ref Cc,.ref Cc,b,rfl,rfl,fun u r=>r,h2,h3,hk,q⟩
theorem se (e:fN X.K C)(hm:X.mg "isinstance" = none)(hmc:X.mg cn=none)(hvc:bootBuiltins cn=some (.type T))(hk:PySem.W.kitOne X.K (.ref C) (.type T)=some b)(hN:X.N[i]?=some en:=by rfl)(hv:L2.Vis X.env.scope en:=by first|exact Or.inl rfl|exact Or.inr (Or.inl rfl))(hg:L2.Gl X "isinstance" := by rfl)(hgc:L2.Gl X cn:=by rfl)
  (hd1:(en==("__debug__" : Str))=false:=by decide) (hd2:(en==("__classdict__" : Str))=false:=by decide) (hd3:(cn==("__debug__" : Str))=false:=by decide) (hn:cn ≠ "__name__" := by decide)
  (he:starEach [.Name en p1,.Name cn p2] X.env=(false,eval (.Name en p1) X.env)::starEach [.Name cn p2] X.env:=by rfl) (he2:starEach [.Name cn p2] X.env=(false,eval (.Name cn p2) X.env)::starEach [] X.env:=by rfl) (hpl:(backTo pos (starEach [.Name cn p2] X.env)).any (·.1)=false:=by rfl) :
  PE X (.Call (.Name "isinstance" p) [.Name en p1,.Name cn p2] [] pos) (vo C i b) :=
 (L2.pe_callB (mS e) hg hm PyProof.Rows.boot_isinstance (L2.pa_cons (L2.pe_var hN hv hd1 hd2) (L2.pa_cons (L2.pe_bltn (v:=.ty T) hgc hmc hvc rfl hn hd3) L2.pa_nil he2) he) (by decide) (by decide) he hpl).imp fun σ H Q ⟨⟨ea,oe,h1,h2,h3⟩,q⟩ =>
  ⟨_,h1,ea,oe,.ty T,.type T,b,rfl,rfl,fun u r=>r,h2,h3,hk,q⟩
end
noncomputable def uH (K:Fg)(C:Addr)(i:Nat)(r:Vl):TE:=fun σ H Q=>Holds C i σ H/\∀v H',cw H H'->(∀O,j9 K H O H' r v)->Q v H'
section
variable {X:Cx}{C:Addr}{i:Nat}{b1 b2 b3:Bool}{e1 e2 e3:Expr}{kk:Nat}{pos:Pos}
theorem vJ (h1:PE X e1 (vo C i b1))(h2:PE X e2 (vo C i b2))(h3:PE X e3 (vo C i b3))(he1:starEach [e1,e2,e3] X.env=(false,eval e1 X.env)::starEach [e2,e3] X.env:=by rfl)(he2:starEach [e2,e3] X.env=(false,eval e2 X.env)::starEach [e3] X.env:=by rfl)(he3:starEach [e3] X.env=(false,eval e3 X.env)::starEach [] X.env:=by rfl) :
  PE X (.List [e1,e2,e3] pos) (uH X.K C i (.list [.bool b1,.bool b2,.bool b3],true)) :=
 (L2.pe_lst (L2.pa_cons h1 (L2.pa_cons h2 (L2.pa_cons h3 L2.pa_nil he3) he2) he1)).imp fun σ H Q (h:uH X.K C i _ σ H Q)=>by
  obtain⟨hh,q⟩:=h;refine⟨hh,hh,hh,vg,fun a ha=>?_⟩;have s2:cw H (cX H a (.lst [.bl b1,.bl b2,.bl b3])):=fun b o e=>by rw[bZ (bV e ha)];exact e
  exact q _ _ s2 fun O=>(.inr ⟨rfl,a,_,_,rfl,rfl,ha,cg,.cons (.bool _) (.cons (.bool _) (.cons (.bool _) .nil))⟩)
end
end DL
namespace DL
open PySem PySem.Spec PySem.SeqAt
open L2 (V Hp St HO VK TE TT TA TS TI TG Cx Inv PE PT PA PS PSs PI PG dr dq cw cX cg bZ bV cA cI EP TP AP SP c7 It)
section
variable {X:Cx}{pins:List (Addr×Obj)}{σ:St}{H:Hp}{s:Shared}
theorem pP {C Ch:Addr}{cn en:Str}{hx:Expr}{np hp hrp:Pos}{ie:Nat}{r':Vl}{D:c7}{E:L2.XK}{e:Value}{s':Shared}(I:Inv X pins σ H s)(hst:X.stack=X.env::X.outer)(hf:X.env.frame=some X.env.locals)(hex:X.ex=[])(hfn:∀x,X.fn x=true)(hN:X.N.Nodup)(hi:X.N[ie]?=some en)
  (hloc:X.env.scope.names.lookup en=some .local) (c:L2.CX1 X.prog X.w X.stack H s E e s') (hE:∀cv dx H',E cv dx H'->cv=.ref C/\cw H H') (hmc:X.mg cn=some (.ref Ch)) (hgc:L2.Gl X cn) (hdc:(cn==("__debug__" : Str))=false) (hm1:PySem.W.exmOne X.K (.ref C) (.ref Ch)=some true)
  (HP:∀(ea:Addr) (E2:Value->Shared->Prop),PE (X.held ea E2) hx (uH X.K C ie r')) (k:∀v H' H2,cw H H2->cw H2 H'->(∀O,j9 X.K H2 O H' r' v)->D.rt v H') :
  wpAny (model X.prog X.w) X.A (noteFrame e X.env) (fun _ s₂=>wpAny (model X.prog X.w) X.A (setFlight e none) (fun _ s₃=>wpAny (model X.prog X.w) X.A (handleBy e X.env [.ExceptHandler (some (.Name cn np)) (some en) [.Return (some hx) hrp] hp]) (SP X pins D) X.xe s₃) X.xe s₂) X.xe s':=by
 obtain⟨ea,C',t,B,H',rfl,os,bare,un,ok,fl,hB,hT,hE'⟩:=c;obtain⟨hc,hsame⟩:=hE _ _ _ hE';cases hc;have hfr:X.A.frames=some (X.env::X.outer):=by rw[<-hst];exact I.ok.frames
 rw[hst] at fl;refine wpAny_looks_onW hfr hf fl fun h4 held4 up4=>wpAny_landsW held4 fun h5 fl5 up5=>?_;have up25:=up4.trans up5;have I5:Inv X pins σ H' { s' with heap:=h5 }:=I.caught hst hf hex hfn os bare un ok hB hT fl5.1 up25;have ty5:jd ea C h5:=fl5.there;refine wpAny_handleBy_cons (codeAny_handlers_test (L2.ld_glob (I5.held ea X.xe) hgc hmc ?_ hdc)) (by intro q;cases q);refine (PySem.W.exm_one I5.kIn ty5.type hm1).here ?_;refine codeAny_handlers_suite_as ?_;refine PyProof.Rows.lands_againW fl5 fun h6 fl6 up6=>?_;have I6:Inv X pins σ H' { s' with heap:=h6 }:=I.caught hst hf hex hfn os bare un ok hB hT fl6.1 (up25.trans up6);obtain⟨oe,he,hoc⟩:=fl6.there;have no:∀b:Addr,b∉([]:List Addr):=fun b z=>by cases z
 have fld:∃vs,oe.data=.fields vs:=by
  obtain⟨oe2,vs,_,_,_,g1,_,g2,_⟩:=fl6.2.2.2;rw[he] at g1;cases g1;exact⟨vs,g2⟩
 have notF:ea∉L2.frs (X.env::X.outer):=fun hm=>by
  obtain⟨_,o,ho,hd⟩:=fl6.2.2.1.mem hm;rw[he] at ho;cases ho;obtain⟨vs,hv⟩:=fld;exact hd vs hv
 have old:∀b o,s.heap.get? b=some o->b≠ea:=fun b o q z=>by
  subst z;obtain⟨o2,e2⟩:=un.there b o q (no b);have e3:=hB b o o2 q e2 (by rw[hst];exact notF);rw[fl6.2.1] at e3;cases e3
 have hn:H' ea=none:=by
  cases q:H' ea with
  |none=>rfl
  |some u =>
   obtain⟨o2,e2⟩:=(ok ea u q).there;have e3:=hT ea o2 e2 (by rw[q];simp);rw[fl6.2.1] at e3;cases e3
 have h0:X.s₀.heap.get? ea=none:=by
  cases q:X.s₀.heap.get? ea with
  |none=>rfl
  |some o =>
   obtain⟨o1,e1⟩:=I.base.there ea o q (by rw[hex];exact no ea);exact absurd rfl (old ea o1 e1)
 have hl:ea≠X.env.locals:=fun z=>by
  obtain⟨m,⟨o,_,_,ho,_⟩,_⟩:=I.loc;exact old _ o ho z.symm
 have hcl:∀x c,X.env.cells.lookup x=some c->c≠ea:=fun x c q=>by
  obtain⟨v,o,ho,_⟩:=I.cell x c q;exact old c o ho
 have I7:=I6.track he hn h0 hl hcl fun p q=>old _ _ (I.pin p q).1;have hs7:cw H (cX H' ea (.ext (excAt ea oe))):=fun b o q=>by
  have:=hsame b o q;rw[bZ (bV this hn)];exact this
 refine L2.store_ok I7 hN hi (.inl hloc) (v:=.ref ea) rfl (fun s7 I8=>?_) (.inr hloc);have hie:ie<σ.length:=by rw[I.len];exact (ax.mp hi).1
 refine wpAny_mono (L2.pss_one (L2.ps_ret (HP ea _)) pins s7 _ _ { nx:=fun _ _=>False,rt:=fun v H9=>cw (cX H' ea (.ext (excAt ea oe))) H9/\∀O,j9 X.K (cX H' ea (.ext (excAt ea oe))) O H9 r' v } (I8.held ea _) ⟨⟨ea,oe,aj hie,cg,hoc⟩,fun v H9 s9 q9=>⟨s9,q9⟩⟩) (fun f s8 q=>?_) fun _ _ z=>z;cases f with
 |next=>obtain⟨_,_,_,z⟩:=q;exact z.elim
 |brk=>obtain⟨_,_,_,z⟩:=q;exact z.elim
 |cont=>obtain⟨_,_,_,z⟩:=q;exact z.elim
 |ret u =>
  obtain⟨v,σ',H9,J,rv,s9,q9⟩:=q;have J':=J.unheld I.ok;obtain⟨m,hm,hv⟩:=J'.loc;refine wpAny_nameGoes_keeps (show X.env.kindOf en=some .local from hloc) hm (by rw[I.ok.kind];rfl) fun h' w hn' hs'=>?_;exact⟨v,_,H9,J'.gone hN hi hv hn' hs',rv,k v H9 _ hs7 s9 q9⟩
theorem m9 {k:Nat}{f:Addr}{fd:FuncData}{ps:List Str}{sp:L2.Sp}{us:List Value}{vs:List V}{Q:VK}{E:L2.XK}{EE:Value->Shared->Prop}(F:L2.FnOk X.prog X.w X.K X.mg X.base (L2.CX1 X.prog X.w) k f fd ps sp)(hr:L2.Room k X.A)(hb:L2.Binds X.K fd ps [])(I:Inv X pins σ H s)(r:cA vs us)(h:sp vs H Q E)
  (hx:∀e s',L2.CX1 X.prog X.w X.stack H s E e s'->EE e s'):wpAny (model X.prog X.w) X.A (call (.ref f) us) (EP X pins σ Q) EE s:=by
 have lu:us.length=ps.length:=by rw[<-r.length];exact F.len _ _ _ _ h
 have hb':=hb s us I.kIn (by rw[aO];exact lu);rw[aO] at hb';have go:=F.run X.A X.stack s H ⟨us,[]⟩ us vs Q E hr I.env0 hb' r h;refine wpAny_call (codeAny_mono go fun res s' q=>?_)
 match res,q with
 |.error e,q=>exact hx e s' q
 |.ok (.ret u),q=>exact I.after q
theorem uF {F:FD}{cls:Int->Addr}{C Ch:Addr}{t:AD}{r':Vl}{fx cn en:Str}{e0 hx:Expr}{es:List Expr}{p cp rp np hrp hp tp:Pos}{kf j ie:Nat}{ps:List Str}(G:j7 X.prog X.w X.K X.mg X.base kf fx ps F cls)(hcls:∀n,cls n=C)(hr:L2.Room j X.A)(ha:DA X (e0::es) t)(hxe:∀e s,X.xe e s->False)
  (hmc:X.mg cn=some (.ref Ch)) (hm1:PySem.W.exmOne X.K (.ref C) (.ref Ch)=some true) (HP:∀(ea:Addr) (E2:Value->Shared->Prop),PE (X.held ea E2) hx (uH X.K C ie r')) (hN:X.N.Nodup) (hst:X.stack=X.env::X.outer:=by rfl) (hf:X.env.frame=some X.env.locals:=by rfl) (hex:X.ex=[]:=by rfl) (hfn:∀x,X.fn x=true:=by intro _;rfl)
  (hi:X.N[ie]?=some en:=by rfl) (hloc:X.env.scope.names.lookup en=some .local:=by rfl) (hj:kf<=j:=by decide) (hg:L2.Gl X fx:=by rfl) (hgc:L2.Gl X cn:=by rfl) (hdb:(fx==("__debug__" : Str))=false:=by decide) (hdc:(cn==("__debug__" : Str))=false:=by decide)
  (he:starEach (e0::es) X.env=(false,eval e0 X.env)::starEach es X.env:=by rfl) (hpl:(backTo cp (starEach es X.env)).any (·.1)=false:=by rfl) :
  DS X (.Try [.Return (some (.Call (.Name fx p) (e0::es) [] cp)) rp] [.ExceptHandler (some (.Name cn np)) (some en) [.Return (some hx) hrp] hp] [] [] tp) (rY F t r'):=fun B H₀ M₀ lad pins s σ H D I zz=>by
 obtain ⟨ρ,fl,⟨M,hxx,hB,hE⟩,hfl,k⟩:=zz;obtain⟨fa,fd,G1,G2,G3,G4⟩:=G.ex;unfold rY at hfl;cases ht:t ρ with
 |none=>rw[ht] at hfl;cases hfl
 |some ds =>
  rw[ht,aa] at hfl;cases hF:F ds with
  |none=>rw[hF] at hfl;cases hfl
  |some r =>
   rw[hF,aa] at hfl;refine wpAny_Try_except (wpAny_execs_cons (wpAny_Return_some (wpAny_Call_Name_kw (L2.ld_glob I hg G2 ?_ hdb))));have w:=ha cp pins s σ H (fun vs H1=>cw H H1/\Rs X.K H1 (M++B) ds vs) I ⟨ρ,_,M,lad,ds,hE,ht,fun vs H1 s1 q1=>⟨s1,q1⟩⟩;refine PySem.W.callWith_K (h₀:=X.base) I.ok.mod.kin G3 (wpAny_mono w (fun us s1 ⟨vs,H1,I1,r1,s1',q1⟩=>⟨I1.kIn,?_⟩) fun e s' z=>(hxe e s' z).elim) he hpl;have hE1:=hE.same s1';cases hn:dX r with
   |none =>
    rw[hn] at hfl;cases hfl;refine wpAny_mono (m9 (Q:=fun v H2=>cw H1 H2/\j9 X.K H1 (M++B) H2 r v) (E:=fun _ _ _=>False) (EE:=fun _ _=>False) G1 (hr.mono hj) G4 I1 r1 ⟨ds,M++B,r,q1,hE1.tr,hF,by rw[hn];exact fun v H' s2 q2=>⟨s2,q2⟩⟩ fun e s' zz=>by obtain⟨_,_,_,_,_,_,_,_,_,_,_,_,_,z⟩:=zz;exact z) (fun u s2 ⟨v,H2,I2,rv,s2',q2⟩=>?_) fun _ _ z=>z.elim;refine⟨v,σ,H2,I2,rv,k v H2 ⟨⟨M,hxx.trans (.same (s1'.trans s2'))⟩,?_⟩⟩;rcases q2 with ⟨e,q⟩|⟨e,a,es',vs',e1,e2,e3,e4,q⟩
    ·exact .inl ⟨e,q.ext (.less fun b hb=>ah _ hb)⟩
    ·refine .inr ⟨e,a,es',vs',e1,e2,.inr ?_,e4,q.ext (.less fun b hb=>(ay.mp hb).elim (fun z=>z▸aB) fun z=>ak _ (ah _ z))⟩;cases e5:H₀ a with
     |none=>rfl
     |some o=>exact absurd (s1'.free e3) (hxx.there a (by rw[e5];simp))
   |some n =>
    rw[hn] at hfl;cases hfl;refine wpAny_mono (m9 (Q:=fun _ _=>False) (E:=fun cv _ H'=>cv=.ref C/\cw H1 H') G1 (hr.mono hj) G4 I1 r1 ⟨ds,M++B,r,q1,hE1.tr,hF,by rw[hn];exact fun H' s2=>⟨by rw[hcls],s2⟩⟩ fun e s' z=>pP (E:=fun cv _ H'=>cv=.ref C/\cw H1 H') (D:=D) (np:=np) (hp:=hp) (hrp:=hrp) I1 hst hf hex hfn hN hi hloc z (fun cv dx H' q=>q) hmc hgc hdc hm1 HP ?_) (fun u s2 ⟨v,H2,I2,rv,z⟩=>z.elim) fun _ _ z=>z;intro v H' H2 sa sb q2;have q3:=q2 B;refine k v H' ⟨⟨M,hxx.trans (.same ((s1'.trans sa).trans sb))⟩,?_⟩;rcases q3 with ⟨e,q⟩|⟨e,a,es',vs',e1,e2,e3,e4,q⟩
    ·exact .inl ⟨e,q⟩
    ·refine .inr ⟨e,a,es',vs',e1,e2,.inr ?_,e4,q⟩;cases e5:H₀ a with
     |none=>rfl
     |some o=>exact absurd ((s1'.trans sa).free e3) (hxx.there a (by rw[e5];simp))
end
end DL
namespace DL
open PySem PySem.Spec PySem.W
abbrev qF:List Value:=[.type "ValueError", .type "Exception", .type "BaseException", .type "object"]
structure eD (K:Fg)(mg:Str->Option Value)(x:Str)(C:Addr):Prop where
 at_:mg x=some (.ref C)
 ex:excIn K C qF "ValueError.__new__" = true
 cl:fN K C
 ty:typeIn K (.ref C)=some (.type "type")
theorem nH {K:Fg}{mg:Str->Option Value}{h:Heap}{x:Str}{C:Addr}(X:K.In h)(G:h.Ns mainGlobals mg)(a:nsIn K mainGlobals x=some (some (.ref C)))(q:excIn K C qF "ValueError.__new__" = true)(t:typeIn K (.ref C)=some (.type "type"))
  (ga:findIn K (.ref C) "__getattribute__" = some (some (.builtin "BaseException.__getattribute__"))) (hk:findIn K (.ref C) "__getattr__" = some none) (sub:subIn K (.ref C) (.type "BaseException")=some true) (ha:findIn K (.ref C) "__class__" = some (some (.builtin "object.__class__")))
  (hn:specialIn K (.builtin "object.__class__") "__get__" = some (some (.builtin "getset_descriptor.__get__"))) (tk:takesIn K (.builtin "object.__class__")=some true) (hm:mroIn K C (.type "object")=some true):eD K mg x C :=
 ⟨mg_of X G a,q,⟨ga,hk,sub,ha,hn,tk,hm,⟨_,_,q⟩⟩,t⟩
section
variable {K:Fg}{mg:Str->Option Value}{x y:Str}{C Cy:Addr}{b:Bool}
theorem ib (e:eD K mg y Cy)(hs:subIn K (.ref C) (.ref Cy)=some b):kitCls K (.ref C) (.ref Cy)=some b:=by
 unfold kitCls;dsimp only;rw[if_pos (by rw[e.cl.some,e.ty];rfl)];exact hs
theorem sV (e:eD K mg y Cy)(hs:subIn K (.ref C) (.ref Cy)=some true):exmOne K (.ref C) (.ref Cy)=some true:=by
 unfold exmOne;rw[if_pos (by rw[e.cl.sub];rfl)];exact ib e hs
theorem qN:kitOne K (.ref C) (.ref C)=some true:=by
 unfold kitOne;rw[if_pos (by simp)]
theorem sJ (e:eD K mg y Cy)(hs:subIn K (.ref C) (.ref Cy)=some b)(hne:b=false->C≠Cy):kitOne K (.ref C) (.ref Cy)=some b:=by
 unfold kitOne;cases b with
 |true =>
  split
  ·rfl
  ·exact ib e hs
 |false =>
  rw[if_neg (by simpa using hne rfl)];exact ib e hs
theorem sI (hs:subIn K (.ref C) (.type "ValueError")=some true):kitOne K (.ref C) (.type "ValueError")=some true:=by
 unfold kitOne;rw[if_neg (by simp)];unfold kitCls;dsimp only;rw[if_pos (by decide +kernel)];exact hs
theorem kv:bootBuiltins "ValueError" = some (.type "ValueError"):=by decide +kernel
end
end DL
namespace DL
open PySem PySem.Spec PySem.SeqAt
mutual
noncomputable def sN:D->Nat->Bool
 |.int _,_=>true
 | .tuple ds,n=>match n with
  |0=>false
  |n+1=>sM ds n
 |_,_=>false
noncomputable def sM:List D->Nat->Bool
 |[],_=>true
 |d::ds,n=>sN d n&&sM ds n
end
end DL
namespace DL
open PySem PySem.Spec PySem.SeqAt
mutual
noncomputable def vS:D->Nat
 |.int _=>1
 |.tuple ds=>rk ds+1
 |_=>0
noncomputable def rk:List D->Nat
 |[]=>0
 |d::ds=>vS d+rk ds
end
mutual
theorem Kb.nb {n:Nat}{d:D}:Kb n d->Nb n d
 |.int _ _=>.int _ _
 |.tuple h=>.tuple (oZ.nb h)
theorem oZ.nb {n:Nat}{ds:List D}:oZ n ds->ip n ds
 |.nil=>.nil
 |.cons h hs=>.cons (Kb.nb h) (oZ.nb hs)
end
mutual
theorem Kb.up {n:Nat}{d:D}:Kb n d->∀m,n<=m->Kb m d
 |.int _ _,_,_=>.int _ _
 | .tuple h,m,hm=>by
  obtain⟨m',rfl⟩:∃m',m=m'+1:=⟨m-1,by omega⟩;exact .tuple (oZ.up h m' ⋯)
theorem oZ.up {n:Nat}{ds:List D}:oZ n ds->∀m,n<=m->oZ m ds
 |.nil,_,_=>.nil
 |.cons h hs,m,hm=>.cons (Kb.up h m hm) (oZ.up hs m hm)
end
noncomputable instance decD:DecidableEq D:=fun _ _=>Classical.propDecidable _
end DL
namespace DL
open PySem PySem.Spec PySem.SeqAt
open L2 (V Hp St HO VK TE TT TA TS TI TG Cx Inv PE PT PA PS PSs PI PG dr dq cw cX cg bZ bV cA cI EP TP AP SP c7 It)
mutual
theorem vN:∀(d:D) (n:Nat),sN d n=true->Kb n d
 |.int i,n,_=>.int n i
 |.tuple ds,0,h=>by simp[sN] at h
 |.tuple ds,n+1,h=>.tuple (qO ds n (by simpa [sN] using h))
 |.none,n,h=>by simp[sN] at h
 |.bool _,n,h=>by simp[sN] at h
 |.str _,n,h=>by simp[sN] at h
 |.list _,n,h=>by simp[sN] at h
 |.dict _,n,h=>by simp[sN] at h
theorem qO:∀(ds:List D) (n:Nat),sM ds n=true->oZ n ds
 |[],n,_=>.nil
 | d::ds,n,h=>by
  simp only[sM,Bool.and_eq_true] at h;exact .cons (vN d n h.1) (qO ds n h.2)
end
section
variable {X:Cx}{pins:List (Addr×Obj)}{σ:St}{H:Hp}{s:Shared}{O:List Addr}
end
section
variable {X:Cx}{a b:Expr}{fb gb:BD}{pos p:Pos}
end
end DL
namespace DL
open PySem PySem.Spec PySem.SeqAt
open L2 (V Hp St HO VK TE TT TA TS TI TG Cx Inv PE PT PA PS PSs PI PG dr dq cw cX cg bZ bV cA cI EP TP AP SP c7 It)
section
variable {prog:Program}{w:World}{A:Around}{E:Value->Shared->Prop}{s:Shared}{d it:Addr}{od:Obj}{ds:Array DictEntry}{ep i n:Nat}
end
section
variable {X:Cx}{tg e:Expr}{f:ED}
end
end DL
namespace DL
open PySem PySem.Spec PySem.SeqAt
open L2 (V Hp St HO VK TE TT TA TS TI TG Cx Inv PE PT PA PS PSs PI PG dr dq cw cX cg bZ bV cA cI EP TP AP SP c7 It)
section
variable {K:Fg}{H:Hp}{B M:List Addr}{lad:Nat->Addr}{ρ:Sl}{σ:St}{i:Nat}
end
section
variable {X:Cx}{e ek ev:Expr}{f ke vx:ED}{pos p1 p2 py:Pos}{i:Nat}{x:Str}{st:Stmt}{F:SD}{sts:List Stmt}
end
end DL
namespace DL
open PySem
end DL
namespace DL
open PySem PyProof.Rows
section
variable {prog:Program}{w:World}{A:Around}{E:Value->Shared->Prop}{s:Shared}
end
end DL
set_option maxHeartbeats 3200000
namespace DL
open PySem PyProof.Rows
section
variable {prog:Program}{w:World}{A:Around}{R:Result->Shared->Prop}{I:Addr}{fp wr:List Addr}{G:Array GenState->Array GenState->Prop}{n:Nat}{P:Nat->Value->Prop}{St:Nat->Shared->Prop}{led:Bool}
end
section
variable {prog:Program}{w:World}{A:Around}{E:Value->Shared->Prop}{s:Shared}
end
end DL
namespace DL
open PySem PyProof.Rows
end DL
namespace DL
open PySem PyProof.Rows
section
variable {prog:Program}{w:World}{A:Around}{E:Value->Shared->Prop}{s:Shared}{a it:Addr}{o:Obj}{es:Array (Int×Value)}{ep i:Nat}{t:SetTable}{led:Bool}{σ:List Int}
variable {n slot:Nat}
end
end DL
namespace DL
open PySem PyProof.Rows
section
variable {prog:Program}{w:World}{A:Around}{E:Value->Shared->Prop}{s:Shared}{a it:Addr}{o:Obj}{es:Array (Int×Value)}{ep n:Nat}{t:SetTable}{led:Bool}{σ:List Int}
end
end DL
namespace DL
open PySem PyProof.Rows
section
variable {prog:Program}{w:World}{A:Around}{E:Value->Shared->Prop}{s:Shared}{a it:Addr}{o:Obj}{es:Array (Int×Value)}{ep n:Nat}{t:SetTable}{led:Bool}{σ:List Int}
end
end DL
namespace DL
open PySem PySem.W PySem.Calls PyProof.Rows PyProof.V PySem.Spec
section
variable {prog:Program}{w:World}{A:Around}{E:Value->Shared->Prop}{s:Shared}{a it:Addr}{o:Obj}{es:Array (Int×Value)}{ep n:Nat}{t:SetTable}{σ:List Int}
end
end DL
namespace DL
open PySem PyProof.Rows
section
variable {prog:Program}{w:World}{A:Around}{E:Value->Shared->Prop}{s:Shared}
end
end DL
namespace DL
open PySem PySem.Spec PySem.SeqAt PyProof.Rows
open L2 (V Hp St HO VK TE TT TA TS TI TG Cx Inv PE PT PA PS PSs PI PG dr dq cw cX cg bZ bV cA cI EP TP AP SP c7 It)
section
variable {X:Cx}
variable {a b:Expr}{fb gb:BD}{pos p p2 p3:Pos}
end
end DL
namespace L2
open PySem PySem.Spec PyProof.Rows
section
variable {prog:Program}{w:World}{A:Around}{E:Value->Shared->Prop}{s:Shared}
end
end L2
namespace DL
open PySem PySem.Spec PySem.SeqAt PyProof.Rows
open L2 (V Hp HO VK TE TT TA TS TI TG Cx Inv PE PT PA PS PSs PI PG dr dq cw cX cg bZ bV cA cI EP TP AP SP c7 It)
section
variable {X:Cx}{a:Expr}{fb:BD}{pos p:Pos}
end
end DL
namespace L2
open PySem PySem.Spec PyProof.Rows
section
variable {X:Cx}{a b:Expr}{ta:TA}{p p1 p2 pos:Pos}
end
end L2
namespace DL
open PySem PySem.Spec PySem.SeqAt
open L2 (V Hp St HO VK TE TT TA TS TI TG Cx Inv PE PT PA PS PSs PI PG dr dq cw cX cg bZ bV cA cI EP TP AP SP c7 It)
section
variable {X:Cx}{a b:Expr}{f g:ED}{p p1 p2 pos:Pos}
end
end DL
namespace L2
open PySem PySem.Spec Builtin Builtin.Str
noncomputable def cutsS (x y:Str):List Str:=partsBetween x (occurrences x y 0 x.length (x.length+1)) y.length
end L2
namespace DL
open PySem PySem.Spec PySem.SeqAt
noncomputable def fQ:D->Option Vl
 |.int i=>if i.natAbs<2 ^ 1000 then some (.str (toString i),false) else none
 |_=>none
noncomputable def qB:O2
 |.str x,.str y=>some (.int (Txt.find x y),false)
 |_,_=>none
noncomputable def nE (y x:Str):Bool:=!(Builtin.Str.occurrences x y 0 x.length 1).isEmpty
noncomputable def u7:C2
 |.str y,.str x=>some (nE y x)
 |_,_=>none
noncomputable def jw:C2
 |.str y,.str x=>some (!(nE y x))
 |_,_=>none
noncomputable def eN:D->Option Vl
 |.str x=>if x.length<=sizeLine then some (.int (x.length:Nat),false) else none
 |_=>none
noncomputable def fZ:O2
 |.str x,.int i=>if x.length<=sizeLine then (L2.atI x.cps.toList i).map fun c=>(.str ⟨#[c]⟩,false) else none
 |_,_=>none
noncomputable def iL:D->Option Int->Option Int->Option Vl
 |.str z,lo,hi=>if z.length<=sizeLine then some (.str (Txt.slice z lo hi),false) else none
 |_,_,_=>none
noncomputable def dM (f:BD)(lo hi:PD):ED:=fun ρ=>(f ρ).bind fun x=>(lo ρ).bind fun l=>(hi ρ).bind fun h=>iL x l h
noncomputable def wN:D->Option Str
 |.str x=>some x
 |_=>none
noncomputable def gq:List D->Option (List Str)
 |[]=>some []
 |d::ds=>(wN d).bind fun x=>(gq ds).map fun xs=>x::xs
noncomputable def dv:O2
 |.str z,.str y=>if (y.length==0)=false/\z.length<=sizeLine/\(L2.cutsS z y).length<=sizeLine/\(Txt.split z y).length<=sizeLine then some (.list ((Txt.split z y).map .str),true) else none
 |_,_=>none
noncomputable def i9:O2
 |.str z,.list ds=>(gq ds).bind fun ts=>if JoinOk z ts=true then some (.str (Txt.join z ts),false) else none
 |_,_=>none
noncomputable def g6 (z:Str):List D:=z.cps.toList.map fun c=>.str ⟨#[c]⟩
noncomputable def gy (f:ED):AD:=fun ρ=>(f ρ).bind fun r=>match r.1 with
 |.str z=>some (g6 z)
 |_=>none
noncomputable def ja:D->Option Vl
 |.str z=>if z.length<=640 then (PySem.intText? z).map fun n=>(.int n,false) else none
 |_=>none
end DL
namespace DL
open PySem PySem.Spec PySem.SeqAt PyProof.Rows
open L2 (V Hp HO VK TE TT TA TS TI TG Cx Inv PE PT PA PS PSs PI PG dr dq cw cX cg bZ bV cA cI EP TP AP SP c7 It)
section
variable {X:Cx}{a b:Expr}{fb gb:BD}{pos p p2:Pos}
theorem kD {n:Nat}(h:n<2 ^ 1000):n.log2<1920:=by
 rcases Nat.eq_zero_or_pos n with z|z
 ·subst z;decide
 ·exact ao ((Nat.log2_lt (bQ z)).mpr h) (by decide)
theorem pR:L2.CallR X (.type "str") (fun xs H Q=>∃i:Int,xs=[.int i]/\i.natAbs<2 ^ 1000/\Q (.str (toString i)) H):=by
 intro pins s σ H xs us Q I rx h;obtain⟨i,rfl,hi,q⟩:=h;obtain⟨u,rfl,ru⟩:=cA.one rx;obtain⟨t,rfl⟩:=(show ∃t,u=Value.int i t from ru);exact P.str_of_int (kD hi) ⟨.str (toString i),H,I.tok _,⟨_,rfl⟩,q⟩
theorem jt (hm:X.mg "str" = none)(ha:DB X a fb)(hg:L2.Gl X "str" := by rfl)(he:starEach [a] X.env=(false,eval a X.env)::starEach [] X.env:=by rfl):DE X (.Call (.Name "str" p) [a] [] pos) (d1 fQ fb) :=
 jY pR (fun x vx H O r Q ne hx hf k=>by
  cases x <;> first|(cases hf;done)|skip
  rename_i i;cases hx.int;unfold fQ at hf;dsimp only at hf;split at hf
  ·rename_i h;cases hf;exact⟨i,rfl,h,k _ H (.refl H) (.of (.str _))⟩
  ·cases hf) hm (by decide +kernel) ha hg (by decide) (by decide) he
theorem sE:L2.MtR X "str.find" (fun x xs H Q=>∃y z:Str,x=.str y/\xs=[.str z]/\Q (.int (Txt.find y z)) H):=by
 intro pins s σ H x xs v us Q I rx rv h;obtain⟨y,z,rfl,rfl,q⟩:=h;obtain⟨t,rfl⟩:=(show ∃t,v=Value.str y t from rx);obtain⟨u,rfl,ru⟩:=cA.one rv;obtain⟨t',rfl⟩:=(show ∃t,u=Value.str z t from ru);exact SC.find ⟨.int (Txt.find y z),H,I.tok _,⟨_,rfl⟩,q⟩
theorem sZ (ha:DB X a fb)(hb:DB X b gb)(hbase:attributeBase a "find" X.env (eval a X.env)=eval a X.env:=by rfl)
  (hfew:((backTo pos (starEach [b] X.env)).all (fun x=>!x.1)&&(backToKw pos (keywordEach [] X.env)).all (fun x=>x.1.isSome)
   && decide ([b].length+([]:List Keyword).length+(if ([]:List Keyword).isEmpty then 0 else 1)<30))=true:=by rfl)
  (hline:(p2.endLine==pos.line)=true:=by rfl) (hs:starEach [b] X.env=(false,eval b X.env)::starEach [] X.env:=by rfl) (hplain:(backTo pos (starEach [] X.env)).any (·.1)=false:=by rfl) :
  DE X (.Call (.Attribute a "find" p2) [b] [] pos) (d2 qB fb gb) :=
 (L2.pe_bm PySem.F.plainAttrs_str PySem.F.slot_str_find PySem.F.type_str_find sE ha (L2.pa_cons hb L2.pa_nil hs) hbase hfew hline hs hplain).imp fun σ H Q h=>by
  obtain⟨ρ,O,M,lad,res,hE,hf,kk⟩:=h;unfold d2 at hf;cases hx:fb ρ with
  |none=>rw[hx] at hf;cases hf
  |some x =>
   rw[hx,aa] at hf;cases hy:gb ρ with
   |none=>rw[hy] at hf;cases hf
   |some y =>
    rw[hy,aa] at hf;refine⟨ρ,O,M,lad,x,hE,hx,fun vx H1 s1 q1=>?_⟩;cases x <;> first|(cases hf;done)|skip
    cases q1.str;refine⟨rfl,ρ,O,M,lad,y,hE.same s1,hy,fun vy H2 s2 q2=>?_⟩;cases y <;> first|(cases hf;done)|skip
    cases q2.str;cases hf;exact⟨_,_,rfl,rfl,kk _ _ (s1.trans s2) (.of (.int _))⟩
end
end DL
namespace DL
open PySem PySem.Spec PySem.SeqAt PyProof.Rows
open L2 (V Hp HO VK TE TT TA TS TI TG Cx Inv PE PT PA PS PSs PI PG dr dq cw cX cg bZ bV cA cI EP TP AP SP c7 It)
section
variable {X:Cx}{a b:Expr}{fb gb:BD}{pos p p2:Pos}
theorem uW:CD X (fun x y H Q=>∃i j,x=.str i/\y=.str j/\Q (.bl (!(Builtin.Str.occurrences j i 0 j.length 1).isEmpty)) H) u7:=by
 intro x y vx vy H O k Q hx hy hf q;cases x <;> first|(cases hf;done)|(cases y <;> first|cases hf|skip)
 cases hx.str;cases hy.str;exact⟨_,_,rfl,rfl,q⟩
theorem pO:CD X (fun x y H Q=>∃i j,x=.str i/\y=.str j/\Q (.bl (!(!(Builtin.Str.occurrences j i 0 j.length 1).isEmpty))) H) jw:=by
 intro x y vx vy H O k Q hx hy hf q;cases x <;> first|(cases hf;done)|(cases y <;> first|cases hf|skip)
 cases hx.str;cases hy.str;exact⟨_,_,rfl,rfl,q⟩
theorem ju (hm:X.mg "len" = none)(ha:DB X a fb)(hg:L2.Gl X "len" := by rfl)(he:starEach [a] X.env=(false,eval a X.env)::starEach [] X.env:=by rfl):DE X (.Call (.Name "len" p) [a] [] pos) (d1 eN fb) :=
 jZ L2.call_len_str (fun x vx H O r Q ne hx hf k=>by
  cases x <;> first|(cases hf;done)|skip
  cases hx.str;unfold eN at hf;dsimp only at hf;split at hf
  ·rename_i h;cases hf;exact⟨_,rfl,h,k _ H (.refl H) (.of (.int _))⟩
  ·cases hf) hm boot_len ha hg (by decide) (by decide) he
theorem uh:OD X (L2.rIx X.K) fZ:=by
 intro x y vx vy H O r Q ne hx hy hf k;cases x <;> first|(cases hf;done)|(cases y <;> first|(cases hf;done)|skip)
 cases hx.str;cases hy.int;unfold fZ at hf;dsimp only at hf;split at hf
 ·rename_i h;rename_i z i;cases hc:L2.atI z.cps.toList i with
  |none=>rw[hc] at hf;cases hf
  |some c =>
   rw[hc,ae] at hf;cases hf;exact .inr (.inr ⟨z,i,c,rfl,rfl,h,hc,k _ H (.refl H) (.of (.str _))⟩)
 ·cases hf
theorem lT (ha:DB X a fb)(hb:DB X b gb)(hs:L2.PlainIx b:=by exact fun _ _=>rfl):DE X (.Subscript a b pos) (d2 fZ fb gb):=(L2.pe_ix L2.ix_seq ha hb hs).imp fun _ _ _ h=>lV uh h
end
end DL
namespace L2
open PySem PySem.Spec PyProof.Rows
section
variable {X:Cx}
noncomputable def wq:V->Option Int->Option Int->Hp->VK->Prop:=fun x lo hi H Q=>∃z:Str,x=.str z/\z.length<=sizeLine/\Q (.str (Txt.slice z lo hi)) H
theorem sl_str:tF X wq:=by
 intro pins s σ H x v vl vu lo hi sl Q I rx hs pl pu h;obtain⟨z,rfl,hz,q⟩:=h;obtain⟨t,rfl⟩:=(show ∃t,v=Value.str z t from rx);refine⟨"str", _,F.slot_str_getitem.lookup,typeIs_str _ _ _,?_⟩;obtain⟨o,e1,e2,e3⟩:=hs;have fin:∀(t':Tok) (k:Nat),EP X pins σ Q (.str (Txt.slice z lo hi) t') { s with toks:=k }:=fun t' k=>⟨.str (Txt.slice z lo hi),H,I.tok _,⟨_,rfl⟩,q⟩;cases pl with
 |none =>
  cases pu with
  |none=>exact wpAny_getItem_str_slice (l:=none) (u:=none) (st:=none) ⟨o,e1,e2,e3⟩ rfl (post_val_or_str ⟨aL (Txt.slice_le z _ _) hz,fin⟩)
  |int j u=>exact wpAny_getItem_str_slice (l:=none) (u:=some (j,u)) (st:=none) ⟨o,e1,e2,e3⟩ rfl (post_val_or_str ⟨aL (Txt.slice_le z _ _) hz,fin⟩)
 |int i r =>
  cases pu with
  |none=>exact wpAny_getItem_str_slice (l:=some (i,r)) (u:=none) (st:=none) ⟨o,e1,e2,e3⟩ rfl (post_val_or_str ⟨aL (Txt.slice_le z _ _) hz,fin⟩)
  |int j u=>exact wpAny_getItem_str_slice (l:=some (i,r)) (u:=some (j,u)) (st:=none) ⟨o,e1,e2,e3⟩ rfl (post_val_or_str ⟨aL (Txt.slice_le z _ _) hz,fin⟩)
end
end L2
namespace DL
open PySem PySem.Spec PySem.SeqAt PyProof.Rows
open L2 (V Hp HO VK TE TT TA TS TI TG Cx Inv PE PT PA PS PSs PI PG dr dq cw cX cg bZ bV cA cI EP TP AP SP c7 It)
section
variable {X:Cx}{a:Expr}{fb:BD}{pos p2:Pos}{lo hi:Option Expr}{pl ph:PD}
theorem fK (ha:DB X a fb)(hl:vk X lo pl)(hh:vk X hi ph):DE X (.Subscript a (.Slice lo hi none p2) pos) (dM fb pl ph):=(L2.pe_slice L2.sl_str ha hl hh).imp fun σ H Q z=>by
 obtain⟨ρ,O,M,lad,r,hE,hf,k⟩:=z;unfold dM at hf;cases hx:fb ρ with
 |none=>rw[hx] at hf;cases hf
 |some x =>
  rw[hx,aa] at hf;cases hy:pl ρ with
  |none=>rw[hy] at hf;cases hf
  |some l =>
   rw[hy,aa] at hf;cases hz:ph ρ with
   |none=>rw[hz] at hf;cases hf
   |some h =>
    rw[hz,aa] at hf;refine⟨ρ,O,M,lad,x,hE,hx,fun v H1 s1 q1=>⟨ρ,O,M,lad,l,hE.same s1,hy,fun H2 s2=>⟨ρ,O,M,lad,h,(hE.same s1).same s2,hz,fun H3 s3=>?_⟩⟩⟩;cases x <;> first|(cases hf;done)|skip
    cases q1.str;unfold iL at hf;dsimp only at hf;split at hf
    ·rename_i hw;cases hf;exact⟨_,rfl,hw,k _ H3 ((s1.trans s2).trans s3) (.of (.str _))⟩
    ·cases hf
end
end DL
namespace L2
open PySem PySem.Spec PyProof.Rows Builtin Builtin.Str Builtin.Int
theorem kz:∀(l:List (Str×Tok)),cA ((l.map (·.1)).map V.str) (strValues l)
 |[]=>.nil
 |(x,t)::l=>.cons ⟨t,rfl⟩ (kz l)
section
variable {prog:Program}{w:World}{A:Around}{E:Value->Shared->Prop}{s:Shared}{x y:Str}{t u:Tok}
theorem pd {Q:Value->Shared->Prop}(hy:(y.length==0)=false)
  (hq:∀(l:List (Str×Tok)) (k:Nat),l.map (·.1)=Txt.split x y->Q (.ref s.heap.objs.size) { s with heap:=s.heap.push { cls:=.type "list", data:=.seq (strValues l).toArray },toks:=k })
  (hsz:x.length<=sizeLine) (hsz2:(cutsS x y).length<=sizeLine) :
  wpAny (model prog w) A (call (.builtin "str.split") [.str x t,.str y u]) Q E s:=by
 cases h1:(decide (x.length<y.length)||decide (strKind x<strKind y))
 ·cases hf:(occurrences x y 0 x.length (x.length+1)).isEmpty
  ·refine call_meets F.slot_str_split (typeIs_str _ _ _) F.entry_str_split (F.args_str_split_2 _ _) (meets_str_split_sep x y t u h1 hy hf hsz hsz2) ?_;show wants Q E _ { s with toks:=_,heap:=s.heap.push { cls:=.type "list", data:=.seq (strsFrom s.toks (partsBetween x (occurrences x y 0 x.length (x.length+1)) y.length)).toArray } };rw[strsFrom_eq];exact hq (numbered s.toks _) _ ((numbered_texts _ _).trans ((if_neg (ne_true_of_eq_false h1)).trans (if_neg (ne_true_of_eq_false hf))).symm)
  ·exact call_meets F.slot_str_split (typeIs_str _ _ _) F.entry_str_split (F.args_str_split_2 _ _) (meets_str_split_not_found x y t u h1 hy hf) (hq [(x,t)] s.toks ((if_neg (ne_true_of_eq_false h1)).trans (if_pos hf)).symm)
 ·exact call_meets F.slot_str_split (typeIs_str _ _ _) F.entry_str_split (F.args_str_split_2 _ _) (meets_str_split_cannot_occur x y t u h1) (hq [(x,t)] s.toks (if_pos h1).symm)
end
section
variable {X:Cx}
noncomputable def ua:V->List V->Hp->VK->Prop:=fun x xs H Q=>∃z y:Str,x=.str z/\xs=[.str y]/\(y.length==0)=false/\z.length<=sizeLine/\(cutsS z y).length<=sizeLine/\(Txt.split z y).length<=sizeLine/\∀l,H l=none->Q (.ref l) (cX H l (.lst ((Txt.split z y).map V.str)))
theorem mt_split:MtR X "str.split" ua:=by
 intro pins s σ H x xs v us Q I rx rv h;obtain⟨z,y,rfl,rfl,hy,h1,h2,h3,q⟩:=h;obtain⟨t,rfl⟩:=(show ∃t,v=Value.str z t from rx);obtain⟨u,rfl,ru⟩:=cA.one rv;obtain⟨t',rfl⟩:=(show ∃t,u=Value.str y t from ru);refine pd hy (fun l k e=>?_) h1 h2;have I':=I.laid (h':=s.heap.push { cls:=.type "list", data:=.seq (strValues l).toArray }) (t':=k) (a:=s.heap.objs.size) (o:=.lst ((Txt.split z y).map V.str)) (fun b o e=>aw _ e) (aq _)
  ⟨by rw[az];exact h3,strValues l,0,by rw[<-e];exact kz l,aN _ rfl⟩
 exact⟨.ref _,_,I',rfl,q _ I.fresh⟩
noncomputable def vE (K:PySem.W.Frag):V->List V->Hp->VK->Prop:=fun x xs H Q=>∃(z:Str) (a:Addr) (ts:List Str),x=.str z/\xs=[.ref a]/\dq K H a (ts.map V.str)/\JoinOk z ts=true/\Q (.str (Txt.join z ts)) H
theorem o8:∀{ts:List Str}{us:List Value},cA (ts.map V.str) us->∃l:List (Str×Tok),us=strValues l/\l.map (·.1)=ts:=by
 intro ts;induction ts with
 |nil =>
  intro us h;cases h;exact⟨[],rfl,rfl⟩
 |cons t ts ih =>
  intro us h;cases h with
  |cons r q =>
   obtain⟨k,rfl⟩:=(show ∃k,_=Value.str t k from r);obtain⟨l,rfl,e⟩:=ih q;exact⟨(t,k)::l,rfl,by rw[aD,e]⟩
theorem mt_join:MtR X "str.join" (vE X.K):=by
 intro pins s σ H x xs v us Q I rx rv h;obtain⟨z,a,ts,rfl,rfl,hq,hj,q⟩:=h;obtain⟨t,rfl⟩:=(show ∃t,v=Value.str z t from rx);obtain⟨u,rfl,ru⟩:=cA.one rv;cases ru;obtain⟨its,r,p,hz⟩:=I.list hq;obtain⟨l,rfl,e⟩:=o8 r;exact SC.join p.isList e hj fun t' k=>⟨.str (Txt.join z ts),H,I.tok _,⟨_,rfl⟩,q⟩
end
end L2
namespace DL
open PySem PySem.Spec PySem.SeqAt PyProof.Rows
open L2 (V Hp HO VK TE TT TA TS TI TG Cx Inv PE PT PA PS PSs PI PG dr dq cw cX cg bZ bV cA cI EP TP AP SP c7 It)
section
variable {X:Cx}{a b:Expr}{fb gb:BD}{pos p p2:Pos}
theorem nZ {K:Fg}{H:Hp}{O:List Addr}:∀(ts:List Str),Rs K H O (ts.map .str) (ts.map V.str)
 |[]=>.nil
 |t::ts=>.cons (.str t) (nZ ts)
theorem r8 {K:Fg}{H:Hp}{O:List Addr}:∀{ds:List D}{vs:List V}{ts:List Str},gq ds=some ts->Rs K H O ds vs->vs=ts.map V.str:=by
 intro ds;induction ds with
 |nil =>
  intro vs ts h q;cases h;cases q;rfl
 |cons d ds ih =>
  intro vs ts h q;unfold gq at h;cases hd:wN d with
  |none=>rw[hd] at h;cases h
  |some x =>
   rw[hd,aa] at h;cases hs:gq ds with
   |none=>rw[hs] at h;cases h
   |some xs =>
    rw[hs,ae] at h;cases h;cases d <;> first|(cases hd;done)|skip
    cases hd;cases q with
    |cons r rs =>
     cases r;rw[ih hs rs];rfl
theorem gA (ha:DB X a fb)(hb:DB X b gb)(hbase:attributeBase a "split" X.env (eval a X.env)=eval a X.env:=by rfl)
  (hfew:((backTo pos (starEach [b] X.env)).all (fun x=>!x.1)&&(backToKw pos (keywordEach [] X.env)).all (fun x=>x.1.isSome)
   && decide ([b].length+([]:List Keyword).length+(if ([]:List Keyword).isEmpty then 0 else 1)<30))=true:=by rfl)
  (hline:(p2.endLine==pos.line)=true:=by rfl) (hs:starEach [b] X.env=(false,eval b X.env)::starEach [] X.env:=by rfl) (hplain:(backTo pos (starEach [] X.env)).any (·.1)=false:=by rfl) :
  DE X (.Call (.Attribute a "split" p2) [b] [] pos) (d2 dv fb gb) :=
 (L2.pe_bm PySem.F.plainAttrs_str PySem.F.slot_str_split PySem.F.type_str_split L2.mt_split ha (L2.pa_cons hb L2.pa_nil hs) hbase hfew hline hs hplain).imp fun σ H Q h=>by
  obtain⟨ρ,O,M,lad,res,hE,hf,kk⟩:=h;unfold d2 at hf;cases hx:fb ρ with
  |none=>rw[hx] at hf;cases hf
  |some x =>
   rw[hx,aa] at hf;cases hy:gb ρ with
   |none=>rw[hy] at hf;cases hf
   |some y =>
    rw[hy,aa] at hf;refine⟨ρ,O,M,lad,x,hE,hx,fun vx H1 s1 q1=>?_⟩;cases x <;> first|(cases hf;done)|skip
    cases q1.str;refine⟨rfl,ρ,O,M,lad,y,hE.same s1,hy,fun vy H2 s2 q2=>?_⟩;cases y <;> first|(cases hf;done)|skip
    cases q2.str;unfold dv at hf;dsimp only at hf;split at hf
    ·rename_i hz;cases hf;exact⟨_,_,rfl,rfl,hz.1,hz.2.1,hz.2.2.1,hz.2.2.2,jN (s1.trans s2) (nZ _) kk⟩
    ·cases hf
theorem lS (ha:DB X a fb)(hb:DB X b gb)(hbase:attributeBase a "join" X.env (eval a X.env)=eval a X.env:=by rfl)
  (hfew:((backTo pos (starEach [b] X.env)).all (fun x=>!x.1)&&(backToKw pos (keywordEach [] X.env)).all (fun x=>x.1.isSome)
   && decide ([b].length+([]:List Keyword).length+(if ([]:List Keyword).isEmpty then 0 else 1)<30))=true:=by rfl)
  (hline:(p2.endLine==pos.line)=true:=by rfl) (hs:starEach [b] X.env=(false,eval b X.env)::starEach [] X.env:=by rfl) (hplain:(backTo pos (starEach [] X.env)).any (·.1)=false:=by rfl) :
  DE X (.Call (.Attribute a "join" p2) [b] [] pos) (d2 i9 fb gb) :=
 (L2.pe_bm PySem.F.plainAttrs_str PySem.F.slot_str_join PySem.F.type_str_join L2.mt_join ha (L2.pa_cons hb L2.pa_nil hs) hbase hfew hline hs hplain).imp fun σ H Q h=>by
  obtain⟨ρ,O,M,lad,res,hE,hf,kk⟩:=h;unfold d2 at hf;cases hx:fb ρ with
  |none=>rw[hx] at hf;cases hf
  |some x =>
   rw[hx,aa] at hf;cases hy:gb ρ with
   |none=>rw[hy] at hf;cases hf
   |some y =>
    rw[hy,aa] at hf;refine⟨ρ,O,M,lad,x,hE,hx,fun vx H1 s1 q1=>?_⟩;cases x <;> first|(cases hf;done)|skip
    cases q1.str;refine⟨rfl,ρ,O,M,lad,y,hE.same s1,hy,fun vy H2 s2 q2=>?_⟩;cases y <;> first|(cases hf;done)|skip
    rename_i ds;obtain⟨c,vs,rfl,hq,rs⟩:=q2.list;unfold i9 at hf;dsimp only at hf;cases ht:gq ds with
    |none=>rw[ht] at hf;cases hf
    |some ts =>
     rw[ht,aa] at hf;split at hf
     ·rename_i hz;cases hf;have ev:=r8 ht rs;subst ev;exact⟨_,c,ts,rfl,rfl,hq,hz,kk _ _ (s1.trans s2) (.of (.str _))⟩
     ·cases hf
end
end DL
namespace DL
open PySem PySem.Spec PySem.SeqAt PyProof.Rows
open L2 (V Hp HO VK TE TT TA TS TI TG Cx Inv PE PT PA PS PSs PI PG dr dq cw cX cg bZ bV cA cI EP TP AP SP c7 It)
noncomputable def wQ (z:Str):It:=⟨fun i H=>i<z.cps.size,fun i H x H'=>H'=H/\∃c,z.cps[i]?=some c/\x=.str ⟨#[c]⟩,fun i H=>i=z.cps.size⟩
theorem mZ (z:Str):strIterType z = "str_ascii_iterator" ∨ strIterType z = "str_iterator" := by
 unfold strIterType;cases z.cps.all (·<128)
 ·exact .inr rfl
 ·exact .inl rfl
theorem l6 {prog:Program}{w:World}{A:Around}(hh:A.handled=none)(it:Addr)(z:Str)(t:Tok):Walks prog w A it [it] [it] z.cps.size (SignAt z) (fun i h=>h.IsStrIter it (strIterType z) z t i):=by
 rcases mZ z with e|e <;> rw[e]
 ·exact Walks.strAscii hh it z t
 ·exact Walks.strWide hh it z t
theorem qf {P:Program}{w:World}{K:Fg}{tg:Expr}(it:Addr)(z:Str)(t:Tok):L2.Turn P w K tg (wQ z) [it] it (fun i h=>h.IsStrIter it (strIterType z) z t i) where
 mem:=by simp
 obj:=fun i h st b hb=>by
  have e:b=it:=by simpa using hb
  subst e;obtain⟨o,e,c,d⟩:=st;exact⟨o,e,fun v z=>by rw[d] at z;cases z⟩
 keep:=fun i h h' st k=>by
  obtain⟨o,e,r⟩:=st;exact⟨o,k it (by simp) o e,r⟩
 item:=by
  intro X hP hw hK hc i pins s σ H E I hf st hg;subst hP hw hK;obtain⟨f0,f1,f2,f3,f4,f5⟩:=hf it (by simp);refine (l6 (I.ok.hd hc) it z t).item i s _ _ hg st fun v h' tk hv st' kk=>?_;obtain⟨c,u,hcu,rfl⟩:=hv;have I1:Inv X pins σ H { s with heap:=h',toks:=tk }:=I.turned (fun b o hb e=>kk b o (by simpa using hb) e) f0 f1 f3 f4 f5;obtain⟨o,e,cl,dd⟩:=id st';refine⟨_,rfl,?_⟩;rcases mZ z with q|q
  ·exact L2.go_of (s:={ s with heap:=h',toks:=tk }) (n := "str_ascii_iterator") e (by rw[cl,q]) dd (by decide) ⟨.str ⟨#[c]⟩,H,I1,⟨u,rfl⟩,⟨rfl,c,hcu,rfl⟩,st',fun b hb=>(hf b hb).1⟩
  ·exact L2.go_of (s:={ s with heap:=h',toks:=tk }) (n := "str_iterator") e (by rw[cl,q]) dd (by decide) ⟨.str ⟨#[c]⟩,H,I1,⟨u,rfl⟩,⟨rfl,c,hcu,rfl⟩,st',fun b hb=>(hf b hb).1⟩
 done:=by
  intro X hP hw hK hc i pins s σ H E I hf st hg;subst hP hw hK;obtain⟨f0,f1,f2,f3,f4,f5⟩:=hf it (by simp);have hi:i=z.cps.size:=hg;subst hi;exact (l6 (I.ok.hd hc) it z t).done s _ _ st fun h' tk kk=>⟨rfl,I.turned (fun b o hb e=>kk b o (by simpa using hb) e) f0 f1 f3 f4 f5⟩
 self:=fun _ A s Q E st h=>by
  rcases mZ z with q|q <;> rw[q] at st
  ·exact wpAny_pyIter_striter_ascii st h
  ·exact wpAny_pyIter_striter_wide st h
theorem nA {K:Fg}{H:Hp}{M O:List Addr}(z:Str):j6 K (wQ z) (g6 z) M O H:=by
 intro O2 H2 x;refine⟨fun i d e=>?_,?_⟩
 ·unfold g6 at e;rw[aH] at e;cases hc:z.cps.toList[i]? with
  |none=>rw[hc] at e;cases e
  |some c =>
   rw[hc] at e;cases e;have hi:i<z.cps.size:=by have:=(ax.mp hc).1;simpa using this
   refine⟨hi,fun y H3 q=>?_⟩;obtain⟨e3,c',hc',hy⟩:=q;subst e3;have:z.cps[i]?=some c:=by rw[<-hc];exact Array.getElem?_toList.symm
   rw[this] at hc';cases hc';subst hy;exact⟨.refl _,.str _⟩
 ·show (g6 z).length=z.cps.size;unfold g6;rw[az,bF]
section
variable {X:Cx}{tg e:Expr}{f:ED}
theorem mJ (h:DE X e f):DI X tg e (gy f):=by
 intro pins s σ H R I q;obtain⟨ρ,O,M,lad,ks,hE,hf,k⟩:=q;unfold gy at hf;cases hr:f ρ with
 |none=>rw[hr] at hf;cases hf
 |some r =>
  rw[hr,aa] at hf;refine L2.thn (h pins s σ H _ I ⟨ρ,O,M,lad,r,hE,hr,fun v H1 s1 q1=>(⟨s1,q1⟩:cw H H1/\j9 X.K H O H1 r v)⟩) fun v s1 y=>?_;obtain⟨x,H1,I1,r1,s2,q1⟩:=y;have q:=q1.toR hE.ne;cases e0:r.1 <;> rw[e0] at hf <;> first|(cases hf;done)|skip
  rename_i z;rw[e0] at q;cases hf;cases q;obtain⟨t,rfl⟩:=(show ∃t,v=Value.str z t from r1);refine wpAny_pyIter_strU ?_;refine⟨s1.heap.objs.size,[s1.heap.objs.size],_,_,H1,rfl,I1.kept (t':=s1.toks) fun b o e=>aw _ e,qf _ z t,⟨_,aN _ rfl,rfl,rfl⟩,fun b hb=>?_,k _ H1 s2 (nA z)⟩;have e:b=s1.heap.objs.size:=by simpa using hb
  subst e;exact I1.fpOk (aq _) (I1.hok.fresh (aq _))
end
end DL
namespace DL
open PySem PySem.Spec PySem.SeqAt PyProof.Rows
open L2 (V Hp HO VK TE TT TA TS TI TG Cx Inv PE PT PA PS PSs PI PG dr dq cw cX cg bZ bV cA cI EP TP AP SP c7 It)
section
variable {X:Cx}{a:Expr}{fb:BD}{pos p:Pos}
theorem pS:L2.CallR X (.type "int") (fun xs H Q=>∃(z:Str) (n:Int),xs=[.str z]/\PySem.intText? z=some n/\z.length<=640/\Q (.int n) H):=by
 intro pins s σ H xs us Q I rx h;obtain⟨z,n,rfl,hn,hl,q⟩:=h;obtain⟨u,rfl,ru⟩:=cA.one rx;obtain⟨t,rfl⟩:=(show ∃t,u=Value.str z t from ru);exact PySem.W.KIN.call_text hn hl ⟨.int n,H,I.tok _,⟨_,rfl⟩,q⟩
theorem oF (hm:X.mg "int" = none)(ha:DB X a fb)(hg:L2.Gl X "int" := by rfl)(he:starEach [a] X.env=(false,eval a X.env)::starEach [] X.env:=by rfl):DE X (.Call (.Name "int" p) [a] [] pos) (d1 ja fb) :=
 jY pS (fun x vx H O r Q ne hx hf k=>by
  cases x <;> first|(cases hf;done)|skip
  rename_i z;cases hx.str;unfold ja at hf;dsimp only at hf;split at hf
  ·rename_i h;cases hn:PySem.intText? z with
   |none=>rw[hn] at hf;cases hf
   |some n =>
    rw[hn,ae] at hf;cases hf;exact⟨z,n,rfl,hn,h,k _ H (.refl H) (.of (.int _))⟩
  ·cases hf) hm (by decide +kernel) ha hg (by decide) (by decide) he
end
end DL
namespace DL
open PySem PySem.Spec PySem.SeqAt PyProof.Rows
open L2 (V Hp HO VK TE TT TA TS TI TG Cx Inv PE PT PA PS PSs PI PG dr dq cw cX cg bZ bV cA cI EP TP AP SP c7 It)
section
variable {X:Cx}
theorem BR.non {K:Fg}{H:Hp}{O:List Addr}{v:V}(h:BR K H O .none v):v=.non:=by
 rcases h with h|⟨a,ds,vs,e,_⟩|⟨a,ds,vs,e,_⟩
 ·cases h;rfl
 ·cases e
 ·cases e
end
end DL
namespace DL
open PySem PySem.Spec PySem.SeqAt
noncomputable abbrev MD:=List Int->List D->Option (D×List Int)
end DL
namespace DL
open PySem PySem.Spec PySem.SeqAt
open L2 (V Hp St HO VK TE TT TA TS TI TG Cx Inv PE PT PA PS PSs PI PG dr dq cw cX cg bZ bV cA cI EP TP AP SP c7 It)
section
variable {prog:Program}{w:World}{A:Around}{E:Value->Shared->Prop}{s:Shared}{d it v:Addr}{od:Obj}{ds:Array DictEntry}{ep i n:Nat}{ok ov:Value}
end
section
variable {X:Cx}{e:Expr}{f:ED}{p pos tp:Pos}{tes:List Expr}{tk:Nat}
end
end DL
namespace DL
open PySem PySem.Spec PySem.SeqAt
open L2 (V Hp St HO VK TE TT TA TS TI TG Cx Inv PE PT PA PS PSs PI PG dr dq cw cX cg bZ bV cA cI EP TP AP SP c7 It)
section
variable {X:Cx}{p:Nat}{e c tg iter:Expr}{es:List Expr}{f:ED}{t:TD}{pos:Pos}{st:Stmt}{de body:List Stmt}{F G:SD}{it:AD}{gd:GD}
end
end DL
namespace L2
open PySem PySem.Spec PyProof.Rows
section
variable {prog:Program}{w:World}{A:Around}{E:Value->Shared->Prop}{s:Shared}{z TI TO i1 i2 T:Addr}{n1 n2 k:Nat}{fp1 fp2:List Addr}{P1 P2:Nat->Value->Prop}{S1 S2:Nat->Heap->Prop}
end
end L2
namespace DL
open PySem PySem.Spec PySem.SeqAt
open L2 (V Hp St HO VK TE TT TA TS TI TG Cx Inv PE PT PA PS PSs PI PG dr dq cw cX cg bZ bV cA cI EP TP AP SP c7 It)
section
variable {prog:Program}{w:World}{A:Around}{E:Value->Shared->Prop}{s:Shared}
end
end DL
namespace DL
open PySem PySem.Spec PySem.SeqAt
open L2 (V Hp St HO VK TE TT TA TS TI TG Cx Inv PE PT PA PS PSs PI PG dr dq cw cX cg bZ bV cA cI EP TP AP SP c7 It)
section
variable {X:Cx}{pins:List (Addr×Obj)}{σ:St}{H:Hp}{s0:Shared}{O:List Addr}{A:Around}{R':Result->Shared->Prop}{z TI TO i1 i2 dd a b:Addr}{k1 k2:Bool}{ds1 ds2:List D}{vs1 vs2:List V}{kvsF:List (D×D)}
end
end DL
namespace DL
open PySem PySem.Spec PySem.SeqAt
open L2 (V Hp St HO VK TE TT TA TS TI TG Cx Inv PE PT PA PS PSs PI PG dr dq cw cX cg bZ bV cA cI EP TP AP SP c7 It)
section
variable {X:Cx}{pins:List (Addr×Obj)}{σ:St}{H:Hp}{s0:Shared}{O:List Addr}{A:Around}{a b:Addr}{k1 k2:Bool}{ds1 ds2:List D}{vs1 vs2:List V}{kvsF:List (D×D)}
end
section
variable {X:Cx}{e1 e2:Expr}{ta:TA}{p p1 p2 pos:Pos}{f g:AD}
end
end DL
namespace DL
open PySem
def FH (K:Fg)(x:Str)(st:Stmt):Prop:=∃(f:Addr) (oc:Value) (od:Option Addr) (kV dc pm:Value) (an:Option Addr) (cd ct:Value) (sl:Array (Option Value)),PySem.W.nsIn K mainGlobals x=some (some (.ref f)) ∧
 K.lookup f=some ⟨oc,od,.func (PySem.W.fnOf x x (L2.defArgs st) (L2.defBody st) (L2.defScope st) .none kV dc pm an cd ct),sl⟩/\PySem.W.codeIn K cd x=true/\PySem.W.keepIn K (.ref f)=true
def tT (x:Str)(st:Stmt)(ps:List Str):Prop:=∀(kV doc pm:Value) (an:Option Addr) (cdv ct:Value) (us:List Value),us.length=ps.length->bindArgs (PySem.W.fnOf x x (L2.defArgs st) (L2.defBody st) (L2.defScope st) .none kV doc pm an cdv ct) ⟨us,[]⟩=pure (ps.zip us)
section
variable {K:Fg}{mg:Str->Option Value}{h:Heap}{x:Str}{st:Stmt}{ps:List Str}{k n1:Nat}{F:FD}{G':MD}
theorem iV (P:Program)(w:World)(base:Heap)(X:K.In h)(G:h.Ns mainGlobals mg)(H:FH K x st)(hb:tT x st ps)(ok:∀f fd,L2.Fun K x x st f fd->L2.FnOk P w K mg base L2.CX0 k f fd ps (spD K F)):gW P w K mg base k x ps F:=by
 obtain⟨f,oc,od,kV,dc,pm,an,cd,ct,sl,a,l,c,kp⟩:=H;have Fu:=L2.fun_mk (st:=st) l c kp;exact⟨_,_,ok _ _ Fu,PySem.W.mg_of X G a,kp,Fu.binds (ps:=ps) hb⟩
end
end DL
local macro_rules | `(tactic| trivial) => `(tactic| first | (intro _ _ _ _ _ _ us hl; first | (obtain ⟨_, e⟩ := DL.len1 hl; subst e; rfl) | (obtain ⟨_, _, e⟩ := DL.len2 hl; subst e; rfl) | (obtain ⟨_, _, _, e⟩ := DL.len3 hl; subst e; rfl) | (obtain ⟨_, _, _, _, e⟩ := DL.len4 hl; subst e; rfl) | (obtain ⟨_, _, _, _, _, e⟩ := DL.len5 hl; subst e; rfl) | (obtain ⟨_, _, _, _, _, _, e⟩ := DL.len6 hl; subst e; rfl)) | fail)
local macro_rules | `(tactic| trivial) => `(tactic| first | exact ⟨_, _, _, _, _, _, _, _, _, _, by k_is, by k_is, by k_is, by k_is⟩ | fail)
namespace DL
noncomputable def tw:C2
 |.none,.none=>some true
 |.tuple _,.none=>some false
 |_,_=>none
end DL
namespace DL
open PySem PySem.Spec PySem.SeqAt PyProof.Rows
open L2 (V Hp HO VK TE TT TA TS TI TG Cx Inv PE PT PA PS PSs PI PG dr dq cw cX cg bZ bV cA cI EP TP AP SP c7 It)
section
variable {X:Cx}
theorem tu {x y:D}{k:Bool}(h:tw x y=some k):y=.none/\(x=.none/\k=true\/(∃ds,x=.tuple ds)/\k=false):=by
 unfold tw at h;split at h
 ·cases h;exact⟨rfl,.inl ⟨rfl,rfl⟩⟩
 ·cases h;exact⟨rfl,.inr ⟨⟨_,rfl⟩,rfl⟩⟩
 ·cases h
theorem uV:CD X (fun x y H Q=>y=.non/\Q (.bl (decide (x=.non))) H) tw:=by
 intro x y vx vy H O k Q hx hy hf q;obtain⟨rfl,⟨rfl,rfl⟩|⟨⟨ds,rfl⟩,rfl⟩⟩:=tu hf
 ·cases hy.non;cases hx.non;exact⟨rfl,q⟩
 ·cases hy.non;obtain⟨a,vs,rfl,_⟩:=hx.tuple;exact⟨rfl,q⟩
end
end DL
namespace DL
open PySem PySem.Spec PySem.SeqAt
open L2 (V Hp St HO VK TE TT TA TS TI TG Cx Inv PE PT PA PS PSs PI PG dr dq cw cX cg bZ bV cA cI EP TP AP SP c7 It)
noncomputable abbrev AZ:=Sl->Option (Int ⊕ List D)
noncomputable def p0:AZ:=fun _=>some (.inr [])
noncomputable def jx (d:D):Int ⊕ List D->Int ⊕ List D
 |.inl n=>.inl n
 |.inr ds=>.inr (d::ds)
noncomputable def gn (f:ED)(t:AZ):AZ:=fun ρ=>(f ρ).bind fun r=>match dX r with
 |some n=>some (.inl n)
 |none=>(t ρ).map (jx r.1)
noncomputable def o5 (t:AZ):ED:=fun ρ=>(t ρ).bind fun x=>match x with
 |.inl n=>some (iE n)
 |.inr ds=>if ds.length<=sizeLine then some (.tuple ds,false) else none
noncomputable def rR (i:Nat)(f:ED):SD:=fun ρ=>(f ρ).bind fun r=>match dX r with
 |some n=>some (.ret (iE n))
 |none=>some (.next (ρ.set i (some r)))
noncomputable def vY (K:Fg)(Z:Int->Hp->Prop)(f:ED):TE:=fun σ H Q=>∃ρ O M lad r,ER K H O M lad ρ σ/\f ρ=some r/\match dX r with
 |some n=>∀H',cw H H'->Z n H'
 |none=>∀v H',cw H H'->j9 K H O H' r v->Q v H'
noncomputable def wV (K:Fg)(Z:Int->Hp->Prop)(f:AZ):TA:=fun σ H Q=>∃ρ O M lad x,ER K H O M lad ρ σ/\f ρ=some x/\match x with
 |.inl n=>∀H',cw H H'->Z n H'
 |.inr ds=>∀vs H',cw H H'->Rs K H' O ds vs->Q vs H'
def rN (X:Cx)(Z:Int->Hp->Prop)(e:Expr)(f:ED):Prop:=PE X e (vY X.K Z f)
def v8 (X:Cx)(Z:Int->Hp->Prop)(es:List Expr)(f:AZ):Prop:=PA X es (wV X.K Z f)
section
variable {X:Cx}{Z:Int->Hp->Prop}{e:Expr}{es:List Expr}{f:ED}{t:AZ}{pos:Pos}
theorem oG:v8 X Z [] p0:=L2.pa_nil.imp fun σ H Q zz=>by
 obtain ⟨ρ,O,M,lad,x,hE,hf,k⟩:=zz;cases hf;exact k [] H (.refl H) .nil
theorem iK (ha:rN X Z e f)(hr:v8 X Z es t)(hs:starEach (e::es) X.env=(false,eval e X.env)::starEach es X.env:=by rfl):v8 X Z (e::es) (gn f t):=(L2.pa_cons ha hr hs).imp fun σ H Q zz=>by
 obtain ⟨ρ,O,M,lad,x,hE,hf,k⟩:=zz;unfold gn at hf;cases hx:f ρ with
 |none=>rw[hx] at hf;cases hf
 |some r =>
  rw[hx,aa] at hf;refine⟨ρ,O,M,lad,r,hE,hx,?_⟩;cases hn:dX r with
  |some n =>
   rw[hn] at hf;cases hf;exact k
  |none =>
   rw[hn] at hf;dsimp only at hf ⊢;cases hy:t ρ with
   |none=>rw[hy] at hf;cases hf
   |some y =>
    rw[hy,ae] at hf;cases hf;intro v H1 s1 q1;refine⟨ρ,O,M,lad,y,hE.same s1,hy,?_⟩;cases y with
    |inl n=>exact fun H' s'=>k H' (s1.trans s')
    |inr ds=>exact fun vs H2 s2 q2=>k _ H2 (s1.trans s2) (.cons ((q1.toR hE.ne).same s2) q2)
theorem oE {x1}(h:v8 X Z es t):rN X Z (.Tuple es x1 pos) (o5 t):=(L2.pe_tup h).imp fun σ H Q zz=>by
 obtain ⟨ρ,O,M,lad,r,hE,hf,k⟩:=zz;unfold o5 at hf;cases hx:t ρ with
 |none=>rw[hx] at hf;cases hf
 |some x =>
  rw[hx,aa] at hf;refine⟨ρ,O,M,lad,x,hE,hx,?_⟩;cases x with
  |inl n=>cases hf;exact k
  |inr ds =>
   dsimp only at hf ⊢;split at hf
   ·rename_i hz;cases hf;refine fun vs H1 s1 q1=>⟨by rw[<-q1.length];exact hz,fun p hp=>?_⟩;have s2:cw H1 (cX H1 p (.tup vs)):=fun b o e=>by rw[bZ (bV e hp)];exact e
    exact k _ _ (s1.trans s2) (.of (.tuple (.inl (.inl cg)) (q1.same s2)))
   ·cases hf
theorem uC (he:rN X Z e f):DZ X Z (.Return (some e) pos) (cU f):=fun B H₀ M₀ lad=>(L2.ps_ret he).imp fun E σ H zz=>by
 obtain ⟨ρ,fl,⟨M,hx,hB,hE⟩,hf,k⟩:=zz;unfold cU at hf;cases hr:f ρ with
 |none=>rw[hr] at hf;cases hf
 |some r =>
  rw[hr,ae] at hf;cases hf;refine⟨ρ,M++B,M,lad,r,hE,hr,?_⟩;unfold pX at k;dsimp only at k;cases hn:dX r with
  |some n =>
   rw[hn] at k;exact fun H' s=>k H' M (hx.trans (.same s))
  |none =>
   rw[hn] at k;dsimp only at k ⊢;intro v H' s q;refine k v H' ⟨⟨M,hx.trans (.same s)⟩,?_⟩;rcases q with ⟨e,q⟩|⟨e,a,es',vs',e1,e2,e3,e4,q⟩
   ·exact .inl ⟨e,q.ext (.less fun b hb=>ah _ hb)⟩
   ·refine .inr ⟨e,a,es',vs',e1,e2,.inr ?_,e4,q.ext (.less fun b hb=>(ay.mp hb).elim (fun z=>z▸aB) fun z=>ak _ (ah _ z))⟩;cases e5:H₀ a with
    |none=>rfl
    |some o=>exact absurd e3 (hx.there a (by rw[e5];simp))
theorem uz {i:Nat}{x:Str}{pos':Pos}(hN:X.N.Nodup)(he:rN X Z e f)(hi:X.N[i]?=some x:=by rfl)(hx:L2.Loc X.env.scope x:=by first|exact Or.inl rfl|exact Or.inr rfl)(hs:swapsWith e (some (.Name x pos')) pos.line X.env=pure false:=by rfl)(hf:X.fn x=true\/X.env.scope.names.lookup x=some .local:=by first|exact .inl rfl|exact .inr rfl|assumption) :
  DZ X Z (.Assign [.Name x pos'] e pos) (rR i f):=fun B H₀ M₀ lad=>(L2.ps_set hN hi hx he hs hf).imp fun E σ H zz=>by
 obtain ⟨ρ,fl,⟨M,hx,hB,hE⟩,hf,k⟩:=zz;unfold rR at hf;cases hr:f ρ with
 |none=>rw[hr] at hf;cases hf
 |some r =>
  rw[hr,aa] at hf;refine⟨ρ,M++B,M,lad,r,hE,hr,?_⟩;cases hn:dX r with
  |some n =>
   rw[hn] at hf;cases hf;exact fun H' s=>k H' M (hx.trans (.same s))
  |none =>
   rw[hn] at hf;cases hf;dsimp only;intro v H1 s1 q1;obtain⟨M',x',B',E'⟩:=hE.set i hB s1 q1;exact k _ _ ⟨M',hx.trans x',B',E'⟩
theorem iI {F:FD}{cls:Int->Addr}{ta:AD}{fx:Str}{e0:Expr}{p cp:Pos}{kf j:Nat}{ps:List Str}(G:j7 X.prog X.w X.K X.mg X.base kf fx ps F cls)(hr:L2.Room j X.A)(ha:DA X.nox (e0::es) ta)
  (hZ:∀(pins:List (Addr×Obj)) (σ:St) (H:Hp) (s:Shared) (e:Value) (s':Shared),Inv X pins σ H s->L2.CX1 X.prog X.w X.stack H s (fun C _ H'=>∃n,C=.ref (cls n)/\Z n H') e s'->X.xe e s')
  (hj:kf<=j:=by decide) (hg:L2.Gl X fx:=by rfl) (hdb:(fx==("__debug__" : Str))=false:=by decide)
  (he:starEach (e0::es) X.env=(false,eval e0 X.env)::starEach es X.env:=by rfl) (hpl:(backTo cp (starEach es X.env)).any (·.1)=false:=by rfl) :
  rN X Z (.Call (.Name fx p) (e0::es) [] cp) (cC F ta):=fun pins s σ H Q I zz=>by
 obtain ⟨ρ,O,M,lad,r,hE,hf,k⟩:=zz;obtain⟨fa,fd,G1,G2,G3,G4⟩:=G.ex;unfold cC at hf;cases ht:ta ρ with
 |none=>rw[ht] at hf;cases hf
 |some ds =>
  rw[ht,aa] at hf;refine wpAny_Call_Name_kw (L2.ld_glob I hg G2 ?_ hdb);have w:=ha cp pins s σ H (fun vs H1=>cw H H1/\Rs X.K H1 O ds vs) (I.wish _) ⟨ρ,O,M,lad,ds,hE,ht,fun vs H1 s1 q1=>⟨s1,q1⟩⟩;refine PySem.W.callWith_K (h₀:=X.base) I.ok.mod.kin G3 (wpAny_mono w (fun us s1 ⟨vs,H1,I1,r1,s1',q1⟩=>?_) fun e s' z=>False.elim z) he hpl;have I2:=I1.unwish;have hE1:=hE.same s1';refine⟨I2.kIn,m9 (E:=fun C _ H'=>∃n,C=.ref (cls n)/\Z n H') G1 (hr.mono hj) G4 I2 r1 ⟨ds,O,r,q1,hE1.tr,hf,?_⟩ fun e s' z=>hZ pins σ H1 s1 e s' I2 z⟩;cases hn:dX r with
  |some n =>
   rw[hn] at k;exact fun H' s2=>⟨n,rfl,k H' (s1'.trans s2)⟩
  |none =>
   rw[hn] at k;exact fun v H' s2 q2=>k v H' (s1'.trans s2) (q2.back s1')
end
end DL
namespace L2
open PySem PySem.Spec PyProof.Rows
section
variable {M:Model}{A:Around}{E:Value->Shared->Prop}{s:Shared}
theorem qJ {B:Heap}{en:Env}{de:List Env}{L ea:Addr}{k0 k1 fl:Value}{Q:Unit->Shared->Prop}(hfr:A.frames=some (en::de))(hf:en.frame=some L)(st:B.StaysIn s.heap)(nw:B.get? ea=none)
  (ff:s.heap.FunFrames B (en::de)) (tr:s.heap.TracedAtW B ea k0 k1 fl) (q:∀g,Heap.FlyingW B de ea k0 k1 g->s.heap.UpToSlots g->Q () { s with heap:=g }):wpAny M A (leaving en (.ref ea)) Q E s:=by
 unfold leaving;have fin:∀g,s.heap.UpToSlots g->Heap.HeldW B (en::de) ea k0 k1 L g->wpAny M A (setFlight (.ref ea) none) Q E { s with heap:=g }:=fun g up hh =>
  wpAny_landsW (s:={ s with heap:=g }) hh fun g' fl' up'=>by
   obtain⟨x1,x2,⟨_,_,x3⟩,x4⟩:=fl';exact q g' ⟨x1,x2,x3,x4⟩ (up.trans up')
 by_cases eq:fl=rawInt L
 ·subst eq;exact ag (wpAny_noteFrame_againW hf tr (fin s.heap (.refl _) ⟨st,nw,ff,tr⟩))
 ·obtain⟨oa,va,T,ob,vb,ha,⟨hc,h0⟩,hd,h1,hT0,hTn,hT,hdT,h3⟩:=tr;subst hc;refine ag ?_;unfold noteFrame;simp only[hf];refine ag (bD ha hd h1 ?_);rw[if_pos (by simp)];refine ag (bD hT hdT h3 ?_);rw[if_neg (by simpa using eq)];have vg:3<vb.size:=by
   rcases Nat.lt_or_ge 3 vb.size with z|z
   ·exact z
   ·rw[bg z] at h3;cases h3
  have sz1:1<va.size:=by
   rcases Nat.lt_or_ge 1 va.size with z|z
   ·exact z
   ·rw[bg z] at h1;cases h1
  refine ag (wpAny_setField hT hdT vg ?_);have away:∀b,b≠T->(s.heap.update T (Obj.mapFields (·.setIfInBounds 3 Value.none))).get? b=s.heap.get? b:=fun b n=>bS _ _ n.symm;have plain:∀b o,s.heap.get? b=some o->(∀us,o.data≠.fields us)->b≠T:=fun b o e n z=>by
   subst z;rw[hT] at e;cases e;exact n _ hdT
  have st':B.StaysIn (s.heap.update T (Obj.mapFields (·.setIfInBounds 3 Value.none))):=fun b o e=>by
   rw[away b fun z=>by subst z;rw[hT0] at e;cases e];exact st b o e
  refine wpAny_entryW hfr (ff.of_keeps fun b o e n=>⟨o,(away b (plain b o e n)).trans e,rfl⟩) hf ((away ea hTn.symm).trans ha) st' nw hd sz1 h0 fun g hn=>?_;obtain⟨x1,x2,x3,x4⟩:=hn;exact fin g (fun b o e n=>x4 b o ((away b (plain b o e n)).trans e) n) ⟨x1,nw,x2,x3⟩
end
section
variable {X:Cx}{pins:List (Addr×Obj)}{σ:St}{H:Hp}{s:Shared}
theorem Inv.seenB (I:Inv X pins σ H s)(hst:X.stack=X.env::X.outer)(hf:X.env.frame=some X.env.locals)(hex:X.ex=[]){s':Shared}{H':Hp}{B h3:Heap}{cn:Addr}(hc0:X.s₀.heap.get? cn=none)(hcf:cn∉frs X.stack)(un:Un (frs X.stack) [] H H' s.heap s'.heap)(hB:∀b o o',s.heap.get? b=some o->s'.heap.get? b=some o'->b∉frs X.stack->B.get? b=some o')
  (st:∀b o,b≠cn->B.get? b=some o->h3.get? b=some o) (up:∀b o,b≠cn->s'.heap.get? b=some o->(∀vs,o.data≠.fields vs)->∃sl,h3.get? b=some { o with slots:=sl }):Un X.fs [] X.H₀ H' X.s₀.heap h3/\(∀b o o',X.s₀.heap.get? b=some o->h3.get? b=some o'->b∉X.fs->B.get? b=some o'):=by
 have nex:∀b:Addr,b∉X.ex:=fun b z=>by rw[hex] at z;cases z
 have no:∀b:Addr,b∉([]:List Addr):=fun b z=>by cases z
 have nc:∀b o,X.s₀.heap.get? b=some o->b≠cn:=fun b o e z=>by rw[z,hc0] at e;cases e
 have old:∀b o,X.s₀.heap.get? b=some o->b∉X.fs->b∉frs X.stack:=fun b o e nb hb=>by
  rw[hst] at hb;unfold frs at hb;rw[aM,hf] at hb;rcases ay.mp hb with z|z
  ·subst z;exact absurd (ao (av e) I.ok.above) (aF _)
  ·exact nb z
 have nE:∀b,b∈X.fs->b∈frs X.stack:=fun b hb=>by
  rw[hst];unfold frs;rw[aM,hf];exact ak _ hb
 have ncf:∀b,b∈X.fs->b≠cn:=fun b hb z=>hcf (z▸nE b hb);refine⟨⟨fun b o q n nb _=>?_,fun b o q n hb _=>?_,fun b o q n _=>?_,fun b o q _=>?_,fun b xs q=>un.tups b xs (I.base.tups b xs q),fun b o u q=>un.frzs b o u (I.base.frzs b o u q),fun b ps q=>?_⟩,fun b o o' q q' nb=>?_⟩
 ·have e1:=I.base.keep b o q n nb (nex b);have e2:=un.keep b o e1 (I.base.free b o q n (nex b)) (old b o q nb) (no b);exact st b o (nc b o q) (hB b o o e1 e2 (old b o q nb))
 ·obtain⟨sl,e1⟩:=I.base.slot b o q n hb (nex b);obtain⟨_,o',ho',hd'⟩:=I.funs.mem hb;rw[e1] at ho';cases ho';obtain⟨sl2,e2⟩:=un.slot b _ e1 (I.base.free b o q n (nex b)) (nE b hb) (no b);obtain⟨sl3,e3⟩:=up b _ (ncf b hb) e2 hd';exact⟨sl3,e3⟩
 ·obtain⟨o',e1⟩:=I.base.there b o q (nex b);exact un.free b o' e1 (I.base.free b o q n (nex b)) (no b)
 ·obtain⟨o1,e1⟩:=I.base.there b o q (nex b);obtain⟨o2,e2⟩:=un.there b o1 e1 (no b);by_cases hb:b∈X.fs
  ·obtain⟨_,o3,ho3,hd3⟩:=I.funs.mem hb;rw[e1] at ho3;cases ho3;have n:=I.stkFree b (nE b hb);obtain⟨sl2,e4⟩:=un.slot b _ e1 n (nE b hb) (no b);obtain⟨sl3,e5⟩:=up b _ (ncf b hb) e4 hd3;exact⟨_,e5⟩
  ·exact⟨o2,st b o2 (nc b o q) (hB b o1 o2 e1 e2 (old b o q hb))⟩
 ·obtain⟨m1,e1⟩:=I.base.tbls b ps q;obtain⟨m2,e2⟩:=un.tbls b _ e1;exact⟨m1++m2,by rw[e2,bz]⟩
 ·obtain⟨o1,e1⟩:=I.base.there b o q (nex b);obtain⟨o2,e2⟩:=un.there b o1 e1 (no b);have e3:=hB b o1 o2 e1 e2 (old b o q nb);have e4:=st b o2 (nc b o q) e3;rw[q'] at e4;cases e4;exact e3
theorem FunFrames.less {h B B':Heap}(k:∀b,B.get? b=none->B'.get? b=none):∀{l:List Env},h.FunFrames B l->h.FunFrames B' l
 |[],_=>trivial
 |_::_,⟨h1,⟨L,o,h2,h3,h4⟩,h5⟩=>⟨h1,⟨L,o,h2,k L h3,h4⟩,FunFrames.less k h5⟩
theorem Inv.passesB (I:Inv X pins σ H s)(hst:X.stack=X.env::X.outer)(hf:X.env.frame=some X.env.locals)(hex:X.ex=[]){ea C t cn:Addr}{B:Heap}{H':Hp}{s' s4:Shared}{fl:Value}{E:XK}{EE:Value->Shared->Prop}
  (hc0:X.s₀.heap.get? cn=none) (hcf:cn∉frs X.stack) (hcH:H' cn=none) (os:s4.os=s.os) (bare:AllBare s4.gens) (un:Un (frs X.stack) [] H H' s.heap s'.heap) (ok:iq X.prog X.w H' s'.heap) (nw:B.get? ea=none)
  (hB:∀b o o',s.heap.get? b=some o->s'.heap.get? b=some o'->b∉frs X.stack->B.get? b=some o') (hT:∀b o,s'.heap.get? b=some o->H' b≠none->B.get? b=some o) (hE:E (.ref C) none H')
  (st:∀b o,b≠cn->B.get? b=some o->s4.heap.get? b=some o) (up:∀b o,b≠cn->s'.heap.get? b=some o->(∀vs,o.data≠.fields vs)->∃sl,s4.heap.get? b=some { o with slots:=sl }) (ff:s4.heap.FunFrames B X.stack) (tr:s4.heap.TracedAtW B ea (.ref C) (.ref t) fl) :
  wpAny (model X.prog X.w) X.A (leaving X.env (.ref ea)) (fun _ s''=>CX1 X.prog X.w X.outer X.H₀ X.s₀ E (.ref ea) s'') EE s4:=by
 have hfr:X.A.frames=some (X.env::X.outer):=by rw[<-hst];exact I.ok.frames
 have get1:∀b o,(PySem.W.hideAll B [cn]).get? b=some o->B.get? b=some o:=fun b o q=>PySem.W.of_hideAll _ q;have get2:∀b o,B.get? b=some o->b≠cn->(PySem.W.hideAll B [cn]).get? b=some o:=fun b o q n=>PySem.W.hideAll_get _ q (by simpa using n);have hid:(PySem.W.hideAll B [cn]).get? cn=none:=PySem.W.hideAll_none _ (by simp);have non:∀b,B.get? b=none->(PySem.W.hideAll B [cn]).get? b=none:=fun b q=>by
  cases e:(PySem.W.hideAll B [cn]).get? b with
  |none=>rfl
  |some o=>rw[get1 b o e] at q;cases q
 generalize PySem.W.hideAll B [cn]=B1 at get1 get2 hid non;have ne:∀b o,B1.get? b=some o->b≠cn:=fun b o e z=>by rw[z,hid] at e;cases e
 have tr1:s4.heap.TracedAtW B1 ea (.ref C) (.ref t) fl:=by
  obtain⟨oe,vs,T,oT,ts,h1,h2,h3,h4,h5,h6⟩:=tr;exact⟨oe,vs,T,oT,ts,h1,h2,h3,h4,non T h5,h6⟩
 rw[hst] at ff;refine qJ hfr hf (fun b o q=>st b o (ne b o q) (get1 b o q)) (non ea nw) (FunFrames.less non ff) tr1 fun g fg ug=>?_;have stg:∀b o,b≠cn->B.get? b=some o->g.get? b=some o:=fun b o n q=>fg.1 b o (get2 b o q n);have upg:∀b o,b≠cn->s'.heap.get? b=some o->(∀vs,o.data≠.fields vs)->∃sl,g.get? b=some { o with slots:=sl }:=fun b o n q d=>by
  obtain⟨sl,e1⟩:=up b o n q d;obtain⟨sl2,e2⟩:=ug b { o with slots:=sl } e1 d;exact⟨sl2,e2⟩
 obtain⟨u2,hB2⟩:=I.seenB hst hf hex hc0 hcf un hB stg upg;have hT1:∀b o,s'.heap.get? b=some o->H' b≠none->B1.get? b=some o:=fun b o q n=>get2 b o (hT b o q n) fun z=>n (z▸hcH);refine⟨ea,C,t,B1,H',rfl,os.trans I.os,bare,u2,ok.held hT1 fg.1,fg,fun b o o' q q' nb=>get2 b o' (hB2 b o o' q q' nb) (fun z=>by rw[z,hc0] at q;cases q),fun b o q n=>?_,hE⟩;cases e:H' b with
 |none=>exact absurd e n
 |some u =>
  obtain⟨o2,e2⟩:=(ok b u e).there;have e3:=hT1 b o2 e2 n;have e4:=fg.1 b o2 e3;have q:g.get? b=some o:=q;rw[q] at e4;cases e4;exact e3
end
end L2
namespace L2
open PySem PySem.Spec PyProof.Rows
theorem ku {prog:Program}{w:World}{A:Around}{R:Result->Shared->Prop}{s:Shared}{elt target iter:Expr}{ifs:List Expr}{scope:Scope}{pos:Pos}{it acc:Value}{env:Env}{EX:Value->Shared->Prop}(hEX:∀e s,EX e s->wpAny (model prog w) A (noteFrame e env) (fun _ s'=>R (.error e) s') (fun x s'=>R (.error x) s') s)(I:Nat->Shared->Prop)
  (turn:∀n s,I n s->wpAny (model prog w) A (pyNext it) (fun r s₁=>match r with
   |none=>R (.ok .next) s₁
   |some v=>wpAny (model prog w) A (letOwnedTupleGo target it v) (fun _ s₁'=>wpAny (model prog w) A (assign target env v) (fun _ s₂ =>
     wpAny (model prog w) A (forIn ifs true fun c r=>if r=true then do let ok <-isTrue c env (eval c env);pure (ForInStep.yield ok) else pure (ForInStep.yield r)) (fun ok s₃ =>
      if ok=true then wpAny (model prog w) A (eval elt env) (fun x s₄ =>
       wpAny (model prog w) A (call (.builtin "list.append") [acc,x]) (fun _ s₅=>∃m,m<n/\I m s₅) NoX s₄) EX s₃
      else ∃m,m<n/\I m s₃) NoX s₂) NoX s₁') NoX s₁) NoX s)
  (n:Nat) (h:I n s) :
  codeAny (model prog w) A (.compLoop (.ListComp elt [⟨target,iter,ifs,0⟩] scope pos) 0 it acc env) R s:=by
 refine codeAny_loop rfl I (fun n s hI=>?_) n h;show wpAny _ A ((compTurn (.ListComp elt [⟨target,iter,ifs,0⟩] scope pos) 0 it acc env).onRaise (fun x=>do noteFrame x env;theTreesLotGoes x)) _ _ s;refine wpAny_noted ?_;rw[compTurn_list];refine ag (wpAny_standAt (ag (wpAny_mono (turn n s hI) (fun r s₁ h₁=>?_) fun _ _ h'=>h'.elim)));cases r with
 |none=>exact aA h₁
 |some v =>
  refine ag (wpAny_mono h₁ (fun _ s₁' h₁'=>?_) fun _ _ h'=>h'.elim);refine ag (wpAny_mono h₁' (fun _ s₂ h₂=>ag (wpAny_mono h₂ (fun ok s₃ h₃=>?_) fun _ _ h'=>h'.elim)) fun _ _ h'=>h'.elim);cases ok with
  |false=>exact aA ⟨rfl,h₃⟩
  |true =>
   exact ag (ag (wpAny_mono h₃ (fun x s₄ h₄=>ag (wpAny_mono h₄ (fun _ s₅ h₅=>aA (aA ⟨rfl,h₅⟩)) fun _ _ h'=>h'.elim)) fun e s' h'=>hEX e s' h'))
theorem FunFrames.keepF {h h' B:Heap}:∀{l:List Env},(∀L∈frs l,∀o,h.get? L=some o->(∀vs,o.data≠.fields vs)->∃o',h'.get? L=some o'/\o'.data=o.data)->h.FunFrames B l->h'.FunFrames B l
 |[],_,_=>trivial
 | en::l,k,⟨h1,⟨L,o,h2,h3,h4,h5⟩,h6⟩=>by
  have sub:frs (en::l)=L::frs l:=by
   unfold frs;rw[aM,h2]
  obtain⟨o',e1,e2⟩:=k L (by rw[sub];exact aB) o h4 h5;exact⟨h1,⟨L,o',h2,h3,e1,by rw[e2];exact h5⟩,FunFrames.keepF (fun L' hL=>k L' (by rw[sub];exact ak _ hL)) h6⟩
section
variable {X:Cx}{pins:List (Addr×Obj)}{σ:St}{H:Hp}{s:Shared}
theorem kq {e:Value}{en en':Env}(h:en'.frame=en.frame):noteFrame e en'=noteFrame e en:=by
 unfold noteFrame PySem.frameOf;rw[h]
theorem rF (I:Inv X pins σ H s)(hst:X.stack=X.env::X.outer)(hf:X.env.frame=some X.env.locals)(hex:X.ex=[]){cn:Addr}{cenv:Env}{e:Value}{s':Shared}{EC:XK}{Q:Value->Shared->Prop}{acc:Value}{E2:Value->Shared->Prop}
  (hfe:cenv.frame=X.env.frame) (hc0:X.s₀.heap.get? cn=none) (hcf:cn∉frs X.stack) (hn:∃m,s.heap.Ns cn m) (hH:H cn=none) (c:CX1 X.prog X.w X.stack H s EC e s')
  (hX:∀s4,wpAny (model X.prog X.w) X.A (leaving X.env e) (fun _ s''=>CX1 X.prog X.w X.outer X.H₀ X.s₀ EC e s'') NoX s4->X.xe e s4) :
  wpAny (model X.prog X.w) X.A (noteFrame e cenv) (fun _ s''=>compPost (model X.prog X.w) X.A X.xe none Q acc cn (.error e) s'') E2 s':=by
 obtain⟨ea,C,t,B,H',rfl,os,bare,un,ok,fl,hB,hT,hE⟩:=c;have hfr:X.A.frames=some (X.env::X.outer):=by rw[<-hst];exact I.ok.frames
 rw[kq hfe];rw[hst] at fl;refine wpAny_looks_onW hfr hf fl fun g hh up=>?_;obtain⟨m,o,es,ep,ho,hdo,de⟩:=hn;have no:cn∉([]:List Addr):=fun z=>by cases z
 have o1:=un.keep cn o ho hH hcf no;have o2:=hB cn o o ho o1 hcf;have o3:=hh.1 cn o o2;refine⟨m,⟨o,es,ep,o3,hdo,de⟩,fun h' sb cenv' _=>?_⟩;obtain⟨k1,k2,k3,oe,vs,T,oT,ts,he,hcls,hd,h1,hT0,hTe,hTg,hdT,h3⟩:=hh;have ne1:ea≠cn:=fun z=>by rw[z,o2] at k2;cases k2
 have ne2:T≠cn:=fun z=>by rw[z,o2] at hT0;cases hT0
 have he':h'.get? ea=some oe:=(sb.2 ea ne1).trans he;have hT':h'.get? T=some oT:=(sb.2 T ne2).trans hTg;have vg:3<ts.size:=by
  rcases Nat.lt_or_ge 3 ts.size with z|z
  ·exact z
  ·rw[bg z] at h3;cases h3
 unfold PySem.passOn;refine ag (bD he' hd h1 ?_);rw[if_neg (by simp)];unfold setFlight;refine ag (ag (bD he' hd h1 ?_));rw[if_pos (by simp)];refine wpAny_setField hT' hdT vg (wpAny_throw (hX _ ?_));have away:∀b,b≠T->(h'.update T (Obj.mapFields (·.setIfInBounds 3 (cenv'.frame.elim Value.none fun f=>rawInt f)))).get? b=h'.get? b:=fun b n=>bS _ _ n.symm;have hd4:=Obj.data_mapFields hdT (·.setIfInBounds 3 (cenv'.frame.elim Value.none fun f=>rawInt f));have hT4:=Heap.get?_update_self (Obj.mapFields (·.setIfInBounds 3 (cenv'.frame.elim Value.none fun f=>rawInt f))) hT' (Obj.isFreed_of_fields hd4);have plain:∀b u,g.get? b=some u->(∀vs,u.data≠.fields vs)->b≠T:=fun b u e n z=>by
  subst z;rw[hTg] at e;cases e;exact n _ hdT
 refine I.passesB (s':=s') (B:=B) (C:=C) (t:=t) (cn:=cn) (fl:=cenv'.frame.elim Value.none fun f=>rawInt f) hst hf hex hc0 hcf (un.free cn o ho hH no) os bare un ok k2 hB hT hE (fun b u n q=>?_) (fun b u n q d=>?_) ?_ ?_
 ·show (h'.update T _).get? b=some u;rw[away b (fun z=>by rw[z,hT0] at q;cases q),sb.2 b n];exact k1 b u q
 ·obtain⟨sl,e1⟩:=up b u q d;refine⟨sl,?_⟩;show (h'.update T _).get? b=_;rw[away b (plain b _ e1 d),sb.2 b n];exact e1
 ·rw[hst];refine FunFrames.keepF (fun L hL u q d=>?_) k3;have nL:L≠cn:=fun z=>hcf (by rw[hst];exact z▸hL);refine⟨u,?_,rfl⟩;show (h'.update T _).get? L=some u;rw[away L (plain L u q d),sb.2 L nL];exact q
 ·refine⟨oe,vs,T,_,_,?_,hcls,hd,h1,hT0,hTe,hT4,hd4,by simp[vg]⟩;show (h'.update T _).get? ea=some oe;rw[away ea hTe.symm];exact he'
end
end L2
namespace L2
open PySem PySem.Spec PyProof.Rows
noncomputable def ErrC (X:Cx)(scope:Scope)(N':List Str)(s₀:Shared)(H₀:Hp)(ex:List Addr)(pn:List (Addr×Obj))(EC:XK):Value->Shared->Prop:=fun e s'=>∃pins' σ' H s,Inv (compCx X scope N' s₀ H₀ ex pn) pins' σ' H s/\CX1 X.prog X.w X.stack H s EC e s'
section
variable {X:Cx}{scope:Scope}{own caps:List Str}{ix:List Nat}{tg iter elt:Expr}{ifs:List Expr}{wi:TI}{g:TG}{tc:TT}{te:TE}
theorem mP {pos:Pos}{pins:List (Addr×Obj)}{s2:Shared}{σ:St}{H2:Hp}{E:Value->Shared->Prop}{J:It}{it:Addr}{fp:List Addr}{tn:Nat->Heap->Prop}{Q:VK}{RR:Value->Addr->Result->Shared->Prop}{EC:XK}(hst:X.stack=X.env::X.outer)(hf:X.env.frame=some X.env.locals)(hex:X.ex=[])
  (S:CompSc X.env.scope X.N scope own ix caps) (hc:X.calm=true)
  (hg:∀s₀ H₀ ex pn,PG (compCx X scope (own++caps) s₀ H₀ ex pn) tg g) (ht:∀s₀ H₀ ex pn,PTs (compCx X scope (own++caps) s₀ H₀ ex pn) ifs tc) (he:∀s₀ H₀ ex pn,PE ((compCx X scope (own++caps) s₀ H₀ ex pn).wish (ErrC X scope (own++caps) s₀ H₀ ex pn EC)) elt te)
  (I2:Inv X pins σ H2 s2) (T:Turn X.prog X.w X.K tg J fp it tn) (st2:tn 0 s2.heap) (f2:∀b∈fp,i6 X pins H2 b)
  (hW:∀D,H2 D=none->∃W:Nat->Nat->St->Hp->Prop,(∃m,W 0 m (capt own.length ix σ) (cX H2 D (.lst [])))/\∀i m σ' H',W i m σ' H' →
   (J.stop i H'/\Q (.ref D) H')\/(J.go i H'/\∃N:St->Hp->Prop,(∀σ2 H2,N σ2 H2->∃m',m'<m/\W (i+1) m' σ2 H2) ∧
    ∀x H2,J.yld i H' x H2->g x σ' H2 fun σ3 H3=>tc σ3 H3 fun b H4=>if b=true then te σ3 H4 fun y H5=>∃ys,H5 D=some (.lst ys)/\ys.length<sizeLine/\N σ3 (cX H5 D (.lst (ys++[y]))) else N σ3 H4))
  (hRR:∀(D C:Addr) (H':Hp) (s':Shared),Inv X pins σ H' s'->Q (.ref D) H'->(∃m,s'.heap.Ns C m)->H' C=none->C≠X.env.locals->X.s₀.heap.objs.size<=C->(∀x c,X.env.cells.lookup x=some c->c≠C)->(∀p∈X.pn++pins,p.1≠C)->RR (.ref D) C (.ok .next) s')
  (hRE:∀(D C:Addr) (H':Hp) (s9 s':Shared) (cenv:Env) (e:Value),Inv X pins σ H' s9->cenv.frame=X.env.frame->X.s₀.heap.get? C=none->C∉frs X.stack->(∃m,s9.heap.Ns C m)->H' C=none->CX1 X.prog X.w X.stack H' s9 EC e s'->wpAny (model X.prog X.w) X.A (noteFrame e cenv) (fun _ s''=>RR (.ref D) C (.error e) s'') (fun x s''=>RR (.ref D) C (.error x) s'') s') :
  wpAny (model X.prog X.w) X.A (newList []) (fun acc s₃=>wpAny (model X.prog X.w) X.A (newFunctionEnv scope X.env.globals (fT X.env scope.names []) [] X.env.qual none .none (some X.env)) (fun cenv s₄ =>
   codeAny (model X.prog X.w) X.A (.compStart (.ListComp elt [⟨tg,iter,ifs,0⟩] scope pos) 0 (.ref it) acc { cenv with scope:=relabel scope X.env }) (RR acc cenv.locals) s₄) E s₃) E s2:=by
 refine bj (mw fun h' hn hk hcl hs=>?_);have hD:H2 s2.heap.objs.size=none:=I2.hok.fresh (aq _);obtain⟨W,⟨m0,w0⟩,turn⟩:=hW s2.heap.objs.size hD;have I3:=I2.lnew (ys:=[]) (its:=[]) (t':=s2.toks) .nil (bf _);generalize hs3:({ s2 with heap:=s2.heap.push { cls:=.type "list", data:=.seq ([]:List Value).toArray },toks:=s2.toks }:Shared)=s3 at I3;have hlt:∀b∈fp,b<s2.heap.objs.size:=fun b hb=>by
  obtain⟨o,e,_⟩:=T.obj _ _ st2 b hb;exact av e
 have hsz:s3.heap.objs.size=s2.heap.objs.size+1:=by rw[<-hs3];exact bG ..
 have k3:∀b o,s2.heap.get? b=some o->s3.heap.get? b=some o:=fun b o e=>by rw[<-hs3];exact aw _ e
 have f3:∀b∈fp,i6 X pins (cX H2 s2.heap.objs.size (.lst [])) b:=fun b hb=>by
  obtain⟨f0,fr⟩:=f2 b hb;exact⟨by rw[bZ (aK (hlt b hb))];exact f0,fr⟩
 have es3:s3={ s2 with heap:=s2.heap.push { cls:=.type "list", data:=.seq ([]:List Value).toArray } }:=hs3.symm
 try rw[<-es3] at hn
 try rw[<-es3] at hk
 try rw[<-es3] at hcl
 try rw[<-es3] at hs
 try rw[<-es3]
 have hlt3:∀b∈fp,b<s3.heap.objs.size:=fun b hb=>by rw[hsz];exact Nat.lt_succ_of_lt (hlt b hb)
 have I4:=mO S I3 f3 hlt3 hn hk hcl;have st4:tn 0 h':=T.keep _ _ _ st2 fun b hb o e=>hk b o (k3 b o e);have stat:∀{H':Hp},(∀b∈fp,H' b=none)->∀b∈fp,i6 (compCx X scope (own++caps) s3 (cX H2 s2.heap.objs.size (.lst [])) fp (X.pn++pins)) [] H' b:=fun hn b hb=>by
  obtain⟨f0,f1,f2',f3',f4,f5⟩:=f3 b hb;refine⟨hn b hb,aK (hlt3 b hb),fun z=>?_,.inl hb,fun x c e=>(I4.ok.exf b hb).2 x c e,fun p hp=>f5 p (by simpa [compCx] using hp)⟩;rcases ay.mp (I2.stkSub b z) with q|q
  ·exact f1 q
  ·exact f2' q
 have main:codeAny (model X.prog X.w) X.A (.compLoop (.ListComp elt [⟨tg,iter,ifs,0⟩] scope pos) 0 (.ref it) (.ref s2.heap.objs.size) (fi X scope s3.heap.objs.size))
   (RR (.ref s2.heap.objs.size) s3.heap.objs.size) { s3 with heap:=h' }:=by
  refine ku (EX:=ErrC X scope (own++caps) s3 (cX H2 s2.heap.objs.size (.lst [])) fp (X.pn++pins) EC) ?err (fun n s'=>∃i σ' H',Inv (compCx X scope (own++caps) s3 (cX H2 s2.heap.objs.size (.lst [])) fp (X.pn++pins)) [] σ' H' s'/\tn i s'.heap/\(∀b∈fp,H' b=none)/\W i n σ' H') ?_ m0
   ⟨0,_,_,I4,st4,fun b hb=>(f3 b hb).1,w0⟩
  case err =>
   rintro e s' ⟨pins',σ9,H9,s9,I9,cx⟩;have u:Un (frs X.stack) fp H2 H9 s2.heap s9.heap:=(Un.laid (o:=.lst []) k3 (aq _) hD).trans I9.base;have e6:s9.os=s2.os:=by
    have:=I9.os;rw[this,<-hs3];rfl
   have I7:Inv X pins σ H9 s9:=I2.call' e6 u I9.hok I9.bare fun b hb=>⟨(f2 b hb).2.2.2.1,(f2 b hb).2.1,(f2 b hb).2.2.2.2.1,(f2 b hb).2.2.2.2.2⟩;obtain⟨mC,hC,_⟩:=I9.loc;have big:∀b,b<s2.heap.objs.size->s3.heap.objs.size≠b:=fun b hb z=>by rw[<-z,hsz] at hb;exact aF _ (bB hb)
   refine hRE _ _ H9 s9 s' _ e I7 rfl ?_ (fun z=>?_) ⟨mC,hC⟩ I9.free cx
   ·cases q:X.s₀.heap.get? s3.heap.objs.size with
    |none=>rfl
    |some o=>exact absurd (av q) (Nat.not_lt.mpr (aL I2.sz (by rw[hsz];exact Nat.le_succ _)))
   ·rcases ay.mp (I2.stkSub _ z) with q|q
    ·exact big _ I2.lt q
    ·obtain⟨_,o,ho,_⟩:=I2.funs.mem q;exact absurd rfl (big _ (av ho))
  rintro n s5 ⟨i,σ5,H5,I5,st5,fr5,w5⟩;rcases turn i n σ5 H5 w5 with ⟨stop,qn⟩|⟨go,N,hN,step⟩
  ·refine thn (T.done (compCx X scope (own++caps) s3 (cX H2 s2.heap.objs.size (.lst [])) fp (X.pn++pins)) rfl rfl rfl hc i [] s5 σ5 H5 NoX I5 (stat fr5) st5 stop) fun r s6 zz=>?_;obtain ⟨hr,I6⟩:=zz;subst hr;have u:Un (frs X.stack) fp H2 H5 s2.heap s6.heap:=(Un.laid (o:=.lst []) k3 (aq _) hD).trans I6.base;have e6:s6.os=s2.os:=by
    have:=I6.os;rw[this,<-hs3];rfl
   have I7:Inv X pins σ H5 s6:=I2.call' e6 u I6.hok I6.bare fun b hb=>⟨(f2 b hb).2.2.2.1,(f2 b hb).2.1,(f2 b hb).2.2.2.2.1,(f2 b hb).2.2.2.2.2⟩;obtain⟨mC,hC,_⟩:=I6.loc;refine hRR _ _ H5 s6 I7 qn ⟨mC,hC⟩ I6.free (bQ (ao I2.lt (by rw[hsz];exact Nat.le_succ _))) (aL I2.sz (by rw[hsz];exact Nat.le_succ _)) (fun x c e z=>?_) fun p hp z=>?_
   ·obtain⟨v,q⟩:=I2.cell x c e;have:=q.lt;rw[z,hsz] at this;exact aF _ (bB this)
   ·have:=av (I2.pin p hp).1;rw[z,hsz] at this;exact aF _ (bB this)
  ·refine thn (T.item (compCx X scope (own++caps) s3 (cX H2 s2.heap.objs.size (.lst [])) fp (X.pn++pins)) rfl rfl rfl hc i [] s5 σ5 H5 NoX I5 (stat fr5) st5 go) fun r s6 zz=>?_;obtain ⟨u,hr,h6⟩:=zz;subst hr;refine thn h6 fun _ s7 zz=>?_;obtain ⟨x,H7,I7,r7,y7,st7,fr7⟩:=zz;have I7':=I7.pinned (stat fr7) (T.obj _ _ st7);refine thn (hg _ _ _ _ _ s7 σ5 H7 x u _ I7' r7 (step x H7 y7)) fun _ s8 zz=>?_;obtain ⟨σ8,H8,I8,q8⟩:=zz;refine thn (ht _ _ _ _ _ s8 σ8 H8 _ I8 q8) fun b s9 zz=>?_;obtain ⟨H9,I9,q9⟩:=zz;have again:∀{σ':St}{H':Hp}{s':Shared},Inv (compCx X scope (own++caps) s3 (cX H2 s2.heap.objs.size (.lst [])) fp (X.pn++pins)) ([]++iT fp s7.heap) σ' H' s'->N σ' H' →
     ∃m,m<n/\∃i σ' H',Inv (compCx X scope (own++caps) s3 (cX H2 s2.heap.objs.size (.lst [])) fp (X.pn++pins)) [] σ' H' s'/\tn i s'.heap/\(∀b∈fp,H' b=none)/\W i m σ' H':=fun {σ' H' s'} J n7=>by
    obtain⟨m',hm,w7⟩:=hN σ' H' n7;refine⟨m',hm,i+1,σ',H',J.unpinned,T.keep _ _ _ st7 fun b hb o e=>(J.pin (b,o) (ah _ (ah _ (el hb e)))).1,fun b hb=>?_,w7⟩;obtain⟨o,e,d⟩:=T.obj _ _ st7 b hb;exact (J.pin (b,o) (ah _ (ah _ (el hb e)))).2.1
   cases b with
   |false=>exact again I9 q9
   |true =>
    rw[if_pos rfl] at q9;show wpAny _ _ (eval elt _) _ _ _;refine wpAny_mono (he _ _ _ _ _ s9 σ8 H9 _ (I9.wish _) q9) (fun y s10 ⟨vy,H10,I10w,r10,ys,hD10,hz10,q10⟩=>?_) fun _ _ z=>z;have I10:=I10w.unwish;refine thn (mt_append _ s10 σ8 H10 (.ref s2.heap.objs.size) [vy] (.ref s2.heap.objs.size) [y] (fun _ H'=>N σ8 H') I10 rfl (.cons r10 .nil) ⟨_,ys,vy,rfl,rfl,hD10,hz10,q10⟩) fun _ s11 zz=>?_;obtain ⟨_,H11,I11,_,q11⟩:=zz;exact again I11 q11
 exact codeAny_compStart_list main (T.self _ 0 _ _ _ st4 main)
theorem pe_lcompZ {pos:Pos}{EC:XK}(hst:X.stack=X.env::X.outer)(hf:X.env.frame=some X.env.locals)(hex:X.ex=[])(hX:∀(e:Value) (s4:Shared),wpAny (model X.prog X.w) X.A (leaving X.env e) (fun _ s''=>CX1 X.prog X.w X.outer X.H₀ X.s₀ EC e s'') NoX s4->X.xe e s4)(S:CompSc X.env.scope X.N scope own ix caps)(hc:X.calm=true)(hi:PI X tg iter wi)
  (hg:∀s₀ H₀ ex pn,PG (compCx X scope (own++caps) s₀ H₀ ex pn) tg g) (ht:∀s₀ H₀ ex pn,PTs (compCx X scope (own++caps) s₀ H₀ ex pn) ifs tc) (he:∀s₀ H₀ ex pn,PE ((compCx X scope (own++caps) s₀ H₀ ex pn).wish (ErrC X scope (own++caps) s₀ H₀ ex pn EC)) elt te)
  (hs:∀x,foldedSetIterable iter X.env x=pure x:=by intro _;rfl) :
  PE X (.ListComp elt [⟨tg,iter,ifs,0⟩] scope pos) (tComp wi own.length ix g tc te):=by
 intro pins s σ H Q I h;have hcl:closureFor scope X.env=pure (fT X.env scope.names []):=g0 fun y hy=>I.ok.has y (S.frees (y,.free) hy rfl);rw[eval_ListComp];refine wpAny_comprehension_free (use:=none) rfl hs hcl S.kind (fun y hy hl=>by have:=S.uniq y hy;rw[hl] at this;exact this) ?_;refine thn (hi pins s σ H _ I h) fun v s1 h1=>thn h1 fun itv s2 h2=>?_;obtain⟨it,fp,tn,J,H2,e,I2,T,st2,f2,hW⟩:=h2;subst e;refine mP (E:=X.xe) (Q:=Q) (EC:=EC) (RR:=fun acc C=>compPost (model X.prog X.w) X.A X.xe none (EP X pins σ Q) acc C) hst hf hex S hc hg ht he I2 T st2 f2 hW ?_ fun D C H' s9 s' cenv e J hfe h0 hcf hn hH c=>rF J hst hf hex hfe h0 hcf hn hH c (hX e);intro D C H' s' I' q hC hH hL hs0 hcell hp;obtain⟨m,hm⟩:=hC;refine⟨m,hm,fun h'' hsb=>⟨.ref D,H',?_,rfl,q⟩⟩;exact I'.turned (t':=s'.toks) (fun b o hb e=>(hsb.2 b hb).trans e) hH (Ne.symm hL).symm (.inr hs0) hcell hp
end
end L2
namespace DL
open PySem PySem.Spec PySem.SeqAt
open L2 (V Hp St HO VK TE TT TA TS TI TG Cx Inv PE PT PA PS PSs PI PG dr dq cw cX cg bZ bV cA cI EP TP AP SP c7 It)
noncomputable def qc (ys:List D):Int ⊕ List D->Int ⊕ List D
 |.inl n=>.inl n
 |.inr r=>.inr (ys++r)
theorem o6 (ys:List D)(d:D)(r:Int ⊕ List D):qc (ys++[d]) r=qc ys (jx d r):=by
 cases r with
 |inl n=>rfl
 |inr r=>show Sum.inr (ys++[d]++r)=Sum.inr (ys++d::r);rw[aQ];rfl
noncomputable def gp (g:GD)(t:TD)(e:ED)(ρ:Sl):List D->Option (Int ⊕ List D)
 |[]=>some (.inr [])
 | d::ds=>(g d ρ).bind fun ρ1=>(t ρ1).bind fun c=>if c=true then (e ρ1).bind fun x=>match dX x with
  |some n=>some (.inl n)
  |none=>(gp g t e ρ ds).map (jx x.1) else gp g t e ρ ds
noncomputable def rS:Int ⊕ List D->Vl
 |.inl n=>iE n
 |.inr xs=>(.list xs,true)
noncomputable def ky (it:AD)(n:Nat)(ix:List Nat)(g:GD)(t:TD)(e:ED):ED:=fun ρ=>(it ρ).bind fun ds=>if ds.length<=sizeLine then (gp g t e (dg n ix ρ) ds).map rS else none
theorem pN {K:Fg}{Z:Int->Hp->Prop}{it:AD}{n:Nat}{ix:List Nat}{g:GD}{t:TD}{e:ED}(hix:ix.Nodup)(hg:nW n g){σ:St}{H:Hp}{Q:VK}(h:vY K Z (ky it n ix g t e) σ H Q) :
  L2.tComp (uI K it) n ix (uG K g) (uT K t) (vY K Z e) σ H Q:=by
 obtain⟨ρ,O,M,lad,res,hE,hf,k⟩:=h;unfold ky at hf;cases hd:it ρ with
 |none=>rw[hd] at hf;cases hf
 |some ds =>
  rw[hd,aa] at hf;split at hf
  ·rename_i hz;cases hc:gp g t e (dg n ix ρ) ds with
   |none=>rw[hc] at hf;cases hf
   |some xs =>
    rw[hc,ae] at hf;have hres:=aS.inj hf;refine⟨ρ,O,M,lad,ds,hE,hd,fun J H1 s1 iok=>fun L hL=>?_⟩;have hLO:L∉O:=fun z=>(hE.same s1).ne L z hL;refine⟨fun i m σ' H'=>m=ds.length-i/\i<=ds.length/\cw H1 H'/\∃ys vs,ys.length<=i/\H' L=some (.lst vs)/\Rs K H' (L::O) ys vs/\ER K H' (L::O) M (fun i=>lad (ix.getD (i-n) 0)) (dg n ix ρ) σ' ∧
     (gp g t e (dg n ix ρ) (ds.drop i)).map (qc ys)=some xs,⟨ds.length,by simp,bf _,?_,[],[],bf _,cg,.nil,?_,by rw[List.drop_zero,hc];cases xs <;> rfl⟩,?_⟩
    ·exact fun b o e=>by rw[bZ (bV e hL)];exact e
    ·have E1:=(hE.same s1).capt n hix;have x:gm [] O H1 (L::O) (cX H1 L (.lst [])):=gm.fresh (fun b o e=>by rw[bZ (bV e hL)];exact e) hL;refine E1.more x (fun b hb=>ak _ hb) (fun b hb=>?_) fun b vs e=>by rw[bZ (bV e hL)];exact e
     rcases ay.mp hb with z|z
     ·subst z;exact⟨.inl [],cg⟩
     ·obtain⟨vs,e⟩:=E1.tr b z;exact⟨vs,by rw[bZ (bV e hL)];exact e⟩
    ·rintro i m σ' H' ⟨rfl,hi,sm,ys,vs,hl,hD,qs,E',hrest⟩;have x0:gm [] O H1 (L::O) H':=gm.fresh sm hL;have x:gm M O H1 (L::O) H':=⟨x0.tup,x0.frz,fun b xs _ e=>sm b _ e,fun b φ _ e=>sm b _ e,x0.new,hE.sub⟩;obtain⟨go,stop⟩:=iok _ _ x;by_cases hlt:i<ds.length
     ·have ed:ds.drop i=ds[i]::ds.drop (i+1):=bu hlt;rw[ed] at hrest;unfold gp at hrest;cases hg1:g ds[i] (dg n ix ρ) with
      |none=>rw[hg1] at hrest;cases hrest
      |some ρ1 =>
       rw[hg1,aa] at hrest;cases ht:t ρ1 with
       |none=>rw[ht] at hrest;cases hrest
       |some c =>
        rw[ht,aa] at hrest;obtain⟨g1,g2⟩:=go i ds[i] (by simp[hlt]);obtain⟨ln,keep⟩:=hg _ _ _ hg1;have back:∀(j:Nat) y,(dg n ix ρ)[j]?=some (some y)->ρ1[j]?=some (some y):=fun j y e=>by
         rw[keep j (cZ e).1];exact e
        refine .inr ⟨g1,fun σ2 H2=>cw H1 H2/\∃ys vs,ys.length<=i+1/\H2 L=some (.lst vs)/\Rs K H2 (L::O) ys vs/\ER K H2 (L::O) M (fun i=>lad (ix.getD (i-n) 0)) (dg n ix ρ) σ2/\(gp g t e (dg n ix ρ) (ds.drop (i+1))).map (qc ys)=some xs,
         fun σ2 H2 ⟨s2,r⟩=>⟨ds.length-(i+1),by omega,rfl,hlt,s2,r⟩,fun v H2 hy=>?_⟩
        obtain⟨s2,q2⟩:=g2 v H2 hy;refine⟨_,_,M,_,ds[i],ρ1,E'.same s2,q2,hg1,fun σ3 H3 s3 E3=>⟨ρ1,_,M,_,c,E3,ht,fun H4 s4=>?_⟩⟩;have S4:cw H' H4:=(s2.trans s3).trans s4;have E4:ER K H4 (L::O) M (fun i=>lad (ix.getD (i-n) 0)) ρ1 σ3:=E3.same s4;cases c with
        |false =>
         dsimp only at hrest ⊢;rw[if_neg Bool.false_ne_true] at hrest ⊢;exact⟨sm.trans S4,ys,vs,by omega,S4 _ _ hD,qs.same S4,E4.fewer ln.symm back,hrest⟩
        |true =>
         dsimp only at hrest ⊢;rw[if_pos rfl] at hrest ⊢;cases he:e ρ1 with
         |none=>rw[he] at hrest;cases hrest
         |some r1 =>
          rw[he,aa] at hrest;cases hn:dX r1 with
          |some nn =>
           rw[hn] at hrest;have hx:Sum.inl nn=xs:=aS.inj hrest;subst hx;have hr2:iE nn=res:=hres;subst hr2;refine⟨ρ1,_,M,_,r1,E4,he,?_⟩;rw[hn];exact fun H' s'=>k H' (((s1.trans sm).trans S4).trans s')
          |none =>
          rw[hn] at hrest;dsimp only at hrest;cases hc2:gp g t e (dg n ix ρ) (ds.drop (i+1)) with
          |none=>rw[hc2] at hrest;cases hrest
          |some zs =>
           rw[hc2,ae,ae] at hrest;have hx:qc ys (jx r1.1 zs)=xs:=aS.inj hrest;refine⟨ρ1,_,M,_,r1,E4,he,?_⟩;rw[hn];intro y H5 s5 q5;have S5:cw H' H5:=S4.trans s5;have hl2:=qs.length;have qy:=q5.toR E4.ne;have s6:gm [L] (L::O) H5 (L::O) (cX H5 L (.lst (vs++[y]))):=by
            have hD5:=S5 _ _ hD;refine⟨fun b xs e=>?_,fun b o u e=>?_,fun b xs nb e=>?_,fun b φ nb e=>?_,fun b hb=>.inl hb,fun b hb=>(aI.mp hb)▸aB⟩
            ·rw[bZ (fun (z:b=L)=>by rw[z,hD5] at e;cases e)];exact e
            ·rw[bZ (fun (z:b=L)=>by rw[z,hD5] at e;cases e)];exact e
            ·rw[bZ (fun (z:b=L)=>nb (by rw[z];exact aI.mpr rfl))];exact e
            ·rw[bZ (fun (z:b=L)=>nb (by rw[z];exact aI.mpr rfl))];exact e
           have kl:∀b us,b≠L->H5 b=some (oW us)->(cX H5 L (.lst (vs++[y]))) b=some (oW us):=fun b us nb e=>by rw[bZ nb];exact e
           refine⟨vs,S5 _ _ hD,by omega,?_,ys++[r1.1],vs++[y],by rw[au,aU];omega,cg,((qs.same S5).append (.cons qy .nil)).ext s6,?_,by rw[ae,<-hx,o6]⟩
           ·intro b o e;rw[bZ (bV e hL)];exact S5 _ _ (sm _ _ e)
           ·have E5:ER K H5 (L::O) M (fun i=>lad (ix.getD (i-n) 0)) (dg n ix ρ) σ3:=(E4.same s5).fewer ln.symm back;have nM:∀b∈M,b≠L:=fun b hb z=>hLO (z▸hE.sub b hb);have nL:∀(j:Nat) (d:List D),(dg n ix ρ)[j]?=some (some (qH d,true))->lad (ix.getD (j-n) 0)≠L:=fun j d e z=>by
             obtain⟨hi,j',hj,hr⟩:=cZ e;obtain⟨_,_,_,e4,_⟩:=hE.le j' d hr;have z':ix.getD (j-n) 0=j':=by rw[a9,hj];rfl
             rw[z'] at z;exact hLO (z▸e4)
            exact⟨fun j d e=>let ⟨w,e1,q⟩:=E5.sh j d e;⟨w,e1,q.ext s6⟩,
             fun j d e=>let ⟨a,us,e2,e3,e4,q⟩:=E5.ow j d e;⟨a,us,e2,kl _ (.inl _) (nM a e4) e3,e4,q.ext s6⟩,
             fun j d e=>let ⟨e2,us,e3,e4,e5,q⟩:=E5.le j d e;⟨e2,us,kl _ (.inl _) (nL j d e) e3,e4,e5,q.ext s6⟩,E5.ap,
             fun b hb=>by
              by_cases z:b=L
              ·subst z;exact⟨.inl _,cg⟩
              ·obtain⟨us,e⟩:=E5.tr b hb;exact⟨us,kl b us z e⟩,E5.sub,E5.len,
             E5.dp.go s6 (fun _ _ e=>⟨e,rfl⟩) (fun b hb _=>⟨hb,fun us e=>kl b us (nM b hb) e⟩) fun j es c e1 e2=>.inr ⟨j,es,e1,e2⟩⟩
     ·have ei:i=ds.length:=by omega
      subst ei;rw[bP] at hrest;unfold gp at hrest;rw[ae] at hrest;have ee:Sum.inr (ys++[])=xs:=aS.inj hrest;rw[aO] at ee;subst ee;have hr2:(PyData.list ys,true)=res:=hres;subst hr2;exact .inl ⟨stop,k _ H' (s1.trans sm) (.inr ⟨rfl,L,ys,vs,rfl,rfl,s1.free hL,hD,qs⟩)⟩
  ·cases hf
end DL
namespace L2
open PySem PySem.Spec PyProof.Rows
theorem CX1.mono {P:Program}{w:World}{outer:List Env}{H:Hp}{s s':Shared}{E E':XK}{e:Value}(h:∀C H',E C none H'->E' C none H')(c:CX1 P w outer H s E e s'):CX1 P w outer H s E' e s':=by
 obtain⟨ea,C,t,B,H',h1,h2,h3,h4,h5,h6,h7,h8,h9⟩:=c;exact⟨ea,C,t,B,H',h1,h2,h3,h4,h5,h6,h7,h8,h _ _ h9⟩
end L2
namespace DL
open PySem PySem.Spec PySem.SeqAt
open L2 (V Hp St HO VK TE TT TA TS TI TG Cx Inv PE PT PA PS PSs PI PG dr dq cw cX cg bZ bV cA cI EP TP AP SP c7 It)
noncomputable def vm (op:D->Option Vl)(f:ED):ED:=fun ρ=>(f ρ).bind fun r=>match dX r with
 |some n=>some (iE n)
 |none=>op r.1
noncomputable def nX (cls:Int->Addr)(Z:Int->Hp->Prop):L2.XK:=fun C _ H'=>∃n,C=.ref (cls n)/\Z n H'
section
variable {X:Cx}{Z:Int->Hp->Prop}{cls:Int->Addr}{e a elt tg iter:Expr}{es ifs:List Expr}{f:ED}{t:TD}{pos:Pos}{it:AD}{gd:GD}{scope:Scope}{own caps:List Str}{ix:List Nat}
theorem rq (hst:X.stack=X.env::X.outer)(hf:X.env.frame=some X.env.locals)(hex:X.ex=[])(hX:∀(e:Value) (s4:Shared),wpAny (model X.prog X.w) X.A (leaving X.env e) (fun _ s''=>L2.CX1 X.prog X.w X.outer X.H₀ X.s₀ (nX cls Z) e s'') L2.NoX s4->X.xe e s4)
  (S:L2.CompSc X.env.scope X.N scope own ix caps) (hc:X.calm=true) (hix:ix.Nodup) (hw:nW own.length gd) (hi:DI X tg iter it)
  (hg:∀s₀ H₀ ex pn,DG (L2.compCx X scope (own++caps) s₀ H₀ ex pn) tg gd) (ht:∀s₀ H₀ ex pn,wI (L2.compCx X scope (own++caps) s₀ H₀ ex pn) ifs t) (he:∀s₀ H₀ ex pn,rN ((L2.compCx X scope (own++caps) s₀ H₀ ex pn).wish (L2.ErrC X scope (own++caps) s₀ H₀ ex pn (nX cls Z))) Z elt f)
  (hs:∀x,foldedSetIterable iter X.env x=pure x:=by intro _;rfl):rN X Z (.ListComp elt [⟨tg,iter,ifs,0⟩] scope pos) (ky it own.length ix gd t f) :=
 (L2.pe_lcompZ (g:=uG X.K gd) (tc:=uT X.K t) (te:=vY X.K Z f) hst hf hex hX S hc hi hg ht he hs).imp fun σ H Q h=>pN hix hw h
theorem ux {s₀:Shared}{H₀:Hp}{ex:List Addr}{pn:List (Addr×Obj)}{N':List Str}(pins:List (Addr×Obj))(σ:St)(H:Hp)(s:Shared)(e:Value)(s':Shared)(I:Inv ((L2.compCx X scope N' s₀ H₀ ex pn).wish (L2.ErrC X scope N' s₀ H₀ ex pn (nX cls Z))) pins σ H s)(c:L2.CX1 X.prog X.w X.stack H s (nX cls Z) e s'):L2.ErrC X scope N' s₀ H₀ ex pn (nX cls Z) e s' :=
 ⟨pins,σ,H,s,I.unwish,c⟩
variable {x:Str}{p:Pos}{T:String}{r:List V->Hp->VK->Prop}
theorem pI {op:D->Option Vl}(hc:L2.CallR X (.type T) r)(hd:UD X (fun x H Q=>r [x] H Q) op)(hm:X.mg x=none)(hv:bootBuiltins x=some (.type T))(ha:rN X Z a f)(hg:L2.Gl X x:=by rfl)(hn:x ≠ "__name__" := by decide)(hdb:(x==("__debug__" : Str))=false:=by decide)
  (he:starEach [a] X.env=(false,eval a X.env)::starEach [] X.env:=by rfl) (hpl:(backTo pos (starEach [] X.env)).any (·.1)=false:=by rfl) (hop:∀d y,op d=some y->dX y=none):rN X Z (.Call (.Name x p) [a] [] pos) (vm op f) :=
 (L2.pe_callTy hc hg hm hv (L2.pa_cons ha L2.pa_nil he) hn hdb he hpl).imp fun σ H Q zz=>by
  obtain ⟨ρ,O,M,lad,res,hE,hf,k⟩:=zz;unfold vm at hf;cases hx:f ρ with
  |none=>rw[hx] at hf;cases hf
  |some y =>
   rw[hx,aa] at hf;refine⟨ρ,O,M,lad,y,hE,hx,?_⟩;cases hy:dX y with
   |some n =>
    rw[hy] at hf;cases hf;exact k
   |none =>
    rw[hy] at hf;have hf':op y.1=some res:=hf;rw[hop _ _ hf'] at k;exact fun vx H1 s1 q1=>hd y.1 vx H1 O res Q (hE.same s1).ne (q1.toR hE.ne).bb hf' fun v H' s q=>k v H' (s1.trans s) (q.back s1)
theorem pH (hm:X.mg "tuple" = none)(ha:rN X Z a f)(hg:L2.Gl X "tuple" := by rfl)(he:starEach [a] X.env=(false,eval a X.env)::starEach [] X.env:=by rfl):rN X Z (.Call (.Name "tuple" p) [a] [] pos) (vm fH f) :=
 pI L2.call_tuple_of l7 hm PyProof.Rows.boot_tuple ha hg (by decide) (by decide) he (by rfl) fun d y h=>by
  cases d <;> first|(cases h;rfl)|cases h
end
end DL
namespace DL
open PySem PySem.Spec PySem.SeqAt PyProof.Rows
open L2 (V Hp HO VK TE TT TA TS TI TG Cx Inv PE PT PA PS PSs PI PG dr dq cw cX cg bZ bV cA cI EP TP AP SP c7 It)
noncomputable def qC:O2
 |.str y,.str z=>some (.bool (Txt.endswith y z),false)
 |_,_=>none
section
variable {X:Cx}{a b:Expr}{fb gb:BD}{pos p p2:Pos}
theorem sF:L2.MtR X "str.endswith" (fun x xs H Q=>∃y z:Str,x=.str y/\xs=[.str z]/\Q (.bl (Txt.endswith y z)) H):=by
 intro pins s σ H x xs v us Q I rx rv h;obtain⟨y,z,rfl,rfl,q⟩:=h;obtain⟨t,rfl⟩:=(show ∃t,v=Value.str y t from rx);obtain⟨u,rfl,ru⟩:=cA.one rv;obtain⟨t',rfl⟩:=(show ∃t,u=Value.str z t from ru);exact SC.endswith ⟨.bl (Txt.endswith y z),H,I,rfl,q⟩
theorem td (ha:DB X a fb)(hb:DB X b gb)(hbase:attributeBase a "endswith" X.env (eval a X.env)=eval a X.env:=by rfl)
  (hfew:((backTo pos (starEach [b] X.env)).all (fun x=>!x.1)&&(backToKw pos (keywordEach [] X.env)).all (fun x=>x.1.isSome)
   && decide ([b].length+([]:List Keyword).length+(if ([]:List Keyword).isEmpty then 0 else 1)<30))=true:=by rfl)
  (hline:(p2.endLine==pos.line)=true:=by rfl) (hs:starEach [b] X.env=(false,eval b X.env)::starEach [] X.env:=by rfl) (hplain:(backTo pos (starEach [] X.env)).any (·.1)=false:=by rfl) :
  DE X (.Call (.Attribute a "endswith" p2) [b] [] pos) (d2 qC fb gb) :=
 (L2.pe_bm PySem.F.plainAttrs_str PySem.F.slot_str_endswith PySem.F.type_str_endswith sF ha (L2.pa_cons hb L2.pa_nil hs) hbase hfew hline hs hplain).imp fun σ H Q h=>by
  obtain⟨ρ,O,M,lad,res,hE,hf,kk⟩:=h;unfold d2 at hf;cases hx:fb ρ with
  |none=>rw[hx] at hf;cases hf
  |some x =>
   rw[hx,aa] at hf;cases hy:gb ρ with
   |none=>rw[hy] at hf;cases hf
   |some y =>
    rw[hy,aa] at hf;refine⟨ρ,O,M,lad,x,hE,hx,fun vx H1 s1 q1=>?_⟩;cases x <;> first|(cases hf;done)|skip
    cases q1.str;refine⟨rfl,ρ,O,M,lad,y,hE.same s1,hy,fun vy H2 s2 q2=>?_⟩;cases y <;> first|(cases hf;done)|skip
    cases q2.str;cases hf;exact⟨_,_,rfl,rfl,kk _ _ (s1.trans s2) (.of (.bool _))⟩
end
noncomputable abbrev JD:=Sl->Option (List Str)
noncomputable def ft:List Str->Str
 |[]=>Str.empty
 |z::zs=>z++ft zs
noncomputable def jS:JD:=fun _=>some []
noncomputable def jC (z:Str)(f:JD):JD:=fun ρ=>(f ρ).map fun zs=>z::zs
noncomputable def jI (e:ED)(f:JD):JD:=fun ρ=>(e ρ).bind fun r=>match r.1 with
 |.int i=>if i.natAbs<2 ^ 1000 then (f ρ).map fun zs=>(toString i:Str)::zs else none
 |_=>none
noncomputable def jR (e:ED)(f:JD):JD:=fun ρ=>(e ρ).bind fun r=>match r.1 with
 |.str z=>if (reprText z).length<=sizeLine then (f ρ).map fun zs=>reprText z::zs else none
 |_=>none
noncomputable def dJ (f:JD):ED:=fun ρ=>(f ρ).bind fun zs=>if (Str.empty++ft zs).length<=sizeLine then some (.str (Str.empty++ft zs),false) else none
def DJ (X:Cx)(es:List Expr)(f:JD):Prop:=∀(pins:List (Addr×Obj)) (s:Shared) (σ:L2.St) (H:Hp) (acc:Str) (Q:Str->Shared->Prop) (ρ:Sl) (O M:List Addr) (lad:Nat->Addr) (zs:List Str),Inv X pins σ H s->ER X.K H O M lad ρ σ->f ρ=some zs->(acc++ft zs).length<=sizeLine →
 (∀s' H',Inv X pins σ H' s'->cw H H'->Q (acc++ft zs) s')->Joins (model X.prog X.w) X.A X.xe (evalEach es X.env) acc Q s
section
variable {X:Cx}{a:Expr}{es:List Expr}{f:ED}{g:JD}{pos:Pos}
theorem ka (x:Str):x++Str.empty=x:=by
 show (⟨x.cps++#[]⟩:Str)=x;rw[Array.append_empty]
theorem kc (x y z:Str):x++y++z=x++(y++z):=by
 show (⟨x.cps++y.cps++z.cps⟩:Str)=⟨x.cps++(y.cps++z.cps)⟩;rw[bz]
theorem fv (x y:Str):(x++y).length=x.length+y.length:=strLen_append ..
theorem nK:DJ X [] jS:=fun pins s σ H acc Q ρ O M lad zs I hE hf hz k=>by
 cases hf;have:=k s H I (.refl H);rw[show acc++ft []=acc from ka acc] at this;exact this
theorem oD {z:Str}{zs:List Str}{acc:Str}{Q:Str->Shared->Prop}{pins:List (Addr×Obj)}{σ:L2.St}{H H1:Hp}{s1:Shared}{ρ:Sl}{O M:List Addr}{lad:Nat->Addr}(h:DJ X es g)(I:Inv X pins σ H1 s1)(hE:ER X.K H O M lad ρ σ)(hs:cw H H1)(hf:g ρ=some zs)(hz:(acc++ft (z::zs)).length<=sizeLine)
  (k:∀s' H',Inv X pins σ H' s'->cw H H'->Q (acc++ft (z::zs)) s'):(acc++z).length<=sizeLine/\Joins (model X.prog X.w) X.A X.xe (evalEach es X.env) (acc++z) Q s1:=by
 have e:acc++ft (z::zs)=acc++z++ft zs:=(kc acc z (ft zs)).symm;rw[e] at hz k;refine⟨?_,h pins s1 σ H1 (acc++z) Q ρ O M lad zs I (hE.same hs) hf hz fun s' H' I' s2=>k s' H' I' (hs.trans s2)⟩;rw[fv] at hz;omega
theorem jW {x:Str}{j p}(h:DJ X es g):DJ X (.Constant (.str x) j p::es) (jC x g):=fun pins s σ H acc Q ρ O M lad zs I hE hf hz k=>by
 unfold jC at hf;cases hg:g ρ with
 |none=>rw[hg] at hf;cases hf
 |some ws =>
  rw[hg,ae] at hf;cases hf;obtain⟨h1,h2⟩:=oD h (I.tok (s.toks+1)) hE (.refl H) hg hz k;exact Calls.Constant_str ⟨x,_,rfl,h1,h2⟩
theorem rm {p}(ha:DE X a f)(h:DJ X es g):DJ X (.FormattedValue a (-1) none p::es) (jI f g):=fun pins s σ H acc Q ρ O M lad zs I hE hf hz k=>by
 unfold jI at hf;cases hr:f ρ with
 |none=>rw[hr] at hf;cases hf
 |some r =>
  rw[hr,aa] at hf;obtain⟨d,fl⟩:=r;cases d <;> first|(cases hf;done)|skip
  rename_i i;dsimp only at hf;split at hf
  case isFalse=>cases hf
  case isTrue hi =>
   cases hg:g ρ with
   |none=>rw[hg] at hf;cases hf
   |some ws =>
    rw[hg,ae] at hf;cases hf;refine wpAny_FormattedValue_plain ?_;refine wpAny_mono (ha pins s σ H (fun v H1=>v=.int i/\cw H H1) I ⟨ρ,O,M,lad,_,hE,hr,fun v H1 s1 q=>⟨?_,s1⟩⟩) (fun u s1 z=>?_) fun _ _ z=>z
    ·have:=q.toR hE.ne;cases this;rfl
    ·obtain⟨v,H1,I1,r1,rfl,sm⟩:=z;obtain⟨t,rfl⟩:=(show ∃t,u=Value.int i t from r1);obtain⟨h1,h2⟩:=oD h (I1.tok (s1.toks+1+1)) hE sm hg hz k;exact wpAny_formatField_int (kD hi) ⟨_,_,rfl,h1,h2⟩
theorem oC {p}(ha:DE X a f)(h:DJ X es g):DJ X (.FormattedValue a 114 none p::es) (jR f g):=fun pins s σ H acc Q ρ O M lad zs I hE hf hz k=>by
 unfold jR at hf;cases hr:f ρ with
 |none=>rw[hr] at hf;cases hf
 |some r =>
  rw[hr,aa] at hf;obtain⟨d,fl⟩:=r;cases d <;> first|(cases hf;done)|skip
  rename_i y;dsimp only at hf;split at hf
  case isFalse=>cases hf
  case isTrue hi =>
   cases hg:g ρ with
   |none=>rw[hg] at hf;cases hf
   |some ws =>
    rw[hg,ae] at hf;cases hf;refine wpAny_FormattedValue_repr ?_;refine wpAny_mono (ha pins s σ H (fun v H1=>v=.str y/\cw H H1) I ⟨ρ,O,M,lad,_,hE,hr,fun v H1 s1 q=>⟨?_,s1⟩⟩) (fun u s1 z=>?_) fun _ _ z=>z
    ·have:=q.toR hE.ne;cases this;rfl
    ·obtain⟨v,H1,I1,r1,rfl,sm⟩:=z;obtain⟨t,rfl⟩:=(show ∃t,u=Value.str y t from r1);refine wpAny_pyReprObj_str ?_ hi;obtain⟨h1,h2⟩:=oD h (I1.tok (s1.toks+1)) hE sm hg hz k;obtain⟨h3,h4⟩:=oD h ((I1.tok (s1.toks+1)).tok (s1.toks+1+1)) hE sm hg hz k;exact wpAny_formatField_str ⟨_,_,rfl,h1,h2⟩ ⟨_,_,rfl,h3,h4⟩ hi
theorem lU {e1 e2:Expr}(h:DJ X (e1::e2::es) g):DE X (.JoinedStr (e1::e2::es) pos) (dJ g):=fun pins s σ H Q I zz=>by
 obtain ⟨ρ,O,M,lad,r,hE,hf,k⟩:=zz;unfold dJ at hf;cases hg:g ρ with
 |none=>rw[hg] at hf;cases hf
 |some zs =>
  rw[hg,aa] at hf;split at hf
  ·rename_i hz;cases hf;refine wpAny_JoinedStr (h pins s σ H Str.empty _ ρ O M lad zs I hE hg hz fun s' H' I' s1=>⟨hz,.str _,H',I'.tok _,⟨_,rfl⟩,k _ H' s1 (.of (.str _))⟩)
  ·cases hf
end
end DL
namespace DL
open PySem
theorem uN {X:L2.Cx}{x z:Str}{pos:Pos}(hm:∃tk,X.mg x=some (.str z tk))(hg:L2.Gl X x:=by rfl)(hd:(x==("__debug__" : Str))=false:=by decide):DE X (.Name x pos) (dC (.str z)):=by
 obtain⟨tk,hm⟩:=hm;exact pK (L2.pe_glob (v:=.str z) hg hm ⟨tk,rfl⟩ hd) fun _ _=>.str _
theorem lB {P:Program}{w:World}{X:L2.Cx}{pins:List (Addr×Obj)}{σ:L2.St}{H:L2.Hp}{s:Shared}{cls:Int->Addr}{E:L2.XK}{e:Value}{s':Shared}{EE:Value->Shared->Prop}(I:L2.Inv X pins σ H s)(hst:X.stack=X.env::X.outer)(hf:X.env.frame=some X.env.locals)(hex:X.ex=[])(c:L2.CX1 X.prog X.w X.stack H s (nX cls fun n H'=>E (.ref (cls n)) none H') e s') :
  wpAny (model X.prog X.w) X.A (leaving X.env e) (fun _ s''=>L2.CX1 X.prog X.w X.outer X.H₀ X.s₀ E e s'') EE s' :=
 I.passes hst hf hex (L2.CX1.mono (fun C H' h=>by obtain⟨n,e,z⟩:=h;rw[e];exact z) c)
theorem qt {X:L2.Cx}{cls:Int->Addr}{E:L2.XK}{e:Value}{s4:Shared}{EE:Value->Shared->Prop}(h:wpAny (model X.prog X.w) X.A (leaving X.env e) (fun _ s''=>L2.CX1 X.prog X.w X.outer X.H₀ X.s₀ (nX cls fun n H'=>E (.ref (cls n)) none H') e s'') L2.NoX s4) :
  wpAny (model X.prog X.w) X.A (leaving X.env e) (fun _ s''=>L2.CX1 X.prog X.w X.outer X.H₀ X.s₀ E e s'') EE s4 :=
 wpAny_mono h (fun _ _ c=>L2.CX1.mono (fun C H' h=>by obtain⟨n,e,z⟩:=h;rw[e];exact z) c) fun _ _ z=>z.elim
section
variable {K:PySem.W.Frag}{h:Heap}{mg:Str->Option Value}{x:Str}{st:Stmt}{ps:List Str}{k:Nat}{F:FD}{cls:Int->Addr}
theorem qG (P:Program)(w:World)(base:Heap)(X:K.In h)(G:h.Ns mainGlobals mg)(H:FH K x st)(hb:tT x st ps)(ok:∀f fd,L2.Fun K x x st f fd->L2.FnOk P w K mg base (L2.CX1 P w) k f fd ps (vi K F cls)):j7 P w K mg base k x ps F cls:=by
 obtain⟨f,oc,od,kV,dc,pm,an,cd,ct,sl,a,l,c,kp⟩:=H;have Fu:=L2.fun_mk (st:=st) l c kp;exact⟨_,_,ok _ _ Fu,PySem.W.mg_of X G a,kp,Fu.binds (ps:=ps) hb⟩
end
end DL
namespace DL
open PySem PySem.Spec PySem.SeqAt
open L2 (Hp St Cx Inv PE PA)
noncomputable def kL (zs:List Str):AD:=fun _=>some (zs.map .str)
noncomputable def wM (z:Str×Nat×Pos):Expr:=.Constant (.str z.1) z.2.1 z.2.2
section
variable {X:Cx}{body de r0:List Stmt}{a a0:Stmt}{v:Expr}{F G:SD}{f:ED}{p p3:Pos}
theorem vR (e:body=a0::r0)(h1:∀a,a=a0->DS X a F)(h2:∀r,r=r0->nY X r G):nY X body (cD F G):=by
 rw[e];exact cq (h1 _ rfl) (h2 _ rfl)
theorem uD (e:de=[a0])(h:∀a,a=a0->DS X a F):nY X de F:=by
 rw[e];exact cB (h _ rfl)
theorem rg {i:Nat}{x:Str}(hN:X.N.Nodup)(e:a=.Assign [.Name x p] v p3)(he:∀v',v'=v->DE X v' f)(hs:swapsWith v (some (.Name x p)) p3.line X.env=pure false)(hi:X.N[i]?=some x:=by rfl)(hx:L2.Loc X.env.scope x:=by first|exact Or.inl rfl|exact Or.inr rfl)(hf:X.fn x=true\/X.env.scope.names.lookup x=some .local:=by first|exact .inl rfl|exact .inr rfl|assumption):DS X a (cO i f):=by
 rw[e];exact cT hN (he _ rfl) hi hx hs hf
theorem rh (e:a=.Return (some v) p)(he:∀v',v'=v->DE X v' f):DS X a (cU f):=by
 rw[e];exact cR (he _ rfl)
theorem oH:∀zs:List (Str×Nat×Pos),DA X (zs.map wM) (kL (zs.map (·.1)))
 |[]=>cH
 | z::zs=>by
  have e:kL ((z::zs).map (·.1))=bY (dC (.str z.1)) (kL (zs.map (·.1))):=by
   funext ρ;rfl
  rw[e];exact ck c8 (oH zs)
theorem pJ {zs:List (Str×Nat×Pos)}{v':Expr}(e:v'=.List (zs.map wM) p):DE X v' (fM (kL (zs.map (·.1)))):=by
 rw[e];exact ig (oH zs)
end
theorem uv {P:Program}{w:World}{K:Fg}{mg:Str->Option Value}{base:Heap}{x qual:Str}{st:Stmt}{f:Addr}{fd:FuncData}{N ps:List Str}{k:Nat}{b:SD}(F:L2.Fun K x qual st f fd)(S:L2.FnScope N ps (L2.defScope st))
  (hb:∀body,body=L2.defBody st->∀(cdv:Value) (A:Around) (outer:List Env) (s:Shared) (H:Hp) (E:L2.XK),L2.Room k (A.deeper (PyProof.Rows.envOfC qual (L2.defScope st) s.heap.objs.size f cdv))->nY (L2.cxOf L2.CX0 P w K mg base N qual (L2.defScope st) f cdv A outer s H E).nox body b) :
  L2.FnOk P w K mg base L2.CX0 (k+1) f fd ps (spD K (gO ps.length (N.length-ps.length) b)):=fA F S fun cdv A outer s H E hr=>hb _ rfl cdv A outer s H E hr
end DL
namespace Lw
open PySem DL
noncomputable section
noncomputable def gG:SD :=
 (cD (cO 3 (d2 dW (cf (d2 cS (cf (d2 jg (bW 0) (bW 2))) (cf (dC (.int 7919))))) (cf (dC (.int 2147483647)))))
  (cD (cO 3 (d2 dW (cf (d2 jg (cf (d2 dW (cf (d2 jg (bW 3) (bW 3))) (cf (dC (.int 2147483647))))) (cf (dC (.int 40692))))) (cf (dC (.int 2147483399)))))
  (cO 1 (d2 cS (cf (d2 jg (bW 1) (cf (d2 lG (cf (dC (.int 10))) (cf (dC (.int 9))))))) (cf (d2 ia (bW 3) (cf (dC (.int 7)))))))))
noncomputable def ik:SD :=
 (cD (cO 1 (dC (.int 0)))
  (cD (fP (eu (kj (fM (bY (dC (.int 48271)) (bY (dC (.int 69621)) (bY (dC (.int 39373)) (bY (dC (.int 44488)) cJ))))))) (gN 2) gG)
  (cU (cE 1))))
noncomputable def eA:FD:=gO 1 3 ik
noncomputable def gk:SD :=
 (cD (eM (cF (bW 1) [(nS,(cf (d1 eY (bW 0))))]) (cU (cC eA (bY (d2 eh (bW 0) (bW 1)) cJ))) dA)
  (cU (cC eA (bY (dC (.int 0)) cJ))))
noncomputable def cy:FD:=gO 2 0 gk
noncomputable def gH:SD :=
 (cO 3 (d2 dW (cf (d2 jg (bW 3) (cf (dC (.int 48271))))) (cf (dC (.int 2147483647)))))
noncomputable def il:SD :=
 (cD (cO 3 (d2 dW (cf (d2 cS (cf (d2 cS (cf (d2 dW (bW 0) (cf (dC (.int 2147483629))))) (cf (dC (.int 1))))) (cf (d2 jg (bW 1) (cf (dC (.int 1000003))))))) (cf (dC (.int 2147483647)))))
  (cD (fP (gM (dC (.int 3))) (gN 4) gH)
  (cU (d2 dW (cf (d2 ia (bW 3) (cf (dC (.int 97))))) (bW 2)))))
noncomputable def dN:FD:=gO 3 2 il
noncomputable def fC:SD :=
 (cD (cO 7 (cC dN (bY (cC cy (bY (cE 0) (bY (d2 cS (bW 1) (cf (dC (.int 1)))) cJ))) (bY (cE 6) (bY (d2 qx (bW 4) (cf (dC (.int 1)))) cJ)))))
  (cD (cO 8 (d2 cS (cf (d2 cS (bW 7) (cf (dC (.int 1))))) (cf (cC dN (bY (cC cy (bY (cE 0) (bY (d2 cS (bW 1) (cf (dC (.int 2)))) cJ))) (bY (cE 6) (bY (d2 qx (cf (d2 qx (bW 4) (cf (dC (.int 1))))) (bW 7)) cJ)))))))
  (pj 5 (iZ (bY (cE 7) (bY (cE 8) cJ))))))
noncomputable def gj:SD :=
 (cD (cO 4 (d2 cS (cf (dC (.int 1))) (cf (d2 dW (cf (cC cy (bY (cE 0) (bY (cE 1) cJ)))) (bW 2)))))
  (cD (cO 5 (fM cJ))
  (cD (eM (cF (bW 4) [(lY,(cf (dC (.int 1))))]) (fP (gM (d2 dW (cf (d2 ia (cf (cC cy (bY (cE 0) (bY (cE 1) cJ)))) (bW 2))) (cf (d2 cS (bW 3) (cf (dC (.int 1))))))) (gN 6) fC) dA)
  (cU (iZ (bY (cE 4) (bY (d1 fH (bW 5)) cJ)))))))
noncomputable def dw:FD:=gO 4 5 gj
noncomputable def dY:ED :=
 (dJ (jI (cE 0) (jC ">" (jI (cE 1) jS))))
noncomputable def eS:SD :=
 (cU (d2 i9 (cf (dC (.str " "))) (cf (d2 jh (cf (fM (bY (d2 cS (cf (d1 fQ (cf (d2 eh (bW 0) (cf (dC (.int 0))))))) (cf (dC (.str ":")))) cJ))) (cf (gD (eu (kj (d2 eh (bW 0) (cf (dC (.int 1)))))) 2 [] (gT [(gN 0),(gN 1)]) gS dY))))))
noncomputable def dz:FD:=gO 1 0 eS
noncomputable def eE:SD :=
 (cD (cO 3 (d2 dW (bW 2) (cf (d2 cS (cf (d1 eN (bW 0))) (cf (dC (.int 1)))))))
  (cD (cO 4 (d2 fZ (cf (dC (.str "0123456789 :>-+_.a\t"))) (cf (d2 dW (cf (d2 ia (bW 2) (cf (dC (.int 4096))))) (cf (dC (.int 19)))))))
  (cD (eM (cF (bW 1) [(g4,(cf (dC (.int 1))))]) (cU (d2 cS (cf (dM (bW 0) fo (fm (cE 3)))) (cf (dM (bW 0) (fm (d2 cS (bW 3) (cf (dC (.int 1))))) fo)))) dA)
  (cD (eM (cF (bW 1) [(g4,(cf (dC (.int 2))))]) (cU (d2 cS (cf (d2 cS (cf (dM (bW 0) fo (fm (cE 3)))) (bW 4))) (cf (dM (bW 0) (fm (cE 3)) fo)))) dA)
  (cD (eM (cF (bW 1) [(g4,(cf (dC (.int 3))))]) (cU (d2 cS (cf (d2 cS (cf (dM (bW 0) fo (fm (cE 3)))) (bW 4))) (cf (dM (bW 0) (fm (d2 cS (bW 3) (cf (dC (.int 1))))) fo)))) dA)
  (cD (cO 5 (d2 dv (bW 0) (cf (dC (.str " ")))))
  (cD (cO 6 (d2 dW (bW 2) (cf (d1 eY (bW 5)))))
  (cD (eM (cF (bW 1) [(g4,(cf (dC (.int 4))))]) (cU (d2 i9 (cf (dC (.str " "))) (cf (d2 jh (cf (oJ (bW 5) fo (fm (cE 6)))) (cf (oJ (bW 5) (fm (d2 cS (bW 6) (cf (dC (.int 1))))) fo)))))) dA)
  (cD (eM (cF (bW 1) [(g4,(cf (dC (.int 5))))]) (cU (d2 i9 (cf (dC (.str " "))) (cf (d2 jh (cf (oJ (bW 5) fo (fm (d2 cS (bW 6) (cf (dC (.int 1))))))) (cf (oJ (bW 5) (fm (cE 6)) fo)))))) dA)
  (cU (cE 0)))))))))))
noncomputable def dm:FD:=gO 3 4 eE
noncomputable def eG:SD :=
 (eM (cF (bW 1) [(jw,(cf (dC (.str "0123456789"))))]) (cU (d1 ny (cf (dC (.int 1))))) dA)
noncomputable def eR:SD :=
 (cD (eM (ir (cF (bW 0) [(g4,(cf (dC (.str ""))))]) (ir (cF (cf (d1 eN (bW 0))) [(lY,(cf (dC (.int 3))))]) (jz (cF (cf (d1 eN (bW 0))) [(lY,(cf (dC (.int 1))))]) (cF (cf (d2 fZ (bW 0) (cf (dC (.int 0))))) [(g4,(cf (dC (.str "0"))))])))) (cU (d1 ny (cf (dC (.int 1))))) dA)
  (cD (fP (gy (cE 0)) (gN 1) eG)
  (cU (d1 ja (bW 0)))))
noncomputable def cN:FD:=gO 1 1 eR
noncomputable def fj:SD :=
 (cD (cO 6 (d2 dv (bW 5) (cf (dC (.str ">")))))
  (cD (eM (cF (cf (d1 eY (bW 6))) [(i4,(cf (dC (.int 2))))]) (cU (dC .none)) dA)
  (pj 4 (iZ (bY (cC cN (bY (d2 eh (bW 6) (cf (dC (.int 0)))) cJ)) (bY (cC cN (bY (d2 eh (bW 6) (cf (dC (.int 1)))) cJ)) cJ))))))
noncomputable def dZ:SD :=
 (eM (dP (cF (cf (dC (.int 0))) [(j8,(bW 7)),(nS,(bW 8)),(nS,(bW 2))])) (cU (dC .none)) dA)
noncomputable def gQ:SD :=
 (cD (cO 1 (d2 qB (bW 0) (cf (dC (.str ":")))))
  (cD (cO 2 (cC cN (bY (dM (bW 0) fo (fm (d2 qA (bW 1) (cf (dC (.int 0)))))) cJ)))
  (cD (cO 3 (dM (bW 0) (fm (d2 cS (bW 1) (cf (dC (.int 1))))) fo))
  (cD (cO 4 (fM cJ))
  (cD (eM (cF (bW 3) [(i4,(cf (dC (.str ""))))]) (cD (eM (cF (cf (d2 fZ (bW 3) (cf (dC (.int 0))))) [(i4,(cf (dC (.str " "))))]) (cU (dC .none)) dA)
  (fP (eu (kj (d2 dv (cf (dM (bW 3) (fm (dC (.int 1))) fo)) (cf (dC (.str " ")))))) (gN 5) fj)) dA)
  (cD (eM (ir (dP (cF (cf (dC (.int 1))) [(j8,(bW 2)),(j8,(cf (dC (.int 4))))])) (cF (cf (d1 eY (bW 4))) [(lY,(cf (dC (.int 5))))])) (cU (dC .none)) dA)
  (cD (jH 4 (fP (eu (lA 4)) (gT [(gN 7),(gN 8)]) dZ))
  (cU (iZ (bY (cE 2) (bY (d1 fH (bW 4)) cJ)))))))))))
noncomputable def eC:FD:=gO 1 8 gQ
noncomputable def eP:ED :=
 (gC (cF (bW 0) [(u7,(cf (dC (.str "0123456789"))))]))
noncomputable def fB:SD :=
 (cD (eM (dP (cF (cf (dC (.int 1))) [(j8,(cf (d1 eN (bW 0)))),(j8,(cf (dC (.int 3))))])) (cU (dC (.bool false))) dA)
  (cD (eM (jz (cF (cf (d2 fZ (bW 0) (cf (dC (.int 0))))) [(g4,(cf (dC (.str "0"))))]) (cF (bW 0) [(i4,(cf (dC (.str "0"))))])) (cU (dC (.bool false))) dA)
  (cU (d1 lJ (cf (gD (gy (cE 0)) 1 [] (gN 0) gS eP))))))
noncomputable def dO:FD:=gO 1 0 fB
noncomputable def fL:SD :=
 (cD (eM (dP (k9 (cC dO (bY (cE 0) cJ)))) (gu (bY (dJ (jC "no number: " (jR (cE 0) jS))) cJ) 0) dA)
  (cU (d1 ja (bW 0))))
noncomputable def cM:FD:=gO 1 0 fL
noncomputable def f9:ED :=
 (gC (cF (cf (dC (.int 0))) [(j8,(bW 0)),(nS,(bW 1)),(nS,(bW 2))]))
noncomputable def eT:SD :=
 (cD (cO 1 (d2 eh (bW 0) (cf (dC (.int 0)))))
  (cD (cO 2 (d2 eh (bW 0) (cf (dC (.int 1)))))
  (cD (eM (ir (cF (bW 1) [(nS,(cf (dC (.int 1))))]) (ir (cF (bW 1) [(lY,(cf (dC (.int 4))))]) (cF (cf (d1 eY (bW 2))) [(lY,(cf (dC (.int 5))))]))) (cU (dC (.bool false))) dA)
  (cU (d1 lJ (cf (gD (eu (lA 2)) 2 [1] (gT [(gN 0),(gN 1)]) gS f9)))))))
noncomputable def dF:FD:=gO 1 2 eT
noncomputable def gh:SD :=
 (cD (cO 1 (d2 dv (bW 0) (cf (dC (.str ">")))))
  (cD (eM (cF (cf (d1 eY (bW 1))) [(i4,(cf (dC (.int 2))))]) (gu (bY (dJ (jC "no arrow: " (jR (cE 0) jS))) cJ) 0) dA)
  (cU (o5 (gn (cC cM (bY (d2 eh (bW 1) (cf (dC (.int 0)))) cJ)) (gn (cC cM (bY (d2 eh (bW 1) (cf (dC (.int 1)))) cJ)) p0))))))
noncomputable def dR:FD:=gO 1 1 gh
noncomputable def d9:ED :=
 (cC dR (bY (cE 0) cJ))
noncomputable def gB:SD :=
 (cD (cO 1 (d2 dv (bW 0) (cf (dC (.str " ")))))
  (cD (eM (dP (k9 (d2 qC (cf (d2 eh (bW 1) (cf (dC (.int 0))))) (cf (dC (.str ":")))))) (gu (bY (dC (.str "there is no number of kinds with a colon")) cJ) 0) dA)
  (cD (rR 2 (o5 (gn (cC cM (bY (dM (cf (d2 eh (bW 1) (cf (dC (.int 0))))) fo (fm (d1 ny (cf (dC (.int 1)))))) cJ)) (gn (vm fH (ky (eu (kj (oJ (bW 1) (fm (dC (.int 1))) fo))) 1 [] (gN 0) gS d9)) p0))))
  (cD (eM (dP (k9 (cC dF (bY (cE 2) cJ)))) (gu (bY (dC (.str "what is written is no form")) cJ) 0) dA)
  (cU (cE 2))))))
noncomputable def d6:FD:=gO 1 2 gB
noncomputable def gi:SD :=
 (rY d6 (bY (cE 0) cJ) (.list [.bool true,.bool true,.bool false],true))
noncomputable def d0:FD:=gO 1 1 gi
noncomputable def gP:SD :=
 (cD (rZ 1 (cO 1 (fM (kL ["", " ", ":", "1", "1: ", " 1:", "01:", "0:", "5:", "2: 1>0", "2: 0>1>0"]))))
  (cU (d2 eh (cf (d2 jh (bW 1) (cf (fM (bY (dC (.str "2: 0 > 1")) (bY (dC (.str "2:0>1")) (bY (dC (.str "2: 00>1")) cJ))))))) (cf (d2 dW (bW 0) (cf (dC (.int 14))))))))
noncomputable def eB:FD:=gO 1 1 gP
noncomputable def jb:SD :=
 (cU (uU (d1 (lI "int") (bW 0)) (uR (d1 (lI "bool") (bW 0)))))
noncomputable def fE:FD:=gO 1 0 jb
noncomputable def j3:SD :=
 (cO 2 (d2 cS (cf (d2 cS (cf (d2 cS (cf (d2 cS (bW 2) (cf (dC (.str " "))))) (cf (d1 fQ (bW 3))))) (cf (dC (.str ">"))))) (cf (d1 fQ (bW 4)))))
noncomputable def uy:ED :=
 (cC fE (bY (cE 0) cJ))
noncomputable def nT:SD :=
 (eM (ir (dP (k9 (d1 (lI "tuple") (bW 8)))) (dP (k9 (d1 lJ (cf (gD (eu (lA 8)) 1 [] (gN 0) gS uy)))))) (cU (dC (.bool false))) dA)
noncomputable def oI:SD :=
 (cD (cO 1 (cC dw (bY (cE 0) (bY (dC (.int 0)) (bY (dC (.int 4)) (bY (dC (.int 5)) cJ))))))
  (cD (cO 2 (d2 cS (cf (d1 fQ (cf (d2 eh (bW 1) (cf (dC (.int 0))))))) (cf (dC (.str ":")))))
  (cD (fP (eu (kj (d2 eh (bW 1) (cf (dC (.int 1)))))) (gT [(gN 3),(gN 4)]) j3)
  (cD (cO 5 (cC dz (bY (cE 1) cJ)))
  (cD (eM (ir (dP (k9 (d1 (lI "str") (bW 5)))) (cF (bW 5) [(i4,(bW 2))])) (cU (dC (.bool false))) dA)
  (cD (cO 2 (cC dm (bY (cE 2) (bY (d2 dW (cf (cC cy (bY (cE 0) (bY (dC (.int 3)) cJ)))) (cf (dC (.int 8)))) (bY (d2 dW (cf (cC cy (bY (cE 0) (bY (dC (.int 4)) cJ)))) (cf (d2 lG (cf (dC (.int 10))) (cf (dC (.int 9)))))) cJ)))))
  (cD (eM (cF (cf (d2 dW (cf (d2 ia (cf (cC cy (bY (cE 0) (bY (dC (.int 3)) cJ)))) (cf (dC (.int 8))))) (cf (dC (.int 9))))) [(g4,(cf (dC (.int 1))))]) (cO 2 (cC eB (bY (cC cy (bY (cE 0) (bY (dC (.int 4)) cJ))) cJ))) dA)
  (cD (cO 6 (cC eC (bY (cE 2) cJ)))
  (cD (cO 7 (cC d0 (bY (cE 2) cJ)))
  (cD (eM (cF (bW 6) [(tw,(cf (dC .none)))]) (cU (gC (cF (bW 7) [(g4,(cf (fM (bY (dC (.bool true)) (bY (dC (.bool true)) (bY (dC (.bool false)) cJ))))))]))) dA)
  (cD (eM (ir (dP (k9 (d1 (lI "tuple") (bW 7)))) (ir (cF (cf (d1 eY (bW 7))) [(i4,(cf (dC (.int 2))))]) (ir (dP (k9 (cC fE (bY (d2 eh (bW 7) (cf (dC (.int 0)))) cJ)))) (dP (k9 (d1 (lI "tuple") (cf (d2 eh (bW 7) (cf (dC (.int 1))))))))))) (cU (dC (.bool false))) dA)
  (cD (fP (eu (kj (d2 eh (bW 7) (cf (dC (.int 1)))))) (gN 8) nT)
  (cU (gC (cF (bW 7) [(g4,(bW 6))])))))))))))))))
noncomputable def F_law:FD:=gO 1 8 oI
end
end Lw
namespace Lw
open PySem DL
open PySem.Builtin.Str
noncomputable abbrev tx (l:List Nat):Str:=⟨l.toArray⟩
theorem rW (z:Str)(c i:Nat):subAt z ⟨#[c]⟩ i=(z.cps[i]?==some c):=by
 have e:z.cps.extract i (i+1)=(match z.cps[i]? with|some x=>#[x]|none=>#[]):=by
  refine Array.ext_getElem? fun k=>?_;rw[Array.getElem?_extract];by_cases h:i<z.cps.size
  ·rw[Array.getElem?_eq_getElem h];dsimp only;by_cases hk:k=0
   ·subst hk;rw[if_pos ⋯,Nat.add_zero,Array.getElem?_eq_getElem h];rfl
   ·rw[if_neg ⋯];simp;omega
  ·have hn:z.cps[i]?=none:=bg ⋯;rw[hn,if_neg ⋯];rfl
 show (z.cps.extract i (i+(⟨#[c]⟩:Str).length)==#[c])=_;rw[show (⟨#[c]⟩:Str).length=1 from rfl,e];cases h:z.cps[i]? with
 |none=>rfl
 |some x =>
  dsimp only;rw[Bool.eq_iff_iff,beq_iff_eq,beq_iff_eq];constructor
  ·intro e;cases e;rfl
  ·intro e;cases e;rfl
theorem nv (z:Str)(c:Nat):∀(m j:Nat) (found:Array Nat) (free:Nat),free<=j->found.size<=j->j+m=z.length+1->(forIn (m:=Id) (bH j m) (found,free) (StrLaws.occBody z ⟨#[c]⟩ z.length (z.length+1))).run.fst.toList=found.toList++(bH j m).filter fun i=>z.cps[i]?==some c
 | 0,j,found,free,_,_,_=>by
  rw[List.range'_zero,List.forIn_nil,List.filter_nil,aO];rfl
 | m+1,j,found,free,h1,h2,h3=>by
  rw[bM,List.forIn_cons];have hl:(⟨#[c]⟩:Str).length=1:=rfl;by_cases hc:(z.cps[j]?==some c)=true
  ·have hj:j<z.length:=by
    rcases Nat.lt_or_ge j z.cps.size with q|q
    ·exact q
    ·rw[bg q] at hc;cases hc
   have step:StrLaws.occBody z ⟨#[c]⟩ z.length (z.length+1) j (found,free)=pure (ForInStep.yield (found.push j,j+1)):=by
    unfold StrLaws.occBody;rw[if_pos (by rw[rW,hc,hl];simp;omega)];rfl
   rw[step,pure_bind];dsimp only;rw[nv z c m (j+1) (found.push j) (j+1) (aq _) (by rw[Array.size_push];omega) ⋯,bO,if_pos hc,Array.toList_push,aQ];rfl
  ·have step:StrLaws.occBody z ⟨#[c]⟩ z.length (z.length+1) j (found,free)=pure (ForInStep.yield (found,free)):=by
    unfold StrLaws.occBody;rw[if_neg (by rw[rW];simp at hc ⊢;intro _ _ _;exact hc)]
   rw[step,pure_bind];dsimp only;rw[nv z c m (j+1) found free ⋯ ⋯ ⋯,bO,if_neg hc]
theorem oi (z:Str)(c:Nat):occurrences z ⟨#[c]⟩ 0 z.length (z.length+1)=(bH 0 (z.length+1)).filter fun i=>z.cps[i]?==some c:=by
 rw[StrLaws.occ_eq];exact nv z c (z.length+1) 0 #[] 0 (aq _) (aq _) ⋯
end Lw
namespace Lw
open PySem DL
open PySem.Builtin.Str
noncomputable def cV (c:Nat):List Nat->List (List Nat)
 |[]=>[[]]
 | x::xs=>if x=c then []::cV c xs else match cV c xs with
  |w::ws=>(x::w)::ws
  |[]=>[[x]]
noncomputable def mD (cur:List Nat):List (List Nat)->List (List Nat)
 |w::ws=>(cur++w)::ws
 |[]=>[cur]
theorem eF (c:Nat):∀l:List Nat,∃w ws,cV c l=w::ws
 |[]=>⟨_,_,rfl⟩
 | x::xs=>by
  obtain⟨w,ws,e⟩:=eF c xs;rw[cV];split
  ·exact⟨_,_,rfl⟩
  ·rw[e];exact⟨_,_,rfl⟩
noncomputable def je (c:Nat):Nat->List Nat->List Nat
 |_,[]=>[]
 |k,x::xs=>if x=c then k::je c (k+1) xs else je c (k+1) xs
theorem ot (pre cur post:List Nat):(pre++cur++post).toArray.extract pre.length (pre.length+cur.length)=cur.toArray:=by
 rw[List.extract_toArray,aQ,List.extract_eq_drop_take,List.drop_left,Nat.add_sub_cancel_left,List.take_left]
theorem jJ (c:Nat):∀(de pre cur:List Nat) (n:Nat),n=(pre++cur++de).length->(((pre.length::(je c (pre.length+cur.length) de).map (·+1)).zip (je c (pre.length+cur.length) de++[n])).map fun p=>(⟨(pre++cur++de).toArray.extract p.1 p.2⟩:Str))=(mD cur (cV c de)).map tx
 | [],pre,cur,n,hn=>by
  subst hn;have e:=ot pre cur [];simp only[je,List.map_nil,bE,List.zip_cons_cons,List.zip_nil_left,aD,cV,mD,aO] at e ⊢;rw[au,e]
 | x::xs,pre,cur,n,hn=>by
  by_cases hx:x=c
  ·subst hx;have ih:=jJ x xs (pre++cur++[x]) [] n (by rw[hn];simp);have e:=ot pre cur (x::xs);have l1:(pre++cur++[x]).length+([]:List Nat).length=pre.length+cur.length+1:=by simp;omega
   have l2:pre++cur++[x]++[]++xs=pre++cur++x::xs:=by simp
   have l3:(pre++cur++[x]).length=pre.length+cur.length+1:=by simp;omega
   rw[l1,l2,l3] at ih;rw[je,if_pos rfl,cV,if_pos rfl,aD,bt,List.zip_cons_cons,aD,ih,e];obtain⟨w,ws,ec⟩:=eF x xs;rw[ec];simp[mD]
  ·have ih:=jJ c xs pre (cur++[x]) n (by rw[hn];simp);have l1:pre.length+(cur++[x]).length=pre.length+cur.length+1:=by simp;omega
   have l2:pre++(cur++[x])++xs=pre++cur++x::xs:=by simp
   rw[l1,l2] at ih;rw[je,if_neg hx,cV,if_neg hx,ih];obtain⟨w,ws,ec⟩:=eF c xs;rw[ec];simp[mD]
theorem mG (c:Nat):∀(de pre:List Nat),(bH pre.length (de.length+1)).filter (fun i=>(pre++de)[i]?==some c)=je c pre.length de
 | [],pre=>by
  rw[bT,bM,List.range'_zero,bO,aO,List.getElem?_eq_none (aq _)];rfl
 | x::xs,pre=>by
  have ih:=mG c xs (pre++[x]);rw[au,aU,aQ] at ih;rw[ai,bM,bO,je];have e:(pre++x::xs)[pre.length]?=some x:=by rw[aT (aq _),Nat.sub_self];rfl
  rw[e];by_cases hx:x=c
  ·subst hx;rw[if_pos (by simp),if_pos rfl];exact congrArg _ ih
  ·rw[if_neg (by simpa using hx),if_neg hx];exact ih
theorem sL (z:Str){c:Nat}(hc:c<256):decide (Builtin.Str.strKind z<Builtin.Str.strKind ⟨#[c]⟩)=false:=by
 have:Builtin.Str.strKind ⟨#[c]⟩=1:=by
  unfold Builtin.Str.strKind;rw[if_pos (by simp[hc])]
 rw[this];unfold Builtin.Str.strKind;split
 ·rfl
 ·split <;> rfl
theorem kA (l:List Nat){c:Nat}(hc:c<256):Txt.split (tx l) ⟨#[c]⟩=(cV c l).map tx:=by
 have oc:occurrences (tx l) ⟨#[c]⟩ 0 (tx l).length ((tx l).length+1)=je c 0 l:=by
  rw[oi];have:=mG c l [];simp only[bE,bT] at this;rw[<-this];simp[tx,Str.length]
 have pb:partsBetween (tx l) (je c 0 l) 1=(cV c l).map tx:=by
  have:=jJ c l [] [] l.length (by simp);simp only[bE,bT,Nat.zero_add] at this;obtain⟨w,ws,ec⟩:=eF c l;rw[ec] at this ⊢;simpa [partsBetween,strSub,tx,Str.length,mD] using this
 unfold Txt.split;rw[oc,sL _ hc,Bool.or_false,show (⟨#[c]⟩:Str).length=1 from rfl,pb];cases l with
 |nil=>rfl
 |cons x xs =>
  rw[if_neg (by simp[tx,Str.length])];split
  ·rename_i h;have h':je c 0 (x::xs)=[]:=List.isEmpty_iff.mp h;rw[h'] at pb;rw[<-pb];simp[partsBetween,strSub,tx,Str.length]
  ·rfl
end Lw
namespace Lw
open PySem DL
open PySem.Builtin.Str
theorem j4 {l:List Nat}{c i:Nat}:StrLaws.At (tx l) ⟨#[c]⟩ (tx l).length i<->l[i]?=some c:=by
 have e:(tx l).cps[i]?=l[i]?:=by simp[tx]
 unfold StrLaws.At;rw[rW,e,beq_iff_eq];constructor
 ·exact fun h=>h.2
 ·intro h;refine⟨?_,h⟩;have:=(ax.mp h).1;show i+1<=l.toArray.size;rw[aC];omega
theorem pC {c i:Nat}:∀{l:List Nat},l[i]?=some c->(∀k<i,l[k]?≠some c)->l.idxOf c=i:=by
 intro l h hk;have hi:=(ax.mp h).1;have hm:c∈l:=aX h;have lt:l.idxOf c<l.length:=bJ.mpr hm;have ge:l[l.idxOf c]?=some c:=by rw[bx lt,List.getElem_idxOf lt]
 rcases Nat.lt_trichotomy (l.idxOf c) i with q|q|q
 ·exact absurd ge (hk _ q)
 ·exact q
 ·have:=List.not_of_lt_findIdx (p:=(·==c)) (xs:=l) (i:=i) q;have e2:=(ax.mp h).2;rw[e2] at this;simp at this
theorem qX (l:List Nat)(c:Nat):Txt.find (tx l) ⟨#[c]⟩=if c∈l then (l.idxOf c:Int) else -1:=by
 unfold Txt.find;rcases StrLaws.occ_head (tx l) ⟨#[c]⟩ 1 (aq _) with ⟨e,h⟩|⟨i,r,e,h,hk⟩
 ·rw[e];dsimp only;rw[if_neg];intro hm;obtain⟨i,hi⟩:=List.getElem?_of_mem hm;exact h i (j4.mpr hi)
 ·rw[e];dsimp only;have hi:=j4.mp h;rw[if_pos (aX hi),pC hi fun k q z=>hk k q (j4.mpr z)]
theorem qS (l:List Nat)(c:Nat):nE ⟨#[c]⟩ (tx l)=decide (c∈l):=by
 unfold nE;rcases StrLaws.occ_head (tx l) ⟨#[c]⟩ 1 (aq _) with ⟨e,h⟩|⟨i,r,e,h,hk⟩
 ·rw[e];symm;show decide (c∈l)=false;refine decide_eq_false fun hm=>?_;obtain⟨i,hi⟩:=List.getElem?_of_mem hm;exact h i (j4.mpr hi)
 ·rw[e];symm;exact decide_eq_true (aX (j4.mp h))
theorem qY (l:List Nat)(c:Nat):Txt.endswith (tx l) ⟨#[c]⟩=(l.getLast?==some c):=by
 unfold Txt.endswith;have e:(tx l).cps[(tx l).length-1]?=l.getLast?:=by
  rw[List.getLast?_eq_getElem?];simp[tx,Str.length]
 rw[show (⟨#[c]⟩:Str).length=1 from rfl,rW,e];cases l with
 |nil=>rfl
 |cons x xs =>
  rw[decide_eq_true (show 0+1<=(tx (x::xs)).length by simp[tx,Str.length]),Bool.true_and]
end Lw
namespace Lw
open PySem DL
open PySem.Builtin.Str
theorem eU (z:Str)(l u:Option Int):Txt.slice z l u=StrLaws.sliceText z l u:=rfl
theorem jD (l:List Nat){n:Nat}(h:n<=l.length):Txt.slice (tx l) none (some (n:Int))=tx (l.take n):=by
 rw[eU,StrLaws.sliceText_to ⟨by omega,by show (n:Int)<=((l.toArray.toList.length:Nat):Int);rw[List.toList_toArray];omega⟩];simp[tx]
theorem fU (l:List Nat){n:Nat}(h:n<=l.length):Txt.slice (tx l) (some (n:Int)) none=tx (l.drop n):=by
 rw[eU,StrLaws.sliceText_from ⟨by omega,by show (n:Int)<=((l.toArray.toList.length:Nat):Int);rw[List.toList_toArray];omega⟩];simp[tx];rw[<-aP,bK]
theorem m8 (l:List Nat)(h:l≠[]):Txt.slice (tx l) none (some (-1))=tx l.dropLast:=by
 have hp:0<l.length:=List.length_pos_iff.mpr h;have hl:(tx l).length=l.length:=by simp[tx,Str.length]
 rw[eU,StrLaws.sliceText_neg_hi _ _ (by decide) (by rw[hl];omega),hl,show (-1+(l.length:Int))=((l.length-1:Nat):Int) by omega,<-eU,jD l ⋯,List.dropLast_eq_take]
theorem pE (x:Str)(xs:List Str):glued ⟨#[32]⟩ (x::xs)=⟨xs.foldl (fun acc p=>acc++#[32]++p.cps) x.cps⟩:=rfl
theorem dn (l:List Nat):(tx l).length=l.length:=by simp[tx,Str.length]
theorem j5 (l r:List Nat):tx l++tx r=tx (l++r):=by
 show (⟨l.toArray++r.toArray⟩:Str)=⟨(l++r).toArray⟩;rw[List.append_toArray]
theorem k8 {l r:List Nat}(h:tx l=tx r):l=r:=by
 have:=congrArg (fun z:Str=>z.cps.toList) h;simpa [tx] using this
end Lw
namespace Lw
open PySem DL
noncomputable def eQ:List Nat:=[48,49,50,51,52,53,54,55,56,57]
noncomputable def qd:List (List Nat):=(eQ.map fun a=>[a])++((eQ.flatMap fun a=>eQ.map fun b=>[a,b])++eQ.flatMap fun a=>eQ.flatMap fun b=>eQ.map fun c=>[a,b,c])
noncomputable def tN (l:List Nat):Bool:=match PySem.intText? (tx l) with
 |some n=>decide (0<=n)
 |none=>false
theorem sT:qd.all tN=true:=by decide +kernel
theorem pB:∀{l:List Nat},(∀x∈l,x∈eQ)->1<=l.length->l.length<=3->l∈qd
 |[],_,h,_=>by simp at h
 |[a],d,_,_=>aE _ (bR.mpr ⟨a,d a (by simp),rfl⟩)
 |[a,b],d,_,_=>ah _ (aE _ (List.mem_flatMap.mpr ⟨a,d a (by simp),bR.mpr ⟨b,d b (by simp),rfl⟩⟩))
 |[a,b,c],d,_,_=>ah _ (ah _ (List.mem_flatMap.mpr ⟨a,d a (by simp),List.mem_flatMap.mpr ⟨b,d b (by simp),bR.mpr ⟨c,d c (by simp),rfl⟩⟩⟩))
 |_::_::_::_::_,_,_,h=>by simp at h
noncomputable def df (l:List Nat):Bool:=decide (1<=l.length)&&(decide (l.length<=3)&&(!(l.head?==some 48&&l != [48])&&l.all (eQ.contains ·)))
noncomputable def fR (l:List Nat):Int:=(PySem.intText? (tx l)).getD 0
theorem sj {l:List Nat}(h:df l=true):PySem.intText? (tx l)=some (fR l)/\0<=fR l:=by
 unfold df at h;rw[Bool.and_eq_true,Bool.and_eq_true,Bool.and_eq_true,decide_eq_true_eq,decide_eq_true_eq,bC] at h;have m:=pB (l:=l) (fun x hx=>by simpa using h.2.2.2 x hx) h.1 h.2.1;have q:=bC.mp sT l m;unfold tN at q;unfold fR;cases e:PySem.intText? (tx l) with
 |none=>rw[e] at q;cases q
 |some n =>
  rw[e] at q;exact⟨rfl,of_decide_eq_true q⟩
end Lw
namespace Lw
open PySem DL
theorem mf:(("0123456789" : Str))=tx eQ:=by decide +kernel
theorem me:(("0" : Str))=tx [48]:=by decide +kernel
theorem n5:(("" : Str))=tx []:=by decide +kernel
theorem fY:((" " : Str))=(⟨#[32]⟩:Str):=by decide +kernel
theorem jm:((":" : Str))=(⟨#[58]⟩:Str):=by decide +kernel
theorem lq:((">" : Str))=(⟨#[62]⟩:Str):=by decide +kernel
theorem iv {l:List Nat}(h:∀c∈l,c<1114112):SeqAt.shaped (.str (tx l))=true:=by
 unfold SeqAt.shaped;rw[show (PyData.str (tx l)).canLay0=PyData.strOk (tx l) from rfl];have:PyData.strOk (tx l)=true:=by
  unfold PyData.strOk;simp[tx];exact h
 rw[this];rfl
theorem lZ {a b:List Nat}(ha:∀c∈a,c<1114112)(hb:∀c∈b,c<1114112):g4 (.str (tx a)) (.str (tx b))=some (decide (tx a=tx b)):=by
 unfold g4;rw[iv ha,iv hb,if_pos (by rfl)];congr 1
theorem oP {a b:List Nat}(ha:∀c∈a,c<1114112)(hb:∀c∈b,c<1114112):i4 (.str (tx a)) (.str (tx b))=some (!decide (tx a=tx b)):=by
 unfold i4;rw[iv ha,iv hb,if_pos (by rfl)];congr 1
theorem lM {x:Nat}{xs:List Nat}(h:(x::xs).length<=1000):fZ (.str (tx (x::xs))) (.int 0)=some (.str ⟨#[x]⟩,false):=by
 unfold fZ;dsimp only;rw[if_pos (by rw[dn];exact jA ⋯)];simp[L2.atI,L2.ixN,tx]
theorem qI {l:List Nat}(h:l.length<=1000):eN (.str (tx l))=some (.int (l.length:Int),false):=by
 unfold eN;dsimp only;rw[if_pos (by rw[dn];exact jA ⋯),dn]
theorem mi (x:Nat):((⟨#[x]⟩:Str)=tx [48])<->x=48:=by
 constructor
 ·intro h;have:=k8 (l:=[x]) (r:=[48]) h;simpa using this
 ·rintro rfl;rfl
end Lw
namespace Lw
open PySem DL
theorem t7 (c:Nat):eP [some (.str ⟨#[c]⟩,false)]=some (.bool (eQ.contains c),false):=by
 have q:nE ⟨#[c]⟩ (tx eQ)=eQ.contains c:=by rw[qS];simp
 unfold eP;rw[mf];simp[gC,cF,tChain,bW,cf,dC,u7,q]
theorem lN {l:List Nat}(hl:l.length<=1000)(hc:∀c∈l,c<1114112):dO [.str (tx l)]=some (.bool (df l),false):=by
 have run:dO [.str (tx l)]=(fB [some (.str (tx l),false)]).bind d7:=rfl;have q:(d1 eN (bW 0)) [some (.str (tx l),false)]=some (.int (l.length:Int),false):=qI hl;have t1:(dP (cF (cf (dC (.int 1))) [(j8,(cf (d1 eN (bW 0)))),(j8,(cf (dC (.int 3))))])) [some (.str (tx l),false)]=some (!(decide (1<=l.length)&&decide (l.length<=3))):=by
  by_cases h:1<=l.length
  ·have h':(1:Int)<=(l.length:Int):=by omega
   have e3:decide ((l.length:Int)<=3)=decide (l.length<=3):=by congr 1;apply propext;omega
   simp only[dP,cF,tChain,cf,dC,q,j8,ae,aa,decide_eq_true h',if_true,e3,decide_eq_true h,Bool.true_and]
  ·have h':¬(1:Int)<=(l.length:Int):=by omega
   simp only[dP,cF,tChain,cf,dC,q,j8,ae,aa,decide_eq_false h',decide_eq_false h,Bool.false_and,Bool.not_false];rfl
 rw[run,fB];unfold df;by_cases h:(decide (1<=l.length)&&decide (l.length<=3))=true
 ·rw[cQ (by rw[t1,h];rfl)];rw[Bool.and_eq_true,decide_eq_true_eq,decide_eq_true_eq] at h;rw[decide_eq_true h.1,decide_eq_true h.2,Bool.true_and,Bool.true_and];cases l with
  |nil=>simp at h
  |cons x xs =>
   have i0:=lM hl;have q2:(d2 fZ (bW 0) (cf (dC (.int 0)))) [some (.str (tx (x::xs)),false)]=some (.str ⟨#[x]⟩,false):=i0;have c1:g4 (.str ⟨#[x]⟩) (.str (tx [48]))=some (decide (x=48)):=by
    rw[show (⟨#[x]⟩:Str)=tx [x] from rfl,lZ (fun c h=>by cases aI.mp h;exact hc x (by simp)) (by simp)];congr 1;exact decide_eq_decide.mpr (mi x)
   have c2:i4 (.str (tx (x::xs))) (.str (tx [48]))=some ((x::xs) != [48]):=by
    rw[oP hc (by simp)];congr 1;rw[Bool.eq_iff_iff];simp only[Bool.not_eq_true',decide_eq_false_iff_not,bne_iff_ne,ne_eq];exact⟨fun h z=>h (by rw[z]),fun h z=>h (k8 z)⟩
   have t2:(jz (cF (cf (d2 fZ (bW 0) (cf (dC (.int 0))))) [(g4,(cf (dC (.str "0"))))]) (cF (bW 0) [(i4,(cf (dC (.str "0"))))])) [some (.str (tx (x::xs)),false)]=some ((x::xs).head?==some 48&&(x::xs) != [48]):=by
    rw[me];by_cases hx:x=48
    ·subst hx;simp[jz,cF,tChain,cf,bW,dC,q2,c1,c2]
    ·simp[jz,cF,tChain,cf,bW,dC,q2,c1,c2,hx]
   have cm:=kM (it:=gy (cE 0)) (n:=1) (ix:=[]) (g:=gN 0) (e:=eP) (ρ:=[some (.str (tx (x::xs)),false)]) (d:=fun c=>.str ⟨#[c]⟩) (β:=fun c=>.bool (eQ.contains c)) (x::xs) (by simp[gy,cE,g6,tx]) ⋯ (fun c _=>⟨[some (.str ⟨#[c]⟩,false)],false,rfl,t7 c⟩);cases b:((x::xs).head?==some 48&&(x::xs) != [48]) with
   |true =>
    rw[da (by rw[t2,b]) rfl];rfl
   |false =>
    rw[cQ (by rw[t2,b]),cU,d1,cf,cm,ae,aa];unfold lJ;dsimp only;rw[kU];show some (PyData.bool (((x::xs).map fun c=>eQ.contains c).all id),false)=_;rw[List.all_map];rfl
 ·have h':(decide (1<=l.length)&&decide (l.length<=3))=false:=by simpa using h
  rw[da (by rw[t1,h'];rfl) rfl,<-Bool.and_assoc,h'];rfl
end Lw
namespace Lw
open PySem DL
theorem kC {l:List Nat}(h:df l=true)(hl:l.length<=600):ja (.str (tx l))=some (.int (fR l),false):=by
 unfold ja;dsimp only;rw[if_pos (by rw[dn];omega),(sj h).1];rfl
theorem qj {l:List Nat}{p:Str}{ρ:Sl}(hp:p.length<=100)(hl:l.length<=1000)(hc:∀c∈l,c<1114112)(h0:cE 0 ρ=some (.str (tx l),false)):∃r,(bY (dJ (jC p (jR (cE 0) jS))) cJ) ρ=some [r]:=by
 have rl:=StrLaws.reprText_len (tx l) (fun c hx=>by
  have:c∈l:=by simpa [tx] using hx
  have:=hc c this;omega)
 rw[dn l] at rl;have e1:jR (cE 0) jS ρ=some [reprText (tx l)]:=by
  unfold jR;rw[h0,aa];dsimp only;rw[if_pos (jA ⋯)];rfl
 have e2:jC p (jR (cE 0) jS) ρ=some [p,reprText (tx l)]:=by
  unfold jC;rw[e1];rfl
 have hz:(Str.empty++ft [p,reprText (tx l)]).length<=sizeLine:=by
  refine jA ?_;unfold ft ft ft;rw[fv,fv,fv];show 0+(p.length+((reprText (tx l)).length+0))<=1000000;omega
 refine⟨.str (Str.empty++ft [p,reprText (tx l)]),?_⟩;unfold bY;have e3:dJ (jC p (jR (cE 0) jS)) ρ=some (.str (Str.empty++ft [p,reprText (tx l)]),false):=by
  unfold dJ;rw[e2,aa,if_pos hz]
 rw[e3];rfl
theorem iw {t:AD}{ρ:Sl}{r:D}{n:Int}(h:t ρ=some [r]):gu t n ρ=some (.ret (iE n)):=by
 unfold gu;rw[h,aa,if_pos (by simp)]
theorem eV {l:List Nat}(hl:l.length<=600)(hc:∀c∈l,c<1114112):cM [.str (tx l)]=some (if df l=true then (.int (fR l),false) else iE 0):=by
 have run:cM [.str (tx l)]=(fL [some (.str (tx l),false)]).bind d7:=rfl;have i:=lN (l:=l) ⋯ hc;rw[run,fL];cases h:df l with
 |true =>
  rw[h] at i;have t1:(dP (k9 (cC dO (bY (cE 0) cJ)))) [some (.str (tx l),false)]=some false:=by
   simp[dP,k9,cC,bY,cJ,cE,i,pZ]
  have e:(d1 ja (bW 0)) [some (.str (tx l),false)]=some (.int (fR l),false):=kC h hl;rw[cQ t1,cU,e];rfl
 |false =>
  rw[h] at i;have t1:(dP (k9 (cC dO (bY (cE 0) cJ)))) [some (.str (tx l),false)]=some true:=by
   simp[dP,k9,cC,bY,cJ,cE,i,pZ]
  obtain⟨r,q⟩:=qj (l:=l) (p:=("no number: " : Str)) (ρ:=[some (.str (tx l),false)]) (by decide +kernel) ⋯ hc rfl;rw[cD,gx t1,iw q];rfl
end Lw
namespace Lw
open PySem DL
theorem qK {s0:Option Vl}(c:Nat):eG [s0,some (.str ⟨#[c]⟩,false)]=if eQ.contains c=true then some (.next [s0,some (.str ⟨#[c]⟩,false)]) else some (.ret (.int (-1),false)):=by
 have q:nE ⟨#[c]⟩ (tx eQ)=eQ.contains c:=by rw[qS];simp
 have t:(cF (bW 1) [(jw,(cf (dC (.str "0123456789"))))]) [s0,some (.str ⟨#[c]⟩,false)]=some (!(eQ.contains c)):=by
  rw[mf];simp[cF,tChain,bW,cf,dC,jw,q]
 rw[eG];cases h:eQ.contains c with
 |true =>
  rw[qT (by rw[t,h];rfl),if_pos rfl];rfl
 |false =>
  rw[gx (by rw[t,h];rfl),if_neg (by simp)];rfl
theorem kE {s0:Option Vl}:∀(l:List Nat) (z:Option Vl),∃z',fq (gN 1) eG (l.map fun c=>.str ⟨#[c]⟩) [s0,z]=if l.all (eQ.contains ·)=true then some (.next [s0,z']) else some (.ret (.int (-1),false))
 |[],z=>⟨z,rfl⟩
 | c::l,z=>by
  obtain⟨z',e⟩:=kE (s0:=s0) l (some (.str ⟨#[c]⟩,false));refine⟨z',?_⟩;rw[aD,fq];simp only[gN,bL,aa];rw[qK,List.all_cons];cases h:eQ.contains c with
  |true =>
   rw[if_pos rfl,aa,Bool.true_and];exact e
  |false =>
   rw[if_neg (by simp),aa,Bool.false_and,if_neg (by simp)]
theorem fJ {l:List Nat}(hl:l.length<=600)(hc:∀c∈l,c<1114112):cN [.str (tx l)]=some (.int (if df l=true then fR l else -1),false):=by
 have run:cN [.str (tx l)]=(eR [some (.str (tx l),false),none]).bind d7:=rfl;have q:(d1 eN (bW 0)) [some (.str (tx l),false),none]=some (.int (l.length:Int),false):=qI ⋯;have c0:g4 (.str (tx l)) (.str (tx []))=some (decide (l=[])):=by
  rw[lZ hc (by simp)];congr 1;exact decide_eq_decide.mpr ⟨k8,fun z=>by rw[z]⟩
 rw[run,eR,n5,me];have neg:(d1 ny (cf (dC (.int 1)))) [some (.str (tx l),false),none]=some (.int (-1),false):=rfl;cases l with
 |nil =>
  rw[da (by simp[ir,cF,tChain,cf,bW,dC,c0]) neg];rfl
 |cons x xs =>
  have q2:(d2 fZ (bW 0) (cf (dC (.int 0)))) [some (.str (tx (x::xs)),false),none]=some (.str ⟨#[x]⟩,false):=lM ⋯;have c1:g4 (.str ⟨#[x]⟩) (.str (tx [48]))=some (decide (x=48)):=by
   rw[show (⟨#[x]⟩:Str)=tx [x] from rfl,lZ (fun c h=>by cases aI.mp h;exact hc x (by simp)) (by simp)];congr 1;exact decide_eq_decide.mpr (mi x)
  have tt:(ir (cF (bW 0) [(g4,(cf (dC (.str (tx [])))))]) (ir (cF (cf (d1 eN (bW 0))) [(lY,(cf (dC (.int 3))))]) (jz (cF (cf (d1 eN (bW 0))) [(lY,(cf (dC (.int 1))))]) (cF (cf (d2 fZ (bW 0) (cf (dC (.int 0))))) [(g4,(cf (dC (.str (tx [48])))))])))) [some (.str (tx (x::xs)),false),none]=some (decide (3<(x::xs).length)||(decide (1<(x::xs).length)&&decide (x=48))):=by
   have e1:decide ((3:Int)<((x::xs).length:Int))=decide (3<(x::xs).length):=by congr 1;apply propext;omega
   have e2:decide ((1:Int)<((x::xs).length:Int))=decide (1<(x::xs).length):=by congr 1;apply propext;omega
   have v0:(bW 0) [some (.str (tx (x::xs)),false),none]=some (.str (tx (x::xs))):=rfl;cases b1:decide (3<(x::xs).length) <;> cases b2:decide (1<(x::xs).length) <;> simp[-ai,ir,jz,cF,tChain,cf,dC,v0,q,q2,c0,c1,lY,e1,e2,b1,b2]
  obtain⟨z',lp⟩:=kE (s0:=some (.str (tx (x::xs)),false)) (x::xs) none;have hi:(gy (cE 0)) [some (.str (tx (x::xs)),false),none]=some ((x::xs).map fun c=>.str ⟨#[c]⟩):=by simp[gy,cE,g6,tx]
  cases b:(decide (3<(x::xs).length)||(decide (1<(x::xs).length)&&decide (x=48))) with
  |true =>
   rw[da (by rw[tt,b]) neg];have:df (x::xs)=false:=by
    unfold df;simp at b ⊢;intro h3;rcases b with b|b
    ·omega
    ·intro h4;rcases h4 with h4|h4
     ·exact absurd b.2 h4
     ·rw[h4.2] at b;simp at b
   rw[this];rfl
  |false =>
   rw[cQ (by rw[tt,b]),cD,jo hi,lp];simp only[Bool.or_eq_false_iff,Bool.and_eq_false_iff,decide_eq_false_iff_not] at b;cases ha:(x::xs).all (eQ.contains ·) with
   |true =>
    have ok:df (x::xs)=true:=by
     unfold df;rw[ha];simp;simp at b;refine⟨by omega,?_⟩;by_cases hx:x=48
     ·refine .inr ?_;rcases b.2 with h|h
      ·exact⟨hx,h⟩
      ·exact absurd hx h
     ·exact .inl hx
    have e:(d1 ja (bW 0)) [some (.str (tx (x::xs)),false),z']=some (.int (fR (x::xs)),false):=kC ok hl;rw[if_pos rfl,aa];dsimp only;rw[cU,e,ok];rfl
   |false =>
    have:df (x::xs)=false:=by
     unfold df;rw[ha];simp
    rw[if_neg (by simp),aa,this];rfl
end Lw
namespace Lw
open PySem DL
theorem gE (c:Nat):∀l:List Nat,(cV c l).length<=l.length+1
 |[]=>aq _
 | x::xs=>by
  have ih:=gE c xs;obtain⟨w,ws,e⟩:=eF c xs;rw[cV];split
  ·rw[ai,ai];omega
  ·rw[e] at ih ⊢;rw[ai] at ih ⊢;rw[ai];omega
theorem dD {c:Nat}:∀{l w:List Nat},w∈cV c l->w.length<=l.length/\∀x∈w,x∈l
 | [],w,h=>by
  cases aI.mp h;exact⟨aq _,fun x hx=>nomatch hx⟩
 | y::ys,w,h=>by
  obtain⟨v,vs,e⟩:=eF c ys;rw[cV] at h;split at h
  ·rcases ay.mp h with h|h
   ·subst h;exact⟨bf _,fun x hx=>nomatch hx⟩
   ·have ih:=dD h;exact⟨by rw[ai];omega,fun x hx=>ak _ (ih.2 x hx)⟩
  ·rw[e] at h;dsimp only at h;rcases ay.mp h with h|h
   ·subst h;have ih:=dD (c:=c) (l:=ys) (w:=v) (by rw[e];exact aB);refine⟨by rw[ai,ai];omega,fun x hx=>?_⟩;rcases ay.mp hx with z|z
    ·rw[z];exact aB
    ·exact ak _ (ih.2 x z)
   ·have ih:=dD (c:=c) (l:=ys) (w:=w) (by rw[e];exact ak _ h);exact⟨by rw[ai];omega,fun x hx=>ak _ (ih.2 x hx)⟩
theorem iu {l:List Nat}{c:Nat}(hc:c<256)(hl:l.length<=1000):dv (.str (tx l)) (.str ⟨#[c]⟩)=some (.list ((cV c l).map fun w=>.str (tx w)),true):=by
 have cl:=gE c l;have hcut:(L2.cutsS (tx l) ⟨#[c]⟩).length<=sizeLine:=by
  unfold L2.cutsS;rw[length_partsBetween,oi,dn];have:=List.length_filter_le (fun i=>(tx l).cps[i]?==some c) (bH 0 (l.length+1));rw[List.length_range'] at this;exact jA ⋯
 unfold dv;dsimp only;rw[if_pos ⟨rfl,by rw[dn];exact jA ⋯,hcut,by rw[kA l hc,az];exact jA ⋯⟩,kA l hc,List.map_map];rfl
noncomputable def l5 (l:List Nat):Vl:=match cV 62 l with
 |[a,b]=>if df a=true then (if df b=true then (.tuple [.int (fR a),.int (fR b)],false) else iE 0) else iE 0
 |_=>iE 0
theorem ki {l:List Nat}(hl:l.length<=600)(hc:∀c∈l,c<1114112):dR [.str (tx l)]=some (l5 l):=by
 have run:dR [.str (tx l)]=(gh [some (.str (tx l),false),none]).bind d7:=rfl;have sp:=iu (l:=l) (c:=62) (by decide) ⋯;have h0:(cO 1 (d2 dv (bW 0) (cf (dC (.str ">"))))) [some (.str (tx l),false),none]=some (.next [some (.str (tx l),false),some (.list ((cV 62 l).map fun w=>.str (tx w)),true)]):=by
  rw[lq];show ((dv (.str (tx l)) (.str ⟨#[62]⟩)).bind fun x=>some (Fl.next _))=_;rw[sp];rfl
 have ln:(d1 eY (bW 1)) [some (.str (tx l),false),some (.list ((cV 62 l).map fun w=>.str (tx w)),true)]=some (.int ((cV 62 l).length:Int),false):=by
  show some ((PyData.int ((((cV 62 l).map fun w=>PyData.str (tx w)).length:Nat):Int),false):Vl)=_;rw[az]
 have tt:(cF (cf (d1 eY (bW 1))) [(i4,(cf (dC (.int 2))))]) [some (.str (tx l),false),some (.list ((cV 62 l).map fun w=>.str (tx w)),true)]=some (decide ((cV 62 l).length≠2)):=by
  have e:decide (((cV 62 l).length:Int)≠2)=decide ((cV 62 l).length≠2):=by congr 1;apply propext;omega
  simp only[cF,tChain,cf,ln,dC,ae,aa,oQ,e]
 rw[run,gh,cW h0];by_cases h2:(cV 62 l).length=2
 ·rw[cQ (by rw[tt];simp[h2])]
  match e:cV 62 l,h2 with
  |[a,b],_ =>
   have ma:=dD (c:=62) (l:=l) (w:=a) (by rw[e];simp);have mb:=dD (c:=62) (l:=l) (w:=b) (by rw[e];simp);have ra:=eV (l:=a) ⋯ fun c hx=>hc c (ma.2 c hx);have rb:=eV (l:=b) ⋯ fun c hx=>hc c (mb.2 c hx);have ca:(cC cM (bY (d2 eh (bW 1) (cf (dC (.int 0)))) cJ)) [some (.str (tx l),false),some (.list ([a,b].map fun w=>.str (tx w)),true)]=cM [.str (tx a)]:=rfl;have cb:(cC cM (bY (d2 eh (bW 1) (cf (dC (.int 1)))) cJ)) [some (.str (tx l),false),some (.list ([a,b].map fun w=>.str (tx w)),true)]=cM [.str (tx b)]:=rfl;unfold l5;rw[e];dsimp only;rw[cU,o5,gn,ca,ra,aa];cases na:df a with
   |false=>rfl
   |true =>
    rw[if_pos rfl,if_pos rfl];show ((((gn _ p0 _).map (jx _)).bind _).map _).bind d7=_;rw[gn,cb,rb,aa];cases nb:df b with
    |false=>rfl
    |true =>
     rw[if_pos rfl,if_pos rfl];rfl
 ·obtain⟨r,q⟩:=qj (l:=l) (p:=("no arrow: " : Str)) (ρ:=[some (.str (tx l),false),some (.list ((cV 62 l).map fun w=>.str (tx w)),true)]) (by decide +kernel) ⋯ hc rfl;rw[cD,gx (by rw[tt,decide_eq_true h2]),iw q];unfold l5;split
  ·rename_i a b e;rw[e] at h2;exact absurd rfl h2
  ·rfl
end Lw
namespace Lw
open PySem DL
noncomputable def k6:List (List Nat)->Int ⊕ List D
 |[]=>.inr []
 | w::ws=>match dX (l5 w) with
  |some n=>.inl n
  |none=>jx (l5 w).1 (k6 ws)
theorem mQ:∀ws:List (List Nat),(∀w∈ws,w.length<=600/\∀c∈w,c<1114112)->gp (gN 0) gS d9 [none] (ws.map fun w=>.str (tx w))=some (k6 ws)
 |[],_=>rfl
 | w::ws,h=>by
  have hw:=h w (by simp);have ih:=mQ ws fun v hv=>h v (by simp[hv]);have e:d9 [some (.str (tx w),false)]=some (l5 w):=(show _=dR [.str (tx w)] from rfl).trans (ki hw.1 hw.2);rw[aD,gp,k6];simp only[gN,bL,aa,gS,if_true,e];cases dX (l5 w) with
  |some n=>rfl
  |none =>
   dsimp only;rw[ih];rfl
end Lw
namespace Lw
open PySem DL
noncomputable def vh (c f found:Int):Int :=
 found*1000000000+(((c*f+7919)%2147483647*((c*f+7919)%2147483647))%2147483647*40692%2147483399)/7
noncomputable def tZ (c:Int):Int:=vh c 44488 (vh c 39373 (vh c 69621 (vh c 48271 0)))
theorem l9 {c f found:Int}{x:Option Vl}(hf:-(2 ^ 64)<f)(hf2:f<2 ^ 64):gG [some (.int c,false),some (.int found,false),some (.int f,false),x] =
  some (.next [some (.int c,false),some (.int (vh c f found),false),some (.int f,false),some (.int ((((c*f+7919)%2147483647*((c*f+7919)%2147483647))%2147483647*40692%2147483399)),false)]):=by
 have b1:0<=(c*f+7919)%2147483647:=aY _ (by decide);have b2:(c*f+7919)%2147483647<2147483647:=aW _ (by decide);simp[gG,cD,cO,d2,cf,bW,dC,lH hf hf2,cS,dh,gv,qz,ui (i:=(c*f+7919)%2147483647) (j:=(c*f+7919)%2147483647) ⋯ ⋯,lH,vh]
theorem n4 (c:Int):eA [.int c]=some (.int (tZ c),false):=by
 simp[eA,gO,d7,ik,cD,cO,fP,eu,fM,bY,cJ,dC,wY,gL,kj,fq,gN,l9,cU,cE,tZ]
noncomputable def cell (ns:List Int)(k:Nat):Int:=tZ (ns.getD k 0)
theorem sR {n k:Nat}(h:k<n):qR n (k:Int)=some k:=by
 unfold qR;rw[if_pos ⋯,if_pos ⋯];simp
theorem oS {xs:List D}{k:Nat}{d:D}(h:xs[k]?=some d):mW xs (k:Int)=some d:=by
 unfold mW;have:k<xs.length:=(ax.mp h).1;rw[sR this,aa,h]
theorem iQ (ns:List Int)(k:Nat):cy [.list (ns.map .int),.int (k:Int)]=some (.int (cell ns k),false):=by
 by_cases h:k<ns.length
 ·have h':(k:Int)<(ns.length:Int):=by omega
  have e:mW (ns.map PyData.int) (k:Int)=some (.int (ns.getD k 0)):=oS (by rw[aH,bx h,a9,bx h];rfl);simp[cy,gO,d7,gk,cD,eM,cF,tChain,bW,cf,d1,eY,nS,h',cU,cC,bY,cJ,d2,eh,e,n4,cell]
 ·have h':¬(k:Int)<(ns.length:Int):=by omega
  have e:ns[k]?=none:=List.getElem?_eq_none ⋯;simp[cy,gO,d7,gk,cD,eM,cF,tChain,bW,cf,d1,eY,nS,h',dA,cU,cC,bY,cJ,dC,n4,cell,e]
noncomputable def vT (s:Int):Int:=s*48271%2147483647
noncomputable def pG (c k b:Int):Int:=vT (vT (vT ((c%2147483629+1+k*1000003)%2147483647)))/97%b
theorem mI {s c k b:Int}{x:Option Vl}:gH [some (.int c,false),some (.int k,false),some (.int b,false),some (.int s,false),x] =
  some (.next [some (.int c,false),some (.int k,false),some (.int b,false),some (.int (vT s),false),x]):=by
 simp[gH,cO,d2,cf,bW,dC,lH,dh,vT]
theorem oB {c k b:Int}(hb:0<b):dN [.int c,.int k,.int b]=some (.int (pG c k b),false):=by
 simp[dN,gO,d7,il,cD,cO,d2,cf,bW,dC,dh,cS,lH,fP,gM,vd,ic,bq,bq.loop,fq,gN,mI,cU,gv,dh hb,pG]
theorem oz {c k b:Int}(hb:0<b):0<=pG c k b:=aY _ ⋯
theorem oA {c k b:Int}(hb:0<b):pG c k b<b:=aW _ hb
noncomputable def cP (p:Int×Int):D:=.tuple [.int p.1,.int p.2]
noncomputable def cK (k:Int)(ar:List (Int×Int)):D:=.tuple [.int k,.tuple (ar.map cP)]
structure Wf (k:Int)(ar:List (Int×Int)):Prop where
 lo:1<=k
 ok:∀p∈ar,0<=p.1/\p.1<p.2/\p.2<k
theorem mB (n:Nat):ic 0 n=(bq n).map fun (k:Nat)=>.int (k:Int):=by
 unfold ic;simp
theorem mF {ns:List Int}{first i most many kinds a b:Int}{ca cb:Int}{ar:List (Int×Int)}{y z:Option Vl}(c1:cy [.list (ns.map .int),.int (first+1)]=some (.int ca,false))(c2:cy [.list (ns.map .int),.int (first+2)]=some (.int cb,false))
  (d1':dN [.int ca,.int i,.int (kinds-1)]=some (.int a,false)) (d2':dN [.int cb,.int i,.int (kinds-1-a)]=some (.int b,false)) (hz:ar.length<sizeLine) :
  fC [some (.list (ns.map .int),false),some (.int first,false),some (.int most,false),some (.int many,false),some (.int kinds,false),some (.list (ar.map cP),true),some (.int i,false),y,z] =
   some (.next [some (.list (ns.map .int),false),some (.int first,false),some (.int most,false),some (.int many,false),some (.int kinds,false),some (.list ((ar++[(a,a+1+b)]).map cP),true),some (.int i,false),some (.int a,false),some (.int (a+1+b),false)]):=by
 simp[fC,cD,cO,cC,bY,cJ,cE,d2,cf,bW,dC,cS,qx,c1,c2,d1',d2',pj,iZ,qk,hz,wk,cP]
theorem qW {ns:List Int}{first:Nat}{most many kinds:Int}(hk:1<kinds)(n:Nat):∀(i:Nat) (ar:List (Int×Int)) (x y z:Option Vl),Wf kinds ar->ar.length+n<=1000->∃ar' x' y' z',Wf kinds ar'/\ar'.length=ar.length+n ∧
  fq (gN 6) fC ((bH i n).map fun (k:Nat)=>.int (k:Int)) [some (.list (ns.map .int),false),some (.int (first:Int),false),some (.int most,false),some (.int many,false),some (.int kinds,false),some (.list (ar.map cP),true),x,y,z] =
   some (.next [some (.list (ns.map .int),false),some (.int (first:Int),false),some (.int most,false),some (.int many,false),some (.int kinds,false),some (.list (ar'.map cP),true),x',y',z']):=by
 induction n with
 |zero=>exact fun i ar x y z w _=>⟨ar,x,y,z,w,rfl,rfl⟩
 |succ n ih =>
  intro i ar x y z w hn;have c1:=iQ ns (first+1);have c2:=iQ ns (first+2);rw[show (((first+1:Nat)):Int)=(first:Int)+1 by omega] at c1;rw[show (((first+2:Nat)):Int)=(first:Int)+2 by omega] at c2;generalize cell ns (first+1)=ca at c1;generalize cell ns (first+2)=cb at c2;have hb1:0<kinds-1:=by omega
  have a0:=oz (c:=ca) (k:=(i:Int)) hb1;have a1:=oA (c:=ca) (k:=(i:Int)) hb1;have d1':=oB (c:=ca) (k:=(i:Int)) hb1;generalize pG ca (i:Int) (kinds-1)=a at a0 a1 d1';have hb2:0<kinds-1-a:=by omega
  have b0:=oz (c:=cb) (k:=(i:Int)) hb2;have b1:=oA (c:=cb) (k:=(i:Int)) hb2;have d2':=oB (c:=cb) (k:=(i:Int)) hb2;generalize pG cb (i:Int) (kinds-1-a)=b at b0 b1 d2';have w':Wf kinds (ar++[(a,a+1+b)]):=⟨w.lo,fun p hp=>by
   rcases aG.mp hp with h|h
   ·exact w.ok p h
   ·cases aI.mp h;dsimp only;omega⟩
  have hz:ar.length<sizeLine:=wK ⋯;obtain⟨ar',x',y',z',w2,l2,e2⟩:=ih (i+1) (ar++[(a,a+1+b)]) (some (.int (i:Int),false)) (some (.int a,false)) (some (.int (a+1+b),false)) w' (by rw[au,aU];omega);refine⟨ar',x',y',z',w2,by rw[l2,au,aU];omega,?_⟩;rw[bM,aD,fq];simp only[gN,bL,aa];rw[mF c1 c2 d1' d2' hz,aa];exact e2
theorem sU (ns:List Int)(first:Nat){most many:Int}(hm:0<most)(hm2:most<1073741824)(hy:0<=many)(hy2:many<1000):∃k ar,dw [.list (ns.map .int),.int (first:Int),.int most,.int many]=some (cK k ar,false)/\Wf k ar/\k<=most/\(ar.length:Int)<=many:=by
 have c0:=iQ ns first
 have k0:0<=cell ns first%most:=aY _ ⋯
 have k1:cell ns first%most<most:=aW _ hm
 have n0:0<=cell ns first/most%(many+1):=aY _ ⋯
 have n1:cell ns first/most%(many+1)<many+1:=aW _ ⋯
 have hmod:=dh (i:=cell ns first/most) (j:=many+1) ⋯;by_cases hk:1<1+cell ns first%most
 ·obtain⟨ar,x,y,z,w,l,e⟩:=qW (ns:=ns) (first:=first) (most:=most) (many:=many) (kinds:=1+cell ns first%most) hk (cell ns first/most%(many+1)).toNat 0 [] none none none ⟨by omega,fun p hp=>by cases hp⟩ (by simp;omega);refine⟨1+cell ns first%most,ar,?_,w,by omega,by rw[l];simp;omega⟩;have hbd:-4611686018427387904<=cell ns first/most%(many+1)/\cell ns first/most%(many+1)<4611686018427387904:=by omega
  rw[List.map_nil,<-List.range_eq_range'] at e;have ei:=mB (cell ns first/most%(many+1)).toNat;simp[dw,gO,d7,gj,cD,cO,cC,bY,cJ,cE,d2,cf,bW,dC,cS,c0,dh hm,gv hm hm2,hmod,fM,eM,cF,tChain,lY,hk,fP,gM,vd,hbd,ei,e,cU,iZ,d1,fH,wk,cK]
 ·refine⟨1+cell ns first%most,[],?_,⟨by omega,fun p hp=>by cases hp⟩,by omega,by simpa using hy⟩;simp[dw,gO,d7,gj,cD,cO,cC,bY,cJ,cE,d2,cf,bW,dC,cS,c0,dh hm,fM,eM,cF,tChain,lY,hk,dA,cU,iZ,d1,fH,wk,cK]
end Lw
namespace Lw
open PySem DL PySem.SeqAt PySem.Spec
noncomputable def rP (k:Int)(p:Int×Int):Bool:=decide (0<=p.1)&&(decide (p.1<p.2)&&decide (p.2<k))
theorem lP {k a b:Int}:f9 [some (.int a,false),some (.int b,false),some (.int k,false)]=some (.bool (rP k (a,b)),false):=by
 by_cases h1:0<=a <;> by_cases h2:a<b <;> simp[f9,gC,cF,tChain,cf,bW,dC,j8,nS,rP,h1,h2]
theorem iC {k:Int}:∀ar:List (Int×Int),fS (gT [gN 0,gN 1]) gS f9 [none,none,some (.int k,false)] (ar.map cP)=some (ar.map fun p=>.bool (rP k p))
 |[]=>rfl
 | (a,b)::ar=>by
  rw[aD,fS];simp[cP,gT,jT,gN,gS,lP,iC ar]
theorem j2 {α:Type}(f:α->Bool):∀xs:List α,eL (xs.map fun x=>.bool (f x))=some (xs.map f)
 |[]=>rfl
 | x::xs=>by
  rw[aD,eL,j2 f xs];rfl
noncomputable def d8 (k:Int)(ar:List (Int×Int)):Bool:=!(decide (k<1)||(decide (4<k)||decide (5<ar.length)))&&ar.all (rP k)
theorem nC {k:Int}{ar:List (Int×Int)}(h:ar.length<=1000):dF [cK k ar]=some (.bool (d8 k ar),false):=by
 have i0:eh (cK k ar) (.int 0)=some (.int k,false):=by simp[cK,eh,mW,qR]
 have i1:eh (cK k ar) (.int 1)=some (.tuple (ar.map cP),false):=by simp[cK,eh,mW,qR]
 have hz:ar.length<=sizeLine:=jA ⋯;have e5:(5<(ar.length:Int))<->5<ar.length:=by omega
 by_cases h1:k<1
 ·simp[dF,gO,d7,eT,cD,cO,d2,bW,cf,dC,i0,i1,eM,ir,cF,tChain,nS,h1,cU,d8]
 ·by_cases h2:4<k
  ·simp[dF,gO,d7,eT,cD,cO,d2,bW,cf,dC,i0,i1,eM,ir,cF,tChain,nS,lY,h1,h2,cU,d8]
  ·by_cases h3:5<ar.length
   ·simp[dF,gO,d7,eT,cD,cO,d2,bW,cf,dC,i0,i1,eM,ir,cF,tChain,nS,lY,h1,h2,d1,eY,e5,h3,cU,d8]
   ·simp[dF,gO,d7,eT,cD,cO,d2,bW,cf,dC,i0,i1,eM,ir,cF,tChain,nS,lY,h1,h2,d1,eY,e5,h3,dA,cU,d8,gD,eu,lA,cE,gL,hz,dg,iC,lJ,j2]
end Lw
namespace Lw
open PySem DL
noncomputable def mV (l:List Nat):Option (Int×Int):=match cV 62 l with
 |[a,b]=>if df a=true/\df b=true then some (fR a,fR b) else none
 |_=>none
theorem ve (l:List Nat):l5 l=match mV l with|some p=>(cP p,false)|none=>iE 0:=by
 unfold l5 mV;generalize cV 62 l=W
 match W with
 |[]=>rfl
 |[_]=>rfl
 |[a,b] =>
  dsimp only;cases na:df a <;> cases nb:df b <;> simp[cP]
 |_::_::_::_=>rfl
noncomputable def fD:List (List Nat)->Option (List (Int×Int))
 |[]=>some []
 |w::ws=>(mV w).bind fun p=>(fD ws).map fun ps=>p::ps
theorem oV:∀ws,k6 ws=match fD ws with|some ps=>.inr (ps.map cP)|none=>.inl 0
 |[]=>rfl
 | w::ws=>by
  have ih:=oV ws;rw[k6,fD,ve];cases mV w with
  |none=>rfl
  |some p =>
   dsimp only;rw[show dX (cP p,false)=none from rfl,ih];dsimp only;cases fD ws with
   |none=>rfl
   |some ps=>rfl
end Lw
namespace Lw
open PySem DL
noncomputable def gU (l:List Nat):Int:=if df l=true then fR l else -1
noncomputable def f7 (l:List Nat):Option (Int×Int):=match cV 62 l with
 |[a,b]=>some (gU a,gU b)
 |_=>none
noncomputable def dG:List (List Nat)->Option (List (Int×Int))
 |[]=>some []
 |w::ws=>(f7 w).bind fun p=>(dG ws).map fun ps=>p::ps
noncomputable def jk (k:Int)(ar:List (Int×Int)):Option (Int×List (Int×Int)):=if d8 k ar=true then some (k,ar) else none
noncomputable def jj (k:Int):List Nat->Option (Int×List (Int×Int))
 |[]=>jk k []
 |x::r=>if x=32 then (dG (cV 32 r)).bind (jk k) else none
noncomputable def iX (l:List Nat):Option (Int×List (Int×Int)):=if 58∈l then jj (gU (l.take (l.idxOf 58))) (l.drop (l.idxOf 58+1)) else jj (-1) l
noncomputable def n8 (l:List Nat):Option (Int×List (Int×Int)):=match cV 32 l with
 |[]=>none
 |w::ws=>if w.getLast?=some 58/\df w.dropLast=true then (fD ws).bind (jk (fR w.dropLast)) else none
theorem jV (ar:List (Int×Int)):jk (-1) ar=none:=by simp[jk,d8]
theorem jU (r:List Nat):jj (-1) r=none:=by
 match r with
 |[]=>exact jV []
 |x::r =>
  rw[jj];split
  ·cases dG (cV 32 r) with
   |none=>rfl
   |some ps=>exact jV ps
  ·rfl
theorem rM (w:List Nat):mV w=f7 w\/mV w=none/\∃p,f7 w=some p/\(p.1=-1\/p.2=-1):=by
 unfold mV f7;generalize cV 62 w=W
 match W with
 |[]=>exact .inl rfl
 |[_]=>exact .inl rfl
 |[a,b] =>
  dsimp only[gU];cases na:df a <;> cases nb:df b <;> simp
 |_::_::_::_=>exact .inl rfl
theorem oU:∀ws:List (List Nat),fD ws=dG ws\/fD ws=none/\∃ps,dG ws=some ps/\∃p∈ps,p.1=-1\/p.2=-1
 |[]=>.inl rfl
 | w::ws=>by
  rw[fD,dG];rcases oU ws with i|⟨i,ps,l,p,hp,hn⟩
  ·rcases rM w with h|⟨h,q,hq,hn⟩
   ·rw[h,i];exact .inl rfl
   ·rw[h,hq];cases dG ws with
    |none=>exact .inl rfl
    |some ps=>exact .inr ⟨rfl,q::ps,rfl,q,by simp,hn⟩
  ·rw[i,l];rcases rM w with h|⟨h,q,hq,hn'⟩
   ·rw[h];cases f7 w with
    |none=>exact .inl rfl
    |some q=>exact .inr ⟨rfl,q::ps,rfl,p,by simp[hp],hn⟩
   ·rw[h,hq];exact .inr ⟨rfl,q::ps,rfl,p,by simp[hp],hn⟩
theorem rf {k:Int}{ps:List (Int×Int)}{p:Int×Int}(hp:p∈ps)(hn:p.1=-1\/p.2=-1):jk k ps=none:=by
 unfold jk;rw[if_neg];intro h;unfold d8 at h;rw[Bool.and_eq_true] at h;have:=bC.mp h.2 p hp;simp only[rP,Bool.and_eq_true,decide_eq_true_eq] at this;omega
theorem rL (k:Int)(ws:List (List Nat)):(fD ws).bind (jk k)=(dG ws).bind (jk k):=by
 rcases oU ws with h|⟨h,ps,l,p,hp,hn⟩
 ·rw[h]
 ·rw[h,l];exact (rf hp hn).symm
theorem iM {c:Nat}:∀{p q w:List Nat}{ws:List (List Nat)},c∉p->cV c q=w::ws->cV c (p++q)=(p++w)::ws
 |[],_,_,_,_,e=>e
 | x::p,q,w,ws,h,e=>by
  have ih:=iM (p:=p) (fun z=>h (by simp[z])) e;rw[bt,cV,if_neg (fun z=>h (by simp[z])),ih];rfl
theorem oK {c:Nat}{p q:List Nat}(h:c∉p):cV c (p++c::q)=p::cV c q:=by
 have:=iM (q:=c::q) (w:=[]) (ws:=cV c q) h (by rw[cV,if_pos rfl]);rw[this,aO]
theorem om {c:Nat}{l:List Nat}(h:c∈l):l=l.take (l.idxOf c)++c::l.drop (l.idxOf c+1)/\c∉l.take (l.idxOf c):=by
 have hl:l.idxOf c<l.length:=bJ.mpr h;have g:l[l.idxOf c]=c:=List.getElem_idxOf hl;refine⟨?_,fun hm=>?_⟩
 ·have:=List.take_append_drop (l.idxOf c) l;rw[bu hl,g] at this;exact this.symm
 ·obtain⟨i,hi,e⟩:=List.mem_iff_getElem.mp hm;rw[aZ] at hi;rw[List.getElem_take] at e;have:=List.not_of_lt_findIdx (p:=(·==c)) (xs:=l) (i:=i) (by show i<l.idxOf c;omega);simp[e] at this
theorem sr {l:List Nat}(h:df l=true):∀x∈l,x∈eQ:=by
 intro x hx;unfold df at h;simp only[Bool.and_eq_true] at h;have:=bC.mp h.2.2.2 x hx;simpa using this
theorem qD {l:List Nat}{x:Nat}(h:x∈l)(hd:x∉eQ):df l=false:=by
 cases e:df l with
 |false=>rfl
 |true=>exact absurd (sr e x h) hd
theorem qm (l:List Nat):n8 l=iX l:=by
 unfold n8 iX;by_cases h:58∈l
 ·rw[if_pos h];obtain⟨e,hp⟩:=om h;generalize l.take (l.idxOf 58)=p at e hp;generalize l.drop (l.idxOf 58+1)=q at e;subst e;by_cases h2:32∈p
  ·have nb:gU p=-1:=by rw[gU,qD h2 (by decide)];rfl
   rw[nb,jU];obtain⟨e2,hp2⟩:=om h2;generalize p.take (p.idxOf 32)=p1 at e2 hp2;generalize p.drop (p.idxOf 32+1)=p2 at e2;subst e2;rw[aQ,bt,oK hp2];dsimp only;rw[if_neg];rintro⟨hg,_⟩;exact hp (by simp[List.mem_of_getLast? hg])
  ·have h58:32∉p++[58]:=by simp[h2]
   match q with
   |[] =>
    have:=iM (c:=32) (p:=p++[58]) (q:=[]) h58 rfl;rw[aO] at this;rw[this];dsimp only;rw[List.getLast?_concat,List.dropLast_concat,fD];cases hn:df p with
    |true=>simp[gU,hn,jj]
    |false =>
     rw[gU,hn,if_neg (by simp),if_neg (by simp),jU]
   |x::r =>
    by_cases hx:x=32
    ·subst hx;have:=oK (c:=32) (p:=p++[58]) (q:=r) h58;rw[aQ,bU] at this;rw[this];dsimp only;rw[List.getLast?_concat,List.dropLast_concat,rL,jj,if_pos rfl];cases hn:df p with
     |true=>simp[gU,hn]
     |false =>
      rw[gU,hn,if_neg (by simp),if_neg (by simp)];cases dG (cV 32 r) with
      |none=>rfl
      |some ps=>exact (jV ps).symm
    ·obtain⟨w,ws,ec⟩:=eF 32 r;have e1:cV 32 (x::r)=(x::w)::ws:=by rw[cV,if_neg hx,ec]
     have:=iM (c:=32) (p:=p++[58]) (q:=x::r) h58 e1;rw[aQ,bU] at this;rw[this,jj,if_neg hx];dsimp only;rw[if_neg];rintro⟨_,hn⟩;have:(58:Nat)∈(p++[58]++x::w).dropLast:=by
      rw[List.dropLast_append_of_ne_nil (by simp)];simp
     rw[qD this (by decide)] at hn;cases hn
 ·rw[if_neg h,jU];obtain⟨w,ws,e⟩:=eF 32 l;rw[e];dsimp only;rw[if_neg];rintro⟨hg,_⟩;exact h ((dD (c:=32) (l:=l) (w:=w) (by rw[e];simp)).2 58 (List.mem_of_getLast? hg))
end Lw
namespace Lw
open PySem DL
theorem k7:∀{ws:List (List Nat)}{ps:List (Int×Int)},fD ws=some ps->ps.length=ws.length
 |[],_,h=>by cases h;rfl
 | w::ws,ps,h=>by
  rw[fD] at h;cases e1:mV w with
  |none=>rw[e1] at h;cases h
  |some p =>
   rw[e1,aa] at h;cases e2:fD ws with
   |none=>rw[e2] at h;cases h
   |some qs =>
    rw[e2] at h;cases h;rw[ai,ai,k7 e2]
noncomputable def qo (l:List Nat):Vl:=match n8 l with
 |some p=>(cK p.1 p.2,false)
 |none=>iE 0
theorem qQ (d:D)(ds:List D):eh (.list (d::ds)) (.int 0)=some (d,false):=by simp[eh,mW,qR]
theorem qg (d:D)(ds:List D):nO (.list (d::ds)) (some 1) none=some (.list ds,true):=by
 unfold nO;dsimp only;unfold lW lx;dsimp only;rw[if_neg (by decide)];have:min (1:Int).toNat (d::ds).length=1:=by show min 1 _=1;rw[ai];omega
 rw[this];show some ((PyData.list (ds.take ((d::ds).length-1)),true):Vl)=_;rw[ai,Nat.add_sub_cancel,bK]
theorem ly {l:List Nat}(hl:l.length<=600)(hc:∀c∈l,c<1114112):d6 [.str (tx l)]=some (qo l):=by
 have run:d6 [.str (tx l)]=(gB [some (.str (tx l),false),none,none]).bind d7:=rfl;have sp:=iu (l:=l) (c:=32) (by decide) ⋯;obtain⟨w,ws,e⟩:=eF 32 l;rw[e,aD] at sp;have hw:=dD (c:=32) (l:=l) (w:=w) (by rw[e];simp);have hws:∀v∈ws,v.length<=600/\∀c∈v,c<1114112:=fun v hv=>by
  have:=dD (c:=32) (l:=l) (w:=v) (by rw[e];simp[hv]);exact⟨by omega,fun c hx=>hc c (this.2 c hx)⟩
 have wl:=gE 32 l;rw[e,ai] at wl;have h0:(cO 1 (d2 dv (bW 0) (cf (dC (.str " "))))) [some (.str (tx l),false),none,none]=some (.next [some (.str (tx l),false),some (.list (.str (tx w)::ws.map fun w=>.str (tx w)),true),none]):=by
  rw[fY];show ((dv (.str (tx l)) (.str ⟨#[32]⟩)).bind fun x=>some (Fl.next _))=_;rw[sp];rfl
 rw[run,gB,cW h0];generalize hρ:([some (.str (tx l),false),some (.list (.str (tx w)::ws.map fun w=>.str (tx w)),true),none]:Sl)=ρ;have v1:bW 1 ρ=some (.list (.str (tx w)::ws.map fun w=>.str (tx w))):=by rw[<-hρ];rfl
 have i0:(d2 eh (bW 1) (cf (dC (.int 0)))) ρ=some (.str (tx w),false):=by
  rw[d2,v1,aa,cf,dC,ae,aa,qQ]
 have t1:(dP (k9 (d2 qC (cf (d2 eh (bW 1) (cf (dC (.int 0))))) (cf (dC (.str ":")))))) ρ=some (!(w.getLast?==some 58)):=by
  rw[jm,dP,k9,d2,cf,i0,ae,aa,cf,dC,ae,aa];show some (!(Txt.endswith (tx w) ⟨#[58]⟩))=_;rw[qY]
 unfold qo n8;rw[e];dsimp only;by_cases hg:w.getLast?=some 58
 ·rw[cQ (by rw[t1,hg];rfl)];have hne:w≠[]:=fun z=>by rw[z] at hg;cases hg
  have sl:(dM (cf (d2 eh (bW 1) (cf (dC (.int 0))))) fo (fm (d1 ny (cf (dC (.int 1)))))) ρ=some (.str (tx w.dropLast),false):=by
   rw[dM,cf,i0,ae,aa];show iL (.str (tx w)) none (some (-1))=_;unfold iL;dsimp only;rw[if_pos (by rw[dn];exact jA ⋯),m8 w hne]
  have dl:w.dropLast.length<=600:=by rw[List.length_dropLast];omega
  have rn:=eV dl fun c hx=>hc c (hw.2 c (List.dropLast_subset _ hx));have ca:(cC cM (bY (dM (cf (d2 eh (bW 1) (cf (dC (.int 0))))) fo (fm (d1 ny (cf (dC (.int 1)))))) cJ)) ρ=cM [.str (tx w.dropLast)]:=by
   rw[cC,bY,sl];rfl
  rw[cD,rR,o5,gn,ca,rn,aa];cases nk:df w.dropLast with
  |false=>rw[if_neg (by simp),if_neg (by simp)];rfl
  |true =>
   rw[if_pos rfl,if_pos ⟨hg,rfl⟩];have it:(eu (kj (oJ (bW 1) (fm (dC (.int 1))) fo))) ρ=some (ws.map fun w=>.str (tx w)):=by
    rw[eu,kj,oJ,v1,aa];rw[show fm (dC (.int 1)) ρ=some (some 1) from rfl,aa,fo,aa];rw[qg];rfl
   have cz:(ky (eu (kj (oJ (bW 1) (fm (dC (.int 1))) fo))) 1 [] (gN 0) gS d9) ρ=some (rS (k6 ws)):=by
    rw[ky,it,aa,if_pos (by rw[az];exact jA ⋯)];show (gp (gN 0) gS d9 [none] _).map rS=_;rw[mQ ws hws];rfl
   show ((((((gn _ p0 ρ).map (jx _)).bind _).bind _).bind _).bind d7)=_;rw[gn,vm,cz,aa,oV];cases ea:fD ws with
   |none=>rfl
   |some ps =>
    have lp:=k7 ea;have fe:=nC (k:=fR w.dropLast) (ar:=ps) ⋯;dsimp only[rS];show (cD _ _ (ρ.set 2 (some (cK (fR w.dropLast) ps,false)))).bind d7=_;have t2:(dP (k9 (cC dF (bY (cE 2) cJ)))) (ρ.set 2 (some (cK (fR w.dropLast) ps,false)))=some (!(d8 (fR w.dropLast) ps)):=by
     rw[<-hρ];show ((((dF [cK (fR w.dropLast) ps]).bind fun x=>pZ x.1)).bind fun c=>some (!c))=_;rw[fe];rfl
    rw[aa,jk];cases fb:d8 (fR w.dropLast) ps with
    |true =>
     rw[cQ (by rw[t2,fb];rfl),if_pos rfl,<-hρ];rfl
    |false =>
     rw[cD,gx (by rw[t2,fb];rfl),iw rfl,if_neg (by simp)];rfl
 ·have hb:(w.getLast?==some 58)=false:=by simpa using hg
  rw[cD,gx (by rw[t1,hb];rfl),iw rfl,if_neg (fun z=>hg z.1)];rfl
end Lw
namespace Lw
open PySem DL
theorem sX {s0 s1 s3 s4 s5 s6:Option Vl}{k a b:Int}:dZ [s0,s1,some (.int k,false),s3,s4,s5,s6,some (.int a,false),some (.int b,false)]=if rP k (a,b)=true then some (.next [s0,s1,some (.int k,false),s3,s4,s5,s6,some (.int a,false),some (.int b,false)]) else some (.ret (.none,false)):=by
 by_cases h1:0<=a <;> by_cases h2:a<b <;> by_cases h3:b<k <;> simp[dZ,eM,dP,cF,tChain,cf,bW,dC,j8,nS,rP,h1,h2,h3,cU,dA]
theorem kH {s0 s1 s3 s4 s5 s6:Option Vl}{k:Int}:∀(ar:List (Int×Int)) (s7 s8:Option Vl),∃s7' s8',fq (gT [gN 7,gN 8]) dZ (ar.map cP) [s0,s1,some (.int k,false),s3,s4,s5,s6,s7,s8]=if ar.all (rP k)=true then some (.next [s0,s1,some (.int k,false),s3,s4,s5,s6,s7',s8']) else some (.ret (.none,false))
 |[],s7,s8=>⟨s7,s8,rfl⟩
 | (a,b)::ar,s7,s8=>by
  obtain⟨s7',s8',e⟩:=kH (s0:=s0) (s1:=s1) (s3:=s3) (s4:=s4) (s5:=s5) (s6:=s6) (k:=k) ar (some (.int a,false)) (some (.int b,false));refine⟨s7',s8',?_⟩;rw[aD,fq];simp only[cP,gT,jT,gN,bL,aa];rw[sX,List.all_cons];cases h:rP k (a,b) with
  |true =>
   rw[if_pos rfl,aa,Bool.true_and];exact e
  |false =>
   rw[if_neg (by simp),aa,Bool.false_and,if_neg (by simp)]
noncomputable def mH (o:Option (Int×List (Int×Int))):Vl:=match o with
 |some p=>(cK p.1 p.2,false)
 |none=>(.none,false)
theorem oy {s0 s1 s3 s5 s6 s7 s8:Option Vl}{k:Int}{ar:List (Int×Int)}:(cD (eM (ir (dP (cF (cf (dC (.int 1))) [(j8,(bW 2)),(j8,(cf (dC (.int 4))))])) (cF (cf (d1 eY (bW 4))) [(lY,(cf (dC (.int 5))))])) (cU (dC .none)) dA)
  (cD (jH 4 (fP (eu (lA 4)) (gT [(gN 7),(gN 8)]) dZ))
  (cU (iZ (bY (cE 2) (bY (d1 fH (bW 4)) cJ)))))) [s0,s1,some (.int k,false),s3,some (.list (ar.map cP),true),s5,s6,s7,s8]=some (.ret (mH (jk k ar))):=by
 have e5:((5:Int)<(ar.length:Int))<->5<ar.length:=by omega
 have tt:(ir (dP (cF (cf (dC (.int 1))) [(j8,(bW 2)),(j8,(cf (dC (.int 4))))])) (cF (cf (d1 eY (bW 4))) [(lY,(cf (dC (.int 5))))])) [s0,s1,some (.int k,false),s3,some (.list (ar.map cP),true),s5,s6,s7,s8]=some (decide (k<1)||(decide (4<k)||decide (5<ar.length))):=by
  by_cases h1:k<1
  ·have h1':¬1<=k:=by omega
   simp[ir,dP,cF,tChain,cf,bW,dC,j8,h1,h1']
  ·have h1':1<=k:=by omega
   by_cases h2:4<k
   ·have h2':¬k<=4:=by omega
    simp[ir,dP,cF,tChain,cf,bW,dC,j8,h1,h1',h2,h2']
   ·have h2':k<=4:=by omega
    simp[ir,dP,cF,tChain,cf,bW,dC,j8,lY,d1,eY,e5,h1,h1',h2,h2']
 unfold jk d8;cases b:(decide (k<1)||(decide (4<k)||decide (5<ar.length))) with
 |true =>
  rw[da (by rw[tt,b]) rfl,if_neg (by simp)];rfl
 |false =>
  obtain⟨s7',s8',lp⟩:=kH (s0:=s0) (s1:=s1) (s3:=s3) (s4:=some (.list (ar.map cP),false)) (s5:=s5) (s6:=s6) (k:=k) ar s7 s8;rw[cQ (by rw[tt,b])];have sh:(jH 4 (fP (eu (lA 4)) (gT [(gN 7),(gN 8)]) dZ)) [s0,s1,some (.int k,false),s3,some (.list (ar.map cP),true),s5,s6,s7,s8]=_:=lp;rw[cD,sh,Bool.not_false,Bool.true_and];cases ar.all (rP k) with
  |true =>
   rw[if_pos rfl,if_pos rfl];rfl
  |false =>
   rw[if_neg (by simp),if_neg (by simp)];rfl
theorem kI {s0 s1 s2 s3 s7 s8:Option Vl}:∀(ws:List (List Nat)) (acc:List (Int×Int)) (s5 s6:Option Vl),(∀w∈ws,w.length<=600/\∀c∈w,c<1114112)->acc.length+ws.length<=1000->∃s5' s6',fq (gN 5) fj (ws.map fun w=>.str (tx w)) [s0,s1,s2,s3,some (.list (acc.map cP),true),s5,s6,s7,s8]=match dG ws with
  |some ps=>some (.next [s0,s1,s2,s3,some (.list ((acc++ps).map cP),true),s5',s6',s7,s8])
  |none=>some (.ret (.none,false))
 |[],acc,s5,s6,_,_=>⟨s5,s6,by rw[dG];dsimp only;rw[aO];rfl⟩
 | w::ws,acc,s5,s6,h,hz=>by
  have hw:=h w (by simp);have sp:=iu (l:=w) (c:=62) (by decide) ⋯;have one:fj [s0,s1,s2,s3,some (.list (acc.map cP),true),some (.str (tx w),false),s6,s7,s8]=match f7 w with
    |some p=>some (.next [s0,s1,s2,s3,some (.list ((acc++[p]).map cP),true),some (.str (tx w),false),some (.list ((cV 62 w).map fun w=>.str (tx w)),true),s7,s8])
    |none=>some (.ret (.none,false)):=by
   have h0:(cO 6 (d2 dv (bW 5) (cf (dC (.str ">"))))) [s0,s1,s2,s3,some (.list (acc.map cP),true),some (.str (tx w),false),s6,s7,s8]=some (.next [s0,s1,s2,s3,some (.list (acc.map cP),true),some (.str (tx w),false),some (.list ((cV 62 w).map fun w=>.str (tx w)),true),s7,s8]):=by
    rw[lq];show ((dv (.str (tx w)) (.str ⟨#[62]⟩)).bind fun x=>some (Fl.next _))=_;rw[sp];rfl
   rw[fj,cW h0];have tt:(cF (cf (d1 eY (bW 6))) [(i4,(cf (dC (.int 2))))]) [s0,s1,s2,s3,some (.list (acc.map cP),true),some (.str (tx w),false),some (.list ((cV 62 w).map fun w=>.str (tx w)),true),s7,s8]=some (decide ((cV 62 w).length≠2)):=by
    have e:decide (((cV 62 w).length:Int)≠2)=decide ((cV 62 w).length≠2):=by congr 1;apply propext;omega
    have ln:(d1 eY (bW 6)) [s0,s1,s2,s3,some (.list (acc.map cP),true),some (.str (tx w),false),some (.list ((cV 62 w).map fun w=>.str (tx w)),true),s7,s8]=some (.int ((cV 62 w).length:Int),false):=by
     show some ((PyData.int ((((cV 62 w).map fun w=>PyData.str (tx w)).length:Nat):Int),false):Vl)=_;rw[az]
    simp only[cF,tChain,cf,ln,dC,ae,aa,oQ,e]
   by_cases h2:(cV 62 w).length=2
   ·rw[cQ (by rw[tt];simp[h2])]
    match e:cV 62 w,h2 with
    |[a,b],_ =>
     have ma:=dD (c:=62) (l:=w) (w:=a) (by rw[e];simp);have mb:=dD (c:=62) (l:=w) (w:=b) (by rw[e];simp);have ra:=fJ (l:=a) ⋯ fun c hx=>hw.2 c (ma.2 c hx);have rb:=fJ (l:=b) ⋯ fun c hx=>hw.2 c (mb.2 c hx);unfold f7;rw[e];dsimp only;have hz':acc.length<sizeLine:=wK (by rw[ai] at hz;omega);generalize hρ:([s0,s1,s2,s3,some (.list (acc.map cP),true),some (.str (tx w),false),some (.list ([a,b].map fun w=>.str (tx w)),true),s7,s8]:Sl)=ρ;have ca:(cC cN (bY (d2 eh (bW 6) (cf (dC (.int 0)))) cJ)) ρ=cN [.str (tx a)]:=by rw[<-hρ];rfl
     have cb:(cC cN (bY (d2 eh (bW 6) (cf (dC (.int 1)))) cJ)) ρ=cN [.str (tx b)]:=by rw[<-hρ];rfl
     have tp:(iZ (bY (cC cN (bY (d2 eh (bW 6) (cf (dC (.int 0)))) cJ)) (bY (cC cN (bY (d2 eh (bW 6) (cf (dC (.int 1)))) cJ)) cJ))) ρ=some (cP (gU a,gU b),false):=by
      rw[iZ,bY,ca,ra,aa,bY,cb,rb];rfl
     rw[pj,tp,aa,<-hρ];simp only[qk];show (Option.map _ (if (acc.map cP).length<sizeLine then _ else _))=_;rw[if_pos (by rw[az];exact hz'),List.map_append];rfl
   ·rw[da (by rw[tt,decide_eq_true h2]) rfl];unfold f7;split
    ·rename_i p q;split at q
     ·rename_i a b e;rw[e] at h2;exact absurd rfl h2
     ·cases q
    ·rfl
  rw[dG];cases la:f7 w with
  |none =>
   refine⟨none,none,?_⟩;rw[la] at one;rw[aD,fq];simp only[gN,bL,aa,one,Option.bind_none]
  |some p =>
   rw[la] at one;obtain⟨s5',s6',ih⟩:=kI (s0:=s0) (s1:=s1) (s2:=s2) (s3:=s3) (s7:=s7) (s8:=s8) ws (acc++[p]) (some (.str (tx w),false)) (some (.list ((cV 62 w).map fun w=>.str (tx w)),true)) (fun v hv=>h v (by simp[hv])) (by rw[au,aU];rw[ai] at hz;omega);refine⟨s5',s6',?_⟩;rw[aD,fq];simp only[gN,bL,aa,one];rw[ih];cases dG ws with
   |none=>rfl
   |some ps =>
    dsimp only[ae];rw[aQ,bU]
end Lw
namespace Lw
open PySem DL
theorem jO {a b:List Nat}(ha:∀c∈a,c<1114112)(hb:∀c∈b,c<1114112):i4 (.str (tx a)) (.str (tx b))=some (!decide (a=b)):=by
 rw[oP ha hb];congr 2;exact decide_eq_decide.mpr ⟨k8,fun z=>by rw[z]⟩
theorem rd {s0 s1:Option Vl}{k:Int}{r:List Nat}(hl:r.length<=600)(hc:∀c∈r,c<1114112):(cD (cO 4 (fM cJ))
  (cD (eM (cF (bW 3) [(i4,(cf (dC (.str ""))))]) (cD (eM (cF (cf (d2 fZ (bW 3) (cf (dC (.int 0))))) [(i4,(cf (dC (.str " "))))]) (cU (dC .none)) dA)
  (fP (eu (kj (d2 dv (cf (dM (bW 3) (fm (dC (.int 1))) fo)) (cf (dC (.str " ")))))) (gN 5) fj)) dA)
  (cD (eM (ir (dP (cF (cf (dC (.int 1))) [(j8,(bW 2)),(j8,(cf (dC (.int 4))))])) (cF (cf (d1 eY (bW 4))) [(lY,(cf (dC (.int 5))))])) (cU (dC .none)) dA)
  (cD (jH 4 (fP (eu (lA 4)) (gT [(gN 7),(gN 8)]) dZ))
  (cU (iZ (bY (cE 2) (bY (d1 fH (bW 4)) cJ)))))))) [s0,s1,some (.int k,false),some (.str (tx r),false),none,none,none,none,none]=some (.ret (mH (jj k r))):=by
 have h0:(cO 4 (fM cJ)) [s0,s1,some (.int k,false),some (.str (tx r),false),none,none,none,none,none]=some (.next [s0,s1,some (.int k,false),some (.str (tx r),false),some (.list (([]:List (Int×Int)).map cP),true),none,none,none,none]):=rfl;rw[cW h0];have t1:(cF (bW 3) [(i4,(cf (dC (.str ""))))]) [s0,s1,some (.int k,false),some (.str (tx r),false),some (.list (([]:List (Int×Int)).map cP),true),none,none,none,none]=some (!decide (r=[])):=by
  rw[n5];show i4 (.str (tx r)) (.str (tx []))=_;exact jO hc (by simp)
 cases r with
 |nil =>
  rw[cQ (by rw[t1];simp),oy,jj]
 |cons x q =>
  rw[cD,gx (by rw[t1];simp)];have i0:(d2 fZ (bW 3) (cf (dC (.int 0)))) [s0,s1,some (.int k,false),some (.str (tx (x::q)),false),some (.list (([]:List (Int×Int)).map cP),true),none,none,none,none]=some (.str ⟨#[x]⟩,false):=lM ⋯;have t2:(cF (cf (d2 fZ (bW 3) (cf (dC (.int 0))))) [(i4,(cf (dC (.str " "))))]) [s0,s1,some (.int k,false),some (.str (tx (x::q)),false),some (.list (([]:List (Int×Int)).map cP),true),none,none,none,none]=some (!decide (x=32)):=by
   rw[fY,cF,cf,i0];show i4 (.str (tx [x])) (.str (tx [32]))=_;rw[jO (fun c h=>by cases aI.mp h;exact hc x (by simp)) (by simp)];congr 2;exact decide_eq_decide.mpr ⟨fun h=>(List.cons.inj h).1,fun h=>by rw[h]⟩
  by_cases hx:x=32
  ·rw[cQ (by rw[t2,decide_eq_true hx];rfl),jj,if_pos hx];have hq:∀w∈cV 32 q,w.length<=600/\∀c∈w,c<1114112:=fun w hw=>by
    have:=dD hw;rw[ai] at hl;exact⟨by omega,fun c h=>hc c (by simp[this.2 c h])⟩
   have ql:q.length<=600:=by rw[ai] at hl;omega
   have it:(eu (kj (d2 dv (cf (dM (bW 3) (fm (dC (.int 1))) fo)) (cf (dC (.str " ")))))) [s0,s1,some (.int k,false),some (.str (tx (x::q)),false),some (.list (([]:List (Int×Int)).map cP),true),none,none,none,none]=some ((cV 32 q).map fun w=>.str (tx w)):=by
    have sl:(dM (bW 3) (fm (dC (.int 1))) fo) [s0,s1,some (.int k,false),some (.str (tx (x::q)),false),some (.list (([]:List (Int×Int)).map cP),true),none,none,none,none]=some (.str (tx q),false):=by
     show iL (.str (tx (x::q))) (some 1) none=_;unfold iL;dsimp only;rw[if_pos (by rw[dn];exact jA ⋯)];have:=fU (x::q) (n:=1) (by simp);rw[show ((1:Nat):Int)=1 from rfl] at this;rw[this];rfl
    rw[fY,eu,kj,d2,cf,sl];show (dv (.str (tx q)) (.str ⟨#[32]⟩)).bind _=_;rw[iu (by decide) ⋯];rfl
   have cl:=gE 32 q;obtain⟨s5',s6',lp⟩:=kI (s0:=s0) (s1:=s1) (s2:=some (.int k,false)) (s3:=some (.str (tx (x::q)),false)) (s7:=none) (s8:=none) (cV 32 q) [] none none hq (by simp;omega);rw[jo it,lp];cases dG (cV 32 q) with
   |none=>rfl
   |some ps =>
    dsimp only[aa,bE];rw[oy]
  ·rw[da (by rw[t2,decide_eq_false hx];rfl) rfl,jj,if_neg hx];rfl
theorem nz {l:List Nat}(hl:l.length<=600)(hc:∀c∈l,c<1114112):eC [.str (tx l)]=some (mH (iX l)):=by
 have run:eC [.str (tx l)]=(gQ [some (.str (tx l),false),none,none,none,none,none,none,none,none]).bind d7:=rfl;have nm:∃c:Int,∃n m:Nat,Txt.find (tx l) ⟨#[58]⟩=c/\(if (0:Int)>c then (0:Int) else c)=(n:Int)/\c+1=(m:Int)/\n<=l.length/\m<=l.length/\iX l=jj (gU (l.take n)) (l.drop m):=by
  rw[qX];by_cases h:58∈l
  ·have lt:l.idxOf 58<l.length:=bJ.mpr h;refine⟨_,l.idxOf 58,l.idxOf 58+1,if_pos h,by rw[if_neg ⋯],by omega,by omega,by omega,?_⟩;rw[iX,if_pos h]
  ·refine⟨_,0,0,if_neg h,by rw[if_pos (by decide)];rfl,rfl,by omega,by omega,?_⟩;rw[iX,if_neg h];rfl
 obtain⟨c,n,m,e1,e2,e3,hn,hm,e4⟩:=nm;have h1:(cO 1 (d2 qB (bW 0) (cf (dC (.str ":"))))) [some (.str (tx l),false),none,none,none,none,none,none,none,none]=some (.next [some (.str (tx l),false),some (.int c,false),none,none,none,none,none,none,none]):=by
  rw[jm,<-e1];rfl
 have sl2:(dM (bW 0) fo (fm (d2 qA (bW 1) (cf (dC (.int 0)))))) [some (.str (tx l),false),some (.int c,false),none,none,none,none,none,none,none]=some (.str (tx (l.take n)),false):=by
  show iL (.str (tx l)) none (some (if (0:Int)>c then (0:Int) else c))=_;rw[e2];unfold iL;dsimp only;rw[if_pos (by rw[dn];exact jA ⋯),jD l hn]
 have sl3 (s2:Option Vl):(dM (bW 0) (fm (d2 cS (bW 1) (cf (dC (.int 1))))) fo) [some (.str (tx l),false),some (.int c,false),s2,none,none,none,none,none,none]=some (.str (tx (l.drop m)),false):=by
  show iL (.str (tx l)) (some (c+1)) none=_;rw[e3];unfold iL;dsimp only;rw[if_pos (by rw[dn];exact jA ⋯),fU l hm]
 have ln:=fJ (l:=l.take n) (by rw[aZ];omega) fun c h=>hc c (List.mem_of_mem_take h);have h2:(cO 2 (cC cN (bY (dM (bW 0) fo (fm (d2 qA (bW 1) (cf (dC (.int 0)))))) cJ))) [some (.str (tx l),false),some (.int c,false),none,none,none,none,none,none,none]=some (.next [some (.str (tx l),false),some (.int c,false),some (.int (gU (l.take n)),false),none,none,none,none,none,none]):=by
  rw[cO,cC,bY,sl2];show (cN [.str (tx (l.take n))]).bind _=_;rw[ln];rfl
 have h3:(cO 3 (dM (bW 0) (fm (d2 cS (bW 1) (cf (dC (.int 1))))) fo)) [some (.str (tx l),false),some (.int c,false),some (.int (gU (l.take n)),false),none,none,none,none,none,none]=some (.next [some (.str (tx l),false),some (.int c,false),some (.int (gU (l.take n)),false),some (.str (tx (l.drop m)),false),none,none,none,none,none]):=by
  rw[cO,sl3];rfl
 rw[run,gQ,cW h1,cW h2,cW h3,rd (by rw[aP];omega) fun c h=>hc c (br h),e4];rfl
noncomputable def l8 (o:Option (Int×List (Int×Int))):Vl:=match o with
 |some p=>(cK p.1 p.2,false)
 |none=>(.list [.bool true,.bool true,.bool false],true)
theorem my {l:List Nat}(hl:l.length<=600)(hc:∀c∈l,c<1114112):d0 [.str (tx l)]=some (l8 (iX l)):=by
 have run:d0 [.str (tx l)]=(gi [some (.str (tx l),false),none]).bind d7:=rfl;rw[run,gi,rY];show (((d6 [.str (tx l)]).bind _).bind d7)=_;rw[ly hl hc,qo,qm];cases iX l with
 |none=>rfl
 |some p=>rfl
end Lw
namespace Lw
open PySem DL
open PySem.Builtin.Str (glued tooLong)
noncomputable def gI (p:Int×Int):List Nat:=[48+p.1.toNat,62,48+p.2.toNat]
noncomputable def dH (k:Int)(ar:List (Int×Int)):List Nat:=(48+k.toNat)::58::ar.flatMap fun p=>32::gI p
theorem lb {i:Int}(h0:0<=i)(h4:i<=4):Str.ofString (toString i)=tx [48+i.toNat]:=by
 have:i=0\/i=1\/i=2\/i=3\/i=4:=by omega
 rcases this with rfl|rfl|rfl|rfl|rfl <;> decide +kernel
theorem qh {i:Int}(h0:0<=i)(h4:i<=4):i.natAbs<2 ^ 1000:=ao (show i.natAbs<5 by omega) (by decide +kernel)
theorem iz {i:Int}(h0:0<=i)(h4:i<=4):fQ (.int i)=some (.str (tx [48+i.toNat]),false):=by
 unfold fQ;dsimp only;rw[if_pos (qh h0 h4),lb h0 h4]
theorem g5 {a b:List Nat}(h:a.length+b.length<=1000000):cS (.str (tx a)) (.str (tx b))=some (.str (tx (a++b)),false):=by
 unfold cS;dsimp only;rw[if_pos (by rw[dn,dn];exact jA h),j5]
theorem sW {a b:Int}(a0:0<=a)(a4:a<=4)(b0:0<=b)(b4:b<=4):dY [some (.int a,false),some (.int b,false)]=some (.str (tx (gI (a,b))),false):=by
 have e2:jI (cE 1) jS [some (.int a,false),some (.int b,false)]=some [tx [48+b.toNat]]:=by
  show (if b.natAbs<2 ^ 1000 then some [Str.ofString (toString b)] else none)=_;rw[if_pos (qh b0 b4),lb b0 b4]
 have e1:jI (cE 0) (jC ">" (jI (cE 1) jS)) [some (.int a,false),some (.int b,false)]=some [tx [48+a.toNat],tx [62],tx [48+b.toNat]]:=by
  rw[jI];show (if a.natAbs<2 ^ 1000 then Option.map (fun zs=>Str.ofString (toString a)::zs) ((jI (cE 1) jS [some (.int a,false),some (.int b,false)]).map fun zs=>Str.ofString ">" :: zs) else none)=_;rw[if_pos (qh a0 a4),lb a0 a4,e2,lq];rfl
 unfold dY dJ;rw[e1,aa];have c:(Str.empty++ft [tx [48+a.toNat],tx [62],tx [48+b.toNat]])=tx (gI (a,b)):=by
  unfold ft ft ft ft;rw[show (Str.empty:Str)=tx [] from rfl,j5,j5,j5,j5];rfl
 rw[c,if_pos (by rw[dn];exact jA (by show 3<=1000000;decide))]
theorem jB:∀ws:List (List Nat),gq (ws.map fun w=>.str (tx w))=some (ws.map tx)
 |[]=>rfl
 | w::ws=>by
  rw[aD,gq,jB ws];rfl
theorem oq:∀(ws:List (List Nat)) (l:List Nat),(ws.map tx).foldl (fun acc p=>acc++#[32]++p.cps) l.toArray=(l++ws.flatMap fun w=>32::w).toArray
 |[],l=>by simp
 | w::ws,l=>by
  rw[aD,List.foldl_cons,show (l.toArray++#[32]++(tx w).cps)=(l++32::w).toArray by simp[tx],oq ws,bp,aQ]
noncomputable def iB:List (List Nat)->List Nat
 |[]=>[]
 |w::ws=>w++ws.flatMap fun w=>32::w
theorem sO:∀ws:List (List Nat),Txt.join ⟨#[32]⟩ (ws.map tx)=tx (iB ws)
 |[]=>rfl
 | w::ws=>by
  show glued ⟨#[32]⟩ (tx w::ws.map tx)=_;rw[pE];show (⟨(ws.map tx).foldl (fun acc p=>acc++#[32]++p.cps) w.toArray⟩:Str)=_;rw[oq];rfl
theorem mz {B:Nat}:∀(ws:List (List Nat)) (n:Nat),(∀w∈ws,w.length<=B)->(ws.map tx).foldl (fun a b=>a+b.length+1) n<=n+ws.length*(B+1)
 |[],n,_=>by simp
 | w::ws,n,h=>by
  have hw:=h w (by simp);have ih:=mz ws (n+(tx w).length+1) fun v hv=>h v (by simp[hv]);rw[dn] at ih;rw[aD,List.foldl_cons,ai,Nat.add_mul,dn];omega
theorem mr {B:Nat}{ws:List (List Nat)}(h:∀w∈ws,w.length<=B)(hb:ws.length*(B+1)<=1000000):i9 (.str ⟨#[32]⟩) (.list (ws.map fun w=>.str (tx w)))=some (.str (tx (iB ws)),false):=by
 have ok:JoinOk ⟨#[32]⟩ (ws.map tx)=true:=by
  unfold JoinOk;have:=mz ws 0 h;have e:(ws.map tx).toArray.foldl (fun a b=>a+b.length+(⟨#[32]⟩:Str).length) 0=(ws.map tx).foldl (fun a b=>a+b.length+1) 0:=by
   rw[List.foldl_toArray];rfl
  rw[e];unfold tooLong;have hz:(ws.map tx).foldl (fun a b=>a+b.length+1) 0<=sizeLine:=jA ⋯;simp;omega
 unfold i9;dsimp only;rw[jB,aa,if_pos ok,sO]
theorem kr {k:Int}{ar:List (Int×Int)}(w:Wf k ar)(hk:k<=4)(ha:ar.length<=5):dz [cK k ar]=some (.str (tx (dH k ar)),false):=by
 have run:dz [cK k ar]=(eS [some (cK k ar,false)]).bind d7:=rfl;have lo:=w.lo;generalize hρ:([some (cK k ar,false)]:Sl)=ρ at run;have i0:(d2 eh (bW 0) (cf (dC (.int 0)))) ρ=some (.int k,false):=by rw[<-hρ];simp[d2,bW,cf,dC,cK,eh,mW,qR]
 have i1:(d2 eh (bW 0) (cf (dC (.int 1)))) ρ=some (.tuple (ar.map cP),false):=by rw[<-hρ];simp[d2,bW,cf,dC,cK,eh,mW,qR]
 have hd:(d2 cS (cf (d1 fQ (cf (d2 eh (bW 0) (cf (dC (.int 0))))))) (cf (dC (.str ":")))) ρ=some (.str (tx [48+k.toNat,58]),false):=by
  have e1:(d1 fQ (cf (d2 eh (bW 0) (cf (dC (.int 0)))))) ρ=some (.str (tx [48+k.toNat]),false):=by
   rw[d1,cf,i0];exact iz ⋯ hk
  rw[jm,d2,cf,e1];show cS (.str (tx [48+k.toNat])) (.str (tx [58]))=_;rw[g5 (by simp)];rfl
 have cm:=kM (it:=eu (kj (d2 eh (bW 0) (cf (dC (.int 1)))))) (n:=2) (ix:=[]) (g:=gT [gN 0,gN 1]) (e:=dY) (ρ:=ρ) (d:=cP) (β:=fun p=>.str (tx (gI p))) ar (by rw[eu,kj,i1];rfl) ⋯ (fun p hp=>by
  obtain⟨a,b⟩:=p;have:=w.ok _ hp;dsimp only at this;exact⟨[some (.int a,false),some (.int b,false)],false,rfl,sW ⋯ ⋯ ⋯ ⋯⟩)
 have ls:(fM (bY (d2 cS (cf (d1 fQ (cf (d2 eh (bW 0) (cf (dC (.int 0))))))) (cf (dC (.str ":")))) cJ)) ρ=some (.list [.str (tx [48+k.toNat,58])],true):=by
  rw[fM,bY,hd];rfl
 have ct:(d2 jh (cf (fM (bY (d2 cS (cf (d1 fQ (cf (d2 eh (bW 0) (cf (dC (.int 0))))))) (cf (dC (.str ":")))) cJ))) (cf (gD (eu (kj (d2 eh (bW 0) (cf (dC (.int 1)))))) 2 [] (gT [(gN 0),(gN 1)]) gS dY))) ρ=some (.list (([48+k.toNat,58]::ar.map gI).map fun w=>.str (tx w)),true):=by
  rw[d2,cf,ls,ae,aa,cf,cm,ae,aa];unfold jh;dsimp only;rw[if_pos (by rw[az];exact jA (by simp;omega)),aD,List.map_map];rfl
 have jn:=mr (B:=3) (ws:=[48+k.toNat,58]::ar.map gI) (fun w hw=>by
  rcases ay.mp hw with h|h
  ·rw[h];simp
  ·obtain⟨p,_,rfl⟩:=bR.mp h;simp[gI]) (by rw[ai,az];omega)
 rw[run,eS,cU,fY,d2,cf,dC,ae,aa,cf,ct,ae,aa,jn];show some ((PyData.str (tx (iB ([48+k.toNat,58]::ar.map gI))),false):Vl)=_;rw[iB,List.flatMap_map];rfl
theorem qi {k:Int}{ar:List (Int×Int)}(w:Wf k ar)(hk:k<=4)(ha:ar.length<=5):(dH k ar).length<=22/\∀c∈dH k ar,c<1114112:=by
 have lo:=w.lo;have go:∀ar:List (Int×Int),(∀p∈ar,0<=p.1/\p.1<p.2/\p.2<k)->(ar.flatMap fun p=>32::gI p).length=4*ar.length/\∀c∈(ar.flatMap fun p=>32::gI p),c<1114112:=by
  intro ar;induction ar with
  |nil=>exact fun _=>⟨rfl,fun c h=>nomatch h⟩
  |cons p ar ih =>
   intro h;have i:=ih fun q hq=>h q (by simp[hq]);have hp:=h p (by simp);refine⟨by rw[bp,au,i.1,ai];simp[gI];omega,fun c hc=>?_⟩;rw[bp] at hc;rcases aG.mp hc with z|z
   ·simp[gI] at z;omega
   ·exact i.2 c z
 have g:=go ar w.ok;refine⟨by unfold dH;rw[ai,ai,g.1];omega,fun c hc=>?_⟩;unfold dH at hc;rcases ay.mp hc with z|z
 ·omega
 ·rcases ay.mp z with z|z
  ·omega
  ·exact g.2 c z
end Lw
namespace Lw
open PySem DL
open PySem.Builtin.Str (strSliceIndices)
theorem pe (l:List Nat)(n:Nat):Txt.slice (tx l) (some (n:Int)) none=tx (l.drop n):=by
 by_cases h:n<=l.length
 ·exact fU l h
 ·have e:strSliceIndices (some (n:Int)) none 1 (tx l).length=strSliceIndices (some ((l.length:Nat):Int)) none 1 (tx l).length:=by
   have a:¬((n:Int)<0):=by omega
   have b:¬(((l.length:Nat):Int)<0):=by omega
   have c:min (n:Int) ((l.length:Nat):Int)=((l.length:Nat):Int):=by omega
   rw[dn];unfold strSliceIndices;have p:(1:Int)>0:=by decide
   simp only[if_neg a,if_neg b,if_pos p,c,Int.min_self]
  have s:=fU l (aq _);rw[eU] at s ⊢;unfold StrLaws.sliceText at s ⊢;rw[e,s,bP,List.drop_eq_nil_of_le ⋯]
theorem ti {l:List Nat}{n:Nat}(h:n<=l.length)(hz:l.length<=1000000):iL (.str (tx l)) none (some (n:Int))=some (.str (tx (l.take n)),false):=by
 unfold iL;dsimp only;rw[if_pos (by rw[dn];exact jA hz),jD l h]
theorem kN {l:List Nat}{n:Nat}(hz:l.length<=1000000):iL (.str (tx l)) (some (n:Int)) none=some (.str (tx (l.drop n)),false):=by
 unfold iL;dsimp only;rw[if_pos (by rw[dn];exact jA hz),pe l n]
theorem qv {j:Int}(h0:0<=j)(h1:j<19):∃c,c<1114112/\fZ (.str "0123456789 :>-+_.a\t") (.int j)=some (.str ⟨#[c]⟩,false):=by
 have e:(("0123456789 :>-+_.a\t" : Str))=tx [48,49,50,51,52,53,54,55,56,57,32,58,62,45,43,95,46,97,9]:=by decide +kernel
 rw[e];obtain⟨n,rfl⟩:∃n:Nat,j=n:=⟨j.toNat,by omega⟩;have hn:n<([48,49,50,51,52,53,54,55,56,57,32,58,62,45,43,95,46,97,9]:List Nat).length:=by show n<19;omega
 generalize hL:([48,49,50,51,52,53,54,55,56,57,32,58,62,45,43,95,46,97,9]:List Nat)=L at hn ⊢;refine⟨L[n],?_,?_⟩
 ·have:∀c∈L,c<1114112:=by rw[<-hL];decide
  exact this _ (List.getElem_mem hn)
 ·unfold fZ;dsimp only;rw[if_pos (by rw[dn,<-hL];exact jA (by decide))];unfold L2.atI L2.ixN;have z1:(0:Int)<=(n:Int):=by omega
  have z2:(n:Int)<(L.length:Int):=by omega
  simp[tx,hn,z1,z2]
def i5 (l:List Nat):Prop:=l.length<=600/\∀c∈l,c<1114112
theorem qP {B n:Nat}(hB:n*(B+1)<=600):∀{ws:List (List Nat)},ws.length<=n->(∀w∈ws,w.length<=B/\∀c∈w,c<1114112)->i5 (iB ws):=by
 intro ws hn h;have go:∀ws:List (List Nat),(∀w∈ws,w.length<=B/\∀c∈w,c<1114112)->(ws.flatMap fun w=>32::w).length<=ws.length*(B+1)/\∀c∈(ws.flatMap fun w=>32::w),c<1114112:=by
  intro ws;induction ws with
  |nil=>exact fun _=>⟨bf _,fun c h=>nomatch h⟩
  |cons w ws ih =>
   intro h;have i:=ih fun v hv=>h v (by simp[hv]);have hw:=h w (by simp);refine⟨by rw[bp,au,ai,ai,Nat.add_mul];omega,fun c hc=>?_⟩;rw[bp] at hc;rcases aG.mp hc with z|z
   ·rcases ay.mp z with z|z
    ·omega
    ·exact hw.2 c z
   ·exact i.2 c z
 match ws with
 |[]=>exact⟨bf _,fun c h=>nomatch h⟩
 |w::ws =>
  have hw:=h w (by simp);have g:=go ws fun v hv=>h v (by simp[hv]);refine⟨?_,fun c hc=>?_⟩
  ·rw[iB,au];rw[ai] at hn;have:(ws.length+1)*(B+1)<=n*(B+1):=Nat.mul_le_mul_right _ hn;rw[Nat.add_mul] at this;omega
  ·rw[iB] at hc;rcases aG.mp hc with z|z
   ·exact hw.2 c z
   ·exact g.2 c z
end Lw
namespace Lw
open PySem DL
theorem tj {xs:List D}{n:Nat}(h:n<=xs.length):nO (.list xs) none (some (n:Int))=some (.list (xs.take n),true):=by
 unfold nO lW lx;dsimp only;rw[if_neg ⋯,Int.toNat_natCast,Nat.min_eq_left h];rfl
theorem pM {xs:List D}{n:Nat}(h:n<=xs.length):nO (.list xs) (some (n:Int)) none=some (.list (xs.drop n),true):=by
 unfold nO lW lx;dsimp only;rw[if_neg ⋯,Int.toNat_natCast,Nat.min_eq_left h,<-aP,bK]
theorem jy {l r:List Nat}(h:l.length<=22/\∀c∈l,c<1114112)(hr:r.length<=600)(hs:∀c∈r,c∈l\/c<1114112):i5 r:=⟨hr,fun c hc=>by
 rcases hs c hc with z|z
 ·exact h.2 c z
 ·exact z⟩
theorem m7 {l:List Nat}{m c:Int}(h:l.length<=22/\∀c∈l,c<1114112)(hc:0<=c):∃r,dm [.str (tx l),.int m,.int c]=some (.str (tx r),false)/\i5 r:=by
 have run:dm [.str (tx l),.int m,.int c]=(eE [some (.str (tx l),false),some (.int m,false),some (.int c,false),none,none,none,none]).bind d7:=rfl;obtain⟨n,hn⟩:∃n:Nat,c%((l.length:Int)+1)=(n:Int):=⟨(c%((l.length:Int)+1)).toNat,by have:=aY c (show (l.length:Int)+1≠0 by omega);omega⟩;have nl:n<=l.length:=by have:=aW c (show 0<(l.length:Int)+1 by omega);omega
 obtain⟨g,hg,eg⟩:=qv (j:=c/4096%19) (aY _ (by decide)) (aW _ (by decide));have lz:l.length<=1000000:=by omega
 have h3:(cO 3 (d2 dW (bW 2) (cf (d2 cS (cf (d1 eN (bW 0))) (cf (dC (.int 1))))))) [some (.str (tx l),false),some (.int m,false),some (.int c,false),none,none,none,none]=some (.next [some (.str (tx l),false),some (.int m,false),some (.int c,false),some (.int (n:Int),false),none,none,none]):=by
  have ll:=qI (l:=l) ⋯;have q:(d1 eN (bW 0)) [some (.str (tx l),false),some (.int m,false),some (.int c,false),none,none,none,none]=some (.int (l.length:Int),false):=ll;have q2:(d2 cS (cf (d1 eN (bW 0))) (cf (dC (.int 1)))) [some (.str (tx l),false),some (.int m,false),some (.int c,false),none,none,none,none]=some (.int ((l.length:Int)+1),false):=by
   rw[d2,cf,q];rfl
  rw[cO,d2,show bW 2 [some (.str (tx l),false),some (.int m,false),some (.int c,false),none,none,none,none]=some (.int c) from rfl,aa,cf,q2,ae,aa,dh ⋯,hn];rfl
 have h4:(cO 4 (d2 fZ (cf (dC (.str "0123456789 :>-+_.a\t"))) (cf (d2 dW (cf (d2 ia (bW 2) (cf (dC (.int 4096))))) (cf (dC (.int 19))))))) [some (.str (tx l),false),some (.int m,false),some (.int c,false),some (.int (n:Int),false),none,none,none]=some (.next [some (.str (tx l),false),some (.int m,false),some (.int c,false),some (.int (n:Int),false),some (.str (tx [g]),false),none,none]):=by
  have q:(d2 dW (cf (d2 ia (bW 2) (cf (dC (.int 4096))))) (cf (dC (.int 19)))) [some (.str (tx l),false),some (.int m,false),some (.int c,false),some (.int (n:Int),false),none,none,none]=some (.int (c/4096%19),false):=by
   simp[d2,cf,bW,dC,gv,dh]
  rw[cO,d2,cf,dC,ae,aa,cf,q,ae,aa,eg];rfl
 rw[run,eE,cW h3,cW h4];generalize hρ:([some (.str (tx l),false),some (.int m,false),some (.int c,false),some (.int (n:Int),false),some (.str (tx [g]),false),none,none]:Sl)=ρ;have v0:bW 0 ρ=some (.str (tx l)):=by rw[<-hρ];rfl
 have v1:bW 1 ρ=some (.int m):=by rw[<-hρ];rfl
 have v4:bW 4 ρ=some (.str (tx [g])):=by rw[<-hρ];rfl
 have d3:cE 3 ρ=some (.int (n:Int),false):=by rw[<-hρ];rfl
 have b3:bW 3 ρ=some (.int (n:Int)):=by rw[<-hρ];rfl
 have pa:(fm (cE 3)) ρ=some (some (n:Int)):=by rw[fm,d3];rfl
 have pb:(fm (d2 cS (bW 3) (cf (dC (.int 1))))) ρ=some (some ((n+1:Nat):Int)):=by rw[fm,d2,b3];rfl
 have sA:(dM (bW 0) fo (fm (cE 3))) ρ=some (.str (tx (l.take n)),false):=by
  rw[dM,v0,aa,fo,aa,pa,aa,ti nl lz]
 have sB:(dM (bW 0) (fm (d2 cS (bW 3) (cf (dC (.int 1))))) fo) ρ=some (.str (tx (l.drop (n+1))),false):=by
  rw[dM,v0,aa,pb,aa,fo,aa,kN lz]
 have sC:(dM (bW 0) (fm (cE 3)) fo) ρ=some (.str (tx (l.drop n)),false):=by
  rw[dM,v0,aa,pa,aa,fo,aa,kN lz]
 have tm (j:Int) (ρ':Sl) (hv:bW 1 ρ'=some (.int m)):(cF (bW 1) [(g4,(cf (dC (.int j))))]) ρ'=some (decide (m=j)):=by
  rw[cF,hv];exact oR m j
 have tl:(l.take n).length<=22:=by rw[aZ];omega
 have tk:∀x∈l.take n,x∈l:=fun x hx=>List.mem_of_mem_take hx;by_cases m1:m=1
 ·have e:(d2 cS (cf (dM (bW 0) fo (fm (cE 3)))) (cf (dM (bW 0) (fm (d2 cS (bW 3) (cf (dC (.int 1))))) fo))) ρ=some (.str (tx (l.take n++l.drop (n+1))),false):=by
   rw[d2,cf,sA,ae,aa,cf,sB,ae,aa,g5 (by rw[aP];omega)]
  refine⟨l.take n++l.drop (n+1),?_,jy h (by rw[au,aP];omega) fun x hx=>.inl ?_⟩
  ·rw[da (by rw[tm 1 ρ v1,decide_eq_true m1]) e];rfl
  ·rcases aG.mp hx with z|z
   ·exact tk x z
   ·exact br z
 rw[cQ (by rw[tm 1 ρ v1,decide_eq_false m1])];have sD:(d2 cS (cf (dM (bW 0) fo (fm (cE 3)))) (bW 4)) ρ=some (.str (tx (l.take n++[g])),false):=by
  rw[d2,cf,sA,ae,aa,v4,aa,g5 (by simp;omega)]
 have dl:(l.take n++[g]).length<=23:=by rw[au,aU];omega
 have dk:∀x∈l.take n++[g],x∈l\/x<1114112:=fun x hx=>by
  rcases aG.mp hx with z|z
  ·exact .inl (tk x z)
  ·cases aI.mp z;exact .inr hg
 by_cases m2:m=2
 ·have e:(d2 cS (cf (d2 cS (cf (dM (bW 0) fo (fm (cE 3)))) (bW 4))) (cf (dM (bW 0) (fm (cE 3)) fo))) ρ=some (.str (tx (l.take n++[g]++l.drop n)),false):=by
   rw[d2,cf,sD,ae,aa,cf,sC,ae,aa,g5 (by rw[aP];omega)]
  refine⟨l.take n++[g]++l.drop n,?_,jy h (by rw[au,aP];omega) fun x hx=>?_⟩
  ·rw[da (by rw[tm 2 ρ v1,decide_eq_true m2]) e];rfl
  ·rcases aG.mp hx with z|z
   ·exact dk x z
   ·exact .inl (br z)
 rw[cQ (by rw[tm 2 ρ v1,decide_eq_false m2])];by_cases m3:m=3
 ·have e:(d2 cS (cf (d2 cS (cf (dM (bW 0) fo (fm (cE 3)))) (bW 4))) (cf (dM (bW 0) (fm (d2 cS (bW 3) (cf (dC (.int 1))))) fo))) ρ=some (.str (tx (l.take n++[g]++l.drop (n+1))),false):=by
   rw[d2,cf,sD,ae,aa,cf,sB,ae,aa,g5 (by rw[aP];omega)]
  refine⟨l.take n++[g]++l.drop (n+1),?_,jy h (by rw[au,aP];omega) fun x hx=>?_⟩
  ·rw[da (by rw[tm 3 ρ v1,decide_eq_true m3]) e];rfl
  ·rcases aG.mp hx with z|z
   ·exact dk x z
   ·exact .inl (br z)
 rw[cQ (by rw[tm 3 ρ v1,decide_eq_false m3])];have sp:=iu (l:=l) (c:=32) (by decide) ⋯;have cl:=gE 32 l;have cs:∀w∈cV 32 l,w.length<=22/\∀c∈w,c<1114112:=fun w hw=>by
  have:=dD hw;exact⟨by omega,fun c hx=>h.2 c (this.2 c hx)⟩
 have cp:0<(cV 32 l).length:=by obtain⟨w,ws,e⟩:=eF 32 l;rw[e];simp
 generalize cV 32 l=W at sp cl cs cp;obtain⟨s,hs⟩:∃s:Nat,c%(W.length:Int)=(s:Int):=⟨(c%(W.length:Int)).toNat,by have:=aY c (show (W.length:Int)≠0 by omega);omega⟩;have sl:s<W.length:=by have:=aW c (show 0<(W.length:Int) by omega);omega
 have h5:(cO 5 (d2 dv (bW 0) (cf (dC (.str " "))))) ρ=some (.next (ρ.set 5 (some (.list (W.map fun w=>.str (tx w)),true)))):=by
  rw[fY,cO,d2,v0,aa,cf,dC,ae,aa,sp];rfl
 have h6:(cO 6 (d2 dW (bW 2) (cf (d1 eY (bW 5))))) (ρ.set 5 (some (.list (W.map fun w=>.str (tx w)),true)))=some (.next [some (.str (tx l),false),some (.int m,false),some (.int c,false),some (.int (n:Int),false),some (.str (tx [g]),false),some (.list (W.map fun w=>.str (tx w)),true),some (.int (s:Int),false)]):=by
  rw[<-hρ];have ln:(d1 eY (bW 5)) (([some (.str (tx l),false),some (.int m,false),some (.int c,false),some (.int (n:Int),false),some (.str (tx [g]),false),none,none]:Sl).set 5 (some (.list (W.map fun w=>.str (tx w)),true)))=some (.int (W.length:Int),false):=by
   show some ((PyData.int (((W.map fun w=>PyData.str (tx w)).length:Nat):Int),false):Vl)=_;rw[az]
  rw[cO,d2,show bW 2 (([some (.str (tx l),false),some (.int m,false),some (.int c,false),some (.int (n:Int),false),some (.str (tx [g]),false),none,none]:Sl).set 5 (some (.list (W.map fun w=>.str (tx w)),true)))=some (.int c) from rfl,aa,cf,ln,ae,aa,dh ⋯,hs];rfl
 rw[cW h5,cW h6];clear h5 h6;generalize hτ:([some (.str (tx l),false),some (.int m,false),some (.int c,false),some (.int (n:Int),false),some (.str (tx [g]),false),some (.list (W.map fun w=>.str (tx w)),true),some (.int (s:Int),false)]:Sl)=τ;have u1:bW 1 τ=some (.int m):=by rw[<-hτ];rfl
 have u5:bW 5 τ=some (.list (W.map fun w=>.str (tx w))):=by rw[<-hτ];rfl
 have p6:(fm (cE 6)) τ=some (some (s:Int)):=by rw[<-hτ];rfl
 have p7:(fm (d2 cS (bW 6) (cf (dC (.int 1))))) τ=some (some ((s+1:Nat):Int)):=by rw[<-hτ];rfl
 have jn (A B:List (List Nat)) (ha:∀w∈A,w∈W) (hb:∀w∈B,w∈W) (hn:A.length+B.length<=24) {f f':ED} (ea:f τ=some (.list (A.map fun w=>.str (tx w)),true)) (eb:f' τ=some (.list (B.map fun w=>.str (tx w)),true)):(d2 i9 (cf (dC (.str " "))) (cf (d2 jh (cf f) (cf f')))) τ=some (.str (tx (iB (A++B))),false)/\i5 (iB (A++B)):=by
  have ab:∀w∈A++B,w.length<=22/\∀c∈w,c<1114112:=fun w hw=>by
   rcases aG.mp hw with z|z
   ·exact cs w (ha w z)
   ·exact cs w (hb w z)
  have ln:(A++B).length<=24:=by rw[au];exact hn
  refine⟨?_,qP (B:=22) (n:=24) (by decide) ln ab⟩;have ct:(d2 jh (cf f) (cf f')) τ=some (.list ((A++B).map fun w=>.str (tx w)),true):=by
   rw[d2,cf,ea,ae,aa,cf,eb,ae,aa];unfold jh;dsimp only;rw[if_pos (by rw[az,az];exact jA ⋯),List.map_append]
  rw[fY,d2,cf,dC,ae,aa,cf,ct,ae,aa,mr (B:=22) (fun w hw=>(ab w hw).1) ⋯]
 have wt (k:Nat):∀w∈W.take k,w∈W:=fun w hw=>List.mem_of_mem_take hw;have wd (k:Nat):∀w∈W.drop k,w∈W:=fun w hw=>br hw;have cu {k:Nat}{p:PD} (hk:k<=W.length) (hp:p τ=some (some (k:Int))):(oJ (bW 5) fo p) τ=some (.list ((W.take k).map fun w=>.str (tx w)),true)/\(oJ (bW 5) p fo) τ=some (.list ((W.drop k).map fun w=>.str (tx w)),true):=by
  refine⟨?_,?_⟩
  ·rw[oJ,u5,aa,fo,aa,hp,aa,tj (by rw[az];exact hk),List.map_take]
  ·rw[oJ,u5,aa,hp,aa,fo,aa,pM (by rw[az];exact hk),List.map_drop]
 by_cases m4:m=4
 ·obtain⟨e,ok⟩:=jn (W.take s) (W.drop (s+1)) (wt s) (wd _) (by rw[aZ,aP];omega) (cu ⋯ p6).1 (cu ⋯ p7).2;refine⟨_,?_,ok⟩;rw[da (by rw[tm 4 τ u1,decide_eq_true m4]) e];rfl
 rw[cQ (by rw[tm 4 τ u1,decide_eq_false m4])];by_cases m5:m=5
 ·obtain⟨e,ok⟩:=jn (W.take (s+1)) (W.drop s) (wt _) (wd _) (by rw[aZ,aP];omega) (cu ⋯ p7).1 (cu ⋯ p6).2;refine⟨_,?_,ok⟩;rw[da (by rw[tm 5 τ u1,decide_eq_true m5]) e];rfl
 rw[cQ (by rw[tm 5 τ u1,decide_eq_false m5])];refine⟨l,?_,by omega,h.2⟩;rw[<-hτ];rfl
end Lw
namespace Lw
open PySem DL
noncomputable def jf:List Str:=(["", " ", ":", "1", "1: ", " 1:", "01:", "0:", "5:", "2: 1>0", "2: 0>1>0"]:List Str)++(["2: 0 > 1", "2:0>1", "2: 00>1"]:List Str)
theorem qu:∀z∈jf,z.cps.toList.length<=600/\∀c∈z.cps.toList,c<1114112:=by decide +kernel
theorem ue {c:Int}:∃r,eB [.int c]=some (.str (tx r),false)/\i5 r:=by
 have run:eB [.int c]=(gP [some (.int c,false),none]).bind d7:=rfl;have h1:(rZ 1 (cO 1 (fM (kL ["", " ", ":", "1", "1: ", " 1:", "01:", "0:", "5:", "2: 1>0", "2: 0>1>0"])))) [some (.int c,false),none]=some (.next [some (.int c,false),some (.list ((["", " ", ":", "1", "1: ", " 1:", "01:", "0:", "5:", "2: 1>0", "2: 0>1>0"]:List Str).map .str),false)]):=rfl;obtain⟨n,hn⟩:∃n:Nat,c%14=(n:Int):=⟨(c%14).toNat,by have:=aY c (show (14:Int)≠0 by decide);omega⟩;have nl:n<14:=by have:=aW c (show (0:Int)<14 by decide);omega
 have ll:n<jf.length:=nl;refine⟨(jf[n]).cps.toList,?_,qu _ (List.getElem_mem ll)⟩;rw[run,gP,cW h1];have ct:(d2 jh (bW 1) (cf (fM (bY (dC (.str "2: 0 > 1")) (bY (dC (.str "2:0>1")) (bY (dC (.str "2: 00>1")) cJ)))))) [some (.int c,false),some (.list ((["", " ", ":", "1", "1: ", " 1:", "01:", "0:", "5:", "2: 1>0", "2: 0>1>0"]:List Str).map .str),false)]=some (.list (jf.map .str),true):=rfl;rw[cU,d2,cf,ct,ae,aa];show ((((dW (.int c) (.int 14)).map _).bind _).map _).bind d7=_;rw[dh (by decide),hn];have a:eh (.list (jf.map .str)) (.int (n:Int))=some (.str jf[n],false):=by
  unfold eh;dsimp only;rw[oS (xs:=jf.map .str) (k:=n) (d:=.str jf[n]) (by rw[aH,bx ll];rfl)];rfl
 show ((eh (.list (jf.map .str)) (.int (n:Int))).map Fl.ret).bind d7=_;rw[a];show some ((PyData.str jf[n],false):Vl)=_;have:tx (jf[n]).cps.toList=jf[n]:=by unfold tx;rw[Array.toArray_toList]
 rw[this]
theorem sH {s0 s1 s5 s6 s7 s8:Option Vl}{t:List Nat}{a b:Int}(ht:t.length<=1000)(a0:0<=a)(a4:a<=4)(b0:0<=b)(b4:b<=4):j3 [s0,s1,some (.str (tx t),false),some (.int a,false),some (.int b,false),s5,s6,s7,s8]=some (.next [s0,s1,some (.str (tx (t++32::gI (a,b))),false),some (.int a,false),some (.int b,false),s5,s6,s7,s8]):=by
 generalize hρ:([s0,s1,some (.str (tx t),false),some (.int a,false),some (.int b,false),s5,s6,s7,s8]:Sl)=ρ;have v2:bW 2 ρ=some (.str (tx t)):=by rw[<-hρ];rfl
 have v3:(d1 fQ (bW 3)) ρ=some (.str (tx [48+a.toNat]),false):=by rw[<-hρ];exact iz a0 a4
 have v4:(d1 fQ (bW 4)) ρ=some (.str (tx [48+b.toNat]),false):=by rw[<-hρ];exact iz b0 b4
 have e:(d2 cS (cf (d2 cS (cf (d2 cS (cf (d2 cS (bW 2) (cf (dC (.str " "))))) (cf (d1 fQ (bW 3))))) (cf (dC (.str ">"))))) (cf (d1 fQ (bW 4)))) ρ=some (.str (tx (t++[32]++[48+a.toNat]++[62]++[48+b.toNat])),false):=by
  have q1:(d2 cS (bW 2) (cf (dC (.str " ")))) ρ=some (.str (tx (t++[32])),false):=by
   rw[fY,d2,v2,aa];exact g5 (b:=[32]) (by simp;omega)
  have q2:(d2 cS (cf (d2 cS (bW 2) (cf (dC (.str " "))))) (cf (d1 fQ (bW 3)))) ρ=some (.str (tx (t++[32]++[48+a.toNat])),false):=by
   rw[d2,cf,q1,ae,aa,cf,v3,ae,aa];exact g5 (by simp;omega)
  have q3:(d2 cS (cf (d2 cS (cf (d2 cS (bW 2) (cf (dC (.str " "))))) (cf (d1 fQ (bW 3))))) (cf (dC (.str ">")))) ρ=some (.str (tx (t++[32]++[48+a.toNat]++[62])),false):=by
   rw[lq,d2,cf,q2,ae,aa];exact g5 (b:=[62]) (by simp;omega)
  rw[d2,cf,q3,ae,aa,cf,v4,ae,aa];exact g5 (by simp;omega)
 rw[j3,cO,e,<-hρ];show some (Fl.next [s0,s1,some (.str (tx (t++[32]++[48+a.toNat]++[62]++[48+b.toNat])),false),some (.int a,false),some (.int b,false),s5,s6,s7,s8])=_;simp[gI]
theorem kG {k:Int}(hk:k<=4){s0 s1 s5 s6 s7 s8:Option Vl}:∀(ar:List (Int×Int)) (t:List Nat) (s3 s4:Option Vl),(∀p∈ar,0<=p.1/\p.1<p.2/\p.2<k)->t.length+4*ar.length<=1000->∃s3' s4',fq (gT [gN 3,gN 4]) j3 (ar.map cP) [s0,s1,some (.str (tx t),false),s3,s4,s5,s6,s7,s8]=some (.next [s0,s1,some (.str (tx (t++ar.flatMap fun p=>32::gI p)),false),s3',s4',s5,s6,s7,s8])
 |[],t,s3,s4,_,_=>⟨s3,s4,by rw[List.flatMap_nil,aO];rfl⟩
 | (a,b)::ar,t,s3,s4,h,hl=>by
  have hp:=h (a,b) (by simp);dsimp only at hp;rw[ai] at hl;have one:=sH (s0:=s0) (s1:=s1) (s5:=s5) (s6:=s6) (s7:=s7) (s8:=s8) (t:=t) (a:=a) (b:=b) ⋯ ⋯ ⋯ ⋯ ⋯;obtain⟨s3',s4',ih⟩:=kG hk (s0:=s0) (s1:=s1) (s5:=s5) (s6:=s6) (s7:=s7) (s8:=s8) ar (t++32::gI (a,b)) (some (.int a,false)) (some (.int b,false)) (fun p hp=>h p (by simp[hp])) (by rw[au];simp[gI];omega);refine⟨s3',s4',?_⟩;rw[aD,fq];simp only[cP,gT,jT,gN,bL,aa,one];rw[bp,<-aQ];exact ih
theorem sG {s0 s1 s2 s3 s4 s5 s6 s7:Option Vl}(p:Int×Int):nT [s0,s1,s2,s3,s4,s5,s6,s7,some (cP p,false)]=some (.next [s0,s1,s2,s3,s4,s5,s6,s7,some (cP p,false)]):=by
 obtain⟨a,b⟩:=p;rfl
theorem kF {s0 s1 s2 s3 s4 s5 s6 s7:Option Vl}:∀(ar:List (Int×Int)) (s8:Option Vl),∃s8',fq (gN 8) nT (ar.map cP) [s0,s1,s2,s3,s4,s5,s6,s7,s8]=some (.next [s0,s1,s2,s3,s4,s5,s6,s7,s8'])
 |[],s8=>⟨s8,rfl⟩
 | p::ar,s8=>by
  obtain⟨s8',ih⟩:=kF (s0:=s0) (s1:=s1) (s2:=s2) (s3:=s3) (s4:=s4) (s5:=s5) (s6:=s6) (s7:=s7) ar (some (cP p,false));refine⟨s8',?_⟩;rw[aD,fq];simp only[gN,bL,aa,sG];exact ih
theorem sv (k:Int)(ar:List (Int×Int)):Nb 3 (cK k ar):=.tuple (.cons (.int 2 _) (.cons (.tuple (su (f:=cP) (fun p=>.tuple (.cons (.int 0 _) (.cons (.int 0 _) .nil))) ar)) .nil))
theorem law_true (ns:List Int)(_:ns.length<=63):F_law [.list (ns.map .int)]=some (.bool true,false):=by
 obtain⟨k,ar,ef,wf,hk,ha⟩:=sU ns 0 (most:=4) (many:=5) (by decide) (by decide) (by decide) (by decide);have ef':dw [.list (ns.map .int),.int 0,.int 4,.int 5]=some (cK k ar,false):=ef;have lo:=wf.lo;have c3:cy [.list (ns.map .int),.int 3]=some (.int (cell ns 3),false):=iQ ns 3;have c4:cy [.list (ns.map .int),.int 4]=some (.int (cell ns 4),false):=iQ ns 4;have fs:=kr wf hk ⋯;have sk:=qi wf hk ⋯;have run:F_law [.list (ns.map .int)]=(oI [some (.list (ns.map .int),false),none,none,none,none,none,none,none,none]).bind d7:=rfl;have h1:(cO 1 (cC dw (bY (cE 0) (bY (dC (.int 0)) (bY (dC (.int 4)) (bY (dC (.int 5)) cJ)))))) [some (.list (ns.map .int),false),none,none,none,none,none,none,none,none]=some (.next [some (.list (ns.map .int),false),some (cK k ar,false),none,none,none,none,none,none,none]):=by
  show (dw [.list (ns.map .int),.int 0,.int 4,.int 5]).bind _=_;rw[ef'];rfl
 have h2:(cO 2 (d2 cS (cf (d1 fQ (cf (d2 eh (bW 1) (cf (dC (.int 0))))))) (cf (dC (.str ":"))))) [some (.list (ns.map .int),false),some (cK k ar,false),none,none,none,none,none,none,none]=some (.next [some (.list (ns.map .int),false),some (cK k ar,false),some (.str (tx [48+k.toNat,58]),false),none,none,none,none,none,none]):=by
  have i0:(d1 fQ (cf (d2 eh (bW 1) (cf (dC (.int 0)))))) [some (.list (ns.map .int),false),some (cK k ar,false),none,none,none,none,none,none,none]=some (.str (tx [48+k.toNat]),false):=iz ⋯ hk;rw[jm,cO,d2,cf,i0];show (cS (.str (tx [48+k.toNat])) (.str (tx [58]))).bind _=_;rw[g5 (by simp)];rfl
 obtain⟨s3,s4,lp⟩:=kG hk (s0:=some (.list (ns.map .int),false)) (s1:=some (cK k ar,false)) (s5:=none) (s6:=none) (s7:=none) (s8:=none) ar [48+k.toNat,58] none none wf.ok (by simp;omega);have h3:(fP (eu (kj (d2 eh (bW 1) (cf (dC (.int 1)))))) (gT [(gN 3),(gN 4)]) j3) [some (.list (ns.map .int),false),some (cK k ar,false),some (.str (tx [48+k.toNat,58]),false),none,none,none,none,none,none]=some (.next [some (.list (ns.map .int),false),some (cK k ar,false),some (.str (tx (dH k ar)),false),s3,s4,none,none,none,none]):=by
  rw[jo (ds:=ar.map cP) (by simp[eu,kj,d2,bW,cf,dC,cK,eh,mW,qR,gL]),lp];rfl
 have h5:(cO 5 (cC dz (bY (cE 1) cJ))) [some (.list (ns.map .int),false),some (cK k ar,false),some (.str (tx (dH k ar)),false),s3,s4,none,none,none,none]=some (.next [some (.list (ns.map .int),false),some (cK k ar,false),some (.str (tx (dH k ar)),false),s3,s4,some (.str (tx (dH k ar)),false),none,none,none]):=by
  show (dz [cK k ar]).bind _=_;rw[fs];rfl
 have t5:(ir (dP (k9 (d1 (lI "str") (bW 5)))) (cF (bW 5) [(i4,(bW 2))])) [some (.list (ns.map .int),false),some (cK k ar,false),some (.str (tx (dH k ar)),false),s3,s4,some (.str (tx (dH k ar)),false),none,none,none]=some false:=by
  show i4 (.str (tx (dH k ar))) (.str (tx (dH k ar)))=some false;rw[jO sk.2 sk.2];simp
 rw[run,oI,cW h1,cW h2,cW h3,cW h5,cQ t5];clear h1 h2 h3 h5 t5 lp run;obtain⟨r,er,rok⟩:=m7 (l:=dH k ar) (m:=cell ns 3%8) (c:=cell ns 4%10 ^ 9) sk (aY _ (by decide));generalize hT:some (PyData.str (tx (dH k ar)),false)=T at *;have p9:(d2 lG (cf (dC (.int 10))) (cf (dC (.int 9)))) [some (.list (ns.map .int),false),some (cK k ar,false),T,s3,s4,T,none,none,none]=some (.int (10 ^ 9),false):=by simp[d2,cf,dC,qz]
 have h6:(cO 2 (cC dm (bY (cE 2) (bY (d2 dW (cf (cC cy (bY (cE 0) (bY (dC (.int 3)) cJ)))) (cf (dC (.int 8)))) (bY (d2 dW (cf (cC cy (bY (cE 0) (bY (dC (.int 4)) cJ)))) (cf (d2 lG (cf (dC (.int 10))) (cf (dC (.int 9)))))) cJ))))) [some (.list (ns.map .int),false),some (cK k ar,false),T,s3,s4,T,none,none,none]=some (.next [some (.list (ns.map .int),false),some (cK k ar,false),some (.str (tx r),false),s3,s4,T,none,none,none]):=by
  have a3:(cC cy (bY (cE 0) (bY (dC (.int 3)) cJ))) [some (.list (ns.map .int),false),some (cK k ar,false),T,s3,s4,T,none,none,none]=some (.int (cell ns 3),false):=c3;have a4:(cC cy (bY (cE 0) (bY (dC (.int 4)) cJ))) [some (.list (ns.map .int),false),some (cK k ar,false),T,s3,s4,T,none,none,none]=some (.int (cell ns 4),false):=c4;have q3:(d2 dW (cf (cC cy (bY (cE 0) (bY (dC (.int 3)) cJ)))) (cf (dC (.int 8)))) [some (.list (ns.map .int),false),some (cK k ar,false),T,s3,s4,T,none,none,none]=some (.int (cell ns 3%8),false):=by
   rw[d2,cf,a3];exact dh (i:=cell ns 3) (j:=8) (by decide)
  have q4:(d2 dW (cf (cC cy (bY (cE 0) (bY (dC (.int 4)) cJ)))) (cf (d2 lG (cf (dC (.int 10))) (cf (dC (.int 9)))))) [some (.list (ns.map .int),false),some (cK k ar,false),T,s3,s4,T,none,none,none]=some (.int (cell ns 4%10 ^ 9),false):=by
   rw[d2,cf,a4,ae,aa,cf,p9];exact dh (i:=cell ns 4) (j:=10 ^ 9) (by decide)
  have d2':cE 2 [some (.list (ns.map .int),false),some (cK k ar,false),T,s3,s4,T,none,none,none]=some (.str (tx (dH k ar)),false):=by rw[<-hT];rfl
  rw[cO,cC,bY,d2',aa,bY,q3,aa,bY,q4];show (dm [.str (tx (dH k ar)),.int (cell ns 3%8),.int (cell ns 4%10 ^ 9)]).bind _=_;rw[er];rfl
 rw[cW h6];clear h6 p9;have h7:∃r',i5 r'/\(eM (cF (cf (d2 dW (cf (d2 ia (cf (cC cy (bY (cE 0) (bY (dC (.int 3)) cJ)))) (cf (dC (.int 8))))) (cf (dC (.int 9))))) [(g4,(cf (dC (.int 1))))]) (cO 2 (cC eB (bY (cC cy (bY (cE 0) (bY (dC (.int 4)) cJ))) cJ))) dA) [some (.list (ns.map .int),false),some (cK k ar,false),some (.str (tx r),false),s3,s4,T,none,none,none]=some (.next [some (.list (ns.map .int),false),some (cK k ar,false),some (.str (tx r'),false),s3,s4,T,none,none,none]):=by
  have a3:(cC cy (bY (cE 0) (bY (dC (.int 3)) cJ))) [some (.list (ns.map .int),false),some (cK k ar,false),some (.str (tx r),false),s3,s4,T,none,none,none]=some (.int (cell ns 3),false):=c3;have q1:(d2 ia (cf (cC cy (bY (cE 0) (bY (dC (.int 3)) cJ)))) (cf (dC (.int 8)))) [some (.list (ns.map .int),false),some (cK k ar,false),some (.str (tx r),false),s3,s4,T,none,none,none]=some (.int (cell ns 3/8),false):=by
   rw[d2,cf,a3];exact gv (i:=cell ns 3) (j:=8) (by decide) (by decide)
  have q2:(d2 dW (cf (d2 ia (cf (cC cy (bY (cE 0) (bY (dC (.int 3)) cJ)))) (cf (dC (.int 8))))) (cf (dC (.int 9)))) [some (.list (ns.map .int),false),some (cK k ar,false),some (.str (tx r),false),s3,s4,T,none,none,none]=some (.int (cell ns 3/8%9),false):=by
   rw[d2,cf,q1];exact dh (i:=cell ns 3/8) (j:=9) (by decide)
  have tt:(cF (cf (d2 dW (cf (d2 ia (cf (cC cy (bY (cE 0) (bY (dC (.int 3)) cJ)))) (cf (dC (.int 8))))) (cf (dC (.int 9))))) [(g4,(cf (dC (.int 1))))]) [some (.list (ns.map .int),false),some (cK k ar,false),some (.str (tx r),false),s3,s4,T,none,none,none]=some (decide (cell ns 3/8%9=1)):=by
   rw[cF,cf,q2];exact oR _ _
  by_cases h:cell ns 3/8%9=1
  ·obtain⟨r',eo,ro⟩:=ue (c:=cell ns 4);refine⟨r',ro,?_⟩;rw[gx (by rw[tt,decide_eq_true h])];have a4:(cC cy (bY (cE 0) (bY (dC (.int 4)) cJ))) [some (.list (ns.map .int),false),some (cK k ar,false),some (.str (tx r),false),s3,s4,T,none,none,none]=some (.int (cell ns 4),false):=c4;rw[cO,cC,bY,a4];show (eB [.int (cell ns 4)]).bind _=_;rw[eo];rfl
  ·refine⟨r,rok,?_⟩;rw[qT (by rw[tt,decide_eq_false h])];rfl
 obtain⟨r',ok,h7⟩:=h7;rw[cW h7];clear h7 er rok;have ed:=nz ok.1 ok.2;have et:=my ok.1 ok.2;have h8:(cO 6 (cC eC (bY (cE 2) cJ))) [some (.list (ns.map .int),false),some (cK k ar,false),some (.str (tx r'),false),s3,s4,T,none,none,none]=some (.next [some (.list (ns.map .int),false),some (cK k ar,false),some (.str (tx r'),false),s3,s4,T,some (mH (iX r')),none,none]):=by
  show (eC [.str (tx r')]).bind _=_;rw[ed];rfl
 have h9:(cO 7 (cC d0 (bY (cE 2) cJ))) [some (.list (ns.map .int),false),some (cK k ar,false),some (.str (tx r'),false),s3,s4,T,some (mH (iX r')),none,none]=some (.next [some (.list (ns.map .int),false),some (cK k ar,false),some (.str (tx r'),false),s3,s4,T,some (mH (iX r')),some (l8 (iX r')),none]):=by
  show (d0 [.str (tx r')]).bind _=_;rw[et];rfl
 rw[cW h8,cW h9];clear h8 h9 ed et;cases iX r' with
 |none =>
  have e:(gC (cF (bW 7) [(g4,(cf (fM (bY (dC (.bool true)) (bY (dC (.bool true)) (bY (dC (.bool false)) cJ))))))])) [some (.list (ns.map .int),false),some (cK k ar,false),some (.str (tx r'),false),s3,s4,T,some (mH none),some (l8 none),none]=some (.bool true,false):=by
   have q:g4 (.list [.bool true,.bool true,.bool false]) (.list [.bool true,.bool true,.bool false])=some true:=by decide +kernel
   show ((g4 (.list [.bool true,.bool true,.bool false]) (.list [.bool true,.bool true,.bool false])).bind fun c=>some ((PyData.bool c,false):Vl))=_;rw[q];rfl
  rw[da rfl e];rfl
 |some p =>
  obtain⟨k',ar'⟩:=p;rw[cQ rfl,cQ rfl];obtain⟨s8,lp⟩:=kF (s0:=some (.list (ns.map .int),false)) (s1:=some (cK k ar,false)) (s2:=some (.str (tx r'),false)) (s3:=s3) (s4:=s4) (s5:=T) (s6:=some (mH (some (k',ar')))) (s7:=some (l8 (some (k',ar')))) ar' none;rw[cD,jo (ds:=ar'.map cP) (by simp[eu,kj,d2,bW,cf,dC,l8,cK,eh,mW,qR,gL]),lp];show ((((g4 (cK k' ar') (cK k' ar')).bind fun c=>some ((PyData.bool c,false):Vl)).map Fl.ret).bind d7)=_;rw[rG (sv k' ar')];rfl
end Lw
set_option maxHeartbeats 4000000
namespace Lw
open PySem DL
noncomputable def top (i:Nat):Stmt:=PySem.Challenge.pw_formshift_k15_form_written.main.body.getD i (.Pass ⟨0,0,0,0⟩)
noncomputable abbrev g9:Stmt:=top 17
noncomputable abbrev hU:Stmt:=top 18
noncomputable abbrev hJ:Stmt:=top 20
noncomputable abbrev hG:Stmt:=top 21
noncomputable abbrev eO:Stmt:=top 11
noncomputable abbrev fG:Stmt:=top 23
noncomputable abbrev fX:Stmt:=top 25
noncomputable abbrev iS:Stmt:=top 26
noncomputable abbrev fz:Stmt:=top 15
noncomputable abbrev fF:Stmt:=top 14
noncomputable abbrev gK:Stmt:=top 7
noncomputable abbrev fW:Stmt:=top 13
noncomputable abbrev fy:Stmt:=top 12
noncomputable abbrev g8:Stmt:=top 27
noncomputable abbrev iR:Stmt:=top 24
noncomputable abbrev gr:Stmt:=top 19
noncomputable abbrev i8:Stmt:=top 28
structure Txt (mg:Str->Option Value):Prop where
 b_ValueError:mg "ValueError" = none
 b_all:mg "all" = none
 b_bool:mg "bool" = none
 b_int:mg "int" = none
 b_isinstance:mg "isinstance" = none
 b_len:mg "len" = none
 b_max:mg "max" = none
 b_range:mg "range" = none
 b_str:mg "str" = none
 b_tuple:mg "tuple" = none
 g_FIGURES:∃tk,mg "FIGURES" = some (.str "0123456789" tk)
 g_MOST_ARROWS:∃tk,mg "MOST_ARROWS" = some (.int 5 tk)
 g_MOST_FIGURES:∃tk,mg "MOST_FIGURES" = some (.int 3 tk)
 g_MOST_KINDS:∃tk,mg "MOST_KINDS" = some (.int 4 tk)
section
variable {P:Program}{w:World}{K:PySem.W.Frag}{mg:Str->Option Value}{base:Heap}
local macro_rules | `(tactic| trivial) => `(tactic| first | exact ⟨rfl,rfl,rfl,by decide +kernel,rfl,by decide +kernel,by decide +kernel⟩ | fail)
theorem d4:L2.FnScope ["cell", "found", "factor", "mixed"] ["cell"] (L2.defScope g9):=by trivial
theorem ml {f:Addr}{fd:FuncData}(T:Txt mg)  (Fu:L2.Fun K "_law_stir" "_law_stir" g9 f fd):L2.FnOk P w K mg base L2.CX0 1 f fd ["cell"] (spD K eA) :=
 fA (N:=["cell", "found", "factor", "mixed"]) (b:=ik) Fu d4 fun cdv A outer s H E hr =>
  (cq (cT (i:=1) d4.nd cj)
  (cq (gz rfl (gf (kJ (ig (ck cj (ck cj (ck cj (ck cj cH))))))) (dj (i:=2) d4.nd) (cq (cT (i:=3) d4.nd (cG L2.op_mod dU (DE.bb (cG L2.op_addA c9 (DE.bb (cG L2.op_mul iU (bX 0) (bX 2))) (DE.bb cj))) (DE.bb cj)))
  (cq (cT (i:=3) d4.nd (cG L2.op_mod dU (DE.bb (cG L2.op_mul iU (DE.bb (cG L2.op_mod dU (DE.bb (cG L2.op_mul iU (bX 3) (bX 3))) (DE.bb cj))) (DE.bb cj))) (DE.bb cj)))
  (cB (cT (i:=1) d4.nd (cG L2.op_addA c9 (DE.bb (cG L2.op_mul iU (bX 1) (DE.bb (cG L2.op_pow qw (DE.bb cj) (DE.bb cj))))) (DE.bb (cG L2.op_fdiv jM (bX 3) (DE.bb cj)))))))))
  (cB (cR (cL 1)))))
theorem md:L2.FnScope ["script", "k"] ["script", "k"] (L2.defScope hU):=by trivial
theorem mq {f:Addr}{fd:FuncData}(T:Txt mg)(c_law_stir:gW P w K mg base 1 "_law_stir" ["cell"] eA)(Fu:L2.Fun K "_law_cell" "_law_cell" hU f fd):L2.FnOk P w K mg base L2.CX0 2 f fd ["script", "k"] (spD K cy) :=
 fA (N:=["script", "k"]) (b:=gk) Fu md fun cdv A outer s H E hr =>
  (cq (dS (dt L2.op_lt kQ (bX 1) (DE.bb (ij T.b_len (bX 0)))) (cB (cR (dB c_law_stir hr (ck (eI (bX 0) (bX 1)) cH)))) cY)
  (cB (cR (dB c_law_stir hr (ck cj cH)))))
theorem fw:L2.FnScope ["cell", "k", "bound", "stir", "turn"] ["cell", "k", "bound"] (L2.defScope hJ):=by trivial
theorem mn {f:Addr}{fd:FuncData}(T:Txt mg)  (Fu:L2.Fun K "_law_draw" "_law_draw" hJ f fd):L2.FnOk P w K mg base L2.CX0 1 f fd ["cell", "k", "bound"] (spD K dN) :=
 fA (N:=["cell", "k", "bound", "stir", "turn"]) (b:=il) Fu fw fun cdv A outer s H E hr =>
  (cq (cT (i:=3) fw.nd (cG L2.op_mod dU (DE.bb (cG L2.op_addA c9 (DE.bb (cG L2.op_addA c9 (DE.bb (cG L2.op_mod dU (bX 0) (DE.bb cj))) (DE.bb cj))) (DE.bb (cG L2.op_mul iU (bX 1) (DE.bb cj))))) (DE.bb cj)))
  (cq (gz rfl (kK T.b_range cj) (dj (i:=4) fw.nd) (cB (cT (i:=3) fw.nd (cG L2.op_mod dU (DE.bb (cG L2.op_mul iU (bX 3) (DE.bb cj))) (DE.bb cj)))))
  (cB (cR (cG L2.op_mod dU (DE.bb (cG L2.op_fdiv jM (bX 3) (DE.bb cj))) (bX 2))))))
theorem d5:L2.FnScope ["script", "first", "most", "many", "kinds", "arrows", "k", "a", "b"] ["script", "first", "most", "many"] (L2.defScope hG):=by trivial
theorem mm {f:Addr}{fd:FuncData}(T:Txt mg)(c_law_cell:gW P w K mg base 2 "_law_cell" ["script", "k"] cy)(c_law_draw:gW P w K mg base 1 "_law_draw" ["cell", "k", "bound"] dN)(Fu:L2.Fun K "_law_form" "_law_form" hG f fd):L2.FnOk P w K mg base L2.CX0 3 f fd ["script", "first", "most", "many"] (spD K dw) :=
 fA (N:=["script", "first", "most", "many", "kinds", "arrows", "k", "a", "b"]) (b:=gj) Fu d5 fun cdv A outer s H E hr =>
  (cq (cT (i:=4) d5.nd (cG L2.op_addA c9 (DE.bb cj) (DE.bb (cG L2.op_mod dU (DE.bb (dB c_law_cell hr (ck (cL 0) (ck (cL 1) cH)))) (bX 2)))))
  (cq (cT (i:=5) d5.nd (ig cH))
  (cq (dS (dt L2.op_gt kS (bX 4) (DE.bb cj)) (cB (gz rfl (kK T.b_range (cG L2.op_mod dU (DE.bb (cG L2.op_fdiv jM (DE.bb (dB c_law_cell hr (ck (cL 0) (ck (cL 1) cH)))) (bX 2))) (DE.bb (cG L2.op_addA c9 (bX 3) (DE.bb cj))))) (dj (i:=6) d5.nd) (cq (cT (i:=7) d5.nd (dB c_law_draw hr (ck (dB c_law_cell hr (ck (cL 0) (ck (cG L2.op_addA c9 (bX 1) (DE.bb cj)) cH))) (ck (cL 6) (ck (cG L2.op_sub nu (bX 4) (DE.bb cj)) cH)))))
  (cq (cT (i:=8) d5.nd (cG L2.op_addA c9 (DE.bb (cG L2.op_addA c9 (bX 7) (DE.bb cj))) (DE.bb (dB c_law_draw hr (ck (dB c_law_cell hr (ck (cL 0) (ck (cG L2.op_addA c9 (bX 1) (DE.bb cj)) cH))) (ck (cL 6) (ck (cG L2.op_sub nu (DE.bb (cG L2.op_sub nu (bX 4) (DE.bb cj))) (bX 7)) cH)))))))
  (cB (rj (i:=5) (lR (ck (cL 7) (ck (cL 8) cH))))))))) cY)
  (cB (cR (lR (ck (cL 4) (ck (mK T.b_tuple (bX 5)) cH))))))))
theorem kh:L2.FnScope ["form"] ["form"] (L2.defScope eO):=by trivial
theorem ko {f:Addr}{fd:FuncData}(T:Txt mg)  (Fu:L2.Fun K "form_shown" "form_shown" eO f fd):L2.FnOk P w K mg base L2.CX0 1 f fd ["form"] (spD K dz) :=
 fA (N:=["form"]) (b:=eS) Fu kh fun cdv A outer s H E hr =>
  (cB (cR (lS (DE.bb c8) (DE.bb (cG L2.op_catS lF (DE.bb (ig (ck (cG L2.op_addA c9 (DE.bb (jt T.b_str (DE.bb (eI (bX 0) (DE.bb cj))))) (DE.bb c8)) cH))) (DE.bb (jv (own:=["a", "b"]) (ix:=[]) (caps:=[]) (iN (osc:=L2.defScope eO) (oN:=["form"]) rfl rfl (by decide +kernel)) rfl (by decide) (og (iy eW (iy eW oh))) (gf (kJ (eI (bX 0) (DE.bb cj)))) (fun _ _ _ _=>(lQ rfl (eH (dj (i:=0) (show (["a", "b"]:List Str).Nodup by decide +kernel)) (eH (dj (i:=1) (show (["a", "b"]:List Str).Nodup by decide +kernel)) js)))) (fun _ _ _ _=>iH) (fun _ _ _ _=>(lU (rm (cL 0) (jW (rm (cL 1) nK))))))))))))
theorem dI:L2.FnScope ["text", "mode", "cell", "at", "sign", "words", "spot"] ["text", "mode", "cell"] (L2.defScope fG):=by trivial
theorem jL {f:Addr}{fd:FuncData}(T:Txt mg)  (Fu:L2.Fun K "_law_spoiled" "_law_spoiled" fG f fd):L2.FnOk P w K mg base L2.CX0 1 f fd ["text", "mode", "cell"] (spD K dm) :=
 fA (N:=["text", "mode", "cell", "at", "sign", "words", "spot"]) (b:=eE) Fu dI fun cdv A outer s H E hr =>
  (cq (cT (i:=3) dI.nd (cG L2.op_mod dU (bX 2) (DE.bb (cG L2.op_addA c9 (DE.bb (ju T.b_len (bX 0))) (DE.bb cj)))))
  (cq (cT (i:=4) dI.nd (lT (DE.bb c8) (DE.bb (cG L2.op_mod dU (DE.bb (cG L2.op_fdiv jM (bX 2) (DE.bb cj))) (DE.bb cj)))))
  (cq (dS (dt (eX hr.units) gF (bX 1) (DE.bb cj)) (cB (cR (cG L2.op_addA c9 (DE.bb (fK (bX 0) fh (fc (cL 3)))) (DE.bb (fK (bX 0) (fc (cG L2.op_addA c9 (bX 3) (DE.bb cj))) fh))))) cY)
  (cq (dS (dt (eX hr.units) gF (bX 1) (DE.bb cj)) (cB (cR (cG L2.op_addA c9 (DE.bb (cG L2.op_addA c9 (DE.bb (fK (bX 0) fh (fc (cL 3)))) (bX 4))) (DE.bb (fK (bX 0) (fc (cL 3)) fh))))) cY)
  (cq (dS (dt (eX hr.units) gF (bX 1) (DE.bb cj)) (cB (cR (cG L2.op_addA c9 (DE.bb (cG L2.op_addA c9 (DE.bb (fK (bX 0) fh (fc (cL 3)))) (bX 4))) (DE.bb (fK (bX 0) (fc (cG L2.op_addA c9 (bX 3) (DE.bb cj))) fh))))) cY)
  (cq (cT (i:=5) dI.nd (gA (bX 0) (DE.bb c8)))
  (cq (cT (i:=6) dI.nd (cG L2.op_mod dU (bX 2) (DE.bb (ij T.b_len (bX 5)))))
  (cq (dS (dt (eX hr.units) gF (bX 1) (DE.bb cj)) (cB (cR (lS (DE.bb c8) (DE.bb (cG L2.op_catS lF (DE.bb (mL (bX 5) fh (fc (cL 6)))) (DE.bb (mL (bX 5) (fc (cG L2.op_addA c9 (bX 6) (DE.bb cj))) fh))))))) cY)
  (cq (dS (dt (eX hr.units) gF (bX 1) (DE.bb cj)) (cB (cR (lS (DE.bb c8) (DE.bb (cG L2.op_catS lF (DE.bb (mL (bX 5) fh (fc (cG L2.op_addA c9 (bX 6) (DE.bb cj))))) (DE.bb (mL (bX 5) (fc (cL 6)) fh))))))) cY)
  (cB (cR (cL 0))))))))))))
theorem gY:L2.FnScope ["word", "sign"] ["word"] (L2.defScope fX):=by trivial
theorem kn {f:Addr}{fd:FuncData}(T:Txt mg)  (Fu:L2.Fun K "_law_number" "_law_number" fX f fd):L2.FnOk P w K mg base L2.CX0 1 f fd ["word"] (spD K cN) :=
 fA (N:=["word", "sign"]) (b:=eR) Fu gY fun cdv A outer s H E hr =>
  (cq (dS (DW.tt (gZ (dt (eX hr.units) gF (bX 0) (DE.bb c8)) (gZ (dt L2.op_gt kS (DE.bb (ju T.b_len (bX 0))) (DE.bb cj)) (iW (DW.tt (qZ (dt L2.op_gt kS (DE.bb (ju T.b_len (bX 0))) (DE.bb cj)) (ox (dt (eX hr.units) gF (DE.bb (lT (bX 0) (DE.bb cj))) (DE.bb c8))))))))) (cB (cR (rz L2.un_neg mY (DE.bb cj)))) cY)
  (cq (gz rfl (mJ (cL 0)) (dj (i:=1) gY.nd) (cB (dS (dt L2.op_notin_str pO (bX 1) (DE.bb c8)) (cB (cR (rz L2.un_neg mY (DE.bb cj)))) cY)))
  (cB (cR (oF T.b_int (bX 0))))))
theorem du:L2.FnScope ["text", "cut", "kinds", "rest", "arrows", "word", "pair", "a", "b"] ["text"] (L2.defScope iS):=by trivial
theorem nq {f:Addr}{fd:FuncData}(T:Txt mg)(c_law_number:gW P w K mg base 1 "_law_number" ["word"] cN)(Fu:L2.Fun K "_law_due" "_law_due" iS f fd):L2.FnOk P w K mg base L2.CX0 2 f fd ["text"] (spD K eC) :=
 fA (N:=["text", "cut", "kinds", "rest", "arrows", "word", "pair", "a", "b"]) (b:=gQ) Fu du fun cdv A outer s H E hr =>
  (cq (cT (i:=1) du.nd (sZ (bX 0) (DE.bb c8)))
  (cq (cT (i:=2) du.nd (dB c_law_number hr (ck (fK (bX 0) fh (fc (uM rfl T.b_max (bX 1) (DE.bb cj)))) cH)))
  (cq (cT (i:=3) du.nd (fK (bX 0) (fc (cG L2.op_addA c9 (bX 1) (DE.bb cj))) fh))
  (cq (cT (i:=4) du.nd (ig cH))
  (cq (dS (dt (hV hr.units) j1 (bX 3) (DE.bb c8)) (cq (dS (dt (hV hr.units) j1 (DE.bb (lT (bX 3) (DE.bb cj))) (DE.bb c8)) (cB (cR jX)) cY)
  (cB (gz rfl (gf (kJ (gA (DE.bb (fK (bX 3) (fc cj) fh)) (DE.bb c8)))) (dj (i:=5) du.nd) (cq (cT (i:=6) du.nd (gA (bX 5) (DE.bb c8)))
  (cq (dS (dt (hV hr.units) j1 (DE.bb (ij T.b_len (bX 6))) (DE.bb cj)) (cB (cR jX)) cY)
  (cB (rj (i:=4) (lR (ck (dB c_law_number hr (ck (eI (bX 6) (DE.bb cj)) cH)) (ck (dB c_law_number hr (ck (eI (bX 6) (DE.bb cj)) cH)) cH)))))))))) cY)
  (cq (dS (DW.tt (gZ (eK (tQ L2.op_le kR L2.op_le kR (DE.bb cj) (bX 2) (DE.bb cj))) (iW (dt L2.op_gt kS (DE.bb (ij T.b_len (bX 4))) (DE.bb cj))))) (cB (cR jX)) cY)
  (cq (ri 4 (gz rfl (gf (nJ 4)) (lQ rfl (eH (dj (i:=7) du.nd) (eH (dj (i:=8) du.nd) js))) (cB (dS (eK (vQ L2.op_le kR L2.op_lt kQ L2.op_lt kQ (DE.bb cj) (bX 7) (bX 8) (bX 2))) (cB (cR jX)) cY))))
  (cB (cR (lR (ck (cL 2) (ck (mK T.b_tuple (bX 4)) cH))))))))))))
theorem lj:L2.FnScope ["part"] ["part"] (L2.defScope fz):=by trivial
theorem lE {f:Addr}{fd:FuncData}(T:Txt mg)  (Fu:L2.Fun K "is_number" "is_number" fz f fd):L2.FnOk P w K mg base L2.CX0 1 f fd ["part"] (spD K dO) :=
 fA (N:=["part"]) (b:=fB) Fu lj fun cdv A outer s H E hr =>
  (cq (dS (eK (tQ L2.op_le kR L2.op_le kR (DE.bb cj) (DE.bb (ju T.b_len (bX 0))) (DE.bb (rA T.g_MOST_FIGURES)))) (cB (cR iJ)) cY)
  (cq (dS (DW.tt (qZ (dt (eX hr.units) gF (DE.bb (lT (bX 0) (DE.bb cj))) (DE.bb c8)) (ox (dt (hV hr.units) j1 (bX 0) (DE.bb c8))))) (cB (cR iJ)) cY)
  (cB (cR (nN rfl T.b_all (DE.bb (jv (own:=["sign"]) (ix:=[]) (caps:=[]) (iN (osc:=L2.defScope fz) (oN:=["part"]) rfl rfl (by decide +kernel)) rfl (by decide) eW (mJ (cL 0)) (fun _ _ _ _=>(dj (i:=0) (show (["sign"]:List Str).Nodup by decide +kernel))) (fun _ _ _ _=>iH) (fun _ _ _ _=>(rC L2.op_in_str uW (bX 0) (DE.bb (uN T.g_FIGURES)))))))))))
theorem jF:L2.FnScope ["part"] ["part"] (L2.defScope fF):=by trivial
theorem jK {f:Addr}{fd:FuncData}(T:Txt mg){C_NotRead:Addr}(X_NotRead:eD K mg "NotRead" C_NotRead)(c_is_number:gW P w K mg base 1 "is_number" ["part"] dO)(Fu:L2.Fun K "read_number" "read_number" fF f fd):L2.FnOk P w K mg base (L2.CX1 P w) 2 f fd ["part"] (vi K cM (fun _=>C_NotRead)) :=
 nF Fu jF fun cdv A outer s H E hr =>
  (eZ (ou (eK (gc (dB c_is_number hr (ck (cL 0) cH)))) (iF (iG PySem.F.excBase_ValueError (ck (lU (jW (oC (cL 0) nK))) cH) X_NotRead.at_ X_NotRead.ex rfl (fun pins σ H s h' ea vs I hm z=>I.leaves rfl rfl rfl hm z))) jr)
  (nI (cB (cR (oF T.b_int (bX 0))))))
theorem g7:L2.FnScope ["form", "kinds", "arrows"] ["form"] (L2.defScope gK):=by trivial
theorem nr {f:Addr}{fd:FuncData}(T:Txt mg)  (Fu:L2.Fun K "is_form" "is_form" gK f fd):L2.FnOk P w K mg base L2.CX0 1 f fd ["form"] (spD K dF) :=
 fA (N:=["form", "kinds", "arrows"]) (b:=eT) Fu g7 fun cdv A outer s H E hr =>
  (cq (cT (i:=1) g7.nd (eI (bX 0) (DE.bb cj)))
  (cq (cT (i:=2) g7.nd (eI (bX 0) (DE.bb cj)))
  (cq (dS (DW.tt (gZ (dt L2.op_lt kQ (bX 1) (DE.bb cj)) (gZ (dt L2.op_gt kS (bX 1) (DE.bb (rA T.g_MOST_KINDS))) (iW (dt L2.op_gt kS (DE.bb (ij T.b_len (bX 2))) (DE.bb (rA T.g_MOST_ARROWS))))))) (cB (cR iJ)) cY)
  (cB (cR (nN rfl T.b_all (DE.bb (jv (own:=["a", "b"]) (ix:=[1]) (caps:=["kinds"]) (iN (osc:=L2.defScope gK) (oN:=["form", "kinds", "arrows"]) rfl rfl (by decide +kernel)) rfl (by decide) (og (iy eW (iy eW oh))) (gf (nJ 2)) (fun _ _ _ _=>(lQ rfl (eH (dj (i:=0) (show (["a", "b", "kinds"]:List Str).Nodup by decide +kernel)) (eH (dj (i:=1) (show (["a", "b", "kinds"]:List Str).Nodup by decide +kernel)) js)))) (fun _ _ _ _=>iH) (fun _ _ _ _=>(vU L2.op_le kR L2.op_lt kQ L2.op_lt kQ (DE.bb cj) (bX 0) (bX 1) (bX 2)))))))))))
theorem gX:L2.FnScope ["part", "ends"] ["part"] (L2.defScope fW):=by trivial
theorem km {f:Addr}{fd:FuncData}(T:Txt mg){C_NotRead:Addr}(X_NotRead:eD K mg "NotRead" C_NotRead)(c_read_number:j7 P w K mg base 2 "read_number" ["part"] cM (fun _=>C_NotRead))(Fu:L2.Fun K "read_arrow" "read_arrow" fW f fd):L2.FnOk P w K mg base (L2.CX1 P w) 3 f fd ["part"] (vi K dR (fun _=>C_NotRead)) :=
 nF Fu gX fun cdv A outer s H E hr =>
  (eZ (tP (cT (i:=1) gX.nd (gA (bX 0) (DE.bb c8))))
  (eZ (ou (dt (hV hr.units) j1 (DE.bb (ij T.b_len (bX 1))) (DE.bb cj)) (iF (iG PySem.F.excBase_ValueError (ck (lU (jW (oC (cL 0) nK))) cH) X_NotRead.at_ X_NotRead.ex rfl (fun pins σ H s h' ea vs I hm z=>I.leaves rfl rfl rfl hm z))) jr)
  (iF (uC (oE (iK (iI c_read_number hr (ck (eI (bX 1) (DE.bb cj)) cH) (fun pins σ H s e s' I c=>lB (P:=P) (w:=w) I rfl rfl rfl c)) (iK (iI c_read_number hr (ck (eI (bX 1) (DE.bb cj)) cH) (fun pins σ H s e s' I c=>lB (P:=P) (w:=w) I rfl rfl rfl c)) oG)))))))
theorem fV:L2.FnScope ["text", "parts", "form"] ["text"] (L2.defScope fy):=by trivial
theorem lC {f:Addr}{fd:FuncData}(T:Txt mg){C_NotRead:Addr}(X_NotRead:eD K mg "NotRead" C_NotRead)(c_read_number:j7 P w K mg base 2 "read_number" ["part"] cM (fun _=>C_NotRead))(c_read_arrow:j7 P w K mg base 3 "read_arrow" ["part"] dR (fun _=>C_NotRead))(c_is_form:gW P w K mg base 1 "is_form" ["form"] dF)(Fu:L2.Fun K "read_form" "read_form" fy f fd):L2.FnOk P w K mg base (L2.CX1 P w) 4 f fd ["text"] (vi K d6 (fun _=>C_NotRead)) :=
 nF Fu fV fun cdv A outer s H E hr =>
  (eZ (tP (cT (i:=1) fV.nd (gA (bX 0) (DE.bb c8))))
  (eZ (ou (eK (gc (td (DE.bb (eI (bX 1) (DE.bb cj))) (DE.bb c8)))) (iF (iG PySem.F.excBase_ValueError (ck c8 cH) X_NotRead.at_ X_NotRead.ex rfl (fun pins σ H s h' ea vs I hm z=>I.leaves rfl rfl rfl hm z))) jr)
  (eZ (uz (i:=2) fV.nd (oE (iK (iI c_read_number hr (ck (fK (DE.bb (eI (bX 1) (DE.bb cj))) fh (fc (rz L2.un_neg mY (DE.bb cj)))) cH) (fun pins σ H s e s' I c=>lB (P:=P) (w:=w) I rfl rfl rfl c)) (iK (pH T.b_tuple (rq rfl rfl rfl (fun e s4 h=>qt h) (own:=["part"]) (ix:=[]) (caps:=[]) (iN (osc:=L2.defScope fy) (oN:=["text", "parts", "form"]) rfl rfl (by decide +kernel)) rfl (by decide) eW (gf (kJ (mL (bX 1) (fc cj) fh))) (fun _ _ _ _=>(dj (i:=0) (show (["part"]:List Str).Nodup by decide +kernel))) (fun _ _ _ _=>iH) (fun _ _ _ _=>(iI c_read_arrow hr (ck (cL 0) cH) (fun pins σ H s e s' I c=>ux pins σ H s e s' I c))))) oG))))
  (eZ (ou (eK (gc (dB c_is_form hr (ck (cL 2) cH)))) (iF (iG PySem.F.excBase_ValueError (ck c8 cH) X_NotRead.at_ X_NotRead.ex rfl (fun pins σ H s h' ea vs I hm z=>I.leaves rfl rfl rfl hm z))) jr)
  (nI (cB (cR (cL 2))))))))
theorem i7:L2.FnScope ["text", "e"] ["text"] (L2.defScope g8):=by trivial
theorem mj {f:Addr}{fd:FuncData}(T:Txt mg){C_NotRead:Addr}(X_NotRead:eD K mg "NotRead" C_NotRead){C_ShiftError:Addr}(X_ShiftError:eD K mg "ShiftError" C_ShiftError){C_TooWide:Addr}(X_TooWide:eD K mg "TooWide" C_TooWide)(S_NotRead_ShiftError:PySem.W.subIn K (.ref C_NotRead) (.ref C_ShiftError)=some true)(S_NotRead_ValueError:PySem.W.subIn K (.ref C_NotRead) (.type "ValueError")=some true)(S_NotRead_TooWide:PySem.W.subIn K (.ref C_NotRead) (.ref C_TooWide)=some false)(N_NotRead_TooWide:C_NotRead≠C_TooWide)(c_read_form:j7 P w K mg base 4 "read_form" ["text"] d6 (fun _=>C_NotRead))(Fu:L2.Fun K "_law_told" "_law_told" g8 f fd):L2.FnOk P w K mg base L2.CX0 5 f fd ["text"] (spD K d0) :=
 fA (N:=["text", "e"]) (b:=gi) Fu i7 fun cdv A outer s H E hr =>
  (cB (uF (C:=C_NotRead) (ie:=1) c_read_form (fun _=>rfl) hr (ck (cL 0) cH) (fun _ _ z=>z) X_ShiftError.at_ (sV X_ShiftError S_NotRead_ShiftError) (fun ea E2=>vJ (n9 (i:=1) X_NotRead.cl T.b_isinstance X_NotRead.at_ qN) (se (i:=1) X_NotRead.cl T.b_isinstance T.b_ValueError kv (sI S_NotRead_ValueError)) (n9 (i:=1) X_NotRead.cl T.b_isinstance X_TooWide.at_ (sJ X_TooWide S_NotRead_TooWide (fun _=>N_NotRead_TooWide)))) i7.nd))
theorem jG:L2.FnScope ["cell", "some"] ["cell"] (L2.defScope iR):=by trivial
theorem ni {f:Addr}{fd:FuncData}(T:Txt mg)  (Fu:L2.Fun K "_law_odd" "_law_odd" iR f fd):L2.FnOk P w K mg base L2.CX0 1 f fd ["cell"] (spD K eB) :=
 uv (N:=["cell", "some"]) (b:=gP) Fu jG fun body e cdv A outer s H E hr =>
  vR (e.trans rfl) (fun a ea=>uJ 1 (rg (i:=1) jG.nd ea (fun v' ev=>pJ (zs:=[("", _,_),(" ", _,_),(":", _,_),("1", _,_),("1: ", _,_),(" 1:", _,_),("01:", _,_),("0:", _,_),("5:", _,_),("2: 1>0", _,_),("2: 0>1>0", _,_)]) ev) (by rfl))) (fun r er=>uD er fun a ea=>rh ea fun v' ev=>by
   rw[ev];exact (eI (DE.bb (cG L2.op_catS lF (bX 1) (DE.bb (ig (ck c8 (ck c8 (ck c8 cH))))))) (DE.bb (cG L2.op_mod dU (bX 0) (DE.bb cj)))))
theorem lh:L2.FnScope ["found"] ["found"] (L2.defScope gr):=by trivial
theorem lD {f:Addr}{fd:FuncData}(T:Txt mg)  (Fu:L2.Fun K "_law_whole" "_law_whole" gr f fd):L2.FnOk P w K mg base L2.CX0 1 f fd ["found"] (spD K fE) :=
 fA (N:=["found"]) (b:=jb) Fu lh fun cdv A outer s H E hr =>
  (cB (cR (uO (iY T.b_isinstance T.b_int PyProof.Rows.boot_int (bX 0)) (uK (uL (iY T.b_isinstance T.b_bool PyProof.Rows.boot_bool (bX 0)))))))
theorem eJ:L2.FnScope ["script", "form", "text", "a", "b", "found", "due", "told", "arrow"] ["script"] (L2.defScope i8):=by trivial
theorem ud {f:Addr}{fd:FuncData}(T:Txt mg)(c_law_form:gW P w K mg base 3 "_law_form" ["script", "first", "most", "many"] dw)(c_form_shown:gW P w K mg base 1 "form_shown" ["form"] dz)(c_law_spoiled:gW P w K mg base 1 "_law_spoiled" ["text", "mode", "cell"] dm)(c_law_cell:gW P w K mg base 2 "_law_cell" ["script", "k"] cy)(c_law_odd:gW P w K mg base 1 "_law_odd" ["cell"] eB)(c_law_due:gW P w K mg base 2 "_law_due" ["text"] eC)(c_law_told:gW P w K mg base 5 "_law_told" ["text"] d0)(c_law_whole:gW P w K mg base 1 "_law_whole" ["found"] fE)(Fu:L2.Fun K "law" "law" i8 f fd):L2.FnOk P w K mg base L2.CX0 6 f fd ["script"] (spD K F_law) :=
 fA (N:=["script", "form", "text", "a", "b", "found", "due", "told", "arrow"]) (b:=oI) Fu eJ fun cdv A outer s H E hr =>
  (cq (cT (i:=1) eJ.nd (dB c_law_form hr (ck (cL 0) (ck cj (ck cj (ck cj cH))))))
  (cq (cT (i:=2) eJ.nd (cG L2.op_addA c9 (DE.bb (jt T.b_str (DE.bb (eI (bX 1) (DE.bb cj))))) (DE.bb c8)))
  (cq (gz rfl (gf (kJ (eI (bX 1) (DE.bb cj)))) (lQ rfl (eH (dj (i:=3) eJ.nd) (eH (dj (i:=4) eJ.nd) js))) (cB (cT (i:=2) eJ.nd (cG L2.op_addA c9 (DE.bb (cG L2.op_addA c9 (DE.bb (cG L2.op_addA c9 (DE.bb (cG L2.op_addA c9 (bX 2) (DE.bb c8))) (DE.bb (jt T.b_str (bX 3))))) (DE.bb c8))) (DE.bb (jt T.b_str (bX 4)))))))
  (cq (cT (i:=5) eJ.nd (dB c_form_shown hr (ck (cL 1) cH)))
  (cq (dS (DW.tt (gZ (eK (gc (iY T.b_isinstance T.b_str PyProof.Rows.boot_str (bX 5)))) (iW (dt (hV hr.units) j1 (bX 5) (bX 2))))) (cB (cR iJ)) cY)
  (cq (cT (i:=2) eJ.nd (dB c_law_spoiled hr (ck (cL 2) (ck (cG L2.op_mod dU (DE.bb (dB c_law_cell hr (ck (cL 0) (ck cj cH)))) (DE.bb cj)) (ck (cG L2.op_mod dU (DE.bb (dB c_law_cell hr (ck (cL 0) (ck cj cH)))) (DE.bb (cG L2.op_pow qw (DE.bb cj) (DE.bb cj)))) cH)))))
  (cq (dS (dt (eX hr.units) gF (DE.bb (cG L2.op_mod dU (DE.bb (cG L2.op_fdiv jM (DE.bb (dB c_law_cell hr (ck (cL 0) (ck cj cH)))) (DE.bb cj))) (DE.bb cj))) (DE.bb cj)) (cB (cT (i:=2) eJ.nd (dB c_law_odd hr (ck (dB c_law_cell hr (ck (cL 0) (ck cj cH))) cH)))) cY)
  (cq (cT (i:=6) eJ.nd (dB c_law_due hr (ck (cL 2) cH)))
  (cq (cT (i:=7) eJ.nd (dB c_law_told hr (ck (cL 2) cH)))
  (cq (dS (dt L2.op_isN uV (bX 6) (DE.bb jX)) (cB (cR (rC (eX hr.units) gF (bX 7) (DE.bb (ig (ck iJ (ck iJ (ck iJ cH)))))))) cY)
  (cq (dS (DW.tt (gZ (eK (gc (iY T.b_isinstance T.b_tuple PyProof.Rows.boot_tuple (bX 7)))) (gZ (dt (hV hr.units) j1 (DE.bb (ij T.b_len (bX 7))) (DE.bb cj)) (gZ (eK (gc (dB c_law_whole hr (ck (eI (bX 7) (DE.bb cj)) cH)))) (iW (eK (gc (iY T.b_isinstance T.b_tuple PyProof.Rows.boot_tuple (DE.bb (eI (bX 7) (DE.bb cj))))))))))) (cB (cR iJ)) cY)
  (cq (gz rfl (gf (kJ (eI (bX 7) (DE.bb cj)))) (dj (i:=8) eJ.nd) (cB (dS (DW.tt (gZ (eK (gc (iY T.b_isinstance T.b_tuple PyProof.Rows.boot_tuple (bX 8)))) (iW (eK (gc (nN rfl T.b_all (DE.bb (jv (own:=["kind"]) (ix:=[]) (caps:=[]) (iN (osc:=L2.defScope i8) (oN:=["script", "form", "text", "a", "b", "found", "due", "told", "arrow"]) rfl rfl (by decide +kernel)) rfl (by decide) eW (gf (nJ 8)) (fun _ _ _ _=>(dj (i:=0) (show (["kind"]:List Str).Nodup by decide +kernel))) (fun _ _ _ _=>iH) (fun _ _ _ _=>(dB c_law_whole hr (ck (cL 0) cH))))))))))) (cB (cR iJ)) cY)))
  (cB (cR (rC (eX hr.units) gF (bX 7) (bX 6))))))))))))))))
end
theorem all_mk {l:PySem.W.OpenLaw}{w:World}{K:PySem.W.Frag}{h:Heap}{mg:Str->Option Value}{fa:Addr}(X:K.In h)(G:h.Ns mainGlobals mg)(hfa:mg "law" = some (.ref fa))
  (h1:FH K "_law_stir" g9)
  (h2:FH K "_law_cell" hU)
  (h3:FH K "_law_draw" hJ)
  (h4:FH K "_law_form" hG)
  (h5:FH K "form_shown" eO)
  (h6:FH K "_law_spoiled" fG)
  (h7:FH K "_law_number" fX)
  (h8:FH K "_law_due" iS)
  (h9:FH K "is_number" fz)
  (h10:FH K "read_number" fF)
  (h11:FH K "is_form" gK)
  (h12:FH K "read_arrow" fW)
  (h13:FH K "read_form" fy)
  (h14:FH K "_law_told" g8)
  (h15:FH K "_law_odd" iR)
  (h16:FH K "_law_whole" gr)
  (h17:FH K "law" i8)
  (z_ValueError:PySem.W.nsIn K mainGlobals "ValueError" = some none)
  (z_all:PySem.W.nsIn K mainGlobals "all" = some none)
  (z_bool:PySem.W.nsIn K mainGlobals "bool" = some none)
  (z_int:PySem.W.nsIn K mainGlobals "int" = some none)
  (z_isinstance:PySem.W.nsIn K mainGlobals "isinstance" = some none)
  (z_len:PySem.W.nsIn K mainGlobals "len" = some none)
  (z_max:PySem.W.nsIn K mainGlobals "max" = some none)
  (z_range:PySem.W.nsIn K mainGlobals "range" = some none)
  (z_str:PySem.W.nsIn K mainGlobals "str" = some none)
  (z_tuple:PySem.W.nsIn K mainGlobals "tuple" = some none)
  {tk_FIGURES:Tok} (v_FIGURES:PySem.W.nsIn K mainGlobals "FIGURES" = some (some (.str "0123456789" tk_FIGURES)))
  {tk_MOST_ARROWS:Tok} (v_MOST_ARROWS:PySem.W.nsIn K mainGlobals "MOST_ARROWS" = some (some (.int 5 tk_MOST_ARROWS)))
  {tk_MOST_FIGURES:Tok} (v_MOST_FIGURES:PySem.W.nsIn K mainGlobals "MOST_FIGURES" = some (some (.int 3 tk_MOST_FIGURES)))
  {tk_MOST_KINDS:Tok} (v_MOST_KINDS:PySem.W.nsIn K mainGlobals "MOST_KINDS" = some (some (.int 4 tk_MOST_KINDS)))
  {C_NotRead:Addr} (ea_NotRead:PySem.W.nsIn K mainGlobals "NotRead" = some (some (.ref C_NotRead)))
  (eq_NotRead:PySem.W.excIn K C_NotRead qF "ValueError.__new__" = true)
  (et_NotRead:PySem.W.typeIn K (.ref C_NotRead)=some (.type "type"))
  (eg_NotRead:PySem.W.findIn K (.ref C_NotRead) "__getattribute__" = some (some (.builtin "BaseException.__getattribute__")))
  (eh_NotRead:PySem.W.findIn K (.ref C_NotRead) "__getattr__" = some none)
  (es_NotRead:PySem.W.subIn K (.ref C_NotRead) (.type "BaseException")=some true)
  (ec_NotRead:PySem.W.findIn K (.ref C_NotRead) "__class__" = some (some (.builtin "object.__class__")))
  (em_NotRead:PySem.W.mroIn K C_NotRead (.type "object")=some true)
  {C_ShiftError:Addr} (ea_ShiftError:PySem.W.nsIn K mainGlobals "ShiftError" = some (some (.ref C_ShiftError)))
  (eq_ShiftError:PySem.W.excIn K C_ShiftError qF "ValueError.__new__" = true)
  (et_ShiftError:PySem.W.typeIn K (.ref C_ShiftError)=some (.type "type"))
  (eg_ShiftError:PySem.W.findIn K (.ref C_ShiftError) "__getattribute__" = some (some (.builtin "BaseException.__getattribute__")))
  (eh_ShiftError:PySem.W.findIn K (.ref C_ShiftError) "__getattr__" = some none)
  (es_ShiftError:PySem.W.subIn K (.ref C_ShiftError) (.type "BaseException")=some true)
  (ec_ShiftError:PySem.W.findIn K (.ref C_ShiftError) "__class__" = some (some (.builtin "object.__class__")))
  (em_ShiftError:PySem.W.mroIn K C_ShiftError (.type "object")=some true)
  {C_TooWide:Addr} (ea_TooWide:PySem.W.nsIn K mainGlobals "TooWide" = some (some (.ref C_TooWide)))
  (eq_TooWide:PySem.W.excIn K C_TooWide qF "ValueError.__new__" = true)
  (et_TooWide:PySem.W.typeIn K (.ref C_TooWide)=some (.type "type"))
  (eg_TooWide:PySem.W.findIn K (.ref C_TooWide) "__getattribute__" = some (some (.builtin "BaseException.__getattribute__")))
  (eh_TooWide:PySem.W.findIn K (.ref C_TooWide) "__getattr__" = some none)
  (es_TooWide:PySem.W.subIn K (.ref C_TooWide) (.type "BaseException")=some true)
  (ec_TooWide:PySem.W.findIn K (.ref C_TooWide) "__class__" = some (some (.builtin "object.__class__")))
  (em_TooWide:PySem.W.mroIn K C_TooWide (.type "object")=some true)
  (e_get:PySem.W.specialIn K (.builtin "object.__class__") "__get__" = some (some (.builtin "getset_descriptor.__get__"))) (e_tk:PySem.W.takesIn K (.builtin "object.__class__")=some true)
  (S_NotRead_ShiftError:PySem.W.subIn K (.ref C_NotRead) (.ref C_ShiftError)=some true)
  (S_NotRead_ValueError:PySem.W.subIn K (.ref C_NotRead) (.type "ValueError")=some true)
  (S_NotRead_TooWide:PySem.W.subIn K (.ref C_NotRead) (.ref C_TooWide)=some false)
  (N_NotRead_TooWide:C_NotRead≠C_TooWide) :
  ∃fd:FuncData,(∀(s:Shared) (v:Value),BindsTo s fd ⟨[v],[]⟩ [("script", v)])/\∀base:Heap,K.In base->base.Ns mainGlobals mg->L2.FnOk l.prog w K mg base L2.CX0 6 fa fd ["script"] (spD K F_law):=by
 obtain⟨f0,oc,od,kV,dc,pm,an,cd,ct,sl,a0,l0,c0,k0⟩:=h17;have e:=hfa.symm.trans (PySem.W.mg_of X G a0);cases e;have T:Txt mg:=⟨PySem.W.mg_none_of X G z_ValueError,PySem.W.mg_none_of X G z_all,PySem.W.mg_none_of X G z_bool,PySem.W.mg_none_of X G z_int,PySem.W.mg_none_of X G z_isinstance,PySem.W.mg_none_of X G z_len,PySem.W.mg_none_of X G z_max,PySem.W.mg_none_of X G z_range,PySem.W.mg_none_of X G z_str,PySem.W.mg_none_of X G z_tuple,⟨_,PySem.W.mg_of X G v_FIGURES⟩,⟨_,PySem.W.mg_of X G v_MOST_ARROWS⟩,⟨_,PySem.W.mg_of X G v_MOST_FIGURES⟩,⟨_,PySem.W.mg_of X G v_MOST_KINDS⟩⟩;have X_NotRead:eD K mg "NotRead" C_NotRead:=nH X G ea_NotRead eq_NotRead et_NotRead eg_NotRead eh_NotRead es_NotRead ec_NotRead e_get e_tk em_NotRead;have X_ShiftError:eD K mg "ShiftError" C_ShiftError:=nH X G ea_ShiftError eq_ShiftError et_ShiftError eg_ShiftError eh_ShiftError es_ShiftError ec_ShiftError e_get e_tk em_ShiftError;have X_TooWide:eD K mg "TooWide" C_TooWide:=nH X G ea_TooWide eq_TooWide et_TooWide eg_TooWide eh_TooWide es_TooWide ec_TooWide e_get e_tk em_TooWide;have F0:=L2.fun_mk (st:=i8) l0 c0 k0;refine⟨PySem.W.fnOf "law" "law" (L2.defArgs i8) (L2.defBody i8) (L2.defScope i8) .none kV dc pm an cd ct,fun s v=>.of_eq rfl,fun base _ _=>?_⟩;have G_law_stir:=iV l.prog w base X G h1 (by trivial) fun _ _ Fu=>ml T  Fu;have G_law_cell:=iV l.prog w base X G h2 (by trivial) fun _ _ Fu=>mq T G_law_stir Fu;have G_law_draw:=iV l.prog w base X G h3 (by trivial) fun _ _ Fu=>mn T  Fu;have G_law_form:=iV l.prog w base X G h4 (by trivial) fun _ _ Fu=>mm T G_law_cell G_law_draw Fu;have G_form_shown:=iV l.prog w base X G h5 (by trivial) fun _ _ Fu=>ko T  Fu;have G_law_spoiled:=iV l.prog w base X G h6 (by trivial) fun _ _ Fu=>jL T  Fu;have G_law_number:=iV l.prog w base X G h7 (by trivial) fun _ _ Fu=>kn T  Fu;have G_law_due:=iV l.prog w base X G h8 (by trivial) fun _ _ Fu=>nq T G_law_number Fu;have G_is_number:=iV l.prog w base X G h9 (by trivial) fun _ _ Fu=>lE T  Fu;have G_read_number:=qG l.prog w base X G h10 (by trivial) fun _ _ Fu=>jK T X_NotRead G_is_number Fu;have G_is_form:=iV l.prog w base X G h11 (by trivial) fun _ _ Fu=>nr T  Fu;have G_read_arrow:=qG l.prog w base X G h12 (by trivial) fun _ _ Fu=>km T X_NotRead G_read_number Fu;have G_read_form:=qG l.prog w base X G h13 (by trivial) fun _ _ Fu=>lC T X_NotRead G_read_number G_read_arrow G_is_form Fu;have G_law_told:=iV l.prog w base X G h14 (by trivial) fun _ _ Fu=>mj T X_NotRead X_ShiftError X_TooWide S_NotRead_ShiftError S_NotRead_ValueError S_NotRead_TooWide N_NotRead_TooWide G_read_form Fu;have G_law_odd:=iV l.prog w base X G h15 (by trivial) fun _ _ Fu=>ni T  Fu;have G_law_whole:=iV l.prog w base X G h16 (by trivial) fun _ _ Fu=>lD T  Fu;exact ud T G_law_form G_form_shown G_law_spoiled G_law_cell G_law_odd G_law_due G_law_told G_law_whole F0
end Lw
namespace PySem.W.Fast
theorem tw4382541428079440751:0=0:=rfl
theorem tw4481031863482570624:0=0:=rfl
theorem tw10065456516420676397:0=0:=rfl
theorem tw6530090038329477866:0=0:=rfl
theorem tw12368326436416535391:0=0:=rfl
theorem tw3654476801527660732:0=0:=rfl
theorem tw526849280981737913:0=0:=rfl
theorem tw6802758780789656044:0=0:=rfl
theorem tw17419033555180238230:0=0:=rfl
theorem tw14867746660182435256:0=0:=rfl
theorem tw9202057629156195535:0=0:=rfl
theorem tw1154787878191978950:0=0:=rfl
theorem tw113092854235578574:0=0:=rfl
theorem tw1740592318832684200:0=0:=rfl
theorem tw10026095408476556599:0=0:=rfl
theorem tw16542837101206173511:0=0:=rfl
theorem tw1138746246250825494:0=0:=rfl
theorem tw614706475276111164:0=0:=rfl
theorem tw15657191158532222820:0=0:=rfl
theorem tw8492204145053330078:0=0:=rfl
theorem tw1668466537759802042:0=0:=rfl
theorem tw6992719516083193503:0=0:=rfl
theorem tw1750984067077150340:0=0:=rfl
theorem tw8596062333671771252:0=0:=rfl
theorem tw13275215234916630920:0=0:=rfl
theorem tw6432660924551456891:0=0:=rfl
theorem tw12564706045302030051:0=0:=rfl
theorem tw12476548535523890774:0=0:=rfl
theorem tw17485052349403291198:0=0:=rfl
theorem tw5845410418064225518:0=0:=rfl
theorem tw758314502277838428:0=0:=rfl
theorem tw15889517167329918681:0=0:=rfl
theorem tw929296326607800396:0=0:=rfl
theorem tw12696838733529196799:0=0:=rfl
theorem tw746190580673795073:0=0:=rfl
theorem tw11714018605273104601:0=0:=rfl
theorem tw601330729018363970:0=0:=rfl
theorem tw3557293481357095041:0=0:=rfl
theorem tw17788193057316025283:0=0:=rfl
theorem tw8698395039044472790:0=0:=rfl
theorem tw1031591307897519792:0=0:=rfl
theorem tw11410909720898771706:0=0:=rfl
theorem tw9400685277355157236:0=0:=rfl
theorem tw3110564132942814451:0=0:=rfl
theorem tw2729255914654625561:0=0:=rfl
theorem tw11852099150843351602:0=0:=rfl
theorem tw6322507059297153792:0=0:=rfl
theorem tw8907114544167208706:0=0:=rfl
theorem tw12073566113682203642:0=0:=rfl
theorem tw5656826919644035538:0=0:=rfl
theorem tw14122980486918342384:0=0:=rfl
theorem tw7898609773646830176:0=0:=rfl
theorem tw13726896181343273755:0=0:=rfl
theorem tw8060055454483613036:0=0:=rfl
theorem tw2843086127124081472:0=0:=rfl
theorem tw10086083068446971127:0=0:=rfl
theorem tw5677664328798292930:0=0:=rfl
theorem tw17866712238223197251:0=0:=rfl
theorem tw17706743112451060567:0=0:=rfl
theorem tw8460181878814268337:0=0:=rfl
theorem tw12144806483405702516:0=0:=rfl
theorem tw13545965681668390379:0=0:=rfl
theorem tw15172651669055749958:0=0:=rfl
theorem tw11369303846594223264:0=0:=rfl
theorem tw7304017801860087946:0=0:=rfl
theorem tw4973704065159210155:0=0:=rfl
theorem tw14046778964282680516:0=0:=rfl
theorem tw7625605299246412766:0=0:=rfl
theorem tw9419524224973119278:0=0:=rfl
theorem tw390976807908883394:0=0:=rfl
theorem tw14616519271776623140:0=0:=rfl
theorem tw5135057311027871833:0=0:=rfl
theorem tw15090556612513265619:0=0:=rfl
theorem tw16344963506449271551:0=0:=rfl
theorem tw966044865279191371:0=0:=rfl
theorem tw518410578646020615:0=0:=rfl
theorem tw15064420524944512649:0=0:=rfl
theorem tw10842377258841683065:0=0:=rfl
theorem tw1895322422254977663:0=0:=rfl
theorem tw6909223623326786478:0=0:=rfl
theorem tw13309252446020551772:0=0:=rfl
theorem tw16581186475909614605:0=0:=rfl
theorem tw4011257131620660731:0=0:=rfl
theorem tw743951465707363069:0=0:=rfl
theorem tw9933082873594528023:0=0:=rfl
theorem tw15281982591334023826:0=0:=rfl
theorem tw8208726768592264690:0=0:=rfl
theorem tw11863626291629064991:0=0:=rfl
theorem tw3173316082212826344:0=0:=rfl
theorem tw8115902489324810472:0=0:=rfl
theorem tw16451706704885053714:0=0:=rfl
theorem tw17655547543738897144:0=0:=rfl
theorem tw16770280797289176326:0=0:=rfl
theorem tw6232966271278881671:0=0:=rfl
theorem tw18402273247173134015:0=0:=rfl
theorem tw9908533973589371567:0=0:=rfl
theorem tw6655698235526329754:0=0:=rfl
theorem tw10993127620181158573:0=0:=rfl
theorem tw2765963196656858482:0=0:=rfl
theorem tw7053403616906684281:0=0:=rfl
theorem tw18123178859382779339:0=0:=rfl
theorem tw11857604375385838861:0=0:=rfl
theorem tw3965782976403407105:0=0:=rfl
theorem tw10735451853045975896:0=0:=rfl
theorem tw3448126620148936047:0=0:=rfl
theorem tw2797331301005437213:0=0:=rfl
theorem tw8470796121826515429:0=0:=rfl
theorem tw6735306226757628279:0=0:=rfl
theorem tw5479115023914320555:0=0:=rfl
theorem tw4021585134101348769:0=0:=rfl
theorem tw13507843209323529738:0=0:=rfl
theorem tw10354051848335416297:0=0:=rfl
theorem tw7393540635980618945:0=0:=rfl
theorem tw4999649334090280931:0=0:=rfl
theorem tw14732344168279772911:0=0:=rfl
theorem tw16895494110951516469:0=0:=rfl
theorem tw12381600306106856311:0=0:=rfl
theorem tw4896882251612500836:0=0:=rfl
theorem tw1227450819858010723:0=0:=rfl
theorem tw8011114618029135117:0=0:=rfl
theorem tw6394436605976364345:0=0:=rfl
theorem tw13871099438263677161:0=0:=rfl
theorem tw4382686380390337495:0=0:=rfl
theorem tw16140581029292848436:0=0:=rfl
theorem tw11787429879532064808:0=0:=rfl
theorem tw14561925037298492735:0=0:=rfl
theorem tw6535280917658716242:0=0:=rfl
theorem tw6685731475576477017:0=0:=rfl
theorem tw6168990535029341061:0=0:=rfl
theorem tw6760393525975625018:0=0:=rfl
theorem tw7310085665860295667:0=0:=rfl
theorem tw11120559132914843598:0=0:=rfl
theorem tw12095268274334332004:0=0:=rfl
theorem tw4783520793417726722:0=0:=rfl
theorem tw16956412088055244865:0=0:=rfl
theorem tw13700431178676309501:0=0:=rfl
theorem tw5647839883606077662:0=0:=rfl
theorem tw9343183380868724488:0=0:=rfl
theorem tw10621884964660807868:0=0:=rfl
theorem tw1407055267308781812:0=0:=rfl
theorem tw5925513738542523337:0=0:=rfl
theorem tw18441900256350915450:0=0:=rfl
theorem tw17693054687948777068:0=0:=rfl
theorem tw2862036488879009885:0=0:=rfl
theorem tw17717633226299679297:0=0:=rfl
theorem tw13727147020391848532:0=0:=rfl
theorem tw2108996615688275371:0=0:=rfl
theorem tw17641620483244404458:0=0:=rfl
theorem tw17558350129053642735:0=0:=rfl
theorem tw10468229828535899108:0=0:=rfl
theorem tw3692881840979240109:0=0:=rfl
theorem tw11929216799712827270:0=0:=rfl
theorem tw16259617552632778139:0=0:=rfl
theorem tw13906457917049860007:0=0:=rfl
theorem tw14300846282587724942:0=0:=rfl
theorem tw10970480627154746965:0=0:=rfl
theorem tw6791161569836420025:0=0:=rfl
theorem tw38792961152676588:0=0:=rfl
theorem tw2617918525125419554:0=0:=rfl
theorem tw17456795514398594215:0=0:=rfl
end PySem.W.Fast
open PySem PySem.W PyProof.Rows
set_option maxRecDepth 100000 in
set_option maxHeartbeats 0 in
theorem PySem.Challenge.cw_formshift_k15_form_written_holds : PySem.Challenge.rw_formshift_k15_form_written.Holds := by
  w_on; o_law; k_head; (case hw => w_witness2)
  k_fill
  refine L2.walk_ofK (l := PySem.Challenge.rw_formshift_k15_form_written) (n := 63) (k := 6) (x := "script") (CX := L2.CX0) (sp := fun K => DL.spD K Lw.F_law) rfl (by decide) rfl ⟨rfl, by decide, by decide⟩ (fun w h Y => PySem.W.kIn_of Y) ?F ?S ?C
  case F =>
    intro w mg fa h KX G hmg;refine' Lw.all_mk KX G hmg ?_ ?_ ?_ ?_ ?_ ?_ ?_ ?_ ?_ ?_ ?_ ?_ ?_ ?_ ?_ ?_ ?_ ?_ ?_ ?_ ?_ ?_ ?_ ?_ ?_ ?_ ?_ ?v_FIGURES ?v_MOST_ARROWS ?v_MOST_FIGURES ?v_MOST_KINDS ?ea_NotRead ?eq_NotRead ?_ ?_ ?_ ?_ ?_ ?_ ?ea_ShiftError ?eq_ShiftError ?_ ?_ ?_ ?_ ?_ ?_ ?ea_TooWide ?eq_TooWide ?_ ?_ ?_ ?_ ?_ ?_ ?_ ?_ ?_ ?_ ?_ ?N_NotRead_TooWide
    (case v_FIGURES=>k_is)
    (case v_MOST_ARROWS=>k_is)
    (case v_MOST_FIGURES=>k_is)
    (case v_MOST_KINDS=>k_is)
    (case ea_NotRead=>k_is)
    (case eq_NotRead=>k_exc)
    (case ea_ShiftError=>k_is)
    (case eq_ShiftError=>k_exc)
    (case ea_TooWide=>k_is)
    (case eq_TooWide=>k_exc)
    (case N_NotRead_TooWide=>decide)
    all_goals first|k_is|trivial
  case S => exact fun K H a ns hl hO hS => DL.law_end hS hl Lw.law_true
  case C => exact fun _ _ _ _ z => z

