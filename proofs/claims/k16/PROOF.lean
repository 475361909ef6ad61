import PyProof.Rows.All
import Wide.All
import OpenK.AllK
import PySem.Challenge.RW_formshift_k16_book_written
open Option renaming bind_some → aa, map_some → ag, some → aL, isSome_iff_exists → CJ
open List renaming getElem?_set_ne → ae, length_map → ah, length_cons → aj, mem_cons_of_mem → ao, getElem?_set_self → aq, length_append → au, mem_append_right → av, mem_cons → aw, size_toArray → aA, mem_append_left → aB, mem_cons_self → aC, map_cons → aD, getElem?_eq_some_iff → aE, mem_append → aG, length_singleton → aJ, append_assoc → aK, mem_singleton → aM, getElem?_map → aN, length_set → aP, mem_of_getElem? → aQ, getD_eq_getElem?_getD → aR, length_replicate → aS, append_nil → aT, getElem?_append_right → aU, range → aV, nodup_cons → aW, mem_filter → aX, lookup_cons → aZ, length_drop → ba, getElem?_eq_getElem → bc, all_eq_true → bh, map_append → bj, flatMap_cons → bq, filterMap_cons → br, set_eq_of_length_le → bw, length_range → bx, of_mem_zip → bz, length_take → bB, zip_cons_cons → bC, replicate → bD, getElem?_append_left → bF, not_mem_nil → bH, mem_map → bJ, length_nil → bK, set → bN, map_nil → bO, nil_append → bQ, getElem?_replicate → bS, getElem?_cons_succ → bT, cons_append → bV, all_cons → bW, mem_of_mem_drop → bX, forIn_cons → bY, map_map → CF, all_map → CG, drop_eq_getElem_cons → CI
open PySem renaming wpAny_bind → af, wpAny_pure → ay, wpAny_field → bp, wpAny_holding → bA, wpAny_newObj_type → bG, wpAny_setField_rec → bI
open PySem.Heap renaming get?_push_of_some → ai, lt_size → aF, get?_push_size → aI, size_push → bE
open Nat renaming le_refl → az, lt_of_lt_of_le → aH, ne_of_lt → aO, lt_irrefl → aY, le_trans → bg, zero_le → bt, le_of_succ_le → bL, le_succ → bR, zero_add → bZ, ne_of_gt → CB, lt_or_ge → CC
open Array renaming length_toList → bf, getElem?_eq_getElem → bP, append_assoc → CH
open Int renaming emod_lt_of_pos → bo, emod_nonneg → bu, toNat_natCast → bU
local macro_rules | `(⋯) => `(by omega)
set_option compiler.extract_closed false
set_option genSizeOf false
set_option genInjectivity false
set_option Elab.async false
set_option linter.all false
set_option maxRecDepth 100000
namespace L2
open PySem PySem.Spec PyProof.Rows
noncomputable abbrev rS:=Sum Int Str
noncomputable def zj:rS->Value->Bool
 |.inl k,v=>Value.isInt k v
 |.inr x,v=>Value.isStrOf x v
noncomputable def BP (w:World):rS->Int
 |.inl k=>hashInt k
 |.inr x=>hashStr w x
theorem dI:∀{k:rS}{v:Value},zj k v=true->(∃i t,k=Sum.inl i/\v=Value.int i t)\/(∃x t,k=Sum.inr x/\v=Value.str x t)
 | .inl i,v,h=>by
  obtain⟨t,e⟩:=Value.isInt_shape (k:=i) (v:=v) h;exact .inl ⟨i,t,rfl,e⟩
 | .inr x,v,h=>by
  obtain⟨t,e⟩:=Value.isStrOf_shape (x:=x) (v:=v) h;exact .inr ⟨x,t,rfl,e⟩
theorem z8 (a b:Int):decide ((Sum.inl a:rS)=Sum.inl b)=(a==b):=by
 by_cases e:a=b
 ·subst e;simp
 ·have h:¬(Sum.inl a:rS)=Sum.inl b:=fun q=>e (Sum.inl.inj q);rw[decide_eq_false h];exact (beq_eq_false_iff_ne.mpr e).symm
theorem z0 (a b:Str):decide ((Sum.inr a:rS)=Sum.inr b)=decide (a=b):=by
 by_cases e:a=b
 ·subst e;simp
 ·have h:¬(Sum.inr a:rS)=Sum.inr b:=fun q=>e (Sum.inr.inj q);rw[decide_eq_false h,decide_eq_false e]
theorem z7 (a:Int)(b:Str):decide ((Sum.inl a:rS)=Sum.inr b)=false:=decide_eq_false (fun q=>nomatch q)
theorem z6 (a:Str)(b:Int):decide ((Sum.inr a:rS)=Sum.inl b)=false:=decide_eq_false (fun q=>nomatch q)
noncomputable def tK (prog:Program)(w:World):PySem.KeyKind prog w rS where
 is:=zj
 hash:=BP w
 inj:=fun v a b ha hb=>by
  rcases dI ha with ⟨i,t,rfl,rfl⟩|⟨x,t,rfl,rfl⟩
  ·rcases dI hb with ⟨j,u,rfl,e⟩|⟨y,u,rfl,e⟩
   ·injection e with e1 _;rw[e1]
   ·exact nomatch e
  ·rcases dI hb with ⟨j,u,rfl,e⟩|⟨y,u,rfl,e⟩
   ·exact nomatch e
   ·injection e with e1 _;rw[e1]
 byValue:=fun k v h=>by
  rcases dI h with ⟨i,t,rfl,rfl⟩|⟨x,t,rfl,rfl⟩ <;> rfl
 pyHash:=fun hv h=>by
  rcases dI hv with ⟨i,t,rfl,rfl⟩|⟨x,t,rfl,rfl⟩
  ·exact wpAny_pyHash_int h
  ·exact wpAny_pyHash_str h
 eqBool:=fun hu hv h=>by
  rcases dI hu with ⟨i,t,rfl,rfl⟩|⟨x,t,rfl,rfl⟩
  ·rcases dI hv with ⟨j,u,rfl,rfl⟩|⟨y,u,rfl,rfl⟩
   ·rw[z8] at h;exact wpAny_eqBool_int h
   ·rw[z7] at h;exact SeqAt.EqAt.int_str i t y u _ _ _ _ h
  ·rcases dI hv with ⟨j,u,rfl,rfl⟩|⟨y,u,rfl,rfl⟩
   ·rw[z6] at h;exact SeqAt.EqAt.str_int x t j u _ _ _ _ h
   ·rw[z0] at h;exact wpAny_eqBool_str h
 «strs»:=fun k x t v h=>by
  rcases dI h with ⟨i,u,rfl,e⟩|⟨y,u,rfl,e⟩
  ·exact nomatch e
  ·injection e with e1 _
   subst e1;cases v <;> rfl
end L2
namespace L2
open PySem PySem.Spec PyProof.Rows
inductive V where
 |non|bl (b:Bool)|int (i:Int)|str (x:Str)|byt (b:Array UInt8)|flt (b:UInt64)|ref (a:Addr)|ty (n:String)
 deriving DecidableEq
noncomputable def cP:V->Value->Prop
 |.non,u=>u=Value.none
 |.bl b,u=>u=Value.bool b
 |.int i,u=>∃t,u=Value.int i t
 |.str x,u=>∃t,u=Value.str x t
 |.byt b,u=>∃t,u=Value.bytes b t
 |.flt b,u=>∃t,u=Value.float b t
 |.ref a,u=>u=Value.ref a
 |.ty n,u=>u=Value.type n
noncomputable abbrev cH:List V->List Value->Prop:=Paired cP
theorem cH.length {xs:List V}{us:List Value}(r:cH xs us):xs.length=us.length:=Paired.length r
theorem cH.get:∀{xs:List V}{us:List Value}{i:Nat}{x:V},cH xs us->xs[i]?=some x->∃u,us[i]?=some u/\cP x u
 |_,_,_,_,.nil,e=>by simp at e
 |_,_,0,_,.cons r _,e=>by simp at e;subst e;exact⟨_,rfl,r⟩
 | _,_,i+1,x,.cons _ t,e=>by
  obtain⟨u,h1,h2⟩:=cH.get (i:=i) (x:=x) t (by simpa using e);exact⟨u,by simpa using h1,h2⟩
theorem cH.set {x:V}{u:Value}(r:cP x u):∀{xs:List V}{us:List Value} (i:Nat),cH xs us->cH (xs.set i x) (us.set i u)
 |_,_,_,.nil=>.nil
 |_,_,0,.cons _ t=>.cons r t
 |_,_,i+1,.cons q t=>.cons q (cH.set r i t)
theorem cH.append:∀{xs ys:List V}{us ws:List Value},cH xs us->cH ys ws->cH (xs++ys) (us++ws):=by
 intro xs ys us ws h s;induction h with
 |nil=>exact s
 |cons r t ih=>exact .cons r ih
theorem cH.take:∀{xs:List V}{us:List Value} (n:Nat),cH xs us->cH (xs.take n) (us.take n)
 |_,_,0,_=>.nil
 |_,_,_+1,.nil=>.nil
 |_,_,n+1,.cons r t=>.cons r (cH.take n t)
theorem cH.drop:∀{xs:List V}{us:List Value} (n:Nat),cH xs us->cH (xs.drop n) (us.drop n)
 |_,_,0,r=>r
 |_,_,_+1,.nil=>.nil
 |_,_,n+1,.cons _ t=>cH.drop n t
noncomputable def Bn:Option V->Option Value->Prop
 |some v,some u=>cP v u
 |none,none=>True
 |_,_=>False
noncomputable def KV {κ:Type}:List (κ×V)->List (κ×Value)->Prop:=Paired fun (p:κ×V) (q:κ×Value)=>p.1=q.1/\cP p.2 q.2
noncomputable def kV:rS->V
 |.inl i=>.int i
 |.inr x=>.str x
inductive HO where
 |lst (xs:List V)
 |tup (xs:List V)
 |dK (kvs:List (rS×V))|dT (kvs:List (List rS×V))
 |set (S:Int->Bool) (n:Nat)
 |ins (C dx:Addr) (fs:List (Str×V))
 |own (x:Addr)
 |xd (fs:List (Str×V))
 |met (f x:Addr)
 |rng (lo hi:Int)
 |frz (o:Obj) (u:HO)
 |tbl (ps:Array Value)
 |ext (φ:Heap->Prop)
noncomputable abbrev Hp:=Addr->Option HO
noncomputable def cZ (H:Hp)(a:Addr)(o:HO):Hp:=fun b=>if b=a then some o else H b
theorem cA {H:Hp}{a:Addr}{o:HO}:cZ H a o a=some o:=by unfold cZ;rw[if_pos rfl]
theorem cq {H:Hp}{a b:Addr}{o:HO}(h:b≠a):cZ H a o b=H b:=by unfold cZ;rw[if_neg h]
theorem cg {H:Hp}{a b:Addr}{o:HO}(h:H a=some o)(h':H b=none):a≠b:=by
 intro e;subst e;rw[h] at h';cases h'
section
variable (P:Program)(w:World)
noncomputable def gq (H:Hp)(h:Heap)(a:Addr):HO->Prop
 |.lst xs=>xs.length<=sizeLine/\∃(its:List Value) (n:Nat),cH xs its/\h.get? a=some { cls:=.type "list", data:=.seq its.toArray n }
 |.tup xs=>xs.length<=sizeLine/\∃its:List Value,cH xs its/\IsTup h a its.toArray
 |.dK kvs=>kvs.length<=sizeLine/\(a==sysModules)=false/\∃vs,KV kvs vs/\h.DictOf (tK P w) a vs
 | .dT kvs=>kvs.length<=sizeLine/\(a==sysModules)=false/\∃xs:List (List rS×Addr×Value),
   Paired (fun (p:List rS×V) (q:List rS×Addr×Value)=>p.1=q.1/\H q.2.1=some (.tup (p.1.map kV))/\cP p.2 q.2.2) kvs xs ∧
   ∃o es ep,h.get? a=some o/\o.ExactDict/\o.data=.dict es ep/\es.toList=xs.map (entryOfKey (tupleKind (tK P w)))/\(xs.map (·.1)).Nodup
 |.set S n=>h.SetOf (intKind P w) a S n
 | .ins C dx fs=>H dx=some (.own a)/\fs.length<=1000/\dx≠a/\h.get? a=some (PySem.W.instObj C dx) ∧
   ∃mA,h.Ns1 dx mA/\(∀f,Bn (fs.lookup f) (mA f))/\PySem.Within mA (fs.map (·.1))
 |.own _=>∃o,h.get? a=some o
 |.xd fs=>∃mA,h.Ns1 a mA/\∀f,Bn (fs.lookup f) (mA f)
 |.rng lo hi=>∃t u v,h.get? a=some { cls:=.type "range", data:=.fields #[.int lo t,.int hi u,.int 1 v] }
 |.frz o u=>h.get? a=some o/\gq H h a u
 |.tbl ps=>h.get? a=some { cls:=.none,data:=.fields ps }
 |.met f x=>h.get? a=some (PySem.W.methodObj (.ref f) (.ref x))
 |.ext φ=>φ h/\(∃o,h.get? a=some o)/\∀h1 h2:Heap,φ h1->(∀o,h1.get? a=some o->h2.get? a=some o)->φ h2
def lj (H:Hp)(h:Heap):Prop:=∀a o,H a=some o->gq P w H h a o
end
section
variable {P:Program}{w:World}{H H':Hp}{h h':Heap}{a:Addr}{o:HO}
theorem gq.lt (x:gq P w H h a o):a<h.objs.size:=by
 cases o with
 |lst xs=>obtain⟨_,_,_,_,e⟩:=x;exact aF e
 |tup xs=>obtain⟨_,_,_,p⟩:=x;exact p.lt
 |dK kvs=>obtain⟨_,_,_,_,o,_,_,e,_⟩:=x;exact aF e
 |dT kvs=>obtain⟨_,_,_,_,o,_,_,e,_⟩:=x;exact aF e
 |set S n=>obtain⟨o,_,_,_,e,_⟩:=x;exact aF e
 |ins C dx fs=>obtain⟨_,_,_,e,_⟩:=x;exact aF e
 |own y=>obtain⟨_,e⟩:=x;exact aF e
 |xd fs=>obtain⟨_,⟨_,_,_,e,_⟩,_⟩:=x;exact aF e
 |rng lo hi=>obtain⟨_,_,_,e⟩:=x;exact aF e
 |frz ob u=>obtain⟨e,_⟩:=x;exact aF e
 |tbl ps=>exact aF (show h.get? a=some _ from x)
 |met f y=>exact aF (show h.get? a=some _ from x)
 |ext φ=>obtain⟨_,⟨_,e⟩,_⟩:=x;exact aF e
theorem Paired.mapP {α β:Type}{F G:α->β->Prop}:∀{l₁:List α}{l₂:List β},Paired F l₁ l₂->(∀a b,F a b->G a b)->Paired G l₁ l₂:=by
 intro l₁ l₂ h f;induction h with
 |nil=>exact .nil
 |cons r t ih=>exact .cons (f _ _ r) ih
theorem gq.stay (x:gq P w H h a o)(k:∀b u,(b=a\/H b=some (.own a))->h.get? b=some u->h'.get? b=some u)
  (ho:∀b,H b=some (.own a)->H' b=some (.own a)) (ht:∀b xs,H b=some (.tup xs)->H' b=some (.tup xs)):gq P w H' h' a o:=by
 induction o with
 |lst xs=>obtain⟨z,its,n,r,e⟩:=x;exact⟨z,its,n,r,k _ _ (.inl rfl) e⟩
 |tup xs=>obtain⟨z,its,r,ob,e,c⟩:=x;exact⟨z,its,r,ob,k _ _ (.inl rfl) e,c⟩
 |dK kvs=>obtain⟨z,y,vs,r,ob,es,ep,e,c⟩:=x;exact⟨z,y,vs,r,ob,es,ep,k _ _ (.inl rfl) e,c⟩
 |dT kvs =>
  obtain⟨z,y,xs,r,ob,es,ep,e,c⟩:=x;exact⟨z,y,xs,Paired.mapP r fun p q z=>⟨z.1,ht _ _ z.2.1,z.2.2⟩,ob,es,ep,k _ _ (.inl rfl) e,c⟩
 |set S n=>obtain⟨ob,es,ep,t,e,c⟩:=x;exact⟨ob,es,ep,t,k _ _ (.inl rfl) e,c⟩
 |ins C dx fs =>
  obtain⟨d,z,ne,e,mA,⟨od,es,ep,e2,c⟩,r⟩:=x;exact⟨ho _ d,z,ne,k _ _ (.inl rfl) e,mA,⟨od,es,ep,k _ _ (.inr d) e2,c⟩,r⟩
 |own y=>obtain⟨ob,e⟩:=x;exact⟨ob,k _ _ (.inl rfl) e⟩
 |xd fs=>obtain⟨mA,⟨od,es,ep,e,c⟩,r⟩:=x;exact⟨mA,⟨od,es,ep,k _ _ (.inl rfl) e,c⟩,r⟩
 |rng lo hi=>obtain⟨t,u,v,e⟩:=x;exact⟨t,u,v,k _ _ (.inl rfl) e⟩
 |frz ob u ih=>obtain⟨e,q⟩:=x;exact⟨k _ _ (.inl rfl) e,ih q⟩
 |tbl ps =>
  have e:h.get? a=some { cls:=.none,data:=.fields ps }:=x;show h'.get? a=some { cls:=.none,data:=.fields ps };exact k a _ (.inl rfl) e
 |met f y =>
  have e:h.get? a=some (PySem.W.methodObj (.ref f) (.ref y)):=x;show h'.get? a=some (PySem.W.methodObj (.ref f) (.ref y));exact k a _ (.inl rfl) e
 |ext φ=>obtain⟨p,⟨o,e⟩,st⟩:=x;exact⟨st _ _ p fun o q=>k _ _ (.inl rfl) q,⟨o,k _ _ (.inl rfl) e⟩,st⟩
theorem lj.lt (x:lj P w H h)(e:H a=some o):a<h.objs.size:=(x a o e).lt
theorem lj.fresh (x:lj P w H h)(e:h.objs.size<=a):H a=none:=by
 cases q:H a with
 |none=>rfl
 |some u=>exact absurd (aH (x.lt q) e) (aY _)
theorem lj.kept (x:lj P w H h)(k:∀b u,h.get? b=some u->h'.get? b=some u):lj P w H h':=fun a o e =>
 (x a o e).stay (fun b u _ q=>k b u q) (fun _ q=>q) fun _ _ q=>q
theorem lj.laid (x:lj P w H h)(k:∀b u,h.get? b=some u->h'.get? b=some u)(hp:h.objs.size<=a)(new:gq P w (cZ H a o) h' a o):lj P w (cZ H a o) h':=fun b u e=>by
 have hn:=x.fresh hp;by_cases hb:b=a
 ·subst hb;rw[cA] at e;cases e;exact new
 ·rw[cq hb] at e;exact (x b u e).stay (fun c v _ q=>k c v q) (fun c q=>by rw[cq (cg q hn)];exact q) fun c xs q=>by rw[cq (cg q hn)];exact q
end
def Rd (H:Hp)(a:Addr)(u:HO):Prop:=H a=some u\/∃o,H a=some (.frz o u)
theorem Rd.ok {P:Program}{w:World}{H:Hp}{h:Heap}{a:Addr}{u:HO}(r:Rd H a u)(x:lj P w H h):gq P w H h a u:=by
 rcases r with r|⟨o,r⟩
 ·exact x a u r
 ·obtain⟨_,q⟩:=x a _ r;exact q
noncomputable def Bz:Option HO->Prop
 |some (.lst _)=>True
 |some (.dK _)=>True
 |some (.dT _)=>True
 |some (.set _ _)=>True
 |some (.ins _ _ _)=>True
 |some (.ext _)=>True
 |_=>False
section
variable {P:Program}{w:World}{H:Hp}{h h':Heap}{x e:Addr}{o':HO}
theorem lj.write (ok:lj P w H h)(mu:Bz (H x))(he:e=x\/H e=some (.own x))(k:∀b u,b≠e->h.get? b=some u->h'.get? b=some u)(heo:∃u,h'.get? e=some u)
  (new:gq P w (cZ H x o') h' x o'):lj P w (cZ H x o') h':=fun b u q=>by
 have nown:∀c y,H c=some (.own y)->c≠x:=fun c y r z=>by subst z;rw[r] at mu;exact mu
 have ntup:∀c xs,H c=some (.tup xs)->c≠x:=fun c xs r z=>by subst z;rw[r] at mu;exact mu
 by_cases hb:b=x
 ·subst hb;rw[cA] at q;cases q;exact new
 ·rw[cq hb] at q;by_cases hbe:b=e
  ·have q':H b=some (.own x):=by
    rcases he with z|z
    ·exact absurd (hbe.trans z) hb
    ·rw[hbe];exact z
   rw[q] at q';cases q';obtain⟨v,hv⟩:=heo;exact⟨v,by rw[hbe];exact hv⟩
  ·refine (ok b u q).stay (fun c v hc r=>k c v ?_ r) (fun c r=>by rw[cq (nown c b r)];exact r) fun c xs r=>by rw[cq (ntup c xs r)];exact r
   rcases hc with rfl|hc
   ·exact hbe
   ·rintro rfl;rcases he with z|z
    ·exact nown c b hc z
    ·rw[hc] at z;cases z;exact hb rfl
end
structure Un (fs ex:List Addr)(H H':Hp)(h h':Heap):Prop where
 keep:∀b o,h.get? b=some o->H b=none->b∉fs->b∉ex->h'.get? b=some o
 slot:∀b o,h.get? b=some o->H b=none->b∈fs->b∉ex->∃sl,h'.get? b=some { o with slots:=sl }
 free:∀b o,h.get? b=some o->H b=none->b∉ex->H' b=none
 there:∀b o,h.get? b=some o->b∉ex->∃o',h'.get? b=some o'
 tups:∀b xs,H b=some (.tup xs)->H' b=some (.tup xs)
 frzs:∀b o u,H b=some (.frz o u)->H' b=some (.frz o u)
 tbls:∀b ps,H b=some (.tbl ps)->∃more,H' b=some (.tbl (ps++more))
section
variable {fs fs' ex ex':List Addr}{H H1 H2:Hp}{h h1 h2 h':Heap}{a x e:Addr}{o:HO}
theorem Un.any (u:Un fs ex H H1 h h1){b:Addr}{ob:Obj}(q:h.get? b=some ob)(n:H b=none)(hx:b∉ex):∃sl,h1.get? b=some { ob with slots:=sl }:=by
 by_cases hb:b∈fs
 ·exact u.slot b ob q n hb hx
 ·exact⟨ob.slots,u.keep b ob q n hb hx⟩
theorem Un.trans (a:Un fs ex H H1 h h1)(b:Un fs ex H1 H2 h1 h2):Un fs ex H H2 h h2 where
 keep:=fun c ob q n hc hx=>b.keep c ob (a.keep c ob q n hc hx) (a.free c ob q n hx) hc hx
 slot:=fun c ob q n hc hx=>by
  obtain⟨sl,e1⟩:=a.slot c ob q n hc hx;obtain⟨sl',e2⟩:=b.slot c _ e1 (a.free c ob q n hx) hc hx;exact⟨sl',e2⟩
 free:=fun c ob q n hx=>by
  obtain⟨o',e1⟩:=a.there c ob q hx;exact b.free c o' e1 (a.free c ob q n hx) hx
 there:=fun c ob q hx=>by
  obtain⟨o',e1⟩:=a.there c ob q hx;exact b.there c o' e1 hx
 tups:=fun c xs q=>b.tups c xs (a.tups c xs q)
 frzs:=fun c ob xs q=>b.frzs c ob xs (a.frzs c ob xs q)
 tbls:=fun c ps q=>by
  obtain⟨m1,e1⟩:=a.tbls c ps q;obtain⟨m2,e2⟩:=b.tbls c _ e1;exact⟨m1++m2,by rw[e2,CH]⟩
theorem Un.kept (k:∀b u,h.get? b=some u->h'.get? b=some u):Un fs ex H H h h' :=
 ⟨fun b ob q _ _ _=>k b ob q,fun b ob q _ _ _=>⟨ob.slots,k b ob q⟩,fun _ _ _ n _=>n,fun b ob q _=>⟨ob,k b ob q⟩,fun _ _ q=>q,fun _ _ _ q=>q,fun _ ps q=>⟨#[],by rw[q];simp⟩⟩
theorem Un.refl:Un fs ex H H h h:=Un.kept fun _ _ q=>q
theorem Un.laid (k:∀b u,h.get? b=some u->h'.get? b=some u)(hp:h.objs.size<=a)(hn:H a=none):Un fs ex H (cZ H a o) h h' where
 keep:=fun b u q _ _ _=>k b u q
 slot:=fun b u q _ _ _=>⟨u.slots,k b u q⟩
 free:=fun b u q n _=>by rw[cq (aO (aH (aF q) hp))];exact n
 there:=fun b u q _=>⟨u,k b u q⟩
 tups:=fun b xs q=>by rw[cq (cg q hn)];exact q
 frzs:=fun b u xs q=>by rw[cq (cg q hn)];exact q
 tbls:=fun b ps q=>⟨#[],by rw[cq (cg q hn),q];simp⟩
theorem Un.write (mu:Bz (H x))(he:e=x\/H e=some (.own x))(k:∀b u,b≠e->h.get? b=some u->h'.get? b=some u)(heo:∃u,h'.get? e=some u):Un fs ex H (cZ H x o) h h':=by
 have hx:∀b,H b=none->b≠x:=fun b n z=>by subst z;rw[n] at mu;exact mu
 have hb:∀b,H b=none->b≠e:=fun b n z=>by
  subst z;rcases he with r|r
  ·exact hx b n r
  ·rw[n] at r;cases r
 have hm:∀b u,H b=some u->¬Bz (some u)->b≠x:=fun b u q nm z=>by subst z;rw[q] at mu;exact nm mu
 refine⟨fun b u q n _ _=>k b u (hb b n) q,fun b u q n _ _=>⟨u.slots,k b u (hb b n) q⟩,fun b u q n _=>by rw[cq (hx b n)];exact n,fun b u q _=>?_,
  fun b xs q=>by rw[cq (hm b _ q fun z=>z)];exact q,fun b u xs q=>by rw[cq (hm b _ q fun z=>z)];exact q,fun b ps q=>⟨#[],by rw[cq (hm b _ q fun z=>z),q];simp⟩⟩
 by_cases hbe:b=e
 ·subst hbe;exact heo
 ·exact⟨u,k b u hbe q⟩
end
noncomputable def zG (h:Heap)(H:Hp):List Addr:=(aV h.objs.size).filter fun a=>(H a).isSome
noncomputable def pT (h:Heap)(H:Hp):Heap:=PySem.W.hideAll h (zG h H)
theorem ve (h:Heap)(H:Hp):(pT h H).objs.size=h.objs.size:=PySem.W.hideAll_size _ _
theorem wZ {h:Heap}{H:Hp}{b:Addr}{o:Obj}(e:h.get? b=some o)(n:H b=none):(pT h H).get? b=some o :=
 PySem.W.hideAll_get _ e fun hm=>by
  have q:(H b).isSome=true:=(aX.mp hm).2;rw[n] at q;simp at q
theorem yl {h:Heap}{H:Hp}{b:Addr}{o:Obj}(e:(pT h H).get? b=some o):h.get? b=some o/\H b=none:=by
 have e':h.get? b=some o:=PySem.W.of_hideAll (zG h H) e;refine⟨e',?_⟩;cases q:H b with
 |none=>rfl
 |some x =>
  have hm:b∈zG h H:=aX.mpr ⟨List.mem_range.mpr (aF e'),by simp[q]⟩;have z:(pT h H).get? b=none:=PySem.W.hideAll_none (zG h H) hm;rw[z] at e;cases e
noncomputable def y0 (g h:Heap)(L:Addr):List (Addr×Obj):=(aV h.objs.size).filterMap fun a=>if a=L\/(g.get? a).isSome=true then none else (h.get? a).map fun o=>(a,o)
noncomputable def dG (g h:Heap)(L d:Addr):List (Addr×Obj):=(y0 g h L).filter fun p=>decide (p.1≠d)
end L2
namespace L2
open PySem PySem.Spec PyProof.Rows
structure Mod (K:PySem.W.Frag)(mg:Str->Option Value)(base:Heap):Prop where
 kin:K.In base
 glob:base.Ns mainGlobals mg
 blt:∃mb,base.Ns builtinsNs mb/\∀x:Str,x ≠ "__name__" ->mb x=bootBuiltins x
 nolimit:base.NoLimit
structure Cx where
 prog:Program
 w:World
 K:PySem.W.Frag
 mg:Str->Option Value
 base:Heap
 A:Around
 N:List Str
 s₀:Shared
 H₀:Hp
 env:Env
 outer:List Env
 stack:List Env
 ex:List Addr
 fn:Str->Bool
 calm:Bool
 pn:List (Addr×Obj)
 xe:Value->Shared->Prop
noncomputable def frs (l:List Env):List Addr:=l.filterMap (·.frame)
noncomputable abbrev Cx.fs (X:Cx):List Addr:=frs X.outer
def Vis (sc:Scope)(x:Str):Prop:=sc.names.lookup x=some .local\/sc.names.lookup x=some .cell\/sc.names.lookup x=some .free
def Loc (sc:Scope)(x:Str):Prop:=sc.names.lookup x=some .local\/sc.names.lookup x=some .cell
noncomputable def Bp (env:Env)(h:Heap)(m:Str->Option Value)(x:Str)(u:Value):Prop :=
 (env.kindOf x=some .local/\m x=some u)\/((env.kindOf x=some .cell\/env.kindOf x=some .free)/\∃c,env.cells.lookup x=some c/\h.IsCell c (some u))
structure Cx.Ok (X:Cx):Prop where
 mod:Mod X.K X.mg X.base
 kind:X.env.scope.kind=.function
 glob:X.env.globals=mainGlobals
 blt:X.env.builtins=builtinsNs
 above:X.s₀.heap.objs.size<=X.env.locals
 inj:∀x y c,X.env.cells.lookup x=some c->X.env.cells.lookup y=some c->x=y
 has:∀x,(X.env.kindOf x=some .cell\/X.env.kindOf x=some .free)->∃c,X.env.cells.lookup x=some c
 cab:∀x c,X.fn x=true->X.env.cells.lookup x=some c->X.s₀.heap.objs.size<=c
 hd:X.calm=true->X.A.handled=none
 frames:X.A.frames=some X.stack
 stk:X.stack=X.outer\/(X.stack=X.env::X.outer/\X.env.frame=some X.env.locals)
 exf:∀b∈X.ex,b≠X.env.locals/\∀x c,X.env.cells.lookup x=some c->c≠b
 bs:∀b o,X.base.get? b=some o->X.s₀.heap.get? b=some o/\X.H₀ b=none
 bsz:X.base.objs.size<=X.s₀.heap.objs.size
 noex:∀b o,X.base.get? b=some o->b∉X.ex
 exfs:∀b∈X.ex,b∉X.fs
 funs:X.s₀.heap.FunFrames X.base X.outer
 frf:∀b∈X.fs,X.H₀ b=none
structure Inv (X:Cx)(pins:List (Addr×Obj))(σ:List (Option V))(H:Hp)(s:Shared):Prop where
 ok:X.Ok
 os:s.os=X.s₀.os
 bare:AllBare s.gens
 base:Un X.fs X.ex X.H₀ H X.s₀.heap s.heap
 loc:∃m,s.heap.Ns X.env.locals m/\∀(i:Nat) (x:Str) (v:V),X.N[i]?=some x->σ[i]?=some (some v)->Vis X.env.scope x->∃u,cP v u/\Bp X.env s.heap m x u
 cell:∀x c,X.env.cells.lookup x=some c->∃v,s.heap.IsCell c v
 free:H X.env.locals=none
 freeC:∀x c,X.env.cells.lookup x=some c->H c=none
 pin:∀p∈X.pn++pins,s.heap.get? p.1=some p.2/\H p.1=none/\p.1≠X.env.locals/\p.1∉X.fs/\∀v,p.2.data≠.cell v
 hok:lj X.prog X.w H s.heap
 len:σ.length=X.N.length
section
variable {X:Cx}{pins:List (Addr×Obj)}{σ:List (Option V)}{H H':Hp}{s:Shared}{h':Heap}
theorem Cx.Ok.nofr (ok:X.Ok){b:Addr}{o:Obj}(e:X.base.get? b=some o):b∉X.fs:=fun hb=>by
 have:=(ok.funs.mem hb).1;rw[e] at this;cases this
theorem Inv.bs (I:Inv X pins σ H s):∀b o,X.base.get? b=some o->s.heap.get? b=some o/\H b=none:=fun b o e =>
 ⟨I.base.keep b o (I.ok.bs b o e).1 (I.ok.bs b o e).2 (I.ok.nofr e) (I.ok.noex b o e),I.base.free b o (I.ok.bs b o e).1 (I.ok.bs b o e).2 (I.ok.noex b o e)⟩
theorem Inv.bk (I:Inv X pins σ H s):∀b o,X.base.get? b=some o->s.heap.get? b=some o:=fun b o e=>(I.bs b o e).1
theorem Inv.mod (I:Inv X pins σ H s):Mod X.K X.mg X.base:=I.ok.mod
theorem Inv.kIn (I:Inv X pins σ H s):X.K.In s.heap:=I.ok.mod.kin.keeps I.bk
theorem Inv.nolimit (I:Inv X pins σ H s):s.heap.NoLimit:=I.ok.mod.nolimit.keeps I.bk
theorem Inv.lt (I:Inv X pins σ H s):X.env.locals<s.heap.objs.size:=let ⟨_,hn,_⟩:=I.loc;hn.lt
theorem Inv.sz (I:Inv X pins σ H s):X.s₀.heap.objs.size<=s.heap.objs.size:=bg I.ok.above (Nat.le_of_lt I.lt)
theorem Inv.nofs (I:Inv X pins σ H s){a:Addr}(h:s.heap.objs.size<=a):a∉X.fs:=fun hb=>by
 obtain⟨_,o,ho,_⟩:=I.ok.funs.mem hb;exact absurd (aH (aF ho) (bg I.sz h)) (aY _)
theorem Inv.cne (I:Inv X pins σ H s):∀x c,X.env.cells.lookup x=some c->c≠X.env.locals:=fun x c e z=>by
 obtain⟨v,o,ho,hd⟩:=I.cell x c e;obtain⟨m,⟨o',es,ep,ho',hd',_⟩,_⟩:=I.loc;rw[z,ho'] at ho;cases ho;rw[hd'] at hd;cases hd
theorem Inv.funs (I:Inv X pins σ H s):s.heap.FunFrames X.base X.outer:=by
 have all:∀(l:List Env),(∀b∈frs l,b∈X.fs)->X.s₀.heap.FunFrames X.base l->s.heap.FunFrames X.base l:=by
  intro l;induction l with
  |nil=>intro _ _;trivial
  |cons env r ih =>
   intro hs hl;obtain⟨hk,⟨L,o,hf,hn,ho,hd⟩,hr⟩:=hl;have hL:L∈X.fs:=hs L (by unfold frs;rw[br,hf];exact aC);obtain⟨sl,e⟩:=I.base.slot L o ho (I.ok.frf L hL) hL fun z=>I.ok.exfs L z hL;exact⟨hk,⟨L,_,hf,hn,e,hd⟩,ih (fun b hb=>hs b (by unfold frs;rw[br,hf];exact ao _ hb)) hr⟩
 exact all X.outer (fun _ hb=>hb) I.ok.funs
theorem Inv.stack (I:Inv X pins σ H s):s.heap.FunFrames X.base X.stack:=by
 rcases I.ok.stk with e|⟨e,hf⟩
 ·rw[e];exact I.funs
 ·rw[e];obtain⟨m,hn,_⟩:=I.loc;refine .cons (by rw[I.ok.kind];decide) hf hn ?_ I.funs;exact Heap.get?_none_of_le (bg I.ok.bsz I.ok.above)
theorem Inv.stkSub (I:Inv X pins σ H s):∀b∈frs X.stack,b∈X.env.locals::X.fs:=fun b hb=>by
 rcases I.ok.stk with e|⟨e,hf⟩
 ·rw[e] at hb;exact ao _ hb
 ·rw[e] at hb;unfold frs at hb;rw[br,hf] at hb;exact hb
theorem Inv.stkFree (I:Inv X pins σ H s):∀b∈frs X.stack,H b=none:=fun b hb=>by
 rcases aw.mp (I.stkSub b hb) with e|hb
 ·rw[e];exact I.free
 ·obtain⟨_,o,ho,_⟩:=I.ok.funs.mem hb;exact I.base.free b o ho (I.ok.frf b hb) fun z=>I.ok.exfs b z hb
theorem Inv.step {g':Array GenState}{t':Nat}{d':Drawn}{ch:List Addr}(I:Inv X pins σ H s)
  (hch:∀b∈ch,(b∈X.ex\/X.s₀.heap.objs.size<=b)/\b≠X.env.locals/\(∀x c,X.env.cells.lookup x=some c->c≠b)/\∀p∈X.pn++pins,p.1≠b)
  (keep:∀b o,b≠X.env.locals->b∉X.fs->b∉ch->s.heap.get? b=some o->H b=none->h'.get? b=some o)
  (slot:∀b o,b≠X.env.locals->b∈X.fs->b∉ch->s.heap.get? b=some o->H b=none->∃sl,h'.get? b=some { o with slots:=sl }) (free:∀b o,b∉ch->s.heap.get? b=some o->H b=none->H' b=none)
  (there:∀b o,b∉ch->s.heap.get? b=some o->∃o',h'.get? b=some o')
  (tups:∀b xs,H b=some (.tup xs)->H' b=some (.tup xs)) (frzs:∀b o u,H b=some (.frz o u)->H' b=some (.frz o u)) (tbls:∀b ps,H b=some (.tbl ps)->∃more,H' b=some (.tbl (ps++more)))
  (ns:∀m,s.heap.Ns X.env.locals m->h'.Ns X.env.locals m) (hok:lj X.prog X.w H' h') (hg:AllBare g') :
  Inv X pins σ H' { s with heap:=h',gens:=g',drawn:=d',toks:=t' }:=by
 have neL:∀b o,X.s₀.heap.get? b=some o->b≠X.env.locals:=fun b o e=>aO (aH (aF e) I.ok.above);have neC:∀b o,X.s₀.heap.get? b=some o->b∉X.ex->b∉ch:=fun b o e hx hb=>by
  rcases (hch b hb).1 with z|z
  ·exact hx z
  ·exact absurd (aH (aF e) z) (aY _)
 have cellK:∀x c,X.env.cells.lookup x=some c->∀v,s.heap.IsCell c v->h'.IsCell c v:=fun x c e v zz=>by
  obtain ⟨o,ho,hd⟩:=zz;have nch:c∉ch:=fun z=>(hch c z).2.2.1 x c e rfl;by_cases hc:c∈X.fs
  ·obtain⟨sl,q⟩:=slot c o (I.cne x c e) hc nch ho (I.freeC x c e);exact⟨_,q,hd⟩
  ·exact⟨o,keep c o (I.cne x c e) hc nch ho (I.freeC x c e),hd⟩
 refine⟨I.ok,I.os,hg,⟨fun b o e n hb hx=>?_,fun b o e n hb hx=>?_,fun b o e n hx=>?_,fun b o e hx=>?_,fun b xs e=>tups b xs (I.base.tups b xs e),fun b o xs e=>frzs b o xs (I.base.frzs b o xs e),fun b ps e=>?_⟩,?_,fun x c e=>?_,?_,fun x c e=>?_,fun p hp=>?_,hok,I.len⟩
 ·exact keep b o (neL b o e) hb (neC b o e hx) (I.base.keep b o e n hb hx) (I.base.free b o e n hx)
 ·obtain⟨sl,e1⟩:=I.base.slot b o e n hb hx;obtain⟨sl',e2⟩:=slot b _ (neL b o e) hb (neC b o e hx) e1 (I.base.free b o e n hx);exact⟨sl',e2⟩
 ·obtain⟨o',e1⟩:=I.base.there b o e hx;exact free b o' (neC b o e hx) e1 (I.base.free b o e n hx)
 ·obtain⟨o',e1⟩:=I.base.there b o e hx;exact there b o' (neC b o e hx) e1
 ·obtain⟨m1,e1⟩:=I.base.tbls b ps e;obtain⟨m2,e2⟩:=tbls b _ e1;exact⟨m1++m2,by rw[e2,CH]⟩
 ·obtain⟨m,hn,hl⟩:=I.loc;refine⟨m,ns m hn,fun i x v e1 e2 e3=>?_⟩;obtain⟨u,r,l⟩:=hl i x v e1 e2 e3;refine⟨u,r,?_⟩;rcases l with l|⟨k,c,e,z⟩
  ·exact .inl l
  ·exact .inr ⟨k,c,e,cellK x c e _ z⟩
 ·obtain⟨v,z⟩:=I.cell x c e;exact⟨v,cellK x c e v z⟩
 ·obtain⟨m,⟨o,_,_,ho,_⟩,_⟩:=I.loc;exact free _ o (fun z=>(hch _ z).2.1 rfl) ho I.free
 ·obtain⟨v,o,ho,hd⟩:=I.cell x c e;exact free c o (fun z=>(hch c z).2.2.1 x c e rfl) ho (I.freeC x c e)
 ·obtain⟨e,n,ne,nf,d⟩:=I.pin p hp;have nch:p.1∉ch:=fun z=>(hch p.1 z).2.2.2 p hp rfl;exact⟨keep p.1 p.2 ne nf nch e n,free p.1 p.2 nch e n,ne,nf,d⟩
theorem Inv.un {t':Nat}(I:Inv X pins σ H s)(u:Un X.fs [] H H' s.heap h')(hok:lj X.prog X.w H' h'):Inv X pins σ H' { s with heap:=h',toks:=t' }:=by
 obtain⟨m,⟨o,es,ep,ho,r⟩,_⟩:=id I.loc;obtain⟨sl,hL⟩:=u.any ho I.free (by simp);exact I.step (g':=s.gens) (d':=s.drawn) (ch:=[]) (fun _ z=>nomatch z) (fun b o _ hb _ e n=>u.keep b o e n hb (by simp)) (fun b o _ hb _ e n=>u.slot b o e n hb (by simp)) (fun b o _ e n=>u.free b o e n (by simp)) (fun b o _ e=>u.there b o e (by simp)) u.tups u.frzs u.tbls (fun m' hm=>by
  obtain⟨o',es',ep',ho',r'⟩:=hm;rw[ho] at ho';cases ho';exact⟨_,es',ep',hL,r'⟩) hok I.bare
theorem Inv.call {g':Array GenState}{t':Nat}{d':Drawn}{ch:List Addr}(I:Inv X pins σ H s)(u:Un (frs X.stack) ch H H' s.heap h')(hok:lj X.prog X.w H' h')(hg:AllBare g')
  (hch:∀b∈ch,(b∈X.ex\/X.s₀.heap.objs.size<=b)/\b≠X.env.locals/\(∀x c,X.env.cells.lookup x=some c->c≠b)/\∀p∈X.pn++pins,p.1≠b) :
  Inv X pins σ H' { s with heap:=h',gens:=g',drawn:=d',toks:=t' }:=by
 obtain⟨m,⟨o,es,ep,ho,r⟩,_⟩:=id I.loc;obtain⟨sl,hL⟩:=u.any ho I.free fun z=>(hch _ z).2.1 rfl;exact I.step (ch:=ch) hch (fun b o hL hb hc e n=>u.keep b o e n (fun z=>(aw.mp (I.stkSub b z)).elim hL hb) hc) (fun b o _ _ hc e n=>u.any e n hc) (fun b o hc e n=>u.free b o e n hc) (fun b o hc e=>u.there b o e hc) u.tups u.frzs u.tbls (fun m' hm=>by
  obtain⟨o',es',ep',ho',r'⟩:=hm;rw[ho] at ho';cases ho';exact⟨_,es',ep',hL,r'⟩) hok hg
theorem Inv.turned {t':Nat}{it:Addr}(I:Inv X pins σ H s)(k:∀b o,b≠it->s.heap.get? b=some o->h'.get? b=some o)(hn:H it=none)(hL:it≠X.env.locals)
  (h1:it∈X.ex\/X.s₀.heap.objs.size<=it) (h2:∀x c,X.env.cells.lookup x=some c->c≠it) (h3:∀p∈X.pn++pins,p.1≠it):Inv X pins σ H { s with heap:=h',toks:=t' }:=by
 have nit:∀b u,H b=some u->b≠it:=fun b u e z=>by rw[z,hn] at e;cases e
 refine I.step (g':=s.gens) (d':=s.drawn) (ch:=[it]) (fun b hb=>?_) (fun b o _ _ hc e _=>k b o (fun z=>hc (by simp[z])) e) (fun b o _ _ hc e _=>⟨o.slots,k b o (fun z=>hc (by simp[z])) e⟩) (fun _ _ _ _ n=>n)
  (fun b o hc e=>⟨o,k b o (fun z=>hc (by simp[z])) e⟩) (fun _ _ e=>e) (fun _ _ _ e=>e) (fun b ps e=>⟨#[],by rw[e];simp⟩) (fun m hm=>?_) (fun b u e=>?_) I.bare
 ·have e:b=it:=by simpa using hb
  subst e;exact⟨h1,hL,h2,h3⟩
 ·obtain⟨o,es,ep,ho,r⟩:=hm;exact⟨o,es,ep,k _ o (Ne.symm hL) ho,r⟩
 ·refine (I.hok b u e).stay (fun c v hc q=>k c v ?_ q) (fun _ q=>q) fun _ _ q=>q;rcases hc with z|z
  ·rw[z];exact nit b u e
  ·exact nit c _ z
theorem Inv.tok (I:Inv X pins σ H s)(t:Nat):Inv X pins σ H { s with toks:=t }:=I.un (h':=s.heap) (t':=t) Un.refl I.hok
theorem Inv.kept {t':Nat}(I:Inv X pins σ H s)(k:∀b u,s.heap.get? b=some u->h'.get? b=some u):Inv X pins σ H { s with heap:=h',toks:=t' }:=I.un (Un.kept k) (I.hok.kept k)
theorem Inv.laid {a:Addr}{o:HO}{t':Nat}(I:Inv X pins σ H s)(k:∀b u,s.heap.get? b=some u->h'.get? b=some u)(hp:s.heap.objs.size<=a)(new:gq X.prog X.w (cZ H a o) h' a o) :
  Inv X pins σ (cZ H a o) { s with heap:=h',toks:=t' }:=I.un (Un.laid k hp (I.hok.fresh hp)) (I.hok.laid k hp new)
theorem Inv.write {x e:Addr}{o:HO}{t':Nat}(I:Inv X pins σ H s)(mu:Bz (H x))(he:e=x\/H e=some (.own x))(k:∀b u,b≠e->s.heap.get? b=some u->h'.get? b=some u)(heo:∃u,h'.get? e=some u)
  (new:gq X.prog X.w (cZ H x o) h' x o):Inv X pins σ (cZ H x o) { s with heap:=h',toks:=t' }:=I.un (Un.write mu he k heo) (I.hok.write mu he k heo new)
theorem Inv.pins_of {pins':List (Addr×Obj)}(I:Inv X pins σ H s)(h:∀p∈pins',s.heap.get? p.1=some p.2/\H p.1=none/\p.1≠X.env.locals/\p.1∉X.fs/\∀v,p.2.data≠.cell v):Inv X pins' σ H s :=
 ⟨I.ok,I.os,I.bare,I.base,I.loc,I.cell,I.free,I.freeC,fun p hp=>(aG.mp hp).elim (fun z=>I.pin p (aB _ z)) (h p),I.hok,I.len⟩
theorem qU {N:List Str}(hN:N.Nodup){i j:Nat}{x:Str}(a:N[i]?=some x)(b:N[j]?=some x):i=j:=by
 obtain⟨h1,e1⟩:=aE.mp a;obtain⟨h2,e2⟩:=aE.mp b;exact (List.getElem_inj hN).mp (e1.trans e2.symm)
theorem nU {M:Model}{A:Around}{E:Value->Shared->Prop}{i:Nat}{x:Str}{v:V}{u:Value}{Q:Unit->Shared->Prop}(I:Inv X pins σ H s)(hN:X.N.Nodup)(hi:X.N[i]?=some x)(hx:Loc X.env.scope x)(r:cP v u)
  (h:∀s',Inv X pins (σ.set i (some v)) H s'->(∃a,Heap.SameBut a s.heap s'.heap/\(a=X.env.locals\/X.env.cells.lookup x=some a))->Q () s') (hf:X.fn x=true\/X.env.scope.names.lookup x=some .local:=by first|exact .inl rfl|exact .inr rfl|assumption):wpAny M A (storeName X.env x u) Q E s:=by
 obtain⟨m,hn,hl⟩:=id I.loc;have hcls:(X.env.scope.kind==.class||(X.env.scope.kind==.module&&X.env.locals != X.env.globals))=false:=by rw[I.ok.kind];rfl
 have hiσ:i<σ.length:=by rw[I.len];exact (aE.mp hi).1
 have cne:=I.cne;have tracked:∀{a:Addr}{h':Heap},(∃o,s.heap.get? a=some o/\H a=none)->Heap.SameBut a s.heap h'->lj X.prog X.w H h':=fun {a h'} ha hs b ob e=>by
  obtain⟨_,_,hfree⟩:=ha;refine (I.hok b ob e).stay (fun c w' hc q=>(hs.2 c ?_).trans q) (fun _ q=>q) fun _ _ q=>q;rintro rfl;rcases hc with rfl|hc
  ·rw[hfree] at e;cases e
  ·rw[hfree] at hc;cases hc
 rcases hx with hk|hk
 ·refine wpAny_storeName_local hk hn (fun h' hn' hs=>?_) hcls;obtain⟨oL,_,_,hoL,_⟩:=id hn;refine h _ ⟨I.ok,I.os,I.bare,⟨fun b o e n hb hx=>?_,fun b o e n hb hx=>?_,I.base.free,fun b o e hx=>?_,I.base.tups,I.base.frzs,I.base.tbls⟩,⟨_,hn',fun j y v' e1 e2 e3=>?_⟩,fun y c e=>?_,I.free,I.freeC,fun p hp=>?_,tracked ⟨oL,hoL,I.free⟩ hs,by simpa using I.len⟩ ⟨_,hs,.inl rfl⟩
  ·exact (hs.2 b (aO (aH (aF e) I.ok.above))).trans (I.base.keep b o e n hb hx)
  ·obtain⟨sl,e1⟩:=I.base.slot b o e n hb hx;exact⟨sl,(hs.2 b (aO (aH (aF e) I.ok.above))).trans e1⟩
  ·obtain⟨o',e1⟩:=I.base.there b o e hx;exact⟨o',(hs.2 b (aO (aH (aF e) I.ok.above))).trans e1⟩
  ·by_cases hj:j=i
   ·subst hj;rw[hi] at e1;cases e1;rw[aq hiσ] at e2;cases e2;exact⟨u,r,.inl ⟨hk,by simp⟩⟩
   ·rw[ae (Ne.symm hj)] at e2;obtain⟨u',r',q⟩:=hl j y v' e1 e2 e3;refine⟨u',r',?_⟩;rcases q with ⟨k,e⟩|⟨k,c,e,z⟩
    ·refine .inl ⟨k,?_⟩;have:y≠x:=fun e=>hj (qU hN e1 (e▸hi));simp[this,e]
    ·exact .inr ⟨k,c,e,z.sameBut hs (cne y c e)⟩
  ·obtain⟨w',z⟩:=I.cell y c e;exact⟨w',z.sameBut hs (cne y c e)⟩
  ·obtain⟨e,n,ne,nf,d⟩:=I.pin p hp;exact⟨(hs.2 p.1 ne).trans e,n,ne,nf,d⟩
 ·have hfn:X.fn x=true:=by
   rcases hf with z|z
   ·exact z
   ·rw[z] at hk;cases hk
  obtain⟨c,hc⟩:=I.ok.has x (.inl hk);obtain⟨w',z⟩:=I.cell x c hc;refine wpAny_storeName_cell I.ok.kind hk hc z (fun h' hc' hs=>?_);obtain⟨oc,hoc,hocd⟩:=id z;refine h { s with heap:=h' } ⟨I.ok,I.os,I.bare,⟨fun b o e n hb hx=>?_,fun b o e n hb hx=>?_,I.base.free,fun b o e hx=>?_,I.base.tups,I.base.frzs,I.base.tbls⟩,⟨m,hn.sameBut hs (Ne.symm (cne x c hc)),fun j y v' e1 e2 e3=>?_⟩,fun y c' e=>?_,I.free,I.freeC,fun p hp=>?_,tracked ⟨oc,hoc,I.freeC x c hc⟩ hs,by simpa using I.len⟩ ⟨c,hs,.inr hc⟩
  ·exact (hs.2 b (aO (aH (aF e) (I.ok.cab x c hfn hc)))).trans (I.base.keep b o e n hb hx)
  ·obtain⟨sl,e1⟩:=I.base.slot b o e n hb hx;exact⟨sl,(hs.2 b (aO (aH (aF e) (I.ok.cab x c hfn hc)))).trans e1⟩
  ·obtain⟨o',e1⟩:=I.base.there b o e hx;exact⟨o',(hs.2 b (aO (aH (aF e) (I.ok.cab x c hfn hc)))).trans e1⟩
  ·by_cases hj:j=i
   ·subst hj;rw[hi] at e1;cases e1;rw[aq hiσ] at e2;cases e2;exact⟨u,r,.inr ⟨.inl hk,c,hc,hc'⟩⟩
   ·rw[ae (Ne.symm hj)] at e2;obtain⟨u',r',q⟩:=hl j y v' e1 e2 e3;refine⟨u',r',?_⟩;rcases q with q|⟨k,c',e,z'⟩
    ·exact .inl q
    ·refine .inr ⟨k,c',e,z'.sameBut hs ?_⟩;rintro rfl;exact hj (qU hN e1 (I.ok.inj _ _ _ e hc▸hi))
  ·by_cases hcc:c'=c
   ·subst hcc;exact⟨_,hc'⟩
   ·obtain⟨w2,z2⟩:=I.cell y c' e;exact⟨w2,z2.sameBut hs hcc⟩
  ·obtain⟨e,n,ne,nf,d⟩:=I.pin p hp;refine⟨(hs.2 p.1 ?_).trans e,n,ne,nf,d⟩;intro q;rw[q,hoc] at e;have q':oc=p.2:=aL.inj e;exact d w' (by rw[<-q'];exact hocd)
theorem store_ok {M:Model}{A:Around}{E:Value->Shared->Prop}{i:Nat}{x:Str}{v:V}{u:Value}{Q:Unit->Shared->Prop}(I:Inv X pins σ H s)(hN:X.N.Nodup)(hi:X.N[i]?=some x)(hx:Loc X.env.scope x)(r:cP v u)
  (h:∀s',Inv X pins (σ.set i (some v)) H s'->Q () s') (hf:X.fn x=true\/X.env.scope.names.lookup x=some .local:=by first|exact .inl rfl|exact .inr rfl|assumption):wpAny M A (storeName X.env x u) Q E s :=
 nU I hN hi hx r (fun s' I' _=>h s' I') hf
theorem Inv.call' {s':Shared}{ch:List Addr}(I:Inv X pins σ H s)(ho:s'.os=s.os)(u:Un (frs X.stack) ch H H' s.heap s'.heap)(hok:lj X.prog X.w H' s'.heap)(hg:AllBare s'.gens)
  (hch:∀b∈ch,(b∈X.ex\/X.s₀.heap.objs.size<=b)/\b≠X.env.locals/\(∀x c,X.env.cells.lookup x=some c->c≠b)/\∀p∈X.pn++pins,p.1≠b):Inv X pins σ H' s':=by
 obtain⟨h',g',d',t',o'⟩:=s';have e:o'=s.os:=ho;subst e;exact I.call (g':=g') (t':=t') (d':=d') u hok hg hch
end
noncomputable abbrev XK:=Value->Option Addr->Hp->Prop
noncomputable abbrev St:=List (Option V)
noncomputable abbrev VK:=V->Hp->Prop
noncomputable abbrev TE:=St->Hp->VK->Prop
noncomputable abbrev TT:=St->Hp->(Bool->Hp->Prop)->Prop
noncomputable abbrev TA:=St->Hp->(List V->Hp->Prop)->Prop
structure di where
 nx:St->Hp->Prop
 rt:VK
 bk:St->Hp->Prop:=fun _ _=>False
 ct:St->Hp->Prop:=fun _ _=>False
noncomputable abbrev TS:=di->St->Hp->Prop
def EP (X:Cx)(pins:List (Addr×Obj))(σ:St)(Q:VK)(u:Value)(s':Shared):Prop:=∃v H',Inv X pins σ H' s'/\cP v u/\Q v H'
def TP (X:Cx)(pins:List (Addr×Obj))(σ:St)(Q:Bool->Hp->Prop)(b:Bool)(s':Shared):Prop:=∃H',Inv X pins σ H' s'/\Q b H'
def AP (X:Cx)(pins:List (Addr×Obj))(σ:St)(Q:List V->Hp->Prop)(us:List Value)(s':Shared):Prop:=∃vs H',Inv X pins σ H' s'/\cH vs us/\Q vs H'
noncomputable def SP (X:Cx)(pins:List (Addr×Obj))(D:di)(f:Flow)(s':Shared):Prop :=
 match f with
 |.next=>∃σ' H',Inv X pins σ' H' s'/\D.nx σ' H'
 |.brk=>∃σ' H',Inv X pins σ' H' s'/\D.bk σ' H'
 |.cont=>∃σ' H',Inv X pins σ' H' s'/\D.ct σ' H'
 |.ret u=>∃v σ' H',Inv X pins σ' H' s'/\cP v u/\D.rt v H'
noncomputable def PE (X:Cx)(e:Expr)(t:TE):Prop :=
 ∀(pins:List (Addr×Obj)) (s:Shared) (σ:St) (H:Hp) (Q:VK),Inv X pins σ H s->t σ H Q->wpAny (model X.prog X.w) X.A (eval e X.env) (EP X pins σ Q) X.xe s
noncomputable def PT (X:Cx)(e:Expr)(t:TT):Prop :=
 ∀(pins:List (Addr×Obj)) (s:Shared) (σ:St) (H:Hp) (Q:Bool->Hp->Prop),Inv X pins σ H s->t σ H Q->wpAny (model X.prog X.w) X.A (isTrue e X.env (eval e X.env)) (TP X pins σ Q) X.xe s
noncomputable def PW (X:Cx)(e:Expr)(t:TT):Prop :=
 ∀(whole:Sem Value) (pins:List (Addr×Obj)) (s:Shared) (σ:St) (H:Hp) (Q:Bool->Hp->Prop),Inv X pins σ H s->t σ H Q->wpAny (model X.prog X.w) X.A (isTrue e X.env whole) (TP X pins σ Q) X.xe s
noncomputable def PA (X:Cx)(es:List Expr)(t:TA):Prop :=
 ∀(pos:Pos) (pins:List (Addr×Obj)) (s:Shared) (σ:St) (H:Hp) (Q:List V->Hp->Prop),Inv X pins σ H s->t σ H Q->wpAny (model X.prog X.w) X.A (spliced (backTo pos (starEach es X.env))) (AP X pins σ Q) X.xe s
noncomputable def PS (X:Cx)(st:Stmt)(t:TS):Prop :=
 ∀(pins:List (Addr×Obj)) (s:Shared) (σ:St) (H:Hp) (D:di),Inv X pins σ H s->t D σ H->wpAny (model X.prog X.w) X.A (exec st X.env) (SP X pins D) X.xe s
noncomputable def PSs (X:Cx)(st:List Stmt)(t:TS):Prop :=
 ∀(pins:List (Addr×Obj)) (s:Shared) (σ:St) (H:Hp) (D:di),Inv X pins σ H s->t D σ H->wpAny (model X.prog X.w) X.A (execs st X.env) (SP X pins D) X.xe s
theorem thn {α:Type}{t:Sem α}{Q Q':α->Shared->Prop}{M:Model}{A:Around}{E:Value->Shared->Prop}{s:Shared}(h:wpAny M A t Q E s)(hQ:∀a s,Q a s->Q' a s):wpAny M A t Q' E s:=wpAny_mono h hQ fun _ _ x=>x
end L2
namespace L2
open PySem PySem.Spec PyProof.Rows
section
variable {X:Cx}
noncomputable def BB (i:Nat):TE:=fun σ H Q=>∃v,σ[i]?=some (some v)/\Q v H
noncomputable def tC (v:V):TE:=fun _ H Q=>Q v H
theorem pe_var {i:Nat}{x:Str}{pos:Pos}(hN:X.N[i]?=some x)(hv:Vis X.env.scope x)(hd:(x==("__debug__" : Str))=false:=by decide)(hcd:(x==("__classdict__" : Str))=false:=by decide):PE X (.Name x pos) (BB i):=by
 intro pins s σ H Q I h;obtain⟨v,e,h⟩:=h;obtain⟨m,hn,hl⟩:=I.loc;obtain⟨u,r,l⟩:=hl i x v hN e hv;have fin:EP X pins σ Q u s:=⟨v,H,I,r,h⟩;rcases l with ⟨hk,hm⟩|⟨hk,c,hc,hcell⟩
 ·exact wpAny_Name (wpAny_loadName_local I.ok.kind hk hn hm fin) hd
 ·rcases hk with hk|hk
  ·exact wpAny_Name (wpAny_loadName_cell I.ok.kind hk hc hcell fin) hd
  ·exact wpAny_Name (wpAny_loadName_free I.ok.kind hk hc hcell fin hcd) hd
theorem pe_int {i j pos}:PE X (.Constant (.int i) j pos) (tC (.int i)):=fun _ _ _ H _ I h=>wpAny_Constant_int ⟨.int i,H,I.tok _,⟨_,rfl⟩,h⟩
theorem pe_bl {b j pos}:PE X (.Constant (.bool b) j pos) (tC (.bl b)):=fun _ _ _ H _ I h=>Constant_bool ⟨.bl b,H,I,rfl,h⟩
theorem pe_non {j pos}:PE X (.Constant .none j pos) (tC .non):=fun _ _ _ H _ I h=>Constant_none ⟨.non,H,I,rfl,h⟩
theorem pe_str {x j pos}:PE X (.Constant (.str x) j pos) (tC (.str x)):=fun _ _ _ H _ I h=>Calls.Constant_str ⟨.str x,H,I.tok _,⟨_,rfl⟩,h⟩
def Gl (X:Cx)(x:Str):Prop:=X.env.kindOf x=some .globalImplicit
theorem ld_glob {E:Value->Shared->Prop}{pins:List (Addr×Obj)}{s:Shared}{σ:St}{H:Hp}{x:Str}{u:Value}{pos:Pos}{Q:Value->Shared->Prop}(I:Inv X pins σ H s)(hg:Gl X x)(hm:X.mg x=some u)(h:Q u s)
  (hd:(x==("__debug__" : Str))=false:=by decide):wpAny (model X.prog X.w) X.A (eval (.Name x pos) X.env) Q E s :=
 Calls.Name_function_global I.ok.kind hg (Calls.loadGlobal_global (by rw[I.ok.glob];exact I.mod.glob.keeps I.bk) hm h) hd
theorem lH {E:Value->Shared->Prop}{pins:List (Addr×Obj)}{s:Shared}{σ:St}{H:Hp}{x:Str}{u:Value}{pos:Pos}{Q:Value->Shared->Prop}(I:Inv X pins σ H s)(hg:Gl X x)(hm:X.mg x=none)(hv:bootBuiltins x=some u)(h:Q u s)
  (hn:x ≠ "__name__" := by decide) (hd:(x==("__debug__" : Str))=false:=by decide):wpAny (model X.prog X.w) X.A (eval (.Name x pos) X.env) Q E s:=by
 obtain⟨mb,h1,h2⟩:=I.mod.blt;exact Calls.Name_function_global I.ok.kind hg (Calls.loadGlobal_builtin (by rw[I.ok.glob];exact I.mod.glob.keeps I.bk) hm (by rw[I.ok.blt];exact h1.keeps I.bk) ((h2 x hn).trans hv) h) hd
theorem pe_glob {x:Str}{v:V}{u:Value}{pos:Pos}(hg:Gl X x)(hm:X.mg x=some u)(r:cP v u)(hd:(x==("__debug__" : Str))=false:=by decide):PE X (.Name x pos) (tC v) :=
 fun _ _ _ H _ I h=>ld_glob I hg hm ⟨v,H,I,r,h⟩ hd
theorem pe_bltn {x:Str}{v:V}{u:Value}{pos:Pos}(hg:Gl X x)(hm:X.mg x=none)(hv:bootBuiltins x=some u)(r:cP v u)(hn:x ≠ "__name__" := by decide)(hd:(x==("__debug__" : Str))=false:=by decide):PE X (.Name x pos) (tC v) :=
 fun _ _ _ H _ I h=>lH I hg hm hv ⟨v,H,I,r,h⟩ hn hd
variable {a b:Expr}{ta tb:TE}{pos:Pos}
noncomputable def tB (t:TE):TT:=fun σ H Q=>t σ H fun x H1=>∃c,x=.bl c/\Q c H1
theorem pt_val {e:Expr}{t:TE}(h:PE X e t)(he:∀whole,isTrue e X.env whole=(do let v <-whole;standAt e.pos;holding [v] (truthy v)):=by intro _;rfl):PT X e (tB t):=by
 intro pins s σ H Q I hw;refine isTrue_plain (thn (h pins s σ H _ I hw) fun v s1 ⟨x,H1,I1,r1,q1⟩=>?_) (he _);obtain⟨d,rfl,q⟩:=q1;cases r1;exact wpAny_truthy_bool ⟨H1,I1,q⟩
variable {tA tB':TT}{dG:List Expr}
noncomputable def jy (t u:TT):TT:=fun σ H Q=>t σ H fun c H1=>if c=true then u σ H1 Q else Q false H1
noncomputable def iU (t u:TT):TT:=fun σ H Q=>t σ H fun c H1=>if c=true then Q true H1 else u σ H1 Q
noncomputable def eT (t:TT):TT:=fun σ H Q=>t σ H fun c H1=>Q (!c) H1
theorem pw_and1 (ha:PT X a tA):PW X (.BoolOp .And [a] pos) tA:=by
 intro wh pins s σ H Q I h;refine isTrue_and (thn (ha pins s σ H Q I h) fun c s1 e=>?_);cases c with
 |true=>exact isTrue_and_nil e
 |false=>exact e
theorem pw_or1 (ha:PT X a tA):PW X (.BoolOp .Or [a] pos) tA:=by
 intro wh pins s σ H Q I h;refine isTrue_or (thn (ha pins s σ H Q I h) fun c s1 e=>?_);cases c with
 |false=>exact isTrue_or_nil e
 |true=>exact e
theorem pw_and (ha:PT X a tA)(hb:PW X (.BoolOp .And (b::dG) pos) tB'):PW X (.BoolOp .And (a::b::dG) pos) (jy tA tB'):=by
 intro wh pins s σ H Q I h;refine isTrue_and (thn (ha pins s σ H _ I h) fun c s1 zz=>?_);obtain ⟨H1,I1,q1⟩:=zz;cases c with
 |true=>exact hb wh pins s1 σ H1 Q I1 q1
 |false=>exact⟨H1,I1,q1⟩
theorem pw_or (ha:PT X a tA)(hb:PW X (.BoolOp .Or (b::dG) pos) tB'):PW X (.BoolOp .Or (a::b::dG) pos) (iU tA tB'):=by
 intro wh pins s σ H Q I h;refine isTrue_or (thn (ha pins s σ H _ I h) fun c s1 zz=>?_);obtain ⟨H1,I1,q1⟩:=zz;cases c with
 |true=>exact⟨H1,I1,q1⟩
 |false=>exact hb wh pins s1 σ H1 Q I1 q1
theorem pt_not (ha:PT X a tA):PT X (.UnaryOp .Not a pos) (eT tA):=by
 intro pins s σ H Q I h;exact isTrue_not (ha pins s σ H (fun c H1=>Q (!c) H1) I h)
noncomputable def AV (ta tb:TE):TE:=fun σ H Q=>ta σ H fun x H1=>∃c,x=.bl c/\if c=true then tb σ H1 Q else Q (.bl false) H1
noncomputable def AQ (ta:TE):TE:=fun σ H Q=>ta σ H fun x H1=>∃c,x=.bl c/\Q (.bl (!c)) H1
theorem pe_one {op}{t:TE}(h:PE X a t):PE X (.BoolOp op [a] pos) t:=fun pins s σ H Q I hw=>BoolOp_one (h pins s σ H Q I hw)
theorem pe_and (ha:PE X a ta)(hb:PE X (.BoolOp .And (b::dG) pos) tb):PE X (.BoolOp .And (a::b::dG) pos) (AV ta tb):=by
 intro pins s σ H Q I h;refine BoolOp_and (thn (ha pins s σ H _ I h) fun v s1 zz=>?_);obtain ⟨x,H1,I1,r1,q1⟩:=zz;obtain⟨c,rfl,q1⟩:=q1;cases r1;refine wpAny_truthy_bool ?_;cases c with
 |true=>exact hb pins s1 σ H1 Q I1 q1
 |false=>exact⟨.bl false,H1,I1,rfl,q1⟩
theorem pe_not (ha:PE X a ta):PE X (.UnaryOp .Not a pos) (AQ ta):=by
 intro pins s σ H Q I h;refine UnaryOp_ (thn (ha pins s σ H _ I h) fun v s1 zz=>?_);obtain ⟨x,H1,I1,r1,q1⟩:=zz;obtain⟨c,rfl,q1⟩:=q1;cases r1;exact not_of (wpAny_truthy_bool ⟨.bl (!c),H1,I1,rfl,q1⟩)
end
end L2
namespace L2
open PySem PySem.Spec PyProof.Rows
noncomputable def dU (K:PySem.W.Frag)(H:Hp)(a:Addr)(xs:List V):Prop :=
 Rd H a (.lst xs) ∨
  ∃(o:Obj) (its:Array Value) (n:Nat),K.lookup a=some o/\o.cls=.type "list" ∧ o.dict=none/\o.data=.seq its n/\its.size<=sizeLine/\cH xs its.toList
noncomputable def dN (K:PySem.W.Frag)(H:Hp)(a:Addr)(xs:List V):Prop :=
 Rd H a (.tup xs) ∨
  ∃(o:Obj) (its:Array Value) (n:Nat),K.lookup a=some o/\o.cls=.type "tuple" ∧ o.data=.seq its n/\its.size<=sizeLine/\cH xs its.toList
noncomputable def BY:Value->Option V
 |.none=>some .non
 |.bool b=>some (.bl b)
 |.int i _=>some (.int i)
 |.str x _=>some (.str x)
 |.bytes b _=>some (.byt b)
 |.float b _=>some (.flt b)
 |.ref a=>some (.ref a)
 |.type n=>some (.ty n)
 |_=>none
theorem cP.abs {x:V}{u:Value}(r:cP x u):BY u=some x:=by
 cases x with
 |non=>cases r;rfl
 |bl _=>cases r;rfl
 |int _=>obtain⟨t,rfl⟩:=r;rfl
 |str _=>obtain⟨t,rfl⟩:=r;rfl
 |byt _=>obtain⟨t,rfl⟩:=r;rfl
 |flt _=>obtain⟨t,rfl⟩:=r;rfl
 |ref _=>cases r;rfl
 |ty _=>cases r;rfl
theorem cP.inj {x y:V}{u:Value}(r:cP x u)(q:cP y u):x=y:=aL.inj (r.abs.symm.trans q.abs)
theorem cH.inj:∀{xs ys:List V}{us:List Value},cH xs us->cH ys us->xs=ys:=by
 intro xs ys us h;induction h generalizing ys with
 |nil=>intro q; cases q; rfl
 |cons r t ih=>
  intro q;cases q with
  |cons r2 t2=>rw [r.inj r2,ih t2]
section
variable {X:Cx}{pins:List (Addr×Obj)}{σ:St}{H:Hp}{s:Shared}{a:Addr}{xs ys:List V}
theorem Inv.list (I:Inv X pins σ H s)(h:dU X.K H a xs):∃its:List Value,cH xs its/\PlainL s.heap a its.toArray/\xs.length<=sizeLine:=by
 rcases h with h|⟨o,its,n,hk,hc,hd,hs,hz,r⟩
 ·obtain⟨z,its,n,r,e⟩:=h.ok I.hok;exact⟨its,r,⟨_,n,e,rfl,rfl,rfl⟩,z⟩
 ·refine⟨its.toList,r,⟨o,n,I.kIn a o hk,hc,hd,by simpa using hs⟩,?_⟩;have e:=r.length;simp only[bf] at e;omega
theorem Inv.tuple (I:Inv X pins σ H s)(h:dN X.K H a xs):∃its:List Value,cH xs its/\IsTup s.heap a its.toArray/\xs.length<=sizeLine:=by
 rcases h with h|⟨o,its,n,hk,hc,hs,hz,r⟩
 ·obtain⟨z,its,r,p⟩:=h.ok I.hok;exact⟨its,r,p,z⟩
 ·refine⟨its.toList,r,⟨o,I.kIn a o hk,hc,n,by simpa using hs⟩,?_⟩;have e:=r.length;simp only[bf] at e;omega
theorem Inv.list_inj (I:Inv X pins σ H s)(h:dU X.K H a xs)(h':dU X.K H a ys):xs=ys:=by
 obtain⟨its,r,⟨o,n,e,_,_,d⟩,_⟩:=I.list h;obtain⟨its',r',⟨o',n',e',_,_,d'⟩,_⟩:=I.list h';rw[e] at e';cases e';rw[d] at d';injection d' with d1 _
 have:its=its':=by simpa using congrArg Array.toList d1
 subst this;exact r.inj r'
theorem Inv.tuple_inj (I:Inv X pins σ H s)(h:dN X.K H a xs)(h':dN X.K H a ys):xs=ys:=by
 obtain⟨its,r,⟨o,e,_,n,d⟩,_⟩:=I.tuple h;obtain⟨its',r',⟨o',e',_,n',d'⟩,_⟩:=I.tuple h';rw[e] at e';cases e';rw[d] at d';injection d' with d1 _
 have:its=its':=by simpa using congrArg Array.toList d1
 subst this;exact r.inj r'
end
noncomputable abbrev Cx.wish (X:Cx)(E:Value->Shared->Prop):Cx:={ X with xe:=E }
noncomputable abbrev Cx.nox (X:Cx):Cx:=X.wish fun _ _=>False
theorem Cx.Ok.wish {X:Cx}(ok:X.Ok)(E:Value->Shared->Prop):(X.wish E).Ok :=
 ⟨ok.mod,ok.kind,ok.glob,ok.blt,ok.above,ok.inj,ok.has,ok.cab,ok.hd,ok.frames,ok.stk,ok.exf,ok.bs,ok.bsz,ok.noex,ok.exfs,ok.funs,ok.frf⟩
theorem Cx.Ok.unwish {X:Cx}{E:Value->Shared->Prop}(ok:(X.wish E).Ok):X.Ok :=
 ⟨ok.mod,ok.kind,ok.glob,ok.blt,ok.above,ok.inj,ok.has,ok.cab,ok.hd,ok.frames,ok.stk,ok.exf,ok.bs,ok.bsz,ok.noex,ok.exfs,ok.funs,ok.frf⟩
section
variable {X:Cx}{pins:List (Addr×Obj)}{σ:St}{H:Hp}{s:Shared}{E:Value->Shared->Prop}
theorem Inv.wish (I:Inv X pins σ H s)(E:Value->Shared->Prop):Inv (X.wish E) pins σ H s:=⟨I.ok.wish E,I.os,I.bare,I.base,I.loc,I.cell,I.free,I.freeC,I.pin,I.hok,I.len⟩
theorem Inv.unwish (I:Inv (X.wish E) pins σ H s):Inv X pins σ H s:=⟨I.ok.unwish,I.os,I.bare,I.base,I.loc,I.cell,I.free,I.freeC,I.pin,I.hok,I.len⟩
theorem SP.unwish {D:di}{f:Flow}{s':Shared}(h:SP (X.wish E) pins D f s'):SP X pins D f s':=by
 cases f with
 |next=>obtain⟨σ',H',I,q⟩:=h;exact⟨σ',H',I.unwish,q⟩
 |brk=>obtain⟨σ',H',I,q⟩:=h;exact⟨σ',H',I.unwish,q⟩
 |cont=>obtain⟨σ',H',I,q⟩:=h;exact⟨σ',H',I.unwish,q⟩
 |ret u=>obtain⟨v,σ',H',I,r,q⟩:=h;exact⟨v,σ',H',I.unwish,r,q⟩
theorem PE.nox {e:Expr}{t:TE}(h:PE X.nox e t):PE X e t:=fun pins s σ H Q I hw =>
 wpAny_mono (h pins s σ H Q (I.wish _) hw) (fun _ _ ⟨v,H',I',r,q⟩=>⟨v,H',I'.unwish,r,q⟩) fun _ _ z=>False.elim z
theorem PT.nox {e:Expr}{t:TT}(h:PT X.nox e t):PT X e t:=fun pins s σ H Q I hw =>
 wpAny_mono (h pins s σ H Q (I.wish _) hw) (fun _ _ ⟨H',I',q⟩=>⟨H',I'.unwish,q⟩) fun _ _ z=>False.elim z
theorem PSs.nox {st:List Stmt}{t:TS}(h:PSs X.nox st t):PSs X st t:=fun pins s σ H D I hw =>
 wpAny_mono (h pins s σ H D (I.wish _) hw) (fun _ _ q=>q.unwish) fun _ _ z=>False.elim z
end
section
variable {X:Cx}{st:Stmt}{dG:List Stmt}{t u:TS}{e:Expr}{te:TE}{pos:Pos}
noncomputable def AR:TS:=fun D σ H=>D.nx σ H
noncomputable def BE (t u:TS):TS:=fun D σ H=>t { D with nx:=u D } σ H
theorem pss_nil:PSs X [] AR:=fun _ _ σ H _ I h=>wpAny_execs_nil ⟨σ,H,I,h⟩
theorem pss_cons (h1:PS X st t)(h2:PSs X dG u):PSs X (st::dG) (BE t u):=by
 intro pins s σ H D I h;refine wpAny_execs_cons (thn (h1 pins s σ H { D with nx:=u D } I h) fun f s1 q=>?_);cases f with
 |next =>
  obtain⟨σ',H',I',q⟩:=q;exact h2 pins s1 σ' H' D I' q
 |ret v=>exact q
 |brk=>exact q
 |cont=>exact q
theorem pss_one (h1:PS X st t):PSs X [st] t:=by
 intro pins s σ H D I h;refine wpAny_execs_cons (thn (h1 pins s σ H D I h) fun f s1 q=>?_);cases f with
 |next=>exact wpAny_execs_nil q
 |ret v=>exact q
 |brk=>exact q
 |cont=>exact q
theorem Inv.quiet {pins:List (Addr×Obj)}{σ:St}{H:Hp}{s:Shared}(I:Inv X pins σ H s):interactive X.env=false:=by simp[interactive,I.ok.kind]
noncomputable def AS (te:TE):TS:=fun D σ H=>te σ H fun _ H1=>D.nx σ H1
theorem ps_expr (he:PE X e te)(hs:swapsWith e none pos.line X.env=pure false:=by rfl):PS X (.Expr e pos) (AS te):=by
 intro pins s σ H D I h;exact wpAny_Expr_any (thn (he pins s σ H _ I h) fun v s1 ⟨x,H1,I1,r1,q1⟩=>⟨σ,H1,I1,q1⟩) I.quiet hs
noncomputable def BF (te:TE):TS:=fun D σ H=>te σ H D.rt
theorem ps_ret (he:PE X e te):PS X (.Return (some e) pos) (BF te):=by
 intro pins s σ H D I h;exact wpAny_Return_some (thn (he pins s σ H _ I h) fun v s1 ⟨x,H1,I1,r1,q1⟩=>⟨x,σ,H1,I1,r1,q1⟩)
noncomputable def BH (c:TT)(t u:TS):TS:=fun D σ H=>c σ H fun b H1=>if b=true then t D σ H1 else u D σ H1
theorem ps_if {c:Expr}{a b:List Stmt}{tc:TT}(hc:PT X c tc)(ha:PSs X a t)(hb:PSs X b u):PS X (.If c a b pos) (BH tc t u):=by
 intro pins s σ H D I h;refine wpAny_If (thn (hc pins s σ H _ I h) fun d s1 zz=>?_);obtain ⟨H1,I1,q1⟩:=zz;cases d with
 |true=>exact ha pins s1 σ H1 D I1 q1
 |false=>exact hb pins s1 σ H1 D I1 q1
end
noncomputable abbrev TG:=V->St->Hp->(St->Hp->Prop)->Prop
noncomputable abbrev TGs:=List V->St->Hp->(St->Hp->Prop)->Prop
noncomputable def PG (X:Cx)(target:Expr)(t:TG):Prop :=
 ∀(pins:List (Addr×Obj)) (s:Shared) (σ:St) (H:Hp) (v:V) (u:Value) (Q:St->Hp->Prop),Inv X pins σ H s->cP v u->t v σ H Q →
  wpAny (model X.prog X.w) X.A (assign target X.env u) (fun _ s'=>∃σ' H',Inv X pins σ' H' s'/\Q σ' H') X.xe s
noncomputable def PGs (X:Cx)(ts:List Expr)(t:TGs):Prop :=
 ∀(pins:List (Addr×Obj)) (s:Shared) (σ:St) (H:Hp) (vs:List V) (us:List Value) (Q:St->Hp->Prop),Inv X pins σ H s->cH vs us->t vs σ H Q →
  wpAny (model X.prog X.w) X.A (assignInOrder ((assignEach ts X.env).map (·.2)) us) (fun _ s'=>∃σ' H',Inv X pins σ' H' s'/\Q σ' H') X.xe s
noncomputable abbrev AF:=V->V->V->Hp->(Hp->Prop)->Prop
noncomputable def Bo (X:Cx)(t:AF):Prop :=
 ∀(pins:List (Addr×Obj)) (s:Shared) (σ:St) (H:Hp) (o i v:V) (ov iv u:Value) (Q:Hp->Prop),Inv X pins σ H s->cP o ov->cP i iv->cP v u->t o i v H Q →
  wpAny (model X.prog X.w) X.A (setItem ov iv u) (fun _ s'=>∃H',Inv X pins σ H' s'/\Q H') X.xe s
section
variable {X:Cx}{pos:Pos}
noncomputable def gName (i:Nat):TG:=fun v σ H Q=>Q (σ.set i (some v)) H
theorem pg_name {i:Nat}{x:Str}(hN:X.N.Nodup)(hi:X.N[i]?=some x)(hx:Loc X.env.scope x)(hf:X.fn x=true\/X.env.scope.names.lookup x=some .local:=by first|exact .inl rfl|exact .inr rfl|assumption):PG X (.Name x pos) (gName i):=by
 intro pins s σ H v u Q I r h;exact wpAny_assign_Name (store_ok I hN hi hx r (fun s' I'=>⟨_,H,I',h⟩) hf)
noncomputable def BV:TGs:=fun vs σ H Q=>vs=[]/\Q σ H
noncomputable def Bf (t:TG)(u:TGs):TGs:=fun vs σ H Q=>∃v r,vs=v::r/\t v σ H fun σ' H'=>u r σ' H' Q
theorem pgs_nil:PGs X [] BV:=by
 intro pins s σ H vs us Q I r h;obtain⟨e,h⟩:=h;subst e;cases r;exact assignInOrder_nil ⟨σ,H,I,h⟩
theorem pgs_cons {e:Expr}{es:List Expr}{t:TG}{u:TGs}(h1:PG X e t)(h2:PGs X es u)
  (hs:(assignEach (e::es) X.env).map (·.2)=assign e X.env::(assignEach es X.env).map (·.2):=by rfl):PGs X (e::es) (Bf t u):=by
 intro pins s σ H vs us Q I r h;obtain⟨v,vr,e1,h⟩:=h;subst e1;cases r with
 |cons r rr =>
  rw[hs];refine assignInOrder_cons (thn (h1 pins s σ H _ _ _ I r h) fun _ s1 zz=>?_);obtain ⟨σ1,H1,I1,q1⟩:=zz;exact h2 pins s1 σ1 H1 _ _ Q I1 rr q1
noncomputable def BS (K:PySem.W.Frag)(n:Nat)(t:TGs):TG:=fun v σ H Q=>∃a xs,v=.ref a/\dN K H a xs/\xs.length=n/\t xs σ H Q
theorem pg_tup {es:List Expr}{k:Nat}{t:TGs}{n:Nat}(hc:X.calm=true)(h:PGs X es t)
  (hn:(assignEach es X.env).length=n:=by rfl) (hst:(assignEach es X.env).findIdx? (·.1)=none:=by rfl):PG X (.Tuple es k pos) (BS X.K n t):=by
 intro pins s σ H v u Q I r hw;obtain⟨a,xs,e1,hq,hl,hw⟩:=hw;subst e1;cases r;obtain⟨its,rv,ht,hz⟩:=I.tuple hq;refine assign_Tuple_tuple (I.ok.hd hc) ht (by simp[hn,<-hl,rv.length]) hst fun h' hx=>?_;have I1:Inv X pins σ H { s with heap:=h' }:=I.kept (t':=s.toks) fun b o e=>hx b o (aO (aF e)) e;exact h pins _ σ H xs _ Q I1 (by simpa using rv) hw
noncomputable def BU (to ti:TE)(t:AF):TG:=fun v σ H Q=>to σ H fun o H1=>ti σ H1 fun i H2=>t o i v H2 fun H3=>Q σ H3
theorem pg_sub {o i:Expr}{to ti:TE}{t:AF}(ho:PE X o to)(hi:PE X i ti)(hs:Bo X t)
  (ha:∀v,assign (.Subscript o i pos) X.env v=(do
   let ov <-holding [v] (eval o X.env)
   let iv <-holding [v,ov] (eval i X.env)
   standAt pos
   holding [v,ov,iv] (setItem ov iv v)
   release [v,ov,iv] []):=by intro _;rfl):PG X (.Subscript o i pos) (BU to ti t):=by
 intro pins s σ H v u Q I r h;rw[ha];refine af (bA (thn (ho pins s σ H _ I h) fun ov s1 zz=>?_));obtain ⟨x,H1,I1,r1,q1⟩:=zz;refine af (bA (thn (hi pins s1 σ H1 _ I1 q1) fun iv s2 zz=>?_));obtain ⟨y,H2,I2,r2,q2⟩:=zz;refine af (wpAny_standAt (af (bA (thn (hs pins s2 σ H2 x y v ov iv u _ I2 r1 r2 r q2) fun _ s3 zz=>?_))));obtain ⟨H3,I3,q3⟩:=zz;exact wpAny_release ⟨σ,H3,I3,q3⟩
noncomputable def tAsg (te:TE)(g:TG):TS:=fun D σ H=>te σ H fun x H1=>g x σ H1 D.nx
theorem ps_asg {tg e:Expr}{te:TE}{g:TG}(he:PE X e te)(hg:PG X tg g)(hs:swapsWithSole [tg] e pos.line X.env=pure false:=by rfl)(hw:swappedStores [tg] e X.env=pure none:=by rfl)
  (h1:(assignEach [tg] X.env).map (·.2)=[assign tg X.env]:=by rfl):PS X (.Assign [tg] e pos) (tAsg te g):=by
 intro pins s σ H D I h;refine wpAny_Assign_stores (thn (he pins s σ H _ I h) fun v s1 ⟨x,H1,I1,r1,q1⟩=>?_) hs hw;rw[h1];exact thn (hg pins s1 σ H1 x v _ I1 r1 q1) fun _ s2 q=>q
theorem ps_set {i:Nat}{x:Str}{e:Expr}{te:TE}{pos':Pos}(hN:X.N.Nodup)(hi:X.N[i]?=some x)(hx:Loc X.env.scope x)(he:PE X e te)(hs:swapsWith e (some (.Name x pos')) pos.line X.env=pure false:=by rfl)(hf:X.fn x=true\/X.env.scope.names.lookup x=some .local:=by first|exact .inl rfl|exact .inr rfl|assumption) :
  PS X (.Assign [.Name x pos'] e pos) (tAsg te (gName i)):=by
 intro pins s σ H D I h;refine wpAny_Assign_Name (thn (he pins s σ H _ I h) fun v s1 ⟨y,H1,I1,r1,q1⟩=>?_) hs;exact store_ok I1 hN hi hx r1 (fun s2 I2=>⟨_,H1,I2,q1⟩) hf
end
section
variable {X:Cx}{pos:Pos}
noncomputable def zJ (c:TT)(tb:TS):TS:=fun D σ H=>∃W:Nat->St->Hp->Prop,(∃m,W m σ H)/\∀m σ H,W m σ H →
 c σ H fun b H1=>if b=true then ∃N:St->Hp->Prop,(∀σ' H',N σ' H'->∃m',m'<m/\W m' σ' H')/\tb { D with nx:=N,ct:=N,bk:=D.nx } σ H1 else D.nx σ H1
theorem ps_while {c:Expr}{body:List Stmt}{tc:TT}{tb:TS}(hp:PassesOwn (model X.prog X.w) X.A X.env X.xe)(hc:PT X c tc)(hb:PSs X body tb):PS X (.While c body [] pos) (zJ tc tb):=by
 intro pins s σ H D I h;obtain⟨W,⟨m0,w0⟩,turn⟩:=h;refine wpAny_While (codeAny_whileLoop (fun n s'=>∃σ' H',Inv X pins σ' H' s'/\W n σ' H') ?_ m0 ⟨σ,H,I,w0⟩);rintro n s1 ⟨σ1,H1,I1,w1⟩;refine wpAny_passesOwn hp (thn (hc pins s1 σ1 H1 _ I1 (turn n σ1 H1 w1)) fun b s2 zz=>?_);obtain ⟨H2,I2,q2⟩:=zz;cases b with
 |true =>
  obtain⟨N,hN,q2⟩:=q2;rw[if_pos rfl];refine wpAny_passesOwn hp (thn (hb pins s2 σ1 H2 _ I2 q2) fun f s3 q3=>?_);cases f with
  |next =>
   obtain⟨σ3,H3,I3,n3⟩:=q3;obtain⟨m',hm,w3⟩:=hN σ3 H3 n3;exact⟨m',hm,σ3,H3,I3,w3⟩
  |cont =>
   obtain⟨σ3,H3,I3,n3⟩:=q3;obtain⟨m',hm,w3⟩:=hN σ3 H3 n3;exact⟨m',hm,σ3,H3,I3,w3⟩
  |brk=>exact q3
  |ret v=>exact q3
 |false =>
  rw[if_neg Bool.false_ne_true];exact wpAny_execs_nil ⟨σ1,H2,I2,q2⟩
end
structure It where
 go:Nat->Hp->Prop
 yld:Nat->Hp->V->Hp->Prop
 stop:Nat->Hp->Prop
noncomputable def ni (X:Cx)(pins:List (Addr×Obj))(H:Hp)(b:Addr):Prop :=
 H b=none/\b≠X.env.locals/\b∉X.fs/\(b∈X.ex\/X.s₀.heap.objs.size<=b)/\(∀x c,X.env.cells.lookup x=some c->c≠b)/\∀p∈X.pn++pins,p.1≠b
theorem Inv.fpOk {X:Cx}{pins:List (Addr×Obj)}{σ:St}{H H':Hp}{s:Shared}{b:Addr}(I:Inv X pins σ H s)(hb:s.heap.objs.size<=b)(hn:H' b=none):ni X pins H' b:=by
 refine⟨hn,CB (aH I.lt hb),I.nofs hb,.inr (bg I.sz hb),fun x c e z=>?_,fun p hp z=>?_⟩
 ·obtain⟨v,q⟩:=I.cell x c e;exact absurd (aH q.lt (by rw[z];exact hb)) (aY _)
 ·exact absurd (aH (aF (I.pin p hp).1) (by rw[z];exact hb)) (aY _)
structure Turn (P:Program)(w:World)(K:PySem.W.Frag)(tg:Expr)(J:It)(fp:List Addr)(it:Addr)(tn:Nat->Heap->Prop):Prop where
 mem:it∈fp
 obj:∀i h,tn i h->∀b∈fp,∃o,h.get? b=some o/\∀v,o.data≠.cell v
 keep:∀i h h',tn i h->(∀b∈fp,∀o,h.get? b=some o->h'.get? b=some o)->tn i h'
 item:∀(X:Cx),X.prog=P->X.w=w->X.K=K->X.calm=true->∀(i:Nat) (pins:List (Addr×Obj)) (s:Shared) (σ:St) (H:Hp) (E:Value->Shared->Prop),Inv X pins σ H s->(∀b∈fp,ni X pins H b)->tn i s.heap->J.go i H →
  wpAny (model P w) X.A (pyNext (.ref it)) (fun r s1=>∃u,r=some u ∧
   wpAny (model P w) X.A (letOwnedTupleGo tg (.ref it) u) (fun _ s2=>∃x H',Inv X pins σ H' s2/\cP x u/\J.yld i H x H'/\tn (i+1) s2.heap/\∀b∈fp,H' b=none) E s1) E s
 done:∀(X:Cx),X.prog=P->X.w=w->X.K=K->X.calm=true->∀(i:Nat) (pins:List (Addr×Obj)) (s:Shared) (σ:St) (H:Hp) (E:Value->Shared->Prop),Inv X pins σ H s->(∀b∈fp,ni X pins H b)->tn i s.heap->J.stop i H →
  wpAny (model P w) X.A (pyNext (.ref it)) (fun r s1=>r=none/\Inv X pins σ H s1) E s
 self:∀(A:Around) (i:Nat) (s:Shared) (Q:Value->Shared->Prop) (E:Value->Shared->Prop),tn i s.heap->Q (.ref it) s->wpAny (model P w) A (pyIter (.ref it)) Q E s
noncomputable abbrev TI:=St->Hp->(It->Hp->Prop)->Prop
noncomputable def Ce (X:Cx)(pins:List (Addr×Obj))(σ:St)(tg:Expr)(R:It->Hp->Prop)(itv:Value)(s2:Shared):Prop :=
 ∃(it:Addr) (fp:List Addr) (tn:Nat->Heap->Prop) (J:It) (H':Hp),itv=.ref it/\Inv X pins σ H' s2/\Turn X.prog X.w X.K tg J fp it tn/\tn 0 s2.heap/\(∀b∈fp,ni X pins H' b)/\R J H'
noncomputable def PI (X:Cx)(tg iter:Expr)(wi:TI):Prop :=
 ∀(pins:List (Addr×Obj)) (s:Shared) (σ:St) (H:Hp) (R:It->Hp->Prop),Inv X pins σ H s->wi σ H R →
  wpAny (model X.prog X.w) X.A (eval iter X.env) (fun v s1=>wpAny (model X.prog X.w) X.A (pyIter v) (Ce X pins σ tg R) X.xe s1) X.xe s
theorem go_of {M:Model}{A:Around}{E:Value->Shared->Prop}{s:Shared}{tg:Expr}{it:Addr}{u:Value}{o:Obj}{n:String}{vs:Array Value}{Q:Unit->Shared->Prop}(ho:s.heap.get? it=some o)(hc:o.cls=.type n)(hd:o.data=.fields vs)
    (hn:["enumerate", "zip", "dict_itemiterator", "dict_reverseitemiterator", "odict_iterator", "itertools.zip_longest", "itertools.pairwise"].contains n=false) (hQ:Q () s):wpAny M A (letOwnedTupleGo tg (.ref it) u) Q E s:=by
  unfold letOwnedTupleGo;cases tg <;> first
    |exact ay hQ
    | (cases u <;> first
        |exact ay hQ
        | (refine af (wpAny_load ho ?_)
           rw[hc,hd];show wpAny M A (if (["enumerate", "zip", "dict_itemiterator", "dict_reverseitemiterator", "odict_iterator", "itertools.zip_longest", "itertools.pairwise"].contains n&&vs[0]?==some (rawInt _))=true then _ else _) Q E s;rw[if_neg (by intro h;rw[hn,Bool.false_and] at h;cases h)];exact ay hQ))
noncomputable def Itl (K:PySem.W.Frag)(a:Addr):It :=
 ⟨fun i H=>∃xs x,dU K H a xs/\xs[i]?=some x,fun i H x H'=>H'=H/\∀xs,dU K H a xs->xs[i]?=some x,fun i H=>∃xs,dU K H a xs/\xs.length<=i⟩
noncomputable def Itt (K:PySem.W.Frag)(a:Addr):It :=
 ⟨fun i H=>∃xs x,dN K H a xs/\xs[i]?=some x,fun i H x H'=>H'=H/\∀xs,dN K H a xs->xs[i]?=some x,fun i H=>∃xs,dN K H a xs/\xs.length<=i⟩
noncomputable def Itr (lo:Int)(n:Nat):It:=⟨fun i _=>i<n,fun i H x H'=>H'=H/\x=.int (lo+i),fun i _=>n<=i⟩
theorem turn_list {P:Program}{w:World}{K:PySem.W.Frag}{tg:Expr}(a it:Addr):Turn P w K tg (Itl K a) [it] it (fun i h=>h.IsListIter it a i) where
 mem:=by simp
 obj:=fun i h st b hb=>by
  have e:b=it:=by simpa using hb
  subst e;obtain⟨o,e,c,d⟩:=st;exact⟨o,e,fun v z=>by rw[d] at z;cases z⟩
 keep:=fun i h h' st k=>st.at fun o e=>k it (by simp) o e
 item:=by
  intro X hP hw hK hc i pins s σ H E I hf st hg;subst hP hw hK;obtain⟨xs,x,hq,hx⟩:=hg;obtain⟨its,rv,p,hz⟩:=I.list hq;obtain⟨u,hu,ru⟩:=rv.get hx;obtain⟨f0,f1,f2,f3,f4,f5⟩:=hf it (by simp);refine wpAny_pyNext_list_item st p.isList (x:=u) (by simpa using hu) fun h' st' sb=>?_;have I1:Inv X pins σ H { s with heap:=h' }:=I.turned (t':=s.toks) (fun b o hb e=>(sb.2 b hb).trans e) f0 f1 f3 f4 f5;obtain⟨o,e,c,d⟩:=id st';exact⟨u,rfl,go_of (s:={ s with heap:=h' }) e c d (by decide) ⟨x,H,I1,ru,⟨rfl,fun ys hy=>by rw[I.list_inj hy hq];exact hx⟩,st',fun b hb=>(hf b hb).1⟩⟩
 done:=by
  intro X hP hw hK hc i pins s σ H E I hf st hg;subst hP hw hK;obtain⟨xs,hq,hx⟩:=hg;obtain⟨its,rv,p,hz⟩:=I.list hq;obtain⟨f0,f1,f2,f3,f4,f5⟩:=hf it (by simp);have hl:=rv.length;exact wpAny_pyNext_list_end (I.ok.hd hc) st p.isList (by simp;omega) fun h' eb=>⟨rfl,I.turned (t':=s.toks) (fun b o hb e=>eb b o hb e) f0 f1 f3 f4 f5⟩
 self:=fun _ _ _ _ _ st h=>wpAny_pyIter_listiter st h
theorem turn_tuple {P:Program}{w:World}{K:PySem.W.Frag}{tg:Expr}(a it:Addr):Turn P w K tg (Itt K a) [it] it (fun i h=>h.IsTupleIter it a i) where
 mem:=by simp
 obj:=fun i h st b hb=>by
  have e:b=it:=by simpa using hb
  subst e;obtain⟨o,e,c,d⟩:=st;exact⟨o,e,fun v z=>by rw[d] at z;cases z⟩
 keep:=fun i h h' st k=>st.at fun o e=>k it (by simp) o e
 item:=by
  intro X hP hw hK hc i pins s σ H E I hf st hg;subst hP hw hK;obtain⟨xs,x,hq,hx⟩:=hg;obtain⟨its,rv,p,hz⟩:=I.tuple hq;obtain⟨u,hu,ru⟩:=rv.get hx;obtain⟨f0,f1,f2,f3,f4,f5⟩:=hf it (by simp);refine wpAny_pyNext_tuple_item st (show s.heap.IsTuple a its.toArray from p) (x:=u) (by simpa using hu) fun h' st' sb=>?_;have I1:Inv X pins σ H { s with heap:=h' }:=I.turned (t':=s.toks) (fun b o hb e=>(sb.2 b hb).trans e) f0 f1 f3 f4 f5;obtain⟨o,e,c,d⟩:=id st';exact⟨u,rfl,go_of (s:={ s with heap:=h' }) e c d (by decide) ⟨x,H,I1,ru,⟨rfl,fun ys hy=>by rw[I.tuple_inj hy hq];exact hx⟩,st',fun b hb=>(hf b hb).1⟩⟩
 done:=by
  intro X hP hw hK hc i pins s σ H E I hf st hg;subst hP hw hK;obtain⟨xs,hq,hx⟩:=hg;obtain⟨its,rv,p,hz⟩:=I.tuple hq;obtain⟨f0,f1,f2,f3,f4,f5⟩:=hf it (by simp);have hl:=rv.length;exact wpAny_pyNext_tuple_end (I.ok.hd hc) st (show s.heap.IsTuple a its.toArray from p) (by simp;omega) fun h' eb=>⟨rfl,I.turned (t':=s.toks) (fun b o hb e=>eb b o hb e) f0 f1 f3 f4 f5⟩
 self:=fun _ _ _ _ _ st h=>wpAny_pyIter_tupleiter st h
theorem rW {P:Program}{w:World}{K:PySem.W.Frag}{tg:Expr}(it:Addr)(lo:Int)(n:Nat):Turn P w K tg (Itr lo n) [it] it (fun i h=>IsRangeIter h it (lo+(i:Nat)*1) ((n:Int)-(i:Nat)) 1) where
 mem:=by simp
 obj:=fun i h st b hb=>by
  have e:b=it:=by simpa using hb
  subst e;exact⟨_,st,fun v z=>by
   have z':Data.fields _=Data.cell v:=z;cases z'⟩
 keep:=fun i h h' st k=>k it (by simp) _ st
 item:=by
  intro X hP hw hK hc i pins s σ H E I hf st hg;subst hP hw hK;obtain⟨f0,f1,f2,f3,f4,f5⟩:=hf it (by simp);have W:=Walks.range (prog:=X.prog) (w:=X.w) (I.ok.hd hc) it lo 1 n;refine W.item i s _ _ hg st fun v h' tk hv st' kk=>?_;obtain⟨t,rfl⟩:=hv;have I1:Inv X pins σ H { s with heap:=h',toks:=tk }:=I.turned (fun b o hb e=>kk b o (by simpa using hb) e) f0 f1 f3 f4 f5;refine⟨_,rfl,go_of (s:={ s with heap:=h',toks:=tk }) (n := "range_iterator") st' rfl rfl (by decide) ⟨.int (lo+i),H,I1,⟨t,?_⟩,⟨rfl,rfl⟩,st',fun b hb=>(hf b hb).1⟩⟩;rw[Int.mul_one]
 done:=by
  intro X hP hw hK hc i pins s σ H E I hf st hg;subst hP hw hK;obtain⟨f0,f1,f2,f3,f4,f5⟩:=hf it (by simp);exact wpAny_pyNext_range_end (I.ok.hd hc) st (by have:n<=i:=hg;omega) fun h' eb=>⟨rfl,I.turned (t':=s.toks) (fun b o hb e=>eb b o hb e) f0 f1 f3 f4 f5⟩
 self:=fun _ _ _ _ _ st h=>wpAny_pyIter_rangeiter st h
end L2
namespace L2
open PySem PySem.Spec PyProof.Rows
section
variable {X:Cx}{tg:Expr}
theorem wk {pins:List (Addr×Obj)}{σ:St}{H:Hp}{s:Shared}{R:It->Hp->Prop}{E:Value->Shared->Prop}{lo hi:Int}{t u v:Tok}{tk:Nat}(I:Inv X pins σ H s)(h1:-(2 ^ 62)<=lo)(h2:lo<2 ^ 62)(h3:-(2 ^ 62)<=hi)(h4:hi<2 ^ 62)
  (q:R (Itr lo (hi-lo).toNat) H):wpAny (model X.prog X.w) X.A (pyIter (.ref s.heap.objs.size)) (Ce X pins σ tg R) E { s with heap:=s.heap.push { cls:=.type "range", data:=.fields #[.int lo t,.int hi u,.int 1 v] },toks:=tk }:=by
 refine wpAny_pyIter_range (IsRange.new ..) (small_one h1 h2 h3 h4) ?_;have I1:Inv X pins σ H { s with heap:=s.heap.push { cls:=.type "range", data:=.fields #[.int lo t,.int hi u,.int 1 v] },toks:=tk }:=I.kept fun b o e=>ai _ e;refine⟨(s.heap.push { cls:=.type "range", data:=.fields #[.int lo t,.int hi u,.int 1 v] }).objs.size,[(s.heap.push { cls:=.type "range", data:=.fields #[.int lo t,.int hi u,.int 1 v] }).objs.size],_,_,H,rfl,
  I1.kept (t':=tk) fun b o e=>ai _ e,rW _ lo (hi-lo).toNat,?_,fun b hb=>?_,q⟩
 ·have e1:lo+((0:Nat):Int)*1=lo:=by simp
  have e2:(((hi-lo).toNat:Nat):Int)-((0:Nat):Int)=Builtin.Range.rangeSize lo hi 1:=by rw[rangeSize_one];split <;> omega
  show IsRangeIter _ _ (lo+((0:Nat):Int)*1) ((((hi-lo).toNat:Nat):Int)-((0:Nat):Int)) 1;rw[e1,e2];exact aI _ rfl
 ·have e:b=(s.heap.push { cls:=.type "range", data:=.fields #[.int lo t,.int hi u,.int 1 v] }).objs.size:=by simpa using hb
  subst e;exact I1.fpOk (az _) (I1.hok.fresh (az _))
noncomputable def Be (ta:TA):TI:=fun σ H R=>ta σ H fun vs H1=>∃j:Int,vs=[.int j]/\-(2 ^ 62)<=j/\j<2 ^ 62/\R (Itr 0 j.toNat) H1
theorem pi_range1 {a:Expr}{ta:TA}{p pos:Pos}(hg:Gl X "range")(hm:X.mg "range" = none)(ha:PA X [a] ta)(hs:starEach [a] X.env=[(false,eval a X.env)]:=by rfl):PI X tg (.Call (.Name "range" p) [a] [] pos) (Be ta):=by
 intro pins s σ H R I h;refine Call_ (lH I hg hm boot_range (PyProof.Rows.callWith_type1 (thn (ha pos pins s σ H _ I h) fun us s1 ⟨vs,H1,I1,r1,q1⟩=>?_) hs rfl));obtain⟨j,e,q1,q2,q⟩:=q1;subst e;cases r1 with
 |cons r rr =>
  cases rr;obtain⟨t,rfl⟩:=r;exact call_range_1 (wk I1 ⋯ ⋯ q1 q2 (by simpa using q))
noncomputable def BI (wi:TI)(g:TG)(tb:TS):TS:=fun D σ H=>wi σ H fun J H1=>∃W:Nat->Nat->St->Hp->Prop,(∃m,W 0 m σ H1)/\∀i m σ H,W i m σ H →
 (J.stop i H/\D.nx σ H)\/(J.go i H/\∃N:St->Hp->Prop,(∀σ' H',N σ' H'->∃m',m'<m/\W (i+1) m' σ' H')/\∀x H',J.yld i H x H'->g x σ H' fun σ2 H2=>tb { D with nx:=N,ct:=N,bk:=D.nx } σ2 H2)
noncomputable def mG (fp:List Addr)(h:Heap):List (Addr×Obj):=fp.filterMap fun b=>(h.get? b).map fun o=>(b,o)
theorem i8 {fp:List Addr}{h:Heap}{b:Addr}{o:Obj}(hb:b∈fp)(e:h.get? b=some o):(b,o)∈mG fp h:=List.mem_filterMap.mpr ⟨b,hb,by rw[e];rfl⟩
theorem uV {fp:List Addr}{h:Heap}{p:Addr×Obj}(hp:p∈mG fp h):p.1∈fp/\h.get? p.1=some p.2:=by
 obtain⟨b,hb,e⟩:=List.mem_filterMap.mp hp;cases q:h.get? b with
 |none=>rw[q] at e;cases e
 |some o =>
  rw[q] at e;have e':(b,o)=p:=aL.inj e;subst e';exact⟨hb,q⟩
theorem Inv.pinned {pins:List (Addr×Obj)}{σ:St}{H:Hp}{s:Shared}{fp:List Addr}(I:Inv X pins σ H s)(hf:∀b∈fp,ni X pins H b)(ho:∀b∈fp,∃o,s.heap.get? b=some o/\∀v,o.data≠.cell v):Inv X (pins++mG fp s.heap) σ H s :=
 I.pins_of fun p hp=>(aG.mp hp).elim (fun z=>I.pin p (av _ z)) fun z=>by
  obtain⟨hb,e⟩:=uV z;obtain⟨f0,f1,f2,_⟩:=hf p.1 hb;obtain⟨o,e',d⟩:=ho p.1 hb;rw[e] at e';cases e';exact⟨e,f0,f1,f2,d⟩
theorem Inv.unpinned {pins pl:List (Addr×Obj)}{σ:St}{H:Hp}{s:Shared}(I:Inv X (pins++pl) σ H s):Inv X pins σ H s:=I.pins_of fun p hp=>I.pin p (av _ (aB _ hp))
theorem ps_for {iter:Expr}{body:List Stmt}{wi:TI}{g:TG}{tb:TS}{pos:Pos}(hp:PassesOwn (model X.prog X.w) X.A X.env X.xe)(hc:X.calm=true)(hi:PI X tg iter wi)(hg:PG X tg g)(hb:PSs X body tb)
  (hs:∀x,foldedSetIterable iter X.env x=pure x:=by intro _;rfl):PS X (.For tg iter body [] pos) (BI wi g tb):=by
 intro pins s σ H D I h;refine wpAny_For (thn (hi pins s σ H _ I h) fun v s1 h1=>thn h1 fun itv s2 h2=>?_) hs;obtain⟨it,fp,tn,J,H2,e,I2,T,st2,f2,W,⟨m0,w0⟩,turn⟩:=h2;subst e;have stat:∀{H':Hp},(∀b∈fp,H' b=none)->∀b∈fp,ni X pins H' b:=fun hn b hb=>⟨hn b hb,(f2 b hb).2⟩;refine codeAny_forLoop_any (fun n s'=>∃i σ' H',Inv X pins σ' H' s'/\tn i s'.heap/\(∀b∈fp,H' b=none)/\W i n σ' H') ?_ m0 ⟨0,σ,H2,I2,st2,fun b hb=>(f2 b hb).1,w0⟩;rintro n s3 ⟨i,σ3,H3,I3,st3,fr3,w3⟩;rcases turn i n σ3 H3 w3 with ⟨stop,qn⟩|⟨go,N,hN,step⟩
 ·refine wpAny_passesOwn hp (thn (T.done X rfl rfl rfl hc i pins s3 σ3 H3 X.xe I3 (stat fr3) st3 stop) fun r s4 zz=>?_);obtain ⟨hr,I4⟩:=zz;subst hr;exact wpAny_execs_nil ⟨σ3,H3,I4,qn⟩
 ·refine wpAny_passesOwn hp (thn (T.item X rfl rfl rfl hc i pins s3 σ3 H3 X.xe I3 (stat fr3) st3 go) fun r s4 zz=>?_);obtain ⟨u,hr,h4⟩:=zz;subst hr;refine wpAny_passesOwn hp (thn h4 fun _ s5 zz=>?_);obtain ⟨x,H5,I5,r5,y5,st5,fr5⟩:=zz;have I5':=I5.pinned (stat fr5) (T.obj _ _ st5);refine wpAny_passesOwn hp (thn (hg _ s5 σ3 H5 x u _ I5' r5 (step x H5 y5)) fun _ s6 zz=>?_);obtain ⟨σ6,H6,I6,q6⟩:=zz;refine wpAny_passesOwn hp (thn (hb _ s6 σ6 H6 _ I6 q6) fun f s7 q7=>?_);have again:∀{σ7:St}{H7:Hp},Inv X (pins++mG fp s5.heap) σ7 H7 s7->N σ7 H7->∃m,m<n/\∃i σ' H',Inv X pins σ' H' s7/\tn i s7.heap/\(∀b∈fp,H' b=none)/\W i m σ' H':=fun {σ7 H7} I7 n7=>by
   obtain⟨m',hm,w7⟩:=hN σ7 H7 n7;refine⟨m',hm,i+1,σ7,H7,I7.unpinned,T.keep _ _ _ st5 fun b hb o e=>(I7.pin (b,o) (av _ (av _ (i8 hb e)))).1,fun b hb=>?_,w7⟩;obtain⟨o,e,d⟩:=T.obj _ _ st5 b hb;exact (I7.pin (b,o) (av _ (av _ (i8 hb e)))).2.1
  cases f with
  |next=>obtain⟨σ7,H7,I7,n7⟩:=q7;exact again I7 n7
  |cont=>obtain⟨σ7,H7,I7,n7⟩:=q7;exact again I7 n7
  |brk=>obtain⟨σ7,H7,I7,q7⟩:=q7;exact⟨σ7,H7,I7.unpinned,q7⟩
  |ret v=>obtain⟨x7,σ7,H7,I7,r7,q7⟩:=q7;exact⟨x7,σ7,H7,I7.unpinned,r7,q7⟩
end
end L2
namespace L2
open PySem PySem.Spec PyProof.Rows
noncomputable abbrev R2:=V->V->Hp->VK->Prop
noncomputable def OpR (X:Cx)(f:Value->Value->Sem Value)(r:R2):Prop :=
 ∀(pins:List (Addr×Obj)) (s:Shared) (σ:St) (H:Hp) (x y:V) (v u:Value) (Q:VK),Inv X pins σ H s->cP x v->cP y u->r x y H Q →
  wpAny (model X.prog X.w) X.A (f v u) (EP X pins σ Q) X.xe s
noncomputable def UnR (X:Cx)(f:Value->Sem Value)(r:V->Hp->VK->Prop):Prop :=
 ∀(pins:List (Addr×Obj)) (s:Shared) (σ:St) (H:Hp) (x:V) (v:Value) (Q:VK),Inv X pins σ H s->cP x v->r x H Q →
  wpAny (model X.prog X.w) X.A (f v) (EP X pins σ Q) X.xe s
noncomputable def CallR (X:Cx)(f:Value)(r:List V->Hp->VK->Prop):Prop :=
 ∀(pins:List (Addr×Obj)) (s:Shared) (σ:St) (H:Hp) (xs:List V) (us:List Value) (Q:VK),Inv X pins σ H s->cH xs us->r xs H Q →
  wpAny (model X.prog X.w) X.A (call f us) (EP X pins σ Q) X.xe s
noncomputable def tOp (r:R2)(ta tb:TE):TE:=fun σ H Q=>ta σ H fun x H1=>tb σ H1 fun y H2=>r x y H2 Q
noncomputable def tUn (r:V->Hp->VK->Prop)(ta:TE):TE:=fun σ H Q=>ta σ H fun x H1=>r x H1 Q
noncomputable def rI (C:Int->Int->Prop)(g:Int->Int->V):R2:=fun x y H Q=>∃i j,x=.int i/\y=.int j/\C i j/\Q (g i j) H
noncomputable def rI0 (g:Int->Int->V):R2:=fun x y H Q=>∃i j,x=.int i/\y=.int j/\Q (g i j) H
noncomputable def rU (g:Int->V):V->Hp->VK->Prop:=fun x H Q=>∃i,x=.int i/\Q (g i) H
section
variable {X:Cx}{a b c:Expr}{ta tb tc:TE}{pos:Pos}
theorem AA (ha:PE X a ta)(hb:PE X b tb){pins:List (Addr×Obj)}{s:Shared}{σ:St}{H:Hp}{R:V->V->Hp->Prop}(I:Inv X pins σ H s)
  (h:ta σ H fun x H1=>tb σ H1 fun y H2=>R x y H2) {Q:Value->Shared->Prop}{f:Value->Value->Sem Value}
  (hf:∀v u s2 x y H2,Inv X pins σ H2 s2->cP x v->cP y u->R x y H2->wpAny (model X.prog X.w) X.A (f v u) Q X.xe s2) :
  wpAny (model X.prog X.w) X.A (eval a X.env) (fun v s₁=>wpAny (model X.prog X.w) X.A (eval b X.env) (fun u s₂=>wpAny (model X.prog X.w) X.A (f v u) Q X.xe s₂) X.xe s₁) X.xe s:=by
 refine thn (ha pins s σ H _ I h) fun v s1 zz=>?_;obtain ⟨x,H1,I1,r1,q1⟩:=zz;refine thn (hb pins s1 σ H1 _ I1 q1) fun u s2 zz=>?_;obtain ⟨y,H2,I2,r2,q2⟩:=zz;exact hf v u s2 x y H2 I2 r1 r2 q2
theorem pe_op {op:Operator}{r:R2}(ho:OpR X (binaryOp op) r)(ha:PE X a ta)(hb:PE X b tb):PE X (.BinOp a op b pos) (tOp r ta tb):=by
 intro pins s σ H Q I h;exact wpAny_BinOp (AA ha hb I h fun v u s2 x y H2 I2 rx ry q=>ho pins s2 σ H2 x y v u Q I2 rx ry q)
theorem pe_un {op:UnaryOp}{r:V->Hp->VK->Prop}(ho:UnR X (unaryOp op) r)(ha:PE X a ta):PE X (.UnaryOp op a pos) (tUn r ta):=by
 intro pins s σ H Q I h;exact UnaryOp_ (thn (ha pins s σ H _ I h) fun v s1 ⟨x,H1,I1,r1,q1⟩=>ho pins s1 σ H1 x v Q I1 r1 q1)
theorem By {f:Value->Value->Sem Value}{C:Int->Int->Prop}{g:Int->Int->Int}
  (rule:∀(i j:Int) (t u:Tok) (s:Shared) (Q:Value->Shared->Prop) (E:Value->Shared->Prop),C i j->Q (.int (g i j) s.toks) { s with toks:=s.toks+1 }->wpAny (model X.prog X.w) X.A (f (.int i t) (.int j u)) Q E s) :
  OpR X f (rI C fun i j=>.int (g i j)):=by
 intro pins s σ H x y v u Q I rx ry h;obtain⟨i,j,rfl,rfl,hc,q⟩:=h;obtain⟨t,rfl⟩:=rx;obtain⟨t',rfl⟩:=ry;exact rule i j t t' s _ _ hc ⟨.int (g i j),H,I.tok _,⟨_,rfl⟩,q⟩
theorem A9 {f:Value->Value->Sem Value}{g:Int->Int->Int}
  (rule:∀(i j:Int) (t u:Tok) (s:Shared) (Q:Value->Shared->Prop) (E:Value->Shared->Prop),Q (.int (g i j) s.toks) { s with toks:=s.toks+1 }->wpAny (model X.prog X.w) X.A (f (.int i t) (.int j u)) Q E s) :
  OpR X f (rI0 fun i j=>.int (g i j)):=by
 intro pins s σ H x y v u Q I rx ry h;obtain⟨i,j,rfl,rfl,q⟩:=h;obtain⟨t,rfl⟩:=rx;obtain⟨t',rfl⟩:=ry;exact rule i j t t' s _ _ ⟨.int (g i j),H,I.tok _,⟨_,rfl⟩,q⟩
theorem zU {f:Value->Value->Sem Value}{g:Int->Int->Bool}
  (rule:∀(i j:Int) (t u:Tok) (s:Shared) (Q:Value->Shared->Prop) (E:Value->Shared->Prop),Q (.bool (g i j)) s->wpAny (model X.prog X.w) X.A (f (.int i t) (.int j u)) Q E s) :
  OpR X f (rI0 fun i j=>.bl (g i j)):=by
 intro pins s σ H x y v u Q I rx ry h;obtain⟨i,j,rfl,rfl,q⟩:=h;obtain⟨t,rfl⟩:=rx;obtain⟨t',rfl⟩:=ry;exact rule i j t t' s _ _ ⟨.bl (g i j),H,I,rfl,q⟩
def CDiv (i j:Int):Prop:=0<j/\j<1073741824
def CPow (i j:Int):Prop:=0<=j/\j<=1000000/\i.natAbs<2 ^ 64
def CMul (i j:Int):Prop:=(-(2 ^ 64)<i/\i<2 ^ 64)\/(-(2 ^ 64)<j/\j<2 ^ 64)
theorem CMul.ok {i j:Int}(h:CMul i j):IntMulOk i j:=by
 rcases h with ⟨h1,h2⟩|⟨h1,h2⟩
 ·exact .of_left (intBits_le_64 h1 h2)
 ·exact .of_right (intBits_le_64 h1 h2)
theorem zT:OpR X (binaryOp .Add) (rI0 fun i j=>.int (i+j)):=A9 fun _ _ _ _ _ _ _ q=>add_int q
theorem op_sub:OpR X (binaryOp .Sub) (rI0 fun i j=>.int (i-j)):=A9 fun _ _ _ _ _ _ _ q=>sub_int q
theorem op_mul:OpR X (binaryOp .Mult) (rI CMul fun i j=>.int (i*j)):=By fun _ _ _ _ _ _ _ hc q=>mul_int q hc.ok
theorem op_fdiv:OpR X (binaryOp .FloorDiv) (rI CDiv fun i j=>.int (i/j)):=By fun i j _ _ _ _ _ hc q=>by
 have h1:(0:Int)<j:=hc.1;have h2:j<1073741824:=hc.2;exact floordiv_int ⋯ (by rw[Int.fdiv_eq_ediv_of_nonneg i ⋯];exact q) (.inl (PyProof.noPylong_small ⋯))
theorem op_mod:OpR X (binaryOp .Mod) (rI (fun _ j=>0<j) fun i j=>.int (i%j)):=By fun i j _ _ _ _ _ hc q=>by
 have h1:(0:Int)<j:=hc;exact mod_int' ⋯ (by rw[Int.fmod_eq_emod_of_nonneg i ⋯];exact q)
theorem op_pow:OpR X (binaryOp .Pow) (rI CPow fun i j=>.int (i ^ j.toNat)):=By fun _ _ _ _ _ _ _ hc q=>pow_int_small hc.1 hc.2.1 hc.2.2 q
theorem Cj {f:Value->Sem Value}{g:Int->Int}
  (rule:∀(i:Int) (t:Tok) (s:Shared) (Q:Value->Shared->Prop) (E:Value->Shared->Prop),Q (.int (g i) s.toks) { s with toks:=s.toks+1 }->wpAny (model X.prog X.w) X.A (f (.int i t)) Q E s) :
  UnR X f (rU fun i=>.int (g i)):=by
 intro pins s σ H x v Q I rx h;obtain⟨i,rfl,q⟩:=h;obtain⟨t,rfl⟩:=rx;exact rule i t s _ _ ⟨.int (g i),H,I.tok _,⟨_,rfl⟩,q⟩
theorem un_neg:UnR X (unaryOp .USub) (rU fun i=>.int (-i)):=Cj fun _ _ _ _ _ q=>neg_int q
end
section
variable {X:Cx}{a b c:Expr}{ta tb tc:TE}{pos:Pos}
theorem sO {pins:List (Addr×Obj)}{σ:St}{H:Hp}{s:Shared}{Q:VK}{k k':Bool}(I:Inv X pins σ H s)(q:Q (.bl k) H)(e:k=k'):EP X pins σ Q (.bool k') s:=by
 subst e;exact⟨.bl k,H,I,rfl,q⟩
theorem op_lt:OpR X (compareOp .Lt) (rI0 fun i j=>.bl (decide (i<j))):=zU fun _ _ _ _ _ _ _ q=>lt_int q
theorem op_le:OpR X (compareOp .LtE) (rI0 fun i j=>.bl (decide (i<=j))):=zU fun _ _ _ _ _ _ _ q=>le_int q
theorem op_gt:OpR X (compareOp .Gt) (rI0 fun i j=>.bl (decide (j<i))):=zU fun _ _ _ _ _ _ _ q=>gt_int q
theorem op_in_str:OpR X (compareOp .In) (fun x y H Q=>∃i j,x=.str i/\y=.str j/\Q (.bl (!(Builtin.Str.occurrences j i 0 j.length 1).isEmpty)) H):=by
 intro pins s σ H x y v u Q I rx ry h;obtain⟨i,j,rfl,rfl,q⟩:=h;obtain⟨t,rfl⟩:=rx;obtain⟨t',rfl⟩:=ry;exact in_str (sO I q rfl)
theorem op_isN:OpR X (compareOp .Is) (fun x y H Q=>y=.non/\Q (.bl (decide (x=.non))) H):=by
 intro pins s σ H x y v u Q I rx ry h;obtain⟨rfl,q⟩:=h;cases ry;refine is_none_gen (sO I q ?_);cases x <;> first
  |(cases rx;rfl)
  |(obtain⟨t,rfl⟩:=rx;rfl)
theorem op_notin_str:OpR X (compareOp .NotIn) (fun x y H Q=>∃i j,x=.str i/\y=.str j/\Q (.bl (!(!(Builtin.Str.occurrences j i 0 j.length 1).isEmpty))) H):=by
 intro pins s σ H x y v u Q I rx ry h;obtain⟨i,j,rfl,rfl,q⟩:=h;obtain⟨t,rfl⟩:=rx;obtain⟨t',rfl⟩:=ry;exact notIn_str (sO I q rfl)
theorem OpR.or {f:Value->Value->Sem Value}{r r':R2}(h:OpR X f r)(h':OpR X f r'):OpR X f (fun x y H Q=>r x y H Q\/r' x y H Q):=by
 intro pins s σ H x y v u Q I rx ry q;rcases q with q|q
 ·exact h pins s σ H x y v u Q I rx ry q
 ·exact h' pins s σ H x y v u Q I rx ry q
theorem nomark (b:Expr){op:CmpOp}(h:op≠.In:=by decide)(h2:op≠.NotIn:=by decide):behindInMarks op b=false:=by
 have e1:(op==CmpOp.In)=false:=by cases op <;> first|rfl|exact absurd rfl h
 have e2:(op==CmpOp.NotIn)=false:=by cases op <;> first|rfl|exact absurd rfl h2
 cases b <;> simp[behindInMarks,e1,e2]
theorem pe_cmpR {op:CmpOp}{r:R2}(ho:OpR X (compareOp op) r)(ha:PE X a ta)(hb:PE X b tb)(hm:behindInMarks op b=false):PE X (.Compare a [op] [b] pos) (tOp r ta tb):=by
 intro pins s σ H Q I h;exact wpAny_Compare1 (AA ha hb I h fun v u s2 x y H2 I2 rx ry q=>ho pins s2 σ H2 x y v u Q I2 rx ry q) hm
noncomputable def ze (t:TE):TT:=fun σ H Q=>t σ H fun x H'=>∃k,x=.bl k/\Q k H'
theorem pt_cmpR {op:CmpOp}{r:R2}(ho:OpR X (compareOp op) r)(ha:PE X a ta)(hb:PE X b tb)(hm:behindInMarks op b=false):PT X (.Compare a [op] [b] pos) (ze (tOp r ta tb)):=by
 intro pins s σ H Q I h;refine wpAny_isTrue_Compare1 (thn (ha pins s σ H _ I h) fun v s1 ⟨x,H1,I1,r1,q1⟩=>thn (hb pins s1 σ H1 _ I1 q1) fun u s2 ⟨y,H2,I2,r2,q2⟩ =>
  thn (ho pins s2 σ H2 x y v u _ I2 r1 r2 q2) fun c s3 ⟨z,H3,I3,r3,k,e,q3⟩=>?_) hm
 subst e;cases r3;exact wpAny_truthy_bool ⟨H3,I3,q3⟩
noncomputable def tChain (r r':R2)(ta tb tc:TE):TE:=fun σ H Q=>ta σ H fun x H1=>tb σ H1 fun y H2=>r x y H2 fun z H3=>∃k,z=.bl k ∧
 (if k=true then tc σ H3 fun w' H4=>r' y w' H4 Q else Q (.bl false) H3)
theorem pe_chain {op op':CmpOp}{r r':R2}(ho:OpR X (compareOp op) r)(ho':OpR X (compareOp op') r')(ha:PE X a ta)(hb:PE X b tb)(hc:PE X c tc)
  (hm:lastMarks [op,op'] [b,c]=false:=by with_unfolding_all rfl):PE X (.Compare a [op,op'] [b,c] pos) (tChain r r' ta tb tc):=by
 intro pins s σ H Q I h;refine Compare_chain (thn (ha pins s σ H _ I h) fun v s1 ⟨x,H1,I1,r1,q1⟩=>chain_link (thn (hb pins s1 σ H1 _ I1 q1) fun u s2 ⟨y,H2,I2,r2,q2⟩ =>
  thn (ho pins s2 σ H2 x y v u _ I2 r1 r2 q2) fun d s3 ⟨z,H3,I3,r3,k,e,q3⟩=>?_)) hm
 subst e;cases r3;refine wpAny_truthy_bool ?_;cases k with
 |false=>exact ite_ff ⟨.bl false,H3,I3,rfl,q3⟩
 |true=>exact ite_tt (chain_last (thn (hc pins s3 σ H3 _ I3 q3) fun w' s4 ⟨z',H4,I4,r4,q4⟩=>ho' pins s4 σ H4 y z' u w' Q I4 r2 r4 q4))
theorem pt_chain {op op':CmpOp}{r r':R2}(ho:OpR X (compareOp op) r)(ho':OpR X (compareOp op') r')(ha:PE X a ta)(hb:PE X b tb)(hc:PE X c tc)
  (hm:lastMarks [op,op'] [b,c]=false:=by with_unfolding_all rfl):PT X (.Compare a [op,op'] [b,c] pos) (ze (tChain r r' ta tb tc)):=by
 intro pins s σ H Q I h;refine isTrue_chain (thn (ha pins s σ H _ I h) fun v s1 ⟨x,H1,I1,r1,q1⟩=>test_link (thn (hb pins s1 σ H1 _ I1 q1) fun u s2 ⟨y,H2,I2,r2,q2⟩ =>
  thn (ho pins s2 σ H2 x y v u _ I2 r1 r2 q2) fun d s3 ⟨z,H3,I3,r3,k,e,q3⟩=>?_)) hm
 subst e;cases r3;refine wpAny_truthy_bool ?_;cases k with
 |false =>
  obtain⟨k',e',q'⟩:=q3;cases e';exact ite_ff ⟨H3,I3,q'⟩
 |true =>
  refine ite_tt (test_last (thn (hc pins s3 σ H3 _ I3 q3) fun w' s4 ⟨z',H4,I4,r4,q4⟩=>thn (ho' pins s4 σ H4 y z' u w' _ I4 r2 r4 q4) fun d' s5 zz=>?_));obtain ⟨z2,H5,I5,r5,k2,e2,q5⟩:=zz;subst e2;cases r5;exact wpAny_truthy_bool ⟨H5,I5,q5⟩
theorem lG:(sizeLine:Nat)<2 ^ 63:=by rw[sizeLine_eq];decide
theorem r9:OpR X (binaryOp .Add) (fun x y H Q=>∃i j,x=.str i/\y=.str j/\i.length+j.length<=sizeLine/\Q (.str (i++j)) H):=by
 intro pins s σ H x y v u Q I rx ry h;obtain⟨i,j,rfl,rfl,hz,q⟩:=h;obtain⟨t,rfl⟩:=rx;obtain⟨t',rfl⟩:=ry;exact add_str (fun t' tk=>⟨.str (i++j),H,I.tok _,⟨_,rfl⟩,q⟩) hz
theorem vU {x:V}{us:List Value}(r:cH [x] us):∃u,us=[u]/\cP x u:=by
 cases r with
 |cons r1 r2=>cases r2;exact⟨_,rfl,r1⟩
theorem AL {x y:V}{us:List Value}(r:cH [x,y] us):∃u w',us=[u,w']/\cP x u/\cP y w':=by
 cases r with
 |cons r1 r2 =>
  cases r2 with
  |cons r3 r4=>cases r4;exact⟨_,_,rfl,r1,r3⟩
theorem call_max2 (hc:X.calm=true):CallR X (.builtin "max") (fun xs H Q=>∃i j,xs=[.int i,.int j]/\Q (.int (if j>i then j else i)) H):=by
 intro pins s σ H xs us Q I r h;obtain⟨i,j,rfl,q⟩:=h;obtain⟨u,w',rfl,⟨t,rfl⟩,⟨t',rfl⟩⟩:=AL r;refine max_two_ints (I.ok.hd hc) fun h' tk k=>⟨_,H,I.kept k,?_,q⟩;by_cases hj:j>i
 ·rw[if_pos hj,if_pos hj];exact⟨_,rfl⟩
 ·rw[if_neg hj,if_neg hj];exact⟨_,rfl⟩
end
end L2
namespace L2
open PySem PySem.Spec PyProof.Rows
section
variable {prog:Program}{w:World}{A:Around}{E:Value->Shared->Prop}{s:Shared}{K:PySem.W.Frag}{x dx C f:Addr}{mA:Str->Option Value}{name:Str}{v:Value}
end
section
variable {P:Program}{w:World}{H H':Hp}{h h':Heap}{a C dx:Addr}{fs fs':List (Str×V)}
end
section
variable {X:Cx}{pins:List (Addr×Obj)}{σ:St}{H:Hp}{s:Shared}{a C dx:Addr}{fs:List (Str×V)}{f:Str}{v:V}{A:Around}{E:Value->Shared->Prop}
end
section
variable {X:Cx}{o e value:Expr}{f:Str}{pos pos' tpos:Pos}{ta tv:TE}
end
section
variable {X:Cx}{pins:List (Addr×Obj)}{σ:St}{H:Hp}{s:Shared}{A:Around}{E:Value->Shared->Prop}{Q:Value->Shared->Prop}{c:Value}{b:Bool}
end
end L2
namespace L2
open PySem PySem.Spec PyProof.Rows
structure Room (k:Nat)(A:Around):Prop where
 hd:A.handled=none
 dp:A.depth+3*k+5<recursionLimit
 un:A.units+16*k+200<cLine
theorem Room.mono {j k:Nat}{A:Around}(r:Room k A)(h:j<=k):Room j A:=⟨r.hd,by have:=r.dp;omega,by have:=r.un;omega⟩
theorem Room.deeper {k:Nat}{A:Around}(r:Room (k+1) A)(env:Env):Room k (A.deeper env) :=
 ⟨r.hd,by have:=r.dp;show A.depth+1+3*k+5<_;omega,by have:=r.un;show A.units+3+16*k+200<_;omega⟩
theorem Room.depth {k:Nat}{A:Around}(r:Room k A):A.depth<recursionLimit:=by have:=r.dp;omega
theorem Room.units {k:Nat}{A:Around}(r:Room k A):A.units+64<cLine:=by have:=r.un;omega
noncomputable def tNil:TA:=fun _ H Q=>Q [] H
noncomputable def tCons (ta:TE)(tr:TA):TA:=fun σ H Q=>ta σ H fun x H1=>tr σ H1 fun xs H2=>Q (x::xs) H2
section
variable {X:Cx}{e:Expr}{es:List Expr}{te:TE}{t:TA}{pos:Pos}
theorem pa_nil:PA X [] tNil:=fun _ _ _ _ H Q I h=>Calls.spliced_nil ⟨[],H,I,.nil,h⟩
theorem pa_cons (ha:PE X e te)(hr:PA X es t)(hs:starEach (e::es) X.env=(false,eval e X.env)::starEach es X.env:=by rfl):PA X (e::es) (tCons te t):=by
 intro pos pins s σ H Q I h;rw[hs];show wpAny _ _ (spliced ((false,eval e X.env)::backTo pos (starEach es X.env))) _ _ s;refine Calls.spliced_cons (thn (ha pins s σ H _ I h) fun u s1 zz=>?_);obtain ⟨x,H1,I1,r1,q1⟩:=zz;exact thn (hr pos pins s1 σ H1 _ I1 q1) fun us s2 ⟨xs,H2,I2,r2,q2⟩=>⟨x::xs,H2,I2,.cons r1 r2,q2⟩
noncomputable def BC (t:TA):TE:=fun σ H Q=>t σ H fun xs H1=>xs.length<=sizeLine/\∀p,H1 p=none->Q (.ref p) (cZ H1 p (.tup xs))
noncomputable def BG (t:TA):TE:=fun σ H Q=>t σ H fun xs H1=>xs.length<=sizeLine/\∀p,H1 p=none->Q (.ref p) (cZ H1 p (.lst xs))
theorem pe_tup {x1}(h:PA X es t):PE X (.Tuple es x1 pos) (BC t):=by
 intro pins s σ H Q I hq;refine wpAny_Tuple_spliced (thn (h pos pins s σ H _ I hq) fun us s1 ⟨xs,H1,I1,r,z,q⟩=>⟨by rw[<-r.length];exact z,?_⟩);have hf:H1 s1.heap.objs.size=none:=I1.hok.fresh (az _);refine⟨.ref s1.heap.objs.size,cZ H1 s1.heap.objs.size (.tup xs),I1.laid (t':=s1.toks) (fun b u e=>ai _ e) (az _) ?_,rfl,q _ hf⟩;exact⟨z,us,r,⟨_,aI _ rfl,rfl,_,rfl⟩⟩
theorem pe_lst (h:PA X es t):PE X (.List es pos) (BG t):=by
 intro pins s σ H Q I hq;refine wpAny_List_spliced (thn (h pos pins s σ H _ I hq) fun us s1 ⟨xs,H1,I1,r,z,q⟩=>⟨by rw[<-r.length];exact z,?_⟩);have hf:H1 s1.heap.objs.size=none:=I1.hok.fresh (az _);refine⟨.ref s1.heap.objs.size,cZ H1 s1.heap.objs.size (.lst xs),I1.laid (t':=s1.toks) (fun b u e=>ai _ e) (az _) ?_,rfl,q _ hf⟩;exact⟨z,us,0,r,aI _ rfl⟩
end
noncomputable abbrev Sp:=List V->Hp->VK->XK->Prop
noncomputable abbrev vP:=List Env->Hp->Shared->XK->Value->Shared->Prop
structure zc (P:Program)(w:World)(K:PySem.W.Frag)(mg:Str->Option Value)(base:Heap)(A:Around)(outer:List Env)(s:Shared)(H:Hp):Prop where
 frames:A.frames=some outer
 mod:Mod K mg base
 bs:∀b o,base.get? b=some o->s.heap.get? b=some o/\H b=none
 bsz:base.objs.size<=s.heap.objs.size
 funs:s.heap.FunFrames base outer
 frf:∀b∈frs outer,H b=none
 hok:lj P w H s.heap
 bare:AllBare s.gens
noncomputable def CE (outer:List Env)(P:Program)(w:World)(H:Hp)(s:Shared)(Q:VK)(u:Value)(s':Shared):Prop :=
 ∃v H',s'.os=s.os/\AllBare s'.gens/\Un (frs outer) [] H H' s.heap s'.heap/\lj P w H' s'.heap/\cP v u/\Q v H'
noncomputable def CR (CX:vP)(outer:List Env)(P:Program)(w:World)(H:Hp)(s:Shared)(Q:VK)(E:XK)(r:Result)(s':Shared):Prop :=
 match r with
 |.ok (.ret u)=>CE outer P w H s Q u s'
 |.ok _=>False
 |.error e=>CX outer H s E e s'
structure FnOk (P:Program)(w:World)(K:PySem.W.Frag)(mg:Str->Option Value)(base:Heap)(CX:vP)(k:Nat)(f:Addr)(fd:FuncData)(ps:List Str)(sp:Sp):Prop where
 len:∀vs H Q E,sp vs H Q E->vs.length=ps.length
 run:∀(A:Around) (outer:List Env) (s:Shared) (H:Hp) (args:Args) (us:List Value) (vs:List V) (Q:VK) (E:XK),Room k A->zc P w K mg base A outer s H->BindsTo s fd args (ps.zip us)->cH vs us->sp vs H Q E →
  codeAny (model P w) A (.call (.ref f) args) (CR CX outer P w H s Q E) s
section
variable {X:Cx}{pins:List (Addr×Obj)}{σ:St}{H:Hp}{s s':Shared}
theorem Inv.env0 (I:Inv X pins σ H s):zc X.prog X.w X.K X.mg X.base X.A X.stack s H :=
 ⟨I.ok.frames,I.ok.mod,I.bs,bg I.ok.bsz I.sz,I.stack,I.stkFree,I.hok,I.bare⟩
theorem Inv.after {Q:VK}{u:Value}(I:Inv X pins σ H s)(h:CE X.stack X.prog X.w H s Q u s'):EP X pins σ Q u s':=by
 obtain⟨v,H',os,bare,un,hok,r,q⟩:=h;obtain⟨hh,g,d,t,os'⟩:=s'
 obtain rfl:os'=s.os:=os
 exact⟨v,H',I.call (h':=hh) (g':=g) (d':=d) (t':=t) (ch:=[]) un hok bare (fun b z=>absurd z (by simp)),r,q⟩
end
noncomputable def AU (sp:Sp)(dvs:List V)(E:XK)(t:TA):TE:=fun σ H Q=>t σ H fun vs H1=>sp (vs++dvs) H1 Q E
noncomputable def Binds (K:PySem.W.Frag)(fd:FuncData)(ps:List Str)(ds:List Value):Prop :=
 ∀(s:Shared) (us:List Value),K.In s.heap->(us++ds).length=ps.length->BindsTo s fd ⟨us,[]⟩ (ps.zip (us++ds))
theorem Binds.all {K:PySem.W.Frag}{fd:FuncData}{ps:List Str}(h:∀us:List Value,us.length=ps.length->bindArgs fd ⟨us,[]⟩=pure (ps.zip us)):Binds K fd ps []:=fun s us _ hl=>by
 rw[aT] at hl ⊢;exact .of_eq (h us hl)
def tj (CX:vP)(X:Cx)(E:XK):Prop:=∀(pins:List (Addr×Obj)) (σ:St) (H:Hp) (s:Shared) (e:Value) (s':Shared),Inv X pins σ H s->CX X.stack H s E e s'->X.xe e s'
section
variable {X:Cx}{CX:vP}{k:Nat}{f C:Addr}{fd:FuncData}{ps:List Str}{sp:Sp}{dvs:List V}{ds:List Value}{E:XK}{x m:Str}{p pos apos:Pos}{e o:Expr}{es:List Expr}{ta:TE}{t:TA}
theorem zP {pins:List (Addr×Obj)}{σ:St}{H:Hp}{s:Shared}{Q:VK}{us:List Value}{vs:List V}(F:FnOk X.prog X.w X.K X.mg X.base CX k f fd ps sp)(hr:Room k X.A)(hb:Binds X.K fd ps ds)(hd:cH dvs ds)(hx:tj CX X E)
  (I:Inv X pins σ H s) (r:cH vs us) (h:sp (vs++dvs) H Q E):wpAny (model X.prog X.w) X.A (call (.ref f) us) (EP X pins σ Q) X.xe s:=by
 have r2:cH (vs++dvs) (us++ds):=r.append hd;have hl:(us++ds).length=ps.length:=by rw[<-r2.length];exact F.len _ _ _ _ h
 refine wpAny_call (codeAny_mono (F.run X.A X.stack s H ⟨us,[]⟩ (us++ds) (vs++dvs) Q E hr I.env0 (hb s us I.kIn hl) r2 h) fun r s' hq=>?_);cases r with
 |error e=>exact hx pins σ H s e s' I hq
 |ok fl =>
  cases fl with
  |ret u=>exact I.after hq
  |next=>exact False.elim hq
  |brk=>exact False.elim hq
  |cont=>exact False.elim hq
theorem pe_call (F:FnOk X.prog X.w X.K X.mg X.base CX k f fd ps sp)(hr:Room k X.A)(hg:Gl X x)(hm:X.mg x=some (.ref f))(hk:PySem.W.keepIn X.K (.ref f)=true)(hb:Binds X.K fd ps ds)(hd:cH dvs ds)(hx:tj CX X E)
  (ha:PA X (e::es) t) (hdb:(x==("__debug__" : Str))=false:=by decide) (he:starEach (e::es) X.env=(false,eval e X.env)::starEach es X.env:=by rfl) (hpl:(backTo pos (starEach es X.env)).any (·.1)=false:=by rfl) :
  PE X (.Call (.Name x p) (e::es) [] pos) (AU sp dvs E t):=by
 intro pins s σ H Q I h;refine wpAny_Call_Name_kw (ld_glob I hg hm ?_ hdb);refine PySem.W.callWith_K (h₀:=X.base) I.ok.mod.kin hk (thn (ha pos pins s σ H _ I h) fun us s1 ⟨vs,H1,I1,r,q⟩=>⟨I1.kIn,?_⟩) he hpl;exact zP F hr hb hd hx I1 r q
end
section
variable {X:Cx}{CX:vP}{k:Nat}{f C:Addr}{fd:FuncData}{ps ks:List Str}{sp:Sp}{E:XK}{x m:Str}{p pos apos kpos:Pos}{e o:Expr}{es:List Expr}{kws:List Keyword}{te ta:TE}{t tk:TA}{nm:Option Str}
variable {g:List Value->List Value->List Value}{gV:List V->List V->List V}
end
structure FnScope (N P:List Str)(sc:Scope):Prop where
 kind:sc.kind=.function
 co:sc.isCoroutine=false
 gen:sc.isGenerator=false
 nd:N.Nodup
 pre:N.take P.length=P
 par:∀x∈P,sc.names.lookup x=some .local\/sc.names.lookup x=some .cell
 nofree:∀y∈sc.names,y.2≠.free
theorem oS {kindOf:Str->Option NameKind}{x:Str}:∀{binds:List (Str×Value)}{m:Str->Option Value},(∀v,(x,v)∉binds)->bindL kindOf binds m x=m x
 |[],_,_=>rfl
 | (n,v)::r,m,h=>by
  unfold bindL;rw[oS fun w hw=>h w (ao _ hw)];split
  ·have:x≠n:=by rintro rfl;exact h v aC
   simp[this]
  ·rfl
theorem oU {kindOf:Str->Option NameKind}{x:Str}:∀{binds:List (Str×Value)}{m:Str->Option Value},(∀v,(x,v)∉binds)->bindC kindOf binds m x=m x
 |[],_,_=>rfl
 | (n,v)::r,m,h=>by
  unfold bindC;rw[oU fun w hw=>h w (ao _ hw)];split
  ·rfl
  ·have:x≠n:=by rintro rfl;exact h v aC
   simp[this]
theorem oT {kindOf:Str->Option NameKind}{x:Str}{v:Value}:∀{P:List Str}{vs:List Value}{i:Nat}{m:Str->Option Value},P.Nodup->P[i]?=some x->vs[i]?=some v->kindOf x=some .local →
  bindL kindOf (P.zip vs) m x=some v
 |[],_,_,_,_,h,_,_=>by simp at h
 |_::_,[],_,_,_,_,h,_=>by simp at h
 | p::P,w::vs,0,m,nd,h1,h2,hk=>by
  simp at h1 h2;subst h1;subst h2;show bindL kindOf ((p,w)::P.zip vs) m p=_;unfold bindL;rw[oS fun v hv=>(aW.mp nd).1 (bz hv).1,if_pos hk];simp
 | p::P,w::vs,i+1,m,nd,h1,h2,hk=>by
  show bindL kindOf ((p,w)::P.zip vs) m x=_;unfold bindL;exact oT (i:=i) (aW.mp nd).2 (by simpa using h1) (by simpa using h2) hk
theorem oV {kindOf:Str->Option NameKind}{x:Str}{v:Value}:∀{P:List Str}{vs:List Value}{i:Nat}{m:Str->Option Value},P.Nodup->P[i]?=some x->vs[i]?=some v->kindOf x≠some .local →
  bindC kindOf (P.zip vs) m x=some v
 |[],_,_,_,_,h,_,_=>by simp at h
 |_::_,[],_,_,_,_,h,_=>by simp at h
 | p::P,w::vs,0,m,nd,h1,h2,hk=>by
  simp at h1 h2;subst h1;subst h2;show bindC kindOf ((p,w)::P.zip vs) m p=_;unfold bindC;rw[oU fun v hv=>(aW.mp nd).1 (bz hv).1,if_neg hk];simp
 | p::P,w::vs,i+1,m,nd,h1,h2,hk=>by
  show bindC kindOf ((p,w)::P.zip vs) m x=_;unfold bindC;exact oV (i:=i) (aW.mp nd).2 (by simpa using h1) (by simpa using h2) hk
noncomputable def start (N:List Str)(vs:List V):St:=vs.map some++bD (N.length-vs.length) none
noncomputable def cxOf (CX:vP)(P:Program)(w:World)(K:PySem.W.Frag)(mg:Str->Option Value)(base:Heap)(N:List Str)(qual:Str)(scope:Scope)(f:Addr)(cd:Value)(A:Around)(outer:List Env)(s:Shared)(H:Hp)(E:XK):Cx where
 prog:=P
 w:=w
 K:=K
 mg:=mg
 base:=base
 A:=A.deeper (envOfC qual scope s.heap.objs.size f cd)
 N:=N
 s₀:=s
 H₀:=H
 env:=envOfC qual scope s.heap.objs.size f cd
 outer:=outer
 stack:=envOfC qual scope s.heap.objs.size f cd::outer
 ex:=[]
 calm:=true
 fn:=fun _=>true
 pn:=[]
 xe:=fun e s'=>wpAny (model P w) (A.deeper (envOfC qual scope s.heap.objs.size f cd)) (leaving (envOfC qual scope s.heap.objs.size f cd) e) (fun _ s''=>CX outer H s E e s'') (fun e' s''=>CX outer H s E e' s'') s'
theorem rJ {sc:Scope}{n:Nat}{x:Str}(h:sc.names.lookup x=some .cell):∃c,(cellsFrom n sc.names []).lookup x=some c:=by
 have q:=PySem.W.cellsFrom_some sc.names n [] (.inl h);exact CJ.mp q
theorem vc {CX:vP}{P:Program}{w:World}{K:PySem.W.Frag}{mg:Str->Option Value}{base:Heap}{N ps:List Str}{qual:Str}{scope:Scope}{f:Addr}{cd:Value}{A:Around}{outer:List Env}{s s1:Shared}{H:Hp}{E:XK}{us:List Value}{vs:List V}
  (S:FnScope N ps scope) (hd:A.handled=none) (e0:zc P w K mg base A outer s H) (hl:vs.length=ps.length) (r:cH vs us)
  (x:InCallC s s.heap.objs.size (bindL (envOfC qual scope s.heap.objs.size f cd).kindOf (ps.zip us) fun _=>none) (cellsFrom (s.heap.objs.size+1) scope.names []) (bindC (envOfC qual scope s.heap.objs.size f cd).kindOf (ps.zip us) fun _=>none) s1) :
  Inv (cxOf CX P w K mg base N qual scope f cd A outer s H E) [] (start N vs) H s1:=by
 have hpl:ps.length<=N.length:=by have:=congrArg List.length S.pre;rw[bB] at this;omega
 obtain⟨h1,tk,rfl,hk⟩:=x.done;have noA:∀b:Addr,b∉(cxOf CX P w K mg base N qual scope f cd A outer s H E).ex:=fun b z=>absurd (show b∈([]:List Addr) from z) (by simp);refine⟨⟨e0.mod,S.kind,rfl,rfl,az _,fun y z c h1 h2=>?_,fun y hy=>?_,fun y c _ h=>?_,fun _=>hd,Around.frames_deeper e0.frames,.inr ⟨rfl,rfl⟩,fun b z=>absurd z (noA b),e0.bs,e0.bsz,fun b _ _=>noA b,fun b z=>absurd z (noA b),e0.funs,e0.frf⟩,
  rfl,e0.bare,Un.kept hk,⟨_,x.toInCall.ns,fun i y v h1 h2 h3=>?_⟩,fun y c h=>⟨_,x.cell y c h⟩,e0.hok.fresh (az _),fun y c h=>?_,fun p hp=>absurd (show p∈([]:List (Addr×Obj)) from hp) (by simp),e0.hok.kept hk,?_⟩
 ·exact name_of_addr x.apart (PySem.mem_of_lookup h1) (PySem.mem_of_lookup h2)
 ·have hy:scope.names.lookup y=some .cell\/scope.names.lookup y=some .free:=hy;rcases hy with hy|hy
  ·exact rJ hy
  ·exact absurd rfl (S.nofree _ (PySem.mem_of_lookup hy))
 ·exact Nat.le_of_lt (x.above y c (PySem.mem_of_lookup h))
 ·have hi:i<vs.length:=by
   unfold start at h2;by_cases hi:i<vs.length
   ·exact hi
   ·rw[aU (by simpa using hi)] at h2;rw[bS] at h2;split at h2 <;> cases h2
  have ha:vs[i]?=some v:=by
   unfold start at h2;rw[bF (by simpa using hi),aN] at h2;cases e:vs[i]? with
   |none=>rw[e] at h2;cases h2
   |some a=>rw[e] at h2;cases h2;rfl
  obtain⟨u,hu,rv⟩:=r.get ha;have hp:ps[i]?=some y:=by
   rw[<-S.pre,List.getElem?_take_of_lt ⋯];exact h1
  have ndP:ps.Nodup:=by rw[<-S.pre];exact S.nd.sublist (List.take_sublist _ _)
  refine⟨u,rv,?_⟩;rcases S.par y (aQ hp) with k|k
  ·exact .inl ⟨k,oT ndP hp hu k⟩
  ·obtain⟨c,e⟩:=rJ (n:=s.heap.objs.size+1) k;refine .inr ⟨.inl k,c,e,?_⟩;have q:=x.cell y c e;rw[oV ndP hp hu (by show scope.names.lookup y≠_;rw[k];decide)] at q;exact q
 ·exact e0.hok.fresh (Nat.le_of_lt (x.above y c (PySem.mem_of_lookup h)))
 ·unfold start;show _=N.length;rw[au,ah,aS];omega
theorem fn_of {CX:vP}{P:Program}{w:World}{K:PySem.W.Frag}{mg:Str->Option Value}{base:Heap}{k:Nat}{f:Addr}{name qual:Str}{params:Arguments}{body:List Stmt}{scope:Scope}{dV kV doc pm cdv ct oc:Value}{an od:Option Addr}
  {osl:Array (Option Value)}{N ps:List Str}{sp:Sp} (lk:K.lookup f=some ⟨oc,od,.func (PySem.W.fnOf name qual params body scope dV kV doc pm an cdv ct),osl⟩) (hcd:PySem.W.codeIn K cdv qual=true) (S:FnScope N ps scope)
  (len:∀vs H Q E,sp vs H Q E->vs.length=ps.length)
  (hbody:∀(A:Around) (outer:List Env) (s:Shared) (H:Hp) (vs:List V) (Q:VK) (E:XK),Room k (A.deeper (envOfC qual scope s.heap.objs.size f cdv))->sp vs H Q E →
   ∃t,PSs (cxOf CX P w K mg base N qual scope f cdv A outer s H E) body t/\t { nx:=fun _ H'=>Q .non H',rt:=Q } (start N vs) H) :
  FnOk P w K mg base CX (k+1) f (PySem.W.fnOf name qual params body scope dV kV doc pm an cdv ct) ps sp:=by
 refine⟨len,fun A outer s H args us vs Q E hr e0 hb r hsp=>?_⟩;have hl:=len _ _ _ _ hsp;have KX:K.In s.heap:=e0.mod.kin.keeps fun b o e=>(e0.bs b o e).1;have lim:s.heap.NoLimit:=e0.mod.nolimit.keeps fun b o e=>(e0.bs b o e).1;have hkind:∀y∈ps.zip us,scope.names.lookup y.1=some .local\/(scope.names.lookup y.1=some .cell/\((cellsFrom (s.heap.objs.size+1) scope.names []).lookup y.1).isSome=true):=fun⟨n,v⟩ hy=>by
  rcases S.par n (bz hy).1 with q|q
  ·exact .inl q
  ·exact .inr ⟨q,PySem.W.cellsFrom_some _ _ _ (.inl q)⟩
 refine codeAny_call_function hr.depth (KX _ _ lk) rfl S.co S.gen rfl (PySem.W.codeRec_of KX hcd) (hb _ _ _ _ ?_);refine wpAny_newFunctionEnv_cells S.kind hkind fun env he s1 x=>?_;subst he;refine⟨lim.keeps x.toInCall.keep,codeAny_func ?_⟩;obtain⟨t,ht,hq⟩:=hbody A outer s H vs Q E (hr.deeper _) hsp;have I:Inv (cxOf CX P w K mg base N qual scope f cdv A outer s H E) [] (start N vs) H s1:=vc S hr.hd e0 hl r x;refine wpAny_mono (ht [] s1 (start N vs) H _ I hq) (fun fl s' hs=>?_) fun e s' hs=>hs;have fin:∀{σ':St}{H':Hp}{v:V}{u:Value},Inv (cxOf CX P w K mg base N qual scope f cdv A outer s H E) [] σ' H' s'->cP v u->Q v H'->CE outer P w H s Q u s' :=
  fun {σ' H' v u} J rv q=>⟨v,H',J.os,J.bare,J.base,J.hok,rv,q⟩
 cases fl with
 |ret u =>
  obtain⟨v,σ',H',J,rv,q⟩:=hs;exact fin J rv q
 |next =>
  obtain⟨σ',H',J,q⟩:=hs;exact fin (v:=V.non) (u:=Value.none) J rfl q
 |brk =>
  obtain⟨_,_,_,q⟩:=hs;exact False.elim q
 |cont =>
  obtain⟨_,_,_,q⟩:=hs;exact False.elim q
end L2
namespace L2
open PySem PySem.Spec PyProof.Rows
section
variable {X:Cx}{x:Str}{p pos:Pos}{e:Expr}{es:List Expr}{t:TA}{id T:String}{r:List V->Hp->VK->Prop}
noncomputable def tCB (r:List V->Hp->VK->Prop)(t:TA):TE:=fun σ H Q=>t σ H fun vs H1=>r vs H1 Q
theorem pe_callB (hc:CallR X (.builtin id) r)(hg:Gl X x)(hm:X.mg x=none)(hv:bootBuiltins x=some (.builtin id))(ha:PA X (e::es) t)(hn:x ≠ "__name__" := by decide)(hdb:(x==("__debug__" : Str))=false:=by decide)
  (he:starEach (e::es) X.env=(false,eval e X.env)::starEach es X.env:=by rfl) (hpl:(backTo pos (starEach es X.env)).any (·.1)=false:=by rfl):PE X (.Call (.Name x p) (e::es) [] pos) (tCB r t):=by
 intro pins s σ H Q I h;refine wpAny_Call_Name_kw (lH I hg hm hv ?_ hn hdb);exact PyProof.Rows.callWith_builtin1 (thn (ha pos pins s σ H _ I h) fun us s1 ⟨vs,H1,I1,r1,q1⟩=>hc pins s1 σ H1 vs us Q I1 r1 q1) he hpl
theorem pe_callTy (hc:CallR X (.type T) r)(hg:Gl X x)(hm:X.mg x=none)(hv:bootBuiltins x=some (.type T))(ha:PA X (e::es) t)(hn:x ≠ "__name__" := by decide)(hdb:(x==("__debug__" : Str))=false:=by decide)
  (he:starEach (e::es) X.env=(false,eval e X.env)::starEach es X.env:=by rfl) (hpl:(backTo pos (starEach es X.env)).any (·.1)=false:=by rfl):PE X (.Call (.Name x p) (e::es) [] pos) (tCB r t):=by
 intro pins s σ H Q I h;refine wpAny_Call_Name_kw (lH I hg hm hv ?_ hn hdb);exact PyProof.Rows.callWith_type1 (thn (ha pos pins s σ H _ I h) fun us s1 ⟨vs,H1,I1,r1,q1⟩=>hc pins s1 σ H1 vs us Q I1 r1 q1) he hpl
end
end L2
namespace HT
open PySem PyProof.Rows
section
open PySem.SeqAt
open PySem.AutoSeq1 (wpAny_loadPart')
open PySem.MeetsSeq PySem.MeetsSeq2 PySem.MeetsSeq3
end
section
variable {prog:Program}{w:World}{A:Around}{E:Value->Shared->Prop}{s:Shared}
theorem cat_tup {t b:Addr}{vs ws:List Value}{Q:Value->Shared->Prop}(ht:IsTup s.heap t vs.toArray)(hb:IsTup s.heap b ws.toArray)(hv:vs≠[])
  (h1:ws=[]->Q (.ref t) s) (h2:ws≠[]->Q (.ref s.heap.objs.size) { s with heap:=s.heap.push { cls:=.type "tuple", data:=.seq (vs++ws).toArray } })
  (hsz:vs.length+ws.length<=sizeLine):wpAny (model prog w) A (binaryOp .Add (.ref t) (.ref b)) Q E s:=by
 obtain⟨⟨cls,dd,data,sl⟩,ho,hc,n,hd⟩:=id ht;obtain⟨⟨cls2,dd2,data2,sl2⟩,ho2,hc2,n2,hd2⟩:=id hb;simp only at hc hd hc2 hd2;subst hc hd hc2 hd2;have e:vs.toArray++ws.toArray=(vs++ws).toArray:=by simp
 by_cases hw:ws=[]
 ·exact concat_meets ⟨_,ho,rfl⟩ ⟨_,ho2,rfl⟩ noFill_tuple_add seq_tuple_add PySem.F.slot_tuple_add PySem.F.entry_tuple_add (PySem.F.args_tuple_add_2 _ _)
   (tuple_addW1 t b vs.toArray ws.toArray n n2 dd dd2 sl sl2 (by simpa using hv) (by simp[hw])) ⟨ho,ho2,h1 hw⟩
 ·refine concat_meets ⟨_,ho,rfl⟩ ⟨_,ho2,rfl⟩ noFill_tuple_add seq_tuple_add PySem.F.slot_tuple_add PySem.F.entry_tuple_add (PySem.F.args_tuple_add_2 _ _)
   (tuple_addW2 t b vs.toArray ws.toArray n n2 dd dd2 sl sl2 (by simpa using hv) (by simpa using hw) (by rw[aA,aA];exact hsz)) ⟨ho,ho2,?_⟩
  rw[e];exact h2 hw
noncomputable def sIx (n d:Nat):Option Int->Nat
 |none=>d
 |some v=>if v<0 then (v+(n:Int)).toNat else min v.toNat n
theorem zO (n d:Nat)(hd:d<=n)(o:Option Int):sIx n d o<=n:=by
 cases o with
 |none=>exact hd
 |some v =>
  show (if v<0 then (v+(n:Int)).toNat else min v.toNat n)<=n;by_cases hv:v<0
  ·rw[if_pos hv];omega
  ·rw[if_neg hv];exact Nat.min_le_right _ _
theorem uf (v:Int)(n d:Nat):(if v<0 then max (v+(n:Int)) 0 else min v (n:Int))=((sIx n d (some v):Nat):Int):=by
 show (if v<0 then max (v+(n:Int)) 0 else min v (n:Int))=(((if v<0 then (v+(n:Int)).toNat else min v.toNat n):Nat):Int);by_cases hv:v<0
 ·simp only[if_pos hv];omega
 ·simp only[if_neg hv];omega
theorem td (lo hi:Option Int)(n:Nat):Builtin.Slice.sliceAdjust lo hi 1 (n:Int)=(((sIx n 0 lo:Nat):Int),((sIx n n hi:Nat):Int)):=by
 have h1:¬((1:Int)<0):=by omega
 unfold Builtin.Slice.sliceAdjust;simp only[h1,if_false];refine Prod.ext ?_ ?_
 ·cases lo with
  |none=>rfl
  |some v=>exact uf v n 0
 ·cases hi with
  |none=>rfl
  |some v=>exact uf v n n
theorem r6 (i j:Nat):Builtin.Slice.slicePlaces (i:Int) (j:Int) 1=j-i:=by
 unfold Builtin.Slice.slicePlaces;have h1:(1:Int)>0:=by omega
 simp only[h1,if_true,Int.ediv_one];split <;> omega
theorem my {v:Value}{o:Option Int}{Q:Option Int->Shared->Prop}(p:IsPart v o)(h:Q o s):wpAny (model prog w) A (Builtin.Slice.slicePartIndex v) Q E s:=by
 cases p with
 |none=>exact slicePart_none h
 |int i t=>exact slicePart_int h
theorem iL {sl:Addr}{vl vu:Value}{lo hi:Option Int}{n:Nat}{Q:Int×Int×Nat->Shared->Prop}(hs:s.heap.IsSliceOf sl vl vu .none)(pl:IsPart vl lo)(pu:IsPart vu hi)
  (h:Q (((sIx n 0 lo:Nat):Int),1,sIx n n hi-sIx n 0 lo) s):wpAny (model prog w) A (Builtin.Slice.sliceApplied (.ref sl) (pure (n:Int))) Q E s:=by
 obtain⟨os,hos,hcs,hds⟩:=id hs;unfold Builtin.Slice.sliceApplied Builtin.Slice.sliceFields;refine af (af (bp hos hds (x:=vl) rfl (af (bp hos hds (x:=vu) rfl (af (bp hos hds (x:=.none) rfl (ay ?_)))))));refine af (slicePart_none ?_);show wpAny _ _ (if ((1:Int)==0)=true then _ else _) _ _ s;rw[if_neg (by decide)];refine af (my pl (af (my pu (af (ay ?_)))));show wpAny _ _ (match Builtin.Slice.sliceAdjust lo hi 1 (n:Int) with|(lo,hi)=>pure (lo,(1:Int),Builtin.Slice.slicePlaces lo hi 1)) _ _ s;rw[td lo hi n];show wpAny _ _ (pure (((sIx n 0 lo:Nat):Int),(1:Int),Builtin.Slice.slicePlaces ((sIx n 0 lo:Nat):Int) ((sIx n n hi:Nat):Int) 1)) _ _ s;rw[r6];exact ay h
theorem wm (xs:Array Value)(i k:Nat):((aV k).filterMap fun (m:Nat)=>xs[((i:Int)+(m:Int)*1).toNat]?).toArray=((xs.toList.drop i).take k).toArray:=by
 have e:(fun (m:Nat)=>xs[((i:Int)+(m:Int)*1).toNat]?)=fun m=>xs[i+m]?:=by
  funext m;have:((i:Int)+(m:Int)*1).toNat=i+m:=by omega
  rw[this]
 rw[e];have:=pick_run xs i k;rw[List.filterMap_map] at this;have e2:((fun x=>xs[x]?)∘fun x=>i+x)=fun m=>xs[i+m]?:=rfl;rw[e2] at this;rw[this]
theorem getItem_tuple_cut {t sl:Addr}{items:Array Value}{vl vu:Value}{lo hi:Option Int}{Q:Value->Shared->Prop}(ht:IsTup s.heap t items)(hs:s.heap.IsSliceOf sl vl vu .none)(pl:IsPart vl lo)(pu:IsPart vu hi)
  (hw:¬(sIx items.size 0 lo=0/\sIx items.size items.size hi=items.size))
  (h:Q (.ref s.heap.objs.size) { s with heap:=s.heap.push { cls:=.type "tuple", data:=.seq ((items.toList.drop (sIx items.size 0 lo)).take (sIx items.size items.size hi-sIx items.size 0 lo)).toArray } })
  (hsz:items.size<=sizeLine):wpAny (model prog w) A (getItem (.ref t) (.ref sl)) Q E s:=by
 have htake:sizeOk (.seq ((items.toList.drop (sIx items.size 0 lo)).take (sIx items.size items.size hi-sIx items.size 0 lo)).toArray):=by
  show ((items.toList.drop (sIx items.size 0 lo)).take (sIx items.size items.size hi-sIx items.size 0 lo)).toArray.size<=sizeLine;rw[aA,bB,ba,bf];omega
 have hj:sIx items.size items.size hi<=items.size:=zO _ _ (az _) hi;obtain⟨os,hos,hcs,hds⟩:=id hs;have hTs:s.TypeIs (.ref sl) "slice" := ⟨os,hos,hcs⟩;unfold getItem
 try with_reducible refine bA ?_
 first|refine af (ay ?_)|skip
 refine af (wpAny_sequenceKey ht.typeIs (by decide) ?_);refine af (wpAny_callSpecial?_slot (name:=Str.ofString "__getitem__") ht.typeIs PyProof.Rows.slot_tuple_getitem
  (wpAny_call_entry PyProof.Rows.slot_tuple_getitem ht.typeIs entry_tuple_getitem ?_ (args_tuple_getitem _ _)))
 show wpAny _ _ (Builtin.Tuple.tupleItemsOf (.ref t)>>=_) _ _ s;refine af (tupleItemsOf_ ht ?_);refine af (wpAny_typeOf hTs ?_);rw[if_pos (by decide)];refine af (iL hs pl pu ?_);have hno:¬((((sIx items.size 0 lo:Nat):Int)==0&&(1:Int)==1&&(sIx items.size items.size hi-sIx items.size 0 lo)==items.size)=true):=by
  intro q;rw[Bool.and_eq_true,Bool.and_eq_true] at q;have q1:((sIx items.size 0 lo:Nat):Int)=0:=eq_of_beq q.1.1;have q2:sIx items.size items.size hi-sIx items.size 0 lo=items.size:=eq_of_beq q.2;exact hw ⟨by omega,by omega⟩
 show wpAny _ _ (if (((sIx items.size 0 lo:Nat):Int)==0&&(1:Int)==1&&(sIx items.size items.size hi-sIx items.size 0 lo)==items.size)=true then _ else _) _ _ s;rw[if_neg hno,wm]
 first
  |exact af (m:=Builtin.Tuple.tupleExact _) (bG (ay ⟨_,rfl,ay h⟩) htake)
  |exact af (m:=Builtin.Tuple.tupleExact _) (bG (af (ay (ay ⟨_,rfl,ay h⟩))) htake)
  |exact af (af (m:=Builtin.Tuple.tupleExact _) (bG (ay (ay ⟨_,rfl,ay h⟩)) htake))
  |exact af (af (m:=Builtin.Tuple.tupleExact _) (bG (ay ⟨_,rfl,ay h⟩) htake))
end
end HT
namespace L2
open PySem PySem.Spec PyProof.Rows
noncomputable abbrev TO:=St->Hp->(Option Int->Hp->Prop)->Prop
noncomputable def PO (X:Cx)(e:Option Expr)(t:TO):Prop :=
 ∀(pins:List (Addr×Obj)) (s:Shared) (σ:St) (H:Hp) (Q:Option Int->Hp->Prop),Inv X pins σ H s->t σ H Q →
  wpAny (model X.prog X.w) X.A (evalPart e X.env) (fun u s'=>∃o H',Inv X pins σ H' s'/\IsPart u o/\Q o H') X.xe s
noncomputable def xO:TO:=fun _ H Q=>Q none H
noncomputable def AO (t:TE):TO:=fun σ H Q=>t σ H fun x H1=>∃i,x=.int i/\Q (some i) H1
section
variable {X:Cx}{e:Expr}{te:TE}{lo hi:Option Expr}{tl th:TO}{pos p2:Pos}
theorem po_none:PO X none xO:=by
 intro pins s σ H Q I h;rw[evalPart_none];exact ay ⟨none,H,I,.none,h⟩
theorem po_some (h:PE X e te):PO X (some e) (AO te):=by
 intro pins s σ H Q I hw;rw[evalPart_some];refine thn (h pins s σ H _ I hw) fun u s1 zz=>?_;obtain ⟨x,H1,I1,r1,q1⟩:=zz;obtain⟨i,rfl,q⟩:=q1;obtain⟨t,rfl⟩:=r1;exact⟨some i,H1,I1,.int i t,q⟩
noncomputable def y6 (X:Cx)(r:V->Option Int->Option Int->Hp->VK->Prop):Prop :=
 ∀(pins:List (Addr×Obj)) (s:Shared) (σ:St) (H:Hp) (x:V) (v vl vu:Value) (lo hi:Option Int) (sl:Addr) (Q:VK),Inv X pins σ H s->cP x v->s.heap.IsSliceOf sl vl vu .none->IsPart vl lo->IsPart vu hi->r x lo hi H Q →
  ∃T id,typeLookup (.type T) "__getitem__" = pure (some (.builtin id))/\s.TypeIs v T/\wpAny (model X.prog X.w) X.A (getItem v (.ref sl)) (EP X pins σ Q) X.xe s
theorem y6.or {r r':V->Option Int->Option Int->Hp->VK->Prop}(h:y6 X r)(h':y6 X r'):y6 X (fun x lo hi H Q=>r x lo hi H Q\/r' x lo hi H Q):=by
 intro pins s σ H x v vl vu lo hi sl Q I rx hs pl pu q;rcases q with q|q
 ·exact h pins s σ H x v vl vu lo hi sl Q I rx hs pl pu q
 ·exact h' pins s σ H x v vl vu lo hi sl Q I rx hs pl pu q
noncomputable def Cp (r:V->Option Int->Option Int->Hp->VK->Prop)(te:TE)(tl th:TO):TE:=fun σ H Q=>te σ H fun x H1=>tl σ H1 fun l H2=>th σ H2 fun u H3=>r x l u H3 Q
theorem pe_slice {r:V->Option Int->Option Int->Hp->VK->Prop}(hr:y6 X r)(he:PE X e te)(hl:PO X lo tl)(hu:PO X hi th):PE X (.Subscript e (.Slice lo hi none p2) pos) (Cp r te tl th):=by
 intro pins s σ H Q I h;refine Subscript_ (thn (he pins s σ H _ I h) fun v s1 zz=>?_);obtain ⟨x,H1,I1,r1,q1⟩:=zz;refine wpAny_Slice (thn (hl pins s1 σ H1 _ I1 q1) fun vl s2 ⟨l,H2,I2,pl,q2⟩=>thn (hu pins s2 σ H2 _ I2 q2) fun vu s3 zz=>?_);obtain ⟨u,H3,I3,pu,q3⟩:=zz;rw[evalPart_none];refine ay ?_;have I4:Inv X pins σ H3 { s3 with heap:=s3.heap.push { cls:=.type "slice", data:=.fields #[vl,vu,.none] } }:=I3.kept (t':=s3.toks) fun b ob q=>ai _ q;obtain⟨T,id,hT,ht,hg⟩:=hr pins { s3 with heap:=s3.heap.push { cls:=.type "slice", data:=.fields #[vl,vu,.none] } } σ H3 x v vl vu l u s3.heap.objs.size Q I4 r1 (Heap.IsSliceOf.new ..) pl pu q3;show wpAny (model X.prog X.w) X.A (subscriptTail e (.Slice lo hi none p2) v (.ref s3.heap.objs.size)) (EP X pins σ Q) X.xe { s3 with heap:=s3.heap.push { cls:=.type "slice", data:=.fields #[vl,vu,.none] } };exact tail_any (ops:=[.ref s3.heap.objs.size,v]) ht hT hg (by with_unfolding_all rfl)
noncomputable def cutV (xs:List V)(lo hi:Option Int):List V:=(xs.drop (HT.sIx xs.length 0 lo)).take (HT.sIx xs.length xs.length hi-HT.sIx xs.length 0 lo)
theorem lU (xs:List V)(lo hi:Option Int):(cutV xs lo hi).length<=xs.length:=by
 unfold cutV;rw[bB,ba];omega
noncomputable def BL (K:PySem.W.Frag):V->Option Int->Option Int->Hp->VK->Prop:=fun x lo hi H Q=>∃a xs,x=.ref a/\dN K H a xs ∧
 ¬(HT.sIx xs.length 0 lo=0/\HT.sIx xs.length xs.length hi=xs.length)/\∀p,H p=none->Q (.ref p) (cZ H p (.tup (cutV xs lo hi)))
theorem sl_tup:y6 X (BL X.K):=by
 intro pins s σ H x v vl vu lo hi sl Q I rx hs pl pu h;obtain⟨a,xs,rfl,hx,hw,q⟩:=h;cases rx;obtain⟨its,r,ht,hz⟩:=I.tuple hx;have hlen:its.toArray.size=xs.length:=by rw[aA];exact r.length.symm
 refine⟨"tuple", _,PyProof.Rows.slot_tuple_getitem.lookup,ht.typeIs,?_⟩;refine HT.getItem_tuple_cut ht hs pl pu (by rw[hlen];exact hw) ?_ (by rw[hlen];exact hz);rw[hlen];refine⟨.ref s.heap.objs.size,_,I.laid (t':=s.toks) (o:=.tup (cutV xs lo hi)) (fun b ob q=>ai _ q) (az _) ?_,rfl,q _ (I.hok.fresh (az _))⟩;exact⟨bg (lU xs lo hi) hz,_,(r.drop (HT.sIx xs.length 0 lo)).take (HT.sIx xs.length xs.length hi-HT.sIx xs.length 0 lo),IsTup.new _ _⟩
noncomputable def zg (K:PySem.W.Frag):R2:=fun x y H Q=>∃a b xs ys,x=.ref a/\y=.ref b/\dN K H a xs/\dN K H b ys/\xs≠[]/\xs.length+ys.length<=sizeLine ∧
 (ys=[]->Q (.ref a) H)/\(ys≠[]->∀p,H p=none->Q (.ref p) (cZ H p (.tup (xs++ys))))
theorem cH.nil_iff {xs:List V}{us:List Value}(r:cH xs us):us=[]<->xs=[]:=by
 cases r with
 |nil=>simp
 |cons _ _=>simp
theorem yj:OpR X (binaryOp .Add) (zg X.K):=by
 intro pins s σ H x y v u Q I rx ry h;obtain⟨a,b,xs,ys,rfl,rfl,ha,hb,hx,hz,q1,q2⟩:=h;cases rx;cases ry;obtain⟨its,r1,p1,_⟩:=I.tuple ha;obtain⟨its2,r2,p2,_⟩:=I.tuple hb;refine HT.cat_tup p1 p2 (fun z=>hx (r1.nil_iff.mp z)) (fun z=>⟨.ref a,H,I,rfl,q1 (r2.nil_iff.mp z)⟩) (fun z=>?_) (by rw[<-r1.length,<-r2.length];exact hz);refine⟨.ref s.heap.objs.size,_,I.laid (t':=s.toks) (o:=.tup (xs++ys)) (fun b ob q=>ai _ q) (az _) ?_,rfl,q2 (fun w=>z (r2.nil_iff.mpr w)) _ (I.hok.fresh (az _))⟩;exact⟨by rw[au];exact hz,_,r1.append r2,IsTup.new _ _⟩
end
end L2
namespace L2
open PySem PySem.Spec PyProof.Rows
noncomputable def ixN (n:Nat)(i:Int):Option Nat:=if 0<=i then (if i<n then some i.toNat else none) else if -(n:Int)<=i then some (i+n).toNat else none
noncomputable def atI {α:Type}(xs:List α)(i:Int):Option α:=(ixN xs.length i).bind fun j=>xs[j]?
theorem tP {n:Nat}{i:Int}{j:Nat}(h:ixN n i=some j):seqIndex? i n=some j/\j<n/\-(n:Int)<=i/\i<n:=by
 unfold ixN at h;by_cases h0:0<=i
 ·rw[if_pos h0] at h;by_cases h1:i<n
  ·rw[if_pos h1] at h;have e:i.toNat=j:=aL.inj h;exact⟨by rw[seqIndex_of h0 h1,e],by omega,by omega,h1⟩
  ·rw[if_neg h1] at h;cases h
 ·rw[if_neg h0] at h;by_cases h1:-(n:Int)<=i
  ·rw[if_pos h1] at h;have e:(i+n).toNat=j:=aL.inj h;exact⟨by rw[seqIndex_neg ⋯ h1,e],by omega,h1,by omega⟩
  ·rw[if_neg h1] at h;cases h
theorem qe {α:Type}{xs:List α}{i:Int}{v:α}(h:atI xs i=some v):∃j,seqIndex? i xs.length=some j/\xs[j]?=some v/\j<xs.length/\-(xs.length:Int)<=i/\i<xs.length:=by
 unfold atI at h;cases e:ixN xs.length i with
 |none=>rw[e] at h;cases h
 |some j =>
  rw[e] at h;obtain⟨h1,h2,h3,h4⟩:=tP e;exact⟨j,h1,h,h2,h3,h4⟩
def PlainIx (b:Expr):Prop:=∀o i,subscripted b false o i=operate [o,i] (getItem o i)
noncomputable def zb (X:Cx)(r:R2):Prop :=
 ∀(value slice:Expr) (pins:List (Addr×Obj)) (s:Shared) (σ:St) (H:Hp) (x y:V) (v u:Value) (Q:VK),Inv X pins σ H s->cP x v->cP y u->r x y H Q →
  subscripted slice false v u=operate [v,u] (getItem v u)->wpAny (model X.prog X.w) X.A (subscriptTail value slice v u) (EP X pins σ Q) X.xe s
noncomputable def B1 (X:Cx)(id:String)(r:V->List V->Hp->VK->Prop):Prop :=
 ∀(pins:List (Addr×Obj)) (s:Shared) (σ:St) (H:Hp) (x:V) (xs:List V) (v:Value) (us:List Value) (Q:VK),Inv X pins σ H s->cP x v->cH xs us->r x xs H Q →
  wpAny (model X.prog X.w) X.A (call (.builtin id) (v::us)) (EP X pins σ Q) X.xe s
section
variable {X:Cx}{a b:Expr}{ta tb:TE}{pos:Pos}
theorem zb.or {r r':R2}(h:zb X r)(h':zb X r'):zb X (fun x y H Q=>r x y H Q\/r' x y H Q):=by
 intro value slice pins s σ H x y v u Q I rx ry q hs;rcases q with q|q
 ·exact h value slice pins s σ H x y v u Q I rx ry q hs
 ·exact h' value slice pins s σ H x y v u Q I rx ry q hs
theorem pe_ix {r:R2}(hr:zb X r)(ha:PE X a ta)(hb:PE X b tb)(hs:PlainIx b):PE X (.Subscript a b pos) (tOp r ta tb):=by
 intro pins s σ H Q I h;exact Subscript_ (AA ha hb I h fun v u s2 x y H2 I2 rx ry q=>hr a b pins s2 σ H2 x y v u Q I2 rx ry q (hs _ _))
noncomputable def A4 (K:PySem.W.Frag):R2:=fun x y H Q=>∃p xs i v,x=.ref p/\y=.int i/\dU K H p xs/\atI xs i=some v/\Q v H
noncomputable def A2 (K:PySem.W.Frag):R2:=fun x y H Q=>∃p xs i v,x=.ref p/\y=.int i/\dN K H p xs/\atI xs i=some v/\Q v H
noncomputable def A3:R2:=fun x y H Q=>∃z i c,x=.str z/\y=.int i/\z.length<=sizeLine/\atI z.cps.toList i=some c/\Q (.str ⟨#[c]⟩) H
theorem yA:zb X (A4 X.K):=by
 intro value slice pins s σ H x y v u Q I rx ry h hs;obtain⟨p,xs,i,z,rfl,rfl,hq,he,q⟩:=h;cases rx;obtain⟨t,rfl⟩:=ry;obtain⟨its,r,pl,hz⟩:=I.list hq;obtain⟨j,h1,h2,h3,h4,h5⟩:=qe he;obtain⟨w,ew,rw'⟩:=r.get h2;have hl:=r.length;have hn:=lG;have fin:EP X pins σ Q w s:=⟨z,H,I,rw',q⟩;by_cases h0:0<=i
 ·have hj:i.toNat=j:=by
   rw[seqIndex_of h0 h5] at h1;exact aL.inj h1
  exact item_listR pl.isList h0 ⋯ (by rw[hj];simpa using ew) fin hs
 ·have hj:(i+(its.toArray.size:Int)).toNat=j:=by
   rw[seqIndex_neg ⋯ h4] at h1;rw[aA,<-hl];exact aL.inj h1
  exact subscriptTail_builtinR (x:=w) pl.isList.typeIs slot_list_getitem.lookup
   (wpAny_getItem_list_neg (Q:=fun r s'=>r=w/\EP X pins σ Q r s') pl.isList ⋯ (by rw[aA] <;> omega) ⋯ (by rw[hj];simpa using ew) ⟨rfl,fin⟩) hs
theorem z9:zb X (A2 X.K):=by
 intro value slice pins s σ H x y v u Q I rx ry h hs;obtain⟨p,xs,i,z,rfl,rfl,hq,he,q⟩:=h;cases rx;obtain⟨t,rfl⟩:=ry;obtain⟨its,r,pl,hz⟩:=I.tuple hq;obtain⟨j,h1,h2,h3,h4,h5⟩:=qe he;obtain⟨w,ew,rw'⟩:=r.get h2;have hl:=r.length;have hn:=lG;have fin:EP X pins σ Q w s:=⟨z,H,I,rw',q⟩;exact subscriptTail_builtinR (x:=w) pl.typeIs slot_tuple_getitem.lookup
  (getItem_tuple (j:=j) (Q:=fun r s'=>r=w/\EP X pins σ Q r s') pl ⋯ ⋯ (by rw[aA,<-hl];exact h1) (by simpa using ew) ⟨rfl,fin⟩) hs
theorem Aa:zb X A3:=by
 intro value slice pins s σ H x y v u Q I rx ry h hs;obtain⟨z,i,c,rfl,rfl,hz,he,q⟩:=h;obtain⟨t,rfl⟩:=rx;obtain⟨t',rfl⟩:=ry;obtain⟨j,h1,h2,h3,h4,h5⟩:=qe he;have hl:z.cps.toList.length=z.length:=by simp[Str.length]
 rw[hl] at h1 h4 h5;have hn:=lG;exact tail_any (typeIs_str s z t) slot_str_getitem.lookup (getItem_str (c:=c) (by
  have e1:decide (i < -(2 ^ 63:Int))=false:=decide_eq_false ⋯;have e2:decide (i ≥ 2 ^ 63)=false:=decide_eq_false ⋯;rw[e1,e2,Bool.or_false]) (by rw[h1];simpa using h2) ⟨.str ⟨#[c]⟩,H,I.tok _,⟨_,rfl⟩,q⟩) hs
noncomputable def rIx (K:PySem.W.Frag):R2:=fun x y H Q=>A4 K x y H Q\/A2 K x y H Q\/A3 x y H Q
theorem ix_seq:zb X (rIx X.K):=yA.or (z9.or Aa)
theorem sF (its:List Value)(n j:Nat)(u:Value):Obj.mapSeq (·.setIfInBounds j u) { cls:=.type "list", data:=.seq its.toArray n }={ cls:=.type "list", data:=.seq (its.set j u).toArray n }:=by
 simp[Obj.mapSeq]
theorem Inv.lst {pins:List (Addr×Obj)}{σ:St}{H:Hp}{s:Shared}{p:Addr}{xs:List V}(I:Inv X pins σ H s)(h:H p=some (.lst xs)) :
  ∃(its:List Value) (n:Nat),cH xs its/\s.heap.get? p=some { cls:=.type "list", data:=.seq its.toArray n }/\xs.length<=sizeLine:=by
 obtain⟨z,its,n,r,e⟩:=I.hok p _ h;exact⟨its,n,r,e,z⟩
theorem Inv.lstUpd {pins:List (Addr×Obj)}{σ:St}{H:Hp}{s:Shared}{p:Addr}{xs ys:List V}{its its':List Value}{n n':Nat}{f:Obj->Obj}(I:Inv X pins σ H s)(h:H p=some (.lst xs))
  (ho:s.heap.get? p=some { cls:=.type "list", data:=.seq its.toArray n }) (hf:f { cls:=.type "list", data:=.seq its.toArray n }={ cls:=.type "list", data:=.seq its'.toArray n' }) (r:cH ys its') (hz:ys.length<=sizeLine) (t:Nat) :
  Inv X pins σ (cZ H p (.lst ys)) { s with heap:=s.heap.update p f,toks:=t }:=by
 have e:(s.heap.update p f).get? p=some { cls:=.type "list", data:=.seq its'.toArray n' }:=by
  rw[Heap.get?_update_self f ho (by rw[hf] <;> rfl),hf]
 refine I.write (x:=p) (e:=p) (by rw[h];trivial) (.inl rfl) (fun b u hb q=>(Heap.get?_update_other _ _ (Ne.symm hb)).trans q) ⟨_,e⟩ ?_;exact⟨hz,its',n',r,e⟩
noncomputable def AY:V->V->V->Hp->(Hp->Prop)->Prop:=fun o i v H Q=>∃p xs k j,o=.ref p/\i=.int k/\H p=some (.lst xs)/\ixN xs.length k=some j/\Q (cZ H p (.lst (xs.set j v)))
theorem set_list:Bo X AY:=by
 intro pins s σ H o i v ov iv u Q I ro ri rv h;obtain⟨p,xs,k,j,rfl,rfl,hp,hj,q⟩:=h;cases ro;obtain⟨t,rfl⟩:=ri;obtain⟨its,n,r,ho,hz⟩:=I.lst hp;obtain⟨h1,h2,h3,h4⟩:=tP hj;have hl:=r.length;have hn:=lG;have I':Inv X pins σ (cZ H p (.lst (xs.set j v))) { s with heap:=s.heap.update p (Obj.mapSeq (·.setIfInBounds j u)) } :=
  I.lstUpd hp ho (sF its n j u) (r.set rv j) (by rw[aP];exact hz) s.toks
 by_cases h0:0<=k
 ·have hk:k.toNat=j:=by
   rw[seqIndex_of h0 h4] at h1;exact aL.inj h1
  exact PySem.W.ki_setAt ho h0 ⋯ (by rw[aA,<-hl];exact h4) (by rw[hk];exact⟨_,I',q⟩)
 ·have hk:(k+(its.toArray.size:Int)).toNat=j:=by
   rw[seqIndex_neg ⋯ h3] at h1;rw[aA,<-hl];exact aL.inj h1
  exact PySem.W.ki_setBack ho ⋯ (by rw[aA,<-hl];exact h3) ⋯ (by rw[hk];exact⟨_,I',q⟩)
theorem o8 (lo hi:Option Int)(n:Nat):(sliceBounds lo hi none n).1=((HT.sIx n 0 lo:Nat):Int)/\(sliceBounds lo hi none n).2.1=((HT.sIx n n hi:Nat):Int)/\(sliceBounds lo hi none n).2.2=1:=by
 refine⟨?_,?_,rfl⟩
 ·cases lo with
  |none=>simp[sliceBounds,HT.sIx]
  |some i =>
   simp only[sliceBounds,HT.sIx,Option.getD_none,show (1:Int)>0 by decide,if_true];by_cases h:i<0
   ·simp only[h,if_true] <;> omega
   ·simp only[h,if_false] <;> omega
 ·cases hi with
  |none=>simp[sliceBounds,HT.sIx]
  |some i =>
   simp only[sliceBounds,HT.sIx,Option.getD_none,show (1:Int)>0 by decide,if_true];by_cases h:i<0
   ·simp only[h,if_true] <;> omega
   ·simp only[h,if_false] <;> omega
theorem nA (its:List Value)(lo hi:Option Int):slicePick its.toArray lo hi none=((its.drop (HT.sIx its.length 0 lo)).take (HT.sIx its.length its.length hi-HT.sIx its.length 0 lo)).toArray:=by
 obtain⟨h1,h2,h3⟩:=o8 lo hi its.toArray.size;unfold slicePick;rw[h1,h2,h3];simp only[sliceRange_one,pick_run,aA] <;> rfl
noncomputable def BN (K:PySem.W.Frag):V->Option Int->Option Int->Hp->VK->Prop:=fun x lo hi H Q=>∃a xs,x=.ref a/\dU K H a xs/\∀p,H p=none->Q (.ref p) (cZ H p (.lst (cutV xs lo hi)))
theorem sl_list:y6 X (BN X.K):=by
 intro pins s σ H x v vl vu lo hi sl Q I rx hs pl pu h;obtain⟨a,xs,rfl,hx,q⟩:=h;cases rx;obtain⟨its,r,ht,hz⟩:=I.list hx;have hlen:=r.length;refine⟨"list", _,slot_list_getitem.lookup,ht.isList.typeIs,?_⟩;refine wpAny_getItem_list_slice ht.isList hs pl pu .none (by simp) ?_ (by rw[aA] <;> omega);rw[nA,<-hlen];refine⟨.ref s.heap.objs.size,_,I.laid (t':=s.toks) (o:=.lst (cutV xs lo hi)) (fun b ob q=>ai _ q) (az _) ?_,rfl,q _ (I.hok.fresh (az _))⟩;exact⟨bg (lU xs lo hi) hz,_,0,(r.drop (HT.sIx xs.length 0 lo)).take (HT.sIx xs.length xs.length hi-HT.sIx xs.length 0 lo),aI _ rfl⟩
theorem call_len_seq:CallR X (.builtin "len") (fun xs H Q=>∃p ys,xs=[.ref p]/\(dU X.K H p ys\/dN X.K H p ys)/\Q (.int ys.length) H):=by
 intro pins s σ H xs us Q I r h;obtain⟨p,ys,rfl,hq,q⟩:=h;obtain⟨u,rfl,rx⟩:=vU r;cases rx;have hn:=lG;rcases hq with hq|hq
 ·obtain⟨its,r',pl,hz⟩:=I.list hq;have hlen:=r'.length;exact Calls.call_len_list pl.isList (by simp only[aA] <;> omega) ⟨.int ys.length,H,I.tok _,⟨s.toks+1,by rw[aA,hlen]⟩,q⟩
 ·obtain⟨its,r',pl,hz⟩:=I.tuple hq;have hlen:=r'.length;exact len_tuple pl (by simp only[aA] <;> omega) ⟨.int ys.length,H,I.tok _,⟨s.toks+1,by rw[aA,hlen]⟩,q⟩
theorem call_len_str:CallR X (.builtin "len") (fun xs H Q=>∃z,xs=[.str z]/\z.length<=sizeLine/\Q (.int z.length) H):=by
 intro pins s σ H xs us Q I r h;obtain⟨z,rfl,hz,q⟩:=h;obtain⟨u,rfl,t,rfl⟩:=vU r;have hn:=lG;exact len_str ⋯ ⟨.int z.length,H,I.tok _,⟨_,rfl⟩,q⟩
theorem call_tuple_of:CallR X (.type "tuple") (fun xs H Q=>∃p ys,xs=[.ref p]/\((dU X.K H p ys/\∀l,H l=none->Q (.ref l) (cZ H l (.tup ys)))\/(dN X.K H p ys/\Q (.ref p) H))):=by
 intro pins s σ H xs us Q I r h;obtain⟨p,ys,rfl,h⟩:=h;obtain⟨u,rfl,rx⟩:=vU r;cases rx;rcases h with ⟨hq,q⟩|⟨hq,q⟩
 ·obtain⟨its,r',pl,hz⟩:=I.list hq;have hlen:=r'.length;refine call_tuple_list pl.isList (fun h' kp=>?_) (by simp only[aA] <;> omega);have I1:Inv X pins σ H { s with heap:=h' }:=I.kept (t':=s.toks) kp;have I2:Inv X pins σ (cZ H h'.objs.size (.tup ys)) { s with heap:=h'.push { cls:=.type "tuple", data:=.seq its.toArray } } :=
   I1.laid (t':=s.toks) (fun b o e=>ai _ e) (az _) (show gq X.prog X.w _ _ _ (.tup ys) from ⟨hz,its,r',IsTup.new _ _⟩)
  exact⟨.ref h'.objs.size,_,I2,rfl,q _ (I1.hok.fresh (az _))⟩
 ·obtain⟨its,r',pl,hz⟩:=I.tuple hq;exact call_tuple_same pl ⟨.ref p,H,I,rfl,q⟩
def B9 (K:PySem.W.Frag)(T:String)(x:V)(H:Hp):Prop:=match x with
 |.str _=>T = "str"
 |.int _=>T = "int"
 | .ref p=>(T = "list" ∧ ∃xs,dU K H p xs)\/(T = "tuple" ∧ ∃o,K.lookup p=some o/\o.cls=.type "tuple" ∧ o.dict=none) ∨
   (T = "dict" ∧ ((∃kvs,H p=some (.dK kvs))\/∃kvs,H p=some (.dT kvs)))\/(T = "set" ∧ ∃S n,H p=some (.set S n))
 |_=>False
theorem zF {pins:List (Addr×Obj)}{σ:St}{H:Hp}{s:Shared}{T:String}{x:V}{v:Value}(I:Inv X pins σ H s)(r:cP x v)(ty:B9 X.K T x H) :
  s.TypeIs v T/\∀a,v=.ref a->∃ob,s.heap.get? a=some ob/\ob.dict=none:=by
 cases x with
 |str z =>
  obtain⟨t,rfl⟩:=r;cases (show T = "str" from ty);exact⟨typeIs_str s z t,fun _ e=>nomatch e⟩
 |int i =>
  obtain⟨t,rfl⟩:=r;cases (show T = "int" from ty);exact⟨typeIs_int s i t,fun _ e=>nomatch e⟩
 |ref p =>
  cases r;rcases ty with ⟨rfl,xs,hq⟩|⟨rfl,o,hk,hc,hd⟩|⟨rfl,hk⟩|⟨rfl,S,n,hk⟩
  ·obtain⟨its,_,pl,_⟩:=I.list hq;refine⟨pl.isList.typeIs,fun a e=>?_⟩;cases e;obtain⟨o,n,e,c,hd,_⟩:=pl;exact⟨o,e,hd⟩
  ·refine⟨⟨o,I.kIn p o hk,hc⟩,fun a e=>?_⟩;cases e;exact⟨o,I.kIn _ o hk,hd⟩
  ·have z:∃o,s.heap.get? p=some o/\o.ExactDict:=by
    rcases hk with ⟨kvs,hk⟩|⟨kvs,hk⟩
    ·obtain⟨_,_,_,_,o,_,_,e,ex,_⟩:=I.hok p _ hk;exact⟨o,e,ex⟩
    ·obtain⟨_,_,_,_,o,_,_,e,ex,_⟩:=I.hok p _ hk;exact⟨o,e,ex⟩
   obtain⟨o,e,ex⟩:=z;refine⟨⟨o,e,ex.1⟩,fun a e2=>?_⟩;cases e2;exact⟨o,e,ex.2.1⟩
  ·obtain⟨o,_,_,_,e,ex,_⟩:=I.hok p _ hk;refine⟨⟨o,e,ex.1⟩,fun a e2=>?_⟩;cases e2;exact⟨o,e,ex.2.1⟩
 |_=>exact False.elim ty
noncomputable def Cq (K:PySem.W.Frag)(T:String)(r:V->List V->Hp->VK->Prop)(to:TE)(t:TA):TE:=fun σ H Q=>to σ H fun x H1=>B9 K T x H1/\t σ H1 fun xs H2=>r x xs H2 Q
variable {o e:Expr}{es:List Expr}{to:TE}{t:TA}{name:Str}{apos cpos:Pos}{T id:String}{r:V->List V->Hp->VK->Prop}
theorem pe_bm (pa:PlainAttrs T)(slot:Slot T name id)(hty:typeOf (.builtin id)=pure (.type "method_descriptor"))(hm:B1 X id r)(ho:PE X o to)(ha:PA X (e::es) t)
  (hbase:attributeBase o name X.env (eval o X.env)=eval o X.env:=by rfl)
  (hfew:((backTo cpos (starEach (e::es) X.env)).all (fun x=>!x.1)&&(backToKw cpos (keywordEach [] X.env)).all (fun x=>x.1.isSome)
   && decide ((e::es).length+([]:List Keyword).length+(if ([]:List Keyword).isEmpty then 0 else 1)<30))=true:=by rfl)
  (hline:(apos.endLine==cpos.line)=true:=by rfl) (hs:starEach (e::es) X.env=(false,eval e X.env)::starEach es X.env:=by rfl) (hplain:(backTo cpos (starEach es X.env)).any (·.1)=false:=by rfl) :
  PE X (.Call (.Attribute o name apos) (e::es) [] cpos) (Cq X.K T r to t):=by
 intro pins s σ H Q I h;refine wpAny_Call_method_late hbase hfew hline rfl (thn (ho pins s σ H _ I h) fun v s1 zz=>?_);obtain ⟨x,H1,I1,r1,ty,q1⟩:=zz;obtain⟨h1,h2⟩:=zF I1 r1 ty;refine⟨T,id,pa,slot,hty,h1,h2,?_⟩;have hA:=ha cpos pins s1 σ H1 _ I1 q1;rw[hs] at hA ⊢;refine Calls.callWith_builtin (by show (false||(backTo cpos (starEach es X.env)).any (·.1))=false;rw[hplain] <;> rfl) (Calls.evalArgs_plain ?_);exact thn hA fun us s2 ⟨vs,H2,I2,r2,q2⟩=>hm pins s2 σ H2 x vs v us Q I2 r1 r2 q2
end
end L2
namespace L2
open PySem PySem.Spec PyProof.Rows
noncomputable def B4 (X:Cx)(id:String)(r:V->List V->Hp->VK->Prop):Prop :=
 ∀(pins:List (Addr×Obj)) (s:Shared) (σ:St) (H:Hp) (x:V) (xs:List V) (v:Value) (us:List Value) (Q:VK),Inv X pins σ H s->cP x v->cH xs us->r x xs H Q →
  wpAny (model X.prog X.w) X.A (call (.builtin id) (v::us)) (EP X pins σ Q) X.xe s
theorem cH.one:∀{x:V}{us:List Value},cH [x] us->∃u,us=[u]/\cP x u:=by
 intro x us h;cases h with
 |cons r q=>cases q; exact ⟨_,rfl,r⟩
theorem cH.two:∀{x y:V}{us:List Value},cH [x,y] us->∃u v,us=[u,v]/\cP x u/\cP y v:=by
 intro x y us h;cases h with
 |cons r q=>
  cases q with
  |cons q z=>cases z; exact ⟨_,_,rfl,r,q⟩
theorem cH.eraseIdx:∀{xs:List V}{us:List Value} (i:Nat),cH xs us->cH (xs.eraseIdx i) (us.eraseIdx i)
 |_,_,_,.nil=>.nil
 |_,_,0,.cons _ t=>t
 |_,_,i+1,.cons r t=>.cons r (cH.eraseIdx i t)
theorem n9 {α:Type}:∀(l:List α) (i:Nat),(l.eraseIdx i).length<=l.length
 |[],_=>az _
 |_::_,0=>bR _
 |_::r,i+1=>Nat.succ_le_succ (n9 r i)
section
variable {X:Cx}{pins:List (Addr×Obj)}{σ:St}{H:Hp}{s:Shared}{l b:Addr}{xs ys zs:List V}
theorem Inv.lset {its its':List Value}{n:Nat}{f:Array Value->Array Value}{t':Nat}(I:Inv X pins σ H s)(hH:H l=some (.lst xs))
  (e:s.heap.get? l=some { cls:=.type "list", data:=.seq its.toArray n }) (hf:f its.toArray=its'.toArray) (hv:cH ys its') (hz:ys.length<=sizeLine) :
  Inv X pins σ (cZ H l (.lst ys)) { s with heap:=s.heap.update l (Obj.mapSeq f),toks:=t' }:=by
 have q:=PySem.IsL.update e f;rw[hf] at q;refine I.write (x:=l) (e:=l) (by rw[hH];exact trivial) (.inl rfl) (fun b' u hb hu=>(Heap.get?_update_other s.heap (Obj.mapSeq f) (Ne.symm hb)).trans hu) ⟨_,q⟩ ?_;exact⟨hz,its',_,hv,q⟩
theorem Inv.lnew {its:List Value}{t':Nat}(I:Inv X pins σ H s)(hv:cH ys its)(hz:ys.length<=sizeLine) :
  Inv X pins σ (cZ H s.heap.objs.size (.lst ys)) { s with heap:=s.heap.push { cls:=.type "list", data:=.seq its.toArray },toks:=t' } :=
 I.laid (fun _ _ q=>ai _ q) (az _) ⟨hz,its,0,hv,aI _ rfl⟩
theorem Inv.fresh (I:Inv X pins σ H s):H s.heap.objs.size=none:=I.hok.fresh (az _)
theorem Inv.lstM (I:Inv X pins σ H s)(hH:H l=some (.lst xs)):xs.length<=sizeLine/\∃(its:List Value) (n:Nat),cH xs its/\xs.length=its.length/\s.heap.get? l=some { cls:=.type "list", data:=.seq its.toArray n }:=by
 obtain⟨z,its,n,r,e⟩:=I.hok l _ hH;exact⟨z,its,n,r,r.length,e⟩
theorem wG {n:Nat}(h:n<=sizeLine):Builtin.List.listTooLong n=false:=by
 unfold Builtin.List.listTooLong;exact decide_eq_false ⋯
end
section
variable {X:Cx}
noncomputable def x8:V->List V->Hp->VK->Prop:=fun x vs H Q=>∃l xs y,x=.ref l/\vs=[y]/\H l=some (.lst xs)/\xs.length<sizeLine/\Q .non (cZ H l (.lst (xs++[y])))
theorem mt_append:B4 X "list.append" x8:=by
 intro pins s σ H x vs v us Q I rx rv h;obtain⟨l,xs,y,rfl,rfl,hH,hz,q⟩:=h;cases rx;obtain⟨u,rfl,ru⟩:=rv.one;obtain⟨z,its,n,r,hl,e⟩:=I.lstM hH;refine call_meets F.slot_list_append ⟨_,e,rfl⟩ F.entry_list_append (F.args_list_append_2 _ _) (PySem.list_append l its.toArray n u (by rw[aA];omega)) ⟨e,?_⟩;refine⟨.non,_,I.lset (its':=its++[u]) hH e (by simp) (r.append (.cons ru .nil)) ?_,rfl,q⟩;rw[au,aJ];omega
noncomputable def xZ:V->List V->Hp->VK->Prop:=fun x vs H Q=>∃l b xs zs,x=.ref l/\vs=[.ref b]/\H l=some (.lst xs)/\H b=some (.lst zs)/\xs.length+zs.length<=sizeLine/\Q .non (cZ H l (.lst (xs++zs)))
theorem mt_extend:B4 X "list.extend" xZ:=by
 intro pins s σ H x vs v us Q I rx rv h;obtain⟨l,b,xs,zs,rfl,rfl,hH,hB,hz,q⟩:=h;cases rx;obtain⟨u,rfl,ru⟩:=rv.one;cases ru;obtain⟨z,its,n,r,hl,e⟩:=I.lstM hH;obtain⟨z2,its2,n2,r2,hl2,e2⟩:=I.lstM hB;have hsz:its.toArray.size+its2.toArray.size<=sizeLine:=by rw[aA,aA];omega
 have hlong:¬(!its.toArray.isEmpty&&Builtin.List.listTooLong (its.toArray.size+its2.toArray.size))=true:=by
  rw[wG hsz,Bool.and_false];exact Bool.false_ne_true
 refine call_meets F.slot_list_extend ⟨_,e,rfl⟩ F.entry_list_extend (F.args_list_extend_2 _ _)
  (AutoSeq1.list_extend_list_list_0 l its.toArray n b its2.toArray n2 hlong (by rw[aA];omega) ⋯) ⟨e,e2,?_⟩
 refine⟨.non,_,I.lset (its':=its++its2) hH e (by simp) (r.append r2) ?_,rfl,q⟩;rw[au];omega
noncomputable def zR:V->List V->Hp->VK->Prop:=fun x vs H Q=>∃l xs i k y,x=.ref l/\vs=[.int i]/\H l=some (.lst xs)/\-(2 ^ 63)<=i/\i<2 ^ 63/\seqIndex? i xs.length=some k/\xs[k]?=some y/\Q y (cZ H l (.lst (xs.eraseIdx k)))
theorem mt_popAt:B4 X "list.pop" zR:=by
 intro pins s σ H x vs v us Q I rx rv h;obtain⟨l,xs,i,k,y,rfl,rfl,hH,h1,h2,hk,hy,q⟩:=h;cases rx;obtain⟨u,rfl,ru⟩:=rv.one;obtain⟨t,rfl⟩:=ru;obtain⟨z,its,n,r,hl,e⟩:=I.lstM hH;obtain⟨w,hw,rw'⟩:=r.get hy;refine call_meets F.slot_list_pop ⟨_,e,rfl⟩ F.entry_list_pop (F.args_list_pop_2 _ _)
  (MeetsSeq.list_pop_at l its.toArray n i t k w (fitsIndex_both h1 h2) (by rw[aA,<-hl];exact hk) (by rw[<-Array.getElem?_toList];exact hw) (by rw[aA];omega)) ⟨e,?_⟩
 refine⟨y,_,I.lset (its':=its.eraseIdx k) hH e ?_ (r.eraseIdx k) ?_,rw',q⟩
 ·show its.toArray.eraseIdxIfInBounds k=(its.eraseIdx k).toArray;rw[List.eraseIdxIfInBounds_toArray]
 ·have:=n9 xs k;omega
end
section
variable {prog:Program}{w:World}{A:Around}{E:Value->Shared->Prop}{s:Shared}
set_option maxRecDepth 100000 in
end
section
variable {X:Cx}
end
end L2
namespace Att
open PySem PySem.W PySem.Calls PyProof.Rows
theorem lZ {P:Params}{h:Heap}:∀(ns:List Int) (vs:List Value),WellAll P h vs (ns.map WData.int)->IntsAre vs ns:=by
 intro ns;induction ns with
 |nil =>
  intro vs w;rw[bO] at w;cases w;exact .nil
 |cons n ns ih =>
  intro vs w;rw[aD] at w;cases w with
  |cons a b =>
   cases a;exact .cons _ _ (ih _ b)
theorem uK {l:OpenLaw}{n:Nat}(hn:l.most=some n){P:Params}{h:Heap}{args:List WData}{vals:List Value}
  (hpre:l.row.toRowW.claim.pre args=true) (hwl:WellAll P h vals args) :
  ∃a vs ns,vals=[Value.ref a]/\args=[WData.list (ns.map WData.int)]/\h.get? a=some { cls:=.type "list", data:=.seq vs.toArray }/\IntsAre vs ns/\ns.length<=n:=by
 have hsh:WShape.hasAll [] args [.list .int]=true:=(pre_splitW hpre).1;have hc:l.pre.holds [] { args:=args }=true:=(pre_splitW hpre).2;obtain⟨d,r,rfl,h1,h2⟩:=hasAllW_cons hsh
 obtain rfl:=hasAllW_nil h2
 obtain⟨xs,rfl,h3⟩:=hasW_list h1;obtain⟨ns,rfl⟩:=items_int h3;have hlen:ns.length<=n:=by
  unfold OpenLaw.pre at hc;have h4:(WTm.not (.lt (.lit (.int (n:Int))) (.len (.arg 0)))).holds [] { args:=[.list (ns.map .int)] }=true:=by
   have h4:=(holds_andW hc).1;rw[hn] at h4;exact h4
  have h5:=condW_of h4 (w_not (w_lt w_lit (w_len_list (w_arg rfl))));rw[ah] at h5;refine Nat.le_of_not_lt fun q=>?_;have q':(n:Int)<((ns.length:Nat):Int):=by omega
  first
   |(rw[decide_eq_true q'] at h5;exact absurd h5 (by decide))
   |(simp at h5;omega)
 cases hwl with
 |cons w1 w2 =>
  cases w2;cases w1 with
  |list ho hall=>exact⟨_,_,ns,rfl,rfl,ho,lZ ns _ hall,hlen⟩
theorem uO (l:OpenLaw)(args:List WData):l.row.toRowW.claim.post args (.bool true) args=true :=
 postW_of (r:=l.row.toRowW) (X:=(true==true))
  (show WShape.has [] (.bool true) .bool=true by first|rfl|decide|simp[WShape.has,WShape.arms,WShape.armsAll])
  (show (WTm.eq .res (.lit (.bool true))).value [] { args:=args,res:=some (.bool true),after:=args }=some (.bool (true==true)) from w_eq_bool (w_res rfl) w_lit) rfl
theorem attach_call {l:OpenLaw}{n:Nat}{q:Program}{loose:List Str}{XP:(Str->Option Value)->Heap->Prop}{YP:World->Heap->Prop}{d:DefRec}
  (hn:l.most=some n) (hdf:d.params.defaults=[])
  (call:∀(w:World) (s₀ s₁:Shared) (mg mb:Str->Option Value) (fa:Addr) (o:Obj) (pm cd doc:Value) (a:Addr) (vs:List Value) (ns:List Int),
   Ground q loose [] XP w s₀ mg mb s₁.heap->YP w s₁.heap →
   s₁.heap.get? fa=some o->o.data=.func (docDef d.name d.params d.body d.scope pm cd doc)->s₁.heap.CodeRec cd d.name->mg d.name=some (.ref fa) →
   s₁.heap.get? a=some { cls:=.type "list", data:=.seq vs.toArray }->IntsAre vs ns->ns.length<=n->s₁.gens=#[] →
   codeAny (model l.prog w) callerA (.call (.ref fa) ⟨[.ref a],[]⟩) (fun r s'=>r=.ok (.ret (.bool true))/\OldK s₁.heap s'.heap/\s'.os=s₁.os/\AllBare s'.gens) s₁) :
  WalkO q loose XP YP l.row.toRowW d [] (fun f vs=>PySem.call f vs):=by
 intro w s₀ s₁ mg mb G Y fa o pm cd doc dV kV ho hd hcd hD hmg hg args vals as hpre hlay hrd hwl hlo
 obtain rfl:dV=.none:=Dflts.none hD hdf
 obtain rfl:kV=.none:=Dflts.noKw hD
 obtain⟨a,vs,ns,rfl,rfl,hobj,hints,hlen⟩:=uK hn hpre hwl;refine enter_call (codeAny_mono (call w s₀ s₁ mg mb fa o pm cd doc a vs ns G Y ho (fd_plain hd) hcd hmg hobj hints hlen hg) fun r s' hq=>?_);obtain⟨rfl,h2,h3,h4⟩:=hq;exact⟨.inl ⟨.bool true,.bool true,[],rfl,fun _=>rfl,.bool true,uO l _,fun _=>⟨List.Pairwise.nil,fun _ hm=>(nomatch hm)⟩⟩,h2,h3,h4⟩
section
variable {prog:Program}{w:World}{A:Around}{E:Value->Shared->Prop}{s:Shared}{K:Frag}
end
end Att
namespace L2
open PySem PySem.Spec PyProof.Rows
theorem uv:∀{vs:List Value}{ns:List Int},IntsAre vs ns->cH (ns.map V.int) vs:=by
 intro vs ns h;induction h with
 |nil=>exact .nil
 |cons n t _ ih=>exact .cons ⟨t,rfl⟩ ih
def za (H:Hp):Prop:=∀b,H b=none\/∃o xs,H b=some (.frz o (.lst xs))
theorem wN {P:Program}{w:World}{K:PySem.W.Frag}{mg mb:Str->Option Value}{CX:vP}{k:Nat}{fa a:Addr}{fd:FuncData}{x:Str}{sp:Sp}{s₁:Shared}{vs:List Value}{ns:List Int}
  (KX:K.In s₁.heap) (hns:s₁.heap.Ns mainGlobals mg) (hb:s₁.heap.Ns builtinsNs mb) (hbb:∀x:Str,x ≠ "__name__" ->mb x=bootBuiltins x) (hlim:s₁.heap.NoLimit) (hg:s₁.gens=#[])
  (ha:s₁.heap.get? a=some { cls:=.type "list", data:=.seq vs.toArray }) (hi:IntsAre vs ns) (hl:ns.length<=sizeLine) (hr:Room k callerA)
  (F:∀base:Heap,K.In base->base.Ns mainGlobals mg->FnOk P w K mg base CX k fa fd [x] sp) (hbind:∀(s:Shared) (u:Value),BindsTo s fd ⟨[u],[]⟩ [(x,u)])
  (hsp:∀H:Hp,za H->dU K H a (ns.map V.int)->sp [.ref a] H (fun v _=>v=.bl true) fun _ _ _=>False)
  (hCX:∀H e s',CX [] H s₁ (fun _ _ _=>False) e s'->False) :
  codeAny (model P w) callerA (.call (.ref fa) ⟨[.ref a],[]⟩) (fun r s'=>r=.ok (.ret (.bool true))/\OldK s₁.heap s'.heap/\s'.os=s₁.os/\AllBare s'.gens) s₁:=by
 have rv:=uv hi;have lenV:=hi.length;have core:∀H:Hp,za H->dU K H a (ns.map V.int)->lj P w H s₁.heap->(∀b,H b≠none->b=a)->(H a≠none->K.lookup a=none) →
   codeAny (model P w) callerA (.call (.ref fa) ⟨[.ref a],[]⟩) (fun r s'=>r=.ok (.ret (.bool true))/\OldK s₁.heap s'.heap/\s'.os=s₁.os/\AllBare s'.gens) s₁:=by
  intro H hO hS hok hA hK;have base_of:∀{b:Addr}{o:Obj},s₁.heap.get? b=some o->H b=none->(pT s₁.heap H).get? b=some o:=fun e n=>wZ e n;have noA:∀{b:Addr}{o:Obj}{es:Array DictEntry}{ep:Nat},s₁.heap.get? b=some o->o.data=.dict es ep->H b=none:=fun {b o es ep} e d=>by
   cases q:H b with
   |none=>rfl
   |some u =>
    have e':b=a:=hA b (by rw[q];simp);subst e';rw[ha] at e;cases e;have d':Data.seq vs.toArray _=Data.dict es ep:=d;cases d'
  have nsK:∀{b:Addr}{m:Str->Option Value},s₁.heap.Ns b m->(pT s₁.heap H).Ns b m:=fun {b m} ⟨o,es,ep,e,d,r⟩=>⟨o,es,ep,base_of e (noA e d),d,r⟩;have hKb:K.In (pT s₁.heap H):=fun b o e=>base_of (KX b o e) (by
   cases q:H b with
   |none=>rfl
   |some u =>
    have e':b=a:=hA b (by rw[q];simp);subst e';rw[hK (by rw[q];simp)] at e;cases e)
  have hM:Mod K mg (pT s₁.heap H):=⟨hKb,nsK hns,⟨mb,nsK hb,hbb⟩,let ⟨mc,h1,h2⟩:=hlim;⟨mc,nsK h1,h2⟩⟩;have e0:zc P w K mg (pT s₁.heap H) callerA [] s₁ H:=⟨rfl,hM,fun b o e=>yl e,Nat.le_of_eq (ve _ _),trivial,fun b hb=>absurd (show b∈([]:List Addr) from hb) (by simp),hok,.of_eq hg⟩;refine codeAny_mono ((F _ hKb (nsK hns)).run callerA [] s₁ H ⟨[.ref a],[]⟩ [.ref a] [.ref a] _ _ hr e0 (hbind s₁ (.ref a)) (.cons rfl .nil) (hsp H hO hS)) fun r s' h=>?_;cases r with
  |error e=>exact (hCX H e s' h).elim
  |ok fl =>
   cases fl with
   |next=>exact False.elim h
   |brk=>exact False.elim h
   |cont=>exact False.elim h
   |ret u =>
    obtain⟨v,H',os,bare,un,hok',r',q⟩:=h;have q':v=.bl true:=q;subst q'
    obtain rfl:u=Value.bool true:=r'
    refine⟨rfl,OldK.of_keep fun b o e=>?_,os,bare⟩;cases q:H b with
    |none=>exact un.keep b o e q (by intro z;exact absurd (show b∈([]:List Addr) from z) (by simp)) (by simp)
    |some u =>
     rcases hO b with z|⟨ob,xs,z⟩
     ·rw[q] at z;cases z
     ·have z2:=un.frzs b ob _ z;obtain⟨e1,_⟩:=hok b _ z;obtain⟨e2,_⟩:=hok' b _ z2;rw[e] at e1;cases e1;exact e2
 cases hk:K.lookup a with
 |some o =>
  have e:=KX a o hk;rw[ha] at e;cases e;refine core (fun _=>none) (fun _=>.inl rfl) (.inr ⟨_,vs.toArray,_,hk,rfl,rfl,rfl,by rw[aA,lenV];exact hl,by simpa using rv⟩) (fun b u z=>by have z':(none:Option HO)=some u:=z;cases z') (fun b z=>absurd rfl z) fun z=>absurd rfl z
 |none =>
  refine core (fun b=>if b=a then some (.frz { cls:=.type "list", data:=.seq vs.toArray } (.lst (ns.map V.int))) else none) (fun b=>?_) (.inl (.inr ⟨{ cls:=.type "list", data:=.seq vs.toArray },if_pos rfl⟩)) (fun b u z=>?_) (fun b z=>?_) fun _=>hk
  ·by_cases hb:b=a
   ·exact .inr ⟨_,_,if_pos hb⟩
   ·exact .inl (if_neg hb)
  ·by_cases hb:b=a
   ·have z':=(if_pos hb).symm.trans z;cases z';subst hb;exact⟨ha,by rw[ah];exact hl,vs,_,rv,ha⟩
   ·have z':=(if_neg hb).symm.trans z;cases z'
  ·by_cases hb:b=a
   ·exact hb
   ·exact absurd (if_neg hb) z
end L2
namespace L2
open PySem PySem.Spec PyProof.Rows
theorem xN {l:PySem.W.OpenLaw}{n k:Nat}{q:Program}{loose:List Str}{XP:(Str->Option Value)->Heap->Prop}{YP:World->Heap->Prop}{d:DefRec}{K:Params->PySem.W.Frag}{CX:World->vP}{sp:World->Sp}{x:Str}
  (hn:l.most=some n) (hn2:n<=sizeLine) (hdf:d.params.defaults=[]) (hr:Room k callerA)
  (hY:∀(w:World) (h:Heap),YP w h->(K w.params).In h)
  (F:∀(w:World) (mg:Str->Option Value) (fa:Addr) (h:Heap),(K w.params).In h->h.Ns mainGlobals mg->mg d.name=some (.ref fa) →
   ∃fd:FuncData,(∀(s:Shared) (u:Value),BindsTo s fd ⟨[u],[]⟩ [(x,u)]) ∧
    ∀base:Heap,(K w.params).In base->base.Ns mainGlobals mg->FnOk l.prog w (K w.params) mg base (CX w) k fa fd [x] (sp w))
  (hsp:∀(w:World) (H:Hp) (a:Addr) (ns:List Int),ns.length<=n->za H->dU (K w.params) H a (ns.map V.int)->sp w [.ref a] H (fun v _=>v=.bl true) fun _ _ _=>False)
  (hCX:∀(w:World) (H:Hp) (s:Shared) (e:Value) (s':Shared),CX w [] H s (fun _ _ _=>False) e s'->False) :
  PySem.W.WalkO q loose XP YP l.row.toRowW d [] (fun f vs=>PySem.call f vs):=by
 refine Att.attach_call hn hdf fun w s₀ s₁ mg mb fa o pm cd doc a vs ns G Y ho hd hcd hmg hobj hints hlen hg=>?_;have KX:=hY w _ Y;obtain⟨fd,hb,hF⟩:=F w mg fa _ KX G.T.g hmg;exact wN KX G.T.g G.T.b G.T.builtins G.T.nolimit hg hobj hints (bg hlen hn2) hr hF hb (fun H hO hS=>hsp w H a ns hlen hO hS) fun H e s'=>hCX w H s₁ e s'
theorem walk_ofK {l:PySem.W.OpenLaw}{n k:Nat}{q:Program}{loose:List Str}{XP:(Str->Option Value)->Heap->Prop}{YP:World->Heap->Prop}{d:DefRec}{K:Params->PySem.W.Frag}{CX:vP}{sp:PySem.W.Frag->Sp}{x:Str}
  (hn:l.most=some n) (hn2:n<=sizeLine) (hdf:d.params.defaults=[]) (hr:Room k callerA)
  (hY:∀(w:World) (h:Heap),YP w h->(K w.params).In h)
  (F:∀(w:World) (mg:Str->Option Value) (fa:Addr) (h:Heap),(K w.params).In h->h.Ns mainGlobals mg->mg d.name=some (.ref fa) →
   ∃fd:FuncData,(∀(s:Shared) (u:Value),BindsTo s fd ⟨[u],[]⟩ [(x,u)]) ∧
    ∀base:Heap,(K w.params).In base->base.Ns mainGlobals mg->FnOk l.prog w (K w.params) mg base CX k fa fd [x] (sp (K w.params)))
  (hsp:∀(K:PySem.W.Frag) (H:Hp) (a:Addr) (ns:List Int),ns.length<=n->za H->dU K H a (ns.map V.int)->sp K [.ref a] H (fun v _=>v=.bl true) fun _ _ _=>False)
  (hCX:∀(H:Hp) (s:Shared) (e:Value) (s':Shared),CX [] H s (fun _ _ _=>False) e s'->False) :
  PySem.W.WalkO q loose XP YP l.row.toRowW d [] (fun f vs=>PySem.call f vs) :=
 xN (K:=K) (CX:=fun _=>CX) (sp:=fun w=>sp (K w.params)) hn hn2 hdf hr hY F (fun w H a ns h1 h2 h3=>hsp (K w.params) H a ns h1 h2 h3) fun _ H s e s'=>hCX H s e s'
end L2
namespace L2
open PySem PySem.Spec PyProof.Rows
noncomputable def defArgs (s:Stmt):Arguments:=match s with
 |.FunctionDef _ a _ _ _ _ _ _ _ _=>a
 |_=>{ posonlyargs:=[],args:=[],vararg:=none,kwonlyargs:=[],kw_defaults:=[],kwarg:=none,defaults:=[] }
noncomputable def defBody (s:Stmt):List Stmt:=match s with
 |.FunctionDef _ _ b _ _ _ _ _ _ _=>b
 |_=>[]
noncomputable def defScope (s:Stmt):Scope:=match s with
 |.FunctionDef _ _ _ _ _ _ sc _ _ _=>sc
 |_=>{ kind:=.function,names:=[],isGenerator:=false,isCoroutine:=false }
noncomputable abbrev CX0:vP:=fun _ _ _ _ _ _=>False
noncomputable abbrev E0:XK:=fun _ _ _=>False
theorem pass0 {X:Cx}:tj CX0 X E0:=fun _ _ _ _ _ _ _ h=>h.elim
structure Fun (K:PySem.W.Frag)(x qual:Str)(st:Stmt)(f:Addr)(fd:FuncData):Prop where
 ex:∃(oc:Value) (od:Option Addr) (kV doc pm:Value) (an:Option Addr) (cdv ct:Value) (osl:Array (Option Value)),
  fd=PySem.W.fnOf x qual (defArgs st) (defBody st) (defScope st) .none kV doc pm an cdv ct/\K.lookup f=some ⟨oc,od,.func fd,osl⟩/\PySem.W.codeIn K cdv qual=true
 kp:PySem.W.keepIn K (.ref f)=true
section
variable {P:Program}{w:World}{K:PySem.W.Frag}{mg:Str->Option Value}{base:Heap}
theorem Fun.ok {x qual:Str}{st:Stmt}{f:Addr}{fd:FuncData}{N ps:List Str}{k:Nat}{sp:Sp}(F:Fun K x qual st f fd)(S:FnScope N ps (defScope st))(len:∀vs H Q E,sp vs H Q E->vs.length=ps.length)
  (hbody:∀(cdv:Value) (A:Around) (outer:List Env) (s:Shared) (H:Hp) (vs:List V) (Q:VK) (E:XK),Room k (A.deeper (envOfC qual (defScope st) s.heap.objs.size f cdv))->sp vs H Q E →
   ∃t,PSs (cxOf CX0 P w K mg base N qual (defScope st) f cdv A outer s H E).nox (defBody st) t/\t { nx:=fun _ H'=>Q .non H',rt:=Q } (start N vs) H):FnOk P w K mg base CX0 (k+1) f fd ps sp:=by
 obtain⟨oc,od,kV,doc,pm,an,cdv,ct,osl,rfl,lk,hcd⟩:=F.ex;refine fn_of lk hcd S len fun A outer s H vs Q E hr hsp=>?_;obtain⟨t,h,q⟩:=hbody cdv A outer s H vs Q E hr hsp;exact⟨t,h.nox,q⟩
theorem Fun.binds {x qual:Str}{st:Stmt}{f:Addr}{fd:FuncData}{ps:List Str}(F:Fun K x qual st f fd)
  (h:∀(kV doc pm:Value) (an:Option Addr) (cdv ct:Value) (us:List Value),us.length=ps.length->bindArgs (PySem.W.fnOf x qual (defArgs st) (defBody st) (defScope st) .none kV doc pm an cdv ct) ⟨us,[]⟩=pure (ps.zip us)):Binds K fd ps []:=by
 obtain⟨oc,od,kV,doc,pm,an,cdv,ct,osl,rfl,lk,hcd⟩:=F.ex;exact .all (h kV doc pm an cdv ct)
theorem fun_mk {x qual:Str}{st:Stmt}{f:Addr}{oc:Value}{od an:Option Addr}{osl:Array (Option Value)}{kV doc pm cdv ct:Value}(l:K.lookup f=some ⟨oc,od,.func (PySem.W.fnOf x qual (defArgs st) (defBody st) (defScope st) .none kV doc pm an cdv ct),osl⟩)
  (c:PySem.W.codeIn K cdv qual=true) (k:PySem.W.keepIn K (.ref f)=true):Fun K x qual st f (PySem.W.fnOf x qual (defArgs st) (defBody st) (defScope st) .none kV doc pm an cdv ct):=⟨⟨oc,od,kV,doc,pm,an,cdv,ct,osl,rfl,l,c⟩,k⟩
end
section
variable {X:Cx}
end
def cI (H H':Hp):Prop:=∀b o,H b=some o->H' b=some o
theorem cI.refl (H:Hp):cI H H:=fun _ _ h=>h
theorem cI.trans {H H1 H2:Hp}(a:cI H H1)(b:cI H1 H2):cI H H2:=fun c o h=>b c o (a c o h)
theorem cI.free {H H':Hp}(e:cI H H'){l:Addr}(h:H' l=Option.none):H l=Option.none:=by
 cases q:H l with
 |none=>rfl
 |some o =>
  rw[e l o q] at h;cases h
theorem cI.seq {K:PySem.W.Frag}{H H':Hp}{a:Addr}{xs:List V}(e:cI H H')(h:dU K H a xs):dU K H' a xs:=by
 rcases h with (h|⟨o,h⟩)|h
 ·exact .inl (.inl (e _ _ h))
 ·exact .inl (.inr ⟨o,e _ _ h⟩)
 ·exact .inr h
end L2
namespace L2
open PySem PyProof.Rows
noncomputable def jj (env:Env):List (Str×NameKind)->List (Str×Addr)->List (Str×Addr)
 |[],acc=>acc
 |(y,k)::r,acc=>if k==.free then (match env.cells.lookup y with|some c=>jj env r ((y,c)::acc)|none=>jj env r acc) else jj env r acc
theorem km {scope:Scope}{env:Env}(h:∀y,(y,NameKind.free)∈scope.names->∃c,env.cells.lookup y=some c):closureFor scope env=pure (jj env scope.names []):=by
 have key:∀(names:List (Str×NameKind)) (acc:List (Str×Addr)),(∀y,(y,NameKind.free)∈names->∃c,env.cells.lookup y=some c) →
   (forIn names acc fun x r=>if (x.2==NameKind.free)=true then (do let a <-cellOf env x.1;pure (ForInStep.yield ((x.1,a)::r))) else pure (ForInStep.yield r):Sem (List (Str×Addr)))=pure (jj env names acc):=by
  intro names;induction names with
  |nil=>intro acc _;rfl
  |cons x r ih =>
   intro acc hh;obtain⟨y,k⟩:=x;have hr:=fun z hz=>hh z (ao _ hz);rw[bY];unfold jj;by_cases hk:(k==NameKind.free)=true
   ·have hk':k=.free:=by simpa using hk
    subst hk';obtain⟨c,hc⟩:=hh y aC;have hcell:cellOf env y=pure c:=by unfold cellOf;rw[hc]
    simp only[hcell,hc];exact ih _ hr
   ·have hk':(k==NameKind.free)=false:=by simpa using hk
    simp only[hk'];exact ih _ hr
 unfold closureFor;have:=key scope.names [] h;refine Eq.trans ?_ (congrArg (fun m:Sem _=>m>>=fun r=>pure r) this);rfl
theorem la {env:Env}{y:Str}{c:Addr}:∀(names:List (Str×NameKind)) (acc:List (Str×Addr)),(∀c,acc.lookup y=some c->env.cells.lookup y=some c)->(jj env names acc).lookup y=some c->env.cells.lookup y=some c
 |[],acc,h,e=>h c e
 | (z,k)::r,acc,h,e=>by
  unfold jj at e;split at e
  ·split at e
   ·rename_i c' hc;refine la r _ (fun d hd=>?_) e;rw[aZ] at hd;cases hb:y==z with
    |true=>rw[hb] at hd;rw[beq_iff_eq.mp hb];cases hd;exact hc
    |false=>rw[hb] at hd;exact h d hd
   ·exact la r _ h e
  ·exact la r _ h e
theorem j5 {env:Env}{y:Str}{c:Addr}:∀(names:List (Str×NameKind)) (acc:List (Str×Addr)),env.cells.lookup y=some c->acc.lookup y=some c->(jj env names acc).lookup y=some c
 |[],acc,_,e=>e
 | (z,k)::r,acc,h,e=>by
  unfold jj;split
  ·split
   ·rename_i c' hc;refine j5 r _ h ?_;rw[aZ];cases hb:y==z with
    |true=>rw[<-beq_iff_eq.mp hb,h] at hc;cases hc;rfl
    |false=>exact e
   ·exact j5 r _ h e
  ·exact j5 r _ h e
theorem lb {env:Env}{y:Str}{c:Addr}(h:env.cells.lookup y=some c):∀(names:List (Str×NameKind)) (acc:List (Str×Addr)),(y,NameKind.free)∈names->(jj env names acc).lookup y=some c
 | (z,k)::r,acc,hm=>by
  unfold jj;rcases aw.mp hm with e|hm
  ·cases e;simp only[beq_self_eq_true,if_true,h];exact j5 r _ h (by rw[aZ];simp)
  ·split
   ·split
    ·exact lb h r _ hm
    ·exact lb h r _ hm
   ·exact lb h r _ hm
theorem eA:∀(names:List (Str×NameKind)) (n:Nat) (acc:List (Str×Addr)),cellsFrom n names acc=cellsFrom n names []++acc
 |[],_,_=>rfl
 | (y,k)::r,n,acc=>by
  unfold cellsFrom;split
  ·rw[eA r (n+1) ((y,n)::acc),eA r (n+1) [(y,n)],aK];rfl
  ·exact eA r n acc
theorem i9 {α:Type}{y:Str}:∀(l m:List (Str×α)),(l++m).lookup y=(l.lookup y).or (m.lookup y)
 |[],_=>by simp
 | (z,c)::r,m=>by
  rw[bV,aZ,aZ];cases y==z with
  |true=>rfl
  |false=>exact i9 r m
theorem iB {y:Str}{c:Addr}:∀(names:List (Str×NameKind)) (n:Nat) (acc:List (Str×Addr)),(y,c)∈cellsFrom n names acc->(y,NameKind.cell)∈names\/(y,c)∈acc
 |[],_,_,h=>.inr h
 | (z,k)::r,n,acc,h=>by
  unfold cellsFrom at h;split at h
  ·rename_i hk;have hk':k=.cell:=by simpa using hk
   subst hk';rcases iB r _ _ h with q|q
   ·exact .inl (ao _ q)
   ·rcases aw.mp q with e|q
    ·cases e;exact .inl aC
    ·exact .inr q
  ·rcases iB r _ _ h with q|q
   ·exact .inl (ao _ q)
   ·exact .inr q
theorem wH {M:Model}{A:Around}{E:Value->Shared->Prop}{s:Shared}{scope:Scope}{globals:Addr}{cl:List (Str×Addr)}{qual:Str}{env:Env}{Q:Env->Shared->Prop}
  (hQ:∀h',h'.Ns s.heap.objs.size (fun _=>none)->(∀b o,s.heap.get? b=some o->h'.get? b=some o)->CellsOk h' (s.heap.objs.size+1) (cellsFrom (s.heap.objs.size+1) scope.names [])->s.heap.objs.size<h'.objs.size →
   Q (newEnv scope s.heap.objs.size globals (cellsFrom (s.heap.objs.size+1) scope.names cl) qual none .none (some env) builtinsNs) { s with heap:=h' }) :
  wpAny M A (newFunctionEnv scope globals cl [] qual none .none (some env)) Q E s:=by
 simp only[newFunctionEnv,Option.isSome_some,if_true];refine af (wpAny_alloc ?_);refine af (wpAny_layCells _ (fun name kind cells=>by cases hkc:kind==NameKind.cell <;> simp[hkc]) _ _ _ _ ?_);have ok:=cellsFrom_ok scope.names (s.heap.push { cls:=.type "dict", data:=.dict #[] }) (s.heap.objs.size+1) [] ⟨fun _ _ hm=>(nomatch hm),List.Pairwise.nil⟩ (by rw[bE];exact az _);rw[bE] at ok;rw[show ({ s with heap:=s.heap.push { cls:=.type "dict", data:=.dict #[] } }:Shared).heap.objs.size=s.heap.objs.size+1 from bE ..];refine af (ay (ay ?_));exact hQ _ ((Heap.Ns.new s.heap (.type "dict")).keeps (pushCells_keeps _ _)) (fun b o e=>pushCells_keeps _ _ b o (ai _ e)) ok (Heap.Ns.lt ((Heap.Ns.new s.heap (.type "dict")).keeps (pushCells_keeps scope.names _)))
end L2
namespace L2
open PySem PySem.Spec PyProof.Rows
structure CompSc (osc:Scope)(oN:List Str)(scope:Scope)(own:List Str)(ix:List Nat)(caps:List Str):Prop where
 kind:scope.kind=.function
 nd:(own++caps).Nodup
 loc:∀x∈own,scope.names.lookup x=some .local\/scope.names.lookup x=some .cell
 ixs:ix.map (fun j=>oN[j]?)=caps.map some
 frees:∀p∈scope.names,p.2=.free->(osc.names.lookup p.1=some .cell\/osc.names.lookup p.1=some .free)
 caps:∀y∈caps,(y,NameKind.free)∈scope.names
 uniq:∀p∈scope.names,scope.names.lookup p.1=some p.2
noncomputable def iS (X:Cx)(scope:Scope)(C:Addr):Env :=
 { newEnv scope C X.env.globals (cellsFrom (C+1) scope.names (jj X.env scope.names [])) X.env.qual none .none (some X.env) builtinsNs with scope:=relabel scope X.env }
noncomputable def compCx (X:Cx)(scope:Scope)(N':List Str)(s₀:Shared)(H₀:Hp)(ex:List Addr)(pn:List (Addr×Obj)):Cx :=
 { X with N:=N',s₀:=s₀,H₀:=H₀,env:=iS X scope s₀.heap.objs.size,outer:=X.stack,stack:=X.stack,ex:=ex,fn:=fun x=>scope.names.lookup x==some .cell,pn:=pn,xe:=fun _ _=>False }
noncomputable def capt (n:Nat)(ix:List Nat)(σ:St):St:=bD n none++ix.map (fun j=>(σ[j]?).join)
theorem jK {env:Env}{scope:Scope}{y:Str} :
  (relabel scope env).names.lookup y=(scope.names.lookup y).map fun k=>if (k==NameKind.free&&env.scope.kind==.function&&env.kindOf y==some .cell)=true then .cell else k:=by
 unfold relabel;dsimp only;generalize scope.names=names;induction names with
 |nil=>rfl
 |cons x r ih =>
  obtain⟨n,k⟩:=x;rw[aD];dsimp only;by_cases hb:(y==n)=true
  ·have e:y=n:=beq_iff_eq.mp hb;subst e;by_cases hc:(k==NameKind.free&&env.scope.kind==.function&&env.kindOf y==some .cell)=true
   ·rw[if_pos hc,aZ,aZ];simp only[beq_self_eq_true,ag,if_pos hc]
   ·rw[if_neg hc,aZ,aZ];simp only[beq_self_eq_true,ag,if_neg hc]
  ·have hb':(y==n)=false:=by simpa using hb
   rw[aZ (a:=y) (b:=(n,k).2),hb'];by_cases hc:(k==NameKind.free&&env.scope.kind==.function&&env.kindOf n==some .cell)=true
   ·rw[if_pos hc,aZ,hb'];exact ih
   ·rw[if_neg hc,aZ,hb'];exact ih
section
variable {X:Cx}{pins:List (Addr×Obj)}{σ:St}{H:Hp}{s:Shared}{scope:Scope}{own caps:List Str}{ix:List Nat}
theorem oK {C:Addr}{x:Str}(S:CompSc X.env.scope X.N scope own ix caps)(h:scope.names.lookup x=some .cell):∃c,(iS X scope C).cells.lookup x=some c/\(x,c)∈cellsFrom (C+1) scope.names []:=by
 have q:=PySem.W.cellsFrom_some scope.names (C+1) [] (.inl h);obtain⟨c,hc⟩:=CJ.mp q;refine⟨c,?_,mem_of_lookup hc⟩;show (cellsFrom (C+1) scope.names (jj X.env scope.names [])).lookup x=some c;rw[eA,i9,hc];rfl
theorem oJ {C:Addr}{x:Str}(S:CompSc X.env.scope X.N scope own ix caps)(h:scope.names.lookup x=some .free)(hX:∃c,X.env.cells.lookup x=some c):(iS X scope C).cells.lookup x=X.env.cells.lookup x:=by
 obtain⟨c,hc⟩:=hX;show (cellsFrom (C+1) scope.names (jj X.env scope.names [])).lookup x=_;rw[eA,i9];have hn:(cellsFrom (C+1) scope.names []).lookup x=none:=by
  cases e:(cellsFrom (C+1) scope.names []).lookup x with
  |none=>rfl
  |some d =>
   rcases iB _ _ _ (mem_of_lookup e) with q|q
   ·have:=S.uniq _ q;rw[h] at this;cases this
   ·cases q
 rw[hn,lb hc _ _ (mem_of_lookup h),hc];rfl
theorem fJ {C:Addr}{x:Str}{c:Addr}(h:(iS X scope C).cells.lookup x=some c):(x,c)∈cellsFrom (C+1) scope.names []\/X.env.cells.lookup x=some c:=by
 have h':(cellsFrom (C+1) scope.names (jj X.env scope.names [])).lookup x=some c:=h;rw[eA,i9] at h';cases e:(cellsFrom (C+1) scope.names []).lookup x with
 |some d =>
  rw[e] at h';cases h';exact .inl (mem_of_lookup e)
 |none =>
  rw[e] at h';exact .inr (la _ [] (fun _ z=>by cases z) h')
theorem xw {fp:List Addr}{h':Heap}(S:CompSc X.env.scope X.N scope own ix caps)(I:Inv X pins σ H s)(hf:∀b∈fp,ni X pins H b)(hlt:∀b∈fp,b<s.heap.objs.size)
  (hn:h'.Ns s.heap.objs.size (fun _=>none)) (hk:∀b o,s.heap.get? b=some o->h'.get? b=some o) (hc:CellsOk h' (s.heap.objs.size+1) (cellsFrom (s.heap.objs.size+1) scope.names [])) :
  Inv (compCx X scope (own++caps) s H fp (X.pn++pins)) [] (capt own.length ix σ) H { s with heap:=h' }:=by
 have lenS:ix.length=caps.length:=by
  have:=congrArg List.length S.ixs;simpa using this
 have oldc:∀x c,X.env.cells.lookup x=some c->c<s.heap.objs.size:=fun x c e=>by
  obtain⟨v,q⟩:=I.cell x c e;exact q.lt
 have newc:∀{x c},(x,c)∈cellsFrom (s.heap.objs.size+1) scope.names []->s.heap.objs.size+1<=c:=fun h=>(hc.empty _ _ h).2;have freeOf:∀x,scope.names.lookup x=some .free->(X.env.kindOf x=some .cell\/X.env.kindOf x=some .free):=fun x h=>S.frees (x,.free) (mem_of_lookup h) rfl;have xHas:∀x,scope.names.lookup x=some .free->∃c,X.env.cells.lookup x=some c:=fun x h=>I.ok.has x (freeOf x h);have stkF:∀b∈frs X.stack,H b=none:=I.stkFree;have hOk:(compCx X scope (own++caps) s H fp (X.pn++pins)).Ok:=by
  refine⟨I.ok.mod,S.kind,I.ok.glob,I.ok.blt,az _,?_,?_,?_,I.ok.hd,I.ok.frames,.inl rfl,?_,I.bs,bg I.ok.bsz I.sz,?_,?_,I.stack,stkF⟩
  ·intro x y c e1 e2;rcases fJ e1 with q1|q1 <;> rcases fJ e2 with q2|q2
   ·exact name_of_addr hc.apart q1 q2
   ·exact absurd (aH (oldc _ _ q2) (bL (newc q1))) (aY _)
   ·exact absurd (aH (oldc _ _ q1) (bL (newc q2))) (aY _)
   ·exact I.ok.inj _ _ _ q1 q2
  ·intro x hx;have hx':(relabel scope X.env).names.lookup x=some .cell\/(relabel scope X.env).names.lookup x=some .free:=hx;rw[jK] at hx';cases e:scope.names.lookup x with
   |none=>rw[e] at hx';rcases hx' with z|z <;> cases z
   |some k =>
    by_cases hcell:k=.cell
    ·subst hcell;obtain⟨c,hc,_⟩:=oK (C:=s.heap.objs.size) S e;exact⟨c,hc⟩
    ·by_cases hfree:k=.free
     ·subst hfree;obtain⟨c,hc⟩:=xHas x e;exact⟨c,(oJ S e ⟨c,hc⟩).trans hc⟩
     ·rw[e,ag] at hx';have hkf:(k==NameKind.free)=false:=by simpa using hfree
      rw[hkf] at hx';rcases hx' with z|z
      ·exact absurd (aL.inj z) hcell
      ·exact absurd (aL.inj z) hfree
  ·intro x c hfn e;have hcell:scope.names.lookup x=some .cell:=by simpa [compCx] using hfn
   rcases fJ e with q|q
   ·exact bL (newc q)
   ·obtain⟨c',e',m'⟩:=oK (C:=s.heap.objs.size) S hcell;have:c'=c:=by
     have e2:(iS X scope s.heap.objs.size).cells.lookup x=some c:=e;rw[e'] at e2;exact aL.inj e2
    subst this;exact bL (newc m')
  ·intro b hb;refine⟨aO (hlt b hb),fun x c e=>?_⟩;rcases fJ e with q|q
   ·exact CB (aH (hlt b hb) (bL (newc q)))
   ·exact (hf b hb).2.2.2.2.1 x c q
  ·intro b o e hb;rcases (hf b hb).2.2.2.1 with z|z
   ·exact I.ok.noex b o e z
   ·exact absurd (aH (aF e) (bg I.ok.bsz z)) (aY _)
  ·intro b hb hb2;rcases aw.mp (I.stkSub b hb2) with z|z
   ·exact (hf b hb).2.1 z
   ·exact (hf b hb).2.2.1 z
 refine⟨hOk,rfl,I.bare,Un.kept hk,⟨fun _=>none,hn,?_⟩,?_,I.hok.fresh (az _),?_,?_,I.hok.kept hk,?_⟩
 ·intro i x v h1 h2 h3;by_cases hi:i<own.length
  ·have h2':(capt own.length ix σ)[i]?=some (some v):=h2;unfold capt at h2';rw[bF (by simpa using hi),bS,if_pos hi] at h2';cases h2'
  ·have h2':(capt own.length ix σ)[i]?=some (some v):=h2;unfold capt at h2';rw[aU (by simpa using hi),aS,aN] at h2';have h1':(own++caps)[i]?=some x:=h1;rw[aU (by simpa using hi)] at h1';cases ej:ix[i-own.length]? with
   |none=>rw[ej] at h2';cases h2'
   |some j =>
    rw[ej,ag] at h2';have hj:X.N[j]?=some x:=by
     have q:(ix.map (fun j=>X.N[j]?))[i-own.length]?=(caps.map some)[i-own.length]?:=by rw[S.ixs]
     rw[aN,aN,ej,h1',ag,ag] at q;exact aL.inj q
    have hv:σ[j]?=some (some v):=by
     have q:(σ[j]?).join=some v:=aL.inj h2';cases e:σ[j]? with
     |none=>rw[e] at q;cases q
     |some w'=>rw[e] at q;exact congrArg some q
    have hfree:scope.names.lookup x=some .free:=S.uniq _ (S.caps x (aQ h1'));obtain⟨m,hm,hl⟩:=I.loc;have hvis:Vis X.env.scope x:=by
     rcases freeOf x hfree with z|z
     ·exact .inr (.inl z)
     ·exact .inr (.inr z)
    obtain⟨u,r,l⟩:=hl j x v hj hv hvis;refine⟨u,r,?_⟩;rcases l with ⟨k,_⟩|⟨k,c,e,z⟩
    ·rcases freeOf x hfree with q|q <;> rw[q] at k <;> cases k
    ·refine .inr ⟨?_,c,(oJ S hfree ⟨c,e⟩).trans e,z.keeps hk⟩;show (relabel scope X.env).names.lookup x=some .cell\/(relabel scope X.env).names.lookup x=some .free;rw[jK,hfree,ag];split
     ·exact .inl rfl
     ·exact .inr rfl
 ·intro x c e;rcases fJ e with q|q
  ·exact⟨none,(hc.empty _ _ q).1⟩
  ·obtain⟨v,z⟩:=I.cell x c q;exact⟨v,z.keeps hk⟩
 ·intro x c e;rcases fJ e with q|q
  ·exact I.hok.fresh (bL (newc q))
  ·exact I.freeC x c q
 ·intro p hp;have hp':p∈X.pn++pins:=by
   have:p∈(X.pn++pins)++[]:=hp;simpa using this
  obtain⟨e,n,ne,nf,d⟩:=I.pin p hp';refine⟨hk _ _ e,n,aO (aF e),fun z=>?_,d⟩;rcases aw.mp (I.stkSub p.1 z) with q|q
  ·exact ne q
  ·exact nf q
 ·show (capt own.length ix σ).length=(own++caps).length;unfold capt;rw[au,au,aS,ah,lenS]
end
end L2
namespace L2
open PySem PySem.Spec PyProof.Rows
noncomputable abbrev zw:Value->Shared->Prop:=fun _ _=>False
theorem p0 {prog:Program}{w:World}{A:Around}{R:Result->Shared->Prop}{s:Shared}{elt target iter:Expr}{ifs:List Expr}{scope:Scope}{pos:Pos}{it acc:Value}{env:Env}(I:Nat->Shared->Prop)
  (turn:∀n s,I n s->wpAny (model prog w) A (pyNext it) (fun r s₁=>match r with
   |none=>R (.ok .next) s₁
   |some v=>wpAny (model prog w) A (letOwnedTupleGo target it v) (fun _ s₁'=>wpAny (model prog w) A (assign target env v) (fun _ s₂ =>
     wpAny (model prog w) A (forIn ifs true fun c r=>if r=true then do let ok <-isTrue c env (eval c env);pure (ForInStep.yield ok) else pure (ForInStep.yield r)) (fun ok s₃ =>
      if ok=true then wpAny (model prog w) A (eval elt env) (fun x s₄ =>
       wpAny (model prog w) A (call (.builtin "list.append") [acc,x]) (fun _ s₅=>∃m,m<n/\I m s₅) zw s₄) zw s₃
      else ∃m,m<n/\I m s₃) zw s₂) zw s₁') zw s₁) zw s)
  (n:Nat) (h:I n s) :
  codeAny (model prog w) A (.compLoop (.ListComp elt [⟨target,iter,ifs,0⟩] scope pos) 0 it acc env) R s:=by
 refine codeAny_loop rfl I (fun n s hI=>?_) n h;show wpAny _ A ((compTurn (.ListComp elt [⟨target,iter,ifs,0⟩] scope pos) 0 it acc env).onRaise (fun x=>do noteFrame x env;theTreesLotGoes x)) _ _ s;refine wpAny_noted ?_;rw[compTurn_list];refine af (wpAny_standAt (af (wpAny_mono (turn n s hI) (fun r s₁ h₁=>?_) fun _ _ h'=>h'.elim)));cases r with
 |none=>exact ay h₁
 |some v =>
  refine af (wpAny_mono h₁ (fun _ s₁' h₁'=>?_) fun _ _ h'=>h'.elim);refine af (wpAny_mono h₁' (fun _ s₂ h₂=>af (wpAny_mono h₂ (fun ok s₃ h₃=>?_) fun _ _ h'=>h'.elim)) fun _ _ h'=>h'.elim);cases ok with
  |false=>exact ay ⟨rfl,h₃⟩
  |true =>
   exact af (af (wpAny_mono h₃ (fun x s₄ h₄=>af (wpAny_mono h₄ (fun _ s₅ h₅=>ay (ay ⟨rfl,h₅⟩)) fun _ _ h'=>h'.elim)) fun _ _ h'=>h'.elim))
noncomputable def PTs (X:Cx)(ifs:List Expr)(t:TT):Prop :=
 ∀(pins:List (Addr×Obj)) (s:Shared) (σ:St) (H:Hp) (Q:Bool->Hp->Prop),Inv X pins σ H s->t σ H Q →
  wpAny (model X.prog X.w) X.A (forIn ifs true fun c r=>if r=true then do let ok <-isTrue c X.env (eval c X.env);pure (ForInStep.yield ok) else pure (ForInStep.yield r)) (TP X pins σ Q) X.xe s
noncomputable def AN:TT:=fun _ H Q=>Q true H
theorem pts_nil {X:Cx}:PTs X [] AN:=fun pins s σ H Q I h=>wpAny_tests_nil ⟨H,I,h⟩
noncomputable def tComp (wi:TI)(n:Nat)(ix:List Nat)(g:TG)(tc:TT)(te:TE):TE:=fun σ H Q=>wi σ H fun J H1=>∀D,H1 D=none →
 ∃W:Nat->Nat->St->Hp->Prop,(∃m,W 0 m (capt n ix σ) (cZ H1 D (.lst [])))/\∀i m σ' H',W i m σ' H' →
  (J.stop i H'/\Q (.ref D) H')\/(J.go i H'/\∃N:St->Hp->Prop,(∀σ2 H2,N σ2 H2->∃m',m'<m/\W (i+1) m' σ2 H2) ∧
   ∀x H2,J.yld i H' x H2->g x σ' H2 fun σ3 H3=>tc σ3 H3 fun b H4=>if b=true then te σ3 H4 fun y H5=>∃ys,H5 D=some (.lst ys)/\ys.length<sizeLine/\N σ3 (cZ H5 D (.lst (ys++[y]))) else N σ3 H4)
section
variable {X:Cx}{scope:Scope}{own caps:List Str}{ix:List Nat}{tg iter elt:Expr}{ifs:List Expr}{wi:TI}{g:TG}{tc:TT}{te:TE}
theorem mY {pos:Pos}{pins:List (Addr×Obj)}{s2:Shared}{σ:St}{H2:Hp}{E:Value->Shared->Prop}{J:It}{it:Addr}{fp:List Addr}{tn:Nat->Heap->Prop}{Q:VK}{RR:Value->Addr->Result->Shared->Prop}
  (S:CompSc X.env.scope X.N scope own ix caps) (hc:X.calm=true)
  (hg:∀s₀ H₀ ex pn,PG (compCx X scope (own++caps) s₀ H₀ ex pn) tg g) (ht:∀s₀ H₀ ex pn,PTs (compCx X scope (own++caps) s₀ H₀ ex pn) ifs tc) (he:∀s₀ H₀ ex pn,PE (compCx X scope (own++caps) s₀ H₀ ex pn) elt te)
  (I2:Inv X pins σ H2 s2) (T:Turn X.prog X.w X.K tg J fp it tn) (st2:tn 0 s2.heap) (f2:∀b∈fp,ni X pins H2 b)
  (hW:∀D,H2 D=none->∃W:Nat->Nat->St->Hp->Prop,(∃m,W 0 m (capt own.length ix σ) (cZ H2 D (.lst [])))/\∀i m σ' H',W i m σ' H' →
   (J.stop i H'/\Q (.ref D) H')\/(J.go i H'/\∃N:St->Hp->Prop,(∀σ2 H2,N σ2 H2->∃m',m'<m/\W (i+1) m' σ2 H2) ∧
    ∀x H2,J.yld i H' x H2->g x σ' H2 fun σ3 H3=>tc σ3 H3 fun b H4=>if b=true then te σ3 H4 fun y H5=>∃ys,H5 D=some (.lst ys)/\ys.length<sizeLine/\N σ3 (cZ H5 D (.lst (ys++[y]))) else N σ3 H4))
  (hRR:∀(D C:Addr) (H':Hp) (s':Shared),Inv X pins σ H' s'->Q (.ref D) H'->(∃m,s'.heap.Ns C m)->H' C=none->C≠X.env.locals->X.s₀.heap.objs.size<=C->(∀x c,X.env.cells.lookup x=some c->c≠C)->(∀p∈X.pn++pins,p.1≠C)->RR (.ref D) C (.ok .next) s') :
  wpAny (model X.prog X.w) X.A (newList []) (fun acc s₃=>wpAny (model X.prog X.w) X.A (newFunctionEnv scope X.env.globals (jj X.env scope.names []) [] X.env.qual none .none (some X.env)) (fun cenv s₄ =>
   codeAny (model X.prog X.w) X.A (.compStart (.ListComp elt [⟨tg,iter,ifs,0⟩] scope pos) 0 (.ref it) acc { cenv with scope:=relabel scope X.env }) (RR acc cenv.locals) s₄) E s₃) E s2:=by
 refine bG (wH fun h' hn hk hcl hs=>?_);have hD:H2 s2.heap.objs.size=none:=I2.hok.fresh (az _);obtain⟨W,⟨m0,w0⟩,turn⟩:=hW s2.heap.objs.size hD;have I3:=I2.lnew (ys:=[]) (its:=[]) (t':=s2.toks) .nil (bt _);generalize hs3:({ s2 with heap:=s2.heap.push { cls:=.type "list", data:=.seq ([]:List Value).toArray },toks:=s2.toks }:Shared)=s3 at I3;have hlt:∀b∈fp,b<s2.heap.objs.size:=fun b hb=>by
  obtain⟨o,e,_⟩:=T.obj _ _ st2 b hb;exact aF e
 have hsz:s3.heap.objs.size=s2.heap.objs.size+1:=by rw[<-hs3];exact bE ..
 have k3:∀b o,s2.heap.get? b=some o->s3.heap.get? b=some o:=fun b o e=>by rw[<-hs3];exact ai _ e
 have f3:∀b∈fp,ni X pins (cZ H2 s2.heap.objs.size (.lst [])) b:=fun b hb=>by
  obtain⟨f0,fr⟩:=f2 b hb;exact⟨by rw[cq (aO (hlt b hb))];exact f0,fr⟩
 have es3:s3={ s2 with heap:=s2.heap.push { cls:=.type "list", data:=.seq ([]:List Value).toArray } }:=hs3.symm
 try rw[<-es3] at hn
 try rw[<-es3] at hk
 try rw[<-es3] at hcl
 try rw[<-es3] at hs
 try rw[<-es3]
 have hlt3:∀b∈fp,b<s3.heap.objs.size:=fun b hb=>by rw[hsz];exact Nat.lt_succ_of_lt (hlt b hb)
 have I4:=xw S I3 f3 hlt3 hn hk hcl;have st4:tn 0 h':=T.keep _ _ _ st2 fun b hb o e=>hk b o (k3 b o e);have stat:∀{H':Hp},(∀b∈fp,H' b=none)->∀b∈fp,ni (compCx X scope (own++caps) s3 (cZ H2 s2.heap.objs.size (.lst [])) fp (X.pn++pins)) [] H' b:=fun hn b hb=>by
  obtain⟨f0,f1,f2',f3',f4,f5⟩:=f3 b hb;refine⟨hn b hb,aO (hlt3 b hb),fun z=>?_,.inl hb,fun x c e=>(I4.ok.exf b hb).2 x c e,fun p hp=>f5 p (by simpa [compCx] using hp)⟩;rcases aw.mp (I2.stkSub b z) with q|q
  ·exact f1 q
  ·exact f2' q
 have main:codeAny (model X.prog X.w) X.A (.compLoop (.ListComp elt [⟨tg,iter,ifs,0⟩] scope pos) 0 (.ref it) (.ref s2.heap.objs.size) (iS X scope s3.heap.objs.size))
   (RR (.ref s2.heap.objs.size) s3.heap.objs.size) { s3 with heap:=h' }:=by
  refine p0 (fun n s'=>∃i σ' H',Inv (compCx X scope (own++caps) s3 (cZ H2 s2.heap.objs.size (.lst [])) fp (X.pn++pins)) [] σ' H' s'/\tn i s'.heap/\(∀b∈fp,H' b=none)/\W i n σ' H') ?_ m0
   ⟨0,_,_,I4,st4,fun b hb=>(f3 b hb).1,w0⟩
  rintro n s5 ⟨i,σ5,H5,I5,st5,fr5,w5⟩;rcases turn i n σ5 H5 w5 with ⟨stop,qn⟩|⟨go,N,hN,step⟩
  ·refine thn (T.done (compCx X scope (own++caps) s3 (cZ H2 s2.heap.objs.size (.lst [])) fp (X.pn++pins)) rfl rfl rfl hc i [] s5 σ5 H5 zw I5 (stat fr5) st5 stop) fun r s6 zz=>?_;obtain ⟨hr,I6⟩:=zz;subst hr;have u:Un (frs X.stack) fp H2 H5 s2.heap s6.heap:=(Un.laid (o:=.lst []) k3 (az _) hD).trans I6.base;have e6:s6.os=s2.os:=by
    have:=I6.os;rw[this,<-hs3];rfl
   have I7:Inv X pins σ H5 s6:=I2.call' e6 u I6.hok I6.bare fun b hb=>⟨(f2 b hb).2.2.2.1,(f2 b hb).2.1,(f2 b hb).2.2.2.2.1,(f2 b hb).2.2.2.2.2⟩;obtain⟨mC,hC,_⟩:=I6.loc;refine hRR _ _ H5 s6 I7 qn ⟨mC,hC⟩ I6.free (CB (aH I2.lt (by rw[hsz];exact bR _))) (bg I2.sz (by rw[hsz];exact bR _)) (fun x c e z=>?_) fun p hp z=>?_
   ·obtain⟨v,q⟩:=I2.cell x c e;have:=q.lt;rw[z,hsz] at this;exact aY _ (Nat.lt_of_succ_lt this)
   ·have:=aF (I2.pin p hp).1;rw[z,hsz] at this;exact aY _ (Nat.lt_of_succ_lt this)
  ·refine thn (T.item (compCx X scope (own++caps) s3 (cZ H2 s2.heap.objs.size (.lst [])) fp (X.pn++pins)) rfl rfl rfl hc i [] s5 σ5 H5 zw I5 (stat fr5) st5 go) fun r s6 zz=>?_;obtain ⟨u,hr,h6⟩:=zz;subst hr;refine thn h6 fun _ s7 zz=>?_;obtain ⟨x,H7,I7,r7,y7,st7,fr7⟩:=zz;have I7':=I7.pinned (stat fr7) (T.obj _ _ st7);refine thn (hg _ _ _ _ _ s7 σ5 H7 x u _ I7' r7 (step x H7 y7)) fun _ s8 zz=>?_;obtain ⟨σ8,H8,I8,q8⟩:=zz;refine thn (ht _ _ _ _ _ s8 σ8 H8 _ I8 q8) fun b s9 zz=>?_;obtain ⟨H9,I9,q9⟩:=zz;have again:∀{σ':St}{H':Hp}{s':Shared},Inv (compCx X scope (own++caps) s3 (cZ H2 s2.heap.objs.size (.lst [])) fp (X.pn++pins)) ([]++mG fp s7.heap) σ' H' s'->N σ' H' →
     ∃m,m<n/\∃i σ' H',Inv (compCx X scope (own++caps) s3 (cZ H2 s2.heap.objs.size (.lst [])) fp (X.pn++pins)) [] σ' H' s'/\tn i s'.heap/\(∀b∈fp,H' b=none)/\W i m σ' H':=fun {σ' H' s'} J n7=>by
    obtain⟨m',hm,w7⟩:=hN σ' H' n7;refine⟨m',hm,i+1,σ',H',J.unpinned,T.keep _ _ _ st7 fun b hb o e=>(J.pin (b,o) (av _ (av _ (i8 hb e)))).1,fun b hb=>?_,w7⟩;obtain⟨o,e,d⟩:=T.obj _ _ st7 b hb;exact (J.pin (b,o) (av _ (av _ (i8 hb e)))).2.1
   cases b with
   |false=>exact again I9 q9
   |true =>
    rw[if_pos rfl] at q9;show wpAny _ _ (eval elt _) _ _ _;refine thn (he _ _ _ _ _ s9 σ8 H9 _ I9 q9) fun y s10 zz=>?_;obtain ⟨vy,H10,I10,r10,ys,hD10,hz10,q10⟩:=zz;refine thn (mt_append _ s10 σ8 H10 (.ref s2.heap.objs.size) [vy] (.ref s2.heap.objs.size) [y] (fun _ H'=>N σ8 H') I10 rfl (.cons r10 .nil) ⟨_,ys,vy,rfl,rfl,hD10,hz10,q10⟩) fun _ s11 zz=>?_;obtain ⟨_,H11,I11,_,q11⟩:=zz;exact again I11 q11
 exact codeAny_compStart_list main (T.self _ 0 _ _ _ st4 main)
theorem pe_lcomp {pos:Pos}(S:CompSc X.env.scope X.N scope own ix caps)(hc:X.calm=true)(hi:PI X tg iter wi)
  (hg:∀s₀ H₀ ex pn,PG (compCx X scope (own++caps) s₀ H₀ ex pn) tg g) (ht:∀s₀ H₀ ex pn,PTs (compCx X scope (own++caps) s₀ H₀ ex pn) ifs tc) (he:∀s₀ H₀ ex pn,PE (compCx X scope (own++caps) s₀ H₀ ex pn) elt te)
  (hs:∀x,foldedSetIterable iter X.env x=pure x:=by intro _;rfl) :
  PE X (.ListComp elt [⟨tg,iter,ifs,0⟩] scope pos) (tComp wi own.length ix g tc te):=by
 intro pins s σ H Q I h;have hcl:closureFor scope X.env=pure (jj X.env scope.names []):=km fun y hy=>I.ok.has y (S.frees (y,.free) hy rfl);rw[eval_ListComp];refine wpAny_comprehension_free (use:=none) rfl hs hcl S.kind (fun y hy hl=>by have:=S.uniq y hy;rw[hl] at this;exact this) ?_;refine thn (hi pins s σ H _ I h) fun v s1 h1=>thn h1 fun itv s2 h2=>?_;obtain⟨it,fp,tn,J,H2,e,I2,T,st2,f2,hW⟩:=h2;subst e;refine mY (E:=X.xe) (Q:=Q) (RR:=fun acc C=>compPost (model X.prog X.w) X.A X.xe none (EP X pins σ Q) acc C) S hc hg ht he I2 T st2 f2 hW ?_;intro D C H' s' I' q hC hH hL hs0 hcell hp;obtain⟨m,hm⟩:=hC;refine⟨m,hm,fun h'' hsb=>⟨.ref D,H',?_,rfl,q⟩⟩;exact I'.turned (t':=s'.toks) (fun b o hb e=>(hsb.2 b hb).trans e) hH (Ne.symm hL).symm (.inr hs0) hcell hp
theorem ps_lcomp {pos spos py:Pos}{i:Nat}{y:Str}(S:CompSc X.env.scope X.N scope own ix caps)(hc:X.calm=true)(hN:X.N.Nodup)(hiN:X.N[i]?=some y)(hy:X.env.scope.names.lookup y=some .local)
  (hi:PI X tg iter wi)
  (hg:∀s₀ H₀ ex pn,PG (compCx X scope (own++caps) s₀ H₀ ex pn) tg g) (ht:∀s₀ H₀ ex pn,PTs (compCx X scope (own++caps) s₀ H₀ ex pn) ifs tc) (he:∀s₀ H₀ ex pn,PE (compCx X scope (own++caps) s₀ H₀ ex pn) elt te)
  (hsw:swapsWith (.ListComp elt [⟨tg,iter,ifs,0⟩] scope pos) (some (.Name y py)) spos.line X.env=pure true:=by rfl)
  (hs:∀x,foldedSetIterable iter X.env x=pure x:=by intro _;rfl) :
  PS X (.Assign [.Name y py] (.ListComp elt [⟨tg,iter,ifs,0⟩] scope pos) spos) (tAsg (tComp wi own.length ix g tc te) (gName i)):=by
 intro pins s σ H D I h;have hcl:closureFor scope X.env=pure (jj X.env scope.names []):=km fun y hy=>I.ok.has y (S.frees (y,.free) hy rfl);rw[exec_Assign_Name_used _ _ _ _ hsw];refine af (wpAny_standAt (af ?_));show wpAny _ _ (do let _ <-comprehension (.ListComp elt [⟨tg,iter,ifs,0⟩] scope pos) scope X.env _ (newList []) false (eval iter X.env) (some (assign (.Name y py) X.env))) _ _ s;refine af (wpAny_mono (wpAny_comprehension_free (use:=some (assign (.Name y py) X.env)) (Q:=fun _ s'=>SP X pins D .next s') rfl hs hcl S.kind (fun y hy hl=>by have:=S.uniq y hy;rw[hl] at this;exact this) ?_)
  (fun _ s' hq=>ay (ay hq)) fun _ _ e=>e)
 refine thn (hi pins s σ H _ I h) fun v s1 h1=>thn h1 fun itv s2 h2=>?_;obtain⟨it,fp,tn,J,H2,e,I2,T,st2,f2,hW⟩:=h2;subst e;refine mY (E:=X.xe) (Q:=fun x H1=>gName i x σ H1 D.nx) (RR:=fun acc C=>compPost (model X.prog X.w) X.A X.xe (some (assign (.Name y py) X.env)) (fun _ s'=>SP X pins D .next s') acc C) S hc hg ht he I2 T st2 f2 hW ?_;intro Dl C H' s' I' q hC hH hL hs0 hcell hp;obtain⟨m,hm⟩:=hC;show wpAny _ _ (assign (.Name y py) X.env (.ref Dl)) _ _ s';refine wpAny_assign_Name (nU (v:=.ref Dl) I' hN hiN (.inl hy) rfl (fun s'' I'' hsame=>?_) (.inr hy));obtain⟨a,hsa,ha⟩:=hsame;have haC:C≠a:=by
  rcases ha with z|z
  ·rw[z];exact hL
  ·exact fun e=>hcell _ _ z e.symm
 refine⟨m,hm.sameBut hsa haC,fun h'' hsb=>?_⟩;exact⟨_,H',I''.turned (t':=s''.toks) (fun b o hb e=>(hsb.2 b hb).trans e) hH hL (.inr hs0) hcell hp,q⟩
end
end L2
namespace DL
open PySem PySem.Spec PySem.SeqAt
noncomputable abbrev D:=PyData
noncomputable abbrev Vl:=D×Bool
noncomputable abbrev Sl:=List (Option Vl)
set_option genInjectivity true in
inductive Fl where
 |next (ρ:Sl)|ret (r:Vl)|brk (ρ:Sl)|cont (ρ:Sl)
noncomputable abbrev ED:=Sl->Option Vl
noncomputable abbrev BD:=Sl->Option D
noncomputable abbrev TD:=Sl->Option Bool
noncomputable abbrev AD:=Sl->Option (List D)
noncomputable abbrev SD:=Sl->Option Fl
noncomputable abbrev GD:=D->Sl->Option Sl
noncomputable abbrev O2:=D->D->Option Vl
noncomputable abbrev FD:=List D->Option Vl
noncomputable def dC (d:D):ED:=fun _=>some (d,false)
noncomputable def cF (i:Nat):ED:=fun ρ=>match ρ[i]? with
 |some (some (d,false))=>some (d,false)
 |_=>none
noncomputable def cc (i:Nat):BD:=fun ρ=>match ρ[i]? with
 |some (some (d,false))=>some d
 |some (some (.list xs,true))=>some (.list xs)
 |some (some (.dict [(.dict kvs,.bool true)],true))=>some (.dict kvs)
 |_=>none
noncomputable def ck (f:ED):BD:=fun ρ=>(f ρ).map (·.1)
noncomputable def d1 (op:D->Option Vl)(f:BD):ED:=fun ρ=>(f ρ).bind op
noncomputable def d2 (op:O2)(f g:BD):ED:=fun ρ=>(f ρ).bind fun x=>(g ρ).bind fun y=>op x y
noncomputable def cG:AD:=fun _=>some []
noncomputable def cf (f:ED)(t:AD):AD:=fun ρ=>(f ρ).bind fun x=>(t ρ).bind fun xs=>some (x.1::xs)
noncomputable def gj (t:AD):ED:=fun ρ=>(t ρ).bind fun xs=>if xs.length<=sizeLine then some (.tuple xs,false) else none
noncomputable def eN (t:AD):ED:=fun ρ=>(t ρ).bind fun xs=>if xs.length<=sizeLine then some (.list xs,true) else none
noncomputable def cE (F:FD)(t:AD):ED:=fun ρ=>(t ρ).bind F
noncomputable def qi:D->Option Bool
 |.bool b=>some b
 |_=>none
noncomputable def rG (f g:ED):ED:=fun ρ=>(f ρ).bind fun x=>(qi x.1).bind fun c=>if c=true then g ρ else some (.bool false,false)
noncomputable def yR (f:ED):ED:=fun ρ=>(f ρ).bind fun x=>(qi x.1).bind fun c=>some (.bool (!c),false)
noncomputable def fZ (t:TD):ED:=fun ρ=>(t ρ).bind fun c=>some (.bool c,false)
noncomputable def lq (f:ED):TD:=fun ρ=>(f ρ).bind fun x=>qi x.1
noncomputable def jy (f g:TD):TD:=fun ρ=>(f ρ).bind fun c=>if c=true then g ρ else some false
noncomputable def iU (f g:TD):TD:=fun ρ=>(f ρ).bind fun c=>if c=true then some true else g ρ
noncomputable def eT (f:TD):TD:=fun ρ=>(f ρ).bind fun c=>some (!c)
noncomputable def eB:TD:=fun _=>some true
noncomputable abbrev C2:=D->D->Option Bool
noncomputable def tChain:D->List (C2×BD)->TD
 |_,[]=>fun _=>some true
 |x,[(op,f)]=>fun ρ=>(f ρ).bind fun y=>op x y
 |x,(op,f)::r=>fun ρ=>(f ρ).bind fun y=>(op x y).bind fun c=>if c=true then tChain y r ρ else some false
noncomputable def cL (f:BD)(l:List (C2×BD)):TD:=fun ρ=>(f ρ).bind fun x=>tChain x l ρ
noncomputable def sX (i j:Int):Bool:=(decide (-(2 ^ 64)<i)&&decide (i<2 ^ 64))||(decide (-(2 ^ 64)<j)&&decide (j<2 ^ 64))
noncomputable def dg:O2
 |.int i,.int j=>some (.int (i+j),false)
 |.tuple xs,.tuple ys=>if xs.length+ys.length<=sizeLine then some (.tuple (xs++ys),false) else none
 |.str x,.str y=>if x.length+y.length<=sizeLine then some (.str (x++y),false) else none
 |_,_=>none
noncomputable def qR:O2
 |.int i,.int j=>some (.int (i-j),false)
 |_,_=>none
noncomputable def j7:O2
 |.int i,.int j=>if sX i j=true then some (.int (i*j),false) else none
 |_,_=>none
noncomputable def gf:O2
 |.int i,.int j=>if 0<j/\j<1073741824 then some (.int (i/j),false) else none
 |_,_=>none
noncomputable def dH:O2
 |.int i,.int j=>if 0<j then some (.int (i%j),false) else none
 |_,_=>none
noncomputable def pH:O2
 |.int i,.int j=>if 0<=j/\j<=1000000/\i.natAbs<2 ^ 64 then some (.int (i ^ j.toNat),false) else none
 |_,_=>none
noncomputable def qT:D->Option Vl
 |.int i=>some (.int (-i),false)
 |_=>none
noncomputable def sY:C2
 |.int i,.int j=>some (decide (i<j))
 |_,_=>none
noncomputable def rR:C2
 |.int i,.int j=>some (decide (i<=j))
 |_,_=>none
noncomputable def qg:C2
 |.int i,.int j=>some (decide (j<i))
 |_,_=>none
noncomputable def gF:C2:=fun x y=>if (shaped x&&shaped y&&noMix x y)=true then some (same x y) else none
noncomputable def j6:C2:=fun x y=>if (shaped x&&shaped y&&noMix x y)=true then some (!same x y) else none
noncomputable def nq (n:Nat)(i:Int):Option Nat:=if 0<=i then (if i<n then some i.toNat else none) else if -(n:Int)<=i then some (i+n).toNat else none
noncomputable def qh (xs:List D)(i:Int):Option D:=(nq xs.length i).bind fun j=>xs[j]?
noncomputable def cW:O2
 |.tuple xs,.int i=>(qh xs i).map fun d=>(d,false)
 |.list xs,.int i=>(qh xs i).map fun d=>(d,false)
 |_,_=>none
noncomputable def dY:D->Option Vl
 |.tuple xs=>some (.int xs.length,false)
 |.list xs=>some (.int xs.length,false)
 |_=>none
noncomputable def df:D->Option Vl
 |.tuple xs=>some (.tuple xs,false)
 |.list xs=>some (.tuple xs,false)
 |_=>none
noncomputable def iG:List D->Option (List Bool)
 |[]=>some []
 |d::r=>(qi d).bind fun b=>(iG r).map fun bs=>b::bs
noncomputable def iA:D->Option Vl
 |.tuple xs=>(iG xs).map fun bs=>(.bool (bs.all id),false)
 |.list xs=>(iG xs).map fun bs=>(.bool (bs.all id),false)
 |_=>none
noncomputable def wC:O2
 |.int i,.int j=>some (.int (if j>i then j else i),false)
 |_,_=>none
noncomputable def tQ (T:String):D->Bool
 |.bool _=>T == "bool" || T == "int"
 |.int _=>T == "int"
 |.str _=>T == "str"
 |.tuple _=>T == "tuple"
 |.list _=>T == "list"
 |_=>false
noncomputable def i7 (T:String):D->Option Vl
 |.bool b=>some (.bool (tQ T (.bool b)),false)
 |.int b=>some (.bool (tQ T (.int b)),false)
 |.str b=>some (.bool (tQ T (.str b)),false)
 |.tuple b=>some (.bool (tQ T (.tuple b)),false)
 |.list b=>some (.bool (tQ T (.list b)),false)
 |_=>none
noncomputable def gN (i:Nat):GD:=fun d ρ=>some (ρ.set i (some (d,false)))
noncomputable def mS:List GD->List D->Sl->Option Sl
 |[],[],ρ=>some ρ
 |g::gs,d::ds,ρ=>(g d ρ).bind fun ρ'=>mS gs ds ρ'
 |_,_,_=>none
noncomputable def gT (gs:List GD):GD:=fun d ρ=>match d with
 |.tuple ds=>mS gs ds ρ
 |_=>none
noncomputable def eV:D->Option (List D)
 |.tuple xs=>some xs
 |.list xs=>some xs
 |_=>none
noncomputable def iy (f:ED):AD:=fun ρ=>(f ρ).bind fun x=>eV x.1
noncomputable def dw (f:AD):AD:=f
noncomputable def rN:D->Option Int
 |.int i=>some i
 |_=>none
noncomputable def fc (i:Int)(n:Nat):List D:=(aV n).map fun (k:Nat)=>.int (i+k)
noncomputable def dM (f:ED):AD:=fun ρ=>(f ρ).bind fun x=>(rN x.1).bind fun j=>if -(2 ^ 62)<=j/\j<2 ^ 62 then some (fc 0 j.toNat) else none
noncomputable def fX (i:Nat):List D->List D
 |[]=>[]
 |d::ds=>.tuple [.int i,d]::fX (i+1) ds
noncomputable def kX (f:AD):AD:=fun ρ=>(f ρ).map (fX 0)
noncomputable def kq:List D->List D->List D
 |x::xs,y::ys=>.tuple [x,y]::kq xs ys
 |_,_=>[]
noncomputable def pS (f g:AD):AD:=fun ρ=>(f ρ).bind fun xs=>(g ρ).map fun ys=>kq xs ys
noncomputable def iT (g:GD)(t:TD)(e:ED)(ρ:Sl):List D->Option (List D)
 |[]=>some []
 |d::ds=>(g d ρ).bind fun ρ1=>(t ρ1).bind fun c=>if c=true then (e ρ1).bind fun x=>(iT g t e ρ ds).map fun xs=>x.1::xs else iT g t e ρ ds
noncomputable def dF (n:Nat)(ix:List Nat)(ρ:Sl):Sl:=bD n none++ix.map (fun j=>(ρ[j]?).join)
noncomputable def de (it:AD)(n:Nat)(ix:List Nat)(g:GD)(t:TD)(e:ED):ED:=fun ρ=>(it ρ).bind fun ds=>if ds.length<=sizeLine then (iT g t e (dF n ix ρ) ds).map fun xs=>(.list xs,true) else none
noncomputable def dW:SD:=fun ρ=>some (.next ρ)
noncomputable def cM (a b:SD):SD:=fun ρ=>(a ρ).bind fun fl=>match fl with
 |.next ρ'=>b ρ'
 |fl=>some fl
noncomputable def cO (i:Nat)(f:ED):SD:=fun ρ=>(f ρ).bind fun x=>some (.next (ρ.set i (some x)))
noncomputable def dh (f:ED):SD:=fun ρ=>(f ρ).map .ret
noncomputable def fW (t:TD)(a b:SD):SD:=fun ρ=>(t ρ).bind fun c=>if c=true then a ρ else b ρ
noncomputable def share (i:Nat)(ρ:Sl):Sl:=match ρ[i]? with
 |some (some (.list xs,true))=>ρ.set i (some (.list xs,false))
 |_=>ρ
noncomputable def jF (i:Nat)(a:SD):SD:=fun ρ=>a (share i ρ)
noncomputable def mQ (xs:List D):D:=.dict [(.list xs,.none)]
noncomputable def r8 (c:D):D:=.dict [(c,.bool true)]
noncomputable def cQ (xs:List D):D:=.dict [(.list xs,.bool true)]
noncomputable def eU (i:Nat):AD:=fun ρ=>match ρ[i]? with
 |some (some (.list xs,false))=>some xs
 |some (some (.tuple xs,false))=>some xs
 |some (some (.dict [(.list xs,.none)],true))=>some xs
 |_=>none
noncomputable def pg (i:Nat)(h:List D->Option (List D)):SD:=fun ρ=>match ρ[i]? with
 |some (some (.list xs,true))=>(h xs).map fun ys=>.next (ρ.set i (some (.list ys,true)))
 |_=>none
noncomputable def nD (i:Nat)(f:ED):SD:=fun ρ=>(f ρ).bind fun x=>pg i (fun xs=>if xs.length<sizeLine then some (xs++[x.1]) else none) ρ
noncomputable def xW (i:Nat)(f:ED):SD:=fun ρ=>(f ρ).bind fun x=>match x with
 |(.list ys,true)=>pg i (fun xs=>if xs.length+ys.length<=sizeLine then some (xs++ys) else none) ρ
 |_=>none
noncomputable def xV (i:Nat)(k f:ED):SD:=fun ρ=>(f ρ).bind fun x=>(k ρ).bind fun y=>(rN y.1).bind fun j=>pg i (fun xs=>(nq xs.length j).map fun p=>xs.set p x.1) ρ
noncomputable def d7 (g:GD)(b:SD):List D->SD
 |[],ρ=>some (.next ρ)
 | d::ds,ρ=>(g d ρ).bind fun ρ1=>(b ρ1).bind fun fl=>match fl with
  |.next ρ'=>d7 g b ds ρ'
  |.cont ρ'=>d7 g b ds ρ'
  |.brk ρ'=>some (.next ρ')
  |.ret r=>some (.ret r)
noncomputable def fg (it:AD)(g:GD)(b:SD):SD:=fun ρ=>(it ρ).bind fun ds=>d7 g b ds ρ
noncomputable def eZ (c:TD)(b:SD):Nat->SD
 |0,_=>none
 | n+1,ρ=>(c ρ).bind fun t=>if t=true then (b ρ).bind fun fl=>match fl with
  |.next ρ'=>eZ c b n ρ'
  |.cont ρ'=>eZ c b n ρ'
  |.brk ρ'=>some (.next ρ')
  |.ret r=>some (.ret r) else some (.next ρ)
theorem gY {c:TD}{b:SD}:∀{n:Nat}{ρ:Sl}{fl:Fl},eZ c b n ρ=some fl->∀k,eZ c b (n+k) ρ=some fl
 |0,_,_,h,_=>by cases h
 | n+1,ρ,fl,h,k=>by
  rw[show n+1+k=(n+k)+1 by omega];unfold eZ at h ⊢;cases hc:c ρ with
  |none=>rw[hc] at h;cases h
  |some t =>
   rw[hc,aa] at h;rw[aa];cases t with
   |false=>exact h
   |true =>
    rw[if_pos rfl] at h ⊢;cases hb:b ρ with
    |none=>rw[hb] at h;cases h
    |some x =>
     rw[hb,aa] at h;rw[aa];cases x with
     |next ρ'=>exact gY h k
     |cont ρ'=>exact gY h k
     |brk ρ'=>exact h
     |ret r=>exact h
open Classical in
noncomputable def lA (c:TD)(b:SD):SD:=fun ρ=>if h:∃n,(eZ c b n ρ).isSome=true then eZ c b h.choose ρ else none
theorem uL {c:TD}{b:SD}{n:Nat}{ρ:Sl}{fl:Fl}(h:eZ c b n ρ=some fl):lA c b ρ=some fl:=by
 unfold lA;have hx:∃n,(eZ c b n ρ).isSome=true:=⟨n,by rw[h];rfl⟩;rw[dif_pos hx];obtain⟨fl',h'⟩:=CJ.mp hx.choose_spec;rw[h'];have e1:=gY h hx.choose;have e2:=gY h' n;rw[Nat.add_comm] at e1;rw[e1] at e2;exact e2.symm
theorem qD {c:TD}{b:SD}{ρ:Sl}{fl:Fl}(h:lA c b ρ=some fl):∃n,eZ c b n ρ=some fl:=by
 unfold lA at h;split at h
 ·exact⟨_,h⟩
 ·cases h
noncomputable def eK:Fl->Option Vl
 |.next _=>some (.none,false)
 |.ret r=>some r
 |_=>none
noncomputable def jZ (n m:Nat)(b:SD):FD:=fun ds=>if ds.length=n then (b (ds.map (fun d=>some (d,false))++bD m none)).bind eK else none
end DL
namespace DL
open PySem PySem.Spec PySem.SeqAt
noncomputable abbrev PD:=Sl->Option (Option Int)
noncomputable def i5:PD:=fun _=>some none
noncomputable def i4 (f:ED):PD:=fun ρ=>(f ρ).bind fun x=>(rN x.1).map some
noncomputable def nC (n d:Nat):Option Int->Nat
 |none=>d
 |some v=>if v<0 then (v+(n:Int)).toNat else min v.toNat n
noncomputable def nK (xs:List D)(lo hi:Option Int):List D:=(xs.drop (nC xs.length 0 lo)).take (nC xs.length xs.length hi-nC xs.length 0 lo)
noncomputable def nJ (x:D)(lo hi:Option Int):Option Vl:=match x with
 |.tuple xs=>some (.tuple (nK xs lo hi),false)
 |.list xs=>some (.list (nK xs lo hi),true)
 |_=>none
noncomputable def nr (f:BD)(lo hi:PD):ED:=fun ρ=>(f ρ).bind fun x=>(lo ρ).bind fun l=>(hi ρ).bind fun h=>nJ x l h
noncomputable def A6 (p:Int×Int):D:=.tuple [.int p.1,.int p.2]
noncomputable def ya:D->Option (Int×Int)
 |.tuple [.int a,.int b]=>some (a,b)
 |_=>none
noncomputable def jH:List D->Option (List (Int×Int))
 |[]=>some []
 |d::ds=>(ya d).bind fun p=>(jH ds).map fun ps=>p::ps
noncomputable def vQ (p q:Int×Int):Bool:=decide (p.1<q.1\/(p.1=q.1/\p.2<=q.2))
noncomputable def iK (ps:List (Int×Int)):List (Int×Int):=ps.mergeSort vQ
noncomputable def qu (ds:List D):Option Vl:=(jH ds).bind fun ps=>if ps.length<64 then some (.list ((iK ps).map A6),true) else none
noncomputable def i6:D->Option Vl
 |.tuple ds=>qu ds
 |.list ds=>qu ds
 |_=>none
mutual
noncomputable def fE:D->Bool
 |.none=>true
 |.bool _=>true
 |.int _=>true
 |.str _=>true
 |.tuple ds=>dZ ds
 |.list _=>false
 |.dict _=>false
noncomputable def dZ:List D->Bool
 |[]=>true
 |d::ds=>fE d&&dZ ds
end
noncomputable def tL:Vl->Bool
 |(d,false)=>fE d
 |(.list ds,true)=>dZ ds
 |_=>false
noncomputable def rT:Option Vl->Option Vl
 |some (d,false)=>some (d,false)
 |some (.list xs,true)=>some (.list xs,false)
 |some (.dict [(.list xs,.none)],true)=>some (.list xs,false)
 |some (.dict [(.list xs,.bool true)],true)=>some (.list xs,false)
 |some (.dict [(.dict kvs,.bool true)],true)=>some (.dict kvs,false)
 |_=>none
noncomputable def unown (ρ:Sl):Sl:=ρ.map rT
noncomputable def nI (f:ED):ED:=fun ρ=>(f (unown ρ)).bind fun r=>if tL r=true then some r else none
noncomputable def xP (t:TD):TD:=fun ρ=>t (unown ρ)
noncomputable def su:O2
 |.list xs,.list ys=>if xs.length+ys.length<=sizeLine then some (.list (xs++ys),true) else none
 |_,_=>none
noncomputable def wV:D->Bool
 |.list xs=>dZ xs
 |_=>false
noncomputable def pK (ρ:Sl):Bool:=ρ.all fun s=>match s with
 |some (.dict [(_,.bool true)],true)=>false
 |_=>true
noncomputable def jG (i:Nat)(f:ED):SD:=fun ρ=>(f ρ).bind fun x=>match x with
 |(.list ds,true)=>if (ds.all wV&&pK ρ)=true then some (.next (ρ.set i (some (cQ ds,true)))) else none
 |_=>none
noncomputable def undeep (i:Nat)(ρ:Sl):Sl:=match ρ[i]? with
 |some (some (.dict [(.list xs,.bool true)],true))=>ρ.set i (some (.list xs,true))
 |_=>ρ
noncomputable def l6 (i:Nat)(F:SD):SD:=fun ρ=>F (undeep i ρ)
noncomputable def rB (n:Int):Vl:=(.dict [(.int n,.int 7)],true)
noncomputable def kg:Vl->Option Int
 |(.dict [(.int n,.int 7)],true)=>some n
 |_=>none
noncomputable def lB (t:AD)(n:Int):SD:=fun ρ=>(t ρ).bind fun ds=>if ds.length<=100 then some (.ret (rB n)) else none
noncomputable def xU (F:FD)(t:AD)(r':Vl):SD:=fun ρ=>(t ρ).bind fun ds=>(F ds).bind fun r=>match kg r with
 |some _=>some (.ret r')
 |none=>some (.ret r)
mutual
noncomputable def Cw:D->D->Option Bool
 |.int i,.int j=>some (decide (j<=i))
 |.tuple xs,.tuple ys=>Ca xs ys
 |_,_=>none
noncomputable def Ca:List D->List D->Option Bool
 |[],[]=>some true
 |[],_::_=>some false
 |_::_,[]=>some true
 |x::xs,y::ys=>if same x y=true then Ca xs ys else Cw x y
end
noncomputable def gU (i:Nat)(ρ:Sl):Option (List D):=match ρ[i]? with
 |some (some (.dict [(.list ds,.bool true)],true))=>some ds
 |_=>none
noncomputable def Bd:Option D->Option (List D)
 |some (.list xs)=>some xs
 |_=>none
noncomputable def jO (ds:List D)(ke:ED)(ρ:Sl):Option (Nat×List D):=(ke (unown ρ)).bind fun y=>(rN y.1).bind fun j=>(nq ds.length j).bind fun q=>(Bd ds[q]?).map fun xs=>(q,xs)
noncomputable def yi:Vl->Option (List D)
 |(.list xs,true)=>some xs
 |_=>none
noncomputable def uW:Vl->Option D
 |(d,false)=>if fE d=true then some d else none
 |_=>none
noncomputable def lC (i:Nat)(f:ED):SD:=fun ρ=>(gU i ρ).bind fun ds=>(nI f ρ).bind fun r=>(yi r).bind fun xs=>if ds.length<sizeLine then some (.next (ρ.set i (some (cQ (ds++[.list xs]),true)))) else none
noncomputable def pw (i:Nat)(ke v:ED):SD:=fun ρ=>(gU i ρ).bind fun ds=>(jO ds ke ρ).bind fun q=>(v (unown ρ)).bind fun r=>(uW r).bind fun d=>if q.2.length<sizeLine then some (.next (ρ.set i (some (cQ (ds.set q.1 (.list (q.2++[d]))),true)))) else none
end DL
set_option autoImplicit false
namespace DL
open PySem PySem.Spec PySem.SeqAt
open L2 (V Hp HO cP)
mutual
inductive Kb:Nat->D->Prop where
 |int (n:Nat) (i:Int):Kb n (.int i)
 |tuple {n:Nat}{ds:List D}:uo n ds->Kb (n+1) (.tuple ds)
inductive uo:Nat->List D->Prop where
 |nil {n:Nat}:uo n []
 |cons {n:Nat}{d:D}{ds:List D}:Kb n d->uo n ds->uo n (d::ds)
end
mutual
noncomputable def zo:D->Int
 |.int i=>hashInt i
 |.tuple ds=>reduceHash (Builtin.Tuple.tupleHashOf (w4 ds))
 |_=>0
noncomputable def w4:List D->List Int
 |[]=>[]
 |d::ds=>zo d::w4 ds
end
noncomputable def BW (x:D×Addr×Value):DictEntry:=⟨zo x.1,.ref x.2.1,x.2.2⟩
noncomputable abbrev En:=D×V×V
def B6 (p:En)(q:D×Addr×Value):Prop:=p.1=q.1/\p.2.1=.ref q.2.1/\cP p.2.2 q.2.2
def Bq (a:Addr)(o:Obj)(es:List En)(h:Heap):Prop:=es.length<=sizeLine/\(a==sysModules)=false/\h.get? a=some o/\∃xs:List (D×Addr×Value),PySem.Paired B6 es xs ∧
 ∃ds ep,o.ExactDict/\o.data=.dict ds ep/\ds.toList=xs.map BW/\(xs.map (·.1)).Nodup
noncomputable abbrev Es:=Obj×List En
noncomputable def BX (a:Addr)(es:Es):HO:=.ext (Bq a es.1 es.2)
noncomputable def oW:(List V ⊕ (Heap->Prop))->HO
 |.inl vs=>.lst vs
 |.inr φ=>.ext φ
end DL
namespace DL
open PySem PySem.Spec PySem.SeqAt
open L2 (V Hp St HO VK TE TT TA TS TI TG Cx Inv PE PT PA PS PSs PI PG dN dU cI cZ cA cq cg cH cP EP TP AP SP di It)
noncomputable abbrev Fg:=PySem.W.Frag
noncomputable def vN (K:Fg)(H:Hp)(O:List Addr)(a:Addr)(vs:List V):Prop :=
 (H a=some (.lst vs)/\a∉O)\/(∃o,H a=some (.frz o (.lst vs))) ∨
  ∃(o:Obj) (its:Array Value) (n:Nat),K.lookup a=some o/\o.cls=.type "list" ∧ o.dict=none/\o.data=.seq its n/\its.size<=sizeLine/\cH vs its.toList
theorem vN.sq {K:Fg}{H:Hp}{O:List Addr}{a:Addr}{vs:List V}(h:vN K H O a vs):dU K H a vs:=by
 rcases h with h|h|h
 ·exact .inl (.inl h.1)
 ·exact .inl (.inr h)
 ·exact .inr h
mutual
inductive R (K:Fg)(H:Hp)(O:List Addr):D->V->Prop where
 |none:R K H O .none .non
 |bool (b:Bool):R K H O (.bool b) (.bl b)
 |int (i:Int):R K H O (.int i) (.int i)
 |str (x:Str):R K H O (.str x) (.str x)
 |tuple {a:Addr}{ds:List D}{vs:List V}:dN K H a vs->Rs K H O ds vs->R K H O (.tuple ds) (.ref a)
 |list {a:Addr}{ds:List D}{vs:List V}:vN K H O a vs->Rs K H O ds vs->R K H O (.list ds) (.ref a)
 |dict {a:Addr}{kvs:List (D×D)}{es:Es}:H a=some (BX a es)->a∉O->Rd K H O kvs es.2->R K H O (.dict kvs) (.ref a)
inductive Rs (K:Fg)(H:Hp)(O:List Addr):List D->List V->Prop where
 |nil:Rs K H O [] []
 |cons {d:D}{v:V}{ds:List D}{vs:List V}:R K H O d v->Rs K H O ds vs->Rs K H O (d::ds) (v::vs)
inductive Rd (K:Fg)(H:Hp)(O:List Addr):List (D×D)->List En->Prop where
 |nil:Rd K H O [] []
 |cons {k d:D}{u v:V}{kvs:List (D×D)}{es:List En}:R K H O k u->R K H O d v->Rd K H O kvs es->Rd K H O ((k,d)::kvs) ((k,u,v)::es)
end
structure gL (M O:List Addr)(H:Hp)(O':List Addr)(H':Hp):Prop where
 tup:∀b xs,H b=some (.tup xs)->H' b=some (.tup xs)
 frz:∀b o u,H b=some (.frz o u)->H' b=some (.frz o u)
 lst:∀b xs,b∉M->H b=some (.lst xs)->H' b=some (.lst xs)
 ext:∀b φ,b∉M->H b=some (.ext φ)->H' b=some (.ext φ)
 new:∀b∈O',b∈O\/H b=none
 sub:∀b∈M,b∈O
theorem gL.same {O:List Addr}{H H':Hp}(s:cI H H'):gL [] O H O H':=⟨fun b _ e=>s b _ e,fun b _ _ e=>s b _ e,fun b _ _ e=>s b _ e,fun b _ _ e=>s b _ e,fun _ h=>.inl h,(fun _ h=>nomatch h)⟩
theorem gL.less {O O':List Addr}{H:Hp}(s:∀b∈O',b∈O):gL [] O H O' H:=⟨fun _ _ e=>e,fun _ _ _ e=>e,fun _ _ _ e=>e,fun _ _ _ e=>e,fun b h=>.inl (s b h),(fun _ h=>nomatch h)⟩
theorem gL.fresh {O:List Addr}{H H':Hp}{p:Addr}(s:cI H H')(hp:H p=none):gL [] O H (p::O) H':=⟨fun b _ e=>s b _ e,fun b _ _ e=>s b _ e,fun b _ _ e=>s b _ e,fun b _ _ e=>s b _ e,fun b hb=>(aw.mp hb).elim (fun z=>.inr (z▸hp)) .inl,(fun _ h=>nomatch h)⟩
theorem dN.ext {K:Fg}{M O O':List Addr}{H H':Hp}{a:Addr}{vs:List V}(e:gL M O H O' H')(h:dN K H a vs):dN K H' a vs:=by
 rcases h with (h|⟨o,h⟩)|h
 ·exact .inl (.inl (e.tup _ _ h))
 ·exact .inl (.inr ⟨o,e.frz _ _ _ h⟩)
 ·exact .inr h
theorem vN.ext {K:Fg}{M O O':List Addr}{H H':Hp}{a:Addr}{vs:List V}(e:gL M O H O' H')(h:vN K H O a vs):vN K H' O' a vs:=by
 rcases h with ⟨h,n⟩|⟨o,h⟩|h
 ·refine .inl ⟨e.lst _ _ (fun z=>n (e.sub _ z)) h,fun z=>?_⟩;rcases e.new _ z with q|q
  ·exact n q
  ·rw[q] at h;cases h
 ·exact .inr (.inl ⟨o,e.frz _ _ _ h⟩)
 ·exact .inr (.inr h)
mutual
theorem R.ext {K:Fg}{M O O':List Addr}{H H':Hp}{d:D}{v:V}(e:gL M O H O' H'):R K H O d v->R K H' O' d v
 |.none=>.none
 |.bool b=>.bool b
 |.int i=>.int i
 |.str x=>.str x
 |.tuple h r=>.tuple (dN.ext e h) (Rs.ext e r)
 |.list h r=>.list (h.ext e) (Rs.ext e r)
 |.dict h n r=>.dict (e.ext _ _ (fun z=>n (e.sub _ z)) h) (fun z=>(e.new _ z).elim n fun q=>by rw[q] at h;cases h) (Rd.ext e r)
theorem Rs.ext {K:Fg}{M O O':List Addr}{H H':Hp}{ds:List D}{vs:List V}(e:gL M O H O' H'):Rs K H O ds vs->Rs K H' O' ds vs
 |.nil=>.nil
 |.cons h r=>.cons (R.ext e h) (Rs.ext e r)
theorem Rd.ext {K:Fg}{M O O':List Addr}{H H':Hp}{kvs:List (D×D)}{es:List En}(e:gL M O H O' H'):Rd K H O kvs es->Rd K H' O' kvs es
 |.nil=>.nil
 |.cons h g r=>.cons (R.ext e h) (R.ext e g) (Rd.ext e r)
end
section
variable {K:Fg}{H H':Hp}{O:List Addr}
theorem Rd.length:∀{kvs:List (D×D)}{es:List En},Rd K H O kvs es->kvs.length=es.length:=by
 intro ds;induction ds with
 |nil=>intro vs h; cases h; rfl
 |cons d ds ih=>
  intro vs h;cases h with
  |cons _ _ r=>rw [aj,aj,ih r]
theorem Rd.same {kvs:List (D×D)}{es:List En}(s:cI H H')(h:Rd K H O kvs es):Rd K H' O kvs es:=h.ext (.same s)
theorem Rs.length:∀{ds:List D}{vs:List V},Rs K H O ds vs->ds.length=vs.length:=by
 intro ds;induction ds with
 |nil=>intro vs h; cases h; rfl
 |cons d ds ih=>
  intro vs h;cases h with
  |cons _ r=>rw [aj,aj,ih r]
theorem Rs.get:∀{ds:List D}{vs:List V}{i:Nat}{d:D},Rs K H O ds vs->ds[i]?=some d->∃v,vs[i]?=some v/\R K H O d v
 |_,_,_,_,.nil,e=>by simp at e
 |_,_,0,_,.cons h _,e=>by simp at e;subst e;exact⟨_,rfl,h⟩
 |_,_,i+1,_,.cons _ r,e=>by simpa using Rs.get r (by simpa using e)
theorem Rs.append:∀{ds es:List D}{vs us:List V},Rs K H O ds vs->Rs K H O es us->Rs K H O (ds++es) (vs++us):=by
 intro ds;induction ds with
 |nil=>intro es vs us h s; cases h; exact s
 |cons d ds ih=>
  intro es vs us h s;cases h with
  |cons q r=>exact .cons q (ih r s)
theorem Rs.take:∀{ds:List D}{vs:List V} (n:Nat),Rs K H O ds vs->Rs K H O (ds.take n) (vs.take n)
 |_,_,0,_=>.nil
 |_,_,_+1,.nil=>.nil
 |_,_,n+1,.cons h r=>.cons h (Rs.take n r)
theorem Rs.drop:∀{ds:List D}{vs:List V} (n:Nat),Rs K H O ds vs->Rs K H O (ds.drop n) (vs.drop n)
 |_,_,0,r=>r
 |_,_,_+1,.nil=>.nil
 |_,_,n+1,.cons _ r=>Rs.drop n r
theorem Rs.set {d:D}{v:V}(h:R K H O d v):∀{ds:List D}{vs:List V} (n:Nat),Rs K H O ds vs->Rs K H O (ds.set n d) (vs.set n v)
 |_,_,_,.nil=>.nil
 |_,_,0,.cons _ r=>.cons h r
 |_,_,n+1,.cons q r=>.cons q (Rs.set h n r)
theorem R.same {d:D}{v:V}(s:cI H H')(h:R K H O d v):R K H' O d v:=h.ext (.same s)
theorem Rs.same {ds:List D}{vs:List V}(s:cI H H')(h:Rs K H O ds vs):Rs K H' O ds vs:=h.ext (.same s)
end
inductive Dp (K:Fg)(H:Hp)(O M:List Addr):List D->List Addr->Prop where
 |nil:Dp K H O M [] []
 |cons {xs:List D}{vs:List V}{b:Addr}{ds:List D}{bs:List Addr}:H b=some (.lst vs)->b∈M->Rs K H O xs vs->Dp K H O M ds bs->Dp K H O M (.list xs::ds) (b::bs)
theorem Dp.go {K:Fg}{H H':Hp}{Mx O O' M M':List Addr}{ds:List D}{bs:List Addr}(x:gL Mx O H O' H')(h:Dp K H O M ds bs)(k:∀b∈bs,b∈M->b∈M'/\∀vs,H b=some (.lst vs)->H' b=some (.lst vs)):Dp K H' O' M' ds bs:=by
 induction h with
 |nil=>exact .nil
 |cons h1 h2 h3 _ ih=>exact .cons ((k _ aC h2).2 _ h1) (k _ aC h2).1 (h3.ext x) (ih fun b hb=>k b (ao _ hb))
theorem Dp.mem {K:Fg}{H:Hp}{O M:List Addr}{ds:List D}{bs:List Addr}(h:Dp K H O M ds bs):∀b∈bs,b∈M:=by
 induction h with
 |nil=>exact fun b hb=>nomatch hb
 |cons _ h2 _ _ ih=>exact fun b hb=>(aw.mp hb).elim (fun z=>z▸h2) (ih b)
def xG (K:Fg)(H:Hp)(O M:List Addr)(ρ:Sl)(σ:St)(i:Nat)(ds:List D):Prop:=∃a bs,σ[i]?=some (some (.ref a))/\H a=some (.lst (bs.map V.ref))/\a∈M/\(a::bs).Nodup/\Dp K H O M ds bs/\∀(j:Nat) (es:List D) (c:Addr),ρ[j]?=some (some (.list es,true))->σ[j]?=some (some (.ref c))->c∉a::bs
def zx (K:Fg)(H:Hp)(O M:List Addr)(ρ:Sl)(σ:St)(i:Nat)(kvs:List (D×D)):Prop:=∃a es,σ[i]?=some (some (.ref a))/\H a=some (BX a es)/\a∈M/\Rd K H O kvs es.2/\∀(j:Nat) (es:List D) (c:Addr),ρ[j]?=some (some (.list es,true))->σ[j]?=some (some (.ref c))->c≠a
def BZ (K:Fg)(H:Hp)(O M:List Addr)(ρ:Sl)(σ:St)(i:Nat)(c:D):Prop:=(∃ds,c=.list ds/\xG K H O M ρ σ i ds)\/∃kvs,c=.dict kvs/\zx K H O M ρ σ i kvs
structure iI (K:Fg)(H:Hp)(O M:List Addr)(ρ:Sl)(σ:St):Prop where
 pk:∀(i:Nat) (c:D),ρ[i]?=some (some (r8 c,true))->BZ K H O M ρ σ i c
 one:∀(i j:Nat) (c e:D),ρ[i]?=some (some (r8 c,true))->ρ[j]?=some (some (r8 e,true))->i=j
theorem iI.at_ {K:Fg}{H:Hp}{O M:List Addr}{ρ:Sl}{σ:St}(h:iI K H O M ρ σ)(i:Nat)(ds:List D)(e:ρ[i]?=some (some (cQ ds,true))):xG K H O M ρ σ i ds:=by
 rcases h.pk i (.list ds) e with ⟨_,z,q⟩|⟨_,z,_⟩
 ·cases z;exact q
 ·cases z
theorem iI.dc {K:Fg}{H:Hp}{O M:List Addr}{ρ:Sl}{σ:St}(h:iI K H O M ρ σ)(i:Nat)(kvs:List (D×D))(e:ρ[i]?=some (some (r8 (.dict kvs),true))):zx K H O M ρ σ i kvs:=by
 rcases h.pk i (.dict kvs) e with ⟨_,z,q⟩|⟨_,z,q⟩
 ·cases z
 ·cases z;exact q
theorem iI.none_ {K:Fg}{H:Hp}{O M:List Addr}{ρ:Sl}{σ:St}(h:∀(i:Nat) (x:Vl),ρ[i]?=some (some x)->x.2=false):iI K H O M ρ σ:=⟨fun i ds e=>absurd (h i _ e) (by simp),fun i j ds es e=>absurd (h i _ e) (by simp)⟩
theorem iI.go {K:Fg}{H H':Hp}{Mx O O' M M':List Addr}{ρ ρ':Sl}{σ σ':St}(h:iI K H O M ρ σ)(x:gL Mx O H O' H')(hd:∀(i:Nat) (c:D),ρ'[i]?=some (some (r8 c,true))->ρ[i]?=some (some (r8 c,true))/\σ'[i]?=σ[i]?)
  (hm:∀b∈M,(∀(j:Nat) (es:List D),ρ[j]?=some (some (.list es,true))->σ[j]?≠some (some (.ref b)))->b∈M'/\∀u,H b=some (oW u)->H' b=some (oW u))
  (ho:∀(j:Nat) (es:List D) (c:Addr),ρ'[j]?=some (some (.list es,true))->σ'[j]?=some (some (.ref c))->c∉M\/∃(j':Nat) (es':List D),ρ[j']?=some (some (PyData.list es',true))/\σ[j']?=some (some (V.ref c))):iI K H' O' M' ρ' σ' where
 one:=fun i j ds es e1 e2=>h.one i j ds es (hd i ds e1).1 (hd j es e2).1
 pk:=fun i c e=>by
  obtain⟨e1,e2⟩:=hd i c e;rcases h.pk i c e1 with ⟨ds,rfl,q⟩|⟨kvs,rfl,q⟩
  ·refine .inl ⟨ds,rfl,?_⟩;obtain⟨a,bs,h1,h2,h3,h4,h5,h6⟩:=q;have inM:∀b∈a::bs,b∈M:=fun b hb=>(aw.mp hb).elim (fun z=>z▸h3) (h5.mem b);have good:∀b∈a::bs,b∈M'/\∀vs,H b=some (.lst vs)->H' b=some (.lst vs):=fun b hb =>
    let g:=hm b (inM b hb) fun j es e z=>h6 j es b e z hb
    ⟨g.1,fun vs e=>g.2 (.inl vs) e⟩
   refine⟨a,bs,e2.trans h1,(good a aC).2 _ h2,(good a aC).1,h4,h5.go x fun b hb _=>good b (ao _ hb),fun j es c z1 z2 z3=>?_⟩;rcases ho j es c z1 z2 with z|⟨j',es',z4,z5⟩
   ·exact z (inM c z3)
   ·exact h6 j' es' c z4 z5 z3
  ·refine .inr ⟨kvs,rfl,?_⟩;obtain⟨a,es,h1,h2,h3,h5,h6⟩:=q;obtain⟨g1,g2⟩:=hm a h3 fun j es e z=>h6 j es a e z rfl;refine⟨a,es,e2.trans h1,g2 (.inr _) h2,g1,h5.ext x,fun j es c z1 z2 z3=>?_⟩;rcases ho j es c z1 z2 with z|⟨j',es',z4,z5⟩
   ·exact z (z3▸h3)
   ·exact h6 j' es' c z4 z5 z3
structure ER (K:Fg)(H:Hp)(O M:List Addr)(lad:Nat->Addr)(ρ:Sl)(σ:St):Prop where
 sh:∀(i:Nat) (d:D),ρ[i]?=some (some (d,false))->∃v,σ[i]?=some (some v)/\R K H O d v
 ow:∀(i:Nat) (ds:List D),ρ[i]?=some (some (.list ds,true))->∃a vs,σ[i]?=some (some (.ref a))/\H a=some (.lst vs)/\a∈M/\Rs K H O ds vs
 le:∀(i:Nat) (ds:List D),ρ[i]?=some (some (mQ ds,true))->σ[i]?=some (some (.ref (lad i)))/\∃vs,H (lad i)=some (.lst vs)/\lad i∈O/\lad i∉M/\Rs K H O ds vs
 ap:∀(i j:Nat) (ds es:List D) (a:Addr),ρ[i]?=some (some (.list ds,true))->ρ[j]?=some (some (.list es,true))->σ[i]?=some (some (.ref a))->σ[j]?=some (some (.ref a))->i=j
 tr:∀a∈O,∃u,H a=some (oW u)
 sub:∀a∈M,a∈O
 len:ρ.length=σ.length
 dp:iI K H O M ρ σ
noncomputable def lV (K:Fg)(H:Hp)(O:List Addr)(H':Hp)(r:Vl)(v:V):Prop :=
 (r.2=false/\R K H' O r.1 v)\/(r.2=true/\∃a ds vs,r.1=.list ds/\v=.ref a/\H a=none/\H' a=some (.lst vs)/\Rs K H' (a::O) ds vs)
noncomputable def BR (K:Fg)(H:Hp)(O:List Addr)(d:D)(v:V):Prop :=
 R K H O d v\/(∃a ds vs,d=.list ds/\v=.ref a/\H a=some (.lst vs)/\Rs K H O ds vs)\/∃a kvs es,d=.dict kvs/\v=.ref a/\H a=some (BX a es)/\Rd K H O kvs es.2
section
variable {K:Fg}{H H' H1 H2:Hp}{O M:List Addr}{lad:Nat->Addr}{ρ:Sl}{σ:St}{d:D}{v:V}{r:Vl}
theorem ER.same (s:cI H H')(h:ER K H O M lad ρ σ):ER K H' O M lad ρ σ where
 sh:=fun i d e=>let ⟨v,e1,q⟩:=h.sh i d e;⟨v,e1,q.same s⟩
 ow:=fun i d e=>let ⟨a,vs,e2,e3,e4,q⟩:=h.ow i d e;⟨a,vs,e2,s _ _ e3,e4,q.same s⟩
 le:=fun i d e=>let ⟨e2,vs,e3,e4,e5,q⟩:=h.le i d e;⟨e2,vs,s _ _ e3,e4,e5,q.same s⟩
 ap:=h.ap
 tr:=fun a ha=>let ⟨vs,e⟩:=h.tr a ha;⟨vs,s _ _ e⟩
 sub:=h.sub
 len:=h.len
 dp:=h.dp.go (.same s) (fun _ _ e=>⟨e,rfl⟩) (fun b hb _=>⟨hb,fun vs e=>s _ _ e⟩) fun j es c e1 e2=>.inr ⟨j,es,e1,e2⟩
theorem ER.ne (h:ER K H O M lad ρ σ):∀a∈O,H a≠none:=fun a ha e=>by
 obtain⟨vs,q⟩:=h.tr a ha;rw[e] at q;cases q
theorem R.bb (h:R K H O d v):BR K H O d v:=.inl h
theorem BR.same (s:cI H H')(h:BR K H O d v):BR K H' O d v:=by
 rcases h with h|⟨a,ds,vs,e1,e2,e3,q⟩|⟨a,kvs,es,e1,e2,e3,q⟩
 ·exact .inl (h.same s)
 ·exact .inr (.inl ⟨a,ds,vs,e1,e2,s _ _ e3,q.same s⟩)
 ·exact .inr (.inr ⟨a,kvs,es,e1,e2,s _ _ e3,q.same s⟩)
theorem lV.toR (tr:∀a∈O,H a≠none)(h:lV K H O H' r v):R K H' O r.1 v:=by
 rcases h with ⟨_,h⟩|⟨_,a,ds,vs,e1,e2,e3,e4,q⟩
 ·exact h
 ·rw[e1,e2];exact .list (.inl ⟨e4,fun z=>tr a z e3⟩) (q.ext (.less fun b hb=>ao _ hb))
theorem lV.of (h:R K H' O d v):lV K H O H' (d,false) v:=.inl ⟨rfl,h⟩
theorem lV.back (s:cI H H1)(h:lV K H1 O H' r v):lV K H O H' r v:=by
 rcases h with h|⟨e,a,ds,vs,e1,e2,e3,e4,q⟩
 ·exact .inl h
 ·exact .inr ⟨e,a,ds,vs,e1,e2,s.free e3,e4,q⟩
end
noncomputable def uE (K:Fg)(f:ED):TE:=fun σ H Q=>∃ρ O M lad r,ER K H O M lad ρ σ/\f ρ=some r/\∀v H',cI H H'->lV K H O H' r v->Q v H'
noncomputable def uB (K:Fg)(f:BD):TE:=fun σ H Q=>∃ρ O M lad d,ER K H O M lad ρ σ/\f ρ=some d/\∀v H',cI H H'->BR K H' O d v->Q v H'
noncomputable def uT (K:Fg)(f:TD):TT:=fun σ H Q=>∃ρ O M lad b,ER K H O M lad ρ σ/\f ρ=some b/\∀H',cI H H'->Q b H'
noncomputable def uA (K:Fg)(f:AD):TA:=fun σ H Q=>∃ρ O M lad ds,ER K H O M lad ρ σ/\f ρ=some ds/\∀vs H',cI H H'->Rs K H' O ds vs->Q vs H'
def DE (X:Cx)(e:Expr)(f:ED):Prop:=PE X e (uE X.K f)
def DB (X:Cx)(e:Expr)(f:BD):Prop:=PE X e (uB X.K f)
def DT (X:Cx)(e:Expr)(f:TD):Prop:=PT X e (uT X.K f)
def DA (X:Cx)(es:List Expr)(f:AD):Prop:=PA X es (uA X.K f)
theorem _root_.L2.PE.imp {X:Cx}{e:Expr}{t t':TE}(h:PE X e t)(i:∀σ H Q,t' σ H Q->t σ H Q):PE X e t':=fun pins s σ H Q I q=>h pins s σ H Q I (i σ H Q q)
theorem _root_.L2.PT.imp {X:Cx}{e:Expr}{t t':TT}(h:PT X e t)(i:∀σ H Q,t' σ H Q->t σ H Q):PT X e t':=fun pins s σ H Q I q=>h pins s σ H Q I (i σ H Q q)
theorem _root_.L2.PA.imp {X:Cx}{e:List Expr}{t t':TA}(h:PA X e t)(i:∀σ H Q,t' σ H Q->t σ H Q):PA X e t':=fun pos pins s σ H Q I q=>h pos pins s σ H Q I (i σ H Q q)
theorem _root_.L2.PS.imp {X:Cx}{e:Stmt}{t t':TS}(h:PS X e t)(i:∀D σ H,t' D σ H->t D σ H):PS X e t':=fun pins s σ H D I q=>h pins s σ H D I (i D σ H q)
theorem _root_.L2.PSs.imp {X:Cx}{e:List Stmt}{t t':TS}(h:PSs X e t)(i:∀D σ H,t' D σ H->t D σ H):PSs X e t':=fun pins s σ H D I q=>h pins s σ H D I (i D σ H q)
section
variable {X:Cx}{e a b c:Expr}{es:List Expr}{f g:ED}{fb gb hb:BD}{t u:TD}{pos:Pos}
theorem DE.bb (h:DE X e f):DB X e (ck f):=h.imp fun σ H Q zz=>by
 obtain ⟨ρ,O,M,lad,d,hE,hf,k⟩:=zz;unfold ck at hf;cases hr:f ρ with
 |none=>rw[hr] at hf;cases hf
 |some r =>
  rw[hr,ag] at hf;cases hf;exact⟨ρ,O,M,lad,r,hE,hr,fun v H' s q=>k v H' s (q.toR hE.ne).bb⟩
theorem cj (i:Nat){x:Str}(hN:X.N[i]?=some x:=by rfl)(hv:L2.Vis X.env.scope x:=by first|exact Or.inl rfl|exact Or.inr (Or.inl rfl)|exact Or.inr (Or.inr rfl))(hd:(x==("__debug__" : Str))=false:=by decide)
  (hcd:(x==("__classdict__" : Str))=false:=by decide):DB X (.Name x pos) (cc i):=(L2.pe_var hN hv hd hcd).imp fun σ H Q zz=>by
 obtain ⟨ρ,O,M,lad,d,hE,hf,k⟩:=zz;unfold cc at hf;split at hf
 ·rename_i d' hr;cases hf;obtain⟨v,e1,q⟩:=hE.sh i _ hr;exact⟨v,e1,k v H (.refl H) q.bb⟩
 ·rename_i ds hr;cases hf;obtain⟨a,vs,e2,e3,e4,q⟩:=hE.ow i _ hr;exact⟨_,e2,k _ H (.refl H) (.inr (.inl ⟨a,ds,vs,rfl,rfl,e3,q⟩))⟩
 ·rename_i kvs hr;cases hf;obtain⟨a,es,e2,e3,e4,q,_⟩:=hE.dp.dc i kvs hr;exact⟨_,e2,k _ H (.refl H) (.inr (.inr ⟨a,kvs,es,rfl,rfl,e3,q⟩))⟩
 ·cases hf
theorem cJ (i:Nat){x:Str}(hN:X.N[i]?=some x:=by rfl)(hv:L2.Vis X.env.scope x:=by first|exact Or.inl rfl|exact Or.inr (Or.inl rfl)|exact Or.inr (Or.inr rfl))(hd:(x==("__debug__" : Str))=false:=by decide)
  (hcd:(x==("__classdict__" : Str))=false:=by decide):DE X (.Name x pos) (cF i):=(L2.pe_var hN hv hd hcd).imp fun σ H Q zz=>by
 obtain ⟨ρ,O,M,lad,d,hE,hf,k⟩:=zz;unfold cF at hf;split at hf
 ·rename_i d' hr;cases hf;obtain⟨v,e1,q⟩:=hE.sh i _ hr;exact⟨v,e1,k v H (.refl H) (.of q)⟩
 ·cases hf
theorem vo {d:D}{v:V}(h:PE X e (L2.tC v))(r:∀(H:Hp) (O:List Addr),R X.K H O d v):DE X e (dC d):=h.imp fun σ H Q zz=>by
 obtain ⟨ρ,O,M,lad,r',hE,hf,k⟩:=zz;cases hf;exact k v H (.refl H) (.of (r H O))
theorem cx {i j}:DE X (.Constant (.int i) j pos) (dC (.int i)):=vo L2.pe_int fun _ _=>.int _
theorem kj {i j}:DE X (.Constant (.bool i) j pos) (dC (.bool i)):=vo L2.pe_bl fun _ _=>.bool _
theorem pY {j}:DE X (.Constant .none j pos) (dC .none):=vo L2.pe_non fun _ _=>.none
theorem dP {i j}:DE X (.Constant (.str i) j pos) (dC (.str i)):=vo L2.pe_str fun _ _=>.str _
theorem yO {x:Str}{i:Int}{tk:Tok}(hg:L2.Gl X x)(hm:X.mg x=some (.int i tk))(hd:(x==("__debug__" : Str))=false:=by decide):DE X (.Name x pos) (dC (.int i)):=vo (L2.pe_glob (v:=.int i) hg hm ⟨tk,rfl⟩ hd) fun _ _=>.int _
def OD (X:Cx)(r:L2.R2)(op:O2):Prop:=∀(x y:D) (vx vy:V) (H:Hp) (O:List Addr) (res:Vl) (Q:VK),(∀a∈O,H a≠none)->BR X.K H O x vx->BR X.K H O y vy->op x y=some res →
 (∀v H',cI H H'->lV X.K H O H' res v->Q v H')->r vx vy H Q
theorem pZ {r:L2.R2}{op:O2}(hd:OD X r op){σ:St}{H:Hp}{Q:VK}(h:uE X.K (d2 op fb gb) σ H Q):L2.tOp r (uB X.K fb) (uB X.K gb) σ H Q:=by
 obtain⟨ρ,O,M,lad,res,hE,hf,k⟩:=h;unfold d2 at hf;cases hx:fb ρ with
 |none=>rw[hx] at hf;cases hf
 |some x =>
  rw[hx,aa] at hf;cases hy:gb ρ with
  |none=>rw[hy] at hf;cases hf
  |some y =>
   rw[hy,aa] at hf;refine⟨ρ,O,M,lad,x,hE,hx,fun vx H1 s1 q1=>⟨ρ,O,M,lad,y,hE.same s1,hy,fun vy H2 s2 q2=>?_⟩⟩;exact hd x y vx vy H2 O res Q ((hE.same s1).same s2).ne (q1.same s2) q2 hf fun v H' s q=>k v H' ((s1.trans s2).trans s) (q.back (s1.trans s2))
theorem cN {op:Operator}{r:L2.R2}{o:O2}(ho:L2.OpR X (binaryOp op) r)(hd:OD X r o)(ha:DB X a fb)(hb:DB X b gb):DE X (.BinOp a op b pos) (d2 o fb gb) :=
 (L2.pe_op ho ha hb).imp fun _ _ _ h=>pZ hd h
def UD (X:Cx)(r:V->Hp->VK->Prop)(op:D->Option Vl):Prop:=∀(x:D) (vx:V) (H:Hp) (O:List Addr) (res:Vl) (Q:VK),(∀a∈O,H a≠none)->BR X.K H O x vx->op x=some res →
 (∀v H',cI H H'->lV X.K H O H' res v->Q v H')->r vx H Q
theorem xv {r:V->Hp->VK->Prop}{op:D->Option Vl}(hd:UD X r op){σ:St}{H:Hp}{Q:VK}(h:uE X.K (d1 op fb) σ H Q):L2.tUn r (uB X.K fb) σ H Q:=by
 obtain⟨ρ,O,M,lad,res,hE,hf,k⟩:=h;unfold d1 at hf;cases hx:fb ρ with
 |none=>rw[hx] at hf;cases hf
 |some x =>
  rw[hx,aa] at hf;refine⟨ρ,O,M,lad,x,hE,hx,fun vx H1 s1 q1=>?_⟩;exact hd x vx H1 O res Q (hE.same s1).ne q1 hf fun v H' s q=>k v H' (s1.trans s) (q.back s1)
theorem tZ {op:UnaryOp}{r:V->Hp->VK->Prop}{o:D->Option Vl}(ho:L2.UnR X (unaryOp op) r)(hd:UD X r o)(ha:DB X a fb):DE X (.UnaryOp op a pos) (d1 o fb) :=
 (L2.pe_un ho ha).imp fun _ _ _ h=>xv hd h
theorem cK:DA X [] cG:=L2.pa_nil.imp fun σ H Q zz=>by
 obtain ⟨ρ,O,M,lad,ds,hE,hf,k⟩:=zz;cases hf;exact k [] H (.refl H) .nil
theorem cw {t:AD}(ha:DE X e f)(hr:DA X es t)(hs:starEach (e::es) X.env=(false,eval e X.env)::starEach es X.env:=by rfl):DA X (e::es) (cf f t):=(L2.pa_cons ha hr hs).imp fun σ H Q zz=>by
 obtain ⟨ρ,O,M,lad,ds,hE,hf,k⟩:=zz;unfold cf at hf;cases hx:f ρ with
 |none=>rw[hx] at hf;cases hf
 |some x =>
  rw[hx,aa] at hf;cases hy:t ρ with
  |none=>rw[hy] at hf;cases hf
  |some xs =>
   rw[hy,aa] at hf;cases hf;exact⟨ρ,O,M,lad,x,hE,hx,fun v H1 s1 q1=>⟨ρ,O,M,lad,xs,hE.same s1,hy,fun vs H2 s2 q2=>k _ H2 (s1.trans s2) (.cons ((q1.toR hE.ne).same s2) q2)⟩⟩
theorem kM {x1}{t:AD}(h:DA X es t):DE X (.Tuple es x1 pos) (gj t):=(L2.pe_tup h).imp fun σ H Q zz=>by
 obtain ⟨ρ,O,M,lad,r,hE,hf,k⟩:=zz;unfold gj at hf;cases hx:t ρ with
 |none=>rw[hx] at hf;cases hf
 |some xs =>
  rw[hx,aa] at hf;split at hf
  ·rename_i hz;cases hf;refine⟨ρ,O,M,lad,xs,hE,hx,fun vs H1 s1 q1=>⟨by rw[<-q1.length];exact hz,fun p hp=>?_⟩⟩;have s2:cI H1 (cZ H1 p (.tup vs)):=fun b o e=>by rw[cq (cg e hp)];exact e
   exact k _ _ (s1.trans s2) (.of (.tuple (.inl (.inl cA)) (q1.same s2)))
  ·cases hf
theorem gW {t:AD}(h:DA X es t):DE X (.List es pos) (eN t):=(L2.pe_lst h).imp fun σ H Q zz=>by
 obtain ⟨ρ,O,M,lad,r,hE,hf,k⟩:=zz;unfold eN at hf;cases hx:t ρ with
 |none=>rw[hx] at hf;cases hf
 |some xs =>
  rw[hx,aa] at hf;split at hf
  ·rename_i hz;cases hf;refine⟨ρ,O,M,lad,xs,hE,hx,fun vs H1 s1 q1=>⟨by rw[<-q1.length];exact hz,fun p hp=>?_⟩⟩;have s2:cI H1 (cZ H1 p (.lst vs)):=fun b o e=>by rw[cq (cg e hp)];exact e
   refine k _ _ (s1.trans s2) (.inr ⟨rfl,p,xs,vs,rfl,rfl,s1.free hp,cA,q1.ext (gL.fresh s2 hp)⟩)
  ·cases hf
noncomputable def spD (K:Fg)(F:FD):L2.Sp:=fun vs H Q _=>∃ds O r,Rs K H O ds vs/\(∀a∈O,∃u,H a=some (oW u))/\F ds=some r/\∀v H',cI H H'->lV K H O H' r v->Q v H'
theorem yQ {k:Nat}{fa:Addr}{fd:FuncData}{ps:List Str}{F:FD}{x:Str}{p:Pos}{t:AD}(G:L2.FnOk X.prog X.w X.K X.mg X.base L2.CX0 k fa fd ps (spD X.K F))(hr:L2.Room k X.A)(hg:L2.Gl X x)(hm:X.mg x=some (.ref fa))(hk:PySem.W.keepIn X.K (.ref fa)=true)
  (hb:L2.Binds X.K fd ps []) (ha:DA X (e::es) t) (hdb:(x==("__debug__" : Str))=false:=by decide) (he:starEach (e::es) X.env=(false,eval e X.env)::starEach es X.env:=by rfl) (hpl:(backTo pos (starEach es X.env)).any (·.1)=false:=by rfl) :
  DE X (.Call (.Name x p) (e::es) [] pos) (cE F t):=by
 refine (L2.pe_call G hr hg hm hk hb (.nil:cH [] []) L2.pass0 ha hdb he hpl).imp fun σ H Q zz=>?_;obtain ⟨ρ,O,M,lad,r,hE,hf,k⟩:=zz;unfold cE at hf;cases hx:t ρ with
 |none=>rw[hx] at hf;cases hf
 |some ds =>
  rw[hx,aa] at hf;refine⟨ρ,O,M,lad,ds,hE,hx,fun vs H1 s1 q1=>?_⟩;show spD X.K F (vs++[]) H1 Q L2.E0;rw[aT];exact⟨ds,O,r,q1,(hE.same s1).tr,hf,fun v H' s q=>k v H' (s1.trans s) (q.back s1)⟩
theorem rO {d:D}{c:Bool}(h:qi d=some c):d=.bool c:=by
 cases d <;> first|(cases h;rfl)|cases h
theorem lV.bool {K:Fg}{H H':Hp}{O:List Addr}{r:Vl}{v:V}{c:Bool}(h:lV K H O H' r v)(e:qi r.1=some c):v=.bl c:=by
 have e':=rO e;rcases h with ⟨_,h⟩|⟨_,a,ds,vs,e1,_⟩
 ·rw[e'] at h;cases h;rfl
 ·rw[e'] at e1;cases e1
theorem sS {op}(h:DE X a f):DE X (.BoolOp op [a] pos) f:=L2.pe_one h
theorem sU {dG:List Expr}(ha:DE X a f)(hb:DE X (.BoolOp .And (b::dG) pos) g):DE X (.BoolOp .And (a::b::dG) pos) (rG f g):=(L2.pe_and ha hb).imp fun σ H Q zz=>by
 obtain ⟨ρ,O,M,lad,r,hE,hf,k⟩:=zz;unfold rG at hf;cases hx:f ρ with
 |none=>rw[hx] at hf;cases hf
 |some x =>
  rw[hx,aa] at hf;cases hc:qi x.1 with
  |none=>rw[hc] at hf;cases hf
  |some c =>
   rw[hc,aa] at hf;refine⟨ρ,O,M,lad,x,hE,hx,fun v H1 s1 q1=>⟨c,q1.bool hc,?_⟩⟩;cases c with
   |true =>
    rw[if_pos rfl] at hf ⊢;exact⟨ρ,O,M,lad,r,hE.same s1,hf,fun v H' s q=>k v H' (s1.trans s) (q.back s1)⟩
   |false =>
    rw[if_neg Bool.false_ne_true] at hf ⊢;cases hf;exact k _ H1 s1 (.of (.bool _))
theorem Am (ha:DE X a f):DE X (.UnaryOp .Not a pos) (yR f):=(L2.pe_not ha).imp fun σ H Q zz=>by
 obtain ⟨ρ,O,M,lad,r,hE,hf,k⟩:=zz;unfold yR at hf;cases hx:f ρ with
 |none=>rw[hx] at hf;cases hf
 |some x =>
  rw[hx,aa] at hf;cases hc:qi x.1 with
  |none=>rw[hc] at hf;cases hf
  |some c =>
   rw[hc,aa] at hf;cases hf;exact⟨ρ,O,M,lad,x,hE,hx,fun v H1 s1 q1=>⟨c,q1.bool hc,k _ H1 s1 (.of (.bool _))⟩⟩
theorem jN (h:DE X e f)(he:∀whole,isTrue e X.env whole=(do let v <-whole;standAt e.pos;holding [v] (truthy v)):=by intro _;rfl):DT X e (lq f):=(L2.pt_val h he).imp fun σ H Q zz=>by
 obtain ⟨ρ,O,M,lad,c,hE,hf,k⟩:=zz;unfold lq at hf;cases hx:f ρ with
 |none=>rw[hx] at hf;cases hf
 |some x =>
  rw[hx,aa] at hf;exact⟨ρ,O,M,lad,x,hE,hx,fun v H1 s1 q1=>⟨c,q1.bool hf,k H1 s1⟩⟩
def DW (X:Cx)(e:Expr)(f:TD):Prop:=L2.PW X e (uT X.K f)
theorem _root_.L2.PW.imp {X:Cx}{e:Expr}{t t':TT}(h:L2.PW X e t)(i:∀σ H Q,t' σ H Q->t σ H Q):L2.PW X e t':=fun whole pins s σ H Q I q=>h whole pins s σ H Q I (i σ H Q q)
theorem ma (ha:DT X a t):DW X (.BoolOp .And [a] pos) t:=L2.pw_and1 ha
theorem lJ (ha:DT X a t):DW X (.BoolOp .Or [a] pos) t:=L2.pw_or1 ha
theorem DW.tt (h:DW X e t):DT X e t:=h _
theorem pW {dG:List Expr}(ha:DT X a t)(hb:DW X (.BoolOp .And (b::dG) pos) u):DW X (.BoolOp .And (a::b::dG) pos) (jy t u):=(L2.pw_and ha hb).imp fun σ H Q zz=>by
 obtain ⟨ρ,O,M,lad,r,hE,hf,k⟩:=zz;unfold jy at hf;cases hx:t ρ with
 |none=>rw[hx] at hf;cases hf
 |some c =>
  rw[hx,aa] at hf;refine⟨ρ,O,M,lad,c,hE,hx,fun H1 s1=>?_⟩;cases c with
  |true =>
   rw[if_pos rfl] at hf ⊢;exact⟨ρ,O,M,lad,r,hE.same s1,hf,fun H' s=>k H' (s1.trans s)⟩
  |false =>
   rw[if_neg Bool.false_ne_true] at hf ⊢;cases hf;exact k H1 s1
theorem ki {dG:List Expr}(ha:DT X a t)(hb:DW X (.BoolOp .Or (b::dG) pos) u):DW X (.BoolOp .Or (a::b::dG) pos) (iU t u):=(L2.pw_or ha hb).imp fun σ H Q zz=>by
 obtain ⟨ρ,O,M,lad,r,hE,hf,k⟩:=zz;unfold iU at hf;cases hx:t ρ with
 |none=>rw[hx] at hf;cases hf
 |some c =>
  rw[hx,aa] at hf;refine⟨ρ,O,M,lad,c,hE,hx,fun H1 s1=>?_⟩;cases c with
  |false =>
   rw[if_neg Bool.false_ne_true] at hf ⊢;exact⟨ρ,O,M,lad,r,hE.same s1,hf,fun H' s=>k H' (s1.trans s)⟩
  |true =>
   rw[if_pos rfl] at hf ⊢;cases hf;exact k H1 s1
theorem iD (ha:DT X a t):DT X (.UnaryOp .Not a pos) (eT t):=(L2.pt_not ha).imp fun σ H Q zz=>by
 obtain ⟨ρ,O,M,lad,r,hE,hf,k⟩:=zz;unfold eT at hf;cases hx:t ρ with
 |none=>rw[hx] at hf;cases hf
 |some c =>
  rw[hx,aa] at hf;cases hf;exact⟨ρ,O,M,lad,c,hE,hx,fun H1 s1=>k H1 s1⟩
def CD (X:Cx)(r:L2.R2)(op:C2):Prop:=∀(x y:D) (vx vy:V) (H:Hp) (O:List Addr) (c:Bool) (Q:VK),BR X.K H O x vx->BR X.K H O y vy->op x y=some c->Q (.bl c) H->r vx vy H Q
theorem xC {r:L2.R2}{op:C2}(hd:CD X r op){ρ:Sl}{O M:List Addr}{lad:Nat->Addr}{k:Bool}{σ:St}{H:Hp}{Q:VK}(hE:ER X.K H O M lad ρ σ)(hf:cL fb [(op,gb)] ρ=some k)(q:∀H',cI H H'->Q (.bl k) H'):L2.tOp r (uB X.K fb) (uB X.K gb) σ H Q:=by
 unfold cL tChain at hf;cases hx:fb ρ with
 |none=>rw[hx] at hf;cases hf
 |some x =>
  rw[hx,aa] at hf;cases hy:gb ρ with
  |none=>rw[hy] at hf;cases hf
  |some y =>
   rw[hy,aa] at hf;exact⟨ρ,O,M,lad,x,hE,hx,fun vx H1 s1 q1=>⟨ρ,O,M,lad,y,hE.same s1,hy,fun vy H2 s2 q2=>hd x y vx vy H2 O k Q (q1.same s2) q2 hf (q H2 (s1.trans s2))⟩⟩
theorem mX {ρ:Sl}{r:Vl}(h:fZ t ρ=some r):∃c,t ρ=some c/\r=(.bool c,false):=by
 unfold fZ at h;cases hx:t ρ with
 |none=>rw[hx] at h;cases h
 |some c=>rw[hx] at h;cases h;exact⟨c,rfl,rfl⟩
theorem ua {op:CmpOp}{r:L2.R2}{o:C2}(ho:L2.OpR X (compareOp op) r)(hd:CD X r o)(ha:DB X a fb)(hb:DB X b gb)(hm:behindInMarks op b=false:=by first|exact L2.nomark _|with_unfolding_all rfl):DE X (.Compare a [op] [b] pos) (fZ (cL fb [(o,gb)])) :=
 (L2.pe_cmpR ho ha hb hm).imp fun σ H Q zz=>by
  obtain ⟨ρ,O,M,lad,r,hE,hf,k⟩:=zz;obtain⟨c,hc,rfl⟩:=mX hf;exact xC hd hE hc fun H' s=>k _ H' s (.of (.bool _))
theorem dA {op:CmpOp}{r:L2.R2}{o:C2}(ho:L2.OpR X (compareOp op) r)(hd:CD X r o)(ha:DB X a fb)(hb:DB X b gb)(hm:behindInMarks op b=false:=by first|exact L2.nomark _|with_unfolding_all rfl):DT X (.Compare a [op] [b] pos) (cL fb [(o,gb)]) :=
 (L2.pt_cmpR ho ha hb hm).imp fun σ H Q ⟨ρ,O,M,lad,c,hE,hf,k⟩=>xC hd hE hf fun H' s=>⟨c,rfl,k H' s⟩
theorem xB {r r':L2.R2}{op op':C2}(hd:CD X r op)(hd':CD X r' op'){ρ:Sl}{O M:List Addr}{lad:Nat->Addr}{k:Bool}{σ:St}{H:Hp}{Q:VK}(hE:ER X.K H O M lad ρ σ)(hf:cL fb [(op,gb),(op',hb)] ρ=some k)(q:∀H',cI H H'->Q (.bl k) H') :
  L2.tChain r r' (uB X.K fb) (uB X.K gb) (uB X.K hb) σ H Q:=by
 unfold cL tChain at hf;cases hx:fb ρ with
 |none=>rw[hx] at hf;cases hf
 |some x =>
  rw[hx,aa] at hf;cases hy:gb ρ with
  |none=>rw[hy] at hf;cases hf
  |some y =>
   rw[hy,aa] at hf;cases hc:op x y with
   |none=>rw[hc] at hf;cases hf
   |some c =>
    rw[hc,aa] at hf;refine⟨ρ,O,M,lad,x,hE,hx,fun vx H1 s1 q1=>⟨ρ,O,M,lad,y,hE.same s1,hy,fun vy H2 s2 q2=>hd x y vx vy H2 O c _ (q1.same s2) q2 hc ⟨c,rfl,?_⟩⟩⟩;cases c with
    |false =>
     rw[if_neg Bool.false_ne_true] at hf ⊢;cases hf;exact q H2 (s1.trans s2)
    |true =>
     rw[if_pos rfl] at hf ⊢;unfold tChain at hf;cases hz:hb ρ with
     |none=>rw[hz] at hf;cases hf
     |some z =>
      rw[hz,aa] at hf;exact⟨ρ,O,M,lad,z,(hE.same s1).same s2,hz,fun vz H3 s3 q3=>hd' y z vy vz H3 O k Q (q2.same s3) q3 hf (q H3 ((s1.trans s2).trans s3))⟩
theorem zv {op op':CmpOp}{r r':L2.R2}{o o':C2}(ho:L2.OpR X (compareOp op) r)(hd:CD X r o)(ho':L2.OpR X (compareOp op') r')(hd':CD X r' o')(ha:DB X a fb)(hb':DB X b gb)(hc:DB X c hb)(hm:lastMarks [op,op'] [b,c]=false:=by with_unfolding_all rfl) :
  DE X (.Compare a [op,op'] [b,c] pos) (fZ (cL fb [(o,gb),(o',hb)])):=(L2.pe_chain ho ho' ha hb' hc hm).imp fun σ H Q zz=>by
 obtain ⟨ρ,O,M,lad,r,hE,hf,k⟩:=zz;obtain⟨c,hc,rfl⟩:=mX hf;exact xB hd hd' hE hc fun H' s=>k _ H' s (.of (.bool _))
theorem zt {op op':CmpOp}{r r':L2.R2}{o o':C2}(ho:L2.OpR X (compareOp op) r)(hd:CD X r o)(ho':L2.OpR X (compareOp op') r')(hd':CD X r' o')(ha:DB X a fb)(hb':DB X b gb)(hc:DB X c hb)(hm:lastMarks [op,op'] [b,c]=false:=by with_unfolding_all rfl) :
  DT X (.Compare a [op,op'] [b,c] pos) (cL fb [(o,gb),(o',hb)]):=(L2.pt_chain ho ho' ha hb' hc hm).imp fun σ H Q ⟨ρ,O,M,lad,c,hE,hf,k⟩=>xB hd hd' hE hf fun H' s=>⟨c,rfl,k H' s⟩
end
end DL
namespace DL
open PySem PySem.Spec PySem.SeqAt
open L2 (V Hp St HO VK TE TT TA TS TI TG Cx Inv PE PT PA PS PSs PI PG dN dU cI cZ cA cq cg cH cP EP TP AP SP di It)
structure fj (M:List Addr)(H:Hp)(M':List Addr)(H':Hp):Prop where
 keep:∀b o,b∉M->H b=some o->H' b=some o
 tup:∀b xs,H b=some (.tup xs)->H' b=some (.tup xs)
 frz:∀b o u,H b=some (.frz o u)->H' b=some (.frz o u)
 new:∀b∈M',b∈M\/H b=none
 there:∀b,H b≠none->H' b≠none
theorem fj.refl (M:List Addr)(H:Hp):fj M H M H:=⟨fun _ _ _ e=>e,fun _ _ e=>e,fun _ _ _ e=>e,fun _ h=>.inl h,fun _ h=>h⟩
theorem fj.same {M:List Addr}{H H':Hp}(s:cI H H'):fj M H M H':=⟨fun b o _ e=>s b o e,fun b _ e=>s b _ e,fun b _ _ e=>s b _ e,fun _ h=>.inl h,fun b h z=>by
 cases e:H b with
 |none=>exact h e
 |some o=>rw[s b o e] at z;cases z⟩
theorem fj.trans {M M1 M2:List Addr}{H H1 H2:Hp}(a:fj M H M1 H1)(b:fj M1 H1 M2 H2):fj M H M2 H2 where
 keep:=fun c o n e=>b.keep c o (fun z=>(a.new c z).elim n fun q=>by rw[q] at e;cases e) (a.keep c o n e)
 tup:=fun c xs e=>b.tup c xs (a.tup c xs e)
 frz:=fun c o u e=>b.frz c o u (a.frz c o u e)
 new:=fun c hc=>by
  rcases b.new c hc with z|z
  ·exact a.new c z
  ·refine .inr ?_;cases e:H c with
   |none=>rfl
   |some o=>exact absurd z (a.there c (by rw[e];simp))
 there:=fun c h=>b.there c (a.there c h)
theorem fj.ext {M M' B:List Addr}{H H':Hp}(a:fj M H M' H'):gL M (M++B) H (M'++B) H' where
 sub:=fun b hb=>aB _ hb
 tup:=a.tup
 frz:=a.frz
 lst:=fun b xs n e=>a.keep b _ n e
 ext:=fun b φ n e=>a.keep b _ n e
 new:=fun b hb=>(aG.mp hb).elim (fun z=>(a.new b z).elim (fun q=>.inl (aB _ q)) .inr) fun z=>.inl (av _ z)
def SR (K:Fg)(B:List Addr)(H₀:Hp)(M₀:List Addr)(lad:Nat->Addr)(ρ:Sl)(σ:St)(H:Hp):Prop:=∃M,fj M₀ H₀ M H/\(∀a∈M,a∉B)/\ER K H (M++B) M lad ρ σ
noncomputable def uk (K:Fg)(B:List Addr)(H₀:Hp)(M₀:List Addr)(H':Hp)(r:Vl)(v:V):Prop :=
 (∃M',fj M₀ H₀ M' H')/\((r.2=false/\R K H' B r.1 v)\/(r.2=true/\∃a ds vs,r.1=.list ds/\v=.ref a/\(a∈M₀\/H₀ a=none)/\H' a=some (.lst vs)/\Rs K H' (a::B) ds vs))
noncomputable def ur (K:Fg)(B:List Addr)(H₀:Hp)(M₀:List Addr)(lad:Nat->Addr)(E:di):Fl->Prop
 |.next ρ=>∀σ H,SR K B H₀ M₀ lad ρ σ H->E.nx σ H
 |.brk ρ=>∀σ H,SR K B H₀ M₀ lad ρ σ H->E.bk σ H
 |.cont ρ=>∀σ H,SR K B H₀ M₀ lad ρ σ H->E.ct σ H
 |.ret r=>∀v H,uk K B H₀ M₀ H r v->E.rt v H
noncomputable def uS (K:Fg)(B:List Addr)(H₀:Hp)(M₀:List Addr)(lad:Nat->Addr)(F:SD):TS:=fun E σ H=>∃ρ fl,SR K B H₀ M₀ lad ρ σ H/\F ρ=some fl/\ur K B H₀ M₀ lad E fl
def DS (X:Cx)(st:Stmt)(F:SD):Prop:=∀B H₀ M₀ lad,PS X st (uS X.K B H₀ M₀ lad F)
def uu (X:Cx)(st:List Stmt)(F:SD):Prop:=∀B H₀ M₀ lad,PSs X st (uS X.K B H₀ M₀ lad F)
theorem pM {a b:Addr}{M B:List Addr}(h:a∈(b::M)++B):a=b\/a∈M++B:=by
 rw[bV] at h;exact aw.mp h
theorem ER.set {K:Fg}{H H':Hp}{B M:List Addr}{lad:Nat->Addr}{ρ:Sl}{σ:St}{r:Vl}{v:V}(i:Nat)(h:ER K H (M++B) M lad ρ σ)(hB:∀a∈M,a∉B)(s:cI H H')(q:lV K H (M++B) H' r v) :
  ∃M',fj M H M' H'/\(∀a∈M',a∉B)/\ER K H' (M'++B) M' lad (ρ.set i (some r)) (σ.set i (some v)):=by
 have h':=h.same s;by_cases hi:i<ρ.length
 ·have hi':i<σ.length:=by rw[<-h.len];exact hi
  obtain⟨d,o⟩:=r;rcases q with ⟨e,q⟩|⟨e,a,ds,vs,e1,e2,e3,e4,q⟩
  ·cases e;have out:∀{j:Nat}{x:Vl},x.2=true->(ρ.set i (some (d,false)))[j]?=some (some x)->i≠j:=fun {j x} hx ej z=>by subst z;rw[aq hi] at ej;cases ej;cases hx
   refine⟨M,.same s,hB,⟨fun j d' ej=>?_,fun j d' ej=>?_,fun j d' ej=>?_,fun j k d' e' a e1 e2 e3 e4=>?_,h'.tr,h'.sub,by rw[aP,aP];exact h.len,h'.dp.go (.same (.refl _)) (fun j es ej=>?_) (fun b hb _=>⟨hb,fun _ e=>e⟩) fun j es c ej ec=>.inr ?_⟩⟩
   ·by_cases hj:i=j
    ·subst hj;rw[aq hi] at ej;cases ej;exact⟨v,aq hi',q⟩
    ·rw[ae hj] at ej ⊢;exact h'.sh j d' ej
   ·have hj:=out rfl ej;rw[ae hj] at ej ⊢;exact h'.ow j d' ej
   ·have hj:=out rfl ej;rw[ae hj] at ej ⊢;exact h'.le j d' ej
   ·have nj:=out rfl e1;have nk:=out rfl e2;rw[ae nj] at e1 e3;rw[ae nk] at e2 e4;exact h'.ap j k d' e' a e1 e2 e3 e4
   ·have nj:=out rfl ej;rw[ae nj] at ej;exact⟨ej,ae nj⟩
   ·have nj:=out rfl ej;rw[ae nj] at ej ec;exact⟨j,es,ej,ec⟩
  ·cases e;have e1':d=.list ds:=e1;subst e1' e2;have x:gL [] (M++B) H ((a::M)++B) H':=gL.fresh s e3;have notIn:∀b,b∈M++B->b≠a:=fun b hb z=>h.ne b hb (z▸e3);refine⟨a::M,⟨fun b o _ e=>s b o e,fun b _ e=>s b _ e,fun b _ _ e=>s b _ e,fun b hb=>(aw.mp hb).elim (fun z=>.inr (z▸e3)) .inl,(fj.same (M:=M) s).there⟩,fun b hb=>(aw.mp hb).elim (fun z hbB=>h.ne a (av _ (z▸hbB)) e3) (hB b),
    ⟨fun j d' ej=>?_,fun j d' ej=>?_,fun j d' ej=>?_,fun j k d' e' b e1 e2 e3' e4'=>?_,fun b hb=>?_,fun b hb=>?_,by rw[aP,aP];exact h.len,h.dp.go x (fun j es ej=>?_) (fun b hb _=>⟨ao _ hb,fun _ e=>s _ _ e⟩) fun j es c ej ec=>?_⟩⟩
   ·by_cases hj:i=j
    ·subst hj;rw[aq hi] at ej;cases ej
    ·rw[ae hj] at ej ⊢;obtain⟨w,e5,q5⟩:=h.sh j d' ej;exact⟨w,e5,q5.ext x⟩
   ·by_cases hj:i=j
    ·subst hj;rw[aq hi] at ej;cases ej;exact⟨a,vs,aq hi',e4,aC,q⟩
    ·rw[ae hj] at ej ⊢;obtain⟨b,us,e6,e7,e8,q5⟩:=h.ow j d' ej;exact⟨b,us,e6,s _ _ e7,ao _ e8,q5.ext x⟩
   ·have hj:i≠j:=fun z=>by subst z;rw[aq hi] at ej;cases ej
    rw[ae hj] at ej ⊢;obtain⟨e6,us,e7,e8,e9,q5⟩:=h.le j d' ej;exact⟨e6,us,s _ _ e7,ao _ e8,fun z=>(aw.mp z).elim (fun z=>notIn _ e8 z) e9,q5.ext x⟩
   ·by_cases hj:i=j
    ·subst hj;by_cases hk:i=k
     ·exact hk
     ·rw[aq hi'] at e3';cases e3';rw[ae hk] at e2 e4';obtain⟨b,us,e6,e7,e8,q5⟩:=h.ow k e' e2;rw[e4'] at e6;cases e6;exact absurd rfl (notIn _ (aB _ e8))
    ·by_cases hk:i=k
     ·subst hk;rw[aq hi'] at e4';cases e4';rw[ae hj] at e1 e3';obtain⟨b,us,e6,e7,e8,q5⟩:=h.ow j d' e1;rw[e3'] at e6;cases e6;exact absurd rfl (notIn _ (aB _ e8))
     ·rw[ae hj] at e1 e3';rw[ae hk] at e2 e4';exact h'.ap j k d' e' b e1 e2 e3' e4'
   ·rcases pM hb with z|z
    ·subst z;exact⟨.inl vs,e4⟩
    ·exact h'.tr b z
   ·rcases aw.mp hb with z|z
    ·subst z;exact aB _ aC
    ·exact aB _ (ao _ z)
   ·have nj:i≠j:=fun z=>by subst z;rw[aq hi] at ej;cases ej
    rw[ae nj] at ej;exact⟨ej,ae nj⟩
   ·by_cases hj:i=j
    ·subst hj;rw[aq hi'] at ec;cases ec;exact .inl fun z=>notIn _ (aB _ z) rfl
    ·rw[ae hj] at ej ec;exact .inr ⟨j,es,ej,ec⟩
 ·refine⟨M,.same s,hB,?_⟩;rw[bw ⋯,bw (by rw[<-h.len];omega)];exact h'
section
variable {X:Cx}{e a b c:Expr}{es:List Expr}{f g:ED}{fb gb hb:BD}{t u:TD}{pos:Pos}{st:Stmt}{dG sts:List Stmt}{F G:SD}
theorem c8:uu X [] dW:=fun B H₀ M₀ lad=>L2.pss_nil.imp fun E σ H zz=>by
 obtain ⟨ρ,fl,hR,hf,k⟩:=zz;cases hf;exact k σ H hR
theorem cB (h1:DS X st F)(h2:uu X dG G):uu X (st::dG) (cM F G):=fun B H₀ M₀ lad=>(L2.pss_cons (h1 B H₀ M₀ lad) (h2 B H₀ M₀ lad)).imp fun E σ H zz=>by
 obtain ⟨ρ,fl,hR,hf,k⟩:=zz;unfold cM at hf;cases hx:F ρ with
 |none=>rw[hx] at hf;cases hf
 |some fl1 =>
  rw[hx,aa] at hf;refine⟨ρ,fl1,hR,hx,?_⟩;cases fl1 with
  |next ρ'=>exact fun σ' H' r=>⟨ρ',fl,r,hf,k⟩
  |ret r=>cases hf;exact k
  |brk ρ'=>cases hf;exact k
  |cont ρ'=>cases hf;exact k
theorem cD (h1:DS X st F):uu X [st] F:=fun B H₀ M₀ lad=>L2.pss_one (h1 B H₀ M₀ lad)
theorem d5 (hc:DT X c t)(ha:uu X sts F)(hb:uu X dG G):DS X (.If c sts dG pos) (fW t F G):=fun B H₀ M₀ lad=>(L2.ps_if hc (ha B H₀ M₀ lad) (hb B H₀ M₀ lad)).imp fun E σ H zz=>by
 obtain ⟨ρ,fl,⟨M,hx,hB,hE⟩,hf,k⟩:=zz;unfold fW at hf;cases ht:t ρ with
 |none=>rw[ht] at hf;cases hf
 |some c =>
  rw[ht,aa] at hf;refine⟨ρ,_,M,lad,c,hE,ht,fun H1 s1=>?_⟩;have hR:SR X.K B H₀ M₀ lad ρ σ H1:=⟨M,hx.trans (.same s1),hB,hE.same s1⟩;cases c with
  |true=>dsimp only at hf ⊢;rw[if_pos rfl] at hf ⊢;exact⟨ρ,fl,hR,hf,k⟩
  |false=>dsimp only at hf ⊢;rw[if_neg Bool.false_ne_true] at hf ⊢;exact⟨ρ,fl,hR,hf,k⟩
theorem tD {i:Nat}{B:List Addr}{H₀:Hp}{M₀:List Addr}{lad:Nat->Addr}{E:di}{σ:St}{H:Hp}(h:uS X.K B H₀ M₀ lad (cO i f) E σ H):L2.tAsg (uE X.K f) (L2.gName i) E σ H:=by
 obtain⟨ρ,fl,⟨M,hx,hB,hE⟩,hf,k⟩:=h;unfold cO at hf;cases hr:f ρ with
 |none=>rw[hr] at hf;cases hf
 |some r =>
  rw[hr,aa] at hf;cases hf;refine⟨ρ,_,M,lad,r,hE,hr,fun v H1 s1 q1=>?_⟩;obtain⟨M',x',B',E'⟩:=hE.set i hB s1 q1;exact k _ _ ⟨M',hx.trans x',B',E'⟩
theorem cU {i:Nat}{x:Str}{pos':Pos}(hN:X.N.Nodup)(he:DE X e f)(hi:X.N[i]?=some x:=by rfl)(hx:L2.Loc X.env.scope x:=by first|exact Or.inl rfl|exact Or.inr rfl)(hs:swapsWith e (some (.Name x pos')) pos.line X.env=pure false:=by rfl)(hf:X.fn x=true\/X.env.scope.names.lookup x=some .local:=by first|exact .inl rfl|exact .inr rfl|assumption) :
  DS X (.Assign [.Name x pos'] e pos) (cO i f):=fun B H₀ M₀ lad=>(L2.ps_set hN hi hx he hs hf).imp fun E σ H h=>tD h
theorem cV (he:DE X e f):DS X (.Return (some e) pos) (dh f):=fun B H₀ M₀ lad=>(L2.ps_ret he).imp fun E σ H zz=>by
 obtain ⟨ρ,fl,⟨M,hx,hB,hE⟩,hf,k⟩:=zz;unfold dh at hf;cases hr:f ρ with
 |none=>rw[hr] at hf;cases hf
 |some r =>
  rw[hr,ag] at hf;cases hf;refine⟨ρ,_,M,lad,r,hE,hr,fun v H1 s1 q1=>k v H1 ⟨⟨M,hx.trans (.same s1)⟩,?_⟩⟩;rcases q1 with ⟨e,q⟩|⟨e,a,ds,vs,e1,e2,e3,e4,q⟩
  ·exact .inl ⟨e,q.ext (.less fun b hb=>av _ hb)⟩
  ·refine .inr ⟨e,a,ds,vs,e1,e2,.inr ?_,e4,q.ext (.less fun b hb=>(aw.mp hb).elim (fun z=>z▸aC) fun z=>ao _ (av _ z))⟩;cases e5:H₀ a with
   |none=>rfl
   |some o=>exact absurd e3 (hx.there a (by rw[e5];simp))
theorem ER.share {K:Fg}{H:Hp}{B M:List Addr}{lad:Nat->Addr}{ρ:Sl}{σ:St}(i:Nat)(h:ER K H (M++B) M lad ρ σ)(hB:∀a∈M,a∉B):∃M',(∀a∈M',a∈M)/\ER K H (M'++B) M' lad (share i ρ) σ:=by
 unfold DL.share;split
 ·rename_i ds hr;have hi:i<ρ.length:=(aE.mp hr).1;obtain⟨a,vs,e2,e3,e4,q⟩:=h.ow i _ hr;have sub:∀b∈M.filter (fun b=>decide (b≠a))++B,b∈M++B:=fun b hb=>(aG.mp hb).elim (fun z=>aB _ (aX.mp z).1) fun z=>av _ z;have out:∀{j:Nat}{x:Vl},x.2=true->(ρ.set i (some (.list ds,false)))[j]?=some (some x)->i≠j:=fun {j x} hx ej z=>by subst z;rw[aq hi] at ej;cases ej;cases hx
  refine⟨M.filter (fun b=>decide (b≠a)),fun b hb=>(aX.mp hb).1,⟨fun j d' ej=>?_,fun j d' ej=>?_,fun j d' ej=>?_,fun j k d' e' b e5 e6 e7 e8=>?_,fun b hb=>h.tr b (sub b hb),fun b hb=>aB _ hb,by rw[aP];exact h.len,h.dp.go (.less sub) (fun j es ej=>?_) (fun b hb nb=>⟨aX.mpr ⟨hb,decide_eq_true fun z=>nb i _ hr (by rw[z];exact e2)⟩,fun _ e=>e⟩) fun j es c ej ec=>.inr ?_⟩⟩
  ·by_cases hj:i=j
   ·subst hj;rw[aq hi] at ej;cases ej;refine⟨_,e2,.list (.inl ⟨e3,fun z=>?_⟩) (q.ext (.less sub))⟩;rcases aG.mp z with z|z
    ·exact absurd rfl (of_decide_eq_true (aX.mp z).2)
    ·exact hB a e4 z
   ·rw[ae hj] at ej;obtain⟨v,e5,q5⟩:=h.sh j d' ej;exact⟨v,e5,q5.ext (.less sub)⟩
  ·have hj:=out rfl ej;rw[ae hj] at ej;obtain⟨b,us,e6,e7,e8,q5⟩:=h.ow j d' ej;refine⟨b,us,e6,e7,aX.mpr ⟨e8,decide_eq_true fun z=>?_⟩,q5.ext (.less sub)⟩;subst z;exact hj (h.ap i j _ d' b hr ej e2 e6)
  ·have hj:=out rfl ej;rw[ae hj] at ej;obtain⟨e6,us,e7,e8,e9,q5⟩:=h.le j d' ej;refine⟨e6,us,e7,?_,fun z=>e9 (aX.mp z).1,q5.ext (.less sub)⟩;exact (aG.mp e8).elim (fun z=>absurd z e9) fun z=>av _ z
  ·have nj:=out rfl e5;have nk:=out rfl e6;rw[ae nj] at e5;rw[ae nk] at e6;exact h.ap j k d' e' b e5 e6 e7 e8
  ·have nj:=out rfl ej;rw[ae nj] at ej;exact⟨ej,rfl⟩
  ·have nj:=out rfl ej;rw[ae nj] at ej;exact⟨j,es,ej,ec⟩
 ·exact⟨M,fun _ h=>h,h⟩
theorem SR.share {K:Fg}{B:List Addr}{H₀:Hp}{M₀:List Addr}{lad:Nat->Addr}{ρ:Sl}{σ:St}{H:Hp}(i:Nat)(h:SR K B H₀ M₀ lad ρ σ H):SR K B H₀ M₀ lad (DL.share i ρ) σ H:=by
 obtain⟨M,hx,hB,hE⟩:=h;obtain⟨M',sub,E'⟩:=hE.share i hB;exact⟨M',⟨hx.keep,hx.tup,hx.frz,fun b hb=>hx.new b (sub b hb),hx.there⟩,fun a ha=>hB a (sub a ha),E'⟩
theorem kZ (i:Nat)(h:DS X st F):DS X st (jF i F):=fun B H₀ M₀ lad=>(h B H₀ M₀ lad).imp fun E σ H ⟨ρ,fl,hR,hf,k⟩=>⟨_,fl,hR.share i,hf,k⟩
theorem ER.mut {K:Fg}{H:Hp}{B M:List Addr}{lad:Nat->Addr}{ρ:Sl}{σ:St}{i:Nat}{ds ds':List D}{a:Addr}{vs':List V}(h:ER K H (M++B) M lad ρ σ)(hr:ρ[i]?=some (some (.list ds,true)))(hσ:σ[i]?=some (some (.ref a)))(q:Rs K H (M++B) ds' vs') :
  fj M H M (cZ H a (.lst vs'))/\ER K (cZ H a (.lst vs')) (M++B) M lad (ρ.set i (some (.list ds',true))) σ:=by
 obtain⟨a',us,e2,e3,e4,q0⟩:=h.ow i _ hr;rw[hσ] at e2;cases e2;have hi:i<ρ.length:=(aE.mp hr).1;have x:fj M H M (cZ H a (.lst vs')):=by
  refine⟨fun b o n e=>?_,fun b xs e=>?_,fun b o u e=>?_,fun b hb=>.inl hb,fun b hb=>?_⟩
  ·rw[cq (fun (z:b=a)=>n (by rw[z];exact e4))];exact e
  ·rw[cq (fun z=>by subst z;rw[e3] at e;cases e)];exact e
  ·rw[cq (fun z=>by subst z;rw[e3] at e;cases e)];exact e
  ·by_cases hz:b=a
   ·subst hz;rw[cA];simp
   ·rw[cq hz];exact hb
 have x':gL M (M++B) H (M++B) (cZ H a (.lst vs')):=x.ext;refine⟨x,⟨fun j d' ej=>?_,fun j d' ej=>?_,fun j d' ej=>?_,fun j k d' e' b e5 e6 e7 e8=>?_,fun b hb=>?_,h.sub,by rw[aP];exact h.len,h.dp.go x' (fun j es ej=>?_) (fun b hb nb=>⟨hb,fun _ e=>by rw[cq (fun (z:b=a)=>nb i _ hr (by rw[z];exact hσ))];exact e⟩) fun j es c ej ec=>.inr ?_⟩⟩
 ·have nj:i≠j:=fun z=>by subst z;rw[aq hi] at ej;cases ej
  rw[ae nj] at ej;obtain⟨v,e5,q5⟩:=h.sh j d' ej;exact⟨v,e5,q5.ext x'⟩
 ·by_cases hj:i=j
  ·subst hj;rw[aq hi] at ej;cases ej;exact⟨a,vs',hσ,cA,e4,q.ext x'⟩
  ·rw[ae hj] at ej;obtain⟨b,us',e6,e7,e8,q5⟩:=h.ow j d' ej;refine⟨b,us',e6,?_,e8,q5.ext x'⟩;rw[cq (fun (z:b=a)=>hj (h.ap i j _ d' b hr ej (by rw[z];exact hσ) e6))];exact e7
 ·have nj:i≠j:=fun z=>by subst z;rw[aq hi] at ej;cases ej
  rw[ae nj] at ej;obtain⟨e6,us',e7,e8,e9,q5⟩:=h.le j d' ej;refine⟨e6,us',?_,e8,e9,q5.ext x'⟩;rw[cq (fun (z:lad j=a)=>e9 (by rw[z];exact e4))];exact e7
 ·by_cases hj:i=j
  ·by_cases hk:i=k
   ·exact hj.symm.trans hk
   ·subst hj;rw[ae hk] at e6;exact h.ap i k _ e' b hr e6 e7 e8
  ·rw[ae hj] at e5;by_cases hk:i=k
   ·subst hk;exact h.ap j i d' _ b e5 hr e7 e8
   ·rw[ae hk] at e6;exact h.ap j k d' e' b e5 e6 e7 e8
 ·by_cases hz:b=a
  ·subst hz;exact⟨.inl vs',cA⟩
  ·rw[cq hz];exact h.tr b hb
 ·have nj:i≠j:=fun z=>by subst z;rw[aq hi] at ej;cases ej
  rw[ae nj] at ej;exact⟨ej,rfl⟩
 ·by_cases hj:i=j
  ·subst hj;exact⟨i,ds,hr,ec⟩
  ·rw[ae hj] at ej;exact⟨j,es,ej,ec⟩
theorem jX {i:Nat}{h:List D->Option (List D)}{ρ:Sl}{fl:Fl}(e:pg i h ρ=some fl):∃xs ys,ρ[i]?=some (some (.list xs,true))/\h xs=some ys/\fl=.next (ρ.set i (some (.list ys,true))):=by
 unfold pg at e;split at e
 ·rename_i xs hr;cases hy:h xs with
  |none=>rw[hy] at e;cases e
  |some ys =>
   rw[hy] at e;cases e;exact⟨xs,ys,hr,hy,rfl⟩
 ·cases e
theorem pX {i:Nat}{x:Str}{p1 p2 p3:Pos}(he:DE X e f)(hN:X.N[i]?=some x:=by rfl)(hv:L2.Vis X.env.scope x:=by first|exact Or.inl rfl|exact Or.inr (Or.inl rfl)|exact Or.inr (Or.inr rfl))(hd:(x==("__debug__" : Str))=false:=by decide)
  (hcd:(x==("__classdict__" : Str))=false:=by decide)
  (hs0:starEach [e] X.env=[(false,eval e X.env)]:=by rfl)
  (hbase:attributeBase (.Name x p1) "append" X.env (eval (.Name x p1) X.env)=eval (.Name x p1) X.env:=by rfl)
  (hfew:((backTo p3 (starEach [e] X.env)).all (fun x=>!x.1)&&(backToKw p3 (keywordEach [] X.env)).all (fun x=>x.1.isSome)&&decide ([e].length+([]:List Keyword).length+(if ([]:List Keyword).isEmpty then 0 else 1)<30))=true:=by rfl)
  (hline:(p2.endLine==p3.line)=true:=by rfl) (hs:starEach [e] X.env=(false,eval e X.env)::starEach [] X.env:=by rfl) (hplain:(backTo p3 (starEach [] X.env)).any (·.1)=false:=by rfl)
  (hsw:swapsWith (.Call (.Attribute (.Name x p1) "append" p2) [e] [] p3) none pos.line X.env=pure false:=by rfl) :
  DS X (.Expr (.Call (.Attribute (.Name x p1) "append" p2) [e] [] p3) pos) (nD i f):=fun B H₀ M₀ lad =>
 (L2.ps_expr (L2.pe_bm PySem.F.plainAttrs_list PySem.F.slot_list_append PySem.F.type_list_append L2.mt_append (L2.pe_var hN hv hd hcd) (cw he cK hs) hbase hfew hline hs hplain) hsw).imp fun E σ H zz=>by
  obtain ⟨ρ,fl,⟨M,hx,hB,hE⟩,hf,k⟩:=zz;unfold nD at hf;cases hr:f ρ with
  |none=>rw[hr] at hf;cases hf
  |some r =>
   rw[hr,aa] at hf;obtain⟨xs,ys,hi,hy,rfl⟩:=jX hf;split at hy
   ·rename_i hz;cases hy;obtain⟨a,vs,e2,e3,e4,q⟩:=hE.ow i _ hi;refine⟨_,e2,.inl ⟨rfl,vs,.inl (.inl e3)⟩,ρ,_,M,lad,[r.1],hE,by unfold cf;rw[hr];rfl,fun us H2 s2 q2=>?_⟩;cases q2 with
    |cons qy qn =>
     cases qn;have E2:=hE.same s2;have l:=q.length;refine⟨a,vs,_,rfl,rfl,s2 _ _ e3,by omega,?_⟩;obtain⟨x',E'⟩:=E2.mut hi e2 ((q.same s2).append (.cons qy .nil));exact k _ _ ⟨M,(hx.trans (.same s2)).trans x',hB,E'⟩
   ·cases hy
theorem Ak {i:Nat}{x:Str}{p1 p2 p3:Pos}(he:DE X e f)(hN:X.N[i]?=some x:=by rfl)(hv:L2.Vis X.env.scope x:=by first|exact Or.inl rfl|exact Or.inr (Or.inl rfl)|exact Or.inr (Or.inr rfl))(hd:(x==("__debug__" : Str))=false:=by decide)
  (hcd:(x==("__classdict__" : Str))=false:=by decide)
  (hbase:attributeBase (.Name x p1) "extend" X.env (eval (.Name x p1) X.env)=eval (.Name x p1) X.env:=by rfl)
  (hfew:((backTo p3 (starEach [e] X.env)).all (fun x=>!x.1)&&(backToKw p3 (keywordEach [] X.env)).all (fun x=>x.1.isSome)&&decide ([e].length+([]:List Keyword).length+(if ([]:List Keyword).isEmpty then 0 else 1)<30))=true:=by rfl)
  (hline:(p2.endLine==p3.line)=true:=by rfl) (hs:starEach [e] X.env=(false,eval e X.env)::starEach [] X.env:=by rfl) (hplain:(backTo p3 (starEach [] X.env)).any (·.1)=false:=by rfl)
  (hsw:swapsWith (.Call (.Attribute (.Name x p1) "extend" p2) [e] [] p3) none pos.line X.env=pure false:=by rfl) :
  DS X (.Expr (.Call (.Attribute (.Name x p1) "extend" p2) [e] [] p3) pos) (xW i f):=fun B H₀ M₀ lad =>
 (L2.ps_expr (L2.pe_bm PySem.F.plainAttrs_list PySem.F.slot_list_extend PySem.F.type_list_extend L2.mt_extend (L2.pe_var hN hv hd hcd) (L2.pa_cons he L2.pa_nil hs) hbase hfew hline hs hplain) hsw).imp fun E σ H zz=>by
  obtain ⟨ρ,fl,⟨M,hx,hB,hE⟩,hf,k⟩:=zz;unfold xW at hf;cases hr:f ρ with
  |none=>rw[hr] at hf;cases hf
  |some r =>
   rw[hr,aa] at hf;split at hf
   ·rename_i zs;obtain⟨xs,ys,hi,hy,rfl⟩:=jX hf;split at hy
    ·rename_i hz;cases hy;obtain⟨a,vs,e2,e3,e4,q⟩:=hE.ow i _ hi;refine⟨_,e2,.inl ⟨rfl,vs,.inl (.inl e3)⟩,ρ,_,M,lad,_,hE,hr,fun u H2 s2 q2=>?_⟩;rcases q2 with ⟨z,_⟩|⟨_,b,es',us,e5,e6,e7,e8,q3⟩
     ·cases z
     ·cases e5;have E2:=hE.same s2;have l:=q.length;have l3:=q3.length;refine⟨a,b,vs,us,rfl,by rw[e6],s2 _ _ e3,e8,by omega,?_⟩;obtain⟨x',E'⟩:=E2.mut hi e2 ((q.same s2).append (q3.ext (.less fun c hc=>ao _ hc)));exact k _ _ ⟨M,(hx.trans (.same s2)).trans x',hB,E'⟩
    ·cases hy
   ·cases hf
theorem Aj {i:Nat}{x:Str}{p1 p2:Pos}{kx:ED}{ke:Expr}(hk:DE X ke kx)(he:DE X e f)(hN:X.N[i]?=some x:=by rfl)(hv:L2.Vis X.env.scope x:=by first|exact Or.inl rfl|exact Or.inr (Or.inl rfl)|exact Or.inr (Or.inr rfl))(hd:(x==("__debug__" : Str))=false:=by decide)
  (hcd:(x==("__classdict__" : Str))=false:=by decide)
  (ha:∀v,assign (.Subscript (.Name x p1) ke p2) X.env v=(do
   let ov <-holding [v] (eval (.Name x p1) X.env)
   let iv <-holding [v,ov] (eval ke X.env)
   standAt p2
   holding [v,ov,iv] (setItem ov iv v)
   release [v,ov,iv] []):=by intro _;rfl)
  (hs:swapsWithSole [.Subscript (.Name x p1) ke p2] e pos.line X.env=pure false:=by rfl) (hw:swappedStores [.Subscript (.Name x p1) ke p2] e X.env=pure none:=by rfl)
  (h1:(assignEach [.Subscript (.Name x p1) ke p2] X.env).map (·.2)=[assign (.Subscript (.Name x p1) ke p2) X.env]:=by rfl) :
  DS X (.Assign [.Subscript (.Name x p1) ke p2] e pos) (xV i kx f):=fun B H₀ M₀ lad =>
 (L2.ps_asg he (L2.pg_sub (L2.pe_var hN hv hd hcd) hk L2.set_list ha) hs hw h1).imp fun E σ H zz=>by
  obtain ⟨ρ,fl,⟨M,hx,hB,hE⟩,hf,k⟩:=zz;unfold xV at hf;cases hr:f ρ with
  |none=>rw[hr] at hf;cases hf
  |some r =>
   rw[hr,aa] at hf;cases hy:kx ρ with
   |none=>rw[hy] at hf;cases hf
   |some y =>
    rw[hy,aa] at hf;cases hj:rN y.1 with
    |none=>rw[hj] at hf;cases hf
    |some j =>
     rw[hj,aa] at hf;obtain⟨xs,ys,hi,hp,rfl⟩:=jX hf;cases hq:nq xs.length j with
     |none=>rw[hq] at hp;cases hp
     |some p =>
      rw[hq,ag] at hp;cases hp;obtain⟨a,vs,e2,e3,e4,q⟩:=hE.ow i _ hi;refine⟨ρ,_,M,lad,r,hE,hr,fun v H1 s1 q1=>⟨_,e2,ρ,_,M,lad,y,hE.same s1,hy,fun u H2 s2 q2=>?_⟩⟩;have hint:y.1=.int j:=by
       cases hy1:y.1 <;> rw[hy1] at hj <;> first|(cases hj;rfl)|cases hj
      have hu:u=.int j:=by
       have:=q2.toR (hE.same s1).ne;rw[hint] at this;cases this;rfl
      have l:=q.length;have E2:=(hE.same s1).same s2;refine⟨a,vs,j,p,rfl,hu,s2 _ _ (s1 _ _ e3),by rw[<-l];exact hq,?_⟩;obtain⟨x',E'⟩:=E2.mut hi e2 (((q.same s1).same s2).set ((q1.toR hE.ne).same s2) p);exact k _ _ ⟨M,(hx.trans (.same (s1.trans s2))).trans x',hB,E'⟩
end
end DL
namespace DL
open PySem PySem.Spec PySem.SeqAt
open L2 (V Hp St HO VK TE TT TA TS TI TG Cx Inv PE PT PA PS PSs PI PG dN dU cI cZ cA cq cg cH cP EP TP AP SP di It)
theorem _root_.L2.PG.imp {X:Cx}{e:Expr}{t t':TG}(h:PG X e t)(i:∀v σ H Q,t' v σ H Q->t v σ H Q):PG X e t':=fun pins s σ H v u Q I r q=>h pins s σ H v u Q I r (i v σ H Q q)
theorem _root_.L2.PGs.imp {X:Cx}{e:List Expr}{t t':L2.TGs}(h:L2.PGs X e t)(i:∀v σ H Q,t' v σ H Q->t v σ H Q):L2.PGs X e t':=fun pins s σ H v u Q I r q=>h pins s σ H v u Q I r (i v σ H Q q)
theorem _root_.L2.PI.imp {X:Cx}{tg e:Expr}{t t':TI}(h:PI X tg e t)(i:∀σ H Q,t' σ H Q->t σ H Q):PI X tg e t':=fun pins s σ H R I q=>h pins s σ H R I (i σ H R q)
theorem _root_.L2.PTs.imp {X:Cx}{es:List Expr}{t t':TT}(h:L2.PTs X es t)(i:∀σ H Q,t' σ H Q->t σ H Q):L2.PTs X es t':=fun pins s σ H Q I q=>h pins s σ H Q I (i σ H Q q)
theorem ER.setS {K:Fg}{H:Hp}{O M:List Addr}{lad:Nat->Addr}{ρ:Sl}{σ:St}{d:D}{v:V}(i:Nat)(h:ER K H O M lad ρ σ)(q:R K H O d v):ER K H O M lad (ρ.set i (some (d,false))) (σ.set i (some v)):=by
 by_cases hi:i<ρ.length
 ·have hi':i<σ.length:=by rw[<-h.len];exact hi
  have out:∀{j:Nat}{x:Vl},x.2=true->(ρ.set i (some (d,false)))[j]?=some (some x)->i≠j:=fun {j x} hx ej z=>by subst z;rw[aq hi] at ej;cases ej;cases hx
  refine⟨fun j d' ej=>?_,fun j d' ej=>?_,fun j d' ej=>?_,fun j k d' e' a e1 e2 e3 e4=>?_,h.tr,h.sub,by rw[aP,aP];exact h.len,h.dp.go (.same (.refl _)) (fun j es ej=>?_) (fun b hb _=>⟨hb,fun _ e=>e⟩) fun j es c ej ec=>.inr ?_⟩
  ·by_cases hj:i=j
   ·subst hj;rw[aq hi] at ej;cases ej;exact⟨v,aq hi',q⟩
   ·rw[ae hj] at ej ⊢;exact h.sh j d' ej
  ·have hj:=out rfl ej;rw[ae hj] at ej ⊢;exact h.ow j d' ej
  ·have hj:=out rfl ej;rw[ae hj] at ej ⊢;exact h.le j d' ej
  ·have nj:=out rfl e1;have nk:=out rfl e2;rw[ae nj] at e1 e3;rw[ae nk] at e2 e4;exact h.ap j k d' e' a e1 e2 e3 e4
  ·have nj:=out rfl ej;rw[ae nj] at ej;exact⟨ej,ae nj⟩
  ·have nj:=out rfl ej;rw[ae nj] at ej ec;exact⟨j,es,ej,ec⟩
 ·rw[bw ⋯,bw (by rw[<-h.len];omega)];exact h
noncomputable def uG (K:Fg)(g:GD):TG:=fun v σ H Q=>∃ρ O M lad d ρ',ER K H O M lad ρ σ/\R K H O d v/\g d ρ=some ρ'/\∀σ' H',cI H H'->ER K H' O M lad ρ' σ'->Q σ' H'
noncomputable def Cn (K:Fg)(gs:List GD):L2.TGs:=fun vs σ H Q=>∃ρ O M lad ds ρ',ER K H O M lad ρ σ/\Rs K H O ds vs/\mS gs ds ρ=some ρ'/\∀σ' H',cI H H'->ER K H' O M lad ρ' σ'->Q σ' H'
def DG (X:Cx)(tg:Expr)(g:GD):Prop:=PG X tg (uG X.K g)
def BA (X:Cx)(ts:List Expr)(gs:List GD):Prop:=L2.PGs X ts (Cn X.K gs)
section
variable {X:Cx}{e a b c tg iter elt:Expr}{es:List Expr}{f g:ED}{t u:TD}{pos:Pos}{st:Stmt}{dG sts body:List Stmt}{F G:SD}{it:AD}{gd:GD}{gs:List GD}
theorem cT {i:Nat}{x:Str}(hN:X.N.Nodup)(hi:X.N[i]?=some x:=by rfl)(hx:L2.Loc X.env.scope x:=by first|exact Or.inl rfl|exact Or.inr rfl)(hf:X.fn x=true\/X.env.scope.names.lookup x=some .local:=by first|exact .inl rfl|exact .inr rfl|assumption):DG X (.Name x pos) (gN i) :=
 (L2.pg_name hN hi hx hf).imp fun v σ H Q zz=>by
  obtain ⟨ρ,O,M,lad,d,ρ',hE,q,hg,k⟩:=zz;cases hg;exact k _ _ (.refl H) (hE.setS i q)
theorem k9:BA X [] []:=L2.pgs_nil.imp fun vs σ H Q zz=>by
 obtain ⟨ρ,O,M,lad,ds,ρ',hE,q,hg,k⟩:=zz;cases q with
 |nil =>
  cases hg;exact⟨rfl,k _ _ (.refl H) hE⟩
 |cons _ _=>cases hg
theorem fh (h1:DG X e gd)(h2:BA X es gs)(hs:(assignEach (e::es) X.env).map (·.2)=assign e X.env::(assignEach es X.env).map (·.2):=by rfl):BA X (e::es) (gd::gs):=(L2.pgs_cons h1 h2 hs).imp fun vs σ H Q zz=>by
 obtain ⟨ρ,O,M,lad,ds,ρ',hE,q,hg,k⟩:=zz;cases q with
 |nil=>cases hg
 |@cons d v ds vs q qs =>
  unfold mS at hg;cases hx:gd d ρ with
  |none=>rw[hx] at hg;cases hg
  |some ρ1 =>
   rw[hx,aa] at hg;exact⟨v,vs,rfl,ρ,O,M,lad,d,ρ1,hE,q,hx,fun σ1 H1 s1 E1=>⟨ρ1,O,M,lad,ds,ρ',E1,qs.same s1,hg,fun σ2 H2 s2 E2=>k σ2 H2 (s1.trans s2) E2⟩⟩
theorem rh:∀{gs:List GD}{ds:List D}{ρ ρ':Sl},mS gs ds ρ=some ρ'->ds.length=gs.length
 |[],[],_,_,_=>rfl
 |[],_::_,_,_,h=>by cases h
 |_::_,[],_,_,h=>by cases h
 | g::gs,d::ds,ρ,ρ',h=>by
  unfold mS at h;cases hx:g d ρ with
  |none=>rw[hx] at h;cases h
  |some ρ1 =>
   rw[hx,aa] at h;rw[aj,aj,rh h]
theorem mU {k:Nat}(hc:X.calm=true)(h:BA X es gs)(hn:(assignEach es X.env).length=gs.length:=by rfl)(hst:(assignEach es X.env).findIdx? (·.1)=none:=by rfl):DG X (.Tuple es k pos) (gT gs):=(L2.pg_tup hc h hn hst).imp fun v σ H Q zz=>by
 obtain ⟨ρ,O,M,lad,d,ρ',hE,q,hg,k⟩:=zz;unfold gT at hg;split at hg
 ·rename_i ds;cases q with
  |tuple ha qs=>exact⟨_,_,rfl,ha,by rw[<-qs.length];exact rh hg,ρ,O,M,lad,ds,ρ',hE,qs,hg,k⟩
 ·cases hg
def kQ (K:Fg)(J:It)(ds:List D)(M O:List Addr)(H':Hp):Prop:=∀(O'':List Addr) (H'':Hp),gL M O H' O'' H'' →
 (∀(i:Nat) (d:D),ds[i]?=some d->J.go i H''/\∀x H3,J.yld i H'' x H3->cI H'' H3/\R K H3 O'' d x)/\J.stop ds.length H''
noncomputable def uI (K:Fg)(it:AD):TI:=fun σ H Q=>∃ρ O M lad ds,ER K H O M lad ρ σ/\it ρ=some ds/\∀J H',cI H H'->kQ K J ds M O H'->Q J H'
def DI (X:Cx)(tg e:Expr)(it:AD):Prop:=PI X tg e (uI X.K it)
def CA (kd:Bool)(K:Fg)(H:Hp)(a:Addr)(xs:List V):Prop:=if kd=true then dU K H a xs else dN K H a xs
def QR (K:Fg)(M O:List Addr)(H:Hp)(ds:List D)(v:V)(kd:Bool):Prop:=∃a vs,v=.ref a/\Rs K H O ds vs/\∀O' H',gL M O H O' H'->CA kd K H' a vs
noncomputable def uQ (K:Fg)(f:AD):TE:=fun σ H Q=>∃ρ O M lad ds,ER K H O M lad ρ σ/\f ρ=some ds/\∀v H' kd,cI H H'->QR K M O H' ds v kd->Q v H'
theorem gL.id (M O:List Addr)(H:Hp)(h:∀b∈M,b∈O):gL M O H O H:=⟨fun _ _ e=>e,fun _ _ _ e=>e,fun _ _ _ e=>e,fun _ _ _ e=>e,fun _ h=>.inl h,h⟩
theorem R.qr {K:Fg}{H:Hp}{M O:List Addr}{d:D}{v:V}{ds:List D}(q:R K H O d v)(h:eV d=some ds):∃kd,QR K M O H ds v kd:=by
 cases q with
 |tuple ha qs =>
  cases h;exact⟨false,_,_,rfl,qs,fun _ _ x=>dN.ext x ha⟩
 |list ha qs =>
  cases h;exact⟨true,_,_,rfl,qs,fun _ _ x=>(ha.ext x).sq⟩
 |_=>cases h
def DQ (X:Cx)(e:Expr)(f:AD):Prop:=PE X e (uQ X.K f)
theorem ju (h:DE X e f):DQ X e (iy f):=h.imp fun σ H Q zz=>by
 obtain ⟨ρ,O,M,lad,ds,hE,hf,k⟩:=zz;unfold iy at hf;cases hr:f ρ with
 |none=>rw[hr] at hf;cases hf
 |some r =>
  rw[hr,aa] at hf;refine⟨ρ,O,M,lad,r,hE,hr,fun v H1 s1 q1=>?_⟩;obtain⟨kd,q⟩:=(q1.toR hE.ne).qr (M:=M) hf;exact k v H1 kd s1 q
theorem gS (i:Nat){x:Str}(hN:X.N[i]?=some x:=by rfl)(hv:L2.Vis X.env.scope x:=by first|exact Or.inl rfl|exact Or.inr (Or.inl rfl)|exact Or.inr (Or.inr rfl))(hd:(x==("__debug__" : Str))=false:=by decide)
  (hcd:(x==("__classdict__" : Str))=false:=by decide):DQ X (.Name x pos) (eU i):=(L2.pe_var hN hv hd hcd).imp fun σ H Q zz=>by
 obtain ⟨ρ,O,M,lad,ds,hE,hf,k⟩:=zz;unfold eU at hf;split at hf
 ·rename_i xs hr;cases hf;obtain⟨v,e1,q⟩:=hE.sh i _ hr;obtain⟨kd,q⟩:=q.qr (M:=M) rfl;exact⟨v,e1,k v H kd (.refl H) q⟩
 ·rename_i xs hr;cases hf;obtain⟨v,e1,q⟩:=hE.sh i _ hr;obtain⟨kd,q⟩:=q.qr (M:=M) rfl;exact⟨v,e1,k v H kd (.refl H) q⟩
 ·rename_i xs hr;cases hf;obtain⟨e6,us,e7,e8,e9,q5⟩:=hE.le i _ hr;exact⟨_,e6,k _ H true (.refl H) ⟨_,us,rfl,q5,fun O' H' x=>.inl (.inl (x.lst _ _ e9 e7))⟩⟩
 ·cases hf
theorem u6 {K:Fg}{H:Hp}{M O:List Addr}{a:Addr}{ds:List D}{vs:List V}(h:∀O' H',gL M O H O' H'->dU K H' a vs)(q:Rs K H O ds vs):kQ K (L2.Itl K a) ds M O H:=by
 intro O2 H2 x;have h2:=h _ _ x;have q2:=q.ext x;refine⟨fun i d e=>?_,vs,h2,by rw[q.length];exact az _⟩;obtain⟨v,ev,rv⟩:=q2.get e;refine⟨⟨vs,v,h2,ev⟩,fun y H3 ⟨e3,hy⟩=>?_⟩;subst e3;have:=hy vs h2;rw[ev] at this;cases this;exact⟨.refl _,rv⟩
theorem u4 {K:Fg}{H:Hp}{M O:List Addr}{a:Addr}{ds:List D}{vs:List V}(h:∀O' H',gL M O H O' H'->dN K H' a vs)(q:Rs K H O ds vs):kQ K (L2.Itt K a) ds M O H:=by
 intro O2 H2 x;have h2:=h _ _ x;have q2:=q.ext x;refine⟨fun i d e=>?_,vs,h2,by rw[q.length];exact az _⟩;obtain⟨v,ev,rv⟩:=q2.get e;refine⟨⟨vs,v,h2,ev⟩,fun y H3 ⟨e3,hy⟩=>?_⟩;subst e3;have:=hy vs h2;rw[ev] at this;cases this;exact⟨.refl _,rv⟩
theorem yb {l:Expr}{tl:TE}(hl:PE X l tl):PI X tg l (fun σ H R=>tl σ H fun x H1=>∃a,x=.ref a/\(((∃xs,dU X.K H1 a xs)/\R (L2.Itl X.K a) H1)\/((∃xs,dN X.K H1 a xs)/\R (L2.Itt X.K a) H1))):=by
 intro pins s σ H R I h;refine L2.thn (hl pins s σ H _ I h) fun v s1 zz=>?_;obtain ⟨x,H1,I1,r1,q1⟩:=zz;obtain⟨a,rfl,q1⟩:=q1;cases (show v=Value.ref a from r1);rcases q1 with ⟨⟨xs,hq⟩,q⟩|⟨⟨xs,hq⟩,q⟩
 ·obtain⟨its,rv,p,hz⟩:=I1.list hq;refine wpAny_pyIter_list p.isList ⟨s1.heap.objs.size,[s1.heap.objs.size],_,_,H1,rfl,I1.kept (t':=s1.toks) fun b o e=>ai _ e,L2.turn_list a _,⟨_,aI _ rfl,rfl,rfl⟩,fun b hb=>?_,q⟩;have e:b=s1.heap.objs.size:=by simpa using hb
  subst e;exact I1.fpOk (az _) (I1.hok.fresh (az _))
 ·obtain⟨its,rv,p,hz⟩:=I1.tuple hq;refine wpAny_pyIter_tuple (show s1.heap.IsTuple a its.toArray from p) ⟨s1.heap.objs.size,[s1.heap.objs.size],_,_,H1,rfl,I1.kept (t':=s1.toks) fun b o e=>ai _ e,L2.turn_tuple a _,⟨_,aI _ rfl,rfl,rfl⟩,fun b hb=>?_,q⟩;have e:b=s1.heap.objs.size:=by simpa using hb
  subst e;exact I1.fpOk (az _) (I1.hok.fresh (az _))
theorem eM {f:AD}(h:DQ X e f):DI X tg e (dw f):=(yb h).imp fun σ H Q zz=>by
 obtain ⟨ρ,O,M,lad,ds,hE,hf,k⟩:=zz;refine⟨ρ,O,M,lad,ds,hE,hf,fun v H1 kd s1 ⟨a,vs,ev,qs,st⟩=>⟨a,ev,?_⟩⟩;have st0:=st _ _ (gL.id M O H1 (hE.same s1).sub);cases kd with
 |true=>exact .inl ⟨⟨vs,st0⟩,k _ H1 s1 (u6 (fun O' H' x=>st O' H' x) qs)⟩
 |false=>exact .inr ⟨⟨vs,st0⟩,k _ H1 s1 (u4 (fun O' H' x=>st O' H' x) qs)⟩
theorem lh {d:D}{i:Int}(h:rN d=some i):d=.int i:=by
 cases d <;> first|(cases h;rfl)|cases h
theorem sI {K:Fg}{H:Hp}{M O:List Addr}(lo:Int)(n:Nat):kQ K (L2.Itr lo n) (fc lo n) M O H:=by
 intro O2 H2 x;refine⟨fun i d e=>?_,?_⟩
 ·unfold fc at e;rw[aN] at e;cases er:(aV n)[i]? with
  |none=>rw[er] at e;cases e
  |some k =>
   rw[er,ag] at e;cases e;obtain⟨h1,h2⟩:=aE.mp er;rw[bx] at h1;rw[List.getElem_range] at h2;subst h2;exact⟨h1,fun y H3 zz=>by obtain ⟨e3,e4⟩:=zz; subst e3 e4;exact⟨.refl _,.int _⟩⟩
 ·show n<=_;unfold fc;rw[ah,bx];exact az _
theorem iO {p pos':Pos}(hm:X.mg "range" = none)(h:DE X a f)(hg:L2.Gl X "range" := by rfl)(hs:starEach [a] X.env=[(false,eval a X.env)]:=by rfl):DI X tg (.Call (.Name "range" p) [a] [] pos') (dM f) :=
 (L2.pi_range1 hg hm (cw h cK hs) hs).imp fun σ H Q zz=>by
  obtain ⟨ρ,O,M,lad,ds,hE,hf,k⟩:=zz;unfold dM at hf;cases hr:f ρ with
  |none=>rw[hr] at hf;cases hf
  |some r =>
   rw[hr,aa] at hf;cases hj:rN r.1 with
   |none=>rw[hj] at hf;cases hf
   |some j =>
    rw[hj,aa] at hf;split at hf
    ·rename_i hb;cases hf;refine⟨ρ,O,M,lad,[r.1],hE,by unfold cf;rw[hr];rfl,fun vs H1 s1 q1=>?_⟩;rw[lh hj] at q1;cases q1 with
     |cons q qn =>
      cases q;cases qn;exact⟨j,rfl,hb.1,hb.2,k _ H1 s1 (sI 0 j.toNat)⟩
    ·cases hf
noncomputable def uX (K:Fg)(F:SD):TS:=fun E σ H=>∃B H₀ M₀ lad,uS K B H₀ M₀ lad F E σ H
theorem uu.x (h:uu X sts F):PSs X sts (uX X.K F):=fun pins s σ H D I ⟨B,H₀,M₀,lad,q⟩=>h B H₀ M₀ lad pins s σ H D I q
theorem uk.up {K:Fg}{B:List Addr}{H₀ H1 H':Hp}{M₀ M:List Addr}{r:Vl}{v:V}(x:fj M₀ H₀ M H1)(h:uk K B H1 M H' r v):uk K B H₀ M₀ H' r v:=by
 obtain⟨⟨M',x'⟩,q⟩:=h;refine⟨⟨M',x.trans x'⟩,?_⟩;rcases q with q|⟨e,a,ds,vs,e1,e2,e3,e4,q⟩
 ·exact .inl q
 ·refine .inr ⟨e,a,ds,vs,e1,e2,?_,e4,q⟩;rcases e3 with z|z
  ·exact x.new a z
  ·refine .inr ?_;cases e5:H₀ a with
   |none=>rfl
   |some o=>exact absurd z (x.there a (by rw[e5];simp))
theorem SR.up {K:Fg}{B:List Addr}{H₀ H1 H:Hp}{M₀ M:List Addr}{lad:Nat->Addr}{ρ:Sl}{σ:St}(x:fj M₀ H₀ M H1)(h:SR K B H1 M lad ρ σ H):SR K B H₀ M₀ lad ρ σ H:=by
 obtain⟨M',x',hB,hE⟩:=h;exact⟨M',x.trans x',hB,hE⟩
theorem fI (hc:X.calm=true)(hi:DI X tg iter it)(hg:DG X tg gd)(hb:uu X body F)(hp:PassesOwn (model X.prog X.w) X.A X.env X.xe:=by exact PassesOwn.never)
  (hs:∀x,foldedSetIterable iter X.env x=pure x:=by intro _;rfl):DS X (.For tg iter body [] pos) (fg it gd F):=fun B H₀ M₀ lad=>(L2.ps_for hp hc hi hg hb.x hs).imp fun E σ H zz=>by
 obtain ⟨ρ,fl,⟨M,hx,hB,hE⟩,hf,k⟩:=zz;unfold fg at hf;cases hd:it ρ with
 |none=>rw[hd] at hf;cases hf
 |some ds =>
  rw[hd,aa] at hf;refine⟨ρ,_,M,lad,ds,hE,hd,fun J H1 s1 iok=>?_⟩;have x1:fj M₀ H₀ M H1:=hx.trans (.same s1);refine⟨fun i m σ' H'=>m=ds.length-i/\i<=ds.length/\∃ρ',SR X.K B H1 M lad ρ' σ' H'/\d7 gd F (ds.drop i) ρ'=some fl,⟨ds.length,by simp,bt _,ρ,⟨M,.refl M H1,hB,hE.same s1⟩,by simpa using hf⟩,?_⟩;rintro i m σ' H' ⟨rfl,hi,ρ',hR,hl⟩;obtain⟨M',x',hB',hE'⟩:=id hR;obtain⟨go,stop⟩:=iok _ _ x'.ext;by_cases hlt:i<ds.length
  ·have ed:ds.drop i=ds[i]::ds.drop (i+1):=CI hlt;rw[ed] at hl;unfold d7 at hl;cases hg1:gd ds[i] ρ' with
   |none=>rw[hg1] at hl;cases hl
   |some ρ1 =>
    rw[hg1,aa] at hl;cases hF:F ρ1 with
    |none=>rw[hF] at hl;cases hl
    |some fl1 =>
     rw[hF,aa] at hl;obtain⟨g1,g2⟩:=go i ds[i] (by simp[hlt]);refine .inr ⟨g1,fun σ2 H2=>∃ρ2,SR X.K B H1 M lad ρ2 σ2 H2/\d7 gd F (ds.drop (i+1)) ρ2=some fl,fun σ2 H2 ⟨ρ2,r2,l2⟩=>⟨ds.length-(i+1),by omega,rfl,hlt,ρ2,r2,l2⟩,fun x H2 hy=>?_⟩;obtain⟨s2,q2⟩:=g2 x H2 hy;refine⟨ρ',_,M',lad,ds[i],ρ1,hE'.same s2,q2,hg1,fun σ3 H3 s3 E3=>⟨B,H1,M,lad,ρ1,fl1,⟨M',(x'.trans (.same s2)).trans (.same s3),hB',E3⟩,hF,?_⟩⟩;cases fl1 with
     |next ρ2=>exact fun σ4 H4 r4=>⟨ρ2,r4,hl⟩
     |cont ρ2=>exact fun σ4 H4 r4=>⟨ρ2,r4,hl⟩
     |brk ρ2 =>
      cases hl;exact fun σ4 H4 r4=>k σ4 H4 (r4.up x1)
     |ret r =>
      cases hl;exact fun v H4 r4=>k v H4 (r4.up x1)
  ·have e:i=ds.length:=by omega
   subst e;rw[List.drop_length] at hl;cases hl;exact .inl ⟨stop,k σ' H' (hR.up x1)⟩
theorem xi (hc:DT X c t)(hb:uu X body F)(hp:PassesOwn (model X.prog X.w) X.A X.env X.xe:=by exact PassesOwn.never):DS X (.While c body [] pos) (lA t F):=fun B H₀ M₀ lad=>(L2.ps_while hp hc (hb B H₀ M₀ lad)).imp fun E σ H zz=>by
 obtain ⟨ρ,fl,hR,hf,k⟩:=zz;obtain⟨n,hn⟩:=qD hf;refine⟨fun m σ' H'=>∃ρ',SR X.K B H₀ M₀ lad ρ' σ' H'/\eZ t F m ρ'=some fl,⟨n,ρ,hR,hn⟩,?_⟩;rintro m σ' H' ⟨ρ',⟨M,hx,hB,hE⟩,hw⟩;cases m with
 |zero=>cases hw
 |succ m =>
  unfold eZ at hw;cases ht:t ρ' with
  |none=>rw[ht] at hw;cases hw
  |some c =>
   rw[ht,aa] at hw;refine⟨ρ',_,M,lad,c,hE,ht,fun H1 s1=>?_⟩;have r1:SR X.K B H₀ M₀ lad ρ' σ' H1:=⟨M,hx.trans (.same s1),hB,hE.same s1⟩;cases c with
   |false =>
    dsimp only at hw ⊢;rw[if_neg Bool.false_ne_true] at hw ⊢;cases hw;exact k σ' H1 r1
   |true =>
    dsimp only at hw ⊢;rw[if_pos rfl] at hw ⊢;cases hF:F ρ' with
    |none=>rw[hF] at hw;cases hw
    |some fl1 =>
     rw[hF,aa] at hw;refine⟨fun σ2 H2=>∃ρ2,SR X.K B H₀ M₀ lad ρ2 σ2 H2/\eZ t F m ρ2=some fl,fun σ2 H2 r2=>⟨m,Nat.lt_succ_self m,r2⟩,ρ',fl1,r1,hF,?_⟩;cases fl1 with
     |next ρ2=>exact fun σ4 H4 r4=>⟨ρ2,r4,hw⟩
     |cont ρ2=>exact fun σ4 H4 r4=>⟨ρ2,r4,hw⟩
     |brk ρ2=>cases hw;exact k
     |ret r=>cases hw;exact k
end
end DL
namespace L2
open PySem PySem.Spec PyProof.Rows
section
variable {X:Cx}
noncomputable def zh (K:PySem.W.Frag):R2:=fun x y H Q=>∃a b ys,x=.ref a/\y=.ref b/\dN K H a []/\dN K H b ys/\Q (.ref b) H
theorem yk:OpR X (binaryOp .Add) (zh X.K):=by
 intro pins s σ H x y v u Q I rx ry h;obtain⟨a,b,ys,rfl,rfl,ha,hb,q⟩:=h;cases rx;cases ry;obtain⟨its,r1,p1,_⟩:=I.tuple ha;obtain⟨its2,r2,p2,_⟩:=I.tuple hb;cases r1;obtain⟨⟨cls,dd,data,sl⟩,ho,hc,n,hd⟩:=id p1;obtain⟨⟨cls2,dd2,data2,sl2⟩,ho2,hc2,n2,hd2⟩:=id p2;simp only at hc hd hc2 hd2;subst hc hd hc2 hd2;exact concat_meets ⟨_,ho,rfl⟩ ⟨_,ho2,rfl⟩ noFill_tuple_add seq_tuple_add PySem.F.slot_tuple_add PySem.F.entry_tuple_add (PySem.F.args_tuple_add_2 _ _)
   (tuple_addW0 a b _ _ n n2 dd dd2 sl sl2 (by simp)) ⟨ho,ho2,⟨.ref b,H,I,rfl,q⟩⟩
noncomputable def rAddA (K:PySem.W.Frag):R2:=fun x y H Q=>rI0 (fun i j=>.int (i+j)) x y H Q\/(zg K x y H Q\/(zh K x y H Q\/∃i j,x=.str i/\y=.str j/\i.length+j.length<=sizeLine/\Q (.str (i++j)) H))
theorem op_addA:OpR X (binaryOp .Add) (rAddA X.K):=zT.or (yj.or (yk.or r9))
theorem call_allB (hc:X.calm=true):CallR X (.builtin "all") (fun xs H Q=>∃(a:Addr) (ys:List V) (bs:List Bool),xs=[.ref a]/\(dU X.K H a ys\/dN X.K H a ys)/\ys=bs.map V.bl/\Q (.bl (bs.all id)) H):=by
 intro pins s σ H xs us Q I rx h;obtain⟨a,ys,bs,rfl,hq,rfl,q⟩:=h;obtain⟨u,rfl,ru⟩:=cH.one rx;cases ru;have bools:∀(bs:List Bool) (its:List Value),cH (bs.map V.bl) its->its=bs.map Value.bool:=by
  intro bs;induction bs with
  |nil=>intro its r;cases r;rfl
  |cons b bs ih =>
   intro its r;cases r with
   |cons r rs =>
    have:_=Value.bool b:=r;rw[aD,ih _ rs,this]
 have alls:∀(bs:List Bool),(aV bs.length).all (fun i=>bs.getD i false)=bs.all id:=by
  intro bs;induction bs with
  |nil=>rfl
  |cons b bs ih =>
   rw[aj,List.range_succ_eq_map,bW,bW,CG];show (b&&_)=(b&&_);congr 1
 have tru:TruthOf X.prog X.w X.A.in1 (fun i v=>(bs.map Value.bool).toArray[i]?=some v) (fun i=>bs.getD i false):=by
  intro i v s' Q' E' hP hQ;have hP':(bs.map Value.bool)[i]?=some v:=by simpa using hP
  rw[aN] at hP';cases e:bs[i]? with
  |none=>rw[e] at hP';cases hP'
  |some b =>
   rw[e,ag] at hP';cases hP';refine wpAny_truthy_bool ?_;have:bs.getD i false=b:=by rw[aR,e];rfl
   have hQ2:Q' (bs.getD i false) s':=hQ;rw[this] at hQ2;exact hQ2
 have fin:∀(o:Obj) (h':Heap) (tk:Nat),(∀b ob,b∉[s.heap.objs.size]->(s.heap.push o).get? b=some ob->h'.get? b=some ob) →
   EP X pins σ Q (.bool ((aV (bs.map Value.bool).toArray.size).all fun i=>bs.getD i false)) { s with heap:=h',toks:=tk }:=by
  intro o h' tk hk;have ez:(bs.map Value.bool).toArray.size=bs.length:=by simp
  rw[ez,alls];exact⟨.bl _,H,I.kept (t':=tk) fun b ob e=>hk b ob (by simpa using aO (aF e)) (ai _ e),rfl,q⟩
 refine call_all_walk ?_;rcases hq with hq|hq
 ·obtain⟨its,rv,p,hz⟩:=I.list hq;have e:=bools bs its rv;subst e;refine wpAny_pyIter_list p.isList ?_;have hne:a≠s.heap.objs.size:=aO (by obtain⟨o,n,e,_⟩:=p;exact aF e);exact⟨_,_,_,_,_,_,fun i=>bs.getD i false,rfl,Walks.list (A:=X.A.in1) (I.ok.hd hc) s.heap.objs.size a hne (bs.map Value.bool).toArray,⟨⟨_,aI _ rfl,rfl,rfl⟩,p.isList.at fun o e=>ai _ e⟩,tru,fun h' tk hk=>fin _ h' tk hk⟩
 ·obtain⟨its,rv,p,hz⟩:=I.tuple hq;have e:=bools bs its rv;subst e;have p':s.heap.IsTuple a (bs.map Value.bool).toArray:=p;refine wpAny_pyIter_tuple p' ?_;have hne:a≠s.heap.objs.size:=aO p.lt;exact⟨_,_,_,_,_,_,fun i=>bs.getD i false,rfl,Walks.tuple (A:=X.A.in1) (I.ok.hd hc) s.heap.objs.size a hne (bs.map Value.bool).toArray,⟨⟨_,aI _ rfl,rfl,rfl⟩,p'.at fun o e=>ai _ e⟩,tru,fun h' tk hk=>fin _ h' tk hk⟩
def KdV (K:PySem.W.Frag)(H:Hp)(x:V)(t:String):Prop:=match x with
 |.bl _=>t = "bool"
 |.int _=>t = "int"
 |.str _=>t = "str"
 |.ref a=>(t = "tuple" ∧ ∃xs,dN K H a xs)\/(t = "list" ∧ ∃xs,dU K H a xs)
 |_=>False
theorem call_isa:CallR X (.builtin "isinstance") (fun xs H Q=>∃x t T b,xs=[x,.ty T]/\KdV X.K H x t/\PySem.W.kitOne X.K (.type t) (.type T)=some b/\Q (.bl b) H):=by
 intro pins s σ H xs us Q I rx h;obtain⟨x,t,T,b,rfl,kd,e,q⟩:=h;obtain⟨u,w',rfl,r1,r2⟩:=cH.two rx;cases r2;have fin:∀tk,EP X pins σ Q (.bool b) { s with toks:=tk }:=fun tk=>⟨.bl b,H,I.tok tk,rfl,q⟩;cases x with
 |bl y =>
  cases (show t = "bool" from kd);cases (show u=Value.bool y from r1);exact PySem.W.kia_one PySem.W.kitx_bool I.kIn True.intro e (fun z=>nomatch z) fin
 |int i =>
  cases (show t = "int" from kd);obtain⟨t',q'⟩:=(show ∃t,u=Value.int i t from r1);cases q';exact PySem.W.kia_one PySem.W.kitx_int I.kIn True.intro e (fun z=>nomatch z) fin
 |str y =>
  cases (show t = "str" from kd);obtain⟨t',q'⟩:=(show ∃t,u=Value.str y t from r1);cases q';exact PySem.W.kia_one PySem.W.kitx_str I.kIn True.intro e (fun z=>nomatch z) fin
 |ref a =>
  cases (show u=Value.ref a from r1);rcases kd with ⟨rfl,ys,hq⟩|⟨rfl,ys,hq⟩
  ·obtain⟨its,rv,⟨o,h1,h2,_⟩,hz⟩:=I.tuple hq;exact PySem.W.kia_one PySem.W.kitx_tuple I.kIn ⟨o,h1,h2⟩ e (fun z=>nomatch z) fin
  ·obtain⟨its,rv,⟨o,n,h1,h2,_⟩,hz⟩:=I.list hq;exact PySem.W.kia_one PySem.W.kitx_list I.kIn ⟨o,h1,h2⟩ e (fun z=>nomatch z) fin
 |_=>exact False.elim kd
end
end L2
namespace DL
open PySem PySem.Spec PySem.SeqAt
open L2 (V Hp St HO VK TE TT TA TS TI TG Cx Inv PE PT PA PS PSs PI PG dN dU cI cZ cA cq cg cH cP EP TP AP SP di It)
section
variable {K:Fg}{H:Hp}{O:List Addr}{v:V}
theorem BR.int {i:Int}(h:BR K H O (.int i) v):v=.int i:=by
 rcases h with h|⟨a,ds,vs,e,_⟩|⟨a,ds,vs,e,_⟩
 ·cases h;rfl
 ·cases e
 ·cases e
theorem BR.bool {b:Bool}(h:BR K H O (.bool b) v):v=.bl b:=by
 rcases h with h|⟨a,ds,vs,e,_⟩|⟨a,ds,vs,e,_⟩
 ·cases h;rfl
 ·cases e
 ·cases e
theorem BR.str {x:Str}(h:BR K H O (.str x) v):v=.str x:=by
 rcases h with h|⟨a,ds,vs,e,_⟩|⟨a,ds,vs,e,_⟩
 ·cases h;rfl
 ·cases e
 ·cases e
theorem BR.tuple {ds:List D}(h:BR K H O (.tuple ds) v):∃a vs,v=.ref a/\dN K H a vs/\Rs K H O ds vs:=by
 rcases h with h|⟨a,es,vs,e,_⟩|⟨a,es,vs,e,_⟩
 ·cases h with
  |tuple ha hs=>exact⟨_,_,rfl,ha,hs⟩
 ·cases e
 ·cases e
theorem BR.list {ds:List D}(h:BR K H O (.list ds) v):∃a vs,v=.ref a/\dU K H a vs/\Rs K H O ds vs:=by
 rcases h with h|⟨a,es,vs,e,e2,e3,q⟩|⟨a,es,vs,e,_⟩
 ·cases h with
  |list ha hs=>exact⟨_,_,rfl,ha.sq,hs⟩
 ·cases e;exact⟨a,vs,e2,.inl (.inl e3),q⟩
 ·cases e
end
section
variable {X:Cx}{e a b c:Expr}{es:List Expr}{f g:ED}{fb gb:BD}{t u:TD}{pos:Pos}
theorem dj:OD X (L2.rAddA X.K) dg:=by
 intro x y vx vy H O r Q ne hx hy hf k;cases x <;> first|(cases hf;done)|(cases y <;> first|cases hf|skip)
 ·cases hx.int;cases hy.int;exact .inl ⟨_,_,rfl,rfl,k _ H (.refl H) (.of (.int _))⟩
 ·cases hx.str;cases hy.str;unfold dg at hf;dsimp only at hf;split at hf
  ·rename_i hz;cases hf;exact .inr (.inr (.inr ⟨_,_,rfl,rfl,hz,k _ H (.refl H) (.of (.str _))⟩))
  ·cases hf
 ·unfold dg at hf;dsimp only at hf;split at hf
  ·rename_i ds es hz;cases hf;obtain⟨a,vs,rfl,ha,qa⟩:=hx.tuple;obtain⟨b,us,rfl,hb,qb⟩:=hy.tuple;by_cases hn:ds=[]
   ·subst hn;cases qa;exact .inr (.inr (.inl ⟨a,b,us,rfl,rfl,ha,hb,k _ H (.refl H) (.of (.tuple hb qb))⟩))
   ·refine .inr (.inl ⟨a,b,vs,us,rfl,rfl,ha,hb,fun z=>?_,by rw[<-qa.length,<-qb.length];exact hz,fun z=>?_,fun z p hp=>?_⟩)
    ·subst z;cases qa;exact hn rfl
    ·subst z;cases qb;rw[aT] at k;exact k _ H (.refl H) (.of (.tuple ha qa))
    ·have s2:cI H (cZ H p (.tup (vs++us))):=fun b o e=>by rw[cq (cg e hp)];exact e
     exact k _ _ s2 (.of (.tuple (.inl (.inl cA)) ((qa.append qb).same s2)))
  ·cases hf
theorem kW {α:Type}{op:D->D->Option α}(h1:∀x y,(∀i,x≠.int i)->op x y=none)(h2:∀i y,(∀j,y≠.int j)->op (.int i) y=none){x y:D}{r:α}(h:op x y=some r):∃i j,x=.int i/\y=.int j:=by
 by_cases e1:∃i,x=.int i
 ·obtain⟨i,rfl⟩:=e1;by_cases e2:∃j,y=.int j
  ·obtain⟨j,rfl⟩:=e2;exact⟨i,j,rfl,rfl⟩
  ·rw[h2 i y fun j z=>e2 ⟨j,z⟩] at h;cases h
 ·rw[h1 x y fun i z=>e1 ⟨i,z⟩] at h;cases h
theorem pG:OD X (L2.rI0 fun i j=>.int (i-j)) qR:=by
 intro x y vx vy H O r Q ne hx hy hf k;obtain⟨_,_,rfl,rfl⟩:=kW (fun x y n=>by cases x <;> first|rfl|exact absurd rfl (n _)) (fun i y n=>by cases y <;> first|rfl|exact absurd rfl (n _)) hf;cases hx.int;cases hy.int;cases hf;exact⟨_,_,rfl,rfl,k _ H (.refl H) (.of (.int _))⟩
theorem yX {i j:Int}(h:sX i j=true):L2.CMul i j:=by
 unfold sX at h;simpa [L2.CMul] using h
theorem jI:OD X (L2.rI L2.CMul fun i j=>.int (i*j)) j7:=by
 intro x y vx vy H O r Q ne hx hy hf k;obtain⟨_,_,rfl,rfl⟩:=kW (fun x y n=>by cases x <;> first|rfl|exact absurd rfl (n _)) (fun i y n=>by cases y <;> first|rfl|exact absurd rfl (n _)) hf;cases hx.int;cases hy.int;unfold j7 at hf;dsimp only at hf;split at hf
 ·rename_i hc;cases hf;exact⟨_,_,rfl,rfl,yX hc,k _ H (.refl H) (.of (.int _))⟩
 ·cases hf
theorem kE:OD X (L2.rI L2.CDiv fun i j=>.int (i/j)) gf:=by
 intro x y vx vy H O r Q ne hx hy hf k;obtain⟨_,_,rfl,rfl⟩:=kW (fun x y n=>by cases x <;> first|rfl|exact absurd rfl (n _)) (fun i y n=>by cases y <;> first|rfl|exact absurd rfl (n _)) hf;cases hx.int;cases hy.int;unfold gf at hf;dsimp only at hf;split at hf
 ·rename_i hc;cases hf;exact⟨_,_,rfl,rfl,hc,k _ H (.refl H) (.of (.int _))⟩
 ·cases hf
theorem d6:OD X (L2.rI (fun _ j=>0<j) fun i j=>.int (i%j)) dH:=by
 intro x y vx vy H O r Q ne hx hy hf k;obtain⟨_,_,rfl,rfl⟩:=kW (fun x y n=>by cases x <;> first|rfl|exact absurd rfl (n _)) (fun i y n=>by cases y <;> first|rfl|exact absurd rfl (n _)) hf;cases hx.int;cases hy.int;unfold dH at hf;dsimp only at hf;split at hf
 ·rename_i hc;cases hf;exact⟨_,_,rfl,rfl,hc,k _ H (.refl H) (.of (.int _))⟩
 ·cases hf
theorem wz:OD X (L2.rI L2.CPow fun i j=>.int (i ^ j.toNat)) pH:=by
 intro x y vx vy H O r Q ne hx hy hf k;obtain⟨_,_,rfl,rfl⟩:=kW (fun x y n=>by cases x <;> first|rfl|exact absurd rfl (n _)) (fun i y n=>by cases y <;> first|rfl|exact absurd rfl (n _)) hf;cases hx.int;cases hy.int;unfold pH at hf;dsimp only at hf;split at hf
 ·rename_i hc;cases hf;exact⟨_,_,rfl,rfl,hc,k _ H (.refl H) (.of (.int _))⟩
 ·cases hf
theorem o4:UD X (L2.rU fun i=>.int (-i)) qT:=by
 intro x vx H O r Q ne hx hf k;cases x <;> first|cases hf|skip
 cases hx.int;exact⟨_,rfl,k _ H (.refl H) (.of (.int _))⟩
theorem sV {c:C2}{p:Int->Int->Bool}(hc:∀x y k,c x y=some k->∃i j,x=.int i/\y=.int j/\k=p i j):CD X (L2.rI0 fun i j=>.bl (p i j)) c:=by
 intro x y vx vy H O k Q hx hy hf q;obtain⟨i,j,rfl,rfl,rfl⟩:=hc _ _ _ hf;cases hx.int;cases hy.int;exact⟨_,_,rfl,rfl,q⟩
theorem ug:CD X (L2.rI0 fun i j=>.bl (decide (i<j))) sY:=sV fun x y k h=>by
 obtain⟨_,_,rfl,rfl⟩:=kW (fun x y n=>by cases x <;> first|rfl|exact absurd rfl (n _)) (fun i y n=>by cases y <;> first|rfl|exact absurd rfl (n _)) h;cases h;exact⟨_,_,rfl,rfl,rfl⟩
theorem oM:CD X (L2.rI0 fun i j=>.bl (decide (i<=j))) rR:=sV fun x y k h=>by
 obtain⟨_,_,rfl,rfl⟩:=kW (fun x y n=>by cases x <;> first|rfl|exact absurd rfl (n _)) (fun i y n=>by cases y <;> first|rfl|exact absurd rfl (n _)) h;cases h;exact⟨_,_,rfl,rfl,rfl⟩
theorem rK:CD X (L2.rI0 fun i j=>.bl (decide (j<i))) qg:=sV fun x y k h=>by
 obtain⟨_,_,rfl,rfl⟩:=kW (fun x y n=>by cases x <;> first|rfl|exact absurd rfl (n _)) (fun i y n=>by cases y <;> first|rfl|exact absurd rfl (n _)) h;cases h;exact⟨_,_,rfl,rfl,rfl⟩
end
end DL
namespace DL
open PySem PySem.Spec PySem.SeqAt
open L2 (V Hp St HO VK TE TT TA TS TI TG Cx Inv PE PT PA PS PSs PI PG dN dU cI cZ cA cq cg cH cP EP TP AP SP di It)
section
variable {X:Cx}{pins:List (Addr×Obj)}{σ:St}{H:Hp}{s:Shared}{O:List Addr}
mutual
theorem R.reads (I:Inv X pins σ H s){d:D}{v:V}:R X.K H O d v->d.canLay0=true->∀u,cP v u->∃as,Reads s.heap u d as
 |.none,_,u,r=>by cases (show u=Value.none from r);exact⟨_,.none⟩
 |.bool b,_,u,r=>by cases (show u=Value.bool b from r);exact⟨_,.bool b⟩
 |.int i,_,u,r=>by obtain⟨t,rfl⟩:=(show ∃t,u=Value.int i t from r);exact⟨_,.int i t⟩
 |.str x,_,u,r=>by obtain⟨t,rfl⟩:=(show ∃t,u=Value.str x t from r);exact⟨_,.str x t⟩
 | .tuple (a:=a) ha hs,hl,u,r=>by
  cases (show u=Value.ref a from r);obtain⟨its,rv,⟨o,e,c,n,hd⟩,_⟩:=I.tuple ha;obtain⟨as,q⟩:=Rs.reads I hs (by simpa [PyData.canLay0] using hl) its rv;exact⟨_,.tuple e c hd (by simpa using q)⟩
 |.dict _ _ _,hl,_,_=>by simp[PyData.canLay0] at hl
 | .list (a:=a) ha hs,hl,u,r=>by
  cases (show u=Value.ref a from r);obtain⟨its,rv,⟨o,n,e,c,_,hd⟩,_⟩:=I.list ha.sq;obtain⟨as,q⟩:=Rs.reads I hs (by simpa [PyData.canLay0] using hl) its rv;exact⟨_,.list e c hd (by simpa using q)⟩
theorem Rs.reads (I:Inv X pins σ H s){ds:List D}{vs:List V}:Rs X.K H O ds vs->PyData.canLayAll0 ds=true->∀us,cH vs us->∃as,ReadsAll s.heap us ds as
 |.nil,_,us,r=>by cases r;exact⟨_,.nil⟩
 | .cons h hs,hl,us,r=>by
  cases r with
  |cons r rs =>
   simp only[PyData.canLayAll0,Bool.and_eq_true] at hl;obtain⟨as,q⟩:=R.reads I h hl.1 _ r;obtain⟨bs,qs⟩:=Rs.reads I hs hl.2 _ rs;exact⟨_,.cons q qs⟩
end
theorem l5 {d:D}(h:shaped d=true):d.canLay0=true:=by
 unfold shaped at h;rw[Bool.and_eq_true] at h;exact h.1
theorem BR.reads (I:Inv X pins σ H s){d:D}{v:V}(h:BR X.K H O d v)(hl:d.canLay0=true)(u:Value)(r:cP v u):∃as,Reads s.heap u d as:=by
 rcases h with h|⟨a,ds,vs,rfl,rfl,e,q⟩|⟨a,ds,vs,rfl,_⟩
 ·exact h.reads I hl u r
 ·cases (show u=Value.ref a from r);obtain⟨its,rv,⟨o,n,e',c,_,hd⟩,_⟩:=I.list (show dU X.K H a vs from .inl (.inl e));obtain⟨as,q'⟩:=q.reads I (by simpa [PyData.canLay0] using hl) its rv;exact⟨_,.list e' c hd (by simpa using q')⟩
 ·simp[PyData.canLay0] at hl
end
noncomputable def A5 (K:Fg):L2.R2:=fun x y H Q=>∃(O:List Addr) (dx dy:D),BR K H O dx x/\BR K H O dy y/\shaped dx=true/\shaped dy=true/\noMix dx dy=true/\Q (.bl (same dx dy)) H
noncomputable def A0 (K:Fg):L2.R2:=fun x y H Q=>∃(O:List Addr) (dx dy:D),BR K H O dx x/\BR K H O dy y/\shaped dx=true/\shaped dy=true/\noMix dx dy=true/\Q (.bl (!same dx dy)) H
section
variable {X:Cx}{e a b c:Expr}{es:List Expr}{f g:ED}{fb gb:BD}{t u:TD}{pos:Pos}
theorem eC (hu:X.A.units+64<cLine):L2.OpR X (compareOp .Eq) (A5 X.K):=by
 intro pins s σ H x y v u Q I rx ry h;obtain⟨O,dx,dy,hx,hy,sx,sy,nm,q⟩:=h;obtain⟨as,ra⟩:=hx.reads I (l5 sx) v rx;obtain⟨bs,rb⟩:=hy.reads I (l5 sy) u ry;exact PyProof.Rows.eq_dataH_same ra rb sx sy hu nm ⟨.bl _,H,I,rfl,q⟩
theorem iz (hu:X.A.units+64<cLine):L2.OpR X (compareOp .NotEq) (A0 X.K):=by
 intro pins s σ H x y v u Q I rx ry h;obtain⟨O,dx,dy,hx,hy,sx,sy,nm,q⟩:=h;obtain⟨as,ra⟩:=hx.reads I (l5 sx) v rx;obtain⟨bs,rb⟩:=hy.reads I (l5 sy) u ry;exact PyProof.Rows.ne_dataH_same ra rb sx sy hu nm ⟨.bl _,H,I,rfl,q⟩
theorem fG:CD X (A5 X.K) gF:=by
 intro x y vx vy H O k Q hx hy hf q;unfold gF at hf;split at hf
 ·rename_i h;cases hf;rw[Bool.and_eq_true,Bool.and_eq_true] at h;exact⟨O,x,y,hx,hy,h.1.1,h.1.2,h.2,q⟩
 ·cases hf
theorem ko:CD X (A0 X.K) j6:=by
 intro x y vx vy H O k Q hx hy hf q;unfold j6 at hf;split at hf
 ·rename_i h;cases hf;rw[Bool.and_eq_true,Bool.and_eq_true] at h;exact⟨O,x,y,hx,hy,h.1.1,h.1.2,h.2,q⟩
 ·cases hf
theorem Rs.at {K:Fg}{H:Hp}{O:List Addr}{ds:List D}{vs:List V}{i:Int}{d:D}(q:Rs K H O ds vs)(h:qh ds i=some d):∃v,L2.atI vs i=some v/\R K H O d v:=by
 unfold qh at h;cases hj:nq ds.length i with
 |none=>rw[hj] at h;cases h
 |some j =>
  rw[hj,aa] at h;obtain⟨v,e,r⟩:=q.get h;refine⟨v,?_,r⟩;unfold L2.atI;have:L2.ixN vs.length i=some j:=by rw[<-q.length];exact hj
  rw[this,aa];exact e
theorem Ba:OD X (L2.rIx X.K) cW:=by
 intro x y vx vy H O r Q ne hx hy hf k;cases x <;> first|(cases hf;done)|(cases y <;> first|cases hf|skip)
 ·obtain⟨a,vs,rfl,ha,qa⟩:=hx.list;cases hy.int;rename_i ds i;unfold cW at hf;dsimp only at hf;cases hd:qh ds i with
  |none=>rw[hd] at hf;cases hf
  |some d =>
   rw[hd] at hf;cases hf;obtain⟨v,e,rv⟩:=qa.at hd;exact .inl ⟨a,vs,i,v,rfl,rfl,ha,e,k _ H (.refl H) (.of rv)⟩
 ·obtain⟨a,vs,rfl,ha,qa⟩:=hx.tuple;cases hy.int;rename_i ds i;unfold cW at hf;dsimp only at hf;cases hd:qh ds i with
  |none=>rw[hd] at hf;cases hf
  |some d =>
   rw[hd] at hf;cases hf;obtain⟨v,e,rv⟩:=qa.at hd;exact .inr (.inl ⟨a,vs,i,v,rfl,rfl,ha,e,k _ H (.refl H) (.of rv)⟩)
theorem c9 (ha:DB X a fb)(hb:DB X b gb)(hs:L2.PlainIx b:=by exact fun _ _=>rfl):DE X (.Subscript a b pos) (d2 cW fb gb):=(L2.pe_ix L2.ix_seq ha hb hs).imp fun _ _ _ h=>pZ Ba h
theorem oO {r:List V->Hp->VK->Prop}{op:D->Option Vl}(hd:UD X (fun x H Q=>r [x] H Q) op){σ:St}{H:Hp}{Q:VK}(h:uE X.K (d1 op fb) σ H Q):L2.tCB r (L2.tCons (uB X.K fb) L2.tNil) σ H Q:=xv hd h
theorem vH {r:List V->Hp->VK->Prop}{op:O2}(hd:OD X (fun x y H Q=>r [x,y] H Q) op){σ:St}{H:Hp}{Q:VK}(h:uE X.K (d2 op fb gb) σ H Q):L2.tCB r (L2.tCons (uB X.K fb) (L2.tCons (uB X.K gb) L2.tNil)) σ H Q:=pZ hd h
variable {x:Str}{p:Pos}{bid T:String}{r:List V->Hp->VK->Prop}
theorem iP {op:D->Option Vl}(hc:L2.CallR X (.builtin bid) r)(hd:UD X (fun x H Q=>r [x] H Q) op)(hm:X.mg x=none)(hv:bootBuiltins x=some (.builtin bid))(ha:DB X a fb)(hg:L2.Gl X x:=by rfl)(hn:x ≠ "__name__" := by decide)(hdb:(x==("__debug__" : Str))=false:=by decide)
  (he:starEach [a] X.env=(false,eval a X.env)::starEach [] X.env:=by rfl) (hpl:(backTo pos (starEach [] X.env)).any (·.1)=false:=by rfl):DE X (.Call (.Name x p) [a] [] pos) (d1 op fb) :=
 (L2.pe_callB hc hg hm hv (L2.pa_cons ha L2.pa_nil he) hn hdb he hpl).imp fun _ _ _ h=>oO hd h
theorem mW {op:D->Option Vl}(hc:L2.CallR X (.type T) r)(hd:UD X (fun x H Q=>r [x] H Q) op)(hm:X.mg x=none)(hv:bootBuiltins x=some (.type T))(ha:DB X a fb)(hg:L2.Gl X x:=by rfl)(hn:x ≠ "__name__" := by decide)(hdb:(x==("__debug__" : Str))=false:=by decide)
  (he:starEach [a] X.env=(false,eval a X.env)::starEach [] X.env:=by rfl) (hpl:(backTo pos (starEach [] X.env)).any (·.1)=false:=by rfl):DE X (.Call (.Name x p) [a] [] pos) (d1 op fb) :=
 (L2.pe_callTy hc hg hm hv (L2.pa_cons ha L2.pa_nil he) hn hdb he hpl).imp fun _ _ _ h=>oO hd h
theorem xt {op:O2}(hc:L2.CallR X (.builtin bid) r)(hd:OD X (fun x y H Q=>r [x,y] H Q) op)(hm:X.mg x=none)(hv:bootBuiltins x=some (.builtin bid))(ha:DB X a fb)(hb:DB X b gb)(hg:L2.Gl X x:=by rfl)(hn:x ≠ "__name__" := by decide)(hdb:(x==("__debug__" : Str))=false:=by decide)
  (he:starEach [a,b] X.env=(false,eval a X.env)::starEach [b] X.env:=by rfl) (he2:starEach [b] X.env=(false,eval b X.env)::starEach [] X.env:=by rfl) (hpl:(backTo pos (starEach [b] X.env)).any (·.1)=false:=by rfl):DE X (.Call (.Name x p) [a,b] [] pos) (d2 op fb gb) :=
 (L2.pe_callB hc hg hm hv (L2.pa_cons ha (L2.pa_cons hb L2.pa_nil he2) he) hn hdb he hpl).imp fun _ _ _ h=>vH hd h
theorem zC:UD X (fun x H Q=>(fun xs H Q=>∃p ys,xs=[.ref p]/\(dU X.K H p ys\/dN X.K H p ys)/\Q (.int (ys.length:Nat)) H:List V->Hp->VK->Prop) [x] H Q) dY:=by
 intro x vx H O r Q ne hx hf k;cases x <;> first|cases hf|skip
 ·obtain⟨a,vs,rfl,ha,qa⟩:=hx.list;rw[qa.length] at k;exact⟨a,vs,rfl,.inl ha,k _ H (.refl H) (.of (.int _))⟩
 ·obtain⟨a,vs,rfl,ha,qa⟩:=hx.tuple;rw[qa.length] at k;exact⟨a,vs,rfl,.inr ha,k _ H (.refl H) (.of (.int _))⟩
theorem vW:UD X (fun x H Q=>(fun xs H Q=>∃p ys,xs=[.ref p]/\((dU X.K H p ys/\∀l,H l=none->Q (.ref l) (cZ H l (.tup ys)))\/(dN X.K H p ys/\Q (.ref p) H)):List V->Hp->VK->Prop) [x] H Q) df:=by
 intro x vx H O r Q ne hx hf k;cases x <;> first|cases hf|skip
 ·obtain⟨a,vs,rfl,ha,qa⟩:=hx.list;refine⟨a,vs,rfl,.inl ⟨ha,fun p hp=>?_⟩⟩;have s2:cI H (cZ H p (.tup vs)):=fun b o e=>by rw[cq (cg e hp)];exact e
  exact k _ _ s2 (.of (.tuple (.inl (.inl cA)) (qa.same s2)))
 ·obtain⟨a,vs,rfl,ha,qa⟩:=hx.tuple;exact⟨a,vs,rfl,.inr ⟨ha,k _ H (.refl H) (.of (.tuple ha qa))⟩⟩
theorem oP {K:Fg}{H:Hp}{O:List Addr}:∀{ds:List D}{vs:List V}{bs:List Bool},Rs K H O ds vs->iG ds=some bs->vs=bs.map V.bl:=by
 intro ds;induction ds with
 |nil=>intro vs bs q h;cases q;cases h;rfl
 |cons d ds ih =>
  intro vs bs q h;cases q with
  |cons q qs =>
    unfold iG at h;cases hb:qi d with
    |none=>rw[hb] at h;cases h
    |some b =>
     rw[hb,aa] at h;cases hr:iG ds with
     |none=>rw[hr] at h;cases h
     |some cs =>
      rw[hr] at h;cases h;rw[rO hb] at q;cases q;rw[ih qs hr];rfl
theorem zE:UD X (fun x H Q=>(fun xs H Q=>∃(a:Addr) (ys:List V) (bs:List Bool),xs=[.ref a]/\(dU X.K H a ys\/dN X.K H a ys)/\ys=bs.map V.bl/\Q (.bl (bs.all id)) H:List V->Hp->VK->Prop) [x] H Q) iA:=by
 intro x vx H O r Q ne hx hf k;cases x <;> first|cases hf|skip
 ·obtain⟨a,vs,rfl,ha,qa⟩:=hx.list;rename_i ds;unfold iA at hf;dsimp only at hf;cases hb:iG ds with
  |none=>rw[hb] at hf;cases hf
  |some bs =>
   rw[hb] at hf;cases hf;exact⟨a,vs,bs,rfl,.inl ha,oP qa hb,k _ H (.refl H) (.of (.bool _))⟩
 ·obtain⟨a,vs,rfl,ha,qa⟩:=hx.tuple;rename_i ds;unfold iA at hf;dsimp only at hf;cases hb:iG ds with
  |none=>rw[hb] at hf;cases hf
  |some bs =>
   rw[hb] at hf;cases hf;exact⟨a,vs,bs,rfl,.inr ha,oP qa hb,k _ H (.refl H) (.of (.bool _))⟩
theorem zX:OD X (fun x y H Q=>(fun xs H Q=>∃i j,xs=[.int i,.int j]/\Q (.int (if j>i then j else i)) H:List V->Hp->VK->Prop) [x,y] H Q) wC:=by
 intro x y vx vy H O r Q ne hx hy hf k;obtain⟨_,_,rfl,rfl⟩:=kW (fun x y n=>by cases x <;> first|rfl|exact absurd rfl (n _)) (fun i y n=>by cases y <;> first|rfl|exact absurd rfl (n _)) hf;cases hf;cases hx.int;cases hy.int;exact⟨_,_,rfl,k _ H (.refl H) (.of (.int _))⟩
theorem gi (hm:X.mg "len" = none)(ha:DB X a fb)(hg:L2.Gl X "len" := by rfl)(he:starEach [a] X.env=(false,eval a X.env)::starEach [] X.env:=by rfl):DE X (.Call (.Name "len" p) [a] [] pos) (d1 dY fb):=iP L2.call_len_seq zC hm PySem.boot_len ha hg (by decide) (by decide) he
theorem eh (hm:X.mg "tuple" = none)(ha:DB X a fb)(hg:L2.Gl X "tuple" := by rfl)(he:starEach [a] X.env=(false,eval a X.env)::starEach [] X.env:=by rfl):DE X (.Call (.Name "tuple" p) [a] [] pos) (d1 df fb):=mW L2.call_tuple_of vW hm PyProof.Rows.boot_tuple ha hg (by decide) (by decide) he
theorem lO (hc:X.calm=true)(hm:X.mg "all" = none)(ha:DB X a fb)(hg:L2.Gl X "all" := by rfl)(he:starEach [a] X.env=(false,eval a X.env)::starEach [] X.env:=by rfl):DE X (.Call (.Name "all" p) [a] [] pos) (d1 iA fb):=iP (L2.call_allB hc) zE hm PyProof.Rows.boot_all ha hg (by decide) (by decide) he
theorem An (hc:X.calm=true)(hm:X.mg "max" = none)(ha:DB X a fb)(hb:DB X b gb)(hg:L2.Gl X "max" := by rfl)(he:starEach [a,b] X.env=(false,eval a X.env)::starEach [b] X.env:=by rfl)(he2:starEach [b] X.env=(false,eval b X.env)::starEach [] X.env:=by rfl)(hpl:(backTo pos (starEach [b] X.env)).any (·.1)=false:=by rfl) :
  DE X (.Call (.Name "max" p) [a,b] [] pos) (d2 wC fb gb):=xt (L2.call_max2 hc) zX hm PyProof.Rows.boot_max ha hb hg (by decide) (by decide) he he2 hpl
noncomputable def xI:List String:=["bool", "int", "str", "tuple", "list"]
noncomputable def vb (t T:String):Bool:=T==t||(t == "bool" && T == "int")
theorem mR (K:Fg):∀t∈xI,∀T∈xI,PySem.W.kitOne K (.type t) (.type T)=some (vb t T):=by
 intro t ht T hT;simp only[xI,aw,bH,or_false] at ht hT;rcases ht with rfl|rfl|rfl|rfl|rfl <;> rcases hT with rfl|rfl|rfl|rfl|rfl <;> kernel_rfl
theorem zD {T:String}(hT:T∈xI):UD X (fun x H Q=>∃t b,L2.KdV X.K H x t/\PySem.W.kitOne X.K (.type t) (.type T)=some b/\Q (.bl b) H) (i7 T):=by
 intro x vx H O r Q ne hx hf k;cases x <;> first|cases hf|skip
 ·cases hx.bool;refine⟨"bool", _,rfl,mR _ _ (by simp[xI]) _ hT,?_⟩;have:=k _ H (.refl H) (.of (.bool _));simp only[tQ] at this;simpa [vb] using this
 ·cases hx.int;refine⟨"int", _,rfl,mR _ _ (by simp[xI]) _ hT,?_⟩;have:=k _ H (.refl H) (.of (.bool _));simp only[tQ] at this;simpa [vb] using this
 ·cases hx.str;refine⟨"str", _,rfl,mR _ _ (by simp[xI]) _ hT,?_⟩;have:=k _ H (.refl H) (.of (.bool _));simp only[tQ] at this;simpa [vb] using this
 ·obtain⟨a,vs,rfl,ha,qa⟩:=hx.list;refine⟨"list", _,.inr ⟨rfl,vs,ha⟩,mR _ _ (by simp[xI]) _ hT,?_⟩;have:=k _ H (.refl H) (.of (.bool _));simp only[tQ] at this;simpa [vb] using this
 ·obtain⟨a,vs,rfl,ha,qa⟩:=hx.tuple;refine⟨"tuple", _,.inl ⟨rfl,vs,ha⟩,mR _ _ (by simp[xI]) _ hT,?_⟩;have:=k _ H (.refl H) (.of (.bool _));simp only[tQ] at this;simpa [vb] using this
theorem lN {y:Str}{T:String}{p2:Pos}(hm:X.mg "isinstance" = none)(hmT:X.mg y=none)(hvT:bootBuiltins y=some (.type T))(ha:DB X a fb)(hT:T∈xI:=by decide)(hg:L2.Gl X "isinstance" := by rfl)(hgT:L2.Gl X y:=by rfl)(hnT:y ≠ "__name__" := by decide)(hdT:(y==("__debug__" : Str))=false:=by decide)
  (he:starEach [a,.Name y p2] X.env=(false,eval a X.env)::starEach [.Name y p2] X.env:=by rfl) (he2:starEach [.Name y p2] X.env=(false,eval (.Name y p2) X.env)::starEach [] X.env:=by rfl) (hpl:(backTo pos (starEach [.Name y p2] X.env)).any (·.1)=false:=by rfl) :
  DE X (.Call (.Name "isinstance" p) [a,.Name y p2] [] pos) (d1 (i7 T) fb) :=
 (L2.pe_callB L2.call_isa hg hm PyProof.Rows.boot_isinstance (L2.pa_cons ha (L2.pa_cons (L2.pe_bltn (v:=.ty T) hgT hmT hvT rfl hnT hdT) L2.pa_nil he2) he) (by decide) (by decide) he hpl).imp fun σ H Q h=>by
  obtain⟨ρ,O,M,lad,res,hE,hf,k⟩:=h;unfold d1 at hf;cases hx:fb ρ with
  |none=>rw[hx] at hf;cases hf
  |some x =>
   rw[hx,aa] at hf;refine⟨ρ,O,M,lad,x,hE,hx,fun vx H1 s1 q1=>?_⟩;obtain⟨t,b,kd,e,q⟩:=zD hT x vx H1 O res Q (hE.same s1).ne q1 hf fun v H' s q=>k v H' (s1.trans s) (q.back s1);exact⟨vx,t,T,b,rfl,kd,e,q⟩
end
end DL
namespace DL
open PySem PySem.Spec PySem.SeqAt
open L2 (V Hp St HO VK TE TT TA TS TI TG Cx Inv PE PT PA PS PSs PI PG dN dU cI cZ cA cq cg cH cP EP TP AP SP di It)
def vM (n:Nat)(g:GD):Prop:=∀d ρ ρ1,g d ρ=some ρ1->ρ1.length=ρ.length/\∀i:Nat,n<=i->ρ1[i]?=ρ[i]?
theorem dE {n i:Nat}(h:i<n:=by decide):vM n (gN i):=fun d ρ ρ1 e=>by
 cases e;exact⟨by rw[aP],fun j hj=>by rw[ae ⋯]⟩
def um (n:Nat)(gs:List GD):Prop:=∀ds ρ ρ1,mS gs ds ρ=some ρ1->ρ1.length=ρ.length/\∀i:Nat,n<=i->ρ1[i]?=ρ[i]?
theorem yh {n:Nat}:um n []:=fun ds ρ ρ1 e=>by
 cases ds with
 |nil=>cases e;exact⟨rfl,fun _ _=>rfl⟩
 |cons _ _=>cases e
theorem qI {n:Nat}{g:GD}{gs:List GD}(h:vM n g)(hs:um n gs):um n (g::gs):=fun ds ρ ρ1 e=>by
 cases ds with
 |nil=>cases e
 |cons d ds =>
  unfold mS at e;cases hx:g d ρ with
  |none=>rw[hx] at e;cases e
  |some ρ2 =>
   rw[hx,aa] at e;obtain⟨l1,q1⟩:=h _ _ _ hx;obtain⟨l2,q2⟩:=hs _ _ _ e;exact⟨l2.trans l1,fun i hi=>(q2 i hi).trans (q1 i hi)⟩
theorem yg {n:Nat}{gs:List GD}(hs:um n gs):vM n (gT gs):=fun d ρ ρ1 e=>by
 unfold gT at e;split at e
 ·exact hs _ _ _ e
 ·cases e
theorem vB {n:Nat}{ix:List Nat}{ρ:Sl}{i:Nat}(h:i<n):(dF n ix ρ)[i]?=some none:=by
 unfold dF;rw[bF (by rw[aS];exact h),bS,if_pos h]
theorem dB {n:Nat}{ix:List Nat}{ρ:Sl}{i:Nat}{x:Vl}(h:(dF n ix ρ)[i]?=some (some x)):n<=i/\∃j,ix[i-n]?=some j/\ρ[j]?=some (some x):=by
 by_cases hi:i<n
 ·rw[vB hi] at h;cases h
 ·refine⟨by omega,?_⟩;unfold dF at h;rw[aU (by rw[aS];omega),aS,aN] at h;cases ej:ix[i-n]? with
  |none=>rw[ej] at h;cases h
  |some j =>
   rw[ej,ag] at h;refine⟨j,rfl,?_⟩;cases er:ρ[j]? with
   |none=>rw[er] at h;cases h
   |some y=>rw[er] at h;exact congrArg some (aL.inj h)
theorem eX {n:Nat}{ix:List Nat}{σ:St}{i j:Nat}{v:V}(hi:n<=i)(hj:ix[i-n]?=some j)(h:σ[j]?=some (some v)):(L2.capt n ix σ)[i]?=some (some v):=by
 unfold L2.capt;rw[aU (by rw[aS];omega),aS,aN,hj,ag,h];rfl
theorem ER.capt {K:Fg}{H:Hp}{O M:List Addr}{lad:Nat->Addr}{ρ:Sl}{σ:St}(n:Nat){ix:List Nat}(hix:ix.Nodup)(h:ER K H O M lad ρ σ):ER K H O M (fun i=>lad (ix.getD (i-n) 0)) (dF n ix ρ) (L2.capt n ix σ) where
 sh:=fun i d e=>by
  obtain⟨hi,j,hj,hr⟩:=dB e;obtain⟨v,e1,q⟩:=h.sh j d hr;exact⟨v,eX hi hj e1,q⟩
 ow:=fun i d e=>by
  obtain⟨hi,j,hj,hr⟩:=dB e;obtain⟨a,vs,e2,r⟩:=h.ow j d hr;exact⟨a,vs,eX hi hj e2,r⟩
 le:=fun i d e=>by
  obtain⟨hi,j,hj,hr⟩:=dB e;obtain⟨e2,r⟩:=h.le j d hr;have z:ix.getD (i-n) 0=j:=by rw[aR,hj];rfl
  rw[z];exact⟨eX hi hj e2,r⟩
 ap:=fun i k d e a e1 e2 e3 e4=>by
  obtain⟨hi,j,hj,hr⟩:=dB e1;obtain⟨hk,l,hl,hs⟩:=dB e2;obtain⟨a1,_,f1,_⟩:=h.ow j d hr;obtain⟨a2,_,f2,_⟩:=h.ow l e hs;have g1:=eX hi hj f1;have g2:=eX hk hl f2;rw[e3] at g1;rw[e4] at g2;cases g1;cases g2;have:=h.ap j l d e a hr hs f1 f2;subst this;have:i-n=k-n:=by
   obtain⟨h1,z1⟩:=aE.mp hj;obtain⟨h2,z2⟩:=aE.mp hl;exact (List.getElem_inj hix).mp (z1.trans z2.symm)
  omega
 tr:=h.tr
 sub:=h.sub
 len:=by
  unfold dF L2.capt;rw[au,au,aS,aS,ah,ah]
 dp:=by
  have inj:∀{i k j:Nat},n<=i->n<=k->ix[i-n]?=some j->ix[k-n]?=some j->i=k:=fun {i k j} hi hk h1 h2=>by
   obtain⟨l1,z1⟩:=aE.mp h1;obtain⟨l2,z2⟩:=aE.mp h2;have:i-n=k-n:=(List.getElem_inj hix).mp (z1.trans z2.symm);omega
  refine⟨fun i ds e=>?_,fun i k ds es e1 e2=>?_⟩
  ·obtain⟨hi,j,hj,hr⟩:=dB e;rcases h.dp.pk j ds hr with ⟨ds',rfl,a,bs,h1,h2,h3,h4,h5,h6⟩|⟨kvs,rfl,a,es',h1,h2,h3,h5,h6⟩
   ·refine .inl ⟨ds',rfl,a,bs,eX hi hj h1,h2,h3,h4,h5,fun k es c z1 z2=>?_⟩;obtain⟨hk,l,hl,hs⟩:=dB z1;obtain⟨a2,_,f2,_⟩:=h.ow l es hs;have g2:=eX hk hl f2;rw[z2] at g2;cases g2;exact h6 l es c hs f2
   ·refine .inr ⟨kvs,rfl,a,es',eX hi hj h1,h2,h3,h5,fun k es c z1 z2=>?_⟩;obtain⟨hk,l,hl,hs⟩:=dB z1;obtain⟨a2,_,f2,_⟩:=h.ow l es hs;have g2:=eX hk hl f2;rw[z2] at g2;cases g2;exact h6 l es c hs f2
  ·obtain⟨hi,j,hj,hr⟩:=dB e1;obtain⟨hk,l,hl,hs⟩:=dB e2;have:=h.dp.one j l ds es hr hs;subst this;exact inj hi hk hj hl
theorem ER.fewer {K:Fg}{H:Hp}{O M:List Addr}{lad:Nat->Addr}{ρ ρ':Sl}{σ:St}(h:ER K H O M lad ρ σ)(hl:ρ'.length=ρ.length)(le:∀(i:Nat) x,ρ'[i]?=some (some x)->ρ[i]?=some (some x)):ER K H O M lad ρ' σ :=
 ⟨fun i d e=>h.sh i d (le i _ e),fun i d e=>h.ow i d (le i _ e),fun i d e=>h.le i d (le i _ e),fun i j d e a e1 e2=>h.ap i j d e a (le i _ e1) (le j _ e2),h.tr,h.sub,hl.trans h.len,h.dp.go (.same (.refl _)) (fun i ds e=>⟨le i _ e,rfl⟩) (fun b hb _=>⟨hb,fun _ e=>e⟩) fun j es c e1 e2=>.inr ⟨j,es,le j _ e1,e2⟩⟩
theorem ER.more {K:Fg}{H H':Hp}{O O' M:List Addr}{lad:Nat->Addr}{ρ:Sl}{σ:St}(h:ER K H O M lad ρ σ)(x:gL [] O H O' H')(so:∀b∈O,b∈O')(tr:∀b∈O',∃u,H' b=some (oW u))(kl:∀b u,H b=some (oW u)->H' b=some (oW u)):ER K H' O' M lad ρ σ where
 sh:=fun i d e=>let ⟨v,e1,q⟩:=h.sh i d e;⟨v,e1,q.ext x⟩
 ow:=fun i d e=>let ⟨a,vs,e2,e3,e4,q⟩:=h.ow i d e;⟨a,vs,e2,kl _ (.inl _) e3,e4,q.ext x⟩
 le:=fun i d e=>let ⟨e2,vs,e3,e4,e5,q⟩:=h.le i d e;⟨e2,vs,kl _ (.inl _) e3,so _ e4,e5,q.ext x⟩
 ap:=h.ap
 tr:=tr
 sub:=fun b hb=>so b (h.sub b hb)
 len:=h.len
 dp:=h.dp.go x (fun _ _ e=>⟨e,rfl⟩) (fun b hb _=>⟨hb,fun vs e=>kl _ _ e⟩) fun j es c e1 e2=>.inr ⟨j,es,e1,e2⟩
theorem rH {K:Fg}{it:AD}{n:Nat}{ix:List Nat}{g:GD}{t:TD}{e:ED}(hix:ix.Nodup)(hg:vM n g){σ:St}{H:Hp}{Q:VK}(h:uE K (de it n ix g t e) σ H Q) :
  L2.tComp (uI K it) n ix (uG K g) (uT K t) (uE K e) σ H Q:=by
 obtain⟨ρ,O,M,lad,res,hE,hf,k⟩:=h;unfold de at hf;cases hd:it ρ with
 |none=>rw[hd] at hf;cases hf
 |some ds =>
  rw[hd,aa] at hf;split at hf
  ·rename_i hz;cases hc:iT g t e (dF n ix ρ) ds with
   |none=>rw[hc] at hf;cases hf
   |some xs =>
    rw[hc,ag] at hf;cases hf;refine⟨ρ,O,M,lad,ds,hE,hd,fun J H1 s1 iok=>fun L hL=>?_⟩;have hLO:L∉O:=fun z=>(hE.same s1).ne L z hL;refine⟨fun i m σ' H'=>m=ds.length-i/\i<=ds.length/\cI H1 H'/\∃ys vs,ys.length<=i/\H' L=some (.lst vs)/\Rs K H' (L::O) ys vs/\ER K H' (L::O) M (fun i=>lad (ix.getD (i-n) 0)) (dF n ix ρ) σ' ∧
     (iT g t e (dF n ix ρ) (ds.drop i)).map (fun r=>ys++r)=some xs,⟨ds.length,by simp,bt _,?_,[],[],bt _,cA,.nil,?_,by simp[hc]⟩,?_⟩
    ·exact fun b o e=>by rw[cq (cg e hL)];exact e
    ·have E1:=(hE.same s1).capt n hix;have x:gL [] O H1 (L::O) (cZ H1 L (.lst [])):=gL.fresh (fun b o e=>by rw[cq (cg e hL)];exact e) hL;refine E1.more x (fun b hb=>ao _ hb) (fun b hb=>?_) fun b vs e=>by rw[cq (cg e hL)];exact e
     rcases aw.mp hb with z|z
     ·subst z;exact⟨.inl [],cA⟩
     ·obtain⟨vs,e⟩:=E1.tr b z;exact⟨vs,by rw[cq (cg e hL)];exact e⟩
    ·rintro i m σ' H' ⟨rfl,hi,sm,ys,vs,hl,hD,qs,E',hrest⟩;have x0:gL [] O H1 (L::O) H':=gL.fresh sm hL;have x:gL M O H1 (L::O) H':=⟨x0.tup,x0.frz,fun b xs _ e=>sm b _ e,fun b φ _ e=>sm b _ e,x0.new,hE.sub⟩;obtain⟨go,stop⟩:=iok _ _ x;by_cases hlt:i<ds.length
     ·have ed:ds.drop i=ds[i]::ds.drop (i+1):=CI hlt;rw[ed] at hrest;unfold iT at hrest;cases hg1:g ds[i] (dF n ix ρ) with
      |none=>rw[hg1] at hrest;cases hrest
      |some ρ1 =>
       rw[hg1,aa] at hrest;cases ht:t ρ1 with
       |none=>rw[ht] at hrest;cases hrest
       |some c =>
        rw[ht,aa] at hrest;obtain⟨g1,g2⟩:=go i ds[i] (by simp[hlt]);obtain⟨ln,keep⟩:=hg _ _ _ hg1;have back:∀(j:Nat) y,(dF n ix ρ)[j]?=some (some y)->ρ1[j]?=some (some y):=fun j y e=>by
         rw[keep j (dB e).1];exact e
        refine .inr ⟨g1,fun σ2 H2=>cI H1 H2/\∃ys vs,ys.length<=i+1/\H2 L=some (.lst vs)/\Rs K H2 (L::O) ys vs/\ER K H2 (L::O) M (fun i=>lad (ix.getD (i-n) 0)) (dF n ix ρ) σ2/\(iT g t e (dF n ix ρ) (ds.drop (i+1))).map (fun r=>ys++r)=some xs,
         fun σ2 H2 ⟨s2,r⟩=>⟨ds.length-(i+1),by omega,rfl,hlt,s2,r⟩,fun v H2 hy=>?_⟩
        obtain⟨s2,q2⟩:=g2 v H2 hy;refine⟨_,_,M,_,ds[i],ρ1,E'.same s2,q2,hg1,fun σ3 H3 s3 E3=>⟨ρ1,_,M,_,c,E3,ht,fun H4 s4=>?_⟩⟩;have S4:cI H' H4:=(s2.trans s3).trans s4;have E4:ER K H4 (L::O) M (fun i=>lad (ix.getD (i-n) 0)) ρ1 σ3:=E3.same s4;cases c with
        |false =>
         dsimp only at hrest ⊢;rw[if_neg Bool.false_ne_true] at hrest ⊢;exact⟨sm.trans S4,ys,vs,by omega,S4 _ _ hD,qs.same S4,E4.fewer ln.symm back,hrest⟩
        |true =>
         dsimp only at hrest ⊢;rw[if_pos rfl] at hrest ⊢;cases he:e ρ1 with
         |none=>rw[he] at hrest;cases hrest
         |some r1 =>
          rw[he,aa] at hrest;cases hc2:iT g t e (dF n ix ρ) (ds.drop (i+1)) with
          |none=>rw[hc2] at hrest;cases hrest
          |some zs =>
           rw[hc2,ag,ag] at hrest;cases hrest;refine⟨ρ1,_,M,_,r1,E4,he,fun y H5 s5 q5=>?_⟩;have S5:cI H' H5:=S4.trans s5;have hl2:=qs.length;have qy:=q5.toR E4.ne;have s6:gL [L] (L::O) H5 (L::O) (cZ H5 L (.lst (vs++[y]))):=by
            have hD5:=S5 _ _ hD;refine⟨fun b xs e=>?_,fun b o u e=>?_,fun b xs nb e=>?_,fun b φ nb e=>?_,fun b hb=>.inl hb,fun b hb=>(aM.mp hb)▸aC⟩
            ·rw[cq (fun (z:b=L)=>by rw[z,hD5] at e;cases e)];exact e
            ·rw[cq (fun (z:b=L)=>by rw[z,hD5] at e;cases e)];exact e
            ·rw[cq (fun (z:b=L)=>nb (by rw[z];exact aM.mpr rfl))];exact e
            ·rw[cq (fun (z:b=L)=>nb (by rw[z];exact aM.mpr rfl))];exact e
           have kl:∀b us,b≠L->H5 b=some (oW us)->(cZ H5 L (.lst (vs++[y]))) b=some (oW us):=fun b us nb e=>by rw[cq nb];exact e
           refine⟨vs,S5 _ _ hD,by omega,?_,ys++[r1.1],vs++[y],by rw[au,aJ];omega,cA,((qs.same S5).append (.cons qy .nil)).ext s6,?_,by rw[ag,aK];rfl⟩
           ·intro b o e;rw[cq (cg e hL)];exact S5 _ _ (sm _ _ e)
           ·have E5:ER K H5 (L::O) M (fun i=>lad (ix.getD (i-n) 0)) (dF n ix ρ) σ3:=(E4.same s5).fewer ln.symm back;have nM:∀b∈M,b≠L:=fun b hb z=>hLO (z▸hE.sub b hb);have nL:∀(j:Nat) (d:List D),(dF n ix ρ)[j]?=some (some (mQ d,true))->lad (ix.getD (j-n) 0)≠L:=fun j d e z=>by
             obtain⟨hi,j',hj,hr⟩:=dB e;obtain⟨_,_,_,e4,_⟩:=hE.le j' d hr;have z':ix.getD (j-n) 0=j':=by rw[aR,hj];rfl
             rw[z'] at z;exact hLO (z▸e4)
            exact⟨fun j d e=>let ⟨w,e1,q⟩:=E5.sh j d e;⟨w,e1,q.ext s6⟩,
             fun j d e=>let ⟨a,us,e2,e3,e4,q⟩:=E5.ow j d e;⟨a,us,e2,kl _ (.inl _) (nM a e4) e3,e4,q.ext s6⟩,
             fun j d e=>let ⟨e2,us,e3,e4,e5,q⟩:=E5.le j d e;⟨e2,us,kl _ (.inl _) (nL j d e) e3,e4,e5,q.ext s6⟩,E5.ap,
             fun b hb=>by
              by_cases z:b=L
              ·subst z;exact⟨.inl _,cA⟩
              ·obtain⟨us,e⟩:=E5.tr b hb;exact⟨us,kl b us z e⟩,E5.sub,E5.len,
             E5.dp.go s6 (fun _ _ e=>⟨e,rfl⟩) (fun b hb _=>⟨hb,fun us e=>kl b us (nM b hb) e⟩) fun j es c e1 e2=>.inr ⟨j,es,e1,e2⟩⟩
     ·have ei:i=ds.length:=by omega
      subst ei;rw[List.drop_length] at hrest;unfold iT at hrest;rw[ag,aT] at hrest;have ee:=aL.inj hrest;subst ee;exact .inl ⟨stop,k _ H' (s1.trans sm) (.inr ⟨rfl,L,ys,vs,rfl,rfl,s1.free hL,hD,qs⟩)⟩
  ·cases hf
section
variable {X:Cx}{e a b c elt tg iter:Expr}{es ifs:List Expr}{f g:ED}{fb gb hb' kb:BD}{t u:TD}{pos:Pos}{it:AD}{gd:GD}{scope:Scope}{own caps:List Str}{ix:List Nat}
def B8 (X:Cx)(ifs:List Expr)(t:TD):Prop:=L2.PTs X ifs (uT X.K t)
theorem eD:B8 X [] eB:=L2.pts_nil.imp fun σ H Q zz=>by
 obtain ⟨ρ,O,M,lad,b,hE,hf,k⟩:=zz;cases hf;exact k H (.refl H)
theorem eW (S:L2.CompSc X.env.scope X.N scope own ix caps)(hc:X.calm=true)(hix:ix.Nodup)(hw:vM own.length gd)(hi:DI X tg iter it)
  (hg:∀s₀ H₀ ex pn,DG (L2.compCx X scope (own++caps) s₀ H₀ ex pn) tg gd) (ht:∀s₀ H₀ ex pn,B8 (L2.compCx X scope (own++caps) s₀ H₀ ex pn) ifs t) (he:∀s₀ H₀ ex pn,DE (L2.compCx X scope (own++caps) s₀ H₀ ex pn) elt f)
  (hs:∀x,foldedSetIterable iter X.env x=pure x:=by intro _;rfl):DE X (.ListComp elt [⟨tg,iter,ifs,0⟩] scope pos) (de it own.length ix gd t f) :=
 (L2.pe_lcomp (g:=uG X.K gd) (tc:=uT X.K t) (te:=uE X.K f) S hc hi hg ht he hs).imp fun σ H Q h=>rH hix hw h
theorem yJ {spos py:Pos}{i:Nat}{y:Str}(hN:X.N.Nodup)(S:L2.CompSc X.env.scope X.N scope own ix caps)(hc:X.calm=true)(hix:ix.Nodup)(hw:vM own.length gd)(hi:DI X tg iter it)
  (hg:∀s₀ H₀ ex pn,DG (L2.compCx X scope (own++caps) s₀ H₀ ex pn) tg gd) (ht:∀s₀ H₀ ex pn,B8 (L2.compCx X scope (own++caps) s₀ H₀ ex pn) ifs t) (he:∀s₀ H₀ ex pn,DE (L2.compCx X scope (own++caps) s₀ H₀ ex pn) elt f)
  (hiN:X.N[i]?=some y:=by rfl) (hy:X.env.scope.names.lookup y=some .local:=by rfl)
  (hsw:swapsWith (.ListComp elt [⟨tg,iter,ifs,0⟩] scope pos) (some (.Name y py)) spos.line X.env=pure true:=by rfl)
  (hs:∀x,foldedSetIterable iter X.env x=pure x:=by intro _;rfl):DS X (.Assign [.Name y py] (.ListComp elt [⟨tg,iter,ifs,0⟩] scope pos) spos) (cO i (de it own.length ix gd t f)):=fun B H₀ M₀ lad =>
 (L2.ps_lcomp (g:=uG X.K gd) (tc:=uT X.K t) (te:=uE X.K f) S hc hN hiN hy hi hg ht he hsw hs).imp fun E σ H h=>rH hix hw (tD h)
theorem mP {K:Fg}{H H1:Hp}{O:List Addr}{ds:List D}{vs:List V}{Q:VK}(s1:cI H H1)(qa:Rs K H1 O ds vs)(k:∀v H',cI H H'->lV K H O H' (.list ds,true) v->Q v H'):∀l,H1 l=none->Q (.ref l) (cZ H1 l (.lst vs)):=fun p hp=>by
 have s2:cI H1 (cZ H1 p (.lst vs)):=fun b o e=>by rw[cq (cg e hp)];exact e
 refine k _ _ (s1.trans s2) (.inr ⟨rfl,p,ds,vs,rfl,rfl,s1.free hp,cA,qa.ext (gL.fresh s2 hp)⟩)
end
theorem l7 {n m:Nat}{b:SD}{ds:List D}{r:Vl}(h:jZ n m b ds=some r):ds.length=n:=by
 unfold jZ at h;split at h
 ·assumption
 ·cases h
theorem qE {K:Fg}{H:Hp}{B:List Addr}{m:Nat}{ds:List D}{vs:List V}(q:Rs K H B ds vs)(tr:∀a∈B,∃u,H a=some (oW u))(lad:Nat->Addr):ER K H ([]++B) [] lad (ds.map (fun d=>some (d,false))++bD m none) (vs.map some++bD m none):=by
 have fl:∀{i:Nat}{d:D}{o:Bool},(ds.map (fun d=>some (d,false))++bD m none:Sl)[i]?=some (some (d,o))->o=false/\ds[i]?=some d:=fun {i d o} e=>by
  by_cases hi:i<ds.length
  ·rw[bF (by rw[ah];exact hi),aN] at e;cases er:ds[i]? with
   |none=>rw[er] at e;cases e
   |some d'=>rw[er] at e;cases e;exact⟨rfl,rfl⟩
  ·rw[aU (by rw[ah];omega),bS] at e;split at e <;> cases e
 refine⟨fun i d e=>?_,fun i d e=>?_,fun i d e=>?_,fun i j d e a e1=>?_,tr,(fun a ha=>nomatch ha),by rw[au,au,ah,ah,q.length];simp,.none_ fun i x e=>(fl (d:=x.1) (o:=x.2) e).1⟩
 ·obtain⟨_,ed⟩:=fl e;obtain⟨v,ev,rv⟩:=q.get ed;refine⟨v,?_,rv⟩;have hi:i<vs.length:=(aE.mp ev).1;rw[bF (by rw[ah];exact hi),aN,ev];rfl
 ·cases (fl e).1
 ·cases (fl e).1
 ·cases (fl e1).1
theorem fF {P:Program}{w:World}{K:Fg}{mg:Str->Option Value}{base:Heap}{x qual:Str}{st:Stmt}{f:Addr}{fd:FuncData}{N ps:List Str}{k:Nat}{b:SD}(F:L2.Fun K x qual st f fd)(S:L2.FnScope N ps (L2.defScope st))
  (hb:∀(cdv:Value) (A:Around) (outer:List Env) (s:Shared) (H:Hp) (E:L2.XK),L2.Room k (A.deeper (PyProof.Rows.envOfC qual (L2.defScope st) s.heap.objs.size f cdv))->uu (L2.cxOf L2.CX0 P w K mg base N qual (L2.defScope st) f cdv A outer s H E).nox (L2.defBody st) b) :
  L2.FnOk P w K mg base L2.CX0 (k+1) f fd ps (spD K (jZ ps.length (N.length-ps.length) b)):=by
 refine F.ok S (fun vs H Q E zz=>by obtain ⟨ds,B,r,q,_,hF,_⟩:=zz; rw[<-q.length];exact l7 hF) fun cdv A outer s H vs Q E hr zz=>?_;obtain ⟨ds,B,r,q,tr,hF,kk⟩:=zz;have hl:=l7 hF;refine⟨_,hb cdv A outer s H E hr B H [] (fun _=>f),?_⟩;unfold jZ at hF;rw[if_pos hl] at hF;cases hfl:b (ds.map (fun d=>some (d,false))++bD (N.length-ps.length) none) with
 |none=>rw[hfl] at hF;cases hF
 |some fl =>
  rw[hfl,aa] at hF;have same:∀{M':List Addr}{H':Hp},fj [] H M' H'->cI H H':=fun x b o e=>x.keep b o (fun z=>(nomatch z)) e;refine⟨_,fl,⟨[],.refl [] H,(fun _ z=>nomatch z),?_⟩,hfl,?_⟩
  ·have:=qE (m:=N.length-ps.length) q tr (fun _=>f);unfold L2.start;rw[<-q.length,hl];exact this
  ·cases fl with
   |next ρ =>
    cases hF;exact fun σ H' ⟨M',x,_,_⟩=>kk _ H' (same x) (.of .none)
   |ret r' =>
    cases hF;refine fun v H' ⟨⟨M',x⟩,q'⟩=>kk v H' (same x) ?_;rcases q' with q'|⟨e,a,es,us,e1,e2,e3,e4,q'⟩
    ·exact .inl q'
    ·exact .inr ⟨e,a,es,us,e1,e2,e3.elim (fun z=>(nomatch z)) id,e4,q'⟩
   |brk ρ=>cases hF
   |cont ρ=>cases hF
end DL
namespace DL
open PySem PySem.Spec PySem.SeqAt
open L2 (V Hp St HO VK TE TT TA TS TI TG Cx Inv PE PT PA PS PSs PI PG dN dU cI cZ cA cq cg cH cP EP TP AP SP di It)
structure gH (P:Program)(w:World)(K:Fg)(mg:Str->Option Value)(base:Heap)(k:Nat)(x:Str)(ps:List Str)(F:FD):Prop where
 ex:∃(fa:Addr) (fd:FuncData),L2.FnOk P w K mg base L2.CX0 k fa fd ps (spD K F)/\mg x=some (.ref fa)/\PySem.W.keepIn K (.ref fa)=true/\L2.Binds K fd ps []
theorem dm {X:Cx}{e:Expr}{es:List Expr}{pos p:Pos}{k j:Nat}{ps:List Str}{F:FD}{x:Str}{t:AD}(G:gH X.prog X.w X.K X.mg X.base k x ps F)(hr:L2.Room j X.A)(ha:DA X (e::es) t)(hj:k<=j:=by decide)(hg:L2.Gl X x:=by rfl)
  (hdb:(x==("__debug__" : Str))=false:=by decide) (he:starEach (e::es) X.env=(false,eval e X.env)::starEach es X.env:=by rfl) (hpl:(backTo pos (starEach es X.env)).any (·.1)=false:=by rfl) :
  DE X (.Call (.Name x p) (e::es) [] pos) (cE F t):=by
 obtain⟨fa,fd,h1,h2,h3,h4⟩:=G.ex;exact yQ h1 (hr.mono hj) hg h2 h3 h4 ha hdb he hpl
theorem zu {X:Cx}{x:Str}{i:Int}{pos:Pos}(hm:∃tk,X.mg x=some (.int i tk))(hg:L2.Gl X x:=by rfl)(hd:(x==("__debug__" : Str))=false:=by decide):DE X (.Name x pos) (dC (.int i)):=by
 obtain⟨tk,hm⟩:=hm;exact yO hg hm hd
end DL
namespace DL
open PySem PySem.Spec PySem.SeqAt
open L2 (V Hp St HO VK Cx dN dU)
noncomputable def ue (osc:Scope)(oN:List Str)(scope:Scope)(own:List Str)(ix:List Nat)(caps:List Str):Bool :=
 decide (scope.kind=.function)&&decide ((own++caps).Nodup)&&own.all (fun x=>scope.names.lookup x==some .local||scope.names.lookup x==some .cell)&&decide (ix.map (fun j=>oN[j]?)=caps.map some) &&
 scope.names.all (fun p=>p.2 != .free||osc.names.lookup p.1==some .cell||osc.names.lookup p.1==some .free)&&caps.all (fun y=>scope.names.any fun p=>p.1==y&&p.2==.free)&&scope.names.all (fun p=>scope.names.lookup p.1==some p.2)
theorem eE {X:Cx}{osc scope:Scope}{oN own caps:List Str}{ix:List Nat}(h1:X.env.scope=osc)(h2:X.N=oN)(h:ue osc oN scope own ix caps=true):L2.CompSc X.env.scope X.N scope own ix caps:=by
 rw[h1,h2];unfold ue at h;simp only[Bool.and_eq_true,decide_eq_true_eq,bh,Bool.or_eq_true,beq_iff_eq,List.any_eq_true,bne_iff_ne,ne_eq] at h;obtain⟨⟨⟨⟨⟨⟨a1,a2⟩,a3⟩,a4⟩,a5⟩,a6⟩,a7⟩:=h;refine⟨a1,a2,a3,a4,fun p hp hf=>?_,fun y hy=>?_,a7⟩
 ·rcases a5 p hp with (z|z)|z
  ·exact absurd hf z
  ·exact .inl z
  ·exact .inr z
 ·obtain⟨⟨z,k⟩,hp,e1,e2⟩:=a6 y hy;simp only at e1 e2;subst e1 e2;exact hp
theorem tE {K:Fg}{H:Hp}{O:List Addr}:∀ns:List Int,Rs K H O (ns.map .int) (ns.map V.int)
 |[]=>.nil
 |n::ns=>.cons (.int n) (tE ns)
theorem law_end {K:Fg}{H:Hp}{a:Addr}{ns:List Int}{F:FD}(hS:dU K H a (ns.map V.int))(hl:ns.length<=63)(h:∀ns:List Int,ns.length<=63->F [.list (ns.map .int)]=some (.bool true,false)) :
  spD K F [.ref a] H (fun v _=>v=.bl true) fun _ _ _=>False:=by
 refine⟨[.list (ns.map .int)],[],_,.cons (.list ?_ (tE ns)) .nil,(fun _ z=>nomatch z),h ns hl,fun v H' s q=>?_⟩
 ·rcases hS with (z|z)|z
  ·exact .inl ⟨z,fun w=>nomatch w⟩
  ·exact .inr (.inl z)
  ·exact .inr (.inr z)
 ·rcases q with ⟨_,q⟩|⟨z,_⟩
  ·cases q;rfl
  ·cases z
theorem len1 {α:Type}{us:List α}(h:us.length=1):∃a0,us=[a0]:=match us,h with|[a0],_=>⟨a0,rfl⟩
theorem len2 {α:Type}{us:List α}(h:us.length=2):∃a0 a1,us=[a0,a1]:=match us,h with|[a0,a1],_=>⟨a0,a1,rfl⟩
theorem len3 {α:Type}{us:List α}(h:us.length=3):∃a0 a1 a2,us=[a0,a1,a2]:=match us,h with|[a0,a1,a2],_=>⟨a0,a1,a2,rfl⟩
theorem len4 {α:Type}{us:List α}(h:us.length=4):∃a0 a1 a2 a3,us=[a0,a1,a2,a3]:=match us,h with|[a0,a1,a2,a3],_=>⟨a0,a1,a2,a3,rfl⟩
end DL
namespace DL
open PySem
theorem Av {i j:Int}(h1:-(2 ^ 64)<j)(h2:j<2 ^ 64):sX i j=true:=by
 simp only[sX,Bool.or_eq_true,Bool.and_eq_true,decide_eq_true_eq];exact Or.inr ⟨h1,h2⟩
theorem Aw {i j:Int}(h1:-(2 ^ 64)<i)(h2:i<2 ^ 64):sX i j=true:=by
 simp only[sX,Bool.or_eq_true,Bool.and_eq_true,decide_eq_true_eq];exact Or.inl ⟨h1,h2⟩
theorem pI {i j:Int}(h1:-(2 ^ 64)<j)(h2:j<2 ^ 64):j7 (.int i) (.int j)=some (.int (i*j),false):=by
 unfold j7;simp[Av h1 h2]
theorem sr {i j:Int}(h1:-(2 ^ 64)<i)(h2:i<2 ^ 64):j7 (.int i) (.int j)=some (.int (i*j),false):=by
 unfold j7;simp[Aw h1 h2]
theorem dz {i j:Int}(h:0<j):dH (.int i) (.int j)=some (.int (i%j),false):=by
 unfold dH;simp[h]
theorem gP {i j:Int}(h:0<j)(h2:j<1073741824):gf (.int i) (.int j)=some (.int (i/j),false):=by
 unfold gf;simp[h,h2]
theorem wB:pH (.int 10) (.int 9)=some (.int 1000000000,false):=by
 simp[pH]
end DL
namespace DL
open PySem
theorem Bx:(2:Nat)<=sizeLine:=by decide
theorem Cs:(3:Nat)<=sizeLine:=by decide
theorem Cr:(4:Nat)<=sizeLine:=by decide
theorem l4 {n:Nat}(h:n<=1000000):n<=sizeLine:=bg h (by decide)
theorem zf {n:Nat}(h:n<1000000):n<sizeLine:=aH h (by decide)
end DL
namespace DL
open PySem
end DL
namespace DL
open PySem PySem.Spec PySem.SeqAt
mutual
inductive Nb:Nat->D->Prop where
 |int (n:Nat) (i:Int):Nb n (.int i)
 |tuple {n:Nat}{ds:List D}:kR n ds->Nb (n+1) (.tuple ds)
 |list {n:Nat}{ds:List D}:kR n ds->Nb (n+1) (.list ds)
inductive kR:Nat->List D->Prop where
 |nil {n:Nat}:kR n []
 |cons {n:Nat}{d:D}{ds:List D}:Nb n d->kR n ds->kR n (d::ds)
end
theorem wI {n:Nat}:∀{ds:List D},(∀d∈ds,Nb n d)->kR n ds
 |[],_=>.nil
 |d::ds,h=>.cons (h d (by simp)) (wI fun e he=>h e (by simp[he]))
theorem pL {α:Type}{n:Nat}{f:α->D}(h:∀x,Nb n (f x))(xs:List α):kR n (xs.map f):=wI fun d hd=>by
 obtain⟨x,_,rfl⟩:=bJ.mp hd;exact h x
mutual
theorem Nb.lay {n:Nat}{d:D}:Nb n d->d.canLay0=true
 |.int _ _=>by simp[PyData.canLay0]
 |.tuple h=>by simp only[PyData.canLay0];exact kR.lay h
 |.list h=>by simp only[PyData.canLay0];exact kR.lay h
theorem kR.lay {n:Nat}{ds:List D}:kR n ds->PyData.canLayAll0 ds=true
 |.nil=>by simp[PyData.canLayAll0]
 |.cons h hs=>by simp[PyData.canLayAll0,Nb.lay h,kR.lay hs]
end
mutual
theorem Nb.deep {n:Nat}{d:D}:Nb n d->d.depth<=n
 |.int _ _=>by simp[PyData.depth]
 |.tuple h=>by have:=kR.deep h;simp only[PyData.depth];omega
 |.list h=>by have:=kR.deep h;simp only[PyData.depth];omega
theorem kR.deep {n:Nat}{ds:List D}:kR n ds->PyData.depthAll ds<=n
 |.nil=>by simp[PyData.depthAll]
 |.cons h hs=>by have:=Nb.deep h;have:=kR.deep hs;simp only[PyData.depthAll];omega
end
mutual
theorem Nb.mix {n m:Nat}{x y:D}:Nb n x->Nb m y->noMix x y=true
 |.int _ _,.int _ _=>by simp[noMix]
 |.int _ _,.tuple _=>by simp[noMix]
 |.int _ _,.list _=>by simp[noMix]
 |.tuple _,.int _ _=>by simp[noMix]
 |.list _,.int _ _=>by simp[noMix]
 |.tuple _,.list _=>by simp[noMix]
 |.list _,.tuple _=>by simp[noMix]
 |.tuple h,.tuple h'=>by simp only[noMix];exact kR.mix h h'
 |.list h,.list h'=>by simp only[noMix];exact kR.mix h h'
theorem kR.mix {n m:Nat}{xs ys:List D}:kR n xs->kR m ys->noMixAll xs ys=true
 |.nil,.nil=>by simp[noMixAll]
 |.nil,.cons _ _=>by simp[noMixAll]
 |.cons _ _,.nil=>by simp[noMixAll]
 |.cons h hs,.cons h' hs'=>by simp[noMixAll,Nb.mix h h',kR.mix hs hs']
end
mutual
theorem Nb.eq {n m:Nat}{x y:D}:Nb n x->Nb m y->same x y=true->x=y
 |.int _ _,.int _ _,h=>by simp[same] at h;rw[h]
 |.int _ _,.tuple _,h=>by simp[same] at h
 |.int _ _,.list _,h=>by simp[same] at h
 |.tuple _,.int _ _,h=>by simp[same] at h
 |.list _,.int _ _,h=>by simp[same] at h
 |.tuple _,.list _,h=>by simp[same] at h
 |.list _,.tuple _,h=>by simp[same] at h
 |.tuple q,.tuple q',h=>by simp only[same] at h;rw[kR.eq q q' h]
 |.list q,.list q',h=>by simp only[same] at h;rw[kR.eq q q' h]
theorem kR.eq {n m:Nat}{xs ys:List D}:kR n xs->kR m ys->sameAll xs ys=true->xs=ys
 |.nil,.nil,_=>rfl
 |.nil,.cons _ _,h=>by simp[sameAll] at h
 |.cons _ _,.nil,h=>by simp[sameAll] at h
 | .cons q qs,.cons q' qs',h=>by
  simp only[sameAll,Bool.and_eq_true] at h;rw[Nb.eq q q' h.1,kR.eq qs qs' h.2]
end
theorem Nb.shp {n:Nat}{d:D}(h:Nb n d)(hn:n<=64):shaped d=true:=by
 unfold shaped;rw[Bool.and_eq_true];have:=h.deep;exact⟨h.lay,decide_eq_true ⋯⟩
theorem xA {n m:Nat}{x y:D}(hx:Nb n x)(hy:Nb m y)(hn:n<=64:=by decide)(hm:m<=64:=by decide):gF x y=some (same x y):=by
 unfold gF;rw[hx.shp hn,hy.shp hm,hx.mix hy];rfl
theorem Au {n m:Nat}{x y:D}(hx:Nb n x)(hy:Nb m y)(hn:n<=64:=by decide)(hm:m<=64:=by decide):j6 x y=some (!same x y):=by
 unfold j6;rw[hx.shp hn,hy.shp hm,hx.mix hy];rfl
theorem xy {n:Nat}{x:D}(hx:Nb n x)(hn:n<=64:=by decide):gF x x=some true:=by rw[xA hx hx hn hn,same_self]
theorem ip (a b:Int):gF (.int a) (.int b)=some (decide (a=b)):=by
 rw[xA (.int 0 a) (.int 0 b)];simp only[same];by_cases e:a=b <;> simp[e]
theorem gE (a b:Int):j6 (.int a) (.int b)=some (decide (a≠b)):=by
 rw[Au (.int 0 a) (.int 0 b)];simp only[same];by_cases e:a=b <;> simp[e]
end DL
namespace DL
open PySem PySem.Spec PySem.SeqAt
theorem f6 {α:Type}{g:GD}{e:ED}{ρ:Sl}{d β:α->D}:∀l:List α,(∀x∈l,∃ρ1 o,g (d x) ρ=some ρ1/\e ρ1=some (β x,o))->iT g eB e ρ (l.map d)=some (l.map β)
 |[],_=>rfl
 | x::l,h=>by
  obtain⟨ρ1,o,h1,h2⟩:=h x (by simp);rw[aD,iT,h1,aa,eB,aa,if_pos rfl,h2,aa,f6 l fun y hy=>h y (by simp[hy])];rfl
theorem rq {α σ:Type}{g:GD}{b:SD}{P:σ->Sl->Prop}{f:σ->α->σ}{d:α->D}:∀(l:List α) (st:σ) (ρ:Sl),P st ρ->(∀x∈l,∀st ρ,P st ρ->∃ρ1 ρ2,g (d x) ρ=some ρ1/\b ρ1=some (.next ρ2)/\P (f st x) ρ2) →
  ∃ρ',d7 g b (l.map d) ρ=some (.next ρ')/\P (l.foldl f st) ρ'
 |[],st,ρ,h,_=>⟨ρ,rfl,h⟩
 | x::l,st,ρ,h,k=>by
  obtain⟨ρ1,ρ2,h1,h2,h3⟩:=k x (by simp) st ρ h;obtain⟨ρ',h4,h5⟩:=rq (g:=g) (b:=b) l (f st x) ρ2 h3 fun y hy=>k y (by simp[hy]);refine⟨ρ',?_,h5⟩;rw[aD,d7,h1,aa,h2,aa];exact h4
theorem oz {α:Type}(f:α->D):∀(xs:List α) (s:Nat),fX s (xs.map f)=(xs.zipIdx s).map fun p=>.tuple [.int (p.2:Int),f p.1]
 |[],_=>rfl
 |x::xs,s=>by rw[aD,fX,oz f xs (s+1)];rfl
theorem ml {α β:Type}(f:α->D)(g:β->D):∀(xs:List α) (ys:List β),kq (xs.map f) (ys.map g)=(xs.zip ys).map fun p=>.tuple [f p.1,g p.2]
 |[],_=>rfl
 |_::_,[]=>rfl
 |x::xs,y::ys=>by rw[aD,aD,kq,ml f g xs ys];rfl
theorem ja (n:Nat):fc 0 n=(aV n).map fun (k:Nat)=>.int (k:Int):=by
 unfold fc;simp
theorem gK {α:Type}(f:α->Bool):∀xs:List α,iG (xs.map fun x=>.bool (f x))=some (xs.map f)
 |[]=>rfl
 | x::xs=>by
  rw[aD,iG,gK f xs];rfl
theorem zk {xs:List D}{i:Int}{d:D}(h0:0<=i)(h:xs[i.toNat]?=some d):qh xs i=some d:=by
 have hl:i.toNat<xs.length:=(aE.mp h).1;unfold qh nq;rw[if_pos h0,if_pos ⋯,aa,h]
theorem kJ {f:ED}{ρ:Sl}{j:Int}{o:Bool}(hf:f ρ=some (.int j,o))(h0:0<=j)(h1:j<=1000000):dM f ρ=some (fc 0 j.toNat):=by
 unfold dM;rw[hf,aa];dsimp only[rN];rw[aa,if_pos ⟨by omega,by omega⟩]
theorem cS {a b:SD}{ρ ρ':Sl}(h:a ρ=some (.next ρ')):cM a b ρ=b ρ':=by
 rw[cM,h];rfl
end DL
namespace DL
open PySem PySem.Spec PySem.SeqAt
theorem gJ {α:Type}{it:AD}{n:Nat}{ix:List Nat}{g:GD}{e:ED}{ρ:Sl}{d β:α->D}(l:List α)(hi:it ρ=some (l.map d))(hz:l.length<=1000000)(h:∀x∈l,∃ρ1 o,g (d x) (dF n ix ρ)=some ρ1/\e ρ1=some (β x,o)):de it n ix g eB e ρ=some (.list (l.map β),true):=by
 rw[de,hi,aa,if_pos (l4 (by rw[ah];exact hz)),f6 l h];rfl
theorem all_map {α:Type}(f:α->Bool)(xs:List α):iA (.list (xs.map fun x=>.bool (f x)))=some (.bool (xs.all f),false):=by
 rw[iA,gK f xs,ag,CG];rfl
theorem hV {it:AD}{g:GD}{b:SD}{ρ:Sl}{ds:List D}(h:it ρ=some ds):fg it g b ρ=d7 g b ds ρ:=by rw[fg,h,aa]
theorem gh {t:TD}{a b:SD}{ρ:Sl}(h:t ρ=some true):fW t a b ρ=a ρ:=by rw[fW,h,aa,if_pos rfl]
theorem lS {t:TD}{a b:SD}{ρ:Sl}(h:t ρ=some false):fW t a b ρ=b ρ:=by rw[fW,h,aa,if_neg Bool.false_ne_true]
theorem dr {t:TD}{a b:SD}{ρ:Sl}(h:t ρ=some false):cM (fW t a dW) b ρ=b ρ:=by
 rw[cM,lS h];rfl
theorem dq {t:TD}{f:ED}{b c:SD}{ρ:Sl}{r:Vl}(h:t ρ=some true)(hr:f ρ=some r):cM (fW t (dh f) c) b ρ=some (.ret r):=by
 rw[cM,gh h,dh,hr];rfl
end DL
namespace L2
open PySem PySem.Spec PyProof.Rows
section
variable {prog:Program}{w:World}{A:Around}{E:Value->Shared->Prop}{s:Shared}
theorem yn {it l:Addr}{i:Nat}{its:Array Value}{x:Value}{Q:Value->Shared->Prop}(hi:s.heap.IsTupleIter it l i)(hl:s.heap.IsTuple l its)(hx:its[i]?=some x)
  (hQ:∀h',h'.IsTupleIter it l (i+1)->Heap.SameBut it s.heap h'->Q x { s with heap:=h' }):wpAny (model prog w) A (Builtin.SmallTypes.nextOf (.ref it)) Q E s:=by
 obtain⟨ob,hob,hcl,hdt⟩:=id hi;obtain⟨oL,hoL,_,nL,hdL⟩:=hl;unfold Builtin.SmallTypes.nextOf;refine af (wpAny_callSpecial?_slot (name:=Str.ofString "__next__") hi.typeIs F.slot_tuple_iterator_next (wpAny_call_entry F.slot_tuple_iterator_next hi.typeIs F.entry_tuple_iterator_next ?_ (F.args_tuple_iterator_next_1 _)));show wpAny _ _ (field (.ref it) 0>>=_) _ _ s;refine af (bp hob hdt (x:=.ref l) rfl ?_);show wpAny _ _ (if (Value.ref l==Value.none)=true then _ else _) _ _ s;rw[if_neg (show ¬((Value.ref l==Value.none)=true) from Bool.false_ne_true)];show wpAny _ _ (field (.ref it) 1>>=_) _ _ s;refine af (bp hob hdt (x:=.int i 0) rfl ?_);show wpAny _ _ (seqItems? (.ref l)>>=_) _ _ s;refine af (wpAny_seqItems hoL hdL ?_);simp only[bU,hx];refine af (wpAny_setField hob hdt (by simp) (ay ⟨x,rfl,ay (hQ _ ?_ (Heap.SameBut.update ..))⟩));exact⟨_,Heap.get?_update_self _ hob (Obj.isFreed_of_fields (Obj.data_mapFields hdt _)),(Obj.cls_mapFields ..).trans hcl,by rw[Obj.data_mapFields hdt];simp[rawInt]⟩
theorem sv {it l:Addr}{i:Nat}{its:Array Value}{Q:Value->Shared->Prop}(hh:A.handled=none)(hi:s.heap.IsTupleIter it l i)(hl:s.heap.IsTuple l its)(hx:its[i]?=none)
  (hE:∀h' e,Heap.ExtBut it s.heap h'->(∃o,h'.get? e=some o/\o.cls=.type "StopIteration")->E (.ref e) { s with heap:=h' }):wpAny (model prog w) A (Builtin.SmallTypes.nextOf (.ref it)) Q E s:=by
 obtain⟨ob,hob,hcl,hdt⟩:=id hi;obtain⟨oL,hoL,_,nL,hdL⟩:=hl;unfold Builtin.SmallTypes.nextOf;refine af (wpAny_callSpecial?_slot (name:=Str.ofString "__next__") hi.typeIs F.slot_tuple_iterator_next (wpAny_call_entry F.slot_tuple_iterator_next hi.typeIs F.entry_tuple_iterator_next ?_ (F.args_tuple_iterator_next_1 _)));show wpAny _ _ (field (.ref it) 0>>=_) _ _ s;refine af (bp hob hdt (x:=.ref l) rfl ?_);show wpAny _ _ (if (Value.ref l==Value.none)=true then _ else _) _ _ s;rw[if_neg (show ¬((Value.ref l==Value.none)=true) from Bool.false_ne_true)];show wpAny _ _ (field (.ref it) 1>>=_) _ _ s;refine af (bp hob hdt (x:=.int i 0) rfl ?_);show wpAny _ _ (seqItems? (.ref l)>>=_) _ _ s;refine af (wpAny_seqItems hoL hdL ?_);simp only[bU,hx];refine af (wpAny_rule (af (wpAny_setField hob hdt (by simp) ?_)));show wpAny _ _ (newExc (.type "StopIteration") []>>=_) _ _ _;refine af ?_;simp only[newExc,newTuple];refine af (bG ?_ (by size_fits));refine af (m:=firstArgMember _ _) (wpAny_of_eq (a:=Value.none) (by first|rfl|(simp only[firstArgMember];rfl)) ?_);refine bG ?_ (by size_fits);simp only[raiseNew];refine af (wpAny_handled ?_)
 first|rw[show A.in1.handled=none from hh]|rw[hh]
 refine af (ay (wpAny_throw ?_));exact hE _ _ (((Heap.SameBut.update ..).extBut.push _).push _) ⟨_,aI _ rfl,rfl⟩
end
def rP (h:Heap)(it l:Addr)(its:Array Value)(i:Nat):Prop:=(h.IsListIter it l i/\h.IsList l its)\/(h.IsTupleIter it l i/\h.IsTuple l its)
theorem rP.at {h h':Heap}{it l:Addr}{its:Array Value}{i:Nat}(x:rP h it l its i)(k:∀b,b=it\/b=l->∀o,h.get? b=some o->h'.get? b=some o):rP h' it l its i:=by
 rcases x with ⟨a,b⟩|⟨a,b⟩
 ·exact .inl ⟨a.at fun o e=>k it (.inl rfl) o e,b.at fun o e=>k l (.inr rfl) o e⟩
 ·exact .inr ⟨a.at fun o e=>k it (.inl rfl) o e,b.at fun o e=>k l (.inr rfl) o e⟩
theorem rP.live {h:Heap}{it l:Addr}{its:Array Value}{i:Nat}(x:rP h it l its i):∃o,h.get? it=some o/\(∃vs,o.data=.fields vs):=by
 rcases x with ⟨⟨o,e,_,d⟩,_⟩|⟨⟨o,e,_,d⟩,_⟩
 ·exact⟨o,e,_,d⟩
 ·exact⟨o,e,_,d⟩
theorem iN {prog:Program}{w:World}{A:Around}(hh:A.handled=none)(it l:Addr)(hne:l≠it)(its:Array Value) :
  Draws prog w A it [it,l] its.size (fun i v=>its[i]?=some v) (fun i h=>rP h it l its i) where
 live:=fun _ _ st=>let ⟨o,e,_⟩:=st.live;⟨o,e⟩
 frame:=fun _ _ _ st hk=>st.at fun b hb o e=>hk b (by rcases hb with z|z <;> simp[z]) o e
 item:=fun i s Q E hi st hQ=>by
  have ge:its[i]?=some its[i]:=bP hi;rcases st with ⟨a,b⟩|⟨a,b⟩
  ·exact wpAny_nextOf_list_item a b ge fun h' a' hs=>hQ _ h' s.toks ge (.inl ⟨a',b.extBut hs.extBut hne⟩) hs
  ·exact yn a b ge fun h' a' hs=>hQ _ h' s.toks ge (.inr ⟨a',b.at fun o e=>hs.extBut l o hne e⟩) hs
 done:=fun s Q E st hE=>by
  rcases st with ⟨a,b⟩|⟨a,b⟩
  ·exact wpAny_nextOf_list_end hh a b (by simp) hE
  ·exact sv hh a b (by simp) hE
theorem Inv.turnedLay {X:Cx}{pins:List (Addr×Obj)}{σ:St}{H:Hp}{s:Shared}{h':Heap}{t':Nat}{fp:List Addr}{T:Addr}{xs:List V}(I:Inv X pins σ H s)(k:∀b o,b∉fp->s.heap.get? b=some o->h'.get? b=some o)
  (th:∀b∈fp,∃o,h'.get? b=some o) (hf:∀b∈fp,ni X pins H b) (hT:s.heap.objs.size<=T) (new:gq X.prog X.w (cZ H T (.tup xs)) h' T (.tup xs)) :
  Inv X pins σ (cZ H T (.tup xs)) { s with heap:=h',toks:=t' }:=by
 have fresh:H T=none:=I.hok.fresh hT;have nfp:∀b u,H b=some u->b∉fp:=fun b u e z=>by rw[(hf b z).1] at e;cases e
 have nT:∀b o,s.heap.get? b=some o->b≠T:=fun b o e=>aO (aH (aF e) hT);refine I.step (g':=s.gens) (d':=s.drawn) (ch:=fp) (fun b hb=>?_) (fun b o _ _ hc e _=>k b o hc e) (fun b o _ _ hc e _=>⟨o.slots,k b o hc e⟩) (fun b o _ e n=>by rw[cq (nT b o e)];exact n)
  (fun b o hc e=>⟨o,k b o hc e⟩) (fun b ys e=>by rw[cq (cg e fresh)];exact e) (fun b o u e=>by rw[cq (cg e fresh)];exact e)
  (fun b ps e=>⟨#[],by rw[cq (cg e fresh),e];simp⟩) (fun m hm=>?_) (fun b u e=>?_) I.bare
 ·obtain⟨_,f1,f2,f3,f4,f5⟩:=hf b hb;exact⟨f3,f1,f4,f5⟩
 ·obtain⟨o,es,ep,ho,r⟩:=hm;exact⟨o,es,ep,k _ o (fun z=>(hf _ z).2.1 rfl) ho,r⟩
 ·by_cases hb:b=T
  ·subst hb;rw[cA] at e;cases e;exact new
  ·rw[cq hb] at e;refine (I.hok b u e).stay (fun c v hc q=>k c v ?_ q) (fun c q=>by rw[cq (cg q fresh)];exact q) fun c ys q=>by rw[cq (cg q fresh)];exact q
   rcases hc with z|z
   ·rw[z];exact nfp b u e
   ·exact nfp c _ z
theorem AW:(2:Nat)<=sizeLine:=by decide
def ff (kd:Bool)(K:PySem.W.Frag)(H:Hp)(a:Addr)(xs:List V):Prop:=if kd=true then dU K H a xs else dN K H a xs
def nu (kd:Bool)(h:Heap)(it a:Addr)(i:Nat):Prop:=if kd=true then h.IsListIter it a i else h.IsTupleIter it a i
def mj (kd:Bool)(h:Heap)(a:Addr)(its:Array Value):Prop:=if kd=true then h.IsList a its else h.IsTuple a its
theorem nu.with {kd:Bool}{h:Heap}{it a:Addr}{i:Nat}{its:Array Value}(x:nu kd h it a i)(y:mj kd h a its):rP h it a its i:=by
 cases kd
 ·exact .inr ⟨x,y⟩
 ·exact .inl ⟨x,y⟩
theorem nu.at {kd:Bool}{h h':Heap}{it a:Addr}{i:Nat}(x:nu kd h it a i)(k:∀o,h.get? it=some o->h'.get? it=some o):nu kd h' it a i:=by
 cases kd
 ·exact Heap.IsTupleIter.at (show h.IsTupleIter it a i from x) k
 ·exact Heap.IsListIter.at (show h.IsListIter it a i from x) k
theorem nu.obj {kd:Bool}{h:Heap}{it a:Addr}{i:Nat}(x:nu kd h it a i):∃o,h.get? it=some o/\∀v,o.data≠.cell v:=by
 cases kd
 ·obtain⟨o,e,_,d⟩:=(show h.IsTupleIter it a i from x);exact⟨o,e,fun v z=>by rw[d] at z;cases z⟩
 ·obtain⟨o,e,_,d⟩:=(show h.IsListIter it a i from x);exact⟨o,e,fun v z=>by rw[d] at z;cases z⟩
theorem nu.of {kd:Bool}{h:Heap}{it a:Addr}{i:Nat}{its:Array Value}(x:rP h it a its i)(y:mj kd h a its):nu kd h it a i:=by
 cases kd
 ·rcases x with ⟨p,q⟩|⟨p,_⟩
  ·obtain⟨o,e,c,_⟩:=q;obtain⟨o',e',c',_⟩:=(show h.IsTuple a its from y);rw[e] at e';cases e';rw[c] at c';exact absurd c' (by decide)
  ·exact p
 ·rcases x with ⟨p,_⟩|⟨p,q⟩
  ·exact p
  ·obtain⟨o,e,c,_⟩:=q;obtain⟨o',e',c',_⟩:=(show h.IsList a its from y);rw[e] at e';cases e';rw[c] at c';exact absurd c' (by decide)
section
variable {X:Cx}{pins:List (Addr×Obj)}{σ:St}{H:Hp}{s:Shared}{a:Addr}{xs ys:List V}{kd:Bool}
theorem Inv.seqK (I:Inv X pins σ H s)(h:ff kd X.K H a xs):∃its:List Value,cH xs its/\mj kd s.heap a its.toArray/\xs.length<=sizeLine:=by
 cases kd
 ·obtain⟨its,r,p,z⟩:=I.tuple (show dN X.K H a xs from h);exact⟨its,r,p,z⟩
 ·obtain⟨its,r,p,z⟩:=I.list (show dU X.K H a xs from h);exact⟨its,r,p.isList,z⟩
theorem Inv.seqK_inj (I:Inv X pins σ H s)(h:ff kd X.K H a xs)(h':ff kd X.K H a ys):xs=ys:=by
 cases kd
 ·exact I.tuple_inj (show dN X.K H a xs from h) h'
 ·exact I.list_inj (show dU X.K H a xs from h) h'
theorem mj.at {h h':Heap}{its:Array Value}(x:mj kd h a its)(k:∀o,h.get? a=some o->h'.get? a=some o):mj kd h' a its:=by
 cases kd
 ·exact Heap.IsTuple.at (show h.IsTuple a its from x) k
 ·exact Heap.IsList.at (show h.IsList a its from x) k
theorem mj.lt {h:Heap}{its:Array Value}(x:mj kd h a its):a<h.objs.size:=by
 cases kd
 ·obtain⟨o,e,_⟩:=(show h.IsTuple a its from x);exact aF e
 ·obtain⟨o,e,_⟩:=(show h.IsList a its from x);exact aF e
end
noncomputable def Ite (K:PySem.W.Frag)(kd:Bool)(a:Addr):It :=
 ⟨fun i H=>∃xs x,ff kd K H a xs/\xs[i]?=some x,fun i H v H'=>∃T x,v=.ref T/\H T=none/\H'=cZ H T (.tup [.int i,x])/\∀xs,ff kd K H a xs->xs[i]?=some x,fun i H=>∃xs,ff kd K H a xs/\xs.length=i⟩
theorem xb {h:Heap}{e it:Addr}{i:Int}{old:Value}(x:IsEnum h e it i old):∃o,h.get? e=some o/\∀v,o.data≠.cell v:=⟨_,x,fun v z=>by cases z⟩
theorem ux {P:Program}{w:World}{K:PySem.W.Frag}{tes:List Expr}{tk:Nat}{tp:Pos}{kd:Bool}(a e it:Addr)(hne:e≠it)(hae:a≠e)(hai:a≠it) :
  Turn P w K (.Tuple tes tk tp) (Ite K kd a) [e,it] e (fun i h=>(∃old,IsEnum h e it i old)/\nu kd h it a i) where
 mem:=by simp
 obj:=fun i h ⟨⟨old,x⟩,y⟩ b hb=>by
  rcases aw.mp hb with z|z
  ·subst z;exact xb x
  ·have z':b=it:=by simpa using z
   subst z';exact y.obj
 keep:=fun i h h' ⟨⟨old,x⟩,y⟩ k=>⟨⟨old,k e (by simp) _ x⟩,y.at fun o q=>k it (by simp) o q⟩
 item:=by
  rintro X hP hw hK hc i pins s σ H E I hf ⟨⟨old,x⟩,y⟩ ⟨xs,v,hq,hv⟩;subst hP hw hK;obtain⟨its,rv,ob,hz⟩:=I.seqK hq;obtain⟨u,hu,ru⟩:=rv.get hv;have hi:i<its.toArray.size:=by rw[aA];exact (aE.mp hu).1
  have D:=iN (prog:=X.prog) (w:=X.w) (A:=X.A.in1) (I.ok.hd hc) it a hai its.toArray;refine wpAny_pyNext_enum_itemD D x (y.with ob) hi hne (by simp[hne,Ne.symm hae]) fun u' h' tk hP ho st' hT hsz hk=>?_;have eu:u'=u:=by
   have:its[i]?=some u':=by simpa using hP
   rw[hu] at this;exact (aL.inj this).symm
  subst eu;have ob':mj kd h' a its.toArray:=ob.at fun o q=>hk a o hae hai q;refine⟨_,rfl,?_⟩;have I1:Inv X pins σ (cZ H s.heap.objs.size (.tup [.int i,v])) { s with heap:=h',toks:=tk+1 }:=by
   refine I.turnedLay (fp:=[e,it]) (fun b o hb q=>hk b o (fun z=>hb (by simp[z])) (fun z=>hb (by simp[z])) q) (fun b hb=>?_) hf (az _) ⟨AW,[.int i tk,u'],.cons ⟨_,rfl⟩ (.cons ru .nil),⟨_,hT,rfl,_,rfl⟩⟩;rcases aw.mp hb with z|z
   ·subst z;exact⟨_,ho⟩
   ·have z':b=it:=by simpa using z
    subst z';obtain⟨o,q,_⟩:=st'.live;exact⟨o,q⟩
  have fr:H s.heap.objs.size=none:=I.hok.fresh (az _);have fe:=hf e (by simp);have elt:e<s.heap.objs.size:=aF x;refine wpAny_letOwnedTupleGo_enum (s:={ s with heap:=h',toks:=tk+1 }) ho fun h2 he2 hs2=>?_;have I2:Inv X pins σ (cZ H s.heap.objs.size (.tup [.int i,v])) { s with heap:=h2,toks:=tk+1 } :=
   Inv.turned (s:={ s with heap:=h',toks:=tk+1 }) (it:=e) (t':=tk+1) I1 (fun b o hb q=>(hs2.2 b hb).trans q) (by rw[cq (aO elt)];exact fe.1) fe.2.1 fe.2.2.2.1 fe.2.2.2.2.1 fe.2.2.2.2.2
  refine⟨.ref s.heap.objs.size,_,I2,rfl,⟨_,v,rfl,fr,rfl,fun ys hy=>?_⟩,⟨⟨_,by simpa using he2⟩,(nu.of st' ob').at fun o q=>(hs2.2 it (Ne.symm hne)).trans q⟩,fun b hb=>?_⟩
  ·rw[I.seqK_inj hy hq];exact hv
  ·have hb':H b=none:=(hf b hb).1;have blt:b<s.heap.objs.size:=by
    rcases aw.mp hb with z|z
    ·rw[z];exact elt
    ·have z':b=it:=by simpa using z
     obtain⟨o,q,_⟩:=y.obj;rw[z'];exact aF q
   rw[cq (aO blt)];exact hb'
 done:=by
  rintro X hP hw hK hc i pins s σ H E I hf ⟨⟨old,x⟩,y⟩ ⟨xs,hq,hl⟩;subst hP hw hK;obtain⟨its,rv,ob,hz⟩:=I.seqK hq;have ei:i=its.toArray.size:=by rw[aA,<-rv.length];exact hl.symm
  have D:=iN (prog:=X.prog) (w:=X.w) (A:=X.A.in1) (I.ok.hd hc) it a hai its.toArray;obtain⟨f0,f1,f2,f3,f4,f5⟩:=hf it (by simp);have st:=y.with ob
  rw[ei] at st;exact wpAny_pyNext_enum_endD D x st fun h' eb=>⟨rfl,I.turned (t':=s.toks) (fun b o hb q=>eb b o hb q) f0 f1 f3 f4 f5⟩
 self:=fun _ _ _ _ _ ⟨⟨old,x⟩,_⟩ h=>wpAny_pyIter_enum x h
end L2
namespace L2
open PySem PySem.Spec PyProof.Rows
open AutoSeq1 (wpAny_loadPart')
noncomputable abbrev qp (l:Addr):Obj:={ cls:=.type "tuple_iterator", data:=.fields #[.ref l,.int 0 0] }
noncomputable abbrev sQ (it:Addr):Obj:={ cls:=.type "enumerate", data:=.fields #[.none,.bool false,.ref it,rawInt 0,.none,.none] }
set_option maxRecDepth 100000 in
theorem vi (l:Addr)(its:Array Value)(n:Nat)(dct:Option Addr)(sl:Array (Option Value)) :
  Meets (Builtin.«enumerate.__new__» ⟨[.type "enumerate", .ref l],[]⟩) (fun _ R s=>s.heap.get? l=some { cls:=.type "tuple", dict:=dct,data:=.seq its n,slots:=sl } ∧
   R (.ok (.ret (.ref (s.heap.push (qp l)).objs.size))) { s with heap:=(s.heap.push (qp l)).push (sQ s.heap.objs.size) }) :=
 .of_wp fun prog w A R s h=>by
  obtain⟨hp,g,d,tk,os⟩:=s;obtain⟨hl,h⟩:=h;have hsub:=sub_enumerate;have hTu:Heap.IsTuple (Shared.heap ⟨hp,g,d,tk,os⟩) l its:=⟨_,hl,rfl,n,rfl⟩
  wp_walk using wpAny_loadPart' hl
  refine wpAny_stack_any fun stk=>ay ?_;split
  ·rename_i c _ _ _ _ _;cases (c==Value.type "enumerate")
   ·wp_walk using wpAny_loadPart' hl,wpAny_pyIter_tuple hTu
    exact⟨_,rfl,h⟩
   ·wp_walk using wpAny_loadPart' hl,wpAny_pyIter_tuple hTu
    exact⟨_,rfl,h⟩
  ·wp_walk using wpAny_loadPart' hl,wpAny_pyIter_tuple hTu
   exact⟨_,rfl,h⟩
theorem sW {prog:Program}{w:World}{A:Around}{E:Value->Shared->Prop}{s:Shared}{kd:Bool}{l:Addr}{its:Array Value}{Q:Value->Shared->Prop}(ob:mj kd s.heap l its)
  (h:∀h',IsEnum h' (s.heap.objs.size+1) s.heap.objs.size 0 .none->nu kd h' s.heap.objs.size l 0->(∀b o,s.heap.get? b=some o->h'.get? b=some o)->Q (.ref (s.heap.objs.size+1)) { s with heap:=h' }) :
  wpAny (model prog w) A (call (.type "enumerate") [.ref l]) Q E s:=by
 cases kd
 ·obtain⟨⟨c,dct,dt,sl⟩,hl,hc,n,hd⟩:=(show s.heap.IsTuple l its from ob);have hc':c=.type "tuple" := hc;have hd':dt=.seq its n:=hd;subst hc' hd';refine callType_new F.called_enumerate (by decide) (F.typeCall_enumerate_1 _) (F.newCall_enumerate_1 _) (fun obj=>F.args_object_init_2 obj _) F.entry_enumerate_new (vi l its n dct sl) ⟨hl,?_⟩;have hz:(s.heap.push (qp l)).objs.size=s.heap.objs.size+1:=bE ..;show _/\_;rw[hz];have he:IsEnum ((s.heap.push (qp l)).push (sQ s.heap.objs.size)) (s.heap.objs.size+1) s.heap.objs.size 0 .none:=by
   have q:=aI (s.heap.push (qp l)) (o:=sQ s.heap.objs.size) rfl;rw[hz] at q;exact q
  exact⟨⟨_,he,rfl⟩,h _ he ⟨_,ai _ (aI _ rfl),rfl,rfl⟩ fun b o x=>ai _ (ai _ x)⟩
 ·exact call_enumerate_list (show s.heap.IsList l its from ob) fun h' he hi _ hk=>h h' he hi hk
section
variable {X:Cx}{l:Expr}{tl:TE}{p pos tp:Pos}{tes:List Expr}{tk:Nat}
noncomputable def BQ (K:PySem.W.Frag)(ta:TA):TI:=fun σ H R=>ta σ H fun vs H1=>∃kd a,vs=[.ref a]/\(∃xs,ff kd K H1 a xs)/\R (Ite K kd a) H1
theorem pi_enum {ta:TA}(hg:Gl X "enumerate")(hm:X.mg "enumerate" = none)(ha:PA X [l] ta)(hs:starEach [l] X.env=[(false,eval l X.env)]:=by rfl):PI X (.Tuple tes tk tp) (.Call (.Name "enumerate" p) [l] [] pos) (BQ X.K ta):=by
 intro pins s σ H R I h;refine Call_ (lH I hg hm boot_enumerate (PyProof.Rows.callWith_type1 (thn (ha pos pins s σ H _ I h) fun us s1 ⟨vs,H1,I1,r1,q1⟩=>?_) hs rfl));obtain⟨kd,a,e,⟨xs,hq⟩,q⟩:=q1;subst e;obtain⟨u,rfl,ru⟩:=cH.one r1;cases ru;obtain⟨its,rv,ob,hz⟩:=I1.seqK hq;refine sW ob fun h' he hi hk=>?_;have I2:Inv X pins σ H1 { s1 with heap:=h' }:=I1.kept (t':=s1.toks) hk;have alt:=ob.lt;refine wpAny_pyIter_enum he ⟨_,_,_,_,H1,rfl,I2,ux (kd:=kd) a (s1.heap.objs.size+1) s1.heap.objs.size (Nat.succ_ne_self _) (aO (Nat.lt_succ_of_lt alt)) (aO alt),⟨⟨_,he⟩,hi⟩,fun b hb=>?_,q⟩;rcases aw.mp hb with z|z
 ·subst z;exact I1.fpOk (bR _) (I1.hok.fresh (bR _))
 ·have z':b=s1.heap.objs.size:=by simpa using z
  subst z';exact I1.fpOk (az _) (I1.hok.fresh (az _))
end
end L2
namespace DL
open PySem PySem.Spec PySem.SeqAt
open L2 (V Hp St HO VK TE TT TA TS TI TG Cx Inv PE PT PA PS PSs PI PG dN dU cI cZ cA cq cg cH cP EP TP AP SP di It ff)
theorem oB:∀(ds:List D) (k i:Nat) (d:D),(fX k ds)[i]?=some d->∃e,ds[i]?=some e/\d=.tuple [.int ((k+i:Nat):Int),e]
 |[],k,i,d,h=>by simp[fX] at h
 |e::ds,k,0,d,h=>by simp[fX] at h;exact⟨e,rfl,by simp[h]⟩
 | e::ds,k,i+1,d,h=>by
  have h':(fX (k+1) ds)[i]?=some d:=by simpa [fX] using h
  obtain⟨e',h1,h2⟩:=oB ds (k+1) i d h';exact⟨e',by simpa using h1,by rw[h2,show k+1+i=k+(i+1) by omega]⟩
theorem oA:∀(ds:List D) (k:Nat),(fX k ds).length=ds.length
 |[],_=>rfl
 |_::ds,k=>by simp[fX,oA ds]
theorem va {K:Fg}{H:Hp}{M O:List Addr}{a:Addr}{kd:Bool}{ds:List D}{vs:List V}(h:∀O' H',gL M O H O' H'->ff kd K H' a vs)(q:Rs K H O ds vs):kQ K (L2.Ite K kd a) (fX 0 ds) M O H:=by
 intro O2 H2 x;have h2:=h _ _ x;have q2:=q.ext x;refine⟨fun i d e=>?_,vs,h2,by rw[oA,q.length]⟩;obtain⟨e',he,rfl⟩:=oB ds 0 i d e;obtain⟨v,ev,rv⟩:=q2.get he;refine⟨⟨vs,v,h2,ev⟩,fun y H3 ⟨T,z,ey,hT,eH,hz⟩=>?_⟩;subst ey eH;have:=hz vs h2;rw[ev] at this;cases this;have s2:cI H2 (cZ H2 T (.tup [.int (i:Int),v])):=fun b o e=>by rw[cq (cg e hT)];exact e
 refine⟨s2,.tuple (.inl (.inl cA)) (.cons ?_ (.cons (rv.same s2) .nil))⟩;rw[show (0+i:Nat)=i by omega];exact .int _
section
variable {X:Cx}{e:Expr}{f:AD}{p pos tp:Pos}{tes:List Expr}{tk:Nat}
theorem tY (hm:X.mg "enumerate" = none)(h:DQ X e f)(hg:L2.Gl X "enumerate" := by rfl)(hs:starEach [e] X.env=[(false,eval e X.env)]:=by rfl):DI X (.Tuple tes tk tp) (.Call (.Name "enumerate" p) [e] [] pos) (kX f) :=
 (L2.pi_enum hg hm (L2.pa_cons h L2.pa_nil hs) hs).imp fun σ H Q zz=>by
  obtain ⟨ρ,O,M,lad,zs,hE,hf,k⟩:=zz;unfold kX at hf;cases hr:f ρ with
  |none=>rw[hr] at hf;cases hf
  |some ds =>
   rw[hr,ag] at hf;cases hf;refine⟨ρ,O,M,lad,ds,hE,hr,fun v H1 kd s1 ⟨a,vs,ev,qs,st⟩=>?_⟩;subst ev;exact⟨kd,a,rfl,⟨vs,st _ _ (gL.id M O H1 (hE.same s1).sub)⟩,k _ H1 s1 (va (kd:=kd) (fun O' H' x=>st O' H' x) qs)⟩
end
end DL
namespace L2
open PySem PySem.Spec PyProof.Rows
structure AJ (z TI TO i1 i2:Addr):Prop where
 a1:TI≠z
 a2:TO≠z
 a3:i1≠z
 a4:i2≠z
 a5:TI≠TO
 a6:TI≠i1
 a7:TI≠i2
 a8:TO≠i1
 a9:TO≠i2
 b1:i1≠i2
section
variable {prog:Program}{w:World}{A:Around}{E:Value->Shared->Prop}{s:Shared}{z TI TO i1 i2:Addr}{n1 n2 k:Nat}{fp1 fp2:List Addr}{P1 P2:Nat->Value->Prop}{S1 S2:Nat->Heap->Prop}
theorem xM {a b:Value}{Q:Value->Shared->Prop}(Z:AJ z TI TO i1 i2)(D1:Draws prog w A i1 fp1 n1 P1 S1)(D2:Draws prog w A i2 fp2 n2 P2 S2)(f1:z∉fp1/\TO∉fp1/\i2∉fp1)(f2:z∉fp2/\TO∉fp2/\i1∉fp2)
  (hz:IsZip s.heap z TI TO .none) (hTI:IsPair s.heap TI (.ref i1) (.ref i2)) (hTO:IsPair s.heap TO a b) (t1:S1 k s.heap) (t2:S2 k s.heap) (l1:k<n1) (l2:k<n2)
  (hQ:∀x y h' tk,P1 k x->P2 k y->IsZip h' z TI TO (rawInt s.heap.objs.size)->IsPair h' TO x y->S1 (k+1) h'->S2 (k+1) h'->IsPair h' s.heap.objs.size x y →
   (∀c o,c≠z->c≠TO->c≠i1->c≠i2->s.heap.get? c=some o->h'.get? c=some o)->Q (.ref s.heap.objs.size) { s with heap:=h',toks:=tk }) :
  wpAny (model prog w) A (Builtin.«zip.__next__» ⟨[.ref z],[]⟩) (fun fin s'=>∃v,fin=.done (.ret v)/\Q v s') E s:=by
 show wpAny _ _ (field (.ref z) 2>>=_) _ _ _;refine af (bp hz rfl (x:=.bool false) rfl ?_);show wpAny _ _ (field (.ref z) 3>>=_) _ _ _;refine af (bp hz rfl (x:=.ref TI) rfl ?_);refine af (wpAny_seqItems hTI rfl ?_);show wpAny _ _ (Builtin.SmallTypes.ownedTupleIsFree (.ref z)>>=_) _ _ _;refine af ?_;unfold Builtin.SmallTypes.ownedTupleIsFree;refine af (bp hz rfl (x:=.none) rfl (ay ?_));simp only[if_true];refine af (wpAny_rule ?_);refine af (bp hz rfl (x:=.ref TO) rfl ?_);refine af (bI hz (by simp) fun g1 hz1 e1=>?_);have hz1':IsZip g1 z TI TO .ellipsis:=hz1;refine af ?_;simp only[List.zipIdx_cons,List.zipIdx_nil,bY,List.forIn_nil];refine af (af (wpAny_onRaise ?_));show wpAny _ _ (Builtin.SmallTypes.nextOf (.ref i1)>>=_) _ _ _;have t1':S1 k g1:=D1.frame _ _ _ t1 fun c hc o q=>e1.extBut c o (fun w'=>f1.1 (w'▸hc)) q;refine af (D1.item k _ _ _ l1 t1' fun x g2 tk2 px u1 e2=>ay ?_);have hTO2:IsPair g2 TO a b:=e2.extBut _ _ Z.a8 (e1.extBut _ _ Z.a2 hTO);refine af (wpAny_seqItems hTO2 rfl ?_);refine af (wpAny_updateSeq_pair hTO2 fun g3 hTO3 e3=>?_);have hTO3':IsPair g3 TO x b:=hTO3;refine af (wpAny_letGo (ay ?_));refine af (af (wpAny_onRaise ?_));show wpAny _ _ (Builtin.SmallTypes.nextOf (.ref i2)>>=_) _ _ _;have t2':S2 k g3:=D2.frame _ _ _ t2 fun c hc o q=>e3.extBut c o (fun w'=>f2.2.1 (w'▸hc)) (e2.extBut c o (fun w'=>f2.2.2 (w'▸hc)) (e1.extBut c o (fun w'=>f2.1 (w'▸hc)) q));refine af (D2.item k _ _ _ l2 t2' fun y g4 tk4 py u2 e4=>ay ?_);have hTO4:IsPair g4 TO x b:=e4.extBut _ _ Z.a9 hTO3';refine af (wpAny_seqItems hTO4 rfl ?_);refine af (wpAny_updateSeq_pair hTO4 fun g5 hTO5 e5=>?_);have hTO5':IsPair g5 TO x y:=hTO5;refine af (wpAny_letGo (ay (ay ?_)));refine af (wpAny_seqItems hTO5' rfl ?_);refine af (wpAny_newTuple ?_);have hsz:g5.objs.size=s.heap.objs.size:=by rw[e5.1,e4.1,e3.1,e2.1,e1.1]
 have hz5:IsZip g5 z TI TO .ellipsis:=e5.extBut _ _ Z.a2.symm (e4.extBut _ _ Z.a4.symm (e3.extBut _ _ Z.a2.symm (e2.extBut _ _ Z.a3.symm hz1')));have hk5:∀c o,c≠z->c≠TO->c≠i1->c≠i2->s.heap.get? c=some o->g5.get? c=some o:=fun c o c1 c2 c3 c4 q =>
  e5.extBut _ _ c2 (e4.extBut _ _ c4 (e3.extBut _ _ c2 (e2.extBut _ _ c3 (e1.extBut _ _ c1 q))))
 have v1:S1 (k+1) g5:=D1.frame _ _ _ u1 fun c hc o q=>e5.extBut c o (fun w'=>f1.2.1 (w'▸hc)) (e4.extBut c o (fun w'=>f1.2.2 (w'▸hc)) (e3.extBut c o (fun w'=>f1.2.1 (w'▸hc)) q));have v2:S2 (k+1) g5:=D2.frame _ _ _ u2 fun c hc o q=>e5.extBut c o (fun w'=>f2.2.1 (w'▸hc)) q;have zlt:z<g5.objs.size:=aF hz5;show wpAny _ _ (Builtin.SmallTypes.ownedTupleHandOut (.ref z) (.ref g5.objs.size)>>=_) _ _ _;refine af ?_;unfold Builtin.SmallTypes.ownedTupleHandOut;have hz6:IsZip (g5.push { cls:=.type "tuple", data:=.seq #[x,y] }) z TI TO .ellipsis:=ai _ hz5;refine af (bI hz6 (by simp) fun g7 hz7 e7=>?_);have hz7':IsZip g7 z TI TO (rawInt g5.objs.size):=hz7;refine bI hz7' (by simp) fun g8 hz8 e8=>?_;have hz8':IsZip g8 z TI TO (rawInt g5.objs.size):=hz8;have up:∀c o,c≠z->g5.get? c=some o->g8.get? c=some o:=fun c o c1 q=>e8.extBut _ _ c1 (e7.extBut _ _ c1 (ai _ q));have hT8:IsPair g8 g5.objs.size x y:=e8.extBut _ _ (CB zlt) (e7.extBut _ _ (CB zlt) (aI _ rfl));rw[hsz] at hz8' hT8;refine ay ⟨_,rfl,?_⟩;show Q (.ref g5.objs.size) _;rw[hsz];exact hQ x y g8 _ px py hz8' (up _ _ Z.a2 hTO5') (D1.frame _ _ _ v1 fun c hc o q=>up c o (fun w'=>f1.1 (w'▸hc)) q) (D2.frame _ _ _ v2 fun c hc o q=>up c o (fun w'=>f2.1 (w'▸hc)) q) hT8 fun c o c1 c2 c3 c4 q=>up c o c1 (hk5 c o c1 c2 c3 c4 q)
theorem zA {a b:Value}{Q:Fin->Shared->Prop}(Z:AJ z TI TO i1 i2)(D1:Draws prog w A i1 fp1 n1 P1 S1)(D2:Draws prog w A i2 fp2 n2 P2 S2)(f1:z∉fp1/\TO∉fp1/\i2∉fp1)(f2:z∉fp2/\TO∉fp2/\i1∉fp2)
  (hz:IsZip s.heap z TI TO .none) (hTI:IsPair s.heap TI (.ref i1) (.ref i2)) (hTO:IsPair s.heap TO a b) (t1:S1 k s.heap) (t2:S2 k s.heap) (hend:k=n1\/(k<n1/\k=n2))
  (hE:∀h' tk e,(∀c o,c≠z->c≠TO->c≠i1->c≠i2->s.heap.get? c=some o->h'.get? c=some o)->(∃o,h'.get? e=some o/\o.cls=.type "StopIteration")->E (.ref e) { s with heap:=h',toks:=tk }) :
  wpAny (model prog w) A (Builtin.«zip.__next__» ⟨[.ref z],[]⟩) Q E s:=by
 show wpAny _ _ (field (.ref z) 2>>=_) _ _ _;refine af (bp hz rfl (x:=.bool false) rfl ?_);show wpAny _ _ (field (.ref z) 3>>=_) _ _ _;refine af (bp hz rfl (x:=.ref TI) rfl ?_);refine af (wpAny_seqItems hTI rfl ?_);show wpAny _ _ (Builtin.SmallTypes.ownedTupleIsFree (.ref z)>>=_) _ _ _;refine af ?_;unfold Builtin.SmallTypes.ownedTupleIsFree;refine af (bp hz rfl (x:=.none) rfl (ay ?_));simp only[if_true];refine af (wpAny_rule ?_);refine af (bp hz rfl (x:=.ref TO) rfl ?_);refine af (bI hz (by simp) fun g1 hz1 e1=>?_);have hz1':IsZip g1 z TI TO .ellipsis:=hz1;refine af ?_;simp only[List.zipIdx_cons,List.zipIdx_nil,bY,List.forIn_nil];refine af (af (wpAny_onRaise ?_));show wpAny _ _ (Builtin.SmallTypes.nextOf (.ref i1)>>=_) _ _ _;have t1':S1 k g1:=D1.frame _ _ _ t1 fun c hc o q=>e1.extBut c o (fun w'=>f1.1 (w'▸hc)) q;rcases hend with rfl|⟨l1,rfl⟩
 ·refine af (D1.done _ _ _ t1' fun g2 ex e2 he=>?_);obtain⟨oe,hoe,hce⟩:=he;have hz2:IsZip g2 z TI TO .ellipsis:=e2 _ _ Z.a3.symm hz1';have hez:ex≠z:=fun q=>by rw[q,hz2] at hoe;cases hoe;simp at hce
  exact bI hz2 (by simp) fun g3 _ e3=>hE g3 _ ex (fun c o c1 _ c3 _ q=>e3.extBut _ _ c1 (e2 _ _ c3 (e1.extBut _ _ c1 q))) ⟨oe,e3.extBut _ _ hez hoe,hce⟩
 ·refine af (D1.item k _ _ _ l1 t1' fun x g2 tk2 px u1 e2=>ay ?_);have hTO2:IsPair g2 TO a b:=e2.extBut _ _ Z.a8 (e1.extBut _ _ Z.a2 hTO);refine af (wpAny_seqItems hTO2 rfl ?_);refine af (wpAny_updateSeq_pair hTO2 fun g3 hTO3 e3=>?_);refine af (wpAny_letGo (ay ?_));refine af (af (wpAny_onRaise ?_));show wpAny _ _ (Builtin.SmallTypes.nextOf (.ref i2)>>=_) _ _ _;have t2':S2 k g3:=D2.frame _ _ _ t2 fun c hc o q=>e3.extBut c o (fun w'=>f2.2.1 (w'▸hc)) (e2.extBut c o (fun w'=>f2.2.2 (w'▸hc)) (e1.extBut c o (fun w'=>f2.1 (w'▸hc)) q));refine af (D2.done _ _ _ t2' fun g4 ex e4 he=>?_);obtain⟨oe,hoe,hce⟩:=he;have hz4:IsZip g4 z TI TO .ellipsis:=e4 _ _ Z.a4.symm (e3.extBut _ _ Z.a2.symm (e2.extBut _ _ Z.a3.symm hz1'));have hez:ex≠z:=fun q=>by rw[q,hz4] at hoe;cases hoe;simp at hce
  exact bI hz4 (by simp) fun g5 _ e5=>hE g5 _ ex (fun c o c1 c2 c3 c4 q=>e5.extBut _ _ c1 (e4 _ _ c4 (e3.extBut _ _ c2 (e2.extBut _ _ c3 (e1.extBut _ _ c1 q))))) ⟨oe,e5.extBut _ _ hez hoe,hce⟩
end
end L2
namespace L2
open PySem PySem.Spec PyProof.Rows
noncomputable abbrev sJ (kd:Bool)(l:Addr):Obj:={ cls:=.type (if kd=true then "list_iterator" else "tuple_iterator"),data:=.fields #[.ref l,.int 0 0] }
section
variable {prog:Program}{w:World}{A:Around}{E:Value->Shared->Prop}{s:Shared}
theorem zl {kd:Bool}{l:Addr}{its:Array Value}{Q:Value->Shared->Prop}(ob:mj kd s.heap l its)(h:Q (.ref s.heap.objs.size) { s with heap:=s.heap.push (sJ kd l) }):wpAny (model prog w) A (pyIter (.ref l)) Q E s:=by
 cases kd
 ·exact wpAny_pyIter_tuple (show s.heap.IsTuple l its from ob) h
 ·exact wpAny_pyIter_list (show s.heap.IsList l its from ob) h
end
noncomputable abbrev Bw (h:Heap)(k1:Bool)(l1:Addr):Heap:=h.push (sJ k1 l1)
noncomputable abbrev Bv (h:Heap)(k1 k2:Bool)(l1 l2:Addr):Heap:=(Bw h k1 l1).push (sJ k2 l2)
noncomputable abbrev Bu (h:Heap)(k1 k2:Bool)(l1 l2:Addr):Heap:=(Bv h k1 k2 l1 l2).push { cls:=.type "tuple", data:=.seq #[.ref h.objs.size,.ref (Bw h k1 l1).objs.size] }
noncomputable abbrev Br (h:Heap)(k1 k2:Bool)(l1 l2:Addr):Heap:=(Bu h k1 k2 l1 l2).push { cls:=.type "tuple", data:=.seq #[.none,.none] }
noncomputable abbrev AH (h:Heap)(k1 k2:Bool)(l1 l2:Addr):Heap:=(Br h k1 k2 l1 l2).push { cls:=.type "zip", data:=.fields #[.none,.bool false,.bool false,.ref (Bv h k1 k2 l1 l2).objs.size,.ref (Bu h k1 k2 l1 l2).objs.size] }
set_option maxRecDepth 100000 in
theorem vR (k1 k2:Bool)(l1 l2:Addr)(xs ys:Array Value) :
  Meets (Builtin.«zip.__new__» ⟨[.type "zip", .ref l1,.ref l2],[]⟩) (fun _ R s=>mj k1 s.heap l1 xs/\mj k2 s.heap l2 ys ∧
   R (.ok (.ret (.ref (Br s.heap k1 k2 l1 l2).objs.size))) { s with heap:=AH s.heap k1 k2 l1 l2 }) :=
 .of_wp fun prog w A R s h=>by
  obtain⟨hp,g,d,tk,os⟩:=s;obtain⟨o1,o2,h⟩:=h;have hsub:=sub_zip;have q1:mj k1 (Shared.heap ⟨hp,g,d,tk,os⟩) l1 xs:=o1;have q2:mj k2 (Shared.heap ⟨hp.push (sJ k1 l1),g,d,tk,os⟩) l2 ys:=mj.at o2 fun o e=>ai _ e
  wp_walk using zl q1,zl q2
  exact⟨_,rfl,h⟩
section
variable {prog:Program}{w:World}{A:Around}{E:Value->Shared->Prop}{s:Shared}
theorem vC {k1 k2:Bool}{l1 l2:Addr}{xs ys:Array Value}{Q:Value->Shared->Prop}(o1:mj k1 s.heap l1 xs)(o2:mj k2 s.heap l2 ys)
  (h:∀h',IsZip h' (s.heap.objs.size+4) (s.heap.objs.size+2) (s.heap.objs.size+3) .none->IsPair h' (s.heap.objs.size+2) (.ref s.heap.objs.size) (.ref (s.heap.objs.size+1)) →
   IsPair h' (s.heap.objs.size+3) .none .none->nu k1 h' s.heap.objs.size l1 0->nu k2 h' (s.heap.objs.size+1) l2 0->(∀c o,s.heap.get? c=some o->h'.get? c=some o)->Q (.ref (s.heap.objs.size+4)) { s with heap:=h' }) :
  wpAny (model prog w) A (call (.type "zip") [.ref l1,.ref l2]) Q E s:=by
 refine callType_new F.called_zip (by decide) (F.typeCall_zip_2 _ _) (F.newCall_zip_2 _ _) (fun obj=>F.args_object_init_3 obj _ _) F.entry_zip_new (vR k1 k2 l1 l2 xs ys) ⟨o1,o2,?_⟩;have y1:(Bw s.heap k1 l1).objs.size=s.heap.objs.size+1:=bE ..;have y2:(Bv s.heap k1 k2 l1 l2).objs.size=s.heap.objs.size+2:=by rw[bE,y1]
 have y3:(Bu s.heap k1 k2 l1 l2).objs.size=s.heap.objs.size+3:=by rw[bE,y2]
 have y4:(Br s.heap k1 k2 l1 l2).objs.size=s.heap.objs.size+4:=by rw[bE,y3]
 have r5:(AH s.heap k1 k2 l1 l2).get? (Br s.heap k1 k2 l1 l2).objs.size=some _:=aI _ rfl;have r4:(AH s.heap k1 k2 l1 l2).get? (Bu s.heap k1 k2 l1 l2).objs.size=some _:=ai _ (aI _ rfl);have r3:(AH s.heap k1 k2 l1 l2).get? (Bv s.heap k1 k2 l1 l2).objs.size=some _:=ai _ (ai _ (aI _ rfl));have r2:(AH s.heap k1 k2 l1 l2).get? (Bw s.heap k1 l1).objs.size=some (sJ k2 l2):=ai _ (ai _ (ai _ (aI _ rfl)));have r1:(AH s.heap k1 k2 l1 l2).get? s.heap.objs.size=some (sJ k1 l1):=ai _ (ai _ (ai _ (ai _ (aI _ rfl))));have itk:∀(kd:Bool) (hh:Heap) (it l:Addr),hh.get? it=some (sJ kd l)->nu kd hh it l 0:=fun kd hh it l q=>by
  cases kd
  ·exact⟨_,q,rfl,rfl⟩
  ·exact⟨_,q,rfl,rfl⟩
 show _/\_;rw[y2,y3,y4] at r5;rw[y1,y2] at r3;rw[y3] at r4;rw[y1] at r2;rw[y4];exact⟨⟨_,r5,rfl⟩,h _ r5 r3 r4 (itk _ _ _ _ r1) (itk _ _ _ _ r2) fun c o x =>
  ai _ (ai _ (ai _ (ai _ (ai _ x))))⟩
end
noncomputable def Itz (K:PySem.W.Frag)(k1 k2:Bool)(a b:Addr):It :=
  ⟨fun i H=>∃xs ys x y,ff k1 K H a xs/\ff k2 K H b ys/\xs[i]?=some x/\ys[i]?=some y,
   fun i H v H'=>∃T x y,v=.ref T/\H T=none/\H'=cZ H T (.tup [x,y])/\(∀xs,ff k1 K H a xs->xs[i]?=some x)/\∀ys,ff k2 K H b ys->ys[i]?=some y,
   fun i H=>∃xs ys,ff k1 K H a xs/\ff k2 K H b ys/\(xs.length=i\/(i<xs.length/\ys.length=i))⟩
theorem vX {P:Program}{w:World}{K:PySem.W.Frag}{tes:List Expr}{tk:Nat}{tp:Pos}{k1 k2:Bool}(a b z TI TO i1 i2:Addr)(Z:AJ z TI TO i1 i2)(fa:∀c∈[z,TO,i1,i2],a≠c/\b≠c) :
  Turn P w K (.Tuple tes tk tp) (Itz K k1 k2 a b) [z,TI,TO,i1,i2] z (fun i h=>IsZip h z TI TO .none/\IsPair h TI (.ref i1) (.ref i2)/\(∃x y,IsPair h TO x y)/\nu k1 h i1 a i/\nu k2 h i2 b i) where
 mem:=by simp
 obj:=fun i h ⟨q1,q2,⟨x,y,q3⟩,q4,q5⟩ c hc=>by
  simp only[aw,bH,or_false] at hc;rcases hc with rfl|rfl|rfl|rfl|rfl
  ·exact⟨_,q1,fun v w'=>by cases w'⟩
  ·exact⟨_,q2,fun v w'=>by cases w'⟩
  ·exact⟨_,q3,fun v w'=>by cases w'⟩
  ·exact q4.obj
  ·exact q5.obj
 keep:=fun i h h' ⟨q1,q2,⟨x,y,q3⟩,q4,q5⟩ k=>⟨k z (by simp) _ q1,k TI (by simp) _ q2,⟨x,y,k TO (by simp) _ q3⟩,q4.at fun o q=>k i1 (by simp) o q,q5.at fun o q=>k i2 (by simp) o q⟩
 item:=by
  rintro X hP hw hK hc i pins s σ H E I hf ⟨q1,q2,⟨ox,oy,q3⟩,q4,q5⟩ ⟨xs,ys,vx,vy,sx,sy,gx,gy⟩;subst hP hw hK;obtain⟨its,rv,ob,hz⟩:=I.seqK sx;obtain⟨jts,rw',oc,hz'⟩:=I.seqK sy;obtain⟨u,hu,ru⟩:=rv.get gx;obtain⟨v,hv,rv'⟩:=rw'.get gy;have hi:i<its.toArray.size:=by rw[aA];exact (aE.mp hu).1
  have hj:i<jts.toArray.size:=by rw[aA];exact (aE.mp hv).1
  have fz:=fa z (by simp);have fTO:=fa TO (by simp);have f1:=fa i1 (by simp);have f2:=fa i2 (by simp);have D1:=iN (prog:=X.prog) (w:=X.w) (A:=X.A.in1) (I.ok.hd hc) i1 a f1.1 its.toArray;have D2:=iN (prog:=X.prog) (w:=X.w) (A:=X.A.in1) (I.ok.hd hc) i2 b f2.2 jts.toArray;have hT:s.TypeIs (.ref z) "zip" := ⟨_,q1,rfl⟩;have ap1:z∉[i1,a]/\TO∉[i1,a]/\i2∉[i1,a]:=⟨by simp[Z.a3.symm,fz.1.symm],by simp[Z.a8,fTO.1.symm],by simp[Z.b1.symm,f2.1.symm]⟩;have ap2:z∉[i2,b]/\TO∉[i2,b]/\i1∉[i2,b]:=⟨by simp[Z.a4.symm,fz.2.symm],by simp[Z.a9,fTO.2.symm],by simp[Z.b1,f1.2.symm]⟩;unfold pyNext;refine af (wpAny_attempt (wpAny_callSpecial?_slot (name:=Str.ofString "__next__") hT F.slot_zip_next (wpAny_call_entry F.slot_zip_next hT F.entry_zip_next
   (xM Z D1 D2 ap1 ap2 q1 q2 q3 (q4.with ob) (q5.with oc) hi hj fun x y h' tk px py nz nTO n1 n2 nT hk=>ay ?_) (F.args_zip_next_1 _))))
  have ex:x=u:=by
   have:its[i]?=some x:=by simpa using px
   rw[hu] at this;exact (aL.inj this).symm
  have ey:y=v:=by
   have:jts[i]?=some y:=by simpa using py
   rw[hv] at this;exact (aL.inj this).symm
  subst ex ey;have ob':mj k1 h' a its.toArray:=ob.at fun o q=>hk a o fz.1 fTO.1 f1.1 f2.1 q;have oc':mj k2 h' b jts.toArray:=oc.at fun o q=>hk b o fz.2 fTO.2 f1.2 f2.2 q;have nTI:IsPair h' TI (.ref i1) (.ref i2):=hk TI _ Z.a1 Z.a5 Z.a6 Z.a7 q2;have lt:∀c∈[z,TI,TO,i1,i2],c<s.heap.objs.size:=fun c hc=>by
   simp only[aw,bH,or_false] at hc;rcases hc with rfl|rfl|rfl|rfl|rfl
   ·exact aF q1
   ·exact aF q2
   ·exact aF q3
   ·obtain⟨o,q,_⟩:=q4.obj;exact aF q
   ·obtain⟨o,q,_⟩:=q5.obj;exact aF q
  refine⟨_,rfl,?_⟩;have I1:Inv X pins σ (cZ H s.heap.objs.size (.tup [vx,vy])) { s with heap:=h',toks:=tk }:=by
   refine I.turnedLay (fp:=[z,TI,TO,i1,i2]) (fun c o hc q=>hk c o (fun w'=>hc (by simp[w'])) (fun w'=>hc (by simp[w'])) (fun w'=>hc (by simp[w'])) (fun w'=>hc (by simp[w'])) q) (fun c hc=>?_) hf (az _) ⟨AW,[x,y],.cons ru (.cons rv' .nil),⟨_,nT,rfl,_,rfl⟩⟩;simp only[aw,bH,or_false] at hc;rcases hc with rfl|rfl|rfl|rfl|rfl
   ·exact⟨_,nz⟩
   ·exact⟨_,nTI⟩
   ·exact⟨_,nTO⟩
   ·obtain⟨o,q,_⟩:=n1.live;exact⟨o,q⟩
   ·obtain⟨o,q,_⟩:=n2.live;exact⟨o,q⟩
  have fr:H s.heap.objs.size=none:=I.hok.fresh (az _);have fe:=hf z (by simp);refine wpAny_letOwnedTupleGo_zip (s:={ s with heap:=h',toks:=tk }) nz fun g2 nz2 hs2=>?_;have I2:Inv X pins σ (cZ H s.heap.objs.size (.tup [vx,vy])) { s with heap:=g2,toks:=tk } :=
   Inv.turned (s:={ s with heap:=h',toks:=tk }) (it:=z) (t':=tk) I1 (fun c o hc q=>(hs2.2 c hc).trans q) (by rw[cq (aO (lt z (by simp)))];exact fe.1) fe.2.1 fe.2.2.2.1 fe.2.2.2.2.1 fe.2.2.2.2.2
  refine⟨.ref s.heap.objs.size,_,I2,rfl,⟨_,vx,vy,rfl,fr,rfl,fun zs hy=>?_,fun zs hy=>?_⟩,⟨nz2,(hs2.2 TI Z.a1).trans nTI,⟨_,_,(hs2.2 TO Z.a2).trans nTO⟩,(nu.of n1 ob').at fun o q=>(hs2.2 i1 Z.a3).trans q,(nu.of n2 oc').at fun o q=>(hs2.2 i2 Z.a4).trans q⟩,fun c hc=>?_⟩
  ·rw[I.seqK_inj hy sx];exact gx
  ·rw[I.seqK_inj hy sy];exact gy
  ·rw[cq (aO (lt c hc))];exact (hf c hc).1
 done:=by
  rintro X hP hw hK hc i pins s σ H E I hf ⟨q1,q2,⟨ox,oy,q3⟩,q4,q5⟩ ⟨xs,ys,sx,sy,hl⟩;subst hP hw hK;obtain⟨its,rv,ob,hz⟩:=I.seqK sx;obtain⟨jts,rw',oc,hz'⟩:=I.seqK sy;have fz:=fa z (by simp);have fTO:=fa TO (by simp);have f1:=fa i1 (by simp);have f2:=fa i2 (by simp);have D1:=iN (prog:=X.prog) (w:=X.w) (A:=X.A.in1) (I.ok.hd hc) i1 a f1.1 its.toArray;have D2:=iN (prog:=X.prog) (w:=X.w) (A:=X.A.in1) (I.ok.hd hc) i2 b f2.2 jts.toArray;have hT:s.TypeIs (.ref z) "zip" := ⟨_,q1,rfl⟩;have ap1:z∉[i1,a]/\TO∉[i1,a]/\i2∉[i1,a]:=⟨by simp[Z.a3.symm,fz.1.symm],by simp[Z.a8,fTO.1.symm],by simp[Z.b1.symm,f2.1.symm]⟩;have ap2:z∉[i2,b]/\TO∉[i2,b]/\i1∉[i2,b]:=⟨by simp[Z.a4.symm,fz.2.symm],by simp[Z.a9,fTO.2.symm],by simp[Z.b1,f1.2.symm]⟩;have hend:i=its.toArray.size\/(i<its.toArray.size/\i=jts.toArray.size):=by
   rw[aA,aA,<-rv.length,<-rw'.length];rcases hl with z|⟨z1,z2⟩
   ·exact .inl z.symm
   ·exact .inr ⟨z1,z2.symm⟩
  unfold pyNext;refine af (wpAny_attempt (wpAny_callSpecial?_slot (name:=Str.ofString "__next__") hT F.slot_zip_next (wpAny_call_entry F.slot_zip_next hT F.entry_zip_next (zA Z D1 D2 ap1 ap2 q1 q2 q3 (q4.with ob) (q5.with oc) hend fun h' tk ex hk he=>?_) (F.args_zip_next_1 _))));obtain⟨o,ho,hce⟩:=he;refine af (wpAny_isInstance (T := "StopIteration") (b:=true) ⟨o,ho,hce⟩ isSubtype_stop ?_);refine ay ⟨rfl,?_⟩;refine I.step (g':=s.gens) (d':=s.drawn) (ch:=[z,TO,i1,i2]) (fun c hc=>?_) (fun c o _ _ hc q _=>hk c o (fun w'=>hc (by simp[w'])) (fun w'=>hc (by simp[w'])) (fun w'=>hc (by simp[w'])) (fun w'=>hc (by simp[w'])) q)
   (fun c o _ _ hc q _=>⟨o.slots,hk c o (fun w'=>hc (by simp[w'])) (fun w'=>hc (by simp[w'])) (fun w'=>hc (by simp[w'])) (fun w'=>hc (by simp[w'])) q⟩) (fun _ _ _ _ n=>n)
   (fun c o hc q=>⟨o,hk c o (fun w'=>hc (by simp[w'])) (fun w'=>hc (by simp[w'])) (fun w'=>hc (by simp[w'])) (fun w'=>hc (by simp[w'])) q⟩) (fun _ _ e=>e) (fun _ _ _ e=>e) (fun b ps e=>⟨#[],by rw[e];simp⟩) (fun m hm=>?_) (fun c u e=>?_) I.bare
  ·obtain⟨_,f1,f2,f3,f4,f5⟩:=hf c (by simp only[aw,bH,or_false] at hc ⊢;rcases hc with z|z|z|z <;> simp[z]);exact⟨f3,f1,f4,f5⟩
  ·obtain⟨o,es,ep,ho',r⟩:=hm;exact⟨o,es,ep,hk _ o (fun w'=>(hf z (by simp)).2.1 w'.symm) (fun w'=>(hf TO (by simp)).2.1 w'.symm) (fun w'=>(hf i1 (by simp)).2.1 w'.symm) (fun w'=>(hf i2 (by simp)).2.1 w'.symm) ho',r⟩
  ·have nf:∀d u,H d=some u->d≠z/\d≠TO/\d≠i1/\d≠i2:=fun d u e=>⟨(fun w'=>by rw[w',(hf z (by simp)).1] at e;cases e),(fun w'=>by rw[w',(hf TO (by simp)).1] at e;cases e),(fun w'=>by rw[w',(hf i1 (by simp)).1] at e;cases e),(fun w'=>by rw[w',(hf i2 (by simp)).1] at e;cases e)⟩;refine (I.hok c u e).stay (fun d v hd q=>?_) (fun _ q=>q) fun _ _ q=>q;rcases hd with w'|w'
   ·obtain⟨m1,m2,m3,m4⟩:=nf c u e;rw[w'] at q ⊢;exact hk c v m1 m2 m3 m4 q
   ·obtain⟨m1,m2,m3,m4⟩:=nf d _ w';exact hk d v m1 m2 m3 m4 q
 self:=fun _ _ _ _ _ ⟨x,_⟩ h=>wpAny_pyIter_zip x h
section
variable {X:Cx}{e1 e2:Expr}{p pos tp:Pos}{tes:List Expr}{tk:Nat}
noncomputable def Cu (K:PySem.W.Frag)(ta:TA):TI:=fun σ H R=>ta σ H fun vs H1=>∃k1 k2 a b,vs=[.ref a,.ref b]/\(∃xs,ff k1 K H1 a xs)/\(∃ys,ff k2 K H1 b ys)/\R (Itz K k1 k2 a b) H1
theorem pi_zip {ta:TA}(hg:Gl X "zip")(hm:X.mg "zip" = none)(ha:PA X [e1,e2] ta)(hs:starEach [e1,e2] X.env=[(false,eval e1 X.env),(false,eval e2 X.env)]:=by rfl)(hs2:starEach [e2] X.env=[(false,eval e2 X.env)]:=by rfl) :
  PI X (.Tuple tes tk tp) (.Call (.Name "zip" p) [e1,e2] [] pos) (Cu X.K ta):=by
 intro pins s σ H R I h;refine Call_ (lH I hg hm boot_zip (PyProof.Rows.callWith_type1 (thn (ha pos pins s σ H _ I h) fun us s1 ⟨vs,H1,I1,r1,q1⟩=>?_) (by rw[hs,hs2]) (by rw[hs2];rfl)));obtain⟨k1,k2,a,b,e,⟨xs,hx⟩,⟨ys,hy⟩,q⟩:=q1;subst e;obtain⟨u,w',rfl,ru,rw'⟩:=cH.two r1;cases ru;cases rw';obtain⟨its,rv,ob,_⟩:=I1.seqK hx;obtain⟨jts,rv2,oc,_⟩:=I1.seqK hy;refine vC ob oc fun h' hz hTI hTO it1 it2 hk=>?_;have I2:Inv X pins σ H1 { s1 with heap:=h' }:=I1.kept (t':=s1.toks) hk;have alt:=ob.lt;have blt:=oc.lt;generalize hn:s1.heap.objs.size=n at hz hTI hTO it1 it2 alt blt;refine wpAny_pyIter_zip hz ⟨_,_,_,_,H1,rfl,I2,vX (k1:=k1) (k2:=k2) a b (n+4) (n+2) (n+3) n (n+1)
  ⟨by simp,by simp,by simp,by simp,by simp,by simp,by simp,by simp,by simp,by simp⟩ (fun c hc=>?_),⟨hz,hTI,⟨_,_,hTO⟩,it1,it2⟩,fun c hc=>?_,q⟩
 ·have:n<=c:=by
   simp only[aw,bH,or_false] at hc;rcases hc with z|z|z|z <;> rw[z] <;> first|exact az _|exact Nat.le_add_right _ _
  exact⟨aO (aH alt this),aO (aH blt this)⟩
 ·have:s1.heap.objs.size<=c:=by
   rw[hn];simp only[aw,bH,or_false] at hc;rcases hc with z|z|z|z|z <;> rw[z] <;> first|exact az _|exact Nat.le_add_right _ _
  exact I1.fpOk this (I1.hok.fresh this)
end
end L2
namespace DL
open PySem PySem.Spec PySem.SeqAt
open L2 (V Hp St HO VK TE TT TA TS TI TG Cx Inv PE PT PA PS PSs PI PG dN dU cI cZ cA cq cg cH cP EP TP AP SP di It ff)
theorem ql:∀(xs ys:List D) (i:Nat) (d:D),(kq xs ys)[i]?=some d->∃x y,xs[i]?=some x/\ys[i]?=some y/\d=.tuple [x,y]
 |[],_,i,d,h=>by simp[kq] at h
 |_::_,[],i,d,h=>by simp[kq] at h
 |x::xs,y::ys,0,d,h=>by simp[kq] at h;exact⟨x,y,rfl,rfl,h.symm⟩
 | x::xs,y::ys,i+1,d,h=>by
  obtain⟨a,b,h1,h2,h3⟩:=ql xs ys i d (by simpa [kq] using h);exact⟨a,b,by simpa using h1,by simpa using h2,h3⟩
theorem qk:∀(xs ys:List D),(kq xs ys).length=min xs.length ys.length
 |[],_=>by simp[kq]
 |_::_,[]=>by simp[kq]
 |_::xs,_::ys=>by simp[kq,qk xs ys]
theorem wU {K:Fg}{H:Hp}{M O:List Addr}{a b:Addr}{k1 k2:Bool}{ds es:List D}{vs us:List V}(h1:∀O' H',gL M O H O' H'->ff k1 K H' a vs)(q1:Rs K H O ds vs)(h2:∀O' H',gL M O H O' H'->ff k2 K H' b us)(q2:Rs K H O es us) :
  kQ K (L2.Itz K k1 k2 a b) (kq ds es) M O H:=by
 intro O2 H2 x;have g1:=h1 _ _ x;have g2:=h2 _ _ x;have p1:=q1.ext x;have p2:=q2.ext x;have l1:=p1.length;have l2:=p2.length;refine⟨fun i d e=>?_,vs,us,g1,g2,?_⟩
 ·obtain⟨dx,dy,ex,ey,rfl⟩:=ql ds es i d e;obtain⟨v,ev,rv⟩:=p1.get ex;obtain⟨u,eu,ru⟩:=p2.get ey;refine⟨⟨vs,us,v,u,g1,g2,ev,eu⟩,fun y H3 ⟨T,z1,z2,e1,hT,eH,hz1,hz2⟩=>?_⟩;subst e1 eH;have a1:=hz1 vs g1;have a2:=hz2 us g2;rw[ev] at a1;rw[eu] at a2;cases a1;cases a2;have s2:cI H2 (cZ H2 T (.tup [v,u])):=fun b o e=>by rw[cq (cg e hT)];exact e
  exact⟨s2,.tuple (.inl (.inl cA)) (.cons (rv.same s2) (.cons (ru.same s2) .nil))⟩
 ·rw[qk];omega
theorem gL.back {M O O':List Addr}{H H1 H':Hp}(s:cI H H1)(x:gL M O H1 O' H'):gL M O H O' H' :=
 ⟨fun b _ e=>x.tup b _ (s b _ e),fun b _ _ e=>x.frz b _ _ (s b _ e),fun b _ n e=>x.lst b _ n (s b _ e),fun b _ n e=>x.ext b _ n (s b _ e),fun b hb=>(x.new b hb).elim .inl fun z=>.inr (s.free z),x.sub⟩
section
variable {X:Cx}{e1 e2:Expr}{f g:AD}{p pos tp:Pos}{tes:List Expr}{tk:Nat}
theorem xq (hm:X.mg "zip" = none)(h1:DQ X e1 f)(h2:DQ X e2 g)(hg:L2.Gl X "zip" := by rfl)(hs:starEach [e1,e2] X.env=[(false,eval e1 X.env),(false,eval e2 X.env)]:=by rfl)(hs2:starEach [e2] X.env=[(false,eval e2 X.env)]:=by rfl) :
  DI X (.Tuple tes tk tp) (.Call (.Name "zip" p) [e1,e2] [] pos) (pS f g):=by
 have pa:PA X [e1,e2] (L2.tCons (uQ X.K f) (L2.tCons (uQ X.K g) L2.tNil)):=L2.pa_cons h1 (L2.pa_cons h2 L2.pa_nil hs2) (by rw[hs,hs2]);refine (L2.pi_zip hg hm pa hs hs2).imp fun σ H Q zz=>?_;obtain ⟨ρ,O,M,lad,zs,hE,hf,k⟩:=zz;unfold pS at hf;cases hr:f ρ with
 |none=>rw[hr] at hf;cases hf
 |some ds =>
  rw[hr,aa] at hf;cases hr2:g ρ with
  |none=>rw[hr2] at hf;cases hf
  |some es =>
   rw[hr2,ag] at hf;cases hf;refine⟨ρ,O,M,lad,ds,hE,hr,fun v H1 k1 s1 ⟨a,vs,ev,qs1,g1⟩=>⟨ρ,O,M,lad,es,hE.same s1,hr2,fun u H2 k2 s2 ⟨b,us,eu,qs2,g2⟩=>?_⟩⟩;subst ev eu;have i2:=gL.id M O H2 ((hE.same s1).same s2).sub;exact⟨k1,k2,a,b,rfl,⟨vs,g1 _ _ (i2.back s2)⟩,⟨us,g2 _ _ i2⟩,k _ H2 (s1.trans s2) (wU (fun O' H' x=>g1 O' H' (x.back s2)) (qs1.same s2) (fun O' H' x=>g2 O' H' x) qs2)⟩
end
end DL
namespace L2
open PySem PySem.Spec PyProof.Rows
section
variable {prog:Program}{w:World}{A:Around}{E:Value->Shared->Prop}{s:Shared}
end
section
variable {prog:Program}{w:World}{A:Around}{E:Value->Shared->Prop}{s:Shared}{z TI TO i1 i2 i3:Addr}{n1 n2 n3 k:Nat}{fp1 fp2 fp3:List Addr}{P1 P2 P3:Nat->Value->Prop}{S1 S2 S3:Nat->Heap->Prop}
end
set_option maxHeartbeats 4000000 in
set_option maxRecDepth 100000 in
section
variable {prog:Program}{w:World}{A:Around}{E:Value->Shared->Prop}{s:Shared}
end
section
variable {X:Cx}{e1 e2 e3:Expr}{p pos tp:Pos}{tes:List Expr}{tk:Nat}
end
end L2
namespace DL
open PySem PySem.Spec PySem.SeqAt
open L2 (V Hp St HO VK TE TT TA TS TI TG Cx Inv PE PT PA PS PSs PI PG dN dU cI cZ cA cq cg cH cP EP TP AP SP di It ff)
section
variable {X:Cx}{e1 e2 e3:Expr}{f g k:AD}{p pos tp:Pos}{tes:List Expr}{tk:Nat}
end
end DL
namespace L2.Srt
open PySem PyProof.Rows
section
variable {prog:Program}{w:World}{A:Around}{E:Value->Shared->Prop}{s:Shared}{a₀:Array Keyed}{κ:PyProof.Rows.KeyKind}{kd:SortKind}{st:SortSt}
noncomputable abbrev Bm (st:SortSt):SortSt:=SortSt.mk' oneType' (arrOf st) (pendingOf st) (gallopOf st) (failedOf st)
structure Bs (a₀:Array Keyed)(kd:SortKind)(st:SortSt):Prop where
 b:SBase a₀ (Bm st)
 k:kindOf st=kd
theorem Bs.sz (B:Bs a₀ kd st):(arrOf st).size=a₀.size:=B.b.size
theorem Bs.put (B:Bs a₀ kd st){xs:Array Keyed}(p:xs.Perm (arrOf st)):Bs a₀ kd (setArr st xs):=⟨B.b.setArr p,B.k⟩
noncomputable def Cm (prog:Program)(w:World)(A:Around)(s:Shared)(κ:PyProof.Rows.KeyKind)(kd:SortKind):Prop :=
 ∀(E:Value->Shared->Prop) (x y:Value) (a b:κ.α) (Q:Bool->Shared->Prop),κ.keyOf x=some a->κ.keyOf y=some b->Q (κ.blt a b) s->wpAny (model prog w) A (keyLt' kd x y) Q E s
noncomputable abbrev ky (κ:PyProof.Rows.KeyKind)(st:SortSt)(i:Nat):κ.α:=KK κ (arrOf st) i
theorem less (C:Cm prog w A s κ kd)(O:KeysOf κ a₀)(B:Bs a₀ kd st){i j:Nat}(hi:i<a₀.size)(hj:j<a₀.size){Q:Option Bool->SortSt->Prop}(h:Q (some (κ.blt (ky κ st i) (ky κ st j))) st) :
  wpS (model prog w) A E s (ltAt' i j) Q st:=by
 obtain⟨x,p,a,e1,ka,g1⟩:=B.b.atK O hi;obtain⟨y,q,b,e2,kb,g2⟩:=B.b.atK O hj;have e1':(arrOf st)[i]?=some (x,p):=e1;have e2':(arrOf st)[j]?=some (y,q):=e2;have g1':ky κ st i=a:=g1;have g2':ky κ st j=b:=g2;rw[g1',g2'] at h;rw[ltAt'_eq];refine wpS_bind (wpS_get (show wpS _ _ _ _ (elem' (arrOf st) i>>=fun x=>elem' (arrOf st) j>>=fun y=>lt' x y) Q st from ?_));rw[elem'_eq,elem'_eq,e1',e2'];refine wpS_bind (wpS_pure (wpS_bind (wpS_pure ?_)));rw[lt'_eq];refine wpS_bind (wpS_get ?_);rw[B.k];exact wpS_bind (wpS_lift (wpAny_attempt (C _ x y a b _ ka kb ⟨rfl,wpS_pure h⟩)))
theorem Ci {xs:Array Keyed}{x:Nat}(h:SortedToK κ xs x)(h1:1<=x)(l:κ.kle (KK κ xs (x-1)) (KK κ xs x)):SortedToK κ xs (x+1):=fun i j ij jx=>by
 rcases CC j x with z|z
 ·exact h i j ij z
 ·cases (show j=x by omega);rcases CC i x with z'|z'
  ·exact KeyOrd.kle_trans (h i (x-1) ⋯ ⋯) l
  ·cases (show i=x by omega);exact KeyOrd.kle_refl _
theorem Bl {xs:Array Keyed}{x:Nat}(h:NonIncK κ xs x)(h1:1<=x)(l:κ.kle (KK κ xs x) (KK κ xs (x-1))):NonIncK κ xs (x+1):=fun i j ij jx=>by
 rcases CC j x with z|z
 ·exact h i j ij z
 ·cases (show j=x by omega);rcases CC i x with z'|z'
  ·exact KeyOrd.kle_trans l (h i (x-1) ⋯ ⋯)
  ·cases (show i=x by omega);exact KeyOrd.kle_refl _
theorem one {xs:Array Keyed}:SortedToK κ xs 1:=fun i j ij j1=>by cases (show i=j by omega);exact KeyOrd.kle_refl _
theorem xx (C:Cm prog w A s κ kd)(O:KeysOf κ a₀)(B:Bs a₀ kd st){a n:Nat}(hn:n<=a₀.size)(h1:1<=a)(an:a<=n)(hs:SortedToK κ (arrOf st) a){Q:AscSt->SortSt->Prop}
  (h:∀m,a<=m->m<=n->SortedToK κ (arrOf st) m->(m<n->κ.klt (ky κ st m) (ky κ st (m-1)))->Q (none,m) st):wpS (model prog w) A E s (ascLoop a n) Q st:=by
 unfold ascLoop;refine wpS_forRange (I:=fun x c t=>t=st/\c=(none,x)/\SortedToK κ (arrOf st) x) (fun x c t ax xn ⟨et,ec,hx⟩=>?_) (fun c t ⟨et,ec,hx⟩=>?_) ⟨rfl,rfl,hs⟩
 ·subst et ec;refine wpS_bind (less C O B ⋯ ⋯ ?_);by_cases l:κ.blt (ky κ t x) (ky κ t (x-1))=true
  ·rw[l];exact wpS_pure (h x ax ⋯ hx fun _=>l)
  ·rw[Bool.not_eq_true] at l;rw[l];exact wpS_pure ⟨rfl,rfl,Ci hx ⋯ l⟩
 ·subst et ec;rw[show max a n=n by omega] at hx ⊢;exact h n an (az n) hx fun z=>absurd z (aY n)
abbrev B0 (κ:PyProof.Rows.KeyKind)(a₀:Array Keyed)(kd:SortKind)(n:Nat)(Q:Option Nat->SortSt->Prop):Prop:=∀m t,Bs a₀ kd t->1<=m->m<=n->SortedToK κ (arrOf t) m->Q (some m) t
theorem turned (C:Cm prog w A s κ kd)(O:KeysOf κ a₀)(B:Bs a₀ kd st){m n:Nat}(hn:n<=a₀.size)(h1:1<=m)(mn:m<=n)(hs:NonIncK κ (arrOf st) m){Q:Option Nat->SortSt->Prop}(h:B0 κ a₀ kd n Q) :
  wpS (model prog w) A E s (tail3 m n) Q st:=by
 have B':=B.put (mirror_perm (arrOf st) 0 m ((m-0)/2));have z:m<=(arrOf st).size:=by rw[B.sz];omega
 unfold tail3;refine wpS_bind (wpS_reverse (wpS_bind (xx C O B' hn h1 mn (fun i j ij jm=>?_) fun k k1 k2 k3 _=>wpS_pure (h k _ B' ⋯ k2 k3))));show κ.kle (KK κ (mirror (arrOf st) 0 m ((m-0)/2)) i) (KK κ (mirror (arrOf st) 0 m ((m-0)/2)) j);rw[KK_mirror z i,KK_mirror z j,if_pos ⟨bt _,by omega⟩,if_pos ⟨bt _,by omega⟩];exact hs _ _ ⋯ ⋯
structure AG (κ:PyProof.Rows.KeyKind)(t:SortSt)(m q:Nat):Prop where
 dn:NonIncK κ (arrOf t) m
 q1:q+1<=m
 eq:∀i,m-(q+1)<=i->i<m->ky κ t i=ky κ t (m-1)
theorem Bh (C:Cm prog w A s κ kd)(O:KeysOf κ a₀)(B:Bs a₀ kd st){m n:Nat}(hn:n<=a₀.size)(h1:1<=m)(mn:m<=n)(hs:NonIncK κ (arrOf st) m){Q:DescSt->SortSt->Prop}
  (h:∀k q t,Bs a₀ kd t->m<=k->k<=n->AG κ t k q->Q (none,k,q) t):wpS (model prog w) A E s (descLoop m n) Q st:=by
 unfold descLoop;have alone:∀{t:SortSt}{k:Nat},NonIncK κ (arrOf t) k->1<=k->AG κ t k 0:=fun {t k} d k1=>⟨d,by omega,fun i i1 i2=>by rw[show i=k-1 by omega]⟩;refine wpS_forRange (I:=fun x c t=>∃q,c=(none,x,q)/\Bs a₀ kd t/\AG κ t x q) (fun x c t mx xn ⟨q,ec,Bt,F⟩=>?_) (fun c t ⟨q,ec,Bt,F⟩=>?_) ⟨0,rfl,B,alone hs h1⟩
 ·subst ec;have z:x<=(arrOf t).size:=by rw[Bt.sz];omega
  dsimp only;refine wpS_bind (less C O Bt ⋯ ⋯ ?_);by_cases l:κ.blt (ky κ t x) (ky κ t (x-1))=true
  ·rw[l];have same:∀i,KK κ (mirror (arrOf t) (x-(q+1)) x ((x-(x-(q+1)))/2)) i=ky κ t i:=KK_mirror_equal z F.eq;dsimp only;rw[if_pos rfl];by_cases hq:q>0
   ·rw[if_pos hq];refine wpS_bind (wpS_reverse (wpS_pure ⟨0,rfl,Bt.put (mirror_perm _ _ _ _),alone (fun i j ij jx=>?_) ⋯⟩));show κ.kle (KK κ (mirror (arrOf t) _ _ _) j) (KK κ (mirror (arrOf t) _ _ _) i);rw[same,same];exact Bl F.dn ⋯ (KeyOrd.kle_of_klt l) i j ij jx
   ·rw[if_neg hq];exact wpS_pure ⟨0,rfl,Bt,alone (Bl F.dn ⋯ (KeyOrd.kle_of_klt l)) ⋯⟩
  ·rw[Bool.not_eq_true] at l;rw[l];dsimp only;rw[if_neg Bool.false_ne_true];refine wpS_bind (less C O Bt ⋯ ⋯ ?_);by_cases g:κ.blt (ky κ t (x-1)) (ky κ t x)=true
   ·rw[g];exact wpS_pure (h x q t Bt mx ⋯ F)
   ·rw[Bool.not_eq_true] at g;rw[g];have ex:ky κ t x=ky κ t (x-1):=κ.total _ _ l g;refine wpS_pure ⟨q+1,rfl,Bt,⟨Bl F.dn ⋯ g,by have:=F.q1;omega,fun i i1 i2=>?_⟩⟩;rw[Nat.add_sub_cancel,ex];rcases CC i x with z1|z1
    ·exact F.eq i ⋯ z1
    ·rw[show i=x by omega,ex]
 ·subst ec;rw[show max m n=n by omega] at F ⊢;exact h n q t Bt mn (az n) F
theorem Bg (C:Cm prog w A s κ kd)(O:KeysOf κ a₀)(B:Bs a₀ kd st){m n:Nat}(hn:n<=a₀.size)(mn:m+1<=n)(hs:NonIncK κ (arrOf st) (m+1)){Q:Option Nat->SortSt->Prop}(h:B0 κ a₀ kd n Q) :
  wpS (model prog w) A E s (descPart m n) Q st:=by
 unfold descPart;refine wpS_bind (wpS_lift (wpAny_rule ⟨rfl,wpS_bind (Bh C O B hn ⋯ mn hs fun k q t Bt mk kn F=>?_)⟩));have z:k<=(arrOf t).size:=by rw[Bt.sz];omega
 have same:∀i,KK κ (mirror (arrOf t) (k-(q+1)) k ((k-(k-(q+1)))/2)) i=ky κ t i:=KK_mirror_equal z F.eq;dsimp only;by_cases hq:q>0
 ·rw[if_pos hq];refine wpS_bind (wpS_reverse (turned C O (Bt.put (mirror_perm _ _ _ _)) hn ⋯ kn (fun i j ij jk=>?_) h));show κ.kle (KK κ (mirror (arrOf t) _ _ _) j) (KK κ (mirror (arrOf t) _ _ _) i);rw[same,same];exact F.dn i j ij jk
 ·rw[if_neg hq];exact turned C O Bt hn ⋯ kn F.dn h
theorem Ap (C:Cm prog w A s κ kd)(O:KeysOf κ a₀)(B:Bs a₀ kd st){n:Nat}(hn:n<=a₀.size)(h1:1<=n){Q:Option Nat->SortSt->Prop}(h:B0 κ a₀ kd n Q):wpS (model prog w) A E s (countRun' 0 n) Q st:=by
 rw[countRun0_eq];refine wpS_bind (xx C O B hn (az 1) h1 one fun m m1 mn hs hl=>?_);dsimp only;by_cases e:m=n
 ·rw[if_pos (beq_iff_eq.mpr e)];exact wpS_pure (h m st B m1 mn hs)
 ·have l:=hl ⋯;rw[if_neg (fun z=>e (beq_iff_eq.mp z))];by_cases m2:m>1
  ·rw[if_pos m2];refine wpS_bind (less C O B ⋯ ⋯ ?_);by_cases r:κ.blt (ky κ st 0) (ky κ st (m-1))=true
   ·rw[r];exact wpS_pure (h m st B m1 mn hs)
   ·rw[Bool.not_eq_true] at r;rw[r];have alike:∀i,0<=i->i<m->ky κ st i=ky κ st (m-1):=fun i _ im=>κ.total _ _ (KeyOrd.kle_trans r (hs 0 i (bt _) im)) (hs i (m-1) ⋯ ⋯);have z:m<=(arrOf st).size:=by rw[B.sz];omega
    have same:∀i,KK κ (mirror (arrOf st) 0 m ((m-0)/2)) i=ky κ st i:=KK_mirror_equal z alike;have low:NonIncK κ (arrOf st) m:=fun i j ij jm=>by rw[show KK κ (arrOf st) j=_ from alike j (bt _) jm,show KK κ (arrOf st) i=_ from alike i (bt _) ⋯];exact KeyOrd.kle_refl _
    refine wpS_bind (wpS_reverse (Bg C O (B.put (mirror_perm _ _ _ _)) hn ⋯ (fun i j ij jm=>?_) h));show κ.kle (KK κ (mirror (arrOf st) _ _ _) j) (KK κ (mirror (arrOf st) _ _ _) i);rw[same,same];exact Bl low m1 (KeyOrd.kle_of_klt l) i j ij jm
  ·rw[if_neg m2];cases (show m=1 by omega);exact Bg C O B hn ⋯ (Bl (fun i j ij j1=>by cases (show i=j by omega);exact KeyOrd.kle_refl _) (az 1) (KeyOrd.kle_of_klt l)) h
end
end L2.Srt
namespace L2.Srt
open PySem PyProof.Rows
section
variable {prog:Program}{w:World}{A:Around}{E:Value->Shared->Prop}{s:Shared}{a₀:Array Keyed}{κ:PyProof.Rows.KeyKind}{kd:SortKind}{st:SortSt}
structure B5 (κ:PyProof.Rows.KeyKind)(t:SortSt)(k l r:Nat):Prop where
 lr:l<=r
 rk:r<=k
 lo:∀i,i<l->κ.kle (ky κ t i) (ky κ t k)
 hi:∀i,r<=i->i<k->κ.klt (ky κ t k) (ky κ t i)
theorem B5.slid {t:SortSt}{k l:Nat}(G:B5 κ t k l l)(hs:SortedToK κ (arrOf t) k)(z:k<(arrOf t).size):SortedToK κ (bubble (arrOf t) k (k-l)) (k+1):=fun i j ij jk=>by
 have lk:=G.rk;have at_:∀i,KK κ (bubble (arrOf t) k (k-l)) i=if i=l then ky κ t k else if l<i/\i<=k then ky κ t (i-1) else ky κ t i:=fun i=>by
  rw[KK_bubble z (Nat.sub_le k l) i,show k-(k-l)=l by omega]
 rw[at_ i,at_ j];by_cases i1:i=l
 ·rw[if_pos i1];by_cases j1:j=l
  ·rw[if_pos j1];exact KeyOrd.kle_refl _
  ·rw[if_neg j1,if_pos ⋯];exact KeyOrd.kle_of_klt (G.hi _ ⋯ ⋯)
 ·rw[if_neg i1];by_cases i2:l<i/\i<=k
  ·rw[if_pos i2,if_neg ⋯,if_pos ⋯];exact hs _ _ ⋯ ⋯
  ·rw[if_neg i2];by_cases j1:j=l
   ·rw[if_pos j1];exact G.lo i ⋯
   ·rw[if_neg j1];by_cases j2:l<j/\j<=k
    ·rw[if_pos j2];exact hs _ _ ⋯ ⋯
    ·rw[if_neg j2];exact hs _ _ ij ⋯
theorem yE (C:Cm prog w A s κ kd)(O:KeysOf κ a₀)(B:Bs a₀ kd st){n ok:Nat}(hn:n<=a₀.size)(o1:1<=ok)(on:ok<=n)(hs:SortedToK κ (arrOf st) ok){Q:Bool->SortSt->Prop}
  (h:∀t,Bs a₀ kd t->SortedToK κ (arrOf t) n->Q true t):wpS (model prog w) A E s (binarySort' 0 n ok) Q st:=by
 rw[binarySort'_eq];simp only[bZ];rw[show max ok 1=ok by omega];refine wpS_bind (wpS_forRange (I:=fun k c t=>c=(none,())/\Bs a₀ kd t/\SortedToK κ (arrOf t) k) (fun k c t ak kn ⟨ec,Bt,hk⟩=>?_) (fun c t ⟨ec,Bt,hk⟩=>?_) ⟨rfl,B,hs⟩)
 ·subst ec;have z:k<(arrOf t).size:=by rw[Bt.sz];omega
  refine wpS_bind (wpS_forRange (I:=fun x c t'=>t'=t/\∃l r,c=(none,l,r)/\r-l<=k-x/\B5 κ t k l r) (fun x c t' _ xk ⟨et,l,r,ec,d,G⟩=>?_) (fun c t' ⟨et,l,r,ec,d,G⟩=>?_)
   ⟨rfl,0,k,rfl,by omega,⟨by omega,by omega,fun i z=>absurd z (Nat.not_lt_zero i),fun i z1 z2=>absurd z2 ⋯⟩⟩)
  ·subst et ec;have lr:=G.lr;have rk:=G.rk;dsimp only;by_cases done:l ≥ r
   ·have e:l=r:=by omega
    subst e;rw[if_pos done];refine wpS_pure ?_;show wpS _ _ _ _ (moveDown' k l>>=fun _=>pure (ForInStep.yield (none,()))) _ t';rw[moveDown'_eq];exact wpS_bind (wpS_modify (wpS_pure ⟨rfl,Bt.put (bubble_perm _ _ _),G.slid hk z⟩))
   ·rw[if_neg done];refine wpS_bind (less C O Bt ⋯ ⋯ ?_);by_cases c:κ.blt (ky κ t' k) (ky κ t' ((l+r)/2))=true
    ·rw[c];exact wpS_pure ⟨rfl,l,(l+r)/2,rfl,by omega,⟨by omega,by omega,G.lo,fun i i1 i2=>KeyOrd.klt_of_klt_of_kle c (hk _ _ i1 i2)⟩⟩
    ·rw[Bool.not_eq_true] at c;rw[c];exact wpS_pure ⟨rfl,(l+r)/2+1,r,rfl,by omega,⟨by omega,rk,fun i i1=>KeyOrd.kle_trans (hk i ((l+r)/2) ⋯ ⋯) c,G.hi⟩⟩
  ·subst et ec;have lr:=G.lr;have e:l=r:=by omega
   subst e;show wpS _ _ _ _ (moveDown' k l>>=fun _=>pure (ForInStep.yield (none,()))) _ t';rw[moveDown'_eq];exact wpS_bind (wpS_modify (wpS_pure ⟨rfl,Bt.put (bubble_perm _ _ _),G.slid hk z⟩))
 ·subst ec;rw[show max ok n=n by omega] at hk;exact wpS_pure (h t Bt hk)
theorem BJ (C:Cm prog w A s κ kd)(O:KeysOf κ a₀)(B:Bs a₀ kd st)(h2:2<=a₀.size)(h64:a₀.size<64){Q:Unit->SortSt->Prop}
  (h:∀t,(arrOf t).Perm a₀->failedOf t=none->SortedToK κ (arrOf t) a₀.size->Q () t):wpS (model prog w) A E s sortRuns' Q st:=by
 have mr:minRun' a₀.size a₀.size 0=a₀.size:=by
  rw[show a₀.size=(a₀.size-1)+1 by omega,minRun'_succ,if_pos ⋯]
 rw[sortRuns'_eq];refine wpS_bind (wpS_get ?_);dsimp only;simp only[B.sz,mr];refine wpS_bind (wpS_forRange (I:=fun x c t=>(x=0/\c=(none,0)/\Bs a₀ kd t)\/(0<x/\c=(none,a₀.size)/\(arrOf t).Perm a₀/\failedOf t=none/\pendingOf t=#[(0,a₀.size,0)]/\SortedToK κ (arrOf t) a₀.size)) (fun x c t _ xn hx=>?_) (fun c t hx=>?_) (.inl ⟨rfl,rfl,B⟩))
 ·rcases hx with ⟨ex,ec,Bt⟩|⟨x0,ec,p1,p2,p3,p4⟩
  ·subst ex ec;have fin:∀t,Bs a₀ kd t->SortedToK κ (arrOf t) a₀.size->(arrOf (setPending t ((pendingOf t).push (0,a₀.size,0)))).Perm a₀/\failedOf (setPending t ((pendingOf t).push (0,a₀.size,0)))=none/\pendingOf (setPending t ((pendingOf t).push (0,a₀.size,0)))=#[(0,a₀.size,0)] ∧
     SortedToK κ (arrOf (setPending t ((pendingOf t).push (0,a₀.size,0)))) a₀.size:=fun t Bt hs=>⟨Bt.b.perm,Bt.b.failed,(by have e:pendingOf t=#[]:=Bt.b.pend;show (pendingOf t).push _=_;rw[e];rfl),hs⟩
   dsimp only;rw[if_neg ⋯];simp only[Nat.sub_zero,Nat.min_self,bZ];refine wpS_bind (Ap C O Bt (az _) ⋯ fun m t2 B2 m1 mn hs2=>?_);dsimp only;by_cases lt:m<a₀.size
   ·rw[if_pos lt];refine wpS_bind (wpS_lift (wpAny_rule ⟨rfl,wpS_bind (yE C O B2 (az _) m1 mn hs2 fun t3 B3 hs3=>?_)⟩));simp only[Bool.not_true,Bool.false_eq_true,if_false];refine wpS_bind (wpS_get ?_);rw[show (pendingOf t3).back?=none by rw[show pendingOf t3=#[] from B3.b.pend];rfl];exact wpS_bind (wpS_modify (wpS_pure (.inr ⟨Nat.succ_pos _,rfl,fin t3 B3 hs3⟩)))
   ·cases (show m=a₀.size by omega);rw[if_neg lt];refine wpS_bind (wpS_get ?_);rw[show (pendingOf t2).back?=none by rw[show pendingOf t2=#[] from B2.b.pend];rfl];exact wpS_bind (wpS_modify (wpS_pure (.inr ⟨Nat.succ_pos _,rfl,fin t2 B2 hs2⟩)))
  ·subst ec;dsimp only;rw[if_pos (az _)];refine wpS_pure (wpS_bind (wpS_forRange (I:=fun _ c t'=>t'=t/\c=(none,())) (fun y c t' _ _ ⟨et,ec⟩=>?_) (fun c t' ⟨et,ec⟩=>?_) ⟨rfl,rfl⟩))
   ·subst et ec;refine wpS_bind (wpS_get ?_);rw[if_pos (by rw[p3];exact az 1)];exact wpS_pure (wpS_pure (h _ p1 p2 p4))
   ·subst et ec;exact wpS_pure (h _ p1 p2 p4)
 ·rcases hx with ⟨ex,_⟩|⟨x0,ec,p1,p2,p3,p4⟩
  ·omega
  ·subst ec;dsimp only;refine wpS_bind (wpS_forRange (I:=fun _ c t'=>t'=t/\c=(none,())) (fun y c t' _ _ ⟨et,ec⟩=>?_) (fun c t' ⟨et,ec⟩=>?_) ⟨rfl,rfl⟩)
   ·subst et ec;refine wpS_bind (wpS_get ?_);rw[if_pos (by rw[p3];exact az 1)];exact wpS_pure (wpS_pure (h _ p1 p2 p4))
   ·subst et ec;exact wpS_pure (h _ p1 p2 p4)
end
end L2.Srt
namespace L2.Srt
open PySem PyProof.Rows
def jq (h:Heap)(v:Value)(p:Int×Int):Prop:=∃(c:Addr) (t u:Tok),v=.ref c/\h.IsTuple c #[.int p.1 t,.int p.2 u]
theorem jq.inj {h:Heap}{v:Value}{p q:Int×Int}(x:jq h v p)(y:jq h v q):p=q:=by
 obtain⟨c,t,u,rfl,o,e,_,n,d⟩:=x;obtain⟨c',t',u',e',o',e2,_,n',d'⟩:=y;cases e';rw[e] at e2;cases e2;rw[d] at d';cases p;cases q;simp only[Data.seq.injEq] at d';have z:=congrArg Array.toList d'.1;simp only[List.cons.injEq,Value.int.injEq] at z;rw[z.1.1,z.2.1.1]
inductive Prs (h:Heap):List Value->List (Int×Int)->Prop where
 |nil:Prs h [] []
 |cons {v:Value}{p:Int×Int}{vs:List Value}{ps:List (Int×Int)}:jq h v p->Prs h vs ps->Prs h (v::vs) (p::ps)
noncomputable def pLt (p q:Int×Int):Bool:=decide (p.1<q.1\/(p.1=q.1/\p.2<q.2))
open Classical in
@[reducible] noncomputable def prKd (h:Heap):PyProof.Rows.KeyKind where
 α:=Int×Int
 blt:=pLt
 irrefl:=fun a=>by simp[pLt]
 trans:=fun a b c x y=>by simp only[pLt,decide_eq_true_eq] at *;omega
 negTrans:=fun a b c x=>by simp only[pLt,decide_eq_true_eq] at *;omega
 total:=fun a b x y=>by
  simp only[pLt,decide_eq_false_iff_not] at *;cases a;cases b;simp only[Prod.mk.injEq] at *;omega
 keyOf:=fun v=>if e:∃p,jq h v p then some e.choose else none
 dflt:=(0,0)
open Classical in
theorem key_of {h:Heap}{v:Value}{p:Int×Int}(x:jq h v p):(prKd h).keyOf v=some p:=by
 have e:∃p,jq h v p:=⟨p,x⟩;show (if e:∃p,jq h v p then some e.choose else none)=some p;rw[dif_pos e,e.choose_spec.inj x]
open Classical in
theorem wu {h:Heap}{v:Value}{p:Int×Int}(x:(prKd h).keyOf v=some p):jq h v p:=by
 have x':(if e:∃p,jq h v p then some e.choose else none)=some p:=x;split at x'
 ·rename_i e;cases x';exact e.choose_spec
 ·cases x'
section
variable {prog:Program}{w:World}{A:Around}{E:Value->Shared->Prop}{s:Shared}
theorem pP (f:Bool)(x y:Value):keyLt' (tuples' f) x y=(Builtin.List.listItems x>>=fun xs=>Builtin.List.listItems y>>=fun ys=>do
  for ((p,q),i) in (xs.toList.zip ys.toList).zipIdx do
   if !(<-eqBool p q) then return <-oneLt' (f&&i==0) p q
  return xs.size<ys.size):=rfl
theorem sd {a b:Int}{t u:Tok}{Q:Bool->Shared->Prop}(h:Q (decide (a<b)) s):wpAny (model prog w) A (oneLt' false (.int a t) (.int b u)) Q E s:=by
 rw[oneLt'_eq];simp only[Bool.false_eq_true,if_false];exact af (show wpAny (model prog w) A (compareOp .Lt (.int a t) (.int b u)) _ E s from lt_int (wpAny_truthy_bool h))
theorem wo {h:Heap}(k:∀v p,jq h v p->jq s.heap v p):Cm prog w A s (prKd h) (tuples' true):=by
 intro E x y a b Q hx hy q;obtain⟨c,t,u,rfl,o,e,_,n,d⟩:=k _ _ (wu hx);obtain⟨c',t',u',rfl,o',e',_,n',d'⟩:=k _ _ (wu hy);rw[pP];refine af (listItems_at e d (af (listItems_at e' d' ?_)));simp only[bC,List.zip_nil_right,List.zipIdx_cons,List.zipIdx_nil,bY,List.forIn_nil];have q':Q (pLt a b) s:=q;refine af (af (af (wpAny_eqBool_int ?_)));by_cases e1:a.1=b.1
 ·rw[show (a.1==b.1)=true from beq_iff_eq.mpr e1];refine ay (af (af (wpAny_eqBool_int ?_)));by_cases e2:a.2=b.2
  ·rw[show (a.2==b.2)=true from beq_iff_eq.mpr e2];have:pLt a b=false:=by simp only[pLt,decide_eq_false_iff_not];omega
   rw[this] at q';exact ay (ay (ay q'))
  ·rw[show (a.2==b.2)=false from beq_eq_false_iff_ne.mpr e2];have:pLt a b=decide (a.2<b.2):=by simp only[pLt,e1,true_and,Int.lt_irrefl,false_or]
   rw[this] at q';exact af (sd (ay (ay (ay q'))))
 ·rw[show (a.1==b.1)=false from beq_eq_false_iff_ne.mpr e1];have:pLt a b=decide (a.1<b.1):=by simp only[pLt,e1,false_and,or_false]
  rw[this] at q';exact af (oneLt_int (ay (ay (ay q'))))
theorem xa (v:Value):firstOfTuple' v=(typeOf v>>=fun t=>if (t != .type "tuple")=true then pure none else Builtin.List.listItems v>>=fun xs=>pure xs[0]?):=rfl
theorem w9 {v:Value}{p:Int×Int}(x:jq s.heap v p){Q:Option Value->Shared->Prop}(h:∀t,Q (some (.int p.1 t)) s):wpAny (model prog w) A (firstOfTuple' v) Q E s:=by
 obtain⟨c,t,u,rfl,o,e,hc,n,d⟩:=x;rw[xa];refine af (wpAny_typeOf (T := "tuple") ⟨o,e,hc⟩ ?_);exact af (listItems_at e d (ay (h t)))
theorem ou:∀{vs:List Value}{ps:List (Int×Int)},Prs s.heap vs ps->∀{Q:List (Option Value)->Shared->Prop},(∀ts:List Tok,ts.length=ps.length->Q ((ps.zip ts).map fun x=>some (.int x.1.1 x.2)) s)->wpAny (model prog w) A (vs.mapM firstOfTuple') Q E s
 |_,_,.nil,Q,h=>by rw[List.mapM_nil];exact ay (h [] rfl)
 | _,_,.cons x r,Q,h=>by
  rw[List.mapM_cons];refine af (w9 x fun t=>af (ou r fun ts hl=>ay ?_));exact h (t::ts) (by rw[aj,aj,hl])
theorem nS:∀(xs:List (Int×Tok)),(xs.map fun x=>Value.int x.1 x.2).mapM typeOf=pure (xs.map fun _=>Value.type "int")
 |[]=>by simp
 | x::xs=>by
  rw[aD,List.mapM_cons,nS xs];show (pure (Value.type "int")>>=fun b=>pure _>>=fun bs=>pure (b::bs))=_;simp
theorem yv {vs:List Value}{ps:List (Int×Int)}(hp:Prs s.heap vs ps)(hn:ps≠[]){Q:SortKind->Shared->Prop}(h:Q (tuples' true) s):wpAny (model prog w) A (keyKind' vs.toArray) Q E s:=by
 rw[keyKind'_eq,List.mapM_toArray,<-bind_pure_comp];refine af (af (ou hp fun ts hl=>ay ?_));have e1:((ps.zip ts).map fun x=>some (Value.int x.1.1 x.2)).toArray.all (fun x=>x.isSome)=true:=by simp
 have e2:(((ps.zip ts).map fun x=>some (Value.int x.1.1 x.2)).toArray.filterMap id)=(((ps.zip ts).map fun x=>(x.1.1,x.2)).map fun x=>Value.int x.1 x.2).toArray:=by simp[Function.comp_def]
 rw[if_pos e1,e2];refine af (wpAny_rule ?_);rw[oneTypeOnly'_eq,List.mapM_toArray,nS];have hne:(ps.zip ts).map (fun x=>(x.1.1,x.2))≠[]:=by
  cases ps with
  |nil=>exact absurd rfl hn
  |cons p ps =>
   cases ts with
   |nil=>cases hl
   |cons t ts=>simp
 generalize (ps.zip ts).map (fun x=>(x.1.1,x.2))=zs at hne;cases zs with
 |nil=>exact absurd rfl hne
 |cons z zs =>
  have all:((z::zs).map fun _=>Value.type "int").toArray.all (fun t=>t==Value.type "int")=true:=by simp only[List.all_toArray,CG,bh];intro _ _;rfl
  simp only[map_pure,pure_bind,aD];rw[show (Value.type "int" :: zs.map fun _=>Value.type "int").toArray[0]?=some (Value.type "int") by simp];rw[aD] at all;simp only[all,if_true,pure_bind];exact ay h
end
end L2.Srt
namespace L2.Srt
open PySem PyProof.Rows
section
variable {prog:Program}{w:World}{A:Around}{E:Value->Shared->Prop}{s:Shared}
theorem sN {l:Addr}{vs:List Value}{Q:List Value->Shared->Prop}(hl:s.heap.IsTuple l vs.toArray)(hz:vs.length<=sizeLine)
  (h:Q vs { s with heap:=(s.heap.push (seqObj "list" #[] 0)).update s.heap.objs.size (Obj.mapSeq (·++vs.toArray)) }):wpAny (model prog w) A (collect (.ref l)) Q E s:=by
 obtain⟨o,ho,hc,n,hd⟩:=hl;have at0:(s.heap.push (seqObj "list" #[] 0)).get? s.heap.objs.size=some (seqObj "list" #[] 0):=aI _ rfl;have at1:(s.heap.push (seqObj "list" #[] 0)).get? l=some o:=ai _ ho;have e0:((#[]:Array Value)++vs.toArray).toList=vs:=by simp
 unfold collect;refine af (wpAny_runValue (codeAny_builtin entry_proto_collect' ?_));show wpAny _ _ (newList []>>=fun x=>again (.builtin "list.__iadd__" ⟨[x,.ref l],[]⟩)) _ _ s;refine af (wpAny_newList (ay ⟨Code.quiet_builtin _ (by decide +kernel),codeAny_builtin entry_list_iadd' (show wpAny _ _ (Builtin.List.listExtendWith (.ref s.heap.objs.size) (.ref l) (.ref s.heap.objs.size)) _ _ { s with heap:=s.heap.push (seqObj "list" #[] 0) } from ?_)⟩));unfold Builtin.List.listExtendWith;refine af (wpAny_typeOf (T := "tuple") ⟨o,at1,hc⟩ ?_);rw[if_pos (by rw[show (Value.type "tuple" == Value.type "tuple")=true from rfl,Bool.or_true])];refine af (listItems_at at1 hd (af (listItems_at at0 rfl ?_)));rw[if_neg (by rw[show (#[]:Array Value).isEmpty=true from rfl];simp)];refine af (listUpdate_at at0 rfl (ay ?_) (bt _) (by rw[Array.size_append,aA];simp only[aA,bK];omega));refine af (wpAny_load (get?_update_seq at0 _) (show wpAny _ _ (pure ((#[]:Array Value)++vs.toArray).toList) Q E _ from ?_));rw[e0];exact ay h
theorem xR {a:Addr}{vs:List Value}{ps:List (Int×Int)}{n:Nat}{h₀:Heap}{P:Fin->Shared->Prop}(ho:s.heap.get? a=some (seqObj "list" vs.toArray n))(hp:Prs h₀ vs ps)(hne:∀v p,jq h₀ v p->v≠.ref a)(hk:∀b o,s.heap.get? b=some o->h₀.get? b=some o\/b=a\/True)
  (ks:∀v p,jq h₀ v p->jq s.heap v p) (h64:vs.length<64)
  (h:∀t:SortSt,(arrOf t).Perm (pairsOf vs)->SortedToK (prKd h₀) (arrOf t) (pairsOf vs).size->P (.done (.ret .none)) { s with heap:=sortedHeap s.heap a vs ((arrOf t).map (·.2)) }) :
  wpAny (model prog w) A (Builtin.«list.sort» ⟨[.ref a],[]⟩) P E s:=by
 have alt:a<s.heap.objs.size:=aF ho;have hz:vs.toArray.size=vs.length:=by simp
 obtain⟨e1,g1⟩:∃e,(s.heap.update a (Obj.mapSeq fun _=>#[])).get? a=some (seqObj "list" #[] e):=⟨_,get?_update_seq ho _⟩;have up:∀b o,b≠a->s.heap.get? b=some o->(((s.heap.update a (Obj.mapSeq fun _=>#[])).push (seqObj "tuple" vs.toArray 0)).push (seqObj "list" #[] 0)).get? b=some o:=fun b o ne e =>
  ai _ (ai _ ((Heap.get?_update_ne _ _ _ _ ne).trans e))
 have g2:(((s.heap.update a (Obj.mapSeq fun _=>#[])).push (seqObj "tuple" vs.toArray 0)).push (seqObj "list" #[] 0)).get? a=some (seqObj "list" #[] e1):=ai _ (ai _ g1);have prs:∀v p,jq h₀ v p->jq (((s.heap.update a (Obj.mapSeq fun _=>#[])).push (seqObj "tuple" vs.toArray 0)).push (seqObj "list" #[] 0)) v p:=fun v p x=>by
  obtain⟨c,t,u,e,o,q1,q2⟩:=ks v p x;have ne:c≠a:=fun z=>hne v p x (by rw[e,z]);exact⟨c,t,u,e,o,up c o ne q1,q2⟩
 rw[list_sort_plain];refine af (listItems_at ho rfl (af (listUpdate_at ho rfl (af (seqEpoch_at g1 rfl (af (wpAny_newTuple (af (wpAny_newList (bA ?_))))))))));show wpAny (model prog w) A _ P E { s with heap:=((s.heap.update a (Obj.mapSeq fun _=>#[])).push (seqObj "tuple" vs.toArray 0)).push (seqObj "list" #[] 0) };have small:∀{xs:Array Keyed},xs.Perm (pairsOf vs)->(xs.map (·.2)).size<=sizeLine+1:=fun {xs} p=>by rw[Array.size_map,p.size_eq,pairsOf_size,sizeLine_eq];omega
 dsimp only;by_cases two:vs.toArray.size<2
 ·rw[if_pos two,if_pos two];refine af (ay ?_);rw[StateT.run_pure];refine af (ay (af (seqEpoch_at g2 rfl (af (listUpdate_at g2 rfl ?_ (hsz2:=small (Array.Perm.refl _)))))));simp only[bne_self_eq_false,Bool.false_eq_true,if_false];refine ay (h (SortSt.mk' general' (vs.toArray.zip vs.toArray) #[] 7 none) (Array.Perm.refl _) fun i j ij jn=>?_);rw[pairsOf_size] at jn;cases (show i=j by omega);exact KeyOrd.kle_refl _
 ·rw[if_neg two,if_neg two];have all:∀{us:List Value}{qs:List (Int×Int)},Prs h₀ us qs->Prs (((s.heap.update a (Obj.mapSeq fun _=>#[])).push (seqObj "tuple" vs.toArray 0)).push (seqObj "list" #[] 0)) us qs:=fun {us qs} x=>by
   induction x with
   |nil=>exact .nil
   |cons y _ ih=>exact .cons (prs _ _ y) ih
  have keys:KeysOf (prKd h₀) (pairsOf vs):=fun p hm=>by
   have:∀{us:List Value}{qs:List (Int×Int)},Prs h₀ us qs->∀v∈us,∃q,jq h₀ v q:=fun {us qs} x=>by
    induction x with
    |nil=>exact fun v z=>nomatch z
    |cons y _ ih=>exact fun v z=>(aw.mp z).elim (fun e=>⟨_,e▸y⟩) (ih v)
   have hm':p.1∈vs:=by
    have z:p∈(vs.toArray.zip vs.toArray).toList:=hm;rw[Array.toList_zip] at z;exact (bz z).1
   obtain⟨q,x⟩:=this hp _ hm';exact⟨q,key_of x⟩
  have nn:ps≠[]:=fun z=>by subst z;cases hp;simp at two
  refine af (yv (all hp) nn ?_);refine af (wpAny_mono (BJ (a₀:=pairsOf vs) (kd:=tuples' true) (κ:=prKd h₀) (st:=SortSt.mk' (tuples' true) (vs.toArray.zip vs.toArray) #[] 7 none) (Q:=fun _ t=>(arrOf t).Perm (pairsOf vs)/\failedOf t=none/\SortedToK (prKd h₀) (arrOf t) (pairsOf vs).size)
   (wo prs) keys ⟨⟨Array.Perm.refl _,rfl,rfl,rfl⟩,rfl⟩ (by rw[pairsOf_size];omega) (by rw[pairsOf_size];exact h64) fun t p1 p2 p3=>⟨p1,p2,p3⟩) ?_ fun _ _ z=>z)
  intro r s' hr;obtain⟨es,p1,p2,p3⟩:=hr;subst es;obtain⟨⟨⟩,t⟩:=r;dsimp only at p1 p2 p3 ⊢;refine af (seqEpoch_at g2 rfl (af (listUpdate_at g2 rfl ?_ (hsz2:=small p1))));rw[p2];simp only[bne_self_eq_false,Bool.false_eq_true,if_false];exact ay (h t p1 p3)
theorem sorted_pr {kd:Bool}{l:Addr}{vs:List Value}{ps:List (Int×Int)}{Q:Value->Shared->Prop}(hl:mj kd s.heap l vs.toArray)(hp:Prs s.heap vs ps)(h64:vs.length<64)
  (h:∀t:SortSt,(arrOf t).Perm (pairsOf vs)->SortedToK (prKd s.heap) (arrOf t) (pairsOf vs).size->Q (.ref (s.heap.objs.size+1)) { s with heap:=sortedAll s.heap vs ((arrOf t).map (·.2)) }) :
  wpAny (model prog w) A (call (.builtin "sorted") [.ref l]) Q E s:=by
 have hz:vs.length<=sizeLine:=by rw[sizeLine_eq];omega
 have sz:((s.heap.push (seqObj "list" #[] 0)).update s.heap.objs.size (Obj.mapSeq (·++vs.toArray))).objs.size=s.heap.objs.size+1:=by rw[Heap.size_update,size_push']
 have old:∀b o,s.heap.get? b=some o->(((s.heap.push (seqObj "list" #[] 0)).update s.heap.objs.size (Obj.mapSeq (·++vs.toArray))).push (seqObj "list" vs.toArray 0)).get? b=some o:=fun b o e =>
  ai _ ((Heap.get?_update_ne _ _ _ _ (aO (aF e))).trans (ai _ e))
 have at1:(((s.heap.push (seqObj "list" #[] 0)).update s.heap.objs.size (Obj.mapSeq (·++vs.toArray))).push (seqObj "list" vs.toArray 0)).get? (s.heap.objs.size+1)=some (seqObj "list" vs.toArray 0):=by
  have q:=aI ((s.heap.push (seqObj "list" #[] 0)).update s.heap.objs.size (Obj.mapSeq (·++vs.toArray))) (o:=seqObj "list" vs.toArray 0) rfl;rw[sz] at q;exact q
 have go:∀{A:Around}{R:List Value->Shared->Prop},R vs { s with heap:=(s.heap.push (seqObj "list" #[] 0)).update s.heap.objs.size (Obj.mapSeq (·++vs.toArray)) }->wpAny (model prog w) A (collect (.ref l)) R E s:=fun {A R} r=>by
  cases kd
  ·exact sN (show s.heap.IsTuple l vs.toArray from hl) hz r
  ·exact collect_list (show s.heap.IsList l vs.toArray from hl) r hz
 refine Calls.call_function_entry kind_sorted plain_sorted entry_sorted (args_sorted1 _) ?_;unfold Builtin.«sorted»;refine af (m:=checkCount "sorted" 1 1 _) (ay ?_);refine af (go ?_);refine af (wpAny_newList ?_ (by rw[sizeLine_eq];omega));show wpAny _ _ _ _ _ { s with heap:=((s.heap.push (seqObj "list" #[] 0)).update s.heap.objs.size (Obj.mapSeq (·++vs.toArray))).push (seqObj "list" vs.toArray 0) };rw[sz];refine af (bA (wpAny_call_entry slot_list_sort ⟨_,at1,rfl⟩ entry_list_sort (xR (h₀:=s.heap) at1 hp (fun v p x e=>?_) (fun _ _ _=>.inr (.inr trivial)) (fun v p ⟨c,t,u,e,o,q1,q2⟩=>⟨c,t,u,e,o,old c o q1,q2⟩) h64 fun t p1 p2=>⟨_,rfl,ay ⟨_,rfl,h t p1 p2⟩⟩) (args_list_sort _)));obtain⟨c,t,u,e',o,q1,_⟩:=x;rw[e] at e';cases e';exact absurd (aF q1) (Nat.not_lt.mpr (bR _))
end
end L2.Srt
namespace L2
open PySem PySem.Spec PyProof.Rows
inductive PrV (K:PySem.W.Frag)(H:Hp):List Addr->List (Int×Int)->Prop where
 |nil:PrV K H [] []
 |cons {b:Addr}{p:Int×Int}{bs:List Addr}{ps:List (Int×Int)}:dN K H b [.int p.1,.int p.2]->PrV K H bs ps->PrV K H (b::bs) (p::ps)
theorem PrV.len {K:PySem.W.Frag}{H:Hp}{bs:List Addr}{ps:List (Int×Int)}(h:PrV K H bs ps):bs.length=ps.length:=by
 induction h with
 |nil=>rfl
 |cons _ _ ih=>rw[aj,aj,ih]
theorem tF:∀{bs:List Addr}{us:List Value},cH (bs.map V.ref) us->us=bs.map Value.ref
 |[],us,h=>by cases h;rfl
 | b::bs,us,h=>by
  cases h with
  |cons r rs=>rw[aD,tF rs,show _=Value.ref b from r]
theorem nR:∀bs:List Addr,cH (bs.map V.ref) (bs.map Value.ref)
 |[]=>.nil
 |b::bs=>.cons rfl (nR bs)
section
variable {X:Cx}
theorem zS {pins:List (Addr×Obj)}{σ:St}{H:Hp}{s:Shared}(I:Inv X pins σ H s){bs:List Addr}{ps:List (Int×Int)}(h:PrV X.K H bs ps):Srt.Prs s.heap (bs.map Value.ref) ps:=by
 induction h with
 |nil=>exact .nil
 |@cons b p bs ps q _ ih =>
  obtain⟨its,r,⟨o,e,c,n,d⟩,_⟩:=I.tuple q;obtain⟨u,v,rfl,r1,r2⟩:=cH.two r;obtain⟨t1,rfl⟩:=(show ∃t,u=Value.int p.1 t from r1);obtain⟨t2,rfl⟩:=(show ∃t,v=Value.int p.2 t from r2);exact .cons ⟨b,t1,t2,rfl,o,e,c,n,d⟩ ih
noncomputable def tf:Value->Addr
 |.ref a=>a
 |_=>0
theorem tN {h:Heap}:∀{bs:List Addr}{ps:List (Int×Int)},Srt.Prs h (bs.map Value.ref) ps->((bs.map Value.ref).zip (bs.map Value.ref)).map (fun x=>(tf x.2,((Srt.prKd h).keyOf x.1).getD (0,0)))=bs.zip ps
 |[],_,x=>by cases x;rfl
 | b::bs,_,x=>by
  cases x with
  |cons y ys =>
   rw[aD,bC,aD,bC,tN ys,Srt.key_of y];rfl
theorem call_sortedP:CallR X (.builtin "sorted") (fun xs H Q=>∃(kd:Bool) (a:Addr) (bs:List Addr) (ps:List (Int×Int)),xs=[.ref a]/\ff kd X.K H a (bs.map V.ref)/\bs.length<64/\PrV X.K H bs ps ∧
  ∀(l:Addr) (cs:List Addr) (qs:List (Int×Int)),H l=none->(cs.zip qs).Perm (bs.zip ps)->cs.length=qs.length->qs.Pairwise (fun p q=>Srt.pLt q p=false)->Q (.ref l) (cZ H l (.lst (cs.map V.ref)))):=by
 intro pins s σ H xs us Q I rx h;obtain⟨kd,a,bs,ps,rfl,hq,h64,pv,q⟩:=h;obtain⟨u,rfl,ru⟩:=cH.one rx;cases ru;obtain⟨its,rv,ob,hz⟩:=I.seqK hq;have ei:=tF rv;subst ei;have pr:=zS I pv;refine Srt.sorted_pr ob pr (by rw[ah];exact h64) fun t p1 p2=>?_;have pl:(arrOf t).toList.Perm ((bs.map Value.ref).zip (bs.map Value.ref)):=by
  have:=Array.perm_iff_toList_perm.mp p1;rwa[show (pairsOf (bs.map Value.ref)).toList=(bs.map Value.ref).zip (bs.map Value.ref) by unfold pairsOf;rw[Array.toList_zip]] at this
 have isref:∀x∈(arrOf t).toList,x.2=Value.ref (tf x.2):=fun x hx=>by
  have hm:=(bz (pl.mem_iff.mp hx)).2;obtain⟨b,_,e⟩:=bJ.mp hm;rw[<-e];rfl
 let g:Keyed->Addr×(Int×Int):=fun x=>(tf x.2,((Srt.prKd s.heap).keyOf x.1).getD (0,0))
 have pz:=pl.map g;rw[show ((bs.map Value.ref).zip (bs.map Value.ref)).map g=bs.zip ps from tN pr] at pz;have zz:((arrOf t).toList.map fun x=>(g x).1).zip ((arrOf t).toList.map fun x=>(g x).2)=(arrOf t).toList.map g:=by
  generalize (arrOf t).toList=L;induction L with
  |nil=>rfl
  |cons x L ih=>rw[aD,aD,bC,ih];rfl
 have outs:((arrOf t).map (·.2)).toList=((arrOf t).toList.map fun x=>(g x).1).map Value.ref:=by
  rw[Array.toList_map,CF];exact List.map_congr_left fun x hx=>isref x hx
 obtain⟨e,he⟩:=sortedAll_at s.heap (bs.map Value.ref) ((arrOf t).map (·.2));have len:(arrOf t).toList.length=bs.length:=by rw[pl.length_eq,List.length_zip,ah,Nat.min_self]
 have I':=I.laid (h':=sortedAll s.heap (bs.map Value.ref) ((arrOf t).map (·.2))) (t':=s.toks) (a:=s.heap.objs.size+1) (o:=.lst (((arrOf t).toList.map fun x=>(g x).1).map V.ref)) (fun b o z=>sortedAll_old z) (bR _)
  ⟨by rw[ah,ah,len];have:=hz;rw[ah] at this;exact this,_,e,nR _,by rw[<-outs];exact he⟩
 refine⟨.ref (s.heap.objs.size+1),_,I',rfl,q _ _ ((arrOf t).toList.map fun x=>(g x).2) (I.hok.fresh (bR _)) (by rw[zz];exact pz) (by rw[ah,ah]) ?_⟩;rw[List.pairwise_iff_getElem];intro i j hi hj ij;rw[ah] at hi hj;have kk:∀i (h:i<(arrOf t).toList.length),KK (Srt.prKd s.heap) (arrOf t) i=(g (arrOf t).toList[i]).2:=fun i h=>by
  unfold KK;rw[show (arrOf t)[i]?=some (arrOf t).toList[i] by rw[bP (by simpa using h)];simp]
 have:=p2 i j (Nat.le_of_lt ij) (by rw[pairsOf_size,ah,<-len];exact hj);rw[kk i hi,kk j hj] at this;rw[List.getElem_map,List.getElem_map];exact this
end
end L2
namespace DL
open PySem PySem.Spec PySem.SeqAt
open L2 (V Hp St HO VK TE TT TA TS TI TG Cx Inv PE PT PA PS PSs PI PG dN dU cI cZ cA cq cg cH cP EP TP AP SP di It ff)
section
variable {X:Cx}{e a b c:Expr}{es:List Expr}{f g:ED}{fb gb:BD}{t u:TD}{pos p:Pos}
theorem uN {d:D}{q:Int×Int}(h:ya d=some q):d=A6 q:=by
 unfold ya at h;split at h
 ·cases h;rfl
 ·cases h
theorem uR {K:Fg}{H:Hp}{O:List Addr}:∀{ds:List D}{vs:List V}{ps:List (Int×Int)},Rs K H O ds vs->jH ds=some ps->∃bs,vs=bs.map V.ref/\L2.PrV K H bs ps:=by
 intro ds;induction ds with
 |nil=>intro vs ps q h;cases q;cases h;exact⟨[],rfl,.nil⟩
 |cons d ds ih =>
  intro vs ps q h;cases q with
  |cons q qs =>
    unfold jH at h;cases hp:ya d with
    |none=>rw[hp] at h;cases h
    |some pr =>
     rw[hp,aa] at h;cases hr:jH ds with
     |none=>rw[hr] at h;cases h
     |some ps' =>
      rw[hr,ag] at h;cases h;obtain⟨bs,rfl,hv⟩:=ih qs hr;rw[uN hp] at q;unfold A6 at q;cases q with
      |tuple ha hs =>
       cases hs with
       |cons h1 h2 =>
        cases h1;cases h2 with
        |cons h3 h4 =>
         cases h3;cases h4;exact⟨_::bs,rfl,.cons ha hv⟩
theorem yf (p q:Int×Int):vQ p q=true<->L2.Srt.pLt q p=false:=by
 simp only[vQ,L2.Srt.pLt,decide_eq_true_eq,decide_eq_false_iff_not];omega
theorem wb {ps qs:List (Int×Int)}(h:qs.Perm ps)(s:qs.Pairwise (fun p q=>L2.Srt.pLt q p=false)):qs=iK ps:=by
 refine List.Perm.eq_of_pairwise (le:=fun p q=>L2.Srt.pLt q p=false) (fun a b _ _ h1 h2=>?_) s ?_ (h.trans (List.mergeSort_perm ps vQ).symm)
 ·simp only[L2.Srt.pLt,decide_eq_false_iff_not] at h1 h2;cases a;cases b;simp only[Prod.mk.injEq] at *;omega
 ·refine (List.pairwise_mergeSort (le:=vQ) (fun a b c h1 h2=>?_) (fun a b=>?_) ps).imp fun h=>(yf _ _).mp h
  ·simp only[vQ,decide_eq_true_eq] at *;omega
  ·simp only[vQ,Bool.or_eq_true,decide_eq_true_eq];omega
theorem wg {K:Fg}{H:Hp}{O:List Addr}:∀(cs:List Addr) (qs:List (Int×Int)),cs.length=qs.length->(∀x∈cs.zip qs,dN K H x.1 [.int x.2.1,.int x.2.2])->Rs K H O (qs.map A6) (cs.map V.ref)
 |[],[],_,_=>.nil
 |[],_::_,h,_=>by cases h
 |_::_,[],h,_=>by cases h
 |c::cs,q::qs,h,k=>.cons (.tuple (k (c,q) (by simp)) (.cons (.int _) (.cons (.int _) .nil))) (wg cs qs (by simpa using h) fun x hx=>k x (by simp[hx]))
theorem x9 {K:Fg}{H:Hp}{bs:List Addr}{ps:List (Int×Int)}(h:L2.PrV K H bs ps):∀x∈bs.zip ps,dN K H x.1 [.int x.2.1,.int x.2.2]:=by
 induction h with
 |nil=>exact fun x hx=>by cases hx
 |cons q _ ih =>
  intro x hx;rw[bC] at hx;rcases aw.mp hx with z|z
  ·subst z;exact q
  ·exact ih x z
theorem uw:UD X (fun x H Q=>(fun xs H Q=>∃(kd:Bool) (a:Addr) (bs:List Addr) (ps:List (Int×Int)),xs=[.ref a]/\ff kd X.K H a (bs.map V.ref)/\bs.length<64/\L2.PrV X.K H bs ps ∧
  ∀(l:Addr) (cs:List Addr) (qs:List (Int×Int)),H l=none->(cs.zip qs).Perm (bs.zip ps)->cs.length=qs.length->qs.Pairwise (fun p q=>L2.Srt.pLt q p=false)->Q (.ref l) (cZ H l (.lst (cs.map V.ref))):List V->Hp->VK->Prop) [x] H Q) i6:=by
 intro x vx H O r Q ne hx hf k;have go:∀{ds:List D}{vs:List V}{kd:Bool}{a:Addr},qu ds=some r->ff kd X.K H a vs->Rs X.K H O ds vs->∃(kd:Bool) (a':Addr) (bs:List Addr) (ps:List (Int×Int)),[V.ref a]=[.ref a']/\ff kd X.K H a' (bs.map V.ref)/\bs.length<64/\L2.PrV X.K H bs ps ∧
   ∀(l:Addr) (cs:List Addr) (qs:List (Int×Int)),H l=none->(cs.zip qs).Perm (bs.zip ps)->cs.length=qs.length->qs.Pairwise (fun p q=>L2.Srt.pLt q p=false)->Q (.ref l) (cZ H l (.lst (cs.map V.ref))):=fun {ds vs kd a} hs ha qa=>by
  unfold qu at hs;cases hp:jH ds with
  |none=>rw[hp] at hs;cases hs
  |some ps =>
   rw[hp,aa] at hs;split at hs
   ·rename_i h64;cases hs;obtain⟨bs,rfl,hv⟩:=uR qa hp;refine⟨kd,a,bs,ps,rfl,ha,by rw[hv.len];exact h64,hv,fun l cs qs hl pm len st=>?_⟩;have pq:qs.Perm ps:=by
     have:=pm.map Prod.snd;rwa[List.map_snd_zip ⋯,List.map_snd_zip (by have:=hv.len;omega)] at this
    have eq:=wb pq st;have s2:cI H (cZ H l (.lst (cs.map V.ref))):=fun b o e=>by rw[cq (cg e hl)];exact e
    have rs:Rs X.K H O (qs.map A6) (cs.map V.ref):=wg cs qs len fun x hx=>x9 hv x (pm.mem_iff.mp hx);rw[<-eq] at k;exact k _ _ s2 (.inr ⟨rfl,l,_,_,rfl,rfl,hl,cA,rs.ext (gL.fresh s2 hl)⟩)
   ·cases hs
 cases x <;> first|cases hf|skip
 ·obtain⟨a,vs,rfl,ha,qa⟩:=hx.list;exact go (kd:=true) hf ha qa
 ·obtain⟨a,vs,rfl,ha,qa⟩:=hx.tuple;exact go (kd:=false) hf ha qa
theorem vn (hm:X.mg "sorted" = none)(ha:DB X a fb)(hg:L2.Gl X "sorted" := by rfl)(he:starEach [a] X.env=(false,eval a X.env)::starEach [] X.env:=by rfl):DE X (.Call (.Name "sorted" p) [a] [] pos) (d1 i6 fb):=iP L2.call_sortedP uw hm PyProof.Rows.boot_sorted ha hg (by decide) (by decide) he
end
end DL
namespace HT
open PySem PyProof.Rows
section
variable {prog:Program}{w:World}{A:Around}{E:Value->Shared->Prop}{s:Shared}
theorem getItem_tuple_whole {t sl:Addr}{items:Array Value}{vl vu:Value}{lo hi:Option Int}{Q:Value->Shared->Prop}(ht:IsTup s.heap t items)(hs:s.heap.IsSliceOf sl vl vu .none)(pl:IsPart vl lo)(pu:IsPart vu hi)
  (hw:sIx items.size 0 lo=0/\sIx items.size items.size hi=items.size) (h:Q (.ref t) s):wpAny (model prog w) A (getItem (.ref t) (.ref sl)) Q E s:=by
 obtain⟨os,hos,hcs,hds⟩:=id hs;have all:((((sIx items.size 0 lo:Nat):Int)==0&&(1:Int)==1&&(sIx items.size items.size hi-sIx items.size 0 lo)==items.size)=true):=by rw[hw.1,hw.2];simp
 unfold getItem;try with_reducible refine bA ?_
 first|refine af (ay ?_)|skip
 refine af (wpAny_sequenceKey ht.typeIs (by decide) (af (wpAny_callSpecial?_slot (name:=Str.ofString "__getitem__") ht.typeIs PyProof.Rows.slot_tuple_getitem (wpAny_call_entry PyProof.Rows.slot_tuple_getitem ht.typeIs entry_tuple_getitem ?_ (args_tuple_getitem _ _)))));show wpAny _ _ (Builtin.Tuple.tupleItemsOf (.ref t)>>=_) _ _ s;refine af (tupleItemsOf_ ht (af (wpAny_typeOf (T := "slice") ⟨os,hos,hcs⟩ ?_)));rw[if_pos (by decide)];refine af (iL hs pl pu ?_);show wpAny _ _ (if (((sIx items.size 0 lo:Nat):Int)==0&&(1:Int)==1&&(sIx items.size items.size hi-sIx items.size 0 lo)==items.size)=true then _ else _) _ _ s;rw[if_pos all];have ex:∀{R:Bool->Shared->Prop},R true s->wpAny (model prog w) A.in1 (Builtin.Tuple.tupleIsExact (.ref t)) R E s:=fun {R} r=>by
  unfold Builtin.Tuple.tupleIsExact;exact af (wpAny_typeOf ht.typeIs (ay r))
 refine af (ex ?_);rw[if_pos rfl];exact af (wpAny_rule (ay ⟨_,rfl,ay h⟩))
end
end HT
namespace L2
open PySem PySem.Spec PyProof.Rows
section
variable {X:Cx}
noncomputable def BK (K:PySem.W.Frag):V->Option Int->Option Int->Hp->VK->Prop:=fun x lo hi H Q=>∃a xs,x=.ref a/\dN K H a xs/\(HT.sIx xs.length 0 lo=0/\HT.sIx xs.length xs.length hi=xs.length)/\Q (.ref a) H
theorem sl_whole:y6 X (BK X.K):=by
 intro pins s σ H x v vl vu lo hi sl Q I rx hs pl pu h;obtain⟨a,xs,rfl,hx,hw,q⟩:=h;cases rx;obtain⟨its,r,ht,hz⟩:=I.tuple hx;have hlen:its.toArray.size=xs.length:=by rw[aA];exact r.length.symm
 exact⟨"tuple", _,PyProof.Rows.slot_tuple_getitem.lookup,ht.typeIs,HT.getItem_tuple_whole ht hs pl pu (by rw[hlen];exact hw) ⟨.ref a,H,I,rfl,q⟩⟩
end
end L2
namespace DL
open PySem PySem.Spec PySem.SeqAt
open L2 (V Hp St HO VK TE TT TA TS TI TG Cx Inv PE PT PA PS PSs PI PG dN dU cI cZ cA cq cg cH cP EP TP AP SP di It ff)
section
variable {X:Cx}{e a b c:Expr}{es:List Expr}{f g:ED}{fb gb:BD}{t u:TD}{pos p p2:Pos}{lo hi:Option Expr}{pl ph:PD}
noncomputable def uP (K:Fg)(p:PD):L2.TO:=fun σ H Q=>∃ρ O M lad o,ER K H O M lad ρ σ/\p ρ=some o/\∀H',cI H H'->Q o H'
def AK (X:Cx)(e:Option Expr)(p:PD):Prop:=L2.PO X e (uP X.K p)
theorem _root_.L2.PO.imp {X:Cx}{e:Option Expr}{t t':L2.TO}(h:L2.PO X e t)(i:∀σ H Q,t' σ H Q->t σ H Q):L2.PO X e t':=fun pins s σ H Q I q=>h pins s σ H Q I (i σ H Q q)
theorem jw:AK X none i5:=L2.po_none.imp fun σ H Q zz=>by
 obtain ⟨ρ,O,M,lad,o,hE,hf,k⟩:=zz;cases hf;exact k H (.refl H)
theorem jv (h:DE X e f):AK X (some e) (i4 f):=(L2.po_some h).imp fun σ H Q zz=>by
 obtain ⟨ρ,O,M,lad,o,hE,hf,k⟩:=zz;unfold i4 at hf;cases hr:f ρ with
 |none=>rw[hr] at hf;cases hf
 |some r =>
  rw[hr,aa] at hf;cases hi:rN r.1 with
  |none=>rw[hi] at hf;cases hf
  |some i =>
   rw[hi,ag] at hf;cases hf;refine⟨ρ,O,M,lad,r,hE,hr,fun v H1 s1 q1=>⟨i,?_,k H1 s1⟩⟩;have:=q1.toR hE.ne;rw[lh hi] at this;cases this;rfl
theorem pj (n d:Nat)(o:Option Int):HT.sIx n d o=nC n d o:=by cases o <;> rfl
theorem Rs.cut {K:Fg}{H:Hp}{O:List Addr}{ds:List D}{vs:List V}(h:Rs K H O ds vs)(lo hi:Option Int):Rs K H O (nK ds lo hi) (L2.cutV vs lo hi):=by
 unfold nK L2.cutV;rw[pj,pj,<-h.length];exact (h.drop _).take _
theorem vq {ds:List D}{lo hi:Option Int}(h:nC ds.length 0 lo=0/\nC ds.length ds.length hi=ds.length):nK ds lo hi=ds:=by
 unfold nK;rw[h.1,h.2,List.drop_zero,Nat.sub_zero,List.take_length]
theorem oG (ha:DB X a fb)(hl:AK X lo pl)(hh:AK X hi ph):DE X (.Subscript a (.Slice lo hi none p2) pos) (nr fb pl ph):=(L2.pe_slice (L2.sl_list.or (L2.sl_tup.or L2.sl_whole)) ha hl hh).imp fun σ H Q zz=>by
 obtain ⟨ρ,O,M,lad,r,hE,hf,k⟩:=zz;unfold nr at hf;cases hx:fb ρ with
 |none=>rw[hx] at hf;cases hf
 |some x =>
  rw[hx,aa] at hf;cases hy:pl ρ with
  |none=>rw[hy] at hf;cases hf
  |some l =>
   rw[hy,aa] at hf;cases hz:ph ρ with
   |none=>rw[hz] at hf;cases hf
   |some h =>
    rw[hz,aa] at hf;refine⟨ρ,O,M,lad,x,hE,hx,fun v H1 s1 q1=>⟨ρ,O,M,lad,l,hE.same s1,hy,fun H2 s2=>⟨ρ,O,M,lad,h,(hE.same s1).same s2,hz,fun H3 s3=>?_⟩⟩⟩;have S:cI H H3:=(s1.trans s2).trans s3;have q3:=(q1.same s2).same s3;cases x <;> first|cases hf|skip
    ·obtain⟨a,vs,rfl,ha,qa⟩:=q3.list;exact .inl ⟨a,vs,rfl,ha,mP S (qa.cut l h) k⟩
    ·obtain⟨a,vs,rfl,ha,qa⟩:=q3.tuple;by_cases hw:HT.sIx vs.length 0 l=0/\HT.sIx vs.length vs.length h=vs.length
     ·refine .inr (.inr ⟨a,vs,rfl,ha,hw,k _ H3 S (.of ?_)⟩);rw[pj,pj,<-qa.length] at hw;rw[vq hw];exact .tuple ha qa
     ·refine .inr (.inl ⟨a,vs,rfl,ha,hw,fun p hp=>?_⟩);have s4:cI H3 (cZ H3 p (.tup (L2.cutV vs l h))):=fun b o e=>by rw[cq (cg e hp)];exact e
      exact k _ _ (S.trans s4) (.of (.tuple (.inl (.inl cA)) ((qa.cut l h).same s4)))
mutual
theorem R.lf {K:Fg}{H:Hp}{O O':List Addr}{d:D}{v:V}:R K H O d v->fE d=true->R K H O' d v
 |.none,_=>.none
 |.bool b,_=>.bool b
 |.int i,_=>.int i
 |.str x,_=>.str x
 |.tuple h r,l=>.tuple h (Rs.lf r (by simpa [fE] using l))
 |.list _ _,l=>by simp[fE] at l
 |.dict _ _ _,l=>by simp[fE] at l
theorem Rs.lf {K:Fg}{H:Hp}{O O':List Addr}{ds:List D}{vs:List V}:Rs K H O ds vs->dZ ds=true->Rs K H O' ds vs
 |.nil,_=>.nil
 | .cons h r,l=>by
  simp only[dZ,Bool.and_eq_true] at l;exact .cons (R.lf h l.1) (Rs.lf r l.2)
end
theorem vV {s:Option Vl}{x:Vl}(h:rT s=some x):x.2=false/\(s=some x\/(∃xs,x.1=.list xs/\(s=some (.list xs,true)\/s=some (mQ xs,true)\/s=some (cQ xs,true)))\/∃kvs,x.1=.dict kvs/\s=some (r8 (.dict kvs),true)):=by
 unfold rT at h;split at h
 ·cases h;exact⟨rfl,.inl rfl⟩
 ·cases h;exact⟨rfl,.inr (.inl ⟨_,rfl,.inl rfl⟩)⟩
 ·cases h;exact⟨rfl,.inr (.inl ⟨_,rfl,.inr (.inl rfl)⟩)⟩
 ·cases h;exact⟨rfl,.inr (.inl ⟨_,rfl,.inr (.inr rfl)⟩)⟩
 ·cases h;exact⟨rfl,.inr (.inr ⟨_,rfl,rfl⟩)⟩
 ·cases h
theorem gM {ρ:Sl}{i:Nat}{x:Vl}(h:(unown ρ)[i]?=some (some x)):x.2=false/\(ρ[i]?=some (some x)\/(∃xs,x.1=.list xs/\(ρ[i]?=some (some (.list xs,true))\/ρ[i]?=some (some (mQ xs,true))\/ρ[i]?=some (some (cQ xs,true))))\/∃kvs,x.1=.dict kvs/\ρ[i]?=some (some (r8 (.dict kvs),true))):=by
 unfold unown at h;rw[aN] at h;cases hs:ρ[i]? with
 |none=>rw[hs] at h;cases h
 |some s =>
  rw[hs,ag] at h;obtain⟨h1,h2⟩:=vV (aL.inj h);refine⟨h1,?_⟩;rcases h2 with z|⟨xs,z1,z2|z2|z2⟩|⟨kvs,z1,z2⟩
  ·exact .inl (by rw[z])
  ·exact .inr (.inl ⟨xs,z1,.inl (by rw[z2])⟩)
  ·exact .inr (.inl ⟨xs,z1,.inr (.inl (by rw[z2]))⟩)
  ·exact .inr (.inl ⟨xs,z1,.inr (.inr (by rw[z2]))⟩)
  ·exact .inr (.inr ⟨kvs,z1,by rw[z2]⟩)
theorem Dp.rs0 {K:Fg}{H:Hp}{O M:List Addr}{ds:List D}{bs:List Addr}(h:Dp K H O M ds bs):Rs K H [] ds (bs.map V.ref):=by
 induction h with
 |nil=>exact .nil
 |cons h1 _ h3 _ ih=>exact .cons (.list (.inl ⟨h1,fun z=>nomatch z⟩) (h3.ext (.less fun b hb=>nomatch hb))) ih
theorem ER.unown {K:Fg}{H:Hp}{O M:List Addr}{lad:Nat->Addr}{ρ:Sl}{σ:St}(h:ER K H O M lad ρ σ):ER K H [] [] lad (unown ρ) σ where
 sh:=fun i d e=>by
  have less:gL [] O H [] H:=.less fun b hb=>nomatch hb;obtain⟨_,z|⟨xs,z1,z2|z2|z2⟩|⟨kvs,z1,z2⟩⟩:=gM e
  ·obtain⟨v,e1,q⟩:=h.sh i d z;exact⟨v,e1,q.ext less⟩
  ·obtain⟨a,vs,e1,e2,_,q⟩:=h.ow i xs z2;rw[show d=.list xs from z1];exact⟨_,e1,.list (.inl ⟨e2,fun z=>nomatch z⟩) (q.ext less)⟩
  ·obtain⟨e1,vs,e2,_,_,q⟩:=h.le i xs z2;rw[show d=.list xs from z1];exact⟨_,e1,.list (.inl ⟨e2,fun z=>nomatch z⟩) (q.ext less)⟩
  ·obtain⟨a,bs,e1,e2,_,_,q,_⟩:=h.dp.at_ i xs z2;rw[show d=.list xs from z1];exact⟨_,e1,.list (.inl ⟨e2,fun z=>nomatch z⟩) q.rs0⟩
  ·obtain⟨a,es,e1,e2,_,q,_⟩:=h.dp.dc i kvs z2;rw[show d=.dict kvs from z1];exact⟨_,e1,.dict e2 (fun z=>nomatch z) (q.ext less)⟩
 ow:=fun i d e=>by cases (gM e).1
 le:=fun i d e=>by cases (gM e).1
 ap:=fun i j d e a e1=>by cases (gM e1).1
 tr:=fun a ha=>nomatch ha
 sub:=fun a ha=>nomatch ha
 len:=by unfold DL.unown;rw[ah];exact h.len
 dp:=.none_ fun i x e=>(gM e).1
theorem lV.lf {K:Fg}{H H':Hp}{O O':List Addr}{r:Vl}{v:V}(h:lV K H O H' r v)(l:tL r=true):lV K H O' H' r v:=by
 obtain⟨d,o⟩:=r;rcases h with ⟨e,q⟩|⟨e,a,ds,vs,e1,e2,e3,e4,q⟩
 ·cases e;exact .inl ⟨rfl,q.lf l⟩
 ·cases e;have e1':d=.list ds:=e1;subst e1';exact .inr ⟨rfl,a,ds,vs,rfl,e2,e3,e4,q.lf l⟩
theorem xu (h:DE X e f):DE X e (nI f):=h.imp fun σ H Q zz=>by
 obtain ⟨ρ,O,M,lad,r,hE,hf,k⟩:=zz;unfold nI at hf;cases hr:f (unown ρ) with
 |none=>rw[hr] at hf;cases hf
 |some r' =>
  rw[hr,aa] at hf;split at hf
  ·rename_i l;cases hf;exact⟨unown ρ,[],[],lad,r,hE.unown,hr,fun v H1 s1 q1=>k v H1 s1 (q1.lf l)⟩
  ·cases hf
theorem Ag (h:DT X e t):DT X e (xP t):=h.imp fun σ H Q ⟨ρ,O,M,lad,c,hE,hf,k⟩=>⟨unown ρ,[],[],lad,c,hE.unown,hf,k⟩
end
end DL
namespace L2
open PySem PySem.Spec PyProof.Rows
section
variable {X:Cx}
noncomputable def rCatS (K:PySem.W.Frag):R2:=fun x y H Q=>∃l b xs zs,x=.ref l/\y=.ref b/\dU K H l xs/\dU K H b zs/\xs.length+zs.length<=sizeLine/\∀p,H p=none->Q (.ref p) (cZ H p (.lst (xs++zs)))
theorem op_catS:OpR X (binaryOp .Add) (rCatS X.K):=by
 intro pins s σ H x y v u Q I rx ry h;obtain⟨l,b,xs,zs,rfl,rfl,hl,hb,hz,q⟩:=h;cases rx;cases ry;obtain⟨its,r,⟨⟨cls,dd,data,sl⟩,n,e,c,_,d⟩,_⟩:=I.list hl;obtain⟨its2,r2,⟨⟨cls2,dd2,data2,sl2⟩,n2,e2,c2,_,d2⟩,_⟩:=I.list hb;simp only at c d c2 d2;subst c d c2 d2;have l1:=r.length;have l2:=r2.length;refine concat_meets ⟨_,e,rfl⟩ ⟨_,e2,rfl⟩ noFill_list_add seq_list_add F.slot_list_add F.entry_list_add (F.args_list_add_2 _ _) (list_addW l b its.toArray its2.toArray n n2 dd dd2 sl sl2 (by rw[aA,aA];omega)) ⟨e,e2,?_⟩;rw[show its.toArray++its2.toArray=(its++its2).toArray by simp];exact⟨.ref _,_,I.lnew (t':=s.toks) (r.append r2) (by rw[au];omega),rfl,q _ I.fresh⟩
end
end L2
namespace DL
open PySem PySem.Spec PySem.SeqAt
open L2 (V Hp St HO VK TE TT TA TS TI TG Cx Inv PE PT PA PS PSs PI PG dN dU cI cZ cA cq cg cH cP EP TP AP SP di It ff)
section
variable {X:Cx}{e a b c:Expr}{es:List Expr}{f g:ED}{fb gb:BD}{t u:TD}{pos p p2:Pos}
theorem wA:OD X (L2.rCatS X.K) su:=by
 intro x y vx vy H O r Q ne hx hy hf k;cases x <;> first|(cases hf;done)|(cases y <;> first|cases hf|skip)
 unfold su at hf;dsimp only at hf;split at hf
 ·rename_i hz;cases hf;obtain⟨a,vs,rfl,ha,qa⟩:=hx.list;obtain⟨b,us,rfl,hb,qb⟩:=hy.list;have l1:=qa.length;have l2:=qb.length;exact⟨a,b,vs,us,rfl,rfl,ha,hb,by omega,mP (.refl H) (qa.append qb) k⟩
 ·cases hf
end
theorem Dp.snoc {K:Fg}{H:Hp}{O M:List Addr}{ds:List D}{bs:List Addr}{xs:List D}{vs:List V}{b:Addr}(h:Dp K H O M ds bs)(h1:H b=some (.lst vs))(h2:b∈M)(h3:Rs K H O xs vs):Dp K H O M (ds++[.list xs]) (bs++[b]):=by
 induction h with
 |nil=>exact .cons h1 h2 h3 .nil
 |cons g1 g2 g3 _ ih=>exact .cons g1 g2 g3 ih
theorem Dp.len {K:Fg}{H:Hp}{O M:List Addr}{ds:List D}{bs:List Addr}(h:Dp K H O M ds bs):ds.length=bs.length:=by
 induction h with
 |nil=>rfl
 |cons _ _ _ _ ih=>rw[aj,aj,ih]
def FR (K:Fg)(H:Hp)(O:List Addr)(H':Hp)(r:Vl)(v:V):Prop:=∃a ds bs,r=(.list ds,true)/\v=.ref a/\H a=none/\H' a=some (.lst (bs.map V.ref))/\(a::bs).Nodup/\(∀b∈bs,H b=none)/\Dp K H' (a::O) bs ds bs
noncomputable def uF (K:Fg)(f:ED):TE:=fun σ H Q=>∃ρ O M lad r,ER K H O M lad ρ σ/\f ρ=some r/\∀v H',cI H H'->FR K H O H' r v->Q v H'
end DL
namespace DL
open PySem PySem.Spec PySem.SeqAt
open L2 (V Hp St HO VK TE TT TA TS TI TG Cx Inv PE PT PA PS PSs PI PG dN dU cI cZ cA cq cg cH cP EP TP AP SP di It ff)
theorem Dp.lfx {K:Fg}{H:Hp}{O O' M M':List Addr}{ds:List D}{bs:List Addr}(h:Dp K H O M ds bs)(l:ds.all wV=true)(m:∀b∈bs,b∈M'):Dp K H O' M' ds bs:=by
 induction h with
 |nil=>exact .nil
 |cons h1 _ h3 _ ih =>
  rw[bW,Bool.and_eq_true] at l;exact .cons h1 (m _ aC) (h3.lf l.1) (ih l.2 fun b hb=>m b (ao _ hb))
theorem lE {ρ:Sl}(h:pK ρ=true){j:Nat}{c:D}(e:ρ[j]?=some (some (r8 c,true))):False:=by
 unfold pK at h;rw[bh] at h;have:=h _ (aQ e);simp[r8] at this
theorem ER.setDp {K:Fg}{H H':Hp}{B M:List Addr}{lad:Nat->Addr}{ρ:Sl}{σ:St}{ds:List D}{v:V}(i:Nat)(h:ER K H (M++B) M lad ρ σ)(hB:∀a∈M,a∉B)(s:cI H H')(q:FR K H (M++B) H' (.list ds,true) v)(hl:ds.all wV=true)(hd:pK ρ=true) :
  ∃M',fj M H M' H'/\(∀a∈M',a∉B)/\ER K H' (M'++B) M' lad (ρ.set i (some (cQ ds,true))) (σ.set i (some v)):=by
 obtain⟨a,ds',bs,e0,rfl,ha,hv,nd,frs,q⟩:=q;cases e0;have fr:∀b∈a::bs,H b=none:=fun b hb=>(aw.mp hb).elim (fun z=>z▸ha) (frs b);have notIn:∀b,b∈M++B->b∉a::bs:=fun b hb z=>h.ne b hb (fr b z);have x:gL [] (M++B) H (((a::bs)++M)++B) H':=⟨fun b _ e=>s b _ e,fun b _ _ e=>s b _ e,fun b _ _ e=>s b _ e,fun b _ _ e=>s b _ e,fun b hb=>by
  rw[aK] at hb;exact (aG.mp hb).elim (fun z=>.inr (fr b z)) .inl,(fun _ h=>nomatch h)⟩
 have sx:fj M H ((a::bs)++M) H':=⟨fun b o _ e=>s b o e,fun b _ e=>s b _ e,fun b _ _ e=>s b _ e,fun b hb=>(aG.mp hb).elim (fun z=>.inr (fr b z)) .inl,(fj.same (M:=M) s).there⟩;have h':=h.same s;have lists:∀{ys:List D}{cs:List Addr},Dp K H' (a::(M++B)) bs ys cs->∀c∈cs,∃vs,H' c=some (.lst vs):=fun {ys cs} d=>by
  induction d with
  |nil=>exact fun c hc=>nomatch hc
  |cons g1 _ _ _ ih=>exact fun c hc=>(aw.mp hc).elim (fun z=>⟨_,z▸g1⟩) (ih c)
 refine⟨(a::bs)++M,sx,fun b hb=>(aG.mp hb).elim (fun z zB=>notIn b (av _ zB) z) (hB b),?_⟩;have tr:∀b∈((a::bs)++M)++B,∃u,H' b=some (oW u):=fun b hb=>by
  rw[aK] at hb;rcases aG.mp hb with z|z
  ·rcases aw.mp z with z|z
   ·subst z;exact⟨.inl _,hv⟩
   ·obtain⟨vs,g⟩:=lists q b z;exact⟨.inl vs,g⟩
  ·exact h'.tr b z
 by_cases hi:i<ρ.length
 ·have hi':i<σ.length:=by rw[<-h.len];exact hi
  have ne:∀{j:Nat}{y:Vl},(∀zs,y≠(cQ zs,true))->(ρ.set i (some (cQ ds,true)))[j]?=some (some y)->i≠j:=fun {j y} hy ej z=>by subst z;rw[aq hi] at ej;exact hy ds (aL.inj (aL.inj ej)).symm
  refine⟨fun j d' ej=>?_,fun j d' ej=>?_,fun j d' ej=>?_,fun j k d' e' b e1 e2 e3 e4=>?_,tr,fun b hb=>aB _ hb,by rw[aP,aP];exact h.len,⟨fun j es ej=>?_,fun j k es fs e1 e2=>?_⟩⟩
  ·have hj:=ne (by intro zs z;cases z) ej;rw[ae hj] at ej ⊢;obtain⟨w,e5,q5⟩:=h.sh j d' ej;exact⟨w,e5,q5.ext x⟩
  ·have hj:=ne (by intro zs z;cases z) ej;rw[ae hj] at ej ⊢;obtain⟨b,us,e6,e7,e8,q5⟩:=h.ow j d' ej;exact⟨b,us,e6,s _ _ e7,av _ e8,q5.ext x⟩
  ·have hj:=ne (by intro zs z;simp[mQ,cQ] at z) ej;rw[ae hj] at ej ⊢;obtain⟨e6,us,e7,e8,e9,q5⟩:=h.le j d' ej;exact⟨e6,us,s _ _ e7,by rw[aK];exact av _ e8,fun z=>(aG.mp z).elim (notIn _ e8) e9,q5.ext x⟩
  ·have nj:=ne (by intro zs z;cases z) e1;have nk:=ne (by intro zs z;cases z) e2;rw[ae nj] at e1 e3;rw[ae nk] at e2 e4;exact h.ap j k d' e' b e1 e2 e3 e4
  ·by_cases hj:i=j
   ·subst hj;rw[aq hi] at ej;have e5:PyData.list ds=es:=by
     have:=aL.inj (aL.inj ej);simpa [cQ,r8] using this
    subst e5;refine .inl ⟨ds,rfl,a,bs,aq hi',hv,aB _ aC,nd,q.lfx hl fun b hb=>aB _ (ao _ hb),fun k fs c e1 e2=>?_⟩;have nk:=ne (by intro zs z;cases z) e1;rw[ae nk] at e1 e2;obtain⟨b,us,e6,e7,e8,q5⟩:=h.ow k fs e1;rw[e2] at e6;cases e6;exact notIn c (aB _ e8)
   ·rw[ae hj] at ej;exact (lE hd ej).elim
  ·by_cases hj:i=j
   ·by_cases hk:i=k
    ·exact hj.symm.trans hk
    ·rw[ae hk] at e2;exact (lE hd e2).elim
   ·rw[ae hj] at e1;exact (lE hd e1).elim
 ·rw[bw ⋯,bw (by rw[<-h.len];omega)];exact⟨fun j d e=>let ⟨w,e1,q⟩:=h.sh j d e;⟨w,e1,q.ext x⟩,fun j d e=>let ⟨b,us,e1,e2,e3,q⟩:=h.ow j d e;⟨b,us,e1,s _ _ e2,av _ e3,q.ext x⟩,
   fun j d e=>let ⟨e1,us,e2,e3,e4,q⟩:=h.le j d e;⟨e1,us,s _ _ e2,by rw[aK];exact av _ e3,fun z=>(aG.mp z).elim (notIn _ e3) e4,q.ext x⟩,h.ap,tr,fun b hb=>aB _ hb,h.len,
   h.dp.go x (fun _ _ e=>⟨e,rfl⟩) (fun b hb _=>⟨av _ hb,fun vs e=>s _ _ e⟩) fun j es c e1 e2=>.inr ⟨j,es,e1,e2⟩⟩
section
variable {X:Cx}{e a b c elt tg iter:Expr}{es ifs:List Expr}{f g:ED}{t u:TD}{pos:Pos}{it:AD}{gd:GD}{scope:Scope}{own caps:List Str}{ix:List Nat}{st:Stmt}{F:SD}
theorem nW {i:Nat}{B:List Addr}{H₀:Hp}{M₀:List Addr}{lad:Nat->Addr}{E:di}{σ:St}{H:Hp}(h:uS X.K B H₀ M₀ lad (jG i f) E σ H):L2.tAsg (uF X.K f) (L2.gName i) E σ H:=by
 obtain⟨ρ,fl,⟨M,hx,hB,hE⟩,hf,k⟩:=h;unfold jG at hf;cases hr:f ρ with
 |none=>rw[hr] at hf;cases hf
 |some r =>
  rw[hr,aa] at hf;split at hf
  ·rename_i ds;split at hf
   ·rename_i hc;cases hf;rw[Bool.and_eq_true] at hc;refine⟨ρ,_,M,lad,_,hE,hr,fun v H1 s1 q1=>?_⟩;obtain⟨M',x',B',E'⟩:=hE.setDp i hB s1 q1 hc.1 hc.2;exact k _ _ ⟨M',hx.trans x',B',E'⟩
   ·cases hf
  ·cases hf
theorem ER.undeep {K:Fg}{H:Hp}{B M:List Addr}{lad:Nat->Addr}{ρ:Sl}{σ:St}(i:Nat)(h:ER K H (M++B) M lad ρ σ)(hB:∀a∈M,a∉B):∃M',(∀a∈M',a∈M)/\ER K H (M'++B) M' lad (undeep i ρ) σ:=by
 unfold DL.undeep;split
 ·rename_i ds hr;have hi:i<ρ.length:=(aE.mp hr).1;obtain⟨a,bs,e1,e2,e3,nd,q,ap⟩:=h.dp.at_ i ds hr;have nab:a∉bs:=(aW.mp nd).1;have sub:∀b∈M.filter (fun b=>decide (b∉bs))++B,b∈M++B:=fun b hb=>(aG.mp hb).elim (fun z=>aB _ (aX.mp z).1) fun z=>av _ z;have keep:∀b∈M,b∉bs->b∈M.filter (fun b=>decide (b∉bs)):=fun b hb n=>aX.mpr ⟨hb,decide_eq_true n⟩;have items:∀{ys:List D}{cs:List Addr},Dp K H (M++B) M ys cs->(∀c∈cs,c∈bs)->Rs K H (M.filter (fun b=>decide (b∉bs))++B) ys (cs.map V.ref):=fun {ys cs} d=>by
   induction d with
   |nil=>exact fun _=>.nil
   |@cons xs vs b ys cs g1 g2 g3 _ ih =>
    refine fun m=>.cons (.list (.inl ⟨g1,fun z=>?_⟩) (g3.ext (.less sub))) (ih fun c hc=>m c (ao _ hc));rcases aG.mp z with z|z
    ·exact (of_decide_eq_true (aX.mp z).2) (m b aC)
    ·exact hB b g2 z
  have ne:∀{j:Nat}{y:Vl},(∀zs,y≠(.list zs,true))->(ρ.set i (some (.list ds,true)))[j]?=some (some y)->i≠j:=fun {j y} hy ej z=>by subst z;rw[aq hi] at ej;exact hy ds (aL.inj (aL.inj ej)).symm
  refine⟨M.filter (fun b=>decide (b∉bs)),fun b hb=>(aX.mp hb).1,⟨fun j d' ej=>?_,fun j d' ej=>?_,fun j d' ej=>?_,fun j k d' e' b e5 e6 e7 e8=>?_,fun b hb=>h.tr b (sub b hb),fun b hb=>aB _ hb,by rw[aP];exact h.len,⟨fun j es ej=>?_,fun j k es fs e5 e6=>?_⟩⟩⟩
  ·have hj:=ne (by intro zs z;cases z) ej;rw[ae hj] at ej;obtain⟨v,e5,q5⟩:=h.sh j d' ej;exact⟨v,e5,q5.ext (.less sub)⟩
  ·by_cases hj:i=j
   ·subst hj;rw[aq hi] at ej;cases ej;exact⟨a,_,e1,e2,keep a e3 nab,items q fun _ z=>z⟩
   ·rw[ae hj] at ej;obtain⟨b,us,e6,e7,e8,q5⟩:=h.ow j d' ej;exact⟨b,us,e6,e7,keep b e8 fun z=>ap j d' b ej e6 (ao _ z),q5.ext (.less sub)⟩
  ·have hj:=ne (by intro zs z;cases z) ej;rw[ae hj] at ej;obtain⟨e6,us,e7,e8,e9,q5⟩:=h.le j d' ej;exact⟨e6,us,e7,(aG.mp e8).elim (fun z=>absurd z e9) fun z=>av _ z,fun z=>e9 (aX.mp z).1,q5.ext (.less sub)⟩
  ·by_cases hj:i=j
   ·by_cases hk:i=k
    ·exact hj.symm.trans hk
    ·subst hj;rw[ae hk] at e6;rw[e1] at e7;cases e7;exact absurd aC (ap k e' a e6 e8)
   ·rw[ae hj] at e5;by_cases hk:i=k
    ·subst hk;rw[e1] at e8;cases e8;exact absurd aC (ap j d' a e5 e7)
    ·rw[ae hk] at e6;exact h.ap j k d' e' b e5 e6 e7 e8
  ·have hj:=ne (by intro zs z;cases z) ej;rw[ae hj] at ej;exact absurd (h.dp.one i j (.list ds) es hr ej) hj
  ·have hj:=ne (by intro zs z;cases z) e5;rw[ae hj] at e5;exact absurd (h.dp.one i j (.list ds) es hr e5) hj
 ·exact⟨M,fun _ h=>h,h⟩
theorem oF (i:Nat)(h:DS X st F):DS X st (l6 i F):=fun B H₀ M₀ lad=>(h B H₀ M₀ lad).imp fun E σ H zz=>by
 obtain ⟨ρ,fl,⟨M,hx,hB,hE⟩,hf,k⟩:=zz;obtain⟨M',sub,E'⟩:=hE.undeep i hB;exact⟨_,fl,⟨M',⟨hx.keep,hx.tup,hx.frz,fun b hb=>hx.new b (sub b hb),hx.there⟩,fun a ha=>hB a (sub a ha),E'⟩,hf,k⟩
end
end DL
namespace DL
open PySem PySem.Spec PySem.SeqAt
open L2 (V Hp St HO VK TE TT TA TS TI TG Cx Inv PE PT PA PS PSs PI PG dN dU cI cZ cA cq cg cH cP EP TP AP SP di It ff)
theorem Dp.get {K:Fg}{H:Hp}{O M:List Addr}{ds:List D}{bs:List Addr}(h:Dp K H O M ds bs):∀{q:Nat}{d:D},ds[q]?=some d->∃xs b ws,d=.list xs/\bs[q]?=some b/\H b=some (.lst ws)/\b∈M/\Rs K H O xs ws:=by
 induction h with
 |nil=>intro q d e;cases q <;> cases e
 |@cons xs vs b ds bs h1 h2 h3 _ ih =>
  intro q d e;cases q with
  |zero =>
   have e':PyData.list xs=d:=by simpa using e
   exact⟨xs,b,vs,e'.symm,rfl,h1,h2,h3⟩
  |succ q=>simpa using ih (by simpa using e)
theorem Dp.put {K:Fg}{H H':Hp}{O M:List Addr}{ds:List D}{bs:List Addr}{b:Addr}{xs:List D}{ws:List V}(x:gL M O H O H')(h:Dp K H O M ds bs):∀{q:Nat},bs.Nodup->bs[q]?=some b->H' b=some (.lst ws)->Rs K H' O xs ws->(∀c∈bs,c≠b->∀vs,H c=some (.lst vs)->H' c=some (.lst vs))->Dp K H' O M (ds.set q (.list xs)) bs:=by
 induction h with
 |nil=>intro q _ e;cases q <;> cases e
 |@cons ys vs c ds bs h1 h2 h3 h4 ih =>
  intro q nd e hb r k;obtain⟨n1,n2⟩:=aW.mp nd;cases q with
  |zero =>
   have e':c=b:=by simpa using e
   subst e';exact .cons hb h2 r (h4.go x fun d hd hm=>⟨hm,k d (ao _ hd) fun z=>n1 (z▸hd)⟩)
  |succ q =>
   have e':bs[q]?=some b:=by simpa using e
   have nc:c≠b:=fun z=>n1 (z▸aQ e');exact .cons (k c aC nc _ h1) h2 (h3.ext x) (ih n2 e' hb r fun d hd=>k d (ao _ hd))
theorem ER.mutDp {K:Fg}{H:Hp}{B M:List Addr}{lad:Nat->Addr}{ρ:Sl}{σ:St}{i q:Nat}{ds xs':List D}{a b:Addr}{bs:List Addr}{ws':List V}(h:ER K H (M++B) M lad ρ σ)(hr:ρ[i]?=some (some (cQ ds,true)))(e1:σ[i]?=some (some (.ref a)))(e2:H a=some (.lst (bs.map V.ref)))
  (e3:a∈M) (nd:(a::bs).Nodup) (d:Dp K H (M++B) M ds bs) (ap:∀(j:Nat) (es:List D) (c:Addr),ρ[j]?=some (some (.list es,true))->σ[j]?=some (some (.ref c))->c∉a::bs) (hq:bs[q]?=some b) (r:Rs K H (M++B) xs' ws') :
  fj M H M (cZ H b (.lst ws'))/\ER K (cZ H b (.lst ws')) (M++B) M lad (ρ.set i (some (cQ (ds.set q (.list xs')),true))) σ:=by
 have hi:i<ρ.length:=(aE.mp hr).1;have bm:b∈bs:=aQ hq;have bM:b∈M:=d.mem b bm;obtain⟨na,nb⟩:=aW.mp nd;have lists:∀{ys:List D}{cs:List Addr},Dp K H (M++B) M ys cs->∀c∈cs,∃vs,H c=some (.lst vs):=fun {ys cs} d=>by
  induction d with
  |nil=>exact fun c hc=>nomatch hc
  |cons g1 _ _ _ ih=>exact fun c hc=>(aw.mp hc).elim (fun z=>⟨_,z▸g1⟩) (ih c)
 have hb:∃ws,H b=some (.lst ws):=lists d b bm;obtain⟨ws,hb⟩:=hb;have x:fj M H M (cZ H b (.lst ws')):=by
  refine⟨fun c o n e=>?_,fun c xs e=>?_,fun c o u e=>?_,fun c hc=>.inl hc,fun c hc=>?_⟩
  ·rw[cq (fun (z:c=b)=>n (by rw[z];exact bM))];exact e
  ·rw[cq (fun z=>by subst z;rw[hb] at e;cases e)];exact e
  ·rw[cq (fun z=>by subst z;rw[hb] at e;cases e)];exact e
  ·by_cases hz:c=b
   ·subst hz;rw[cA];simp
   ·rw[cq hz];exact hc
 have x':gL M (M++B) H (M++B) (cZ H b (.lst ws')):=x.ext;have ne:∀{j:Nat}{y:Vl},(∀zs,y≠(cQ zs,true))->(ρ.set i (some (cQ (ds.set q (.list xs')),true)))[j]?=some (some y)->i≠j:=fun {j y} hy ej z=>by subst z;rw[aq hi] at ej;exact hy _ (aL.inj (aL.inj ej)).symm
 refine⟨x,⟨fun j d' ej=>?_,fun j d' ej=>?_,fun j d' ej=>?_,fun j k d' e' c e5 e6 e7 e8=>?_,fun c hc=>?_,h.sub,by rw[aP];exact h.len,⟨fun j es ej=>?_,fun j k es fs e5 e6=>?_⟩⟩⟩
 ·have nj:=ne (by intro zs z;cases z) ej;rw[ae nj] at ej;obtain⟨v,e5,q5⟩:=h.sh j d' ej;exact⟨v,e5,q5.ext x'⟩
 ·have nj:=ne (by intro zs z;cases z) ej;rw[ae nj] at ej;obtain⟨c,us',e6,e7,e8,q5⟩:=h.ow j d' ej;refine⟨c,us',e6,?_,e8,q5.ext x'⟩;rw[cq (fun (z:c=b)=>ap j d' c ej e6 (by rw[z];exact ao _ bm))];exact e7
 ·have nj:=ne (by intro zs z;simp[mQ,cQ] at z) ej;rw[ae nj] at ej;obtain⟨e6,us',e7,e8,e9,q5⟩:=h.le j d' ej;refine⟨e6,us',?_,e8,e9,q5.ext x'⟩;rw[cq (fun (z:lad j=b)=>e9 (by rw[z];exact bM))];exact e7
 ·have nj:=ne (by intro zs z;cases z) e5;have nk:=ne (by intro zs z;cases z) e6;rw[ae nj] at e5;rw[ae nk] at e6;exact h.ap j k d' e' c e5 e6 e7 e8
 ·by_cases hz:c=b
  ·subst hz;exact⟨.inl ws',cA⟩
  ·rw[cq hz];exact h.tr c hc
 ·by_cases hj:i=j
  ·subst hj;rw[aq hi] at ej;have e5:PyData.list (ds.set q (.list xs'))=es:=by
    have:=aL.inj (aL.inj ej);simpa [cQ,r8] using this
   subst e5;refine .inl ⟨_,rfl,a,bs,e1,?_,e3,nd,d.put x' nb hq cA (r.ext x') fun c hc nc vs e=>by rw[cq nc];exact e,fun k fs c e5 e6=>?_⟩
   ·rw[cq (fun (z:a=b)=>na (z▸bm))];exact e2
   ·have nk:=ne (by intro zs z;cases z) e5;rw[ae nk] at e5;exact ap k fs c e5 e6
  ·rw[ae hj] at ej;exact absurd (h.dp.one i j (.list ds) es hr ej) hj
 ·have one:∀{j:Nat}{es:D},(ρ.set i (some (cQ (ds.set q (.list xs')),true)))[j]?=some (some (r8 es,true))->i=j:=fun {j es} ej=>by
   by_cases hj:i=j
   ·exact hj
   ·rw[ae hj] at ej;exact h.dp.one i j (.list ds) es hr ej
  exact (one e5).symm.trans (one e6)
end DL
namespace DL
open PySem PySem.Spec PySem.SeqAt
open L2 (V Hp St HO VK TE TT TA TS TI TG Cx Inv PE PT PA PS PSs PI PG dN dU cI cZ cA cq cg cH cP EP TP AP SP di It ff)
section
variable {X:Cx}{ek ex ev:Expr}{ke kx vx:ED}{pos p1 p2 p3 p4 p5 p6 p7 p8 p9:Pos}{i s:Nat}{x y:Str}
end
end DL
namespace DL
open PySem
end DL
namespace DL
open PySem PySem.Spec PySem.SeqAt
open L2 (V Hp St HO VK TE TT TA TS TI TG Cx Inv PE PT PA PS PSs PI PG dN dU cI cZ cA cq cg cH cP EP TP AP SP di It ff)
end DL
namespace L2
open PySem PySem.Spec PyProof.Rows
section
variable {X:Cx}
end
end L2
namespace DL
open PySem PySem.Spec PySem.SeqAt
open L2 (V Hp St HO VK TE TT TA TS TI TG Cx Inv PE PT PA PS PSs PI PG dN dU cI cZ cA cq cg cH cP EP TP AP SP di It ff)
section
variable {X:Cx}
open Classical in
end
end DL
namespace L2
open PySem PySem.Spec PyProof.Rows
section
variable {prog:Program}{w:World}{A:Around}{E:Value->Shared->Prop}{s:Shared}
open AutoSeq1 (wpAny_loadPart')
set_option maxRecDepth 100000 in
end
section
variable {X:Cx}{a b:Expr}{ta:TA}{p p1 p2 pos:Pos}
end
end L2
namespace DL
open PySem PySem.Spec PySem.SeqAt
open L2 (V Hp St HO VK TE TT TA TS TI TG Cx Inv PE PT PA PS PSs PI PG dN dU cI cZ cA cq cg cH cP EP TP AP SP di It ff)
section
variable {X:Cx}{a b:Expr}{f g:ED}{p p1 p2 pos:Pos}
end
end DL
namespace DL
open PySem PySem.Spec PySem.SeqAt
end DL
namespace DL
open PySem PySem.Spec PySem.SeqAt
open L2 (V Hp St HO VK TE TT TA TS TI TG Cx Inv PE PT PA PS PSs PI PG dN dU cI cZ cA cq cg cH cP EP TP AP SP di It ff)
section
variable {X:Cx}
end
end DL
namespace DL
open PySem PySem.Spec PySem.SeqAt
open L2 (V Hp St HO VK TE TT TA TS TI TG Cx Inv PE PT PA PS PSs PI PG dN dU cI cZ cA cq cg cH cP EP TP AP SP di It ff)
theorem jP {i:Nat}{ρ:Sl}{ds:List D}(h:gU i ρ=some ds):ρ[i]?=some (some (cQ ds,true)):=by
 unfold gU at h;split at h
 ·rename_i e;cases h;exact e
 ·cases h
theorem lT {ds:List D}{ke:ED}{ρ:Sl}{q:Nat×List D}(h:jO ds ke ρ=some q):∃y j,ke (unown ρ)=some y/\rN y.1=some j/\nq ds.length j=some q.1/\ds[q.1]?=some (.list q.2):=by
 unfold jO at h;cases hy:ke (unown ρ) with
 |none=>rw[hy] at h;cases h
 |some y =>
  rw[hy,aa] at h;cases hj:rN y.1 with
  |none=>rw[hj] at h;cases h
  |some j =>
   rw[hj,aa] at h;cases hq:nq ds.length j with
   |none=>rw[hq] at h;cases h
   |some n =>
    rw[hq,aa] at h;cases hd:ds[n]? with
    |none=>rw[hd] at h;cases h
    |some d =>
     rw[hd] at h;cases d <;> first|(cases h;done)|skip
     cases h;exact⟨y,j,rfl,hj,hq,hd⟩
theorem uU {r:Vl}{xs:List D}(h:yi r=some xs):r=(.list xs,true):=by
 unfold yi at h;split at h
 ·cases h;rfl
 ·cases h
theorem n8 {r:Vl}{d:D}(h:uW r=some d):r=(d,false)/\fE d=true:=by
 unfold uW at h;split at h
 ·split at h
  ·rename_i l;cases h;exact⟨rfl,l⟩
  ·cases h
 ·cases h
theorem vp {f:ED}{ρ:Sl}{r:Vl}(h:nI f ρ=some r):f (unown ρ)=some r/\tL r=true:=by
 unfold nI at h;cases hr:f (unown ρ) with
 |none=>rw[hr] at h;cases h
 |some r' =>
  rw[hr,aa] at h;split at h
  ·rename_i l;cases h;exact⟨rfl,l⟩
  ·cases h
theorem qv {α:Type}:∀{l:List α}{i:Nat}{x:α},l[i]?=some x->l.set i x=l
 |[],_,_,h=>by simp at h
 |a::l,0,x,h=>by simp at h;subst h;rfl
 |a::l,i+1,x,h=>by rw[List.set_cons_succ,qv (by simpa using h)]
theorem ER.reDp {K:Fg}{H H2:Hp}{B M N:List Addr}{lad:Nat->Addr}{ρ:Sl}{σ:St}{i:Nat}{ds ds':List D}{a a':Addr}{bs bs':List Addr}(h:ER K H (M++B) M lad ρ σ)(hB:∀c∈M,c∉B)(hr:ρ[i]?=some (some (cQ ds,true)))(e3:a∈M)(bM:∀b∈bs,b∈M)
  (ap:∀(j:Nat) (es:List D) (c:Addr),ρ[j]?=some (some (.list es,true))->σ[j]?=some (some (.ref c))->c∉a::bs) (keep:∀c o,c≠a->H c=some o->H2 c=some o) (ha2:∃ws,H2 a=some (.lst ws))
  (fr:∀b∈N,H b=none/\∃vs,H2 b=some (.lst vs)) (hv:H2 a'=some (.lst (bs'.map V.ref))) (sub:∀b∈a'::bs',b∈N\/b∈a::bs) (nd:(a'::bs').Nodup) (q:Dp K H2 ((N++M)++B) (N++M) ds' bs') :
  fj M H (N++M) H2/\(∀c∈N++M,c∉B)/\ER K H2 ((N++M)++B) (N++M) lad (ρ.set i (some (cQ ds',true))) (σ.set i (some (.ref a'))):=by
 have hi:i<ρ.length:=(aE.mp hr).1;have hi':i<σ.length:=by rw[<-h.len];exact hi
 obtain⟨wa,ha⟩:=h.tr a (aB _ e3);have nN:∀c,H c≠none->c∉N:=fun c hc z=>hc (fr c z).1;have x:gL M (M++B) H ((N++M)++B) H2:=by
  refine⟨fun b xs e=>keep b _ (fun z=>by rw[z,ha] at e;cases wa <;> cases e) e,fun b o u e=>keep b _ (fun z=>by rw[z,ha] at e;cases wa <;> cases e) e,fun b xs n e=>keep b _ (fun z=>n (z▸e3)) e,fun b φ n e=>keep b _ (fun z=>n (z▸e3)) e,fun b hb=>?_,fun b hb=>aB _ hb⟩;rw[aK] at hb;exact (aG.mp hb).elim (fun z=>.inr (fr b z).1) .inl
 have sx:fj M H (N++M) H2:=by
  refine⟨fun b o n e=>keep b o (fun z=>n (z▸e3)) e,x.tup,x.frz,fun b hb=>(aG.mp hb).elim (fun z=>.inr (fr b z).1) .inl,fun b hb=>?_⟩;by_cases z:b=a
  ·subst z;obtain⟨ws,e⟩:=ha2;rw[e];simp
  ·cases e:H b with
   |none=>exact absurd e hb
   |some o=>rw[keep b o z e];simp
 have am:∀b∈a::bs,b∈M:=fun b hb=>(aw.mp hb).elim (fun z=>z▸e3) (bM b);have am':∀b∈a'::bs',b∈N++M:=fun b hb=>(sub b hb).elim (fun z=>aB _ z) fun z=>av _ (am b z);have ne:∀{j:Nat}{y:Vl},(∀zs,y≠(cQ zs,true))->(ρ.set i (some (cQ ds',true)))[j]?=some (some y)->i≠j:=fun {j y} hy ej z=>by subst z;rw[aq hi] at ej;exact hy _ (aL.inj (aL.inj ej)).symm
 refine⟨sx,fun c hc zB=>(aG.mp hc).elim (fun z=>h.ne c (av _ zB) (fr c z).1) fun z=>hB c z zB,fun j d' ej=>?_,fun j d' ej=>?_,fun j d' ej=>?_,fun j k d' e' c e5 e6 e7 e8=>?_,fun c hc=>?_,fun b hb=>aB _ hb,by rw[aP,aP];exact h.len,⟨fun j es ej=>?_,fun j k es fs e5 e6=>?_⟩⟩
 ·have hj:=ne (by intro zs z;cases z) ej;rw[ae hj] at ej ⊢;obtain⟨w,e5,q5⟩:=h.sh j d' ej;exact⟨w,e5,q5.ext x⟩
 ·have hj:=ne (by intro zs z;cases z) ej;rw[ae hj] at ej ⊢;obtain⟨b,us,e6,e7,e8,q5⟩:=h.ow j d' ej;exact⟨b,us,e6,keep b _ (fun z=>ap j d' b ej e6 (by rw[z];exact aC)) e7,av _ e8,q5.ext x⟩
 ·have hj:=ne (by intro zs z;simp[mQ,cQ] at z) ej;rw[ae hj] at ej ⊢;obtain⟨e6,us,e7,e8,e9,q5⟩:=h.le j d' ej;exact⟨e6,us,keep _ _ (fun z=>e9 (by rw[z];exact e3)) e7,by rw[aK];exact av _ e8,fun z=>(aG.mp z).elim (nN _ (by rw[e7];simp)) e9,q5.ext x⟩
 ·have nj:=ne (by intro zs z;cases z) e5;have nk:=ne (by intro zs z;cases z) e6;rw[ae nj] at e5 e7;rw[ae nk] at e6 e8;exact h.ap j k d' e' c e5 e6 e7 e8
 ·by_cases z:c=a
  ·subst z;obtain⟨ws,e⟩:=ha2;exact⟨.inl ws,e⟩
  ·rw[aK] at hc;rcases aG.mp hc with z2|z2
   ·obtain⟨vs,e⟩:=(fr c z2).2;exact⟨.inl vs,e⟩
   ·obtain⟨vs,e⟩:=h.tr c z2;exact⟨vs,keep c _ z e⟩
 ·by_cases hj:i=j
  ·subst hj;rw[aq hi] at ej;have e5:PyData.list ds'=es:=by
    have:=aL.inj (aL.inj ej);simpa [cQ,r8] using this
   subst e5;refine .inl ⟨_,rfl,a',bs',aq hi',hv,am' a' aC,nd,q,fun k fs c e1 e2 z=>?_⟩;have nk:=ne (by intro zs z;cases z) e1;rw[ae nk] at e1 e2;rcases sub c z with z2|z2
   ·obtain⟨b,us,e6,e7,e8,q5⟩:=h.ow k fs e1;rw[e2] at e6;cases e6;exact nN c (by rw[e7];simp) z2
   ·exact ap k fs c e1 e2 z2
  ·rw[ae hj] at ej;exact absurd (h.dp.one i j (.list ds) es hr ej) hj
 ·have one:∀{j:Nat}{es:D},(ρ.set i (some (cQ ds',true)))[j]?=some (some (r8 es,true))->i=j:=fun {j es} ej=>by
   by_cases hj:i=j
   ·exact hj
   ·rw[ae hj] at ej;exact h.dp.one i j (.list ds) es hr ej
  exact (one e5).symm.trans (one e6)
theorem ER.outDp {K:Fg}{H H1:Hp}{B M N:List Addr}{lad:Nat->Addr}{ρ:Sl}{σ:St}{i:Nat}{ds ds':List D}{a:Addr}{bs bs':List Addr}(h:ER K H (M++B) M lad ρ σ)(hB:∀c∈M,c∉B)(hr:ρ[i]?=some (some (cQ ds,true)))(e1:σ[i]?=some (some (.ref a)))(e2:H a=some (.lst (bs.map V.ref)))
  (e3:a∈M) (nd:(a::bs).Nodup) (d:Dp K H (M++B) M ds bs) (ap:∀(j:Nat) (es:List D) (c:Addr),ρ[j]?=some (some (.list es,true))->σ[j]?=some (some (.ref c))->c∉a::bs) (s:cI H H1)
  (fr:∀b∈N,H b=none/\∃vs,H1 b=some (.lst vs)) (sub:∀b∈bs',b∈N\/b∈bs) (nd':bs'.Nodup) (q:Dp K H1 ((N++M)++B) (N++M) ds' bs') :
  fj M H (N++M) (cZ H1 a (.lst (bs'.map V.ref)))/\(∀c∈N++M,c∉B)/\ER K (cZ H1 a (.lst (bs'.map V.ref))) ((N++M)++B) (N++M) lad (ρ.set i (some (cQ ds',true))) σ:=by
 have e2':=s _ _ e2;have nda:=aW.mp nd;have na:∀b∈bs',b≠a:=fun b hb z=>(sub b hb).elim (fun w=>by rw[z] at w;rw[(fr a w).1] at e2;cases e2) fun w=>nda.1 (z▸w);have x:gL [a] ((N++M)++B) H1 ((N++M)++B) (cZ H1 a (.lst (bs'.map V.ref))):=by
  refine⟨fun c zs e=>?_,fun c o w e=>?_,fun c zs n e=>?_,fun c φ n e=>?_,fun c hc=>.inl hc,fun c hc=>?_⟩
  ·rw[cq (fun (z:c=a)=>by rw[z,e2'] at e;cases e)];exact e
  ·rw[cq (fun (z:c=a)=>by rw[z,e2'] at e;cases e)];exact e
  ·rw[cq (fun (z:c=a)=>n (by rw[z];exact aM.mpr rfl))];exact e
  ·rw[cq (fun (z:c=a)=>n (by rw[z];exact aM.mpr rfl))];exact e
  ·rw[aM.mp hc];exact aB _ (av _ e3)
 have q':Dp K (cZ H1 a (.lst (bs'.map V.ref))) ((N++M)++B) (N++M) ds' bs':=q.go x fun c hc hm=>⟨hm,fun vs e=>by rw[cq (na c hc)];exact e⟩;have fr':∀b∈N,H b=none/\∃vs,(cZ H1 a (.lst (bs'.map V.ref))) b=some (.lst vs):=fun b hb=>by
  obtain⟨f1,vs,f2⟩:=fr b hb;exact⟨f1,vs,by rw[cq (fun (z:b=a)=>by rw[z,e2] at f1;cases f1)];exact f2⟩
 have E:=h.reDp (ds':=ds') (a':=a) (bs':=bs') hB hr e3 (fun c hc=>d.mem c hc) ap (fun c o n e=>by rw[cq n];exact s _ _ e) ⟨_,cA⟩ fr' cA
  (fun c hc=>(aw.mp hc).elim (fun z=>.inr (z▸aC)) fun z=>(sub c z).imp_right fun w=>ao _ w) (aW.mpr ⟨fun z=>na a z rfl,nd'⟩) q'
 rw[qv e1] at E;exact E
theorem Dp.wide {K:Fg}{H H1:Hp}{B M N:List Addr}{ds:List D}{bs:List Addr}(d:Dp K H (M++B) M ds bs)(s:cI H H1)(fr:∀b∈N,H b=none):Dp K H1 ((N++M)++B) (N++M) ds bs :=
 d.go (Mx:=[]) ⟨fun b _ e=>s b _ e,fun b _ _ e=>s b _ e,fun b _ _ e=>s b _ e,fun b _ _ e=>s b _ e,fun c hc=>by
  rw[aK] at hc;exact (aG.mp hc).elim (fun z=>.inr (fr c z)) .inl,(fun _ h=>nomatch h)⟩ fun c hc hm=>⟨av _ hm,fun vs e=>s _ _ e⟩
section
variable {X:Cx}{e ek ex ev:Expr}{f ke kx vx:ED}{pos p1 p2 p3 p4:Pos}{i:Nat}{x:Str}
theorem vk {spos py:Pos}(hN:X.N.Nodup)(he:DE X e (eN cG))(hi:X.N[i]?=some x:=by rfl)(hx:L2.Loc X.env.scope x:=by first|exact Or.inl rfl|exact Or.inr rfl)
  (hsw:swapsWith e (some (.Name x py)) spos.line X.env=pure false:=by rfl) (hf:X.fn x=true\/X.env.scope.names.lookup x=some .local:=by first|exact .inl rfl|exact .inr rfl|assumption):DS X (.Assign [.Name x py] e spos) (jG i (eN cG)):=fun B H₀ M₀ lad =>
 (L2.ps_set hN hi hx he hsw hf).imp fun E σ H h=>by
  obtain⟨ρ,O,M,lad',r,hE,hr,k⟩:=nW h;have er:r=(.list [],true):=by
   simp[eN,cG] at hr;exact hr.symm
  subst er;refine⟨ρ,O,M,lad',_,hE,hr,fun v H' s q=>k v H' s ?_⟩;rcases q with ⟨z,_⟩|⟨_,a,ds,vs,e1,e2,e3,e4,q⟩
  ·cases z
  ·cases e1;cases q;exact⟨a,[],[],rfl,e2,e3,e4,by simp,(fun b hb=>nomatch hb),.nil⟩
theorem vg {K:Fg}{H H1:Hp}{O:List Addr}{xs:List D}{v:V}(q:lV K H O H1 (.list xs,true) v)(l:tL (.list xs,true)=true):∃b us,v=.ref b/\H b=none/\H1 b=some (.lst us)/\∀O',Rs K H1 O' xs us:=by
 rcases q with ⟨z,_⟩|⟨_,b,ws,us,e1,e2,e3,e4,q⟩
 ·cases z
 ·cases e1;exact⟨b,us,e2,e3,e4,fun O'=>q.lf l⟩
theorem rD (he:DE X e f)(hN:X.N[i]?=some x:=by rfl)(hv:L2.Vis X.env.scope x:=by first|exact Or.inl rfl|exact Or.inr (Or.inl rfl)|exact Or.inr (Or.inr rfl))(hd:(x==("__debug__" : Str))=false:=by decide)
  (hcd:(x==("__classdict__" : Str))=false:=by decide)
  (hbase:attributeBase (.Name x p1) "append" X.env (eval (.Name x p1) X.env)=eval (.Name x p1) X.env:=by rfl)
  (hfew:((backTo p3 (starEach [e] X.env)).all (fun x=>!x.1)&&(backToKw p3 (keywordEach [] X.env)).all (fun x=>x.1.isSome)&&decide ([e].length+([]:List Keyword).length+(if ([]:List Keyword).isEmpty then 0 else 1)<30))=true:=by rfl)
  (hline:(p2.endLine==p3.line)=true:=by rfl) (hs:starEach [e] X.env=(false,eval e X.env)::starEach [] X.env:=by rfl) (hplain:(backTo p3 (starEach [] X.env)).any (·.1)=false:=by rfl)
  (hsw:swapsWith (.Call (.Attribute (.Name x p1) "append" p2) [e] [] p3) none pos.line X.env=pure false:=by rfl) :
  DS X (.Expr (.Call (.Attribute (.Name x p1) "append" p2) [e] [] p3) pos) (lC i f):=fun B H₀ M₀ lad =>
 (L2.ps_expr (L2.pe_bm PySem.F.plainAttrs_list PySem.F.slot_list_append PySem.F.type_list_append L2.mt_append (L2.pe_var hN hv hd hcd) (L2.pa_cons (xu he) L2.pa_nil hs) hbase hfew hline hs hplain) hsw).imp fun E σ H zz=>by
  obtain ⟨ρ,fl,⟨M,hx,hB,hE⟩,hf,k⟩:=zz;unfold lC at hf;cases hr0:gU i ρ with
  |none=>rw[hr0] at hf;cases hf
  |some ds =>
   rw[hr0,aa] at hf;cases hr:nI f ρ with
   |none=>rw[hr] at hf;cases hf
   |some r =>
    rw[hr,aa] at hf;cases ho:yi r with
    |none=>rw[ho] at hf;cases hf
    |some xs =>
     rw[ho,aa] at hf;split at hf
     ·rename_i hz;cases hf;have hd':=jP hr0;obtain⟨a,bs,e1,e2,e3,nd,dp,ap⟩:=hE.dp.at_ i ds hd';have l:=dp.len;refine⟨.ref a,e1,.inl ⟨rfl,bs.map V.ref,.inl (.inl e2)⟩,ρ,_,M,lad,r,hE,hr,fun u H2 s2 q2=>?_⟩;have er:=uU ho;subst er;obtain⟨b,us,rfl,hb,hb2,rs⟩:=vg q2 (vp hr).2;refine⟨a,bs.map V.ref,.ref b,rfl,rfl,s2 _ _ e2,by rw[ah];omega,?_⟩;rw[show bs.map V.ref++[.ref b]=(bs++[b]).map V.ref by rw[bj];rfl];have bbs:b∉bs:=fun z=>hE.ne b (aB _ (dp.mem b z)) hb;have nda:=aW.mp nd;have E2:=hE.outDp (N:=[b]) (bs':=bs++[b]) (ds':=ds++[.list xs]) hB hd' e1 e2 e3 nd dp ap s2 (fun c hc=>by rw[aM.mp hc];exact⟨hb,us,hb2⟩) (fun c hc=>(aG.mp hc).elim .inr .inl)
       (List.nodup_append.mpr ⟨nda.2,by simp,fun u hu w hw z=>by
        have hw':w=b:=by simpa using hw
        subst z hw';exact bbs hu⟩) (Dp.snoc (dp.wide s2 fun c hc=>by rw[aM.mp hc];exact hb) hb2 (by simp) (rs _))
      exact k _ _ ⟨_,hx.trans E2.1,E2.2.1,E2.2.2⟩
     ·cases hf
theorem xl (hk:DE X ek ke)(he:DE X ev vx)(hN:X.N[i]?=some x:=by rfl)(hv:L2.Vis X.env.scope x:=by first|exact Or.inl rfl|exact Or.inr (Or.inl rfl)|exact Or.inr (Or.inr rfl))(hd:(x==("__debug__" : Str))=false:=by decide)
  (hcd:(x==("__classdict__" : Str))=false:=by decide) (hpx:L2.PlainIx ek:=by exact fun _ _=>rfl)
  (hbase:attributeBase (.Subscript (.Name x p1) ek p4) "append" X.env (eval (.Subscript (.Name x p1) ek p4) X.env)=eval (.Subscript (.Name x p1) ek p4) X.env:=by rfl)
  (hfew:((backTo p3 (starEach [ev] X.env)).all (fun x=>!x.1)&&(backToKw p3 (keywordEach [] X.env)).all (fun x=>x.1.isSome)&&decide ([ev].length+([]:List Keyword).length+(if ([]:List Keyword).isEmpty then 0 else 1)<30))=true:=by rfl)
  (hline:(p2.endLine==p3.line)=true:=by rfl) (hs:starEach [ev] X.env=(false,eval ev X.env)::starEach [] X.env:=by rfl) (hplain:(backTo p3 (starEach [] X.env)).any (·.1)=false:=by rfl)
  (hsw:swapsWith (.Call (.Attribute (.Subscript (.Name x p1) ek p4) "append" p2) [ev] [] p3) none pos.line X.env=pure false:=by rfl) :
  DS X (.Expr (.Call (.Attribute (.Subscript (.Name x p1) ek p4) "append" p2) [ev] [] p3) pos) (pw i ke vx):=fun B H₀ M₀ lad =>
 (L2.ps_expr (L2.pe_bm PySem.F.plainAttrs_list PySem.F.slot_list_append PySem.F.type_list_append L2.mt_append (L2.pe_ix L2.ix_seq (L2.pe_var hN hv hd hcd) hk.bb hpx) (cw he cK hs) hbase hfew hline hs hplain) hsw).imp fun E σ H zz=>by
  obtain ⟨ρ,fl,⟨M,hx,hB,hE⟩,hf,k⟩:=zz;have ne0:∀{Hx:Hp},∀a∈([]:List Addr),Hx a≠none:=fun a ha=>nomatch ha;unfold pw at hf;cases hr0:gU i ρ with
  |none=>rw[hr0] at hf;cases hf
  |some ds =>
   rw[hr0,aa] at hf;cases hq:jO ds ke ρ with
   |none=>rw[hq] at hf;cases hf
   |some q =>
    rw[hq,aa] at hf;cases hr:vx (unown ρ) with
    |none=>rw[hr] at hf;cases hf
    |some r =>
     rw[hr,aa] at hf;cases ho:uW r with
     |none=>rw[ho] at hf;cases hf
     |some d =>
      rw[ho,aa] at hf;split at hf
      ·rename_i hz;cases hf;obtain⟨y,j,hy,hj,hn,hg⟩:=lT hq;have hd':=jP hr0;obtain⟨a,bs,e1,e2,e3,nd,dp,ap⟩:=hE.dp.at_ i ds hd';obtain⟨xs',b,ws,ez,hb,hw,bM,rs⟩:=dp.get hg;cases ez;obtain⟨er,lf⟩:=n8 ho;subst er;refine⟨.ref a,e1,unown ρ,[],[],lad,.int j,hE.unown,by unfold ck;rw[hy,ag,lh hj],fun vy H1 s1 qy=>?_⟩;cases qy.int;refine .inl ⟨a,bs.map V.ref,j,.ref b,rfl,rfl,.inl (.inl (s1 _ _ e2)),?_,?_⟩
       ·unfold L2.atI;have:L2.ixN (bs.map V.ref).length j=some q.1:=by rw[ah,<-dp.len];exact hn
        rw[this,aa,aN,hb];rfl
       refine⟨.inl ⟨rfl,ws,.inl (.inl (s1 _ _ hw))⟩,unown ρ,[],[],lad,[d],hE.unown.same s1,by unfold cf;rw[hr];rfl,fun us H2 s2 q2=>?_⟩;cases q2 with
       |cons qd qn =>
        cases qn;have S:cI H H2:=s1.trans s2;have l:=rs.length;refine⟨b,ws,_,rfl,rfl,S _ _ hw,by omega,?_⟩;obtain⟨sx,E5⟩:=(hE.same S).mutDp (q:=q.1) hd' e1 (S _ _ e2) e3 nd (dp.go (.same S) fun c hc hm=>⟨hm,fun vs e=>S _ _ e⟩) ap hb ((rs.same S).append (.cons (qd.lf lf) .nil));exact k _ _ ⟨M,(hx.trans (.same S)).trans sx,hB,E5⟩
      ·cases hf
end
end DL
namespace L2
open PySem PySem.Spec PyProof.Rows
section
variable {X:Cx}
end
section
variable {X:Cx}{a b:Expr}{ta:TA}{p p1 p2 pos:Pos}
end
end L2
namespace DL
open PySem PySem.Spec PySem.SeqAt
open L2 (V Hp St HO VK TE TT TA TS TI TG Cx Inv PE PT PA PS PSs PI PG dN dU cI cZ cA cq cg cH cP EP TP AP SP di It ff)
section
variable {X:Cx}{a b:Expr}{f g:ED}{fb:BD}{p p1 p2 pos:Pos}
end
end DL
namespace L2
open PySem PySem.Spec PyProof.Rows
noncomputable def CX1 (P:Program)(w:World):vP:=fun outer H s E e s'=>∃(ea C t:Addr) (B:Heap) (H':Hp),e=.ref ea/\s'.os=s.os/\AllBare s'.gens/\Un (frs outer) [] H H' s.heap s'.heap/\lj P w H' s'.heap ∧
 Heap.FlyingW B outer ea (.ref C) (.ref t) s'.heap/\(∀b o o',s.heap.get? b=some o->s'.heap.get? b=some o'->b∉frs outer->B.get? b=some o')/\(∀b o,s'.heap.get? b=some o->H' b≠none->B.get? b=some o)/\E (.ref C) none H'
section
variable {P:Program}{w:World}{H:Hp}{h h' B:Heap}
theorem gq.there {a:Addr}{o:HO}(x:gq P w H h a o):∃u,h.get? a=some u:=by
 cases o with
 |lst xs=>obtain⟨_,_,_,_,e⟩:=x;exact⟨_,e⟩
 |tup xs=>obtain⟨_,_,_,ob,e,_⟩:=x;exact⟨_,e⟩
 |dK kvs=>obtain⟨_,_,_,_,o,_,_,e,_⟩:=x;exact⟨_,e⟩
 |dT kvs=>obtain⟨_,_,_,_,o,_,_,e,_⟩:=x;exact⟨_,e⟩
 |set S n=>obtain⟨o,_,_,_,e,_⟩:=x;exact⟨_,e⟩
 |ins C dx fs=>obtain⟨_,_,_,e,_⟩:=x;exact⟨_,e⟩
 |own y=>exact x
 |xd fs=>obtain⟨_,⟨_,_,_,e,_⟩,_⟩:=x;exact⟨_,e⟩
 |rng lo hi=>obtain⟨_,_,_,e⟩:=x;exact⟨_,e⟩
 |frz ob u=>obtain⟨e,_⟩:=x;exact⟨_,e⟩
 |tbl ps=>exact⟨_,show h.get? a=some _ from x⟩
 |met f y=>exact⟨_,show h.get? a=some _ from x⟩
 |ext φ=>obtain⟨_,e,_⟩:=x;exact e
theorem lj.held (x:lj P w H h)(hB:∀b o,h.get? b=some o->H b≠none->B.get? b=some o)(st:B.StaysIn h'):lj P w H h':=fun a o e =>
 (x a o e).stay (fun b u hb q=>st b u (hB b u q (by
  rcases hb with z|z
  ·subst z;rw[e];simp
  ·rw[z];simp))) (fun _ q=>q) fun _ _ q=>q
end
section
variable {X:Cx}{pins:List (Addr×Obj)}{σ:St}{H:Hp}{s:Shared}
theorem Inv.leaves (I:Inv X pins σ H s)(hst:X.stack=X.env::X.outer)(hf:X.env.frame=some X.env.locals)(hex:X.ex=[]){ea C:Addr}{vs:List Value}{h':Heap}{E:XK}(hx:Heap.MadeExcOf s.heap h' ea (.ref C) vs)(hE:E (.ref C) none H){EE:Value->Shared->Prop} :
  wpAny (model X.prog X.w) X.A (leaving X.env (.ref ea)) (fun _ s''=>CX1 X.prog X.w X.outer X.H₀ X.s₀ E (.ref ea) s'') EE { s with heap:=h' }:=by
 have hfr:X.A.frames=some (X.env::X.outer):=by rw[<-hst];exact I.ok.frames
 have hl:=I.stack;rw[hst] at hl;have inn:∀env∈(X.env::X.outer),∀a,env.frame=some a->a∈frs (X.env::X.outer):=fun env he a ha=>List.mem_filterMap.mpr ⟨env,he,ha⟩;have old:∀b o,X.s₀.heap.get? b=some o->b∉frs X.outer->b∉frs (X.env::X.outer):=fun b o e nb hb=>by
  unfold frs at hb;rw[br,hf] at hb;rcases aw.mp hb with z|z
  ·subst z;exact absurd (aH (aF e) I.ok.above) (aY _)
  ·exact nb z
 refine wpAny_leaves_madeW (base:=PySem.W.hideAll s.heap (frs (X.env::X.outer))) hfr hf (fun b o q=>PySem.W.of_hideAll _ q) (PySem.W.funFrames_hide hl inn) hx fun h'' t fl tup nt up=>?_;have hB:∀b o,s.heap.get? b=some o->b∉frs (X.env::X.outer)->(PySem.W.hideAll s.heap (frs (X.env::X.outer))).get? b=some o:=fun b o q n=>PySem.W.hideAll_get _ q n;have free:∀b∈frs (X.env::X.outer),H b=none:=fun b hb=>by
  have:=I.stkFree b;rw[hst] at this;exact this hb
 have nex:∀b:Addr,b∉X.ex:=fun b z=>by rw[hex] at z;cases z
 have zG:∀b o,s.heap.get? b=some o->H b≠none->(PySem.W.hideAll s.heap (frs (X.env::X.outer))).get? b=some o:=fun b o q n=>hB b o q fun z=>n (free b z);have ok:lj X.prog X.w H h'':=I.hok.held zG fl.1;have up2:s.heap.UpToSlots h'':=(Heap.UpToSlots.of_keeps hx.keeps).trans up;refine⟨ea,C,t,_,H,rfl,I.os,I.bare,⟨fun b o q n nb _=>?_,fun b o q n hb _=>?_,fun b o q n _=>I.base.free b o q n (nex b),fun b o q _=>?_,I.base.tups,I.base.frzs,I.base.tbls⟩,ok,fl,fun b o o' q q' nb=>?_,fun b o q n=>?_,hE⟩
 ·exact fl.1 b o (hB b o (I.base.keep b o q n nb (nex b)) (old b o q nb))
 ·obtain⟨sl,e1⟩:=I.base.slot b o q n hb (nex b);obtain⟨_,o',ho',hd'⟩:=I.funs.mem hb;rw[e1] at ho';cases ho';obtain⟨sl2,e2⟩:=up2 b _ e1 hd';exact⟨sl2,e2⟩
 ·obtain⟨o',e1⟩:=I.base.there b o q (nex b);by_cases hb:b∈frs (X.env::X.outer)
  ·obtain⟨_,o2,ho2,hd2⟩:=hl.mem hb;rw[e1] at ho2;cases ho2;obtain⟨sl2,e2⟩:=up2 b _ e1 hd2;exact⟨_,e2⟩
  ·exact⟨o',fl.1 b o' (hB b o' e1 hb)⟩
 ·obtain⟨o2,e2⟩:=I.base.there b o q (nex b);have e3:=hB b o2 e2 (old b o q nb);have e4:=fl.1 b o2 e3;have q':h''.get? b=some o':=q';rw[q'] at e4;cases e4;exact e3
 ·cases e:H b with
  |none=>exact absurd e n
  |some u =>
   obtain⟨o2,e2⟩:=(I.hok b u e).there;have e3:=zG b o2 e2 n;have e4:=fl.1 b o2 e3;rw[q] at e4;cases e4;exact e3
theorem Inv.seen (I:Inv X pins σ H s)(hst:X.stack=X.env::X.outer)(hf:X.env.frame=some X.env.locals)(hex:X.ex=[]){s':Shared}{H':Hp}{B h3:Heap}(un:Un (frs X.stack) [] H H' s.heap s'.heap)(hB:∀b o o',s.heap.get? b=some o->s'.heap.get? b=some o'->b∉frs X.stack->B.get? b=some o')
  (st:B.StaysIn h3) (up:s'.heap.UpToSlots h3):Un X.fs [] X.H₀ H' X.s₀.heap h3/\(∀b o o',X.s₀.heap.get? b=some o->h3.get? b=some o'->b∉X.fs->B.get? b=some o')/\(∀b o,s.heap.get? b=some o->H b=none->b∉frs X.stack->h3.get? b=some o):=by
 have nex:∀b:Addr,b∉X.ex:=fun b z=>by rw[hex] at z;cases z
 have no:∀b:Addr,b∉([]:List Addr):=fun b z=>by cases z
 have old:∀b o,X.s₀.heap.get? b=some o->b∉X.fs->b∉frs X.stack:=fun b o e nb hb=>by
  rw[hst] at hb;unfold frs at hb;rw[br,hf] at hb;rcases aw.mp hb with z|z
  ·subst z;exact absurd (aH (aF e) I.ok.above) (aY _)
  ·exact nb z
 have kB:∀b o,s.heap.get? b=some o->H b=none->b∉frs X.stack->h3.get? b=some o:=fun b o q n nb=>st b o (hB b o o q (un.keep b o q n nb (no b)) nb);have xK:∀b,b∈X.fs->b∈frs X.stack:=fun b hb=>by
  rw[hst];unfold frs;rw[br,hf];exact ao _ hb
 refine⟨⟨fun b o q n nb _=>?_,fun b o q n hb _=>?_,fun b o q n _=>?_,fun b o q _=>?_,fun b xs q=>un.tups b xs (I.base.tups b xs q),fun b o u q=>un.frzs b o u (I.base.frzs b o u q),fun b ps q=>?_⟩,fun b o o' q q' nb=>?_,kB⟩
 ·exact kB b o (I.base.keep b o q n nb (nex b)) (I.base.free b o q n (nex b)) (old b o q nb)
 ·obtain⟨sl,e1⟩:=I.base.slot b o q n hb (nex b);obtain⟨_,o',ho',hd'⟩:=I.funs.mem hb;rw[e1] at ho';cases ho';obtain⟨sl2,e2⟩:=un.slot b _ e1 (I.base.free b o q n (nex b)) (xK b hb) (no b);obtain⟨sl3,e3⟩:=up b _ e2 hd';exact⟨sl3,e3⟩
 ·obtain⟨o',e1⟩:=I.base.there b o q (nex b);exact un.free b o' e1 (I.base.free b o q n (nex b)) (no b)
 ·obtain⟨o1,e1⟩:=I.base.there b o q (nex b);obtain⟨o2,e2⟩:=un.there b o1 e1 (no b);by_cases hb:b∈X.fs
  ·obtain⟨_,o3,ho3,hd3⟩:=I.funs.mem hb;rw[e1] at ho3;cases ho3;have n:=I.stkFree b (xK b hb);obtain⟨sl2,e4⟩:=un.slot b _ e1 n (xK b hb) (no b);obtain⟨sl3,e5⟩:=up b _ e4 hd3;exact⟨_,e5⟩
  ·exact⟨o2,st b o2 (hB b o1 o2 e1 e2 (old b o q hb))⟩
 ·obtain⟨m1,e1⟩:=I.base.tbls b ps q;obtain⟨m2,e2⟩:=un.tbls b _ e1;exact⟨m1++m2,by rw[e2,CH]⟩
 ·obtain⟨o1,e1⟩:=I.base.there b o q (nex b);obtain⟨o2,e2⟩:=un.there b o1 e1 (no b);have e3:=hB b o1 o2 e1 e2 (old b o q nb);have e4:=st b o2 e3;rw[q'] at e4;cases e4;exact e3
theorem Inv.passes (I:Inv X pins σ H s)(hst:X.stack=X.env::X.outer)(hf:X.env.frame=some X.env.locals)(hex:X.ex=[]){e:Value}{s':Shared}{E:XK}(c:CX1 X.prog X.w X.stack H s E e s'){EE:Value->Shared->Prop} :
  wpAny (model X.prog X.w) X.A (leaving X.env e) (fun _ s''=>CX1 X.prog X.w X.outer X.H₀ X.s₀ E e s'') EE s':=by
 obtain⟨ea,C,t,B,H',rfl,os,bare,un,ok,fl,hB,hT,hE⟩:=c;have hfr:X.A.frames=some (X.env::X.outer):=by rw[<-hst];exact I.ok.frames
 rw[hst] at fl;refine wpAny_leaves_onW hfr hf fl fun h'' fl2 up=>?_;obtain⟨u2,hB2,_⟩:=I.seen hst hf hex un hB fl2.1 up;refine⟨ea,C,t,B,H',rfl,os.trans I.os,bare,u2,ok.held hT fl2.1,fl2,hB2,fun b o q n=>?_,hE⟩;cases e:H' b with
 |none=>exact absurd e n
 |some u =>
  obtain⟨o2,e2⟩:=(ok b u e).there;have e3:=hT b o2 e2 n;have e4:=fl2.1 b o2 e3;have q:h''.get? b=some o:=q;rw[q] at e4;cases e4;exact e3
theorem Inv.caught (I:Inv X pins σ H s)(hst:X.stack=X.env::X.outer)(hf:X.env.frame=some X.env.locals)(hex:X.ex=[])(hfn:∀x,X.fn x=true){s':Shared}{H':Hp}{B h3:Heap}(hos:s'.os=s.os)(hbare:AllBare s'.gens)(un:Un (frs X.stack) [] H H' s.heap s'.heap)(ok:lj X.prog X.w H' s'.heap)(hB:∀b o o',s.heap.get? b=some o->s'.heap.get? b=some o'->b∉frs X.stack->B.get? b=some o')
  (hT:∀b o,s'.heap.get? b=some o->H' b≠none->B.get? b=some o) (st:B.StaysIn h3) (up:s'.heap.UpToSlots h3):Inv X pins σ H' { s' with heap:=h3 }:=by
 obtain⟨u2,_,kB⟩:=I.seen hst hf hex un hB st up;have no:∀b:Addr,b∉([]:List Addr):=fun b z=>by cases z
 have locS:X.env.locals∈frs X.stack:=by
  rw[hst];unfold frs;rw[br,hf];exact aC
 have fsS:∀b,b∈frs X.stack->b=X.env.locals\/b∈X.fs:=fun b hb=>by
  rw[hst] at hb;unfold frs at hb;rw[br,hf] at hb;exact aw.mp hb
 have cellS:∀x c,X.env.cells.lookup x=some c->c∉frs X.stack:=fun x c e hc=>by
  rcases fsS c hc with z|z
  ·exact I.cne x c e z
  ·obtain⟨_,o,ho,_⟩:=I.ok.funs.mem z;exact absurd (aH (aF ho) (I.ok.cab x c (hfn x) e)) (aY _)
 have ns:∀m,s.heap.Ns X.env.locals m->h3.Ns X.env.locals m:=fun m hn=>by
  obtain⟨o,es,ep,ho,hd,r⟩:=hn;obtain⟨sl,e1⟩:=un.slot _ o ho I.free locS (no _);obtain⟨sl2,e2⟩:=up _ _ e1 fun vs q=>by rw[hd] at q;cases q
  exact⟨_,es,ep,e2,hd,r⟩
 have isC:∀x c v,X.env.cells.lookup x=some c->s.heap.IsCell c v->h3.IsCell c v:=fun x c v e ⟨o,ho,hd⟩=>⟨o,kB c o ho (I.freeC x c e) (cellS x c e),hd⟩;obtain⟨m,hm,hv⟩:=I.loc;refine⟨I.ok,hos.trans I.os,hbare,by rw[hex];exact u2,⟨m,ns m hm,fun i x v h1 h2 h3'=>?_⟩,fun x c e=>?_,?_,fun x c e=>?_,fun p hp=>?_,ok.held hT st,I.len⟩
 ·obtain⟨u,r,l⟩:=hv i x v h1 h2 h3';refine⟨u,r,?_⟩;rcases l with l|⟨l1,c,l2,l3⟩
  ·exact .inl l
  ·exact .inr ⟨l1,c,l2,isC x c _ l2 l3⟩
 ·obtain⟨v,hv⟩:=I.cell x c e;exact⟨v,isC x c v e hv⟩
 ·obtain⟨o,_,_,ho,_⟩:=hm;exact un.free _ o ho I.free (no _)
 ·obtain⟨v,o,ho,_⟩:=I.cell x c e;exact un.free _ o ho (I.freeC x c e) (no _)
 ·obtain⟨p1,p2,p3,p4,p5⟩:=I.pin p hp;refine⟨kB _ _ p1 p2 fun hb=>?_,un.free _ _ p1 p2 (no _),p3,p4,p5⟩;rcases fsS _ hb with z|z
  ·exact p3 z
  ·exact p4 z
end
end L2
namespace DL
open PySem PySem.Spec PySem.SeqAt
open L2 (V Hp St HO VK TE TT TA TS TI TG Cx Inv PE PT PA PS PSs PI PG dN dU cI cZ cA cq cg cH cP EP TP AP SP di It ff)
theorem Ae {K:Fg}{h:Heap}{C:Addr}{bmB:List Value}{newId:String}(X:K.In h)(q:PySem.W.excIn K C bmB newId=true) :
  ∃bm N nm q bs hd sn sub ab col dd k0 k1 k2 k3 k5 mN,h.get? C=some (excClassObj nm q C N bs bm hd sn sub ab col dd k0 k1 k2 k3 k5 newId)/\h.Ns N mN/\mN "__init__" = none/\OwnTail h bmB bm:=by
 unfold PySem.W.excIn at q;split at q
 case h_2=>cases q
 case h_1 d1 cls sls hob =>
  split at q
  case h_2=>cases q
  case h_1 D bs' x0 x1 x2 x3 nid x5 hmro hsls =>
   rw[Bool.and_eq_true,Bool.and_eq_true,Bool.and_eq_true,Bool.and_eq_true,Bool.and_eq_true,beq_iff_eq,beq_iff_eq,beq_iff_eq,Bool.not_eq_true'] at q;obtain⟨⟨⟨⟨⟨c1,c2⟩,c3⟩,c4⟩,c5⟩,c6⟩:=q;have at1:=X _ _ hob;have hsl2:sls=#[x0,x1,x2,x3,some (.builtin newId),x5]:=by
    rw[<-c2];exact Array.toList_inj.mp hsls
   subst c1;refine⟨bs',cls.ns,cls.name,cls.qualname,cls.bases,cls.hasDict,cls.slotNames,cls.subclasses,cls.abstract,cls.collection,d1,x0,x1,x2,x3,x5,h.nsMap cls.ns,?_,.of_isNs (PySem.W.isNs_of_in X c5),PySem.W.nsMap_none_of_in X c5 c6,PySem.W.tail_of_in X c4⟩;rw[at1,hsl2];obtain⟨b1,b2,b3,b4,b5,b6,b7,b8,b9,b10,b11⟩:=cls;have hm2:b3=.ref D::bs':=hmro;have hd2:b11=false:=c3;rw[hm2,hd2]
theorem sM {r:Vl}{n:Int}(h:kg r=some n):r=rB n:=by
 unfold kg at h;split at h
 ·cases h;rfl
 ·cases h
def vO (K:Fg)(B:List Addr)(H₀:Hp)(M₀:List Addr)(lad:Nat->Addr)(Z:Int->Hp->Prop)(E:di)(fl:Fl):Prop:=match fl with
 | .ret r=>match kg r with
  |some n=>∀H M',fj M₀ H₀ M' H->Z n H
  |none=>ur K B H₀ M₀ lad E (.ret r)
 |fl=>ur K B H₀ M₀ lad E fl
theorem vO.ok {K:Fg}{B:List Addr}{H₀:Hp}{M₀:List Addr}{lad:Nat->Addr}{Z:Int->Hp->Prop}{E:di}{fl:Fl}(h:vO K B H₀ M₀ lad Z E fl):ur K B H₀ M₀ lad E fl:=by
 unfold vO at h;cases fl with
 |next ρ=>exact h
 |brk ρ=>exact h
 |cont ρ=>exact h
 |ret r =>
  dsimp only at h;split at h
  ·rename_i n hn;have:=sM hn;subst this;rintro v H ⟨_,⟨z,_⟩|⟨_,a,ds,vs,z,_⟩⟩
   ·cases z
   ·cases z
  ·exact h
noncomputable def uZ (K:Fg)(B:List Addr)(H₀:Hp)(M₀:List Addr)(lad:Nat->Addr)(Z:Int->Hp->Prop)(F:SD):TS:=fun E σ H=>∃ρ fl,SR K B H₀ M₀ lad ρ σ H/\F ρ=some fl/\vO K B H₀ M₀ lad Z E fl
def DZ (X:Cx)(Z:Int->Hp->Prop)(st:Stmt)(F:SD):Prop:=∀B H₀ M₀ lad,PS X st (uZ X.K B H₀ M₀ lad Z F)
def zd (X:Cx)(Z:Int->Hp->Prop)(st:List Stmt)(F:SD):Prop:=∀B H₀ M₀ lad,PSs X st (uZ X.K B H₀ M₀ lad Z F)
section
variable {X:Cx}{Z:Int->Hp->Prop}{st:Stmt}{sts dG:List Stmt}{F G:SD}{pos:Pos}{c:Expr}{t:TD}
theorem zr (h:DS X.nox st F):DZ X Z st F:=fun B H₀ M₀ lad pins s σ H D I ⟨ρ,fl,hR,hf,k⟩ =>
 wpAny_mono (h B H₀ M₀ lad pins s σ H D (I.wish _) ⟨ρ,fl,hR,hf,k.ok⟩) (fun _ _ q=>q.unwish) fun _ _ z=>False.elim z
theorem pV (h:uu X.nox sts F):zd X Z sts F:=fun B H₀ M₀ lad pins s σ H D I ⟨ρ,fl,hR,hf,k⟩ =>
 wpAny_mono (h B H₀ M₀ lad pins s σ H D (I.wish _) ⟨ρ,fl,hR,hf,k.ok⟩) (fun _ _ q=>q.unwish) fun _ _ z=>False.elim z
theorem l9 (h1:DZ X Z st F):zd X Z [st] F:=fun B H₀ M₀ lad=>L2.pss_one (h1 B H₀ M₀ lad)
theorem tX:zd X Z [] dW:=pV c8
theorem jM (h1:DZ X Z st F)(h2:zd X Z dG G):zd X Z (st::dG) (cM F G):=fun B H₀ M₀ lad=>(L2.pss_cons (h1 B H₀ M₀ lad) (h2 B H₀ M₀ lad)).imp fun E σ H zz=>by
 obtain ⟨ρ,fl,hR,hf,k⟩:=zz;unfold cM at hf;cases hx:F ρ with
 |none=>rw[hx] at hf;cases hf
 |some fl1 =>
  rw[hx,aa] at hf;refine⟨ρ,fl1,hR,hx,?_⟩;cases fl1 with
  |next ρ'=>exact fun σ' H' r=>⟨ρ',fl,r,hf,k⟩
  |ret r=>cases hf;exact k
  |brk ρ'=>cases hf;exact k
  |cont ρ'=>cases hf;exact k
theorem xc (hc:DT X.nox c t)(ha:zd X Z sts F)(hb:zd X Z dG G):DZ X Z (.If c sts dG pos) (fW t F G):=fun B H₀ M₀ lad=>(L2.ps_if (L2.PT.nox hc) (ha B H₀ M₀ lad) (hb B H₀ M₀ lad)).imp fun E σ H zz=>by
 obtain ⟨ρ,fl,⟨M,hx,hB,hE⟩,hf,k⟩:=zz;unfold fW at hf;cases ht:t ρ with
 |none=>rw[ht] at hf;cases hf
 |some d =>
  rw[ht,aa] at hf;refine⟨ρ,_,M,lad,d,hE,ht,fun H1 s1=>?_⟩;have hR:SR X.K B H₀ M₀ lad ρ σ H1:=⟨M,hx.trans (.same s1),hB,hE.same s1⟩;cases d with
  |true=>dsimp only at hf ⊢;rw[if_pos rfl] at hf ⊢;exact⟨ρ,fl,hR,hf,k⟩
  |false=>dsimp only at hf ⊢;rw[if_neg Bool.false_ne_true] at hf ⊢;exact⟨ρ,fl,hR,hf,k⟩
theorem rC {x:Str}{C:Addr}{n:Int}{e0:Expr}{es:List Expr}{ta:AD}{np cpos:Pos}{B₀ newId initId:String}{bmB:List Value}(FB:ExcBaseFacts B₀ newId initId bmB)(ha:DA X.nox (e0::es) ta)(hm:X.mg x=some (.ref C))(hq:PySem.W.excIn X.K C bmB newId=true)(hc:X.calm=true)
  (hZ:∀(pins:List (Addr×Obj)) (σ:St) (H:Hp) (s:Shared) (h':Heap) (ea:Addr) (vs:List Value),Inv X pins σ H s->Heap.MadeExcOf s.heap h' ea (.ref C) vs->Z n H->X.xe (.ref ea) { s with heap:=h' })
  (hg:L2.Gl X x:=by rfl) (hdb:(x==("__debug__" : Str))=false:=by decide) (he:starEach (e0::es) X.env=(false,eval e0 X.env)::starEach es X.env:=by rfl) (hpl:(backTo cpos (starEach es X.env)).any (·.1)=false:=by rfl) :
  DZ X Z (.Raise (some (.Call (.Name x np) (e0::es) [] cpos)) none pos) (lB ta n):=fun B H₀ M₀ lad pins s σ H D I zz=>by
 obtain ⟨ρ,fl,⟨M,hx,hB,hE⟩,hf,k⟩:=zz;unfold lB at hf;cases ht:ta ρ with
 |none=>rw[ht] at hf;cases hf
 |some ds =>
  rw[ht,aa] at hf;split at hf
  case isFalse=>cases hf
  case isTrue hds =>
   cases hf;obtain⟨bm,N,nm,q,bs,hd,sn,sub,ab,col,dd,k0,k1,k2,k3,k5,mN,hC,hN,hni,T⟩:=Ae I.mod.kin hq;have hpl':(backTo cpos (starEach (e0::es) X.env)).any (·.1)=false:=by
    rw[he];show (false||(backTo cpos (starEach es X.env)).any (·.1))=false;rw[hpl];rfl
   refine wpAny_Raise_call_subT (mN:=mN) (C:=C) (N:=N) (bm:=bm) (nm:=nm) (q:=q) (bs:=bs) (hdct:=hd) (sn:=sn) (sub:=sub) (ab:=ab) (col:=col) (dd:=dd) (k0:=k0) (k1:=k1) (k2:=k2) (k3:=k3) (k5:=k5) FB (T.hasType FB.hasBase) (I.ok.hd hc) hpl' hni (L2.ld_glob I hg hm ⟨rfl,?_⟩ hdb);have w:=ha cpos pins s σ H (fun vs H1=>cI H H1/\vs.length=ds.length) (I.wish _) ⟨ρ,_,M,lad,ds,hE,ht,fun vs H1 s1 q1=>⟨s1,q1.length.symm⟩⟩;have w2:=wpAny_mono (E':=X.xe) w (fun us s2 z=>z) fun _ _ z=>False.elim z;rw[he] at w2 ⊢;refine Calls.evalArgs_plain (wpAny_mono w2 (fun us s2 ⟨vs,H1,I1,r1,s1,l1⟩=>?_) fun _ _ z=>z);have I2:=I1.unwish;have lu:=r1.length;refine⟨rfl,?_,I2.bk _ _ hC,hN.keeps I2.bk,T.keeps I2.bk,fun h' ea hm'=>hZ pins σ H1 s2 h' ea us I2 hm' (k H1 M (hx.trans (.same s1)))⟩;show us.length<=sizeLine;exact l4 ⋯
end
end DL
namespace DL
open PySem PySem.Spec PySem.W PyProof.Rows PySem.Builtin PySem.Builtin.ObjectAttr PySem.Builtin.Getset_descriptor
theorem vK:splitId "BaseException.__getattribute__" = some ("BaseException", "__getattribute__"):=by decide +kernel
theorem xE:builtinKind "BaseException.__getattribute__" = some .slot:=by decide +kernel
def lW (x D:Addr)(h:Heap):Prop:=∃o,h.get? x=some o/\o.cls=.ref D
theorem lW.type {x D:Addr}{M:Model}{h:Heap}(I:lW x D h):Looks M h (typeOf (.ref x)) (.ref D):=by
 obtain⟨o,h1,h2⟩:=I;rw[<-h2];exact (Looks.ld h1).andThen .now
section
variable {prog:Program}{w:World}{A:Around}{E:Value->Shared->Prop}{s:Shared}{K:Frag}{x D:Addr}
theorem yU {R:Result->Shared->Prop}{tp:Value}(X:K.In s.heap)(I:lW x D s.heap)(hm:mroIn K D (.type "object")=some true)(hr:R (.ok (.ret (.ref D))) s) :
  codeAny (model prog w) A (.call (.builtin "getset_descriptor.__get__") ⟨[.builtin "object.__class__", .ref x,tp],[]⟩) R s:=by
 obtain⟨hp,gg,dd,tt,oo⟩:=s;have T0:=I.type (M:=model prog w);have T1:=looks_mroIn (M:=model prog w) X hm;refine codeAny_call_builtin KF.slot_gs.plain KF.entry_gs ?_;refine KF.slot_gs.check _ _ _ _ _ _ _ _ KF.type_class (KF.args_gs _ _ _) ?_;unfold Builtin.«getset_descriptor.__get__»;unfold descrGet;rw[dga_obj];refine af (ay ?_);unfold descrGetter descrCheckInstance;unfold descrNameAndClass isInstance;simp only[KF.owner_class]
 repeat lk
 refine⟨Code.quiet_builtin _ (by decide +kernel),?_⟩;refine codeAny_builtin KF.entry_class ?_;unfold Builtin.«object.__class__»;unfold shownTypeOf
 repeat lk
 exact hr
theorem vL {M:Model}{n:Value}{Q:Unit->Shared->Prop}(X:K.In s.heap)(I:lW x D s.heap)(hsub:subIn K (.ref D) (.type "BaseException")=some true)(hq:Q () s):wpAny M A (checkBuiltinCall "BaseException.__getattribute__" ⟨[.ref x,n],[]⟩) Q E s:=by
 obtain⟨h,g,d,t,os⟩:=s;have L0:=I.type (M:=M);have L1:Looks M h (isInstance (.ref x) (.type "BaseException")) true:=L0.andThen (looks_subIn X hsub);have ok:=F.args_bexc_ga (.ref x) n;simp only[checkBuiltinCall,xE,vK];refine af (L1.at ?_);simp only[Bool.not_true,Bool.false_eq_true,if_false];cases hsig:Manifest.signature? "BaseException.__getattribute__" with
 |none=>exact ay hq
 |some sig =>
  simp only[argsOk,hsig] at ok;show wpAny M A (Bind.checkArgs "BaseException.__getattribute__" sig ⟨[.ref x,n],[]⟩) Q E _;rw[show Bind.checkArgs "BaseException.__getattribute__" sig ⟨[.ref x,n],[]⟩=pure () from ok];exact ay hq
theorem vh {Q:Option Value->Shared->Prop}(X:K.In s.heap)(I:lW x D s.heap)(hga:findIn K (.ref D) "__getattribute__" = some (some (.builtin "BaseException.__getattribute__")))(hhk:findIn K (.ref D) "__getattr__" = some none)(hsub:subIn K (.ref D) (.type "BaseException")=some true)
  (ha:findIn K (.ref D) "__class__" = some (some (.builtin "object.__class__"))) (hn:specialIn K (.builtin "object.__class__") "__get__" = some (some (.builtin "getset_descriptor.__get__"))) (htk:takesIn K (.builtin "object.__class__")=some true) (hm:mroIn K D (.type "object")=some true)
  (h:Q (some (.ref D)) { s with toks:=s.toks+1 }):wpAny (model prog w) A (getAttr? (.ref x) "__class__") Q E s:=by
 obtain⟨hh,g,d,t,os⟩:=s;have L0:=I.type (M:=model prog w);have L1:=looks_findIn (M:=model prog w) X hga;have L2:=looks_findIn (M:=model prog w) X hhk;have L4:=looks_takesIn (M:=model prog w) X htk;have L3:Looks (model prog w) hh (Builtin.ObjectAttr.find (.ref x) (.ref D) "__class__") (.bind (.builtin "getset_descriptor.__get__") (.builtin "object.__class__")) :=
  (looks_findIn X ha).andThen ((looks_specialIn X hn).andThen ((show Looks (model prog w) hh (Builtin.ObjectAttr.dataDescriptor? (some (.builtin "object.__class__")) (some (.builtin "getset_descriptor.__get__"))) (some (.builtin "getset_descriptor.__get__", .builtin "object.__class__")) from L4.andThen .now).andThen (Looks.tag .now)))
 unfold getAttr? getAttrBy? getAttrBy;refine af (wpAny_mkText (af (wpAny_attempt (bA (af (L0.at (af (L1.at ?_))))))));have hne:(onTheHeap (Value.ref D)&&(Value.builtin "BaseException.__getattribute__" == .builtin "object.__getattribute__"))=false:=by
  rw[show (Value.builtin "BaseException.__getattribute__" == .builtin "object.__getattribute__")=false by decide];exact Bool.and_false _
 dsimp only;rw[if_neg (by rw[hne];exact Bool.false_ne_true)];unfold getAttrByItsOwn hookBefore;rw[if_pos (by rfl)];refine af (L2.at ?_);refine af (wpAny_attempt (bA ?_));unfold callGetattribute;rw[if_neg (by simp)];unfold boundAndCalled;refine af (wpAny_of_eq (F.excAttr_ValueError.ga.bind (.ref x)) ?_);refine wpAny_call (codeAny_call_builtin F.excAttr_ValueError.ga.plain F.entry_bexc_ga (vL X I hsub ?_));unfold Builtin.«object.__getattribute__»;unfold slotArgs;simp only[List.isEmpty_nil,Bool.not_true,Bool.false_eq_true,if_false,bV,bQ,aj,bK];rw[if_neg (by decide)];refine af (ay ?_);dsimp only;unfold Builtin.ObjectAttr.attrName;refine af (ay ?_);refine af (L0.at (af (L3.at ?_)));dsimp only;unfold Builtin.ObjectAttr.bindTo;dsimp only;refine af (bA (wpAny_call (yU (s:=⟨hh,g,d,t+1,os⟩) X I hm (ay ?_))));exact W.handed_on rfl (ay h)
structure iH (K:Frag)(D:Addr):Prop where
 ga:findIn K (.ref D) "__getattribute__" = some (some (.builtin "BaseException.__getattribute__"))
 hk:findIn K (.ref D) "__getattr__" = some none
 sub:subIn K (.ref D) (.type "BaseException")=some true
 ha:findIn K (.ref D) "__class__" = some (some (.builtin "object.__class__"))
 hn:specialIn K (.builtin "object.__class__") "__get__" = some (some (.builtin "getset_descriptor.__get__"))
 tk:takesIn K (.builtin "object.__class__")=some true
 hm:mroIn K D (.type "object")=some true
 ex:∃bmB newId,excIn K D bmB newId=true
theorem iH.look {K:Frag}{D:Addr}(e:iH K D):∃dd cd sl,K.lookup D=some ⟨.type "type", dd,.cls cd,sl⟩:=by
 obtain⟨bmB,newId,q⟩:=e.ex;unfold excIn at q;split at q
 case h_1 d1 cls sls hob=>exact⟨_,_,_,hob⟩
 case h_2=>cases q
theorem iH.some {K:Frag}{D:Addr}(e:iH K D):(clsIn K D).isSome=true:=by
 obtain⟨dd,cd,sl,h⟩:=e.look;unfold clsIn;rw[h];rfl
theorem wO {K:Frag}{x D:Addr}(e:iH K D):KitX K (.ref x) (.ref D) (lW x D) where
 ty:=fun _ _ _ I=>I.type
 it:=fun _ _ X _=>by
  obtain⟨dd,cd,sl,hl⟩:=e.look;intro A' Q' E' s' k q;unfold isType loadHead;exact af (wpAny_loadPart (k _ _ (X _ _ hl)) (ay q))
 ne:=fun h tp dd its n sl X htp=>by
  obtain⟨d2,cd,sl2,hl⟩:=e.look;refine Bool.eq_false_iff.mpr fun q=>?_;have e2:D=tp:=Value.ref.inj (beq_iff_eq.mp q);rw[<-e2,X _ _ hl] at htp;simp at htp
 ca:=fun X I k=>vh X I e.ga e.hk e.sub e.ha e.hn e.tk e.hm k
theorem yC {c:Value}{b:Bool}{Q:Value->Shared->Prop}(e:iH K D)(X:K.In s.heap)(I:lW x D s.heap)(hk:kitOne K (.ref D) c=some b)(h:∀tk,Q (.bool b) { s with toks:=tk }):wpAny (model prog w) A (call (.builtin "isinstance") [.ref x,c]) Q E s :=
 kia_one (wO e) X I hk (by intro q;cases q) h
end
end DL
namespace DL
open PySem PySem.Spec PySem.SeqAt
open L2 (V Hp St HO VK TE TT TA TS TI TG Cx Inv PE PT PA PS PSs PI PG dN dU cI cZ cA cq cg cH cP EP TP AP SP di It ff)
noncomputable def AX (K:Fg)(F:FD)(cls:Int->Addr):L2.Sp:=fun vs H Q E=>∃ds O r,Rs K H O ds vs/\(∀a∈O,∃u,H a=some (oW u))/\F ds=some r ∧
 (match kg r with|some n=>∀H',cI H H'->E (.ref (cls n)) none H'|none=>∀v H',cI H H'->lV K H O H' r v->Q v H')
theorem w8 {P:Program}{w:World}{K:Fg}{mg:Str->Option Value}{base:Heap}{x qual:Str}{st:Stmt}{f:Addr}{fd:FuncData}{N ps:List Str}{k:Nat}{b:SD}{cls:Int->Addr}(F:L2.Fun K x qual st f fd)(S:L2.FnScope N ps (L2.defScope st))
  (hb:∀(cdv:Value) (A:Around) (outer:List Env) (s:Shared) (H:Hp) (E:L2.XK),L2.Room k (A.deeper (PyProof.Rows.envOfC qual (L2.defScope st) s.heap.objs.size f cdv))->zd (L2.cxOf (L2.CX1 P w) P w K mg base N qual (L2.defScope st) f cdv A outer s H E) (fun n H'=>E (.ref (cls n)) none H') (L2.defBody st) b) :
  L2.FnOk P w K mg base (L2.CX1 P w) (k+1) f fd ps (AX K (jZ ps.length (N.length-ps.length) b) cls):=by
 obtain⟨oc,od,kV,doc,pm,an,cdv,ct,osl,rfl,lk,hcd⟩:=F.ex;refine L2.fn_of lk hcd S (fun vs H Q E zz=>by obtain ⟨ds,B,r,q,_,hF,_⟩:=zz; rw[<-q.length];exact l7 hF) fun A outer s H vs Q E hr zz=>?_;obtain ⟨ds,B,r,q,tr,hF,kk⟩:=zz;have hl:=l7 hF;refine⟨_,hb cdv A outer s H E hr B H [] (fun _=>f),?_⟩;unfold jZ at hF;rw[if_pos hl] at hF;cases hfl:b (ds.map (fun d=>some (d,false))++bD (N.length-ps.length) none) with
 |none=>rw[hfl] at hF;cases hF
 |some fl =>
  rw[hfl,aa] at hF;have same:∀{M':List Addr}{H':Hp},fj [] H M' H'->cI H H':=fun x b o e=>x.keep b o (fun z=>(nomatch z)) e;refine⟨_,fl,⟨[],.refl [] H,(fun _ z=>nomatch z),?_⟩,hfl,?_⟩
  ·have z:=qE (m:=N.length-ps.length) q tr (fun _=>f);unfold L2.start;rw[<-q.length,hl];exact z
  ·cases fl with
   |next ρ =>
    cases hF;exact fun σ H' ⟨M',x,_,_⟩=>kk _ H' (same x) (.of .none)
   |ret r' =>
    cases hF;unfold vO;dsimp only;split
    ·rename_i n hn;rw[hn] at kk;exact fun H' M' x=>kk H' (same x)
    ·rename_i hn;rw[hn] at kk;refine fun v H' ⟨⟨M',x⟩,q'⟩=>kk v H' (same x) ?_;rcases q' with q'|⟨e,a,es,us,e1,e2,e3,e4,q'⟩
     ·exact .inl q'
     ·exact .inr ⟨e,a,es,us,e1,e2,e3.elim (fun z=>(nomatch z)) id,e4,q'⟩
   |brk ρ=>cases hF
   |cont ρ=>cases hF
structure rQ (P:Program)(w:World)(K:Fg)(mg:Str->Option Value)(base:Heap)(k:Nat)(x:Str)(ps:List Str)(F:FD)(cls:Int->Addr):Prop where
 ex:∃(fa:Addr) (fd:FuncData),L2.FnOk P w K mg base (L2.CX1 P w) k fa fd ps (AX K F cls)/\mg x=some (.ref fa)/\PySem.W.keepIn K (.ref fa)=true/\L2.Binds K fd ps []
noncomputable def excAt (ea:Addr)(oe:Obj):Heap->Prop:=fun h=>h.get? ea=some oe
noncomputable def BO (K:Fg)(C:Addr):List V->Hp->VK->Prop:=fun vs H Q=>∃ea oe cv c b,vs=[.ref ea,cv]/\cP cv c/\(∀u,cP cv u->u=c)/\H ea=some (.ext (excAt ea oe))/\oe.cls=.ref C/\PySem.W.kitOne K (.ref C) c=some b/\Q (.bl b) H
theorem rL {X:Cx}{C:Addr}(e:iH X.K C):L2.CallR X (.builtin "isinstance") (BO X.K C):=by
 intro pins s σ H xs us Q I r h;obtain⟨ea,oe,cv,c,b,rfl,rc,uq,hH,ho,hk,q⟩:=h;cases r with
 |@cons _ u1 _ r2 h1 h2 =>
  obtain⟨u2,rfl,h3⟩:=cH.one h2;cases (show u1=Value.ref ea from h1);have z:=uq u2 h3;subst z;have ok:=(I.hok ea _ hH).1;exact yC e I.kIn ⟨oe,ok,ho⟩ hk fun tk=>⟨.bl b,H,I.tok tk,rfl,q⟩
end DL
namespace L2
open PySem PySem.Spec PyProof.Rows
section
variable {X:Cx}{pins:List (Addr×Obj)}{σ:St}{H:Hp}{s:Shared}
noncomputable abbrev Cx.held (X:Cx)(ea:Addr)(E:Value->Shared->Prop):Cx:={ X with A:=X.A.mark (some (.ref ea)),calm:=false,xe:=E }
theorem Inv.held (I:Inv X pins σ H s)(ea:Addr)(E:Value->Shared->Prop):Inv (X.held ea E) pins σ H s :=
 ⟨⟨I.ok.mod,I.ok.kind,I.ok.glob,I.ok.blt,I.ok.above,I.ok.inj,I.ok.has,I.ok.cab,(fun z=>by cases z),I.ok.frames,I.ok.stk,I.ok.exf,I.ok.bs,I.ok.bsz,I.ok.noex,I.ok.exfs,I.ok.funs,I.ok.frf⟩,I.os,I.bare,I.base,I.loc,I.cell,I.free,I.freeC,I.pin,I.hok,I.len⟩
theorem Inv.unheld {ea:Addr}{E:Value->Shared->Prop}(ok:X.Ok)(I:Inv (X.held ea E) pins σ H s):Inv X pins σ H s:=⟨ok,I.os,I.bare,I.base,I.loc,I.cell,I.free,I.freeC,I.pin,I.hok,I.len⟩
theorem Inv.track (I:Inv X pins σ H s){ea:Addr}{oe:Obj}(he:s.heap.get? ea=some oe)(hn:H ea=none)(h0:X.s₀.heap.get? ea=none)(hl:ea≠X.env.locals)(hc:∀x c,X.env.cells.lookup x=some c->c≠ea)(hp:∀p∈X.pn++pins,p.1≠ea) :
  Inv X pins σ (cZ H ea (.ext (DL.excAt ea oe))) s:=by
 have ne:∀b o,H b=some o->b≠ea:=fun b o e=>cg e hn;have ne0:∀b o,X.s₀.heap.get? b=some o->b≠ea:=fun b o e z=>by subst z;rw[h0] at e;cases e
 refine⟨I.ok,I.os,I.bare,⟨I.base.keep,I.base.slot,fun b o q n x=>by rw[cq (ne0 b o q)];exact I.base.free b o q n x,I.base.there,fun b xs q=>?_,fun b o u q=>?_,fun b ps q=>?_⟩,I.loc,I.cell,by rw[cq (Ne.symm hl)];exact I.free,fun x c e=>by rw[cq (hc x c e)];exact I.freeC x c e,fun p q=>?_,fun a o e=>?_,I.len⟩
 ·have:=I.base.tups b xs q;rw[cq (ne b _ this)];exact this
 ·have:=I.base.frzs b o u q;rw[cq (ne b _ this)];exact this
 ·obtain⟨m,e⟩:=I.base.tbls b ps q;exact⟨m,by rw[cq (ne b _ e)];exact e⟩
 ·obtain⟨p1,p2,p3⟩:=I.pin p q;exact⟨p1,by rw[cq (hp p q)];exact p2,p3⟩
 ·by_cases z:a=ea
  ·subst z;rw[cA] at e;cases e;exact⟨he,⟨oe,he⟩,fun h1 h2 k q=>q _ k⟩
  ·rw[cq z] at e;exact (I.hok a o e).stay (fun b u _ q=>q) (fun b q=>by rw[cq (ne b _ q)];exact q) fun b xs q=>by rw[cq (ne b _ q)];exact q
theorem _root_.List.Nodup.index {α:Type}:∀{l:List α}{i j:Nat}{x:α},l.Nodup->l[i]?=some x->l[j]?=some x->i=j
 |[],i,j,x,_,h,_=>by simp at h
 |a::l,0,0,x,_,_,_=>rfl
 | a::l,0,j+1,x,n,h,k=>by
  rw[List.getElem?_cons_zero] at h;cases h;rw[bT] at k;exact absurd (aQ k) (aW.mp n).1
 | a::l,i+1,0,x,n,h,k=>by
  rw[List.getElem?_cons_zero] at k;cases k;rw[bT] at h;exact absurd (aQ h) (aW.mp n).1
 | a::l,i+1,j+1,x,n,h,k=>by
  rw[bT] at h k;rw[List.Nodup.index (aW.mp n).2 h k]
theorem Inv.gone (I:Inv X pins σ H s)(hN:X.N.Nodup){n:Str}{ie:Nat}(hi:X.N[ie]?=some n){m:Str->Option Value}(hv:∀(i:Nat) (x:Str) (v:V),X.N[i]?=some x->σ[i]?=some (some v)->Vis X.env.scope x->∃u,cP v u/\Bp X.env s.heap m x u){h':Heap}{v:Option Value}{tk:Nat}
  (hn:h'.Ns X.env.locals (fun x=>if x=n then v else m x)) (hs:Heap.SameBut X.env.locals s.heap h'):Inv X pins (σ.set ie none) H { s with heap:=h',toks:=tk }:=by
 have same:∀b,b≠X.env.locals->h'.get? b=s.heap.get? b:=hs.2;have ne0:∀b o,X.s₀.heap.get? b=some o->b≠X.env.locals:=fun b o e z=>by
  subst z;exact absurd (aH (aF e) I.ok.above) (aY _)
 have tr:∀b o,H b=some o->b≠X.env.locals:=fun b o e=>cg e I.free;refine⟨I.ok,I.os,I.bare,⟨fun b o q n1 n2 n3=>(same b (ne0 b o q)).trans (I.base.keep b o q n1 n2 n3),fun b o q n1 n2 n3=>?_,I.base.free,fun b o q x=>?_,I.base.tups,I.base.frzs,I.base.tbls⟩,⟨_,hn,fun i x u h1 h2 h3=>?_⟩,fun x c e=>?_,I.free,I.freeC,fun p q=>?_,fun a o e=>?_,by rw[aP];exact I.len⟩
 ·obtain⟨sl,e⟩:=I.base.slot b o q n1 n2 n3;exact⟨sl,(same b (ne0 b o q)).trans e⟩
 ·obtain⟨o',e⟩:=I.base.there b o q x;exact⟨o',(same b (ne0 b o q)).trans e⟩
 ·have hne:ie≠i:=fun z=>by
   subst z;by_cases hl:ie<σ.length
   ·rw[aq hl] at h2;cases h2
   ·rw[List.getElem?_eq_none (by rw[aP];omega)] at h2;cases h2
  rw[ae hne] at h2;obtain⟨w,r,l⟩:=hv i x u h1 h2 h3;have hx:x≠n:=fun z=>by
   subst z;exact hne (List.Nodup.index hN hi h1)
  refine⟨w,r,?_⟩;rcases l with ⟨l1,l2⟩|⟨l1,c,l2,l3⟩
  ·exact .inl ⟨l1,(if_neg hx).trans l2⟩
  ·obtain⟨o,ho,hd⟩:=l3;exact .inr ⟨l1,c,l2,o,(same c (I.cne x c l2)).trans ho,hd⟩
 ·obtain⟨u,o,ho,hd⟩:=I.cell x c e;exact⟨u,o,(same c (I.cne x c e)).trans ho,hd⟩
 ·obtain⟨p1,p2,p3,p4⟩:=I.pin p q;exact⟨(same _ p3).trans p1,p2,p3,p4⟩
 ·exact (I.hok a o e).stay (fun b u hb q=>(same b (by
   rcases hb with z|z
   ·subst z;exact tr _ _ e
   ·exact tr _ _ z)).trans q) (fun _ q=>q) fun _ _ q=>q
end
end L2
namespace DL
open PySem PySem.Spec PySem.SeqAt
open L2 (V Hp St HO VK TE TT TA TS TI TG Cx Inv PE PT PA PS PSs PI PG dN dU cI cZ cA cq cg cH cP EP TP AP SP di It ff)
def Holds (C:Addr)(i:Nat)(σ:St)(H:Hp):Prop:=∃ea oe,σ[i]?=some (some (.ref ea))/\H ea=some (.ext (excAt ea oe))/\oe.cls=.ref C
noncomputable def AM (C:Addr)(i:Nat)(b:Bool):TE:=fun σ H Q=>Holds C i σ H/\Q (.bl b) H
section
variable {X:Cx}{C Cc:Addr}{i:Nat}{b:Bool}{en cn:Str}{p p1 p2 pos:Pos}{T:String}
theorem tH (e:iH X.K C)(hm:X.mg "isinstance" = none)(hmc:X.mg cn=some (.ref Cc))(hk:PySem.W.kitOne X.K (.ref C) (.ref Cc)=some b)(hN:X.N[i]?=some en:=by rfl)(hv:L2.Vis X.env.scope en:=by first|exact Or.inl rfl|exact Or.inr (Or.inl rfl))(hg:L2.Gl X "isinstance" := by rfl)(hgc:L2.Gl X cn:=by rfl)
  (hd1:(en==("__debug__" : Str))=false:=by decide) (hd2:(en==("__classdict__" : Str))=false:=by decide) (hd3:(cn==("__debug__" : Str))=false:=by decide)
  (he:starEach [.Name en p1,.Name cn p2] X.env=(false,eval (.Name en p1) X.env)::starEach [.Name cn p2] X.env:=by rfl) (he2:starEach [.Name cn p2] X.env=(false,eval (.Name cn p2) X.env)::starEach [] X.env:=by rfl) (hpl:(backTo pos (starEach [.Name cn p2] X.env)).any (·.1)=false:=by rfl) :
  PE X (.Call (.Name "isinstance" p) [.Name en p1,.Name cn p2] [] pos) (AM C i b) :=
 (L2.pe_callB (rL e) hg hm PyProof.Rows.boot_isinstance (L2.pa_cons (L2.pe_var hN hv hd1 hd2) (L2.pa_cons (L2.pe_glob (v:=.ref Cc) hgc hmc rfl hd3) L2.pa_nil he2) he) (by decide) (by decide) he hpl).imp fun σ H Q ⟨⟨ea,oe,h1,h2,h3⟩,q⟩ =>
  ⟨_,h1,ea,oe,.ref Cc,.ref Cc,b,rfl,rfl,fun u r=>r,h2,h3,hk,q⟩
theorem yc (e:iH X.K C)(hm:X.mg "isinstance" = none)(hmc:X.mg cn=none)(hvc:bootBuiltins cn=some (.type T))(hk:PySem.W.kitOne X.K (.ref C) (.type T)=some b)(hN:X.N[i]?=some en:=by rfl)(hv:L2.Vis X.env.scope en:=by first|exact Or.inl rfl|exact Or.inr (Or.inl rfl))(hg:L2.Gl X "isinstance" := by rfl)(hgc:L2.Gl X cn:=by rfl)
  (hd1:(en==("__debug__" : Str))=false:=by decide) (hd2:(en==("__classdict__" : Str))=false:=by decide) (hd3:(cn==("__debug__" : Str))=false:=by decide) (hn:cn ≠ "__name__" := by decide)
  (he:starEach [.Name en p1,.Name cn p2] X.env=(false,eval (.Name en p1) X.env)::starEach [.Name cn p2] X.env:=by rfl) (he2:starEach [.Name cn p2] X.env=(false,eval (.Name cn p2) X.env)::starEach [] X.env:=by rfl) (hpl:(backTo pos (starEach [.Name cn p2] X.env)).any (·.1)=false:=by rfl) :
  PE X (.Call (.Name "isinstance" p) [.Name en p1,.Name cn p2] [] pos) (AM C i b) :=
 (L2.pe_callB (rL e) hg hm PyProof.Rows.boot_isinstance (L2.pa_cons (L2.pe_var hN hv hd1 hd2) (L2.pa_cons (L2.pe_bltn (v:=.ty T) hgc hmc hvc rfl hn hd3) L2.pa_nil he2) he) (by decide) (by decide) he hpl).imp fun σ H Q ⟨⟨ea,oe,h1,h2,h3⟩,q⟩ =>
  ⟨_,h1,ea,oe,.ty T,.type T,b,rfl,rfl,fun u r=>r,h2,h3,hk,q⟩
end
noncomputable def uH (K:Fg)(C:Addr)(i:Nat)(r:Vl):TE:=fun σ H Q=>Holds C i σ H/\∀v H',cI H H'->(∀O,lV K H O H' r v)->Q v H'
section
variable {X:Cx}{C:Addr}{i:Nat}{b1 b2 b3:Bool}{e1 e2 e3:Expr}{kk:Nat}{pos:Pos}
theorem A7 (h1:PE X e1 (AM C i b1))(h2:PE X e2 (AM C i b2))(h3:PE X e3 (AM C i b3))(he1:starEach [e1,e2,e3] X.env=(false,eval e1 X.env)::starEach [e2,e3] X.env:=by rfl)(he2:starEach [e2,e3] X.env=(false,eval e2 X.env)::starEach [e3] X.env:=by rfl)(he3:starEach [e3] X.env=(false,eval e3 X.env)::starEach [] X.env:=by rfl) :
  PE X (.List [e1,e2,e3] pos) (uH X.K C i (.list [.bool b1,.bool b2,.bool b3],true)) :=
 (L2.pe_lst (L2.pa_cons h1 (L2.pa_cons h2 (L2.pa_cons h3 L2.pa_nil he3) he2) he1)).imp fun σ H Q (h:uH X.K C i _ σ H Q)=>by
  obtain⟨hh,q⟩:=h;refine⟨hh,hh,hh,Cs,fun a ha=>?_⟩;have s2:cI H (cZ H a (.lst [.bl b1,.bl b2,.bl b3])):=fun b o e=>by rw[cq (cg e ha)];exact e
  exact q _ _ s2 fun O=>(.inr ⟨rfl,a,_,_,rfl,rfl,ha,cA,.cons (.bool _) (.cons (.bool _) (.cons (.bool _) .nil))⟩)
end
end DL
namespace DL
open PySem PySem.Spec PySem.SeqAt
open L2 (V Hp St HO VK TE TT TA TS TI TG Cx Inv PE PT PA PS PSs PI PG dN dU cI cZ cA cq cg cH cP EP TP AP SP di It ff)
section
variable {X:Cx}{pins:List (Addr×Obj)}{σ:St}{H:Hp}{s:Shared}
theorem vA {C Ch:Addr}{cn en:Str}{hx:Expr}{np hp hrp:Pos}{ie:Nat}{r':Vl}{D:di}{E:L2.XK}{e:Value}{s':Shared}(I:Inv X pins σ H s)(hst:X.stack=X.env::X.outer)(hf:X.env.frame=some X.env.locals)(hex:X.ex=[])(hfn:∀x,X.fn x=true)(hN:X.N.Nodup)(hi:X.N[ie]?=some en)
  (hloc:X.env.scope.names.lookup en=some .local) (c:L2.CX1 X.prog X.w X.stack H s E e s') (hE:∀cv dx H',E cv dx H'->cv=.ref C/\cI H H') (hmc:X.mg cn=some (.ref Ch)) (hgc:L2.Gl X cn) (hdc:(cn==("__debug__" : Str))=false) (hm1:PySem.W.exmOne X.K (.ref C) (.ref Ch)=some true)
  (HP:∀(ea:Addr) (E2:Value->Shared->Prop),PE (X.held ea E2) hx (uH X.K C ie r')) (k:∀v H' H2,cI H H2->cI H2 H'->(∀O,lV X.K H2 O H' r' v)->D.rt v H') :
  wpAny (model X.prog X.w) X.A (noteFrame e X.env) (fun _ s₂=>wpAny (model X.prog X.w) X.A (setFlight e none) (fun _ s₃=>wpAny (model X.prog X.w) X.A (handleBy e X.env [.ExceptHandler (some (.Name cn np)) (some en) [.Return (some hx) hrp] hp]) (SP X pins D) X.xe s₃) X.xe s₂) X.xe s':=by
 obtain⟨ea,C',t,B,H',rfl,os,bare,un,ok,fl,hB,hT,hE'⟩:=c;obtain⟨hc,hsame⟩:=hE _ _ _ hE';cases hc;have hfr:X.A.frames=some (X.env::X.outer):=by rw[<-hst];exact I.ok.frames
 rw[hst] at fl;refine wpAny_looks_onW hfr hf fl fun h4 held4 up4=>wpAny_landsW held4 fun h5 fl5 up5=>?_;have up25:=up4.trans up5;have I5:Inv X pins σ H' { s' with heap:=h5 }:=I.caught hst hf hex hfn os bare un ok hB hT fl5.1 up25;have ty5:lW ea C h5:=fl5.there;refine wpAny_handleBy_cons (codeAny_handlers_test (L2.ld_glob (I5.held ea X.xe) hgc hmc ?_ hdc)) (by intro q;cases q);refine (PySem.W.exm_one I5.kIn ty5.type hm1).here ?_;refine codeAny_handlers_suite_as ?_;refine PyProof.Rows.lands_againW fl5 fun h6 fl6 up6=>?_;have I6:Inv X pins σ H' { s' with heap:=h6 }:=I.caught hst hf hex hfn os bare un ok hB hT fl6.1 (up25.trans up6);obtain⟨oe,he,hoc⟩:=fl6.there;have no:∀b:Addr,b∉([]:List Addr):=fun b z=>by cases z
 have fld:∃vs,oe.data=.fields vs:=by
  obtain⟨oe2,vs,_,_,_,g1,_,g2,_⟩:=fl6.2.2.2;rw[he] at g1;cases g1;exact⟨vs,g2⟩
 have notF:ea∉L2.frs (X.env::X.outer):=fun hm=>by
  obtain⟨_,o,ho,hd⟩:=fl6.2.2.1.mem hm;rw[he] at ho;cases ho;obtain⟨vs,hv⟩:=fld;exact hd vs hv
 have old:∀b o,s.heap.get? b=some o->b≠ea:=fun b o q z=>by
  subst z;obtain⟨o2,e2⟩:=un.there b o q (no b);have e3:=hB b o o2 q e2 (by rw[hst];exact notF);rw[fl6.2.1] at e3;cases e3
 have hn:H' ea=none:=by
  cases q:H' ea with
  |none=>rfl
  |some u =>
   obtain⟨o2,e2⟩:=(ok ea u q).there;have e3:=hT ea o2 e2 (by rw[q];simp);rw[fl6.2.1] at e3;cases e3
 have h0:X.s₀.heap.get? ea=none:=by
  cases q:X.s₀.heap.get? ea with
  |none=>rfl
  |some o =>
   obtain⟨o1,e1⟩:=I.base.there ea o q (by rw[hex];exact no ea);exact absurd rfl (old ea o1 e1)
 have hl:ea≠X.env.locals:=fun z=>by
  obtain⟨m,⟨o,_,_,ho,_⟩,_⟩:=I.loc;exact old _ o ho z.symm
 have hcl:∀x c,X.env.cells.lookup x=some c->c≠ea:=fun x c q=>by
  obtain⟨v,o,ho,_⟩:=I.cell x c q;exact old c o ho
 have I7:=I6.track he hn h0 hl hcl fun p q=>old _ _ (I.pin p q).1;have hs7:cI H (cZ H' ea (.ext (excAt ea oe))):=fun b o q=>by
  have:=hsame b o q;rw[cq (cg this hn)];exact this
 refine L2.store_ok I7 hN hi (.inl hloc) (v:=.ref ea) rfl (fun s7 I8=>?_) (.inr hloc);have hie:ie<σ.length:=by rw[I.len];exact (aE.mp hi).1
 refine wpAny_mono (L2.pss_one (L2.ps_ret (HP ea _)) pins s7 _ _ { nx:=fun _ _=>False,rt:=fun v H9=>cI (cZ H' ea (.ext (excAt ea oe))) H9/\∀O,lV X.K (cZ H' ea (.ext (excAt ea oe))) O H9 r' v } (I8.held ea _) ⟨⟨ea,oe,aq hie,cA,hoc⟩,fun v H9 s9 q9=>⟨s9,q9⟩⟩) (fun f s8 q=>?_) fun _ _ z=>z;cases f with
 |next=>obtain⟨_,_,_,z⟩:=q;exact z.elim
 |brk=>obtain⟨_,_,_,z⟩:=q;exact z.elim
 |cont=>obtain⟨_,_,_,z⟩:=q;exact z.elim
 |ret u =>
  obtain⟨v,σ',H9,J,rv,s9,q9⟩:=q;have J':=J.unheld I.ok;obtain⟨m,hm,hv⟩:=J'.loc;refine wpAny_nameGoes_keeps (show X.env.kindOf en=some .local from hloc) hm (by rw[I.ok.kind];rfl) fun h' w hn' hs'=>?_;exact⟨v,_,H9,J'.gone hN hi hv hn' hs',rv,k v H9 _ hs7 s9 q9⟩
theorem rZ {k:Nat}{f:Addr}{fd:FuncData}{ps:List Str}{sp:L2.Sp}{us:List Value}{vs:List V}{Q:VK}{E:L2.XK}{EE:Value->Shared->Prop}(F:L2.FnOk X.prog X.w X.K X.mg X.base (L2.CX1 X.prog X.w) k f fd ps sp)(hr:L2.Room k X.A)(hb:L2.Binds X.K fd ps [])(I:Inv X pins σ H s)(r:cH vs us)(h:sp vs H Q E)
  (hx:∀e s',L2.CX1 X.prog X.w X.stack H s E e s'->EE e s'):wpAny (model X.prog X.w) X.A (call (.ref f) us) (EP X pins σ Q) EE s:=by
 have lu:us.length=ps.length:=by rw[<-r.length];exact F.len _ _ _ _ h
 have hb':=hb s us I.kIn (by rw[aT];exact lu);rw[aT] at hb';have go:=F.run X.A X.stack s H ⟨us,[]⟩ us vs Q E hr I.env0 hb' r h;refine wpAny_call (codeAny_mono go fun res s' q=>?_)
 match res,q with
 |.error e,q=>exact hx e s' q
 |.ok (.ret u),q=>exact I.after q
theorem Ai {F:FD}{cls:Int->Addr}{C Ch:Addr}{t:AD}{r':Vl}{fx cn en:Str}{e0 hx:Expr}{es:List Expr}{p cp rp np hrp hp tp:Pos}{kf j ie:Nat}{ps:List Str}(G:rQ X.prog X.w X.K X.mg X.base kf fx ps F cls)(hcls:∀n,cls n=C)(hr:L2.Room j X.A)(ha:DA X (e0::es) t)(hxe:∀e s,X.xe e s->False)
  (hmc:X.mg cn=some (.ref Ch)) (hm1:PySem.W.exmOne X.K (.ref C) (.ref Ch)=some true) (HP:∀(ea:Addr) (E2:Value->Shared->Prop),PE (X.held ea E2) hx (uH X.K C ie r')) (hN:X.N.Nodup) (hst:X.stack=X.env::X.outer:=by rfl) (hf:X.env.frame=some X.env.locals:=by rfl) (hex:X.ex=[]:=by rfl) (hfn:∀x,X.fn x=true:=by intro _;rfl)
  (hi:X.N[ie]?=some en:=by rfl) (hloc:X.env.scope.names.lookup en=some .local:=by rfl) (hj:kf<=j:=by decide) (hg:L2.Gl X fx:=by rfl) (hgc:L2.Gl X cn:=by rfl) (hdb:(fx==("__debug__" : Str))=false:=by decide) (hdc:(cn==("__debug__" : Str))=false:=by decide)
  (he:starEach (e0::es) X.env=(false,eval e0 X.env)::starEach es X.env:=by rfl) (hpl:(backTo cp (starEach es X.env)).any (·.1)=false:=by rfl) :
  DS X (.Try [.Return (some (.Call (.Name fx p) (e0::es) [] cp)) rp] [.ExceptHandler (some (.Name cn np)) (some en) [.Return (some hx) hrp] hp] [] [] tp) (xU F t r'):=fun B H₀ M₀ lad pins s σ H D I zz=>by
 obtain ⟨ρ,fl,⟨M,hxx,hB,hE⟩,hfl,k⟩:=zz;obtain⟨fa,fd,G1,G2,G3,G4⟩:=G.ex;unfold xU at hfl;cases ht:t ρ with
 |none=>rw[ht] at hfl;cases hfl
 |some ds =>
  rw[ht,aa] at hfl;cases hF:F ds with
  |none=>rw[hF] at hfl;cases hfl
  |some r =>
   rw[hF,aa] at hfl;refine wpAny_Try_except (wpAny_execs_cons (wpAny_Return_some (wpAny_Call_Name_kw (L2.ld_glob I hg G2 ?_ hdb))));have w:=ha cp pins s σ H (fun vs H1=>cI H H1/\Rs X.K H1 (M++B) ds vs) I ⟨ρ,_,M,lad,ds,hE,ht,fun vs H1 s1 q1=>⟨s1,q1⟩⟩;refine PySem.W.callWith_K (h₀:=X.base) I.ok.mod.kin G3 (wpAny_mono w (fun us s1 ⟨vs,H1,I1,r1,s1',q1⟩=>⟨I1.kIn,?_⟩) fun e s' z=>(hxe e s' z).elim) he hpl;have hE1:=hE.same s1';cases hn:kg r with
   |none =>
    rw[hn] at hfl;cases hfl;refine wpAny_mono (rZ (Q:=fun v H2=>cI H1 H2/\lV X.K H1 (M++B) H2 r v) (E:=fun _ _ _=>False) (EE:=fun _ _=>False) G1 (hr.mono hj) G4 I1 r1 ⟨ds,M++B,r,q1,hE1.tr,hF,by rw[hn];exact fun v H' s2 q2=>⟨s2,q2⟩⟩ fun e s' zz=>by obtain⟨_,_,_,_,_,_,_,_,_,_,_,_,_,z⟩:=zz;exact z) (fun u s2 ⟨v,H2,I2,rv,s2',q2⟩=>?_) fun _ _ z=>z.elim;refine⟨v,σ,H2,I2,rv,k v H2 ⟨⟨M,hxx.trans (.same (s1'.trans s2'))⟩,?_⟩⟩;rcases q2 with ⟨e,q⟩|⟨e,a,es',vs',e1,e2,e3,e4,q⟩
    ·exact .inl ⟨e,q.ext (.less fun b hb=>av _ hb)⟩
    ·refine .inr ⟨e,a,es',vs',e1,e2,.inr ?_,e4,q.ext (.less fun b hb=>(aw.mp hb).elim (fun z=>z▸aC) fun z=>ao _ (av _ z))⟩;cases e5:H₀ a with
     |none=>rfl
     |some o=>exact absurd (s1'.free e3) (hxx.there a (by rw[e5];simp))
   |some n =>
    rw[hn] at hfl;cases hfl;refine wpAny_mono (rZ (Q:=fun _ _=>False) (E:=fun cv _ H'=>cv=.ref C/\cI H1 H') G1 (hr.mono hj) G4 I1 r1 ⟨ds,M++B,r,q1,hE1.tr,hF,by rw[hn];exact fun H' s2=>⟨by rw[hcls],s2⟩⟩ fun e s' z=>vA (E:=fun cv _ H'=>cv=.ref C/\cI H1 H') (D:=D) (np:=np) (hp:=hp) (hrp:=hrp) I1 hst hf hex hfn hN hi hloc z (fun cv dx H' q=>q) hmc hgc hdc hm1 HP ?_) (fun u s2 ⟨v,H2,I2,rv,z⟩=>z.elim) fun _ _ z=>z;intro v H' H2 sa sb q2;have q3:=q2 B;refine k v H' ⟨⟨M,hxx.trans (.same ((s1'.trans sa).trans sb))⟩,?_⟩;rcases q3 with ⟨e,q⟩|⟨e,a,es',vs',e1,e2,e3,e4,q⟩
    ·exact .inl ⟨e,q⟩
    ·refine .inr ⟨e,a,es',vs',e1,e2,.inr ?_,e4,q⟩;cases e5:H₀ a with
     |none=>rfl
     |some o=>exact absurd ((s1'.trans sa).free e3) (hxx.there a (by rw[e5];simp))
end
end DL
namespace DL
open PySem PySem.Spec PySem.W
abbrev wJ:List Value:=[.type "ValueError", .type "Exception", .type "BaseException", .type "object"]
structure gk (K:Fg)(mg:Str->Option Value)(x:Str)(C:Addr):Prop where
 at_:mg x=some (.ref C)
 ex:excIn K C wJ "ValueError.__new__" = true
 cl:iH K C
 ty:typeIn K (.ref C)=some (.type "type")
theorem sP {K:Fg}{mg:Str->Option Value}{h:Heap}{x:Str}{C:Addr}(X:K.In h)(G:h.Ns mainGlobals mg)(a:nsIn K mainGlobals x=some (some (.ref C)))(q:excIn K C wJ "ValueError.__new__" = true)(t:typeIn K (.ref C)=some (.type "type"))
  (ga:findIn K (.ref C) "__getattribute__" = some (some (.builtin "BaseException.__getattribute__"))) (hk:findIn K (.ref C) "__getattr__" = some none) (sub:subIn K (.ref C) (.type "BaseException")=some true) (ha:findIn K (.ref C) "__class__" = some (some (.builtin "object.__class__")))
  (hn:specialIn K (.builtin "object.__class__") "__get__" = some (some (.builtin "getset_descriptor.__get__"))) (tk:takesIn K (.builtin "object.__class__")=some true) (hm:mroIn K C (.type "object")=some true):gk K mg x C :=
 ⟨mg_of X G a,q,⟨ga,hk,sub,ha,hn,tk,hm,⟨_,_,q⟩⟩,t⟩
section
variable {K:Fg}{mg:Str->Option Value}{x y:Str}{C Cy:Addr}{b:Bool}
theorem kI (e:gk K mg y Cy)(hs:subIn K (.ref C) (.ref Cy)=some b):kitCls K (.ref C) (.ref Cy)=some b:=by
 unfold kitCls;dsimp only;rw[if_pos (by rw[e.cl.some,e.ty];rfl)];exact hs
theorem yG (e:gk K mg y Cy)(hs:subIn K (.ref C) (.ref Cy)=some true):exmOne K (.ref C) (.ref Cy)=some true:=by
 unfold exmOne;rw[if_pos (by rw[e.cl.sub];rfl)];exact kI e hs
theorem wQ:kitOne K (.ref C) (.ref C)=some true:=by
 unfold kitOne;rw[if_pos (by simp)]
theorem yu (e:gk K mg y Cy)(hs:subIn K (.ref C) (.ref Cy)=some b)(hne:b=false->C≠Cy):kitOne K (.ref C) (.ref Cy)=some b:=by
 unfold kitOne;cases b with
 |true =>
  split
  ·rfl
  ·exact kI e hs
 |false =>
  rw[if_neg (by simpa using hne rfl)];exact kI e hs
theorem yt (hs:subIn K (.ref C) (.type "ValueError")=some true):kitOne K (.ref C) (.type "ValueError")=some true:=by
 unfold kitOne;rw[if_neg (by simp)];unfold kitCls;dsimp only;rw[if_pos (by decide +kernel)];exact hs
theorem nO:bootBuiltins "ValueError" = some (.type "ValueError"):=by decide +kernel
end
end DL
namespace DL
open PySem PySem.Spec PySem.SeqAt
mutual
noncomputable def yy:D->Nat->Bool
 |.int _,_=>true
 | .tuple ds,n=>match n with
  |0=>false
  |n+1=>yx ds n
 |_,_=>false
noncomputable def yx:List D->Nat->Bool
 |[],_=>true
 |d::ds,n=>yy d n&&yx ds n
end
noncomputable def jb:List D->Option (List Int)
 |[]=>some []
 |d::ds=>(rN d).bind fun i=>(jb ds).map fun is=>i::is
end DL
namespace DL
open PySem PySem.Spec PySem.SeqAt
mutual
noncomputable def Bj:D->Nat
 |.int _=>1
 |.tuple ds=>xm ds+1
 |_=>0
noncomputable def xm:List D->Nat
 |[]=>0
 |d::ds=>Bj d+xm ds
end
mutual
theorem Kb.nb {n:Nat}{d:D}:Kb n d->Nb n d
 |.int _ _=>.int _ _
 |.tuple h=>.tuple (uo.nb h)
theorem uo.nb {n:Nat}{ds:List D}:uo n ds->kR n ds
 |.nil=>.nil
 |.cons h hs=>.cons (Kb.nb h) (uo.nb hs)
end
mutual
theorem Kb.up {n:Nat}{d:D}:Kb n d->∀m,n<=m->Kb m d
 |.int _ _,_,_=>.int _ _
 | .tuple h,m,hm=>by
  obtain⟨m',rfl⟩:∃m',m=m'+1:=⟨m-1,by omega⟩;exact .tuple (uo.up h m' ⋯)
theorem uo.up {n:Nat}{ds:List D}:uo n ds->∀m,n<=m->uo m ds
 |.nil,_,_=>.nil
 |.cons h hs,m,hm=>.cons (Kb.up h m hm) (uo.up hs m hm)
end
noncomputable instance decD:DecidableEq D:=fun _ _=>Classical.propDecidable _
end DL
namespace DL
open PySem PySem.Spec PySem.SeqAt
open L2 (V Hp St HO VK TE TT TA TS TI TG Cx Inv PE PT PA PS PSs PI PG dN dU cI cZ cA cq cg cH cP EP TP AP SP di It ff)
mutual
theorem Bc:∀(d:D) (n:Nat),yy d n=true->Kb n d
 |.int i,n,_=>.int n i
 |.tuple ds,0,h=>by simp[yy] at h
 |.tuple ds,n+1,h=>.tuple (wR ds n (by simpa [yy] using h))
 |.none,n,h=>by simp[yy] at h
 |.bool _,n,h=>by simp[yy] at h
 |.str _,n,h=>by simp[yy] at h
 |.list _,n,h=>by simp[yy] at h
 |.dict _,n,h=>by simp[yy] at h
theorem wR:∀(ds:List D) (n:Nat),yx ds n=true->uo n ds
 |[],n,_=>.nil
 | d::ds,n,h=>by
  simp only[yx,Bool.and_eq_true] at h;exact .cons (Bc d n h.1) (wR ds n h.2)
end
section
variable {X:Cx}{pins:List (Addr×Obj)}{σ:St}{H:Hp}{s:Shared}{O:List Addr}
end
section
variable {X:Cx}{a b:Expr}{fb gb:BD}{pos p:Pos}
end
end DL
namespace DL
open PySem PySem.Spec PySem.SeqAt
open L2 (V Hp St HO VK TE TT TA TS TI TG Cx Inv PE PT PA PS PSs PI PG dN dU cI cZ cA cq cg cH cP EP TP AP SP di It ff)
section
variable {prog:Program}{w:World}{A:Around}{E:Value->Shared->Prop}{s:Shared}{d it:Addr}{od:Obj}{ds:Array DictEntry}{ep i n:Nat}
end
section
variable {X:Cx}{tg e:Expr}{f:ED}
end
end DL
namespace DL
open PySem PySem.Spec PySem.SeqAt
open L2 (V Hp St HO VK TE TT TA TS TI TG Cx Inv PE PT PA PS PSs PI PG dN dU cI cZ cA cq cg cH cP EP TP AP SP di It ff)
section
variable {K:Fg}{H:Hp}{B M:List Addr}{lad:Nat->Addr}{ρ:Sl}{σ:St}{i:Nat}
end
section
variable {X:Cx}{e ek ev:Expr}{f ke vx:ED}{pos p1 p2 py:Pos}{i:Nat}{x:Str}{st:Stmt}{F:SD}{sts:List Stmt}
end
end DL
namespace DL
open PySem
end DL
namespace DL
open PySem PyProof.Rows
section
variable {prog:Program}{w:World}{A:Around}{E:Value->Shared->Prop}{s:Shared}
end
end DL
set_option maxHeartbeats 3200000
namespace DL
open PySem PyProof.Rows
section
variable {prog:Program}{w:World}{A:Around}{R:Result->Shared->Prop}{I:Addr}{fp wr:List Addr}{G:Array GenState->Array GenState->Prop}{n:Nat}{P:Nat->Value->Prop}{St:Nat->Shared->Prop}{led:Bool}
end
section
variable {prog:Program}{w:World}{A:Around}{E:Value->Shared->Prop}{s:Shared}
end
end DL
namespace DL
open PySem PyProof.Rows
end DL
namespace DL
open PySem PyProof.Rows
section
variable {prog:Program}{w:World}{A:Around}{E:Value->Shared->Prop}{s:Shared}{a it:Addr}{o:Obj}{es:Array (Int×Value)}{ep i:Nat}{t:SetTable}{led:Bool}{σ:List Int}
variable {n slot:Nat}
end
end DL
namespace DL
open PySem PyProof.Rows
section
variable {prog:Program}{w:World}{A:Around}{E:Value->Shared->Prop}{s:Shared}{a it:Addr}{o:Obj}{es:Array (Int×Value)}{ep n:Nat}{t:SetTable}{led:Bool}{σ:List Int}
end
end DL
namespace DL
open PySem PyProof.Rows
section
variable {prog:Program}{w:World}{A:Around}{E:Value->Shared->Prop}{s:Shared}{a it:Addr}{o:Obj}{es:Array (Int×Value)}{ep n:Nat}{t:SetTable}{led:Bool}{σ:List Int}
end
end DL
namespace DL
open PySem PySem.W PySem.Calls PyProof.Rows PyProof.V PySem.Spec
section
variable {prog:Program}{w:World}{A:Around}{E:Value->Shared->Prop}{s:Shared}{a it:Addr}{o:Obj}{es:Array (Int×Value)}{ep n:Nat}{t:SetTable}{σ:List Int}
end
end DL
namespace DL
open PySem PyProof.Rows
section
variable {prog:Program}{w:World}{A:Around}{E:Value->Shared->Prop}{s:Shared}
end
end DL
namespace DL
open PySem PySem.Spec PySem.SeqAt PyProof.Rows
open L2 (V Hp St HO VK TE TT TA TS TI TG Cx Inv PE PT PA PS PSs PI PG dN dU cI cZ cA cq cg cH cP EP TP AP SP di It ff)
theorem kS {is:List Int}:∀{us:List Value},cH (is.map V.int) us->IntsAre us is:=by
 induction is with
 |nil =>
  intro us h;cases h;exact .nil
 |cons i is ih =>
  intro us h;cases h with
  |cons r q =>
   obtain⟨t,rfl⟩:=(show ∃t,_=Value.int i t from r);exact .cons i t (ih q)
section
variable {X:Cx}
variable {a b:Expr}{fb gb:BD}{pos p p2 p3:Pos}
theorem qF {K:Fg}{H:Hp}{O:List Addr}:∀{ds:List D}{vs:List V}{is:List Int},jb ds=some is->Rs K H O ds vs->vs=is.map V.int:=by
 intro ds;induction ds with
 |nil =>
  intro vs is h q;cases h;cases q;rfl
 |cons d ds ih =>
  intro vs is h q;unfold jb at h;cases hd:rN d with
  |none=>rw[hd] at h;cases h
  |some i =>
   rw[hd,aa] at h;cases hs:jb ds with
   |none=>rw[hs] at h;cases h
   |some js =>
    rw[hs,ag] at h;cases h;cases d <;> first|(cases hd;done)|skip
    cases hd;cases q with
    |cons r rs =>
     cases r;rw[ih hs rs];rfl
end
end DL
namespace L2
open PySem PySem.Spec PyProof.Rows
section
variable {prog:Program}{w:World}{A:Around}{E:Value->Shared->Prop}{s:Shared}
end
end L2
namespace DL
open PySem PySem.Spec PySem.SeqAt PyProof.Rows
open L2 (V Hp HO VK TE TT TA TS TI TG Cx Inv PE PT PA PS PSs PI PG dN dU cI cZ cA cq cg cH cP EP TP AP SP di It ff)
section
variable {X:Cx}{a:Expr}{fb:BD}{pos p:Pos}
end
end DL
namespace L2
open PySem PySem.Spec PyProof.Rows
section
variable {X:Cx}{a b:Expr}{ta:TA}{p p1 p2 pos:Pos}
end
end L2
namespace DL
open PySem PySem.Spec PySem.SeqAt
open L2 (V Hp St HO VK TE TT TA TS TI TG Cx Inv PE PT PA PS PSs PI PG dN dU cI cZ cA cq cg cH cP EP TP AP SP di It ff)
section
variable {X:Cx}{a b:Expr}{f g:ED}{p p1 p2 pos:Pos}
end
end DL
namespace L2
open PySem PySem.Spec Builtin Builtin.Str
noncomputable def cutsS (x y:Str):List Str:=partsBetween x (occurrences x y 0 x.length (x.length+1)) y.length
end L2
namespace DL
open PySem PySem.Spec PySem.SeqAt
noncomputable def nH:D->Option Vl
 |.int i=>if i.natAbs<2 ^ 1000 then some (.str (toString i),false) else none
 |_=>none
noncomputable def xK (y x:Str):Bool:=!(Builtin.Str.occurrences x y 0 x.length 1).isEmpty
noncomputable def Ax:C2
 |.str y,.str x=>some (xK y x)
 |_,_=>none
noncomputable def mh:C2
 |.str y,.str x=>some (!(xK y x))
 |_,_=>none
noncomputable def gm:D->Option Vl
 |.str x=>if x.length<=sizeLine then some (.int (x.length:Nat),false) else none
 |_=>none
noncomputable def kF:O2
 |.str x,.int i=>if x.length<=sizeLine then (L2.atI x.cps.toList i).map fun c=>(.str ⟨#[c]⟩,false) else none
 |_,_=>none
noncomputable def vt:D->Option Int->Option Int->Option Vl
 |.str z,lo,hi=>if z.length<=sizeLine then some (.str (Txt.slice z lo hi),false) else none
 |_,_,_=>none
noncomputable def iF (f:BD)(lo hi:PD):ED:=fun ρ=>(f ρ).bind fun x=>(lo ρ).bind fun l=>(hi ρ).bind fun h=>vt x l h
noncomputable def Cd:D->Option Str
 |.str x=>some x
 |_=>none
noncomputable def jB:List D->Option (List Str)
 |[]=>some []
 |d::ds=>(Cd d).bind fun x=>(jB ds).map fun xs=>x::xs
noncomputable def gc:O2
 |.str z,.str y=>if (y.length==0)=false/\z.length<=sizeLine/\(L2.cutsS z y).length<=sizeLine/\(Txt.split z y).length<=sizeLine then some (.list ((Txt.split z y).map .str),true) else none
 |_,_=>none
noncomputable def jt:O2
 |.str z,.list ds=>(jB ds).bind fun ts=>if JoinOk z ts=true then some (.str (Txt.join z ts),false) else none
 |_,_=>none
noncomputable def ku (z:Str):List D:=z.cps.toList.map fun c=>.str ⟨#[c]⟩
noncomputable def jL (f:ED):AD:=fun ρ=>(f ρ).bind fun r=>match r.1 with
 |.str z=>some (ku z)
 |_=>none
noncomputable def lQ:D->Option Vl
 |.str z=>if z.length<=640 then (PySem.intText? z).map fun n=>(.int n,false) else none
 |_=>none
end DL
namespace DL
open PySem PySem.Spec PySem.SeqAt PyProof.Rows
open L2 (V Hp HO VK TE TT TA TS TI TG Cx Inv PE PT PA PS PSs PI PG dN dU cI cZ cA cq cg cH cP EP TP AP SP di It ff)
section
variable {X:Cx}{a b:Expr}{fb gb:BD}{pos p p2:Pos}
theorem uY {n:Nat}(h:n<2 ^ 1000):n.log2<1920:=by
 rcases Nat.eq_zero_or_pos n with z|z
 ·subst z;decide
 ·exact aH ((Nat.log2_lt (CB z)).mpr h) (by decide)
theorem vD:L2.CallR X (.type "str") (fun xs H Q=>∃i:Int,xs=[.int i]/\i.natAbs<2 ^ 1000/\Q (.str (toString i)) H):=by
 intro pins s σ H xs us Q I rx h;obtain⟨i,rfl,hi,q⟩:=h;obtain⟨u,rfl,ru⟩:=cH.one rx;obtain⟨t,rfl⟩:=(show ∃t,u=Value.int i t from ru);exact P.str_of_int (uY hi) ⟨.str (toString i),H,I.tok _,⟨_,rfl⟩,q⟩
theorem md (hm:X.mg "str" = none)(ha:DB X a fb)(hg:L2.Gl X "str" := by rfl)(he:starEach [a] X.env=(false,eval a X.env)::starEach [] X.env:=by rfl):DE X (.Call (.Name "str" p) [a] [] pos) (d1 nH fb) :=
 mW vD (fun x vx H O r Q ne hx hf k=>by
  cases x <;> first|(cases hf;done)|skip
  rename_i i;cases hx.int;unfold nH at hf;dsimp only at hf;split at hf
  ·rename_i h;cases hf;exact⟨i,rfl,h,k _ H (.refl H) (.of (.str _))⟩
  ·cases hf) hm (by decide +kernel) ha hg (by decide) (by decide) he
end
end DL
namespace DL
open PySem PySem.Spec PySem.SeqAt PyProof.Rows
open L2 (V Hp HO VK TE TT TA TS TI TG Cx Inv PE PT PA PS PSs PI PG dN dU cI cZ cA cq cg cH cP EP TP AP SP di It ff)
section
variable {X:Cx}{a b:Expr}{fb gb:BD}{pos p p2:Pos}
theorem As:CD X (fun x y H Q=>∃i j,x=.str i/\y=.str j/\Q (.bl (!(Builtin.Str.occurrences j i 0 j.length 1).isEmpty)) H) Ax:=by
 intro x y vx vy H O k Q hx hy hf q;cases x <;> first|(cases hf;done)|(cases y <;> first|cases hf|skip)
 cases hx.str;cases hy.str;exact⟨_,_,rfl,rfl,q⟩
theorem vw:CD X (fun x y H Q=>∃i j,x=.str i/\y=.str j/\Q (.bl (!(!(Builtin.Str.occurrences j i 0 j.length 1).isEmpty))) H) mh:=by
 intro x y vx vy H O k Q hx hy hf q;cases x <;> first|(cases hf;done)|(cases y <;> first|cases hf|skip)
 cases hx.str;cases hy.str;exact⟨_,_,rfl,rfl,q⟩
theorem me (hm:X.mg "len" = none)(ha:DB X a fb)(hg:L2.Gl X "len" := by rfl)(he:starEach [a] X.env=(false,eval a X.env)::starEach [] X.env:=by rfl):DE X (.Call (.Name "len" p) [a] [] pos) (d1 gm fb) :=
 iP L2.call_len_str (fun x vx H O r Q ne hx hf k=>by
  cases x <;> first|(cases hf;done)|skip
  cases hx.str;unfold gm at hf;dsimp only at hf;split at hf
  ·rename_i h;cases hf;exact⟨_,rfl,h,k _ H (.refl H) (.of (.int _))⟩
  ·cases hf) hm boot_len ha hg (by decide) (by decide) he
theorem zY:OD X (L2.rIx X.K) kF:=by
 intro x y vx vy H O r Q ne hx hy hf k;cases x <;> first|(cases hf;done)|(cases y <;> first|(cases hf;done)|skip)
 cases hx.str;cases hy.int;unfold kF at hf;dsimp only at hf;split at hf
 ·rename_i h;rename_i z i;cases hc:L2.atI z.cps.toList i with
  |none=>rw[hc] at hf;cases hf
  |some c =>
   rw[hc,ag] at hf;cases hf;exact .inr (.inr ⟨z,i,c,rfl,rfl,h,hc,k _ H (.refl H) (.of (.str _))⟩)
 ·cases hf
theorem sT (ha:DB X a fb)(hb:DB X b gb)(hs:L2.PlainIx b:=by exact fun _ _=>rfl):DE X (.Subscript a b pos) (d2 kF fb gb):=(L2.pe_ix L2.ix_seq ha hb hs).imp fun _ _ _ h=>pZ zY h
end
end DL
namespace L2
open PySem PySem.Spec PyProof.Rows
section
variable {X:Cx}
noncomputable def BM:V->Option Int->Option Int->Hp->VK->Prop:=fun x lo hi H Q=>∃z:Str,x=.str z/\z.length<=sizeLine/\Q (.str (Txt.slice z lo hi)) H
theorem sl_str:y6 X BM:=by
 intro pins s σ H x v vl vu lo hi sl Q I rx hs pl pu h;obtain⟨z,rfl,hz,q⟩:=h;obtain⟨t,rfl⟩:=(show ∃t,v=Value.str z t from rx);refine⟨"str", _,F.slot_str_getitem.lookup,typeIs_str _ _ _,?_⟩;obtain⟨o,e1,e2,e3⟩:=hs;have fin:∀(t':Tok) (k:Nat),EP X pins σ Q (.str (Txt.slice z lo hi) t') { s with toks:=k }:=fun t' k=>⟨.str (Txt.slice z lo hi),H,I.tok _,⟨_,rfl⟩,q⟩;cases pl with
 |none =>
  cases pu with
  |none=>exact wpAny_getItem_str_slice (l:=none) (u:=none) (st:=none) ⟨o,e1,e2,e3⟩ rfl (post_val_or_str ⟨bg (Txt.slice_le z _ _) hz,fin⟩)
  |int j u=>exact wpAny_getItem_str_slice (l:=none) (u:=some (j,u)) (st:=none) ⟨o,e1,e2,e3⟩ rfl (post_val_or_str ⟨bg (Txt.slice_le z _ _) hz,fin⟩)
 |int i r =>
  cases pu with
  |none=>exact wpAny_getItem_str_slice (l:=some (i,r)) (u:=none) (st:=none) ⟨o,e1,e2,e3⟩ rfl (post_val_or_str ⟨bg (Txt.slice_le z _ _) hz,fin⟩)
  |int j u=>exact wpAny_getItem_str_slice (l:=some (i,r)) (u:=some (j,u)) (st:=none) ⟨o,e1,e2,e3⟩ rfl (post_val_or_str ⟨bg (Txt.slice_le z _ _) hz,fin⟩)
end
end L2
namespace DL
open PySem PySem.Spec PySem.SeqAt PyProof.Rows
open L2 (V Hp HO VK TE TT TA TS TI TG Cx Inv PE PT PA PS PSs PI PG dN dU cI cZ cA cq cg cH cP EP TP AP SP di It ff)
section
variable {X:Cx}{a:Expr}{fb:BD}{pos p2:Pos}{lo hi:Option Expr}{pl ph:PD}
theorem lM (ha:DB X a fb)(hl:AK X lo pl)(hh:AK X hi ph):DE X (.Subscript a (.Slice lo hi none p2) pos) (iF fb pl ph):=(L2.pe_slice L2.sl_str ha hl hh).imp fun σ H Q z=>by
 obtain⟨ρ,O,M,lad,r,hE,hf,k⟩:=z;unfold iF at hf;cases hx:fb ρ with
 |none=>rw[hx] at hf;cases hf
 |some x =>
  rw[hx,aa] at hf;cases hy:pl ρ with
  |none=>rw[hy] at hf;cases hf
  |some l =>
   rw[hy,aa] at hf;cases hz:ph ρ with
   |none=>rw[hz] at hf;cases hf
   |some h =>
    rw[hz,aa] at hf;refine⟨ρ,O,M,lad,x,hE,hx,fun v H1 s1 q1=>⟨ρ,O,M,lad,l,hE.same s1,hy,fun H2 s2=>⟨ρ,O,M,lad,h,(hE.same s1).same s2,hz,fun H3 s3=>?_⟩⟩⟩;cases x <;> first|(cases hf;done)|skip
    cases q1.str;unfold vt at hf;dsimp only at hf;split at hf
    ·rename_i hw;cases hf;exact⟨_,rfl,hw,k _ H3 ((s1.trans s2).trans s3) (.of (.str _))⟩
    ·cases hf
end
end DL
namespace L2
open PySem PySem.Spec PyProof.Rows Builtin Builtin.Str Builtin.Int
theorem nQ:∀(l:List (Str×Tok)),cH ((l.map (·.1)).map V.str) (strValues l)
 |[]=>.nil
 |(x,t)::l=>.cons ⟨t,rfl⟩ (nQ l)
section
variable {prog:Program}{w:World}{A:Around}{E:Value->Shared->Prop}{s:Shared}{x y:Str}{t u:Tok}
theorem uC {Q:Value->Shared->Prop}(hy:(y.length==0)=false)
  (hq:∀(l:List (Str×Tok)) (k:Nat),l.map (·.1)=Txt.split x y->Q (.ref s.heap.objs.size) { s with heap:=s.heap.push { cls:=.type "list", data:=.seq (strValues l).toArray },toks:=k })
  (hsz:x.length<=sizeLine) (hsz2:(cutsS x y).length<=sizeLine) :
  wpAny (model prog w) A (call (.builtin "str.split") [.str x t,.str y u]) Q E s:=by
 cases h1:(decide (x.length<y.length)||decide (strKind x<strKind y))
 ·cases hf:(occurrences x y 0 x.length (x.length+1)).isEmpty
  ·refine call_meets F.slot_str_split (typeIs_str _ _ _) F.entry_str_split (F.args_str_split_2 _ _) (meets_str_split_sep x y t u h1 hy hf hsz hsz2) ?_;show wants Q E _ { s with toks:=_,heap:=s.heap.push { cls:=.type "list", data:=.seq (strsFrom s.toks (partsBetween x (occurrences x y 0 x.length (x.length+1)) y.length)).toArray } };rw[strsFrom_eq];exact hq (numbered s.toks _) _ ((numbered_texts _ _).trans ((if_neg (ne_true_of_eq_false h1)).trans (if_neg (ne_true_of_eq_false hf))).symm)
  ·exact call_meets F.slot_str_split (typeIs_str _ _ _) F.entry_str_split (F.args_str_split_2 _ _) (meets_str_split_not_found x y t u h1 hy hf) (hq [(x,t)] s.toks ((if_neg (ne_true_of_eq_false h1)).trans (if_pos hf)).symm)
 ·exact call_meets F.slot_str_split (typeIs_str _ _ _) F.entry_str_split (F.args_str_split_2 _ _) (meets_str_split_cannot_occur x y t u h1) (hq [(x,t)] s.toks (if_pos h1).symm)
end
section
variable {X:Cx}
noncomputable def zQ:V->List V->Hp->VK->Prop:=fun x xs H Q=>∃z y:Str,x=.str z/\xs=[.str y]/\(y.length==0)=false/\z.length<=sizeLine/\(cutsS z y).length<=sizeLine/\(Txt.split z y).length<=sizeLine/\∀l,H l=none->Q (.ref l) (cZ H l (.lst ((Txt.split z y).map V.str)))
theorem mt_split:B1 X "str.split" zQ:=by
 intro pins s σ H x xs v us Q I rx rv h;obtain⟨z,y,rfl,rfl,hy,h1,h2,h3,q⟩:=h;obtain⟨t,rfl⟩:=(show ∃t,v=Value.str z t from rx);obtain⟨u,rfl,ru⟩:=cH.one rv;obtain⟨t',rfl⟩:=(show ∃t,u=Value.str y t from ru);refine uC hy (fun l k e=>?_) h1 h2;have I':=I.laid (h':=s.heap.push { cls:=.type "list", data:=.seq (strValues l).toArray }) (t':=k) (a:=s.heap.objs.size) (o:=.lst ((Txt.split z y).map V.str)) (fun b o e=>ai _ e) (az _)
  ⟨by rw[ah];exact h3,strValues l,0,by rw[<-e];exact nQ l,aI _ rfl⟩
 exact⟨.ref _,_,I',rfl,q _ I.fresh⟩
noncomputable def A1 (K:PySem.W.Frag):V->List V->Hp->VK->Prop:=fun x xs H Q=>∃(z:Str) (a:Addr) (ts:List Str),x=.str z/\xs=[.ref a]/\dU K H a (ts.map V.str)/\JoinOk z ts=true/\Q (.str (Txt.join z ts)) H
theorem uy:∀{ts:List Str}{us:List Value},cH (ts.map V.str) us->∃l:List (Str×Tok),us=strValues l/\l.map (·.1)=ts:=by
 intro ts;induction ts with
 |nil =>
  intro us h;cases h;exact⟨[],rfl,rfl⟩
 |cons t ts ih =>
  intro us h;cases h with
  |cons r q =>
   obtain⟨k,rfl⟩:=(show ∃k,_=Value.str t k from r);obtain⟨l,rfl,e⟩:=ih q;exact⟨(t,k)::l,rfl,by rw[aD,e]⟩
theorem mt_join:B1 X "str.join" (A1 X.K):=by
 intro pins s σ H x xs v us Q I rx rv h;obtain⟨z,a,ts,rfl,rfl,hq,hj,q⟩:=h;obtain⟨t,rfl⟩:=(show ∃t,v=Value.str z t from rx);obtain⟨u,rfl,ru⟩:=cH.one rv;cases ru;obtain⟨its,r,p,hz⟩:=I.list hq;obtain⟨l,rfl,e⟩:=uy r;exact SC.join p.isList e hj fun t' k=>⟨.str (Txt.join z ts),H,I.tok _,⟨_,rfl⟩,q⟩
end
end L2
namespace DL
open PySem PySem.Spec PySem.SeqAt PyProof.Rows
open L2 (V Hp HO VK TE TT TA TS TI TG Cx Inv PE PT PA PS PSs PI PG dN dU cI cZ cA cq cg cH cP EP TP AP SP di It ff)
section
variable {X:Cx}{a b:Expr}{fb gb:BD}{pos p p2:Pos}
theorem tq {K:Fg}{H:Hp}{O:List Addr}:∀(ts:List Str),Rs K H O (ts.map .str) (ts.map V.str)
 |[]=>.nil
 |t::ts=>.cons (.str t) (tq ts)
theorem xX {K:Fg}{H:Hp}{O:List Addr}:∀{ds:List D}{vs:List V}{ts:List Str},jB ds=some ts->Rs K H O ds vs->vs=ts.map V.str:=by
 intro ds;induction ds with
 |nil =>
  intro vs ts h q;cases h;cases q;rfl
 |cons d ds ih =>
  intro vs ts h q;unfold jB at h;cases hd:Cd d with
  |none=>rw[hd] at h;cases h
  |some x =>
   rw[hd,aa] at h;cases hs:jB ds with
   |none=>rw[hs] at h;cases h
   |some xs =>
    rw[hs,ag] at h;cases h;cases d <;> first|(cases hd;done)|skip
    cases hd;cases q with
    |cons r rs =>
     cases r;rw[ih hs rs];rfl
theorem mV (ha:DB X a fb)(hb:DB X b gb)(hbase:attributeBase a "split" X.env (eval a X.env)=eval a X.env:=by rfl)
  (hfew:((backTo pos (starEach [b] X.env)).all (fun x=>!x.1)&&(backToKw pos (keywordEach [] X.env)).all (fun x=>x.1.isSome)
   && decide ([b].length+([]:List Keyword).length+(if ([]:List Keyword).isEmpty then 0 else 1)<30))=true:=by rfl)
  (hline:(p2.endLine==pos.line)=true:=by rfl) (hs:starEach [b] X.env=(false,eval b X.env)::starEach [] X.env:=by rfl) (hplain:(backTo pos (starEach [] X.env)).any (·.1)=false:=by rfl) :
  DE X (.Call (.Attribute a "split" p2) [b] [] pos) (d2 gc fb gb) :=
 (L2.pe_bm PySem.F.plainAttrs_str PySem.F.slot_str_split PySem.F.type_str_split L2.mt_split ha (L2.pa_cons hb L2.pa_nil hs) hbase hfew hline hs hplain).imp fun σ H Q h=>by
  obtain⟨ρ,O,M,lad,res,hE,hf,kk⟩:=h;unfold d2 at hf;cases hx:fb ρ with
  |none=>rw[hx] at hf;cases hf
  |some x =>
   rw[hx,aa] at hf;cases hy:gb ρ with
   |none=>rw[hy] at hf;cases hf
   |some y =>
    rw[hy,aa] at hf;refine⟨ρ,O,M,lad,x,hE,hx,fun vx H1 s1 q1=>?_⟩;cases x <;> first|(cases hf;done)|skip
    cases q1.str;refine⟨rfl,ρ,O,M,lad,y,hE.same s1,hy,fun vy H2 s2 q2=>?_⟩;cases y <;> first|(cases hf;done)|skip
    cases q2.str;unfold gc at hf;dsimp only at hf;split at hf
    ·rename_i hz;cases hf;exact⟨_,_,rfl,rfl,hz.1,hz.2.1,hz.2.2.1,hz.2.2.2,mP (s1.trans s2) (tq _) kk⟩
    ·cases hf
theorem mf (ha:DB X a fb)(hb:DB X b gb)(hbase:attributeBase a "join" X.env (eval a X.env)=eval a X.env:=by rfl)
  (hfew:((backTo pos (starEach [b] X.env)).all (fun x=>!x.1)&&(backToKw pos (keywordEach [] X.env)).all (fun x=>x.1.isSome)
   && decide ([b].length+([]:List Keyword).length+(if ([]:List Keyword).isEmpty then 0 else 1)<30))=true:=by rfl)
  (hline:(p2.endLine==pos.line)=true:=by rfl) (hs:starEach [b] X.env=(false,eval b X.env)::starEach [] X.env:=by rfl) (hplain:(backTo pos (starEach [] X.env)).any (·.1)=false:=by rfl) :
  DE X (.Call (.Attribute a "join" p2) [b] [] pos) (d2 jt fb gb) :=
 (L2.pe_bm PySem.F.plainAttrs_str PySem.F.slot_str_join PySem.F.type_str_join L2.mt_join ha (L2.pa_cons hb L2.pa_nil hs) hbase hfew hline hs hplain).imp fun σ H Q h=>by
  obtain⟨ρ,O,M,lad,res,hE,hf,kk⟩:=h;unfold d2 at hf;cases hx:fb ρ with
  |none=>rw[hx] at hf;cases hf
  |some x =>
   rw[hx,aa] at hf;cases hy:gb ρ with
   |none=>rw[hy] at hf;cases hf
   |some y =>
    rw[hy,aa] at hf;refine⟨ρ,O,M,lad,x,hE,hx,fun vx H1 s1 q1=>?_⟩;cases x <;> first|(cases hf;done)|skip
    cases q1.str;refine⟨rfl,ρ,O,M,lad,y,hE.same s1,hy,fun vy H2 s2 q2=>?_⟩;cases y <;> first|(cases hf;done)|skip
    rename_i ds;obtain⟨c,vs,rfl,hq,rs⟩:=q2.list;unfold jt at hf;dsimp only at hf;cases ht:jB ds with
    |none=>rw[ht] at hf;cases hf
    |some ts =>
     rw[ht,aa] at hf;split at hf
     ·rename_i hz;cases hf;have ev:=xX ht rs;subst ev;exact⟨_,c,ts,rfl,rfl,hq,hz,kk _ _ (s1.trans s2) (.of (.str _))⟩
     ·cases hf
end
end DL
namespace DL
open PySem PySem.Spec PySem.SeqAt PyProof.Rows
open L2 (V Hp HO VK TE TT TA TS TI TG Cx Inv PE PT PA PS PSs PI PG dN dU cI cZ cA cq cg cH cP EP TP AP SP di It ff)
noncomputable def Cf (z:Str):It:=⟨fun i H=>i<z.cps.size,fun i H x H'=>H'=H/\∃c,z.cps[i]?=some c/\x=.str ⟨#[c]⟩,fun i H=>i=z.cps.size⟩
theorem rV (z:Str):strIterType z = "str_ascii_iterator" ∨ strIterType z = "str_iterator" := by
 unfold strIterType;cases z.cps.all (·<128)
 ·exact .inr rfl
 ·exact .inl rfl
theorem qo {prog:Program}{w:World}{A:Around}(hh:A.handled=none)(it:Addr)(z:Str)(t:Tok):Walks prog w A it [it] [it] z.cps.size (SignAt z) (fun i h=>h.IsStrIter it (strIterType z) z t i):=by
 rcases rV z with e|e <;> rw[e]
 ·exact Walks.strAscii hh it z t
 ·exact Walks.strWide hh it z t
theorem vY {P:Program}{w:World}{K:Fg}{tg:Expr}(it:Addr)(z:Str)(t:Tok):L2.Turn P w K tg (Cf z) [it] it (fun i h=>h.IsStrIter it (strIterType z) z t i) where
 mem:=by simp
 obj:=fun i h st b hb=>by
  have e:b=it:=by simpa using hb
  subst e;obtain⟨o,e,c,d⟩:=st;exact⟨o,e,fun v z=>by rw[d] at z;cases z⟩
 keep:=fun i h h' st k=>by
  obtain⟨o,e,r⟩:=st;exact⟨o,k it (by simp) o e,r⟩
 item:=by
  intro X hP hw hK hc i pins s σ H E I hf st hg;subst hP hw hK;obtain⟨f0,f1,f2,f3,f4,f5⟩:=hf it (by simp);refine (qo (I.ok.hd hc) it z t).item i s _ _ hg st fun v h' tk hv st' kk=>?_;obtain⟨c,u,hcu,rfl⟩:=hv;have I1:Inv X pins σ H { s with heap:=h',toks:=tk }:=I.turned (fun b o hb e=>kk b o (by simpa using hb) e) f0 f1 f3 f4 f5;obtain⟨o,e,cl,dd⟩:=id st';refine⟨_,rfl,?_⟩;rcases rV z with q|q
  ·exact L2.go_of (s:={ s with heap:=h',toks:=tk }) (n := "str_ascii_iterator") e (by rw[cl,q]) dd (by decide) ⟨.str ⟨#[c]⟩,H,I1,⟨u,rfl⟩,⟨rfl,c,hcu,rfl⟩,st',fun b hb=>(hf b hb).1⟩
  ·exact L2.go_of (s:={ s with heap:=h',toks:=tk }) (n := "str_iterator") e (by rw[cl,q]) dd (by decide) ⟨.str ⟨#[c]⟩,H,I1,⟨u,rfl⟩,⟨rfl,c,hcu,rfl⟩,st',fun b hb=>(hf b hb).1⟩
 done:=by
  intro X hP hw hK hc i pins s σ H E I hf st hg;subst hP hw hK;obtain⟨f0,f1,f2,f3,f4,f5⟩:=hf it (by simp);have hi:i=z.cps.size:=hg;subst hi;exact (qo (I.ok.hd hc) it z t).done s _ _ st fun h' tk kk=>⟨rfl,I.turned (fun b o hb e=>kk b o (by simpa using hb) e) f0 f1 f3 f4 f5⟩
 self:=fun _ A s Q E st h=>by
  rcases rV z with q|q <;> rw[q] at st
  ·exact wpAny_pyIter_striter_ascii st h
  ·exact wpAny_pyIter_striter_wide st h
theorem sH {K:Fg}{H:Hp}{M O:List Addr}(z:Str):kQ K (Cf z) (ku z) M O H:=by
 intro O2 H2 x;refine⟨fun i d e=>?_,?_⟩
 ·unfold ku at e;rw[aN] at e;cases hc:z.cps.toList[i]? with
  |none=>rw[hc] at e;cases e
  |some c =>
   rw[hc] at e;cases e;have hi:i<z.cps.size:=by have:=(aE.mp hc).1;simpa using this
   refine⟨hi,fun y H3 q=>?_⟩;obtain⟨e3,c',hc',hy⟩:=q;subst e3;have:z.cps[i]?=some c:=by rw[<-hc];exact Array.getElem?_toList.symm
   rw[this] at hc';cases hc';subst hy;exact⟨.refl _,.str _⟩
 ·show (ku z).length=z.cps.size;unfold ku;rw[ah,bf]
section
variable {X:Cx}{tg e:Expr}{f:ED}
theorem rF (h:DE X e f):DI X tg e (jL f):=by
 intro pins s σ H R I q;obtain⟨ρ,O,M,lad,ks,hE,hf,k⟩:=q;unfold jL at hf;cases hr:f ρ with
 |none=>rw[hr] at hf;cases hf
 |some r =>
  rw[hr,aa] at hf;refine L2.thn (h pins s σ H _ I ⟨ρ,O,M,lad,r,hE,hr,fun v H1 s1 q1=>(⟨s1,q1⟩:cI H H1/\lV X.K H O H1 r v)⟩) fun v s1 y=>?_;obtain⟨x,H1,I1,r1,s2,q1⟩:=y;have q:=q1.toR hE.ne;cases e0:r.1 <;> rw[e0] at hf <;> first|(cases hf;done)|skip
  rename_i z;rw[e0] at q;cases hf;cases q;obtain⟨t,rfl⟩:=(show ∃t,v=Value.str z t from r1);refine wpAny_pyIter_strU ?_;refine⟨s1.heap.objs.size,[s1.heap.objs.size],_,_,H1,rfl,I1.kept (t':=s1.toks) fun b o e=>ai _ e,vY _ z t,⟨_,aI _ rfl,rfl,rfl⟩,fun b hb=>?_,k _ H1 s2 (sH z)⟩;have e:b=s1.heap.objs.size:=by simpa using hb
  subst e;exact I1.fpOk (az _) (I1.hok.fresh (az _))
end
end DL
namespace DL
open PySem PySem.Spec PySem.SeqAt PyProof.Rows
open L2 (V Hp HO VK TE TT TA TS TI TG Cx Inv PE PT PA PS PSs PI PG dN dU cI cZ cA cq cg cH cP EP TP AP SP di It ff)
section
variable {X:Cx}{a:Expr}{fb:BD}{pos p:Pos}
theorem vG:L2.CallR X (.type "int") (fun xs H Q=>∃(z:Str) (n:Int),xs=[.str z]/\PySem.intText? z=some n/\z.length<=640/\Q (.int n) H):=by
 intro pins s σ H xs us Q I rx h;obtain⟨z,n,rfl,hn,hl,q⟩:=h;obtain⟨u,rfl,ru⟩:=cH.one rx;obtain⟨t,rfl⟩:=(show ∃t,u=Value.str z t from ru);exact PySem.W.KIN.call_text hn hl ⟨.int n,H,I.tok _,⟨_,rfl⟩,q⟩
theorem t7 (hm:X.mg "int" = none)(ha:DB X a fb)(hg:L2.Gl X "int" := by rfl)(he:starEach [a] X.env=(false,eval a X.env)::starEach [] X.env:=by rfl):DE X (.Call (.Name "int" p) [a] [] pos) (d1 lQ fb) :=
 mW vG (fun x vx H O r Q ne hx hf k=>by
  cases x <;> first|(cases hf;done)|skip
  rename_i z;cases hx.str;unfold lQ at hf;dsimp only at hf;split at hf
  ·rename_i h;cases hn:PySem.intText? z with
   |none=>rw[hn] at hf;cases hf
   |some n =>
    rw[hn,ag] at hf;cases hf;exact⟨z,n,rfl,hn,h,k _ H (.refl H) (.of (.int _))⟩
  ·cases hf) hm (by decide +kernel) ha hg (by decide) (by decide) he
end
end DL
namespace DL
open PySem PySem.Spec PySem.SeqAt PyProof.Rows
open L2 (V Hp HO VK TE TT TA TS TI TG Cx Inv PE PT PA PS PSs PI PG dN dU cI cZ cA cq cg cH cP EP TP AP SP di It ff)
section
variable {X:Cx}
theorem BR.non {K:Fg}{H:Hp}{O:List Addr}{v:V}(h:BR K H O .none v):v=.non:=by
 rcases h with h|⟨a,ds,vs,e,_⟩|⟨a,ds,vs,e,_⟩
 ·cases h;rfl
 ·cases e
 ·cases e
end
end DL
namespace DL
open PySem PySem.Spec PySem.SeqAt
noncomputable abbrev MD:=List Int->List D->Option (D×List Int)
end DL
namespace DL
open PySem PySem.Spec PySem.SeqAt
open L2 (V Hp St HO VK TE TT TA TS TI TG Cx Inv PE PT PA PS PSs PI PG dN dU cI cZ cA cq cg cH cP EP TP AP SP di It ff)
section
variable {prog:Program}{w:World}{A:Around}{E:Value->Shared->Prop}{s:Shared}{d it v:Addr}{od:Obj}{ds:Array DictEntry}{ep i n:Nat}{ok ov:Value}
end
section
variable {X:Cx}{e:Expr}{f:ED}{p pos tp:Pos}{tes:List Expr}{tk:Nat}
end
end DL
namespace DL
open PySem PySem.Spec PySem.SeqAt
open L2 (V Hp St HO VK TE TT TA TS TI TG Cx Inv PE PT PA PS PSs PI PG dN dU cI cZ cA cq cg cH cP EP TP AP SP di It ff)
section
variable {X:Cx}{p:Nat}{e c tg iter:Expr}{es:List Expr}{f:ED}{t:TD}{pos:Pos}{st:Stmt}{dG body:List Stmt}{F G:SD}{it:AD}{gd:GD}
end
end DL
namespace L2
open PySem PySem.Spec PyProof.Rows
section
variable {prog:Program}{w:World}{A:Around}{E:Value->Shared->Prop}{s:Shared}{z TI TO i1 i2 T:Addr}{n1 n2 k:Nat}{fp1 fp2:List Addr}{P1 P2:Nat->Value->Prop}{S1 S2:Nat->Heap->Prop}
end
end L2
namespace DL
open PySem PySem.Spec PySem.SeqAt
open L2 (V Hp St HO VK TE TT TA TS TI TG Cx Inv PE PT PA PS PSs PI PG dN dU cI cZ cA cq cg cH cP EP TP AP SP di It ff AJ nu mj)
section
variable {prog:Program}{w:World}{A:Around}{E:Value->Shared->Prop}{s:Shared}
end
end DL
namespace DL
open PySem PySem.Spec PySem.SeqAt
open L2 (V Hp St HO VK TE TT TA TS TI TG Cx Inv PE PT PA PS PSs PI PG dN dU cI cZ cA cq cg cH cP EP TP AP SP di It ff AJ nu mj)
section
variable {X:Cx}{pins:List (Addr×Obj)}{σ:St}{H:Hp}{s0:Shared}{O:List Addr}{A:Around}{R':Result->Shared->Prop}{z TI TO i1 i2 dd a b:Addr}{k1 k2:Bool}{ds1 ds2:List D}{vs1 vs2:List V}{kvsF:List (D×D)}
end
end DL
namespace DL
open PySem PySem.Spec PySem.SeqAt
open L2 (V Hp St HO VK TE TT TA TS TI TG Cx Inv PE PT PA PS PSs PI PG dN dU cI cZ cA cq cg cH cP EP TP AP SP di It ff AJ nu mj)
section
variable {X:Cx}{pins:List (Addr×Obj)}{σ:St}{H:Hp}{s0:Shared}{O:List Addr}{A:Around}{a b:Addr}{k1 k2:Bool}{ds1 ds2:List D}{vs1 vs2:List V}{kvsF:List (D×D)}
end
section
variable {X:Cx}{e1 e2:Expr}{ta:TA}{p p1 p2 pos:Pos}{f g:AD}
end
end DL
namespace DL
open PySem
def FH (K:Fg)(x:Str)(st:Stmt):Prop:=∃(f:Addr) (oc:Value) (od:Option Addr) (kV dc pm:Value) (an:Option Addr) (cd ct:Value) (sl:Array (Option Value)),PySem.W.nsIn K mainGlobals x=some (some (.ref f)) ∧
 K.lookup f=some ⟨oc,od,.func (PySem.W.fnOf x x (L2.defArgs st) (L2.defBody st) (L2.defScope st) .none kV dc pm an cd ct),sl⟩/\PySem.W.codeIn K cd x=true/\PySem.W.keepIn K (.ref f)=true
def zy (x:Str)(st:Stmt)(ps:List Str):Prop:=∀(kV doc pm:Value) (an:Option Addr) (cdv ct:Value) (us:List Value),us.length=ps.length->bindArgs (PySem.W.fnOf x x (L2.defArgs st) (L2.defBody st) (L2.defScope st) .none kV doc pm an cdv ct) ⟨us,[]⟩=pure (ps.zip us)
section
variable {K:Fg}{mg:Str->Option Value}{h:Heap}{x:Str}{st:Stmt}{ps:List Str}{k n1:Nat}{F:FD}{G':MD}
theorem jJ (P:Program)(w:World)(base:Heap)(X:K.In h)(G:h.Ns mainGlobals mg)(H:FH K x st)(hb:zy x st ps)(ok:∀f fd,L2.Fun K x x st f fd->L2.FnOk P w K mg base L2.CX0 k f fd ps (spD K F)):gH P w K mg base k x ps F:=by
 obtain⟨f,oc,od,kV,dc,pm,an,cd,ct,sl,a,l,c,kp⟩:=H;have Fu:=L2.fun_mk (st:=st) l c kp;exact⟨_,_,ok _ _ Fu,PySem.W.mg_of X G a,kp,Fu.binds (ps:=ps) hb⟩
end
end DL
local macro_rules | `(tactic| trivial) => `(tactic| first | (intro _ _ _ _ _ _ us hl; first | (obtain ⟨_, e⟩ := DL.len1 hl; subst e; rfl) | (obtain ⟨_, _, e⟩ := DL.len2 hl; subst e; rfl) | (obtain ⟨_, _, _, e⟩ := DL.len3 hl; subst e; rfl) | (obtain ⟨_, _, _, _, e⟩ := DL.len4 hl; subst e; rfl) | (obtain ⟨_, _, _, _, _, e⟩ := DL.len5 hl; subst e; rfl) | (obtain ⟨_, _, _, _, _, _, e⟩ := DL.len6 hl; subst e; rfl)) | fail)
local macro_rules | `(tactic| trivial) => `(tactic| first | exact ⟨_, _, _, _, _, _, _, _, _, _, by k_is, by k_is, by k_is, by k_is⟩ | fail)
namespace DL
noncomputable def yW:C2
 |.none,.none=>some true
 |.tuple _,.none=>some false
 |_,_=>none
end DL
namespace DL
open PySem PySem.Spec PySem.SeqAt PyProof.Rows
open L2 (V Hp HO VK TE TT TA TS TI TG Cx Inv PE PT PA PS PSs PI PG dN dU cI cZ cA cq cg cH cP EP TP AP SP di It ff)
section
variable {X:Cx}
theorem yV {x y:D}{k:Bool}(h:yW x y=some k):y=.none/\(x=.none/\k=true\/(∃ds,x=.tuple ds)/\k=false):=by
 unfold yW at h;split at h
 ·cases h;exact⟨rfl,.inl ⟨rfl,rfl⟩⟩
 ·cases h;exact⟨rfl,.inr ⟨⟨_,rfl⟩,rfl⟩⟩
 ·cases h
theorem Aq:CD X (fun x y H Q=>y=.non/\Q (.bl (decide (x=.non))) H) yW:=by
 intro x y vx vy H O k Q hx hy hf q;obtain⟨rfl,⟨rfl,rfl⟩|⟨⟨ds,rfl⟩,rfl⟩⟩:=yV hf
 ·cases hy.non;cases hx.non;exact⟨rfl,q⟩
 ·cases hy.non;obtain⟨a,vs,rfl,_⟩:=hx.tuple;exact⟨rfl,q⟩
end
end DL
namespace DL
open PySem PySem.Spec PySem.SeqAt
open L2 (V Hp St HO VK TE TT TA TS TI TG Cx Inv PE PT PA PS PSs PI PG dN dU cI cZ cA cq cg cH cP EP TP AP SP di It ff)
noncomputable abbrev AZ:=Sl->Option (Int ⊕ List D)
noncomputable def Co (K:Fg)(Z:Int->Hp->Prop)(f:ED):TE:=fun σ H Q=>∃ρ O M lad r,ER K H O M lad ρ σ/\f ρ=some r/\match kg r with
 |some n=>∀H',cI H H'->Z n H'
 |none=>∀v H',cI H H'->lV K H O H' r v->Q v H'
def Cg (X:Cx)(Z:Int->Hp->Prop)(e:Expr)(f:ED):Prop:=PE X e (Co X.K Z f)
section
variable {X:Cx}{Z:Int->Hp->Prop}{e:Expr}{es:List Expr}{f:ED}{t:AZ}{pos:Pos}
theorem xr {F:FD}{cls:Int->Addr}{ta:AD}{fx:Str}{e0:Expr}{p cp:Pos}{kf j:Nat}{ps:List Str}(G:rQ X.prog X.w X.K X.mg X.base kf fx ps F cls)(hr:L2.Room j X.A)(ha:DA X.nox (e0::es) ta)
  (hZ:∀(pins:List (Addr×Obj)) (σ:St) (H:Hp) (s:Shared) (e:Value) (s':Shared),Inv X pins σ H s->L2.CX1 X.prog X.w X.stack H s (fun C _ H'=>∃n,C=.ref (cls n)/\Z n H') e s'->X.xe e s')
  (hj:kf<=j:=by decide) (hg:L2.Gl X fx:=by rfl) (hdb:(fx==("__debug__" : Str))=false:=by decide)
  (he:starEach (e0::es) X.env=(false,eval e0 X.env)::starEach es X.env:=by rfl) (hpl:(backTo cp (starEach es X.env)).any (·.1)=false:=by rfl) :
  Cg X Z (.Call (.Name fx p) (e0::es) [] cp) (cE F ta):=fun pins s σ H Q I zz=>by
 obtain ⟨ρ,O,M,lad,r,hE,hf,k⟩:=zz;obtain⟨fa,fd,G1,G2,G3,G4⟩:=G.ex;unfold cE at hf;cases ht:ta ρ with
 |none=>rw[ht] at hf;cases hf
 |some ds =>
  rw[ht,aa] at hf;refine wpAny_Call_Name_kw (L2.ld_glob I hg G2 ?_ hdb);have w:=ha cp pins s σ H (fun vs H1=>cI H H1/\Rs X.K H1 O ds vs) (I.wish _) ⟨ρ,O,M,lad,ds,hE,ht,fun vs H1 s1 q1=>⟨s1,q1⟩⟩;refine PySem.W.callWith_K (h₀:=X.base) I.ok.mod.kin G3 (wpAny_mono w (fun us s1 ⟨vs,H1,I1,r1,s1',q1⟩=>?_) fun e s' z=>False.elim z) he hpl;have I2:=I1.unwish;have hE1:=hE.same s1';refine⟨I2.kIn,rZ (E:=fun C _ H'=>∃n,C=.ref (cls n)/\Z n H') G1 (hr.mono hj) G4 I2 r1 ⟨ds,O,r,q1,hE1.tr,hf,?_⟩ fun e s' z=>hZ pins σ H1 s1 e s' I2 z⟩;cases hn:kg r with
  |some n =>
   rw[hn] at k;exact fun H' s2=>⟨n,rfl,k H' (s1'.trans s2)⟩
  |none =>
   rw[hn] at k;exact fun v H' s2 q2=>k v H' (s1'.trans s2) (q2.back s1')
end
end DL
namespace L2
open PySem PySem.Spec PyProof.Rows
section
variable {M:Model}{A:Around}{E:Value->Shared->Prop}{s:Shared}
end
section
variable {X:Cx}{pins:List (Addr×Obj)}{σ:St}{H:Hp}{s:Shared}
end
end L2
namespace L2
open PySem PySem.Spec PyProof.Rows
section
variable {X:Cx}{pins:List (Addr×Obj)}{σ:St}{H:Hp}{s:Shared}
end
end L2
namespace L2
open PySem PySem.Spec PyProof.Rows
section
variable {X:Cx}{scope:Scope}{own caps:List Str}{ix:List Nat}{tg iter elt:Expr}{ifs:List Expr}{wi:TI}{g:TG}{tc:TT}{te:TE}
end
end L2
namespace DL
open PySem PySem.Spec PySem.SeqAt
open L2 (V Hp St HO VK TE TT TA TS TI TG Cx Inv PE PT PA PS PSs PI PG dN dU cI cZ cA cq cg cH cP EP TP AP SP di It ff)
end DL
namespace L2
open PySem PySem.Spec PyProof.Rows
theorem CX1.mono {P:Program}{w:World}{outer:List Env}{H:Hp}{s s':Shared}{E E':XK}{e:Value}(h:∀C H',E C none H'->E' C none H')(c:CX1 P w outer H s E e s'):CX1 P w outer H s E' e s':=by
 obtain⟨ea,C,t,B,H',h1,h2,h3,h4,h5,h6,h7,h8,h9⟩:=c;exact⟨ea,C,t,B,H',h1,h2,h3,h4,h5,h6,h7,h8,h _ _ h9⟩
end L2
namespace DL
open PySem PySem.Spec PySem.SeqAt
open L2 (V Hp St HO VK TE TT TA TS TI TG Cx Inv PE PT PA PS PSs PI PG dN dU cI cZ cA cq cg cH cP EP TP AP SP di It ff)
noncomputable def B7 (cls:Int->Addr)(Z:Int->Hp->Prop):L2.XK:=fun C _ H'=>∃n,C=.ref (cls n)/\Z n H'
section
variable {X:Cx}{Z:Int->Hp->Prop}{cls:Int->Addr}{e a elt tg iter:Expr}{es ifs:List Expr}{f:ED}{t:TD}{pos:Pos}{it:AD}{gd:GD}{scope:Scope}{own caps:List Str}{ix:List Nat}
variable {x:Str}{p:Pos}{T:String}{r:List V->Hp->VK->Prop}
end
end DL
namespace DL
open PySem PySem.Spec PySem.SeqAt PyProof.Rows
open L2 (V Hp HO VK TE TT TA TS TI TG Cx Inv PE PT PA PS PSs PI PG dN dU cI cZ cA cq cg cH cP EP TP AP SP di It ff)
section
variable {X:Cx}{a b:Expr}{fb gb:BD}{pos p p2:Pos}
end
noncomputable abbrev JD:=Sl->Option (List Str)
noncomputable def jT:List Str->Str
 |[]=>Str.empty
 |z::zs=>z++jT zs
noncomputable def u3:JD:=fun _=>some []
noncomputable def jC (z:Str)(f:JD):JD:=fun ρ=>(f ρ).map fun zs=>z::zs
noncomputable def jR (e:ED)(f:JD):JD:=fun ρ=>(e ρ).bind fun r=>match r.1 with
 |.str z=>if (reprText z).length<=sizeLine then (f ρ).map fun zs=>reprText z::zs else none
 |_=>none
noncomputable def dJ (f:JD):ED:=fun ρ=>(f ρ).bind fun zs=>if (Str.empty++jT zs).length<=sizeLine then some (.str (Str.empty++jT zs),false) else none
def DJ (X:Cx)(es:List Expr)(f:JD):Prop:=∀(pins:List (Addr×Obj)) (s:Shared) (σ:L2.St) (H:Hp) (acc:Str) (Q:Str->Shared->Prop) (ρ:Sl) (O M:List Addr) (lad:Nat->Addr) (zs:List Str),Inv X pins σ H s->ER X.K H O M lad ρ σ->f ρ=some zs->(acc++jT zs).length<=sizeLine →
 (∀s' H',Inv X pins σ H' s'->cI H H'->Q (acc++jT zs) s')->Joins (model X.prog X.w) X.A X.xe (evalEach es X.env) acc Q s
section
variable {X:Cx}{a:Expr}{es:List Expr}{f:ED}{g:JD}{pos:Pos}
theorem nv (x:Str):x++Str.empty=x:=by
 show (⟨x.cps++#[]⟩:Str)=x;rw[Array.append_empty]
theorem ny (x y z:Str):x++y++z=x++(y++z):=by
 show (⟨x.cps++y.cps++z.cps⟩:Str)=⟨x.cps++(y.cps++z.cps)⟩;rw[CH]
theorem gZ (x y:Str):(x++y).length=x.length+y.length:=strLen_append ..
theorem Al:DJ X [] u3:=fun pins s σ H acc Q ρ O M lad zs I hE hf hz k=>by
 cases hf;have:=k s H I (.refl H);rw[show acc++jT []=acc from nv acc] at this;exact this
theorem xo {z:Str}{zs:List Str}{acc:Str}{Q:Str->Shared->Prop}{pins:List (Addr×Obj)}{σ:L2.St}{H H1:Hp}{s1:Shared}{ρ:Sl}{O M:List Addr}{lad:Nat->Addr}(h:DJ X es g)(I:Inv X pins σ H1 s1)(hE:ER X.K H O M lad ρ σ)(hs:cI H H1)(hf:g ρ=some zs)(hz:(acc++jT (z::zs)).length<=sizeLine)
  (k:∀s' H',Inv X pins σ H' s'->cI H H'->Q (acc++jT (z::zs)) s'):(acc++z).length<=sizeLine/\Joins (model X.prog X.w) X.A X.xe (evalEach es X.env) (acc++z) Q s1:=by
 have e:acc++jT (z::zs)=acc++z++jT zs:=(ny acc z (jT zs)).symm;rw[e] at hz k;refine⟨?_,h pins s1 σ H1 (acc++z) Q ρ O M lad zs I (hE.same hs) hf hz fun s' H' I' s2=>k s' H' I' (hs.trans s2)⟩;rw[gZ] at hz;omega
theorem xp {x:Str}{j p}(h:DJ X es g):DJ X (.Constant (.str x) j p::es) (jC x g):=fun pins s σ H acc Q ρ O M lad zs I hE hf hz k=>by
 unfold jC at hf;cases hg:g ρ with
 |none=>rw[hg] at hf;cases hf
 |some ws =>
  rw[hg,ag] at hf;cases hf;obtain⟨h1,h2⟩:=xo h (I.tok (s.toks+1)) hE (.refl H) hg hz k;exact Calls.Constant_str ⟨x,_,rfl,h1,h2⟩
theorem yK {p}(ha:DE X a f)(h:DJ X es g):DJ X (.FormattedValue a 114 none p::es) (jR f g):=fun pins s σ H acc Q ρ O M lad zs I hE hf hz k=>by
 unfold jR at hf;cases hr:f ρ with
 |none=>rw[hr] at hf;cases hf
 |some r =>
  rw[hr,aa] at hf;obtain⟨d,fl⟩:=r;cases d <;> first|(cases hf;done)|skip
  rename_i y;dsimp only at hf;split at hf
  case isFalse=>cases hf
  case isTrue hi =>
   cases hg:g ρ with
   |none=>rw[hg] at hf;cases hf
   |some ws =>
    rw[hg,ag] at hf;cases hf;refine wpAny_FormattedValue_repr ?_;refine wpAny_mono (ha pins s σ H (fun v H1=>v=.str y/\cI H H1) I ⟨ρ,O,M,lad,_,hE,hr,fun v H1 s1 q=>⟨?_,s1⟩⟩) (fun u s1 z=>?_) fun _ _ z=>z
    ·have:=q.toR hE.ne;cases this;rfl
    ·obtain⟨v,H1,I1,r1,rfl,sm⟩:=z;obtain⟨t,rfl⟩:=(show ∃t,u=Value.str y t from r1);refine wpAny_pyReprObj_str ?_ hi;obtain⟨h1,h2⟩:=xo h (I1.tok (s1.toks+1)) hE sm hg hz k;obtain⟨h3,h4⟩:=xo h ((I1.tok (s1.toks+1)).tok (s1.toks+1+1)) hE sm hg hz k;exact wpAny_formatField_str ⟨_,_,rfl,h1,h2⟩ ⟨_,_,rfl,h3,h4⟩ hi
theorem yP {e1 e2:Expr}(h:DJ X (e1::e2::es) g):DE X (.JoinedStr (e1::e2::es) pos) (dJ g):=fun pins s σ H Q I zz=>by
 obtain ⟨ρ,O,M,lad,r,hE,hf,k⟩:=zz;unfold dJ at hf;cases hg:g ρ with
 |none=>rw[hg] at hf;cases hf
 |some zs =>
  rw[hg,aa] at hf;split at hf
  ·rename_i hz;cases hf;refine wpAny_JoinedStr (h pins s σ H Str.empty _ ρ O M lad zs I hE hg hz fun s' H' I' s1=>⟨hz,.str _,H',I'.tok _,⟨_,rfl⟩,k _ H' s1 (.of (.str _))⟩)
  ·cases hf
end
end DL
namespace DL
open PySem
theorem Ao {X:L2.Cx}{x z:Str}{pos:Pos}(hm:∃tk,X.mg x=some (.str z tk))(hg:L2.Gl X x:=by rfl)(hd:(x==("__debug__" : Str))=false:=by decide):DE X (.Name x pos) (dC (.str z)):=by
 obtain⟨tk,hm⟩:=hm;exact vo (L2.pe_glob (v:=.str z) hg hm ⟨tk,rfl⟩ hd) fun _ _=>.str _
theorem yd {P:Program}{w:World}{X:L2.Cx}{pins:List (Addr×Obj)}{σ:L2.St}{H:L2.Hp}{s:Shared}{cls:Int->Addr}{E:L2.XK}{e:Value}{s':Shared}{EE:Value->Shared->Prop}(I:L2.Inv X pins σ H s)(hst:X.stack=X.env::X.outer)(hf:X.env.frame=some X.env.locals)(hex:X.ex=[])(c:L2.CX1 X.prog X.w X.stack H s (B7 cls fun n H'=>E (.ref (cls n)) none H') e s') :
  wpAny (model X.prog X.w) X.A (leaving X.env e) (fun _ s''=>L2.CX1 X.prog X.w X.outer X.H₀ X.s₀ E e s'') EE s' :=
 I.passes hst hf hex (L2.CX1.mono (fun C H' h=>by obtain⟨n,e,z⟩:=h;rw[e];exact z) c)
section
variable {K:PySem.W.Frag}{h:Heap}{mg:Str->Option Value}{x:Str}{st:Stmt}{ps:List Str}{k:Nat}{F:FD}{cls:Int->Addr}
theorem zi (P:Program)(w:World)(base:Heap)(X:K.In h)(G:h.Ns mainGlobals mg)(H:FH K x st)(hb:zy x st ps)(ok:∀f fd,L2.Fun K x x st f fd->L2.FnOk P w K mg base (L2.CX1 P w) k f fd ps (AX K F cls)):rQ P w K mg base k x ps F cls:=by
 obtain⟨f,oc,od,kV,dc,pm,an,cd,ct,sl,a,l,c,kp⟩:=H;have Fu:=L2.fun_mk (st:=st) l c kp;exact⟨_,_,ok _ _ Fu,PySem.W.mg_of X G a,kp,Fu.binds (ps:=ps) hb⟩
end
end DL
namespace DL
open PySem PySem.Spec PySem.SeqAt
open L2 (Hp St Cx Inv PE PA)
noncomputable def oH (zs:List Str):AD:=fun _=>some (zs.map .str)
noncomputable def Cb (z:Str×Nat×Pos):Expr:=.Constant (.str z.1) z.2.1 z.2.2
section
variable {X:Cx}{body dG r0:List Stmt}{a a0:Stmt}{v:Expr}{F G:SD}{f:ED}{p p3:Pos}
theorem Ah (e:dG=[a0])(h:∀a,a=a0->DS X a F):uu X dG F:=by
 rw[e];exact cD (h _ rfl)
theorem xj (e:a=.Return (some v) p)(he:∀v',v'=v->DE X v' f):DS X a (dh f):=by
 rw[e];exact cV (he _ rfl)
theorem ub:∀zs:List (Str×Nat×Pos),DA X (zs.map Cb) (oH (zs.map (·.1)))
 |[]=>cK
 | z::zs=>by
  have e:oH ((z::zs).map (·.1))=cf (dC (.str z.1)) (oH (zs.map (·.1))):=by
   funext ρ;rfl
  rw[e];exact cw dP (ub zs)
end
theorem Ac {P:Program}{w:World}{K:Fg}{mg:Str->Option Value}{base:Heap}{x qual:Str}{st:Stmt}{f:Addr}{fd:FuncData}{N ps:List Str}{k:Nat}{b:SD}(F:L2.Fun K x qual st f fd)(S:L2.FnScope N ps (L2.defScope st))
  (hb:∀body,body=L2.defBody st->∀(cdv:Value) (A:Around) (outer:List Env) (s:Shared) (H:Hp) (E:L2.XK),L2.Room k (A.deeper (PyProof.Rows.envOfC qual (L2.defScope st) s.heap.objs.size f cdv))->uu (L2.cxOf L2.CX0 P w K mg base N qual (L2.defScope st) f cdv A outer s H E).nox body b) :
  L2.FnOk P w K mg base L2.CX0 (k+1) f fd ps (spD K (jZ ps.length (N.length-ps.length) b)):=fF F S fun cdv A outer s H E hr=>hb _ rfl cdv A outer s H E hr
end DL
namespace DL
open PySem PySem.Spec PySem.SeqAt
noncomputable def eY (f:Int->Int->Bool)(n:Int)(ns:List Int):Int:=ns.foldl (fun b x=>if f x b=true then x else b) n
noncomputable def n6 (f:Int->Int->Bool):D->Option Vl
 | .list ds=>(jb ds).bind fun ns=>match ns with
  |[]=>none
  |n::ns=>some (.int (eY f n ns),false)
 |_=>none
noncomputable def nZ:D->Option Vl:=n6 fun x b=>decide (x<b)
noncomputable def n4:D->Option Vl:=n6 fun x b=>decide (x>b)
noncomputable def pf (i j:Nat)(F:FD):SD:=fun ρ=>match ρ[j]? with
 |some (some (.list (d::ds),true))=>if i=j\/fE d=false then none else (F [d]).bind fun x=>pg i (fun xs=>if xs.length<sizeLine then some (xs++[x.1]) else none) (ρ.set j (some (.list ds,true)))
 |_=>none
noncomputable def oZ (i:Nat)(ke v:ED):SD:=fun ρ=>(gU i ρ).bind fun ds=>(jO ds ke ρ).bind fun q=>(v (unown ρ)).bind fun r=>match kg r with
 |some n=>some (.ret (rB n))
 |none=>(uW r).bind fun d=>if q.2.length<sizeLine then some (.next (ρ.set i (some (cQ (ds.set q.1 (.list (q.2++[d]))),true)))) else none
end DL
namespace DL
open PySem PySem.Spec PySem.SeqAt PyProof.Rows
open L2 (V Hp St HO VK TE TT TA TS TI TG Cx Inv PE PT PA PS PSs PI PG dN dU cI cZ cA cq cg cH cP EP TP AP SP di It ff)
section
variable {X:Cx}{Z:Int->Hp->Prop}{a e ek ev tg iter:Expr}{es body:List Expr}{sts:List Stmt}{fb g:BD}{f ke vx:ED}{F:SD}{pos p p1 p2 p3 p4 p5 p6 p7 p8 p9:Pos}{it:AD}{gd:GD}{i j:Nat}{x y:Str}
theorem yL {zs:List (Str×Nat×Pos)}{v':Expr}(e:v'=.Subscript (.List (zs.map Cb) p1) ek p2)(hb:DB X ek g)(hpx:L2.PlainIx ek:=by exact fun _ _=>rfl):DE X v' (d2 cW (ck (eN (oH (zs.map (·.1))))) g):=by
 rw[e];exact c9 (DE.bb (gW (ub zs))) hb hpx
theorem vj {spos py:Pos}(hN:X.N.Nodup)(hi:X.N[i]?=some x:=by rfl)(hx:L2.Loc X.env.scope x:=by first|exact Or.inl rfl|exact Or.inr rfl)(hs:starEach [.List [] p1] X.env=(false,eval (.List [] p1) X.env)::starEach [] X.env:=by rfl)
  (hsw:swapsWith (.List [.List [] p1] p2) (some (.Name x py)) spos.line X.env=pure false:=by rfl) (hf:X.fn x=true\/X.env.scope.names.lookup x=some .local:=by first|exact .inl rfl|exact .inr rfl|assumption):DS X (.Assign [.Name x py] (.List [.List [] p1] p2) spos) (jG i (eN (cf (eN cG) cG))):=fun B H₀ M₀ lad =>
 (L2.ps_set hN hi hx (L2.pe_lst (L2.pa_cons (L2.pe_lst L2.pa_nil) L2.pa_nil hs)) hsw hf).imp fun E σ H h=>by
  obtain⟨ρ,O,M,lad',r,hE,hr,k⟩:=nW h;have er:r=(.list [.list []],true):=(aL.inj hr).symm;subst er;refine⟨bt _,fun b hb=>⟨l4 (show 1<=1000000 by decide),fun q hq=>?_⟩⟩;have nb:q≠b:=fun z=>by subst z;rw[cA] at hq;cases hq
  have hq':H q=none:=by rw[cq nb] at hq;exact hq
  refine k _ _ (fun c o ec=>by rw[cq (cg ec hq'),cq (cg ec hb)];exact ec) ⟨q,[.list []],[b],rfl,rfl,hq',cA,by simp[nb],fun c hc=>by cases aM.mp hc;exact hb,.cons (vs:=[]) (by rw[cq (Ne.symm nb),cA]) aC .nil .nil⟩
noncomputable def Ck (K:Fg)(Z:Int->Hp->Prop)(F:SD):TS:=fun E σ H=>∃B H₀ M₀ lad,uZ K B H₀ M₀ lad Z F E σ H
theorem Af {body:List Stmt}(hp:PassesOwn (model X.prog X.w) X.A X.env X.xe)(hc:X.calm=true)(hi:DI X tg iter it)(hg:DG X tg gd)(hb:zd X Z body F)
  (hs:∀x,foldedSetIterable iter X.env x=pure x:=by intro _;rfl):DZ X Z (.For tg iter body [] pos) (fg it gd F):=fun B H₀ M₀ lad=>(L2.ps_for hp hc hi hg (fun pins s σ H D I (q:Ck X.K Z F D σ H)=>by obtain⟨B,H₀,M₀,lad,q⟩:=q;exact hb B H₀ M₀ lad pins s σ H D I q) hs).imp fun E σ H zz=>by
 obtain ⟨ρ,fl,⟨M,hx,hB,hE⟩,hf,k⟩:=zz;unfold fg at hf;cases hd:it ρ with
 |none=>rw[hd] at hf;cases hf
 |some ds =>
  rw[hd,aa] at hf;refine⟨ρ,_,M,lad,ds,hE,hd,fun J H1 s1 iok=>?_⟩;have x1:fj M₀ H₀ M H1:=hx.trans (.same s1);refine⟨fun i m σ' H'=>m=ds.length-i/\i<=ds.length/\∃ρ',SR X.K B H1 M lad ρ' σ' H'/\d7 gd F (ds.drop i) ρ'=some fl,⟨ds.length,by simp,bt _,ρ,⟨M,.refl M H1,hB,hE.same s1⟩,by simpa using hf⟩,?_⟩;rintro i m σ' H' ⟨rfl,hi,ρ',hR,hl⟩;obtain⟨M',x',hB',hE'⟩:=id hR;obtain⟨go,stop⟩:=iok _ _ x'.ext;by_cases hlt:i<ds.length
  ·have ed:ds.drop i=ds[i]::ds.drop (i+1):=CI hlt;rw[ed] at hl;unfold d7 at hl;cases hg1:gd ds[i] ρ' with
   |none=>rw[hg1] at hl;cases hl
   |some ρ1 =>
    rw[hg1,aa] at hl;cases hF:F ρ1 with
    |none=>rw[hF] at hl;cases hl
    |some fl1 =>
     rw[hF,aa] at hl;obtain⟨g1,g2⟩:=go i ds[i] (by simp[hlt]);refine .inr ⟨g1,fun σ2 H2=>∃ρ2,SR X.K B H1 M lad ρ2 σ2 H2/\d7 gd F (ds.drop (i+1)) ρ2=some fl,fun σ2 H2 ⟨ρ2,r2,l2⟩=>⟨ds.length-(i+1),by omega,rfl,hlt,ρ2,r2,l2⟩,fun x H2 hy=>?_⟩;obtain⟨s2,q2⟩:=g2 x H2 hy;refine⟨ρ',_,M',lad,ds[i],ρ1,hE'.same s2,q2,hg1,fun σ3 H3 s3 E3=>⟨B,H1,M,lad,ρ1,fl1,⟨M',(x'.trans (.same s2)).trans (.same s3),hB',E3⟩,hF,?_⟩⟩;cases fl1 with
     |next ρ2=>exact fun σ4 H4 r4=>⟨ρ2,r4,hl⟩
     |cont ρ2=>exact fun σ4 H4 r4=>⟨ρ2,r4,hl⟩
     |brk ρ2 =>
      cases hl;exact fun σ4 H4 r4=>k σ4 H4 (r4.up x1)
     |ret r =>
      cases hl;unfold vO at k ⊢;dsimp only at k ⊢;split at k
      ·rename_i n hn;exact fun H4 M4 x4=>k H4 M4 (x1.trans x4)
      ·exact fun v H4 r4=>k v H4 (r4.up x1)
  ·have e:i=ds.length:=by omega
   subst e;rw[List.drop_length] at hl;cases hl;exact .inl ⟨stop,k σ' H' (hR.up x1)⟩
theorem xf (hk:DE X ek ke)(he:Cg X Z ev vx)(hN:X.N[i]?=some x:=by rfl)(hv:L2.Vis X.env.scope x:=by first|exact Or.inl rfl|exact Or.inr (Or.inl rfl)|exact Or.inr (Or.inr rfl))(hd:(x==("__debug__" : Str))=false:=by decide)
  (hcd:(x==("__classdict__" : Str))=false:=by decide) (hpx:L2.PlainIx ek:=by exact fun _ _=>rfl)
  (hbase:attributeBase (.Subscript (.Name x p1) ek p4) "append" X.env (eval (.Subscript (.Name x p1) ek p4) X.env)=eval (.Subscript (.Name x p1) ek p4) X.env:=by rfl)
  (hfew:((backTo p3 (starEach [ev] X.env)).all (fun x=>!x.1)&&(backToKw p3 (keywordEach [] X.env)).all (fun x=>x.1.isSome)&&decide ([ev].length+([]:List Keyword).length+(if ([]:List Keyword).isEmpty then 0 else 1)<30))=true:=by rfl)
  (hline:(p2.endLine==p3.line)=true:=by rfl) (hs:starEach [ev] X.env=(false,eval ev X.env)::starEach [] X.env:=by rfl) (hplain:(backTo p3 (starEach [] X.env)).any (·.1)=false:=by rfl)
  (hsw:swapsWith (.Call (.Attribute (.Subscript (.Name x p1) ek p4) "append" p2) [ev] [] p3) none pos.line X.env=pure false:=by rfl) :
  DZ X Z (.Expr (.Call (.Attribute (.Subscript (.Name x p1) ek p4) "append" p2) [ev] [] p3) pos) (oZ i ke vx):=fun B H₀ M₀ lad =>
 (L2.ps_expr (L2.pe_bm PySem.F.plainAttrs_list PySem.F.slot_list_append PySem.F.type_list_append L2.mt_append (L2.pe_ix L2.ix_seq (L2.pe_var hN hv hd hcd) hk.bb hpx) (L2.pa_cons he L2.pa_nil hs) hbase hfew hline hs hplain) hsw).imp fun E σ H zz=>by
  obtain ⟨ρ,fl,⟨M,hx,hB,hE⟩,hf,k⟩:=zz;have ne0:∀{Hx:Hp},∀a∈([]:List Addr),Hx a≠none:=fun a ha=>nomatch ha;unfold oZ at hf;cases hr0:gU i ρ with
  |none=>rw[hr0] at hf;cases hf
  |some ds =>
   rw[hr0,aa] at hf;cases hq:jO ds ke ρ with
   |none=>rw[hq] at hf;cases hf
   |some q =>
    rw[hq,aa] at hf;cases hr:vx (unown ρ) with
    |none=>rw[hr] at hf;cases hf
    |some r =>
     rw[hr,aa] at hf;obtain⟨y,j,hy,hj,hn,hg⟩:=lT hq;have hd':=jP hr0;obtain⟨a,bs,e1,e2,e3,nd,dp,ap⟩:=hE.dp.at_ i ds hd';obtain⟨xs',b,ws,ez,hb,hw,bM,rs⟩:=dp.get hg;cases ez;refine⟨.ref a,e1,unown ρ,[],[],lad,.int j,hE.unown,by unfold ck;rw[hy,ag,lh hj],fun vy H1 s1 qy=>?_⟩;cases qy.int;refine .inl ⟨a,bs.map V.ref,j,.ref b,rfl,rfl,.inl (.inl (s1 _ _ e2)),?_,?_⟩
     ·unfold L2.atI;have:L2.ixN (bs.map V.ref).length j=some q.1:=by rw[ah,<-dp.len];exact hn
      rw[this,aa,aN,hb];rfl
     refine⟨.inl ⟨rfl,ws,.inl (.inl (s1 _ _ hw))⟩,unown ρ,[],[],lad,r,hE.unown.same s1,hr,?_⟩;cases hz:kg r with
     |some n =>
      rw[hz] at hf;cases hf;exact fun H2 s2=>k H2 M ((hx.trans (.same s1)).trans (.same s2))
     |none =>
      rw[hz] at hf;dsimp only at hf ⊢;cases ho:uW r with
      |none=>rw[ho] at hf;cases hf
      |some d =>
       rw[ho,aa] at hf;split at hf
       ·rename_i hz2;cases hf;obtain⟨er,lf⟩:=n8 ho;subst er;intro v H2 s2 q2;have S:cI H H2:=s1.trans s2;have l:=rs.length;refine⟨b,ws,_,rfl,rfl,S _ _ hw,by omega,?_⟩;obtain⟨sx,E5⟩:=(hE.same S).mutDp (q:=q.1) hd' e1 (S _ _ e2) e3 nd (dp.go (.same S) fun c hc hm=>⟨hm,fun vs e=>S _ _ e⟩) ap hb ((rs.same S).append (.cons ((q2.toR ne0).lf lf) .nil));exact k _ _ ⟨M,(hx.trans (.same S)).trans sx,hB,E5⟩
       ·cases hf
theorem vm {fx:Str}{k jr n0:Nat}{ps:List Str}{Fn:FD}(G:gH X.prog X.w X.K X.mg X.base k fx ps Fn)(hr:L2.Room jr X.A)(hj:k<=jr:=by decide)(hg:L2.Gl X fx:=by rfl)(hdb:(fx==("__debug__" : Str))=false:=by decide)
  (hN:X.N[i]?=some x:=by rfl) (hv:L2.Vis X.env.scope x:=by first|exact Or.inl rfl|exact Or.inr (Or.inl rfl)|exact Or.inr (Or.inr rfl)) (hd:(x==("__debug__" : Str))=false:=by decide) (hcd:(x==("__classdict__" : Str))=false:=by decide)
  (hN2:X.N[j]?=some y:=by rfl) (hv2:L2.Vis X.env.scope y:=by first|exact Or.inl rfl|exact Or.inr (Or.inl rfl)|exact Or.inr (Or.inr rfl)) (hd2:(y==("__debug__" : Str))=false:=by decide) (hcd2:(y==("__classdict__" : Str))=false:=by decide)
  (hbase2:attributeBase (.Name y p5) "pop" X.env (eval (.Name y p5) X.env)=eval (.Name y p5) X.env:=by rfl)
  (hfew2:((backTo p8 (starEach [.Constant (.int 0) n0 p7] X.env)).all (fun x=>!x.1)&&(backToKw p8 (keywordEach [] X.env)).all (fun x=>x.1.isSome)&&decide ([Expr.Constant (.int 0) n0 p7].length+([]:List Keyword).length+(if ([]:List Keyword).isEmpty then 0 else 1)<30))=true:=by rfl)
  (hline2:(p6.endLine==p8.line)=true:=by rfl) (hs2:starEach [.Constant (.int 0) n0 p7] X.env=(false,eval (.Constant (.int 0) n0 p7) X.env)::starEach [] X.env:=by rfl) (hplain2:(backTo p8 (starEach [] X.env)).any (·.1)=false:=by rfl)
  (he:starEach [.Call (.Attribute (.Name y p5) "pop" p6) [.Constant (.int 0) n0 p7] [] p8] X.env=(false,eval (.Call (.Attribute (.Name y p5) "pop" p6) [.Constant (.int 0) n0 p7] [] p8) X.env)::starEach [] X.env:=by rfl) (hpl:(backTo p9 (starEach [] X.env)).any (·.1)=false:=by rfl)
  (hbase:attributeBase (.Name x p1) "append" X.env (eval (.Name x p1) X.env)=eval (.Name x p1) X.env:=by rfl)
  (hfew:((backTo p3 (starEach [.Call (.Name fx p4) [.Call (.Attribute (.Name y p5) "pop" p6) [.Constant (.int 0) n0 p7] [] p8] [] p9] X.env)).all (fun x=>!x.1)&&(backToKw p3 (keywordEach [] X.env)).all (fun x=>x.1.isSome)&&decide ([Expr.Call (.Name fx p4) [.Call (.Attribute (.Name y p5) "pop" p6) [.Constant (.int 0) n0 p7] [] p8] [] p9].length+([]:List Keyword).length+(if ([]:List Keyword).isEmpty then 0 else 1)<30))=true:=by rfl)
  (hline:(p2.endLine==p3.line)=true:=by rfl) (hs:starEach [.Call (.Name fx p4) [.Call (.Attribute (.Name y p5) "pop" p6) [.Constant (.int 0) n0 p7] [] p8] [] p9] X.env=(false,eval (.Call (.Name fx p4) [.Call (.Attribute (.Name y p5) "pop" p6) [.Constant (.int 0) n0 p7] [] p8] [] p9) X.env)::starEach [] X.env:=by rfl) (hplain:(backTo p3 (starEach [] X.env)).any (·.1)=false:=by rfl)
  (hsw:swapsWith (.Call (.Attribute (.Name x p1) "append" p2) [.Call (.Name fx p4) [.Call (.Attribute (.Name y p5) "pop" p6) [.Constant (.int 0) n0 p7] [] p8] [] p9] [] p3) none pos.line X.env=pure false:=by rfl) :
  DS X (.Expr (.Call (.Attribute (.Name x p1) "append" p2) [.Call (.Name fx p4) [.Call (.Attribute (.Name y p5) "pop" p6) [.Constant (.int 0) n0 p7] [] p8] [] p9] [] p3) pos) (pf i j Fn):=fun B H₀ M₀ lad=>by
 obtain⟨fa,fd,g1,g2,g3,g4⟩:=G.ex;refine (L2.ps_expr (L2.pe_bm PySem.F.plainAttrs_list PySem.F.slot_list_append PySem.F.type_list_append L2.mt_append (L2.pe_var hN hv hd hcd) (L2.pa_cons (L2.pe_call g1 (hr.mono hj) hg g2 g3 g4 (.nil:cH [] []) L2.pass0 (L2.pa_cons (L2.pe_bm PySem.F.plainAttrs_list PySem.F.slot_list_pop PySem.F.type_list_pop L2.mt_popAt (L2.pe_var hN2 hv2 hd2 hcd2) (L2.pa_cons L2.pe_int L2.pa_nil hs2) hbase2 hfew2 hline2 hs2 hplain2) L2.pa_nil he) hdb he hpl) L2.pa_nil hs) hbase hfew hline hs hplain) hsw).imp fun E σ H zz=>?_;obtain ⟨ρ,fl,⟨M,hx,hB,hE⟩,hf,k⟩:=zz;unfold pf at hf;split at hf
 case h_2=>cases hf
 case h_1 d ds hrj =>
  split at hf
  case isTrue=>cases hf
  case isFalse hij =>
   have nij:i≠j:=fun z=>hij (.inl z);cases hF:Fn [d] with
   |none=>rw[hF] at hf;cases hf
   |some r =>
    rw[hF,aa] at hf;obtain⟨xs,ys,hi,hy,rfl⟩:=jX hf;split at hy
    case isFalse=>cases hy
    case isTrue hz =>
     cases hy;have hi0:ρ[i]?=some (some (.list xs,true)):=by rw[ae (Ne.symm nij)] at hi;exact hi
     obtain⟨a,vs,e2,e3,e4,q⟩:=hE.ow i _ hi0;obtain⟨b,us,d2,d3,d4,qj⟩:=hE.ow j _ hrj;cases qj with
     |@cons _ v _ us' qd qn =>
      refine⟨_,e2,.inl ⟨rfl,vs,.inl (.inl e3)⟩,_,d2,.inl ⟨rfl,_,.inl (.inl d3)⟩,b,v::us',0,0,v,rfl,rfl,d3,by decide,by decide,by simp[seqIndex?],rfl,?_⟩;obtain⟨x1,E1⟩:=hE.mut hrj d2 qn;show spD X.K Fn ([v]++[]) _ _ L2.E0;refine⟨[d],_,r,.cons (qd.ext x1.ext) .nil,E1.tr,hF,fun w H2 s2 q2=>?_⟩;have E2:=E1.same s2;obtain⟨a',vs',e2',e3',e4',q'⟩:=E2.ow i _ hi;rw[e2] at e2';cases e2';have l:=q'.length;have nn:∀c∈M++B,(cZ H b (.lst us')) c≠none:=fun c hc=>E1.ne c hc;refine⟨a,vs',_,rfl,rfl,e3',by omega,?_⟩;obtain⟨x3,E3⟩:=E2.mut hi e2 (q'.append (.cons (q2.toR nn) .nil));exact k _ _ ⟨M,((hx.trans x1).trans (.same s2)).trans x3,hB,E3⟩
theorem m6:∀(ns:List Int) (n:Int),eY (fun x b=>decide (x<b)) n ns∈n::ns/\∀a∈n::ns,eY (fun x b=>decide (x<b)) n ns<=a
 |[],n=>⟨aC,fun a h=>by cases aM.mp h;exact Int.le_refl _⟩
 | m::ns,n=>by
  obtain⟨h1,h2⟩:=m6 ns (if decide (m<n)=true then m else n);show eY (fun x b=>decide (x<b)) (if decide (m<n)=true then m else n) ns∈n::m::ns/\∀a∈n::m::ns,eY (fun x b=>decide (x<b)) (if decide (m<n)=true then m else n) ns<=a;generalize eY (fun x b=>decide (x<b)) (if decide (m<n)=true then m else n) ns=t at h1 h2;have h0:=h2 _ aC;by_cases h:m<n
  ·rw[if_pos (decide_eq_true h)] at h1 h2 h0;refine⟨ao _ h1,fun a ha=>?_⟩;rcases aw.mp ha with z|z
   ·omega
   ·exact h2 a z
  ·rw[if_neg (by simpa using h)] at h1 h2 h0;refine⟨?_,fun a ha=>?_⟩
   ·rcases aw.mp h1 with z|z
    ·rw[z];exact aC
    ·exact ao _ (ao _ z)
   ·rcases aw.mp ha with z|z
    ·omega
    ·rcases aw.mp z with z|z
     ·omega
     ·exact h2 a (ao _ z)
theorem m7:∀(ns:List Int) (n:Int),eY (fun x b=>decide (x>b)) n ns∈n::ns/\∀a∈n::ns,a<=eY (fun x b=>decide (x>b)) n ns
 |[],n=>⟨aC,fun a h=>by cases aM.mp h;exact Int.le_refl _⟩
 | m::ns,n=>by
  obtain⟨h1,h2⟩:=m7 ns (if decide (m>n)=true then m else n);show eY (fun x b=>decide (x>b)) (if decide (m>n)=true then m else n) ns∈n::m::ns/\∀a∈n::m::ns,a<=eY (fun x b=>decide (x>b)) (if decide (m>n)=true then m else n) ns;generalize eY (fun x b=>decide (x>b)) (if decide (m>n)=true then m else n) ns=t at h1 h2;have h0:=h2 _ aC;by_cases h:m>n
  ·rw[if_pos (decide_eq_true h)] at h1 h2 h0;refine⟨ao _ h1,fun a ha=>?_⟩;rcases aw.mp ha with z|z
   ·omega
   ·exact h2 a z
  ·rw[if_neg (by simpa using h)] at h1 h2 h0;refine⟨?_,fun a ha=>?_⟩
   ·rcases aw.mp h1 with z|z
    ·rw[z];exact aC
    ·exact ao _ (ao _ z)
   ·rcases aw.mp ha with z|z
    ·omega
    ·rcases aw.mp z with z|z
     ·omega
     ·exact h2 a (ao _ z)
theorem vE (hc:X.calm=true):L2.CallR X (.builtin "min") (fun xs H Q=>∃(c:Addr) (is:List Int) (m:Int),xs=[.ref c]/\ff true X.K H c (is.map V.int)/\m∈is/\(∀a∈is,m<=a)/\Q (.int m) H):=by
 intro pins s σ H xs us Q I rx h;obtain⟨c,is,m,rfl,hq,hm,hl,q⟩:=h;obtain⟨u,rfl,ru⟩:=cH.one rx;cases ru;obtain⟨its,rv,ob,hz⟩:=I.seqK hq;have hi:=kS rv;obtain⟨xs,e⟩:=hi.allInts.items;have hns:is=xs.toList.map (·.1):=by rw[<-hi.numsOf,<-nums_intItems,<-e]
 have hsz:0<xs.size:=by
  have h3:=List.length_pos_of_mem hm;rw[hns,ah,bf] at h3;exact h3
 have ob':s.heap.IsList c its.toArray:=ob;rw[e] at ob';refine min_intList (I.ok.hd hc) ob' hsz fun v h' tk hv hk=>?_;obtain⟨t,rfl⟩:=intItems_at hv;obtain⟨h1,h2⟩:=argBest_lt (numAt xs) (xs.size-1);have m1:numAt xs (argBest (fun i j=>decide (numAt xs i<numAt xs j)) (xs.size-1))∈is:=by rw[hns,numAt_eq];exact getD_mem (by rw[ah,bf];omega)
 have m2:∀a∈is,numAt xs (argBest (fun i j=>decide (numAt xs i<numAt xs j)) (xs.size-1))<=a:=fun a ha=>by
  rw[hns] at ha;obtain⟨j,hj,rfl⟩:=mem_getD ha;rw[ah,bf] at hj;rw[<-numAt_eq];exact h2 j ⋯
 have em:m=numAt xs (argBest (fun i j=>decide (numAt xs i<numAt xs j)) (xs.size-1)):=by
  have:=hl _ m1;have:=m2 _ hm;omega
 exact⟨.int m,H,I.kept hk,⟨_,by rw[em]⟩,q⟩
theorem vF (hc:X.calm=true):L2.CallR X (.builtin "max") (fun xs H Q=>∃(c:Addr) (is:List Int) (m:Int),xs=[.ref c]/\ff true X.K H c (is.map V.int)/\m∈is/\(∀a∈is,a<=m)/\Q (.int m) H):=by
 intro pins s σ H xs us Q I rx h;obtain⟨c,is,m,rfl,hq,hm,hl,q⟩:=h;obtain⟨u,rfl,ru⟩:=cH.one rx;cases ru;obtain⟨its,rv,ob,hz⟩:=I.seqK hq;have hi:=kS rv;obtain⟨xs,e⟩:=hi.allInts.items;have hns:is=xs.toList.map (·.1):=by rw[<-hi.numsOf,<-nums_intItems,<-e]
 have hsz:0<xs.size:=by
  have h3:=List.length_pos_of_mem hm;rw[hns,ah,bf] at h3;exact h3
 have ob':s.heap.IsList c its.toArray:=ob;rw[e] at ob';refine max_intList (I.ok.hd hc) ob' hsz fun v h' tk hv hk=>?_;obtain⟨t,rfl⟩:=intItems_at hv;obtain⟨h1,h2⟩:=argBest_gt (numAt xs) (xs.size-1);have m1:numAt xs (argBest (fun i j=>decide (numAt xs i>numAt xs j)) (xs.size-1))∈is:=by rw[hns,numAt_eq];exact getD_mem (by rw[ah,bf];omega)
 have m2:∀a∈is,a<=numAt xs (argBest (fun i j=>decide (numAt xs i>numAt xs j)) (xs.size-1)):=fun a ha=>by
  rw[hns] at ha;obtain⟨j,hj,rfl⟩:=mem_getD ha;rw[ah,bf] at hj;rw[<-numAt_eq];exact h2 j ⋯
 have em:m=numAt xs (argBest (fun i j=>decide (numAt xs i>numAt xs j)) (xs.size-1)):=by
  have:=hl _ m1;have:=m2 _ hm;omega
 exact⟨.int m,H,I.kept hk,⟨_,by rw[em]⟩,q⟩
theorem oX {f:Int->Int->Bool}{x:D}{r:Vl}(h:n6 f x=some r):∃ds n ns,x=.list ds/\jb ds=some (n::ns)/\r=(.int (eY f n ns),false):=by
 cases x <;> first|(cases h;done)|skip
 rename_i ds;unfold n6 at h;dsimp only at h;cases hi:jb ds with
 |none=>rw[hi] at h;cases h
 |some is =>
  rw[hi,aa] at h;cases is with
  |nil=>cases h
  |cons n ns =>
   cases h;exact⟨ds,n,ns,rfl,hi,rfl⟩
theorem yM (hc:X.calm=true)(hm:X.mg "min" = none)(ha:DB X a fb)(hg:L2.Gl X "min" := by rfl)(he:starEach [a] X.env=(false,eval a X.env)::starEach [] X.env:=by rfl):DE X (.Call (.Name "min" p) [a] [] pos) (d1 nZ fb) :=
 iP (vE hc) (fun x vx H O r Q ne hx hf k=>by
  obtain⟨ds,n,ns,rfl,hi,rfl⟩:=oX hf;obtain⟨c,vs,rfl,hq,rs⟩:=hx.list;have ev:=qF hi rs;subst ev;exact⟨c,n::ns,_,rfl,hq,(m6 ns n).1,(m6 ns n).2,k _ _ (.refl H) (.of (.int _))⟩) hm boot_min ha hg (by decide) (by decide) he
theorem yN (hc:X.calm=true)(hm:X.mg "max" = none)(ha:DB X a fb)(hg:L2.Gl X "max" := by rfl)(he:starEach [a] X.env=(false,eval a X.env)::starEach [] X.env:=by rfl):DE X (.Call (.Name "max" p) [a] [] pos) (d1 n4 fb) :=
 iP (vF hc) (fun x vx H O r Q ne hx hf k=>by
  obtain⟨ds,n,ns,rfl,hi,rfl⟩:=oX hf;obtain⟨c,vs,rfl,hq,rs⟩:=hx.list;have ev:=qF hi rs;subst ev;exact⟨c,n::ns,_,rfl,hq,(m7 ns n).1,(m7 ns n).2,k _ _ (.refl H) (.of (.int _))⟩) hm boot_max ha hg (by decide) (by decide) he
end
end DL
namespace Lw
open PySem DL
noncomputable section
noncomputable def jU:SD :=
 (cM (cO 3 (d2 dH (ck (d2 dg (ck (d2 j7 (cc 0) (cc 2))) (ck (dC (.int 7919))))) (ck (dC (.int 2147483647)))))
  (cM (cO 3 (d2 dH (ck (d2 j7 (ck (d2 dH (ck (d2 j7 (cc 3) (cc 3))) (ck (dC (.int 2147483647))))) (ck (dC (.int 40692))))) (ck (dC (.int 2147483399)))))
  (cO 1 (d2 dg (ck (d2 j7 (cc 1) (ck (d2 pH (ck (dC (.int 10))) (ck (dC (.int 9))))))) (ck (d2 gf (cc 3) (ck (dC (.int 7)))))))))
noncomputable def kN:SD :=
 (cM (cO 1 (dC (.int 0)))
  (cM (fg (dw (iy (eN (cf (dC (.int 48271)) (cf (dC (.int 69621)) (cf (dC (.int 39373)) (cf (dC (.int 44488)) cG))))))) (gN 2) jU)
  (dh (cF 1))))
noncomputable def fL:FD:=jZ 1 3 kN
noncomputable def jh:SD :=
 (cM (fW (cL (cc 1) [(sY,(ck (d1 dY (cc 0))))]) (dh (cE fL (cf (d2 cW (cc 0) (cc 1)) cG))) dW)
  (dh (cE fL (cf (dC (.int 0)) cG))))
noncomputable def cy:FD:=jZ 2 0 jh
noncomputable def jV:SD :=
 (cO 3 (d2 dH (ck (d2 j7 (cc 3) (ck (dC (.int 48271))))) (ck (dC (.int 2147483647)))))
noncomputable def kO:SD :=
 (cM (cO 3 (d2 dH (ck (d2 dg (ck (d2 dg (ck (d2 dH (cc 0) (ck (dC (.int 2147483629))))) (ck (dC (.int 1))))) (ck (d2 j7 (cc 1) (ck (dC (.int 1000003))))))) (ck (dC (.int 2147483647)))))
  (cM (fg (dM (dC (.int 3))) (gN 4) jV)
  (dh (d2 dH (ck (d2 gf (cc 3) (ck (dC (.int 97))))) (cc 2)))))
noncomputable def cX:FD:=jZ 3 2 kO
noncomputable def iq:SD :=
 (cM (cO 7 (cE cX (cf (cE cy (cf (cF 0) (cf (d2 dg (cc 1) (ck (dC (.int 1)))) cG))) (cf (cF 6) (cf (d2 qR (cc 4) (ck (dC (.int 1)))) cG)))))
  (cM (cO 8 (d2 dg (ck (d2 dg (cc 7) (ck (dC (.int 1))))) (ck (cE cX (cf (cE cy (cf (cF 0) (cf (d2 dg (cc 1) (ck (dC (.int 2)))) cG))) (cf (cF 6) (cf (d2 qR (ck (d2 qR (cc 4) (ck (dC (.int 1))))) (cc 7)) cG)))))))
  (nD 5 (gj (cf (cF 7) (cf (cF 8) cG))))))
noncomputable def jg:SD :=
 (cM (cO 4 (d2 dg (ck (dC (.int 1))) (ck (d2 dH (ck (cE cy (cf (cF 0) (cf (cF 1) cG)))) (cc 2)))))
  (cM (cO 5 (eN cG))
  (cM (fW (cL (cc 4) [(qg,(ck (dC (.int 1))))]) (fg (dM (d2 dH (ck (d2 gf (ck (cE cy (cf (cF 0) (cf (cF 1) cG)))) (cc 2))) (ck (d2 dg (cc 3) (ck (dC (.int 1))))))) (gN 6) iq) dW)
  (dh (gj (cf (cF 4) (cf (d1 df (cc 5)) cG)))))))
noncomputable def du:FD:=jZ 4 5 jg
noncomputable def fY:ED :=
 (cE cX (cf (cE cy (cf (cF 1) (cf (cF 2) cG))) (cf (cF 0) (cf (d2 dg (cc 3) (ck (dC (.int 1)))) cG))))
noncomputable def eQ:SD :=
 (fW (jy (cL (ck (d2 cW (cc 4) (cc 5))) [(qg,(ck (dC (.int 0))))]) (cL (ck (d2 cW (cc 4) (cc 6))) [(gF,(ck (dC (.int 0))))])) (xV 4 (cF 6) (dC (.int 1))) dW)
noncomputable def ic:ED :=
 (cE cX (cf (cF 1) (cf (d2 dg (ck (d2 j7 (ck (dC (.int 61))) (cc 3))) (cc 0)) (cf (d2 cW (cc 2) (ck (d2 cW (cc 4) (ck (dC (.int 1)))))) cG))))
noncomputable def f7:SD :=
 (cM (cO 10 (cE cy (cf (cF 0) (cf (d2 dg (cc 1) (ck (dC (.int 1)))) cG))))
  (nD 7 (d1 df (ck (de (dM (d2 cW (cc 4) (ck (d2 cW (cc 9) (ck (dC (.int 0))))))) 1 [10,4,8,9] (gN 0) eB ic)))))
noncomputable def ji:SD :=
 (cM (cO 4 (de (dM (d2 cW (cc 2) (ck (dC (.int 0))))) 1 [0,1,3] (gN 0) eB fY))
  (cM (fg (dw (iy (d1 i6 (ck (d2 cW (cc 2) (ck (dC (.int 1)))))))) (gT [(gN 5),(gN 6)]) eQ)
  (cM (cO 7 (eN cG))
  (cM (fg (kX (iy (d2 cW (cc 2) (ck (dC (.int 1)))))) (gT [(gN 8),(gN 9)]) f7)
  (dh (gj (cf (d1 df (cc 4)) (cf (d1 df (cc 7)) cG))))))))
noncomputable def eR:FD:=jZ 4 7 ji
noncomputable def iC:ED :=
 (d1 nH (cc 0))
noncomputable def kh:ED :=
 (d1 nH (cc 0))
noncomputable def fV:SD :=
 (cM (nD 1 (dC (.str "|")))
  (xW 1 (de (dw (eU 2)) 1 [] (gN 0) eB kh)))
noncomputable def gC:SD :=
 (cM (cO 1 (de (dw (iy (d2 cW (cc 0) (ck (dC (.int 0)))))) 1 [] (gN 0) eB iC))
  (cM (fg (dw (iy (d2 cW (cc 0) (ck (dC (.int 1)))))) (gN 2) fV)
  (jF 1 (dh (d2 jt (ck (dC (.str " "))) (cc 1))))))
noncomputable def d9:FD:=jZ 1 2 gC
noncomputable def fS:SD :=
 (cM (cO 3 (d2 dH (cc 2) (ck (d2 dg (ck (d1 gm (cc 0))) (ck (dC (.int 1)))))))
  (cM (cO 4 (d2 kF (ck (dC (.str "0123456789 |-+_.a\t"))) (ck (d2 dH (ck (d2 gf (cc 2) (ck (dC (.int 4096))))) (ck (dC (.int 18)))))))
  (cM (fW (cL (cc 1) [(gF,(ck (dC (.int 1))))]) (dh (d2 dg (ck (iF (cc 0) i5 (i4 (cF 3)))) (ck (iF (cc 0) (i4 (d2 dg (cc 3) (ck (dC (.int 1))))) i5)))) dW)
  (cM (fW (cL (cc 1) [(gF,(ck (dC (.int 2))))]) (dh (d2 dg (ck (d2 dg (ck (iF (cc 0) i5 (i4 (cF 3)))) (cc 4))) (ck (iF (cc 0) (i4 (cF 3)) i5)))) dW)
  (cM (fW (cL (cc 1) [(gF,(ck (dC (.int 3))))]) (dh (d2 dg (ck (d2 dg (ck (iF (cc 0) i5 (i4 (cF 3)))) (cc 4))) (ck (iF (cc 0) (i4 (d2 dg (cc 3) (ck (dC (.int 1))))) i5)))) dW)
  (cM (cO 5 (d2 gc (cc 0) (ck (dC (.str " ")))))
  (cM (cO 6 (d2 dH (cc 2) (ck (d1 dY (cc 5)))))
  (cM (fW (cL (cc 1) [(gF,(ck (dC (.int 4))))]) (dh (d2 jt (ck (dC (.str " "))) (ck (d2 su (ck (nr (cc 5) i5 (i4 (cF 6)))) (ck (nr (cc 5) (i4 (d2 dg (cc 6) (ck (dC (.int 1))))) i5)))))) dW)
  (cM (fW (cL (cc 1) [(gF,(ck (dC (.int 5))))]) (dh (d2 jt (ck (dC (.str " "))) (ck (d2 su (ck (nr (cc 5) i5 (i4 (d2 dg (cc 6) (ck (dC (.int 1))))))) (ck (nr (cc 5) (i4 (cF 6)) i5)))))) dW)
  (dh (cF 0)))))))))))
noncomputable def dR:FD:=jZ 3 4 fS
noncomputable def fU:SD :=
 (fW (cL (cc 1) [(mh,(ck (dC (.str "0123456789"))))]) (dh (d1 qT (ck (dC (.int 1))))) dW)
noncomputable def gB:SD :=
 (cM (fW (iU (cL (cc 0) [(gF,(ck (dC (.str ""))))]) (iU (cL (ck (d1 gm (cc 0))) [(qg,(ck (dC (.int 3))))]) (jy (cL (ck (d1 gm (cc 0))) [(qg,(ck (dC (.int 1))))]) (cL (ck (d2 kF (cc 0) (ck (dC (.int 0))))) [(gF,(ck (dC (.str "0"))))])))) (dh (d1 qT (ck (dC (.int 1))))) dW)
  (cM (fg (jL (cF 0)) (gN 1) fU)
  (dh (d1 lQ (cc 0)))))
noncomputable def dD:FD:=jZ 1 1 gB
noncomputable def jo:SD :=
 (pf 3 2 dD)
noncomputable def fH:TD :=
 (jy (cL (cc 2) [(j6,(ck (eN cG)))]) (cL (ck (d2 cW (cc 2) (ck (dC (.int 0))))) [(j6,(ck (dC (.str "|"))))]))
noncomputable def eP:SD :=
 (fW (cL (cc 5) [(gF,(ck (dC (.str "|"))))]) (lC 4 (eN cG)) (pw 4 (d1 qT (ck (dC (.int 1)))) (cE dD (cf (cF 5) cG))))
noncomputable def kP:SD :=
 (fW (eT (cL (ck (dC (.int 0))) [(rR,(cc 8)),(sY,(ck (d2 cW (cc 3) (ck (d2 cW (cc 6) (ck (dC (.int 1))))))))])) (dh (dC .none)) dW)
noncomputable def fK:SD :=
 (cM (fW (cL (ck (d1 dY (cc 7))) [(j6,(ck (d2 cW (cc 3) (ck (d2 cW (cc 6) (ck (dC (.int 0))))))))]) (dh (dC .none)) dW)
  (fg (dw (eU 7)) (gN 8) kP))
noncomputable def gR:ED :=
 (d1 df (cc 0))
noncomputable def j3:SD :=
 (cM (cO 2 (d2 gc (cc 0) (ck (dC (.str " ")))))
  (cM (cO 3 (eN cG))
  (cM (lA fH jo)
  (cM (jG 4 (eN cG))
  (cM (jF 2 (fg (dw (eU 2)) (gN 5) eP))
  (cM (fW (xP (iU (cL (ck (d1 dY (cc 3))) [(j6,(ck (d2 cW (cc 1) (ck (dC (.int 0))))))]) (iU (cL (ck (d1 dY (cc 4))) [(j6,(ck (d1 dY (ck (d2 cW (cc 1) (ck (dC (.int 1))))))))]) (iU (cL (ck (d1 nZ (cc 3))) [(sY,(ck (dC (.int 0))))]) (cL (ck (d1 n4 (cc 3))) [(qg,(ck (dC (.int 200))))]))))) (dh (dC .none)) dW)
  (cM (l6 4 (jF 4 (fg (pS (iy (d2 cW (cc 1) (ck (dC (.int 1))))) (eU 4)) (gT [(gN 6),(gN 7)]) fK)))
  (l6 4 (jF 4 (dh (gj (cf (d1 df (cc 3)) (cf (d1 df (ck (de (dw (eU 4)) 1 [] (gN 0) eB gR))) cG)))))))))))))
noncomputable def fO:FD:=jZ 2 7 j3
noncomputable def fR:ED :=
 (fZ (cL (ck (dC (.int 0))) [(rR,(cc 0)),(sY,(cc 1))]))
noncomputable def gA:SD :=
 (dh (rG (fZ (cL (ck (d1 dY (cc 0))) [(gF,(cc 1))])) (d1 iA (ck (de (dw (eU 0)) 1 [2] (gN 0) eB fR)))))
noncomputable def fB:FD:=jZ 3 0 gA
noncomputable def jd:ED :=
 (fZ (cL (ck (dC (.int 0))) [(rR,(cc 0)),(rR,(ck (dC (.int 200))))]))
noncomputable def kL:ED :=
 (cE fB (cf (cF 1) (cf (d2 cW (cc 2) (ck (d2 cW (cc 0) (ck (dC (.int 0)))))) (cf (d2 cW (cc 2) (ck (d2 cW (cc 0) (ck (dC (.int 1)))))) cG))))
noncomputable def j4:SD :=
 (cM (cO 2 (d2 cW (cc 1) (ck (dC (.int 0)))))
  (cM (cO 3 (d2 cW (cc 1) (ck (dC (.int 1)))))
  (cM (cO 4 (d2 cW (cc 0) (ck (dC (.int 1)))))
  (cM (fW (iU (cL (ck (d1 dY (cc 2))) [(j6,(ck (d2 cW (cc 0) (ck (dC (.int 0))))))]) (cL (ck (d1 dY (cc 3))) [(j6,(ck (d1 dY (cc 4))))])) (dh (dC (.bool false))) dW)
  (cM (fW (eT (lq (d1 iA (ck (de (dw (eU 2)) 1 [] (gN 0) eB jd))))) (dh (dC (.bool false))) dW)
  (dh (d1 iA (ck (de (pS (eU 4) (eU 3)) 2 [2] (gT [(gN 0),(gN 1)]) eB kL)))))))))
noncomputable def fP:FD:=jZ 2 3 j4
noncomputable def gz:ED :=
 (fZ (cL (cc 0) [(Ax,(ck (dC (.str "0123456789"))))]))
noncomputable def ig:SD :=
 (cM (fW (eT (cL (ck (dC (.int 1))) [(rR,(ck (d1 gm (cc 0)))),(rR,(ck (dC (.int 3))))])) (dh (dC (.bool false))) dW)
  (cM (fW (jy (cL (ck (d2 kF (cc 0) (ck (dC (.int 0))))) [(gF,(ck (dC (.str "0"))))]) (cL (cc 0) [(j6,(ck (dC (.str "0"))))])) (dh (dC (.bool false))) dW)
  (dh (d1 iA (ck (de (jL (cF 0)) 1 [] (gN 0) eB gz))))))
noncomputable def eS:FD:=jZ 1 0 ig
noncomputable def iE:SD :=
 (cM (fW (eT (lq (cE eS (cf (cF 0) cG)))) (lB (cf (dJ (jC "no number: " (jR (cF 0) u3))) cG) 0) dW)
  (dh (d1 lQ (cc 0))))
noncomputable def dQ:FD:=jZ 1 0 iE
noncomputable def gG:SD :=
 (fW (cL (cc 3) [(gF,(ck (dC (.str "|"))))]) (lC 2 (eN cG)) (oZ 2 (d1 qT (ck (dC (.int 1)))) (cE dQ (cf (cF 3) cG))))
noncomputable def fy:ED :=
 (d1 df (cc 0))
noncomputable def jQ:SD :=
 (cM (jG 2 (eN (cf (eN cG) cG)))
  (cM (fg (dw (iy (d2 gc (cc 0) (ck (dC (.str " ")))))) (gN 3) gG)
  (cM (cO 4 (nI (gj (cf (d1 df (ck (d2 cW (cc 2) (ck (dC (.int 0)))))) (cf (d1 df (ck (de (dw (iy (nr (cc 2) (i4 (dC (.int 1))) i5))) 1 [] (gN 0) eB fy))) cG)))))
  (cM (fW (eT (lq (cE fP (cf (cF 1) (cf (cF 4) cG))))) (lB (cf (dC (.str "what is written is no book of the form")) cG) 0) dW)
  (dh (cF 4))))))
noncomputable def ft:FD:=jZ 2 3 jQ
noncomputable def je:SD :=
 (xU ft (cf (cF 0) (cf (cF 1) cG)) (.list [.bool true,.bool true,.bool false],true))
noncomputable def fk:FD:=jZ 2 1 je
noncomputable def jS:SD :=
 (dh (rG (d1 (i7 "int") (cc 0)) (yR (d1 (i7 "bool") (cc 0)))))
noncomputable def f9:FD:=jZ 1 0 jS
noncomputable def eL:ED :=
 (cE f9 (cf (cF 0) cG))
noncomputable def fT:SD :=
 (dh (rG (d1 (i7 "tuple") (cc 0)) (d1 iA (ck (de (dw (eU 0)) 1 [] (gN 0) eB eL)))))
noncomputable def dS:FD:=jZ 1 0 fT
noncomputable def fq:ED :=
 (cE dS (cf (cF 0) cG))
noncomputable def jf:SD :=
 (cM (fW (iU (eT (lq (d1 (i7 "tuple") (cc 0)))) (iU (cL (ck (d1 dY (cc 0))) [(j6,(ck (dC (.int 2))))]) (eT (lq (cE dS (cf (d2 cW (cc 0) (ck (dC (.int 0)))) cG)))))) (dh (dC (.bool false))) dW)
  (cM (fW (iU (eT (lq (d1 (i7 "tuple") (ck (d2 cW (cc 0) (ck (dC (.int 1)))))))) (eT (lq (d1 iA (ck (de (dw (iy (d2 cW (cc 0) (ck (dC (.int 1)))))) 1 [] (gN 0) eB fq)))))) (dh (dC (.bool false))) dW)
  (dh (fZ (cL (cc 0) [(gF,(cc 1))])))))
noncomputable def fM:FD:=jZ 2 0 jf
noncomputable def j0:SD :=
 (dh (d2 cW (ck (eN (oH ["", " ", "|", " |", "0 ", "0 |", "201", "1 1 | 0", "1 1 | 0 |", "1 1 |0"]))) (ck (d2 dH (cc 0) (ck (dC (.int 10)))))))
noncomputable def fN:FD:=jZ 1 0 j0
noncomputable def mT:ED :=
 (cE cX (cf (cE cy (cf (cF 2) (cf (dC (.int 5)) cG))) (cf (d2 dg (ck (d2 j7 (ck (dC (.int 61))) (cc 3))) (cc 0)) (cf (cF 1) cG))))
noncomputable def m9:SD :=
 (cM (fW (cL (ck (d2 cW (ck (d2 cW (ck (d2 cW (cc 1) (ck (dC (.int 1))))) (cc 6))) (ck (dC (.int 1))))) [(gF,(cc 3))]) (cO 7 (d1 df (ck (de (dM (d1 dY (cc 7))) 1 [4,0,6] (gN 0) eB mT)))) dW)
  (nD 5 (cF 7)))
noncomputable def sR:ED :=
 (d1 nH (cc 0))
noncomputable def qc:SD :=
 (cO 8 (d2 dg (ck (d2 dg (cc 8) (ck (dC (.str " "))))) (ck (d1 nH (cc 9)))))
noncomputable def m8:SD :=
 (cM (cO 8 (d2 dg (cc 8) (ck (dC (.str " |")))))
  (fg (dw (eU 7)) (gN 9) qc))
noncomputable def uc:SD :=
 (cM (cO 1 (cE du (cf (cF 0) (cf (dC (.int 0)) (cf (dC (.int 4)) (cf (dC (.int 5)) cG))))))
  (cM (cO 2 (cE eR (cf (cF 0) (cf (dC (.int 3)) (cf (cF 1) (cf (dC (.int 4)) cG))))))
  (cM (cO 3 (d2 qR (ck (d2 cW (cc 1) (ck (dC (.int 0))))) (ck (dC (.int 1)))))
  (cM (fW (cL (ck (d2 dH (ck (cE cy (cf (cF 0) (cf (dC (.int 5)) cG)))) (ck (dC (.int 4))))) [(gF,(ck (dC (.int 1))))]) (cM (cO 4 (d2 wC (ck (d2 cW (ck (d2 cW (cc 2) (ck (dC (.int 0))))) (cc 3))) (ck (d2 dH (ck (d2 gf (ck (cE cy (cf (cF 0) (cf (dC (.int 5)) cG)))) (ck (dC (.int 4))))) (ck (dC (.int 201)))))))
  (cM (cO 5 (eN cG))
  (cM (fg (kX (iy (d2 cW (cc 2) (ck (dC (.int 1)))))) (gT [(gN 6),(gN 7)]) m9)
  (cO 2 (gj (cf (d2 dg (ck (nr (ck (d2 cW (cc 2) (ck (dC (.int 0))))) i5 (i4 (cF 3)))) (ck (gj (cf (cF 4) cG)))) (cf (d1 df (cc 5)) cG))))))) dW)
  (cM (cO 8 (d2 jt (ck (dC (.str " "))) (ck (de (dw (iy (d2 cW (cc 2) (ck (dC (.int 0)))))) 1 [] (gN 0) eB sR))))
  (cM (fg (dw (iy (d2 cW (cc 2) (ck (dC (.int 1)))))) (gN 7) m8)
  (cM (cO 10 (cE d9 (cf (cF 2) cG)))
  (cM (fW (iU (eT (lq (d1 (i7 "str") (cc 10)))) (cL (cc 10) [(j6,(cc 8))])) (dh (dC (.bool false))) dW)
  (cM (cO 8 (cE dR (cf (cF 8) (cf (d2 dH (ck (cE cy (cf (cF 0) (cf (dC (.int 6)) cG)))) (ck (dC (.int 8)))) (cf (d2 dH (ck (cE cy (cf (cF 0) (cf (dC (.int 7)) cG)))) (ck (d2 pH (ck (dC (.int 10))) (ck (dC (.int 9)))))) cG)))))
  (cM (fW (cL (ck (d2 dH (ck (d2 gf (ck (cE cy (cf (cF 0) (cf (dC (.int 6)) cG)))) (ck (dC (.int 8))))) (ck (dC (.int 9))))) [(gF,(ck (dC (.int 1))))]) (cO 8 (cE fN (cf (cE cy (cf (cF 0) (cf (dC (.int 7)) cG))) cG))) dW)
  (cM (fW (cL (ck (d2 dH (ck (d2 gf (ck (cE cy (cf (cF 0) (cf (dC (.int 6)) cG)))) (ck (dC (.int 72))))) (ck (dC (.int 6))))) [(gF,(ck (dC (.int 1))))]) (cO 1 (cE du (cf (cF 0) (cf (dC (.int 8)) (cf (dC (.int 4)) (cf (dC (.int 5)) cG)))))) dW)
  (cM (cO 11 (cE fO (cf (cF 8) (cf (cF 1) cG))))
  (cM (cO 12 (cE fk (cf (cF 8) (cf (cF 1) cG))))
  (cM (fW (cL (cc 11) [(yW,(ck (dC .none)))]) (dh (fZ (cL (cc 12) [(gF,(ck (eN (cf (dC (.bool true)) (cf (dC (.bool true)) (cf (dC (.bool false)) cG))))))]))) dW)
  (dh (cE fM (cf (cF 12) (cf (cF 11) cG))))))))))))))))))
noncomputable def F_law:FD:=jZ 1 12 uc
end
end Lw
namespace Lw
open PySem DL
open PySem.Builtin.Str
noncomputable abbrev tx (l:List Nat):Str:=⟨l.toArray⟩
theorem zK (z:Str)(c i:Nat):subAt z ⟨#[c]⟩ i=(z.cps[i]?==some c):=by
 have e:z.cps.extract i (i+1)=(match z.cps[i]? with|some x=>#[x]|none=>#[]):=by
  refine Array.ext_getElem? fun k=>?_;rw[Array.getElem?_extract];by_cases h:i<z.cps.size
  ·rw[bP h];dsimp only;by_cases hk:k=0
   ·subst hk;rw[if_pos ⋯,Nat.add_zero,bP h];rfl
   ·rw[if_neg ⋯];simp;omega
  ·have hn:z.cps[i]?=none:=Array.getElem?_eq_none ⋯;rw[hn,if_neg ⋯];rfl
 show (z.cps.extract i (i+(⟨#[c]⟩:Str).length)==#[c])=_;rw[show (⟨#[c]⟩:Str).length=1 from rfl,e];cases h:z.cps[i]? with
 |none=>rfl
 |some x =>
  dsimp only;rw[Bool.eq_iff_iff,beq_iff_eq,beq_iff_eq];constructor
  ·intro e;cases e;rfl
  ·intro e;cases e;rfl
theorem sk (z:Str)(c:Nat):∀(m j:Nat) (found:Array Nat) (free:Nat),free<=j->found.size<=j->j+m=z.length+1->(forIn (m:=Id) (List.range' j m) (found,free) (StrLaws.occBody z ⟨#[c]⟩ z.length (z.length+1))).run.fst.toList=found.toList++(List.range' j m).filter fun i=>z.cps[i]?==some c
 | 0,j,found,free,_,_,_=>by
  rw[List.range'_zero,List.forIn_nil,List.filter_nil,aT];rfl
 | m+1,j,found,free,h1,h2,h3=>by
  rw[List.range'_succ,bY];have hl:(⟨#[c]⟩:Str).length=1:=rfl;by_cases hc:(z.cps[j]?==some c)=true
  ·have hj:j<z.length:=by
    rcases CC j z.cps.size with q|q
    ·exact q
    ·rw[Array.getElem?_eq_none q] at hc;cases hc
   have step:StrLaws.occBody z ⟨#[c]⟩ z.length (z.length+1) j (found,free)=pure (ForInStep.yield (found.push j,j+1)):=by
    unfold StrLaws.occBody;rw[if_pos (by rw[zK,hc,hl];simp;omega)];rfl
   rw[step,pure_bind];dsimp only;rw[sk z c m (j+1) (found.push j) (j+1) (az _) (by rw[Array.size_push];omega) ⋯,List.filter_cons,if_pos hc,Array.toList_push,aK];rfl
  ·have step:StrLaws.occBody z ⟨#[c]⟩ z.length (z.length+1) j (found,free)=pure (ForInStep.yield (found,free)):=by
    unfold StrLaws.occBody;rw[if_neg (by rw[zK];simp at hc ⊢;intro _ _ _;exact hc)]
   rw[step,pure_bind];dsimp only;rw[sk z c m (j+1) found free ⋯ ⋯ ⋯,List.filter_cons,if_neg hc]
theorem tJ (z:Str)(c:Nat):occurrences z ⟨#[c]⟩ 0 z.length (z.length+1)=(List.range' 0 (z.length+1)).filter fun i=>z.cps[i]?==some c:=by
 rw[StrLaws.occ_eq];exact sk z c (z.length+1) 0 #[] 0 (az _) (az _) ⋯
end Lw
namespace Lw
open PySem DL
open PySem.Builtin.Str
noncomputable def el (c:Nat):List Nat->List (List Nat)
 |[]=>[[]]
 | x::xs=>if x=c then []::el c xs else match el c xs with
  |w::ws=>(x::w)::ws
  |[]=>[[x]]
noncomputable def rf (cur:List Nat):List (List Nat)->List (List Nat)
 |w::ws=>(cur++w)::ws
 |[]=>[cur]
theorem ik (c:Nat):∀l:List Nat,∃w ws,el c l=w::ws
 |[]=>⟨_,_,rfl⟩
 | x::xs=>by
  obtain⟨w,ws,e⟩:=ik c xs;rw[el];split
  ·exact⟨_,_,rfl⟩
  ·rw[e];exact⟨_,_,rfl⟩
noncomputable def lX (c:Nat):Nat->List Nat->List Nat
 |_,[]=>[]
 |k,x::xs=>if x=c then k::lX c (k+1) xs else lX c (k+1) xs
theorem tW (pre cur post:List Nat):(pre++cur++post).toArray.extract pre.length (pre.length+cur.length)=cur.toArray:=by
 rw[List.extract_toArray,aK,List.extract_eq_drop_take,List.drop_left,Nat.add_sub_cancel_left,List.take_left]
theorem mH (c:Nat):∀(dG pre cur:List Nat) (n:Nat),n=(pre++cur++dG).length->(((pre.length::(lX c (pre.length+cur.length) dG).map (·+1)).zip (lX c (pre.length+cur.length) dG++[n])).map fun p=>(⟨(pre++cur++dG).toArray.extract p.1 p.2⟩:Str))=(rf cur (el c dG)).map tx
 | [],pre,cur,n,hn=>by
  subst hn;have e:=tW pre cur [];simp only[lX,bO,bQ,bC,List.zip_nil_left,aD,el,rf,aT] at e ⊢;rw[au,e]
 | x::xs,pre,cur,n,hn=>by
  by_cases hx:x=c
  ·subst hx;have ih:=mH x xs (pre++cur++[x]) [] n (by rw[hn];simp);have e:=tW pre cur (x::xs);have l1:(pre++cur++[x]).length+([]:List Nat).length=pre.length+cur.length+1:=by simp;omega
   have l2:pre++cur++[x]++[]++xs=pre++cur++x::xs:=by simp
   have l3:(pre++cur++[x]).length=pre.length+cur.length+1:=by simp;omega
   rw[l1,l2,l3] at ih;rw[lX,if_pos rfl,el,if_pos rfl,aD,bV,bC,aD,ih,e];obtain⟨w,ws,ec⟩:=ik x xs;rw[ec];simp[rf]
  ·have ih:=mH c xs pre (cur++[x]) n (by rw[hn];simp);have l1:pre.length+(cur++[x]).length=pre.length+cur.length+1:=by simp;omega
   have l2:pre++(cur++[x])++xs=pre++cur++x::xs:=by simp
   rw[l1,l2] at ih;rw[lX,if_neg hx,el,if_neg hx,ih];obtain⟨w,ws,ec⟩:=ik c xs;rw[ec];simp[rf]
theorem rA (c:Nat):∀(dG pre:List Nat),(List.range' pre.length (dG.length+1)).filter (fun i=>(pre++dG)[i]?==some c)=lX c pre.length dG
 | [],pre=>by
  rw[bK,List.range'_succ,List.range'_zero,List.filter_cons,aT,List.getElem?_eq_none (az _)];rfl
 | x::xs,pre=>by
  have ih:=rA c xs (pre++[x]);rw[au,aJ,aK] at ih;rw[aj,List.range'_succ,List.filter_cons,lX];have e:(pre++x::xs)[pre.length]?=some x:=by rw[aU (az _),Nat.sub_self];rfl
  rw[e];by_cases hx:x=c
  ·subst hx;rw[if_pos (by simp),if_pos rfl];exact congrArg _ ih
  ·rw[if_neg (by simpa using hx),if_neg hx];exact ih
theorem yw (z:Str){c:Nat}(hc:c<256):decide (Builtin.Str.strKind z<Builtin.Str.strKind ⟨#[c]⟩)=false:=by
 have:Builtin.Str.strKind ⟨#[c]⟩=1:=by
  unfold Builtin.Str.strKind;rw[if_pos (by simp[hc])]
 rw[this];unfold Builtin.Str.strKind;split
 ·rfl
 ·split <;> rfl
theorem nV (l:List Nat){c:Nat}(hc:c<256):Txt.split (tx l) ⟨#[c]⟩=(el c l).map tx:=by
 have oc:occurrences (tx l) ⟨#[c]⟩ 0 (tx l).length ((tx l).length+1)=lX c 0 l:=by
  rw[tJ];have:=rA c l [];simp only[bQ,bK] at this;rw[<-this];simp[tx,Str.length]
 have pb:partsBetween (tx l) (lX c 0 l) 1=(el c l).map tx:=by
  have:=mH c l [] [] l.length (by simp);simp only[bQ,bK,bZ] at this;obtain⟨w,ws,ec⟩:=ik c l;rw[ec] at this ⊢;simpa [partsBetween,strSub,tx,Str.length,rf] using this
 unfold Txt.split;rw[oc,yw _ hc,Bool.or_false,show (⟨#[c]⟩:Str).length=1 from rfl,pb];cases l with
 |nil=>rfl
 |cons x xs =>
  rw[if_neg (by simp[tx,Str.length])];split
  ·rename_i h;have h':lX c 0 (x::xs)=[]:=List.isEmpty_iff.mp h;rw[h'] at pb;rw[<-pb];simp[partsBetween,strSub,tx,Str.length]
  ·rfl
end Lw
namespace Lw
open PySem DL
open PySem.Builtin.Str
theorem xF {l:List Nat}{c i:Nat}:StrLaws.At (tx l) ⟨#[c]⟩ (tx l).length i<->l[i]?=some c:=by
 have e:(tx l).cps[i]?=l[i]?:=by simp[tx]
 unfold StrLaws.At;rw[zK,e,beq_iff_eq];constructor
 ·exact fun h=>h.2
 ·intro h;refine⟨?_,h⟩;have:=(aE.mp h).1;show i+1<=l.toArray.size;rw[aA];omega
theorem wY (l:List Nat)(c:Nat):xK ⟨#[c]⟩ (tx l)=decide (c∈l):=by
 unfold xK;rcases StrLaws.occ_head (tx l) ⟨#[c]⟩ 1 (az _) with ⟨e,h⟩|⟨i,r,e,h,hk⟩
 ·rw[e];symm;show decide (c∈l)=false;refine decide_eq_false fun hm=>?_;obtain⟨i,hi⟩:=List.getElem?_of_mem hm;exact h i (xF.mpr hi)
 ·rw[e];symm;exact decide_eq_true (aQ (xF.mp h))
end Lw
namespace Lw
open PySem DL
open PySem.Builtin.Str
theorem kr (z:Str)(l u:Option Int):Txt.slice z l u=StrLaws.sliceText z l u:=rfl
theorem we (l:List Nat){n:Nat}(h:n<=l.length):Txt.slice (tx l) none (some (n:Int))=tx (l.take n):=by
 rw[kr,StrLaws.sliceText_to ⟨by omega,by show (n:Int)<=((l.toArray.toList.length:Nat):Int);rw[List.toList_toArray];omega⟩];simp[tx]
theorem mw (l:List Nat){n:Nat}(h:n<=l.length):Txt.slice (tx l) (some (n:Int)) none=tx (l.drop n):=by
 rw[kr,StrLaws.sliceText_from ⟨by omega,by show (n:Int)<=((l.toArray.toList.length:Nat):Int);rw[List.toList_toArray];omega⟩];simp[tx];rw[<-ba,List.take_length]
theorem vf (x:Str)(xs:List Str):glued ⟨#[32]⟩ (x::xs)=⟨xs.foldl (fun acc p=>acc++#[32]++p.cps) x.cps⟩:=rfl
theorem fi (l:List Nat):(tx l).length=l.length:=by simp[tx,Str.length]
theorem AE (l r:List Nat):tx l++tx r=tx (l++r):=by
 show (⟨l.toArray++r.toArray⟩:Str)=⟨(l++r).toArray⟩;rw[List.append_toArray]
theorem mm {l r:List Nat}(h:tx l=tx r):l=r:=by
 have:=congrArg (fun z:Str=>z.cps.toList) h;simpa [tx] using this
end Lw
namespace Lw
open PySem DL
noncomputable def gX:List Nat:=[48,49,50,51,52,53,54,55,56,57]
noncomputable def vS:List (List Nat):=(gX.map fun a=>[a])++((gX.flatMap fun a=>gX.map fun b=>[a,b])++gX.flatMap fun a=>gX.flatMap fun b=>gX.map fun c=>[a,b,c])
noncomputable def zm (l:List Nat):Bool:=match PySem.intText? (tx l) with
 |some n=>decide (0<=n)
 |none=>false
theorem yD:vS.all zm=true:=by decide +kernel
theorem vd:∀{l:List Nat},(∀x∈l,x∈gX)->1<=l.length->l.length<=3->l∈vS
 |[],_,h,_=>by simp at h
 |[a],d,_,_=>aB _ (bJ.mpr ⟨a,d a (by simp),rfl⟩)
 |[a,b],d,_,_=>av _ (aB _ (List.mem_flatMap.mpr ⟨a,d a (by simp),bJ.mpr ⟨b,d b (by simp),rfl⟩⟩))
 |[a,b,c],d,_,_=>av _ (av _ (List.mem_flatMap.mpr ⟨a,d a (by simp),List.mem_flatMap.mpr ⟨b,d b (by simp),bJ.mpr ⟨c,d c (by simp),rfl⟩⟩⟩))
 |_::_::_::_::_,_,_,h=>by simp at h
noncomputable def fw (l:List Nat):Bool:=decide (1<=l.length)&&(decide (l.length<=3)&&(!(l.head?==some 48&&l != [48])&&l.all (gX.contains ·)))
noncomputable def kG (l:List Nat):Int:=(PySem.intText? (tx l)).getD 0
theorem ym {l:List Nat}(h:fw l=true):PySem.intText? (tx l)=some (kG l)/\0<=kG l:=by
 unfold fw at h;rw[Bool.and_eq_true,Bool.and_eq_true,Bool.and_eq_true,decide_eq_true_eq,decide_eq_true_eq,bh] at h;have m:=vd (l:=l) (fun x hx=>by simpa using h.2.2.2 x hx) h.1 h.2.1;have q:=bh.mp yD l m;unfold zm at q;unfold kG;cases e:PySem.intText? (tx l) with
 |none=>rw[e] at q;cases q
 |some n =>
  rw[e] at q;exact⟨rfl,of_decide_eq_true q⟩
end Lw
namespace Lw
open PySem DL
theorem qB:(("0123456789" : Str))=tx gX:=by decide +kernel
theorem qA:(("0" : Str))=tx [48]:=by decide +kernel
theorem xT:(("" : Str))=tx []:=by decide +kernel
theorem iZ:((" " : Str))=(⟨#[32]⟩:Str):=by decide +kernel
theorem jD {l:List Nat}(h:∀c∈l,c<1114112):SeqAt.shaped (.str (tx l))=true:=by
 unfold SeqAt.shaped;rw[show (PyData.str (tx l)).canLay0=PyData.strOk (tx l) from rfl];have:PyData.strOk (tx l)=true:=by
  unfold PyData.strOk;simp[tx];exact h
 rw[this];rfl
theorem mi {a b:List Nat}(ha:∀c∈a,c<1114112)(hb:∀c∈b,c<1114112):gF (.str (tx a)) (.str (tx b))=some (decide (tx a=tx b)):=by
 unfold gF;rw[jD ha,jD hb,if_pos (by rfl)];congr 1
theorem uh {a b:List Nat}(ha:∀c∈a,c<1114112)(hb:∀c∈b,c<1114112):j6 (.str (tx a)) (.str (tx b))=some (!decide (tx a=tx b)):=by
 unfold j6;rw[jD ha,jD hb,if_pos (by rfl)];congr 1
theorem tO {x:Nat}{xs:List Nat}(h:(x::xs).length<=1000):kF (.str (tx (x::xs))) (.int 0)=some (.str ⟨#[x]⟩,false):=by
 unfold kF;dsimp only;rw[if_pos (by rw[fi];exact l4 ⋯)];simp[L2.atI,L2.ixN,tx]
theorem wK {l:List Nat}(h:l.length<=1000):gm (.str (tx l))=some (.int (l.length:Int),false):=by
 unfold gm;dsimp only;rw[if_pos (by rw[fi];exact l4 ⋯),fi]
theorem qJ (x:Nat):((⟨#[x]⟩:Str)=tx [48])<->x=48:=by
 constructor
 ·intro h;have:=mm (l:=[x]) (r:=[48]) h;simpa using this
 ·rintro rfl;rfl
end Lw
namespace Lw
open PySem DL
theorem zM (c:Nat):gz [some (.str ⟨#[c]⟩,false)]=some (.bool (gX.contains c),false):=by
 have q:xK ⟨#[c]⟩ (tx gX)=gX.contains c:=by rw[wY];simp
 unfold gz;rw[qB];simp[fZ,cL,tChain,cc,ck,dC,Ax,q]
theorem pQ {l:List Nat}(hl:l.length<=1000)(hc:∀c∈l,c<1114112):eS [.str (tx l)]=some (.bool (fw l),false):=by
 have run:eS [.str (tx l)]=(ig [some (.str (tx l),false)]).bind eK:=rfl;have q:(d1 gm (cc 0)) [some (.str (tx l),false)]=some (.int (l.length:Int),false):=wK hl;have t1:(eT (cL (ck (dC (.int 1))) [(rR,(ck (d1 gm (cc 0)))),(rR,(ck (dC (.int 3))))])) [some (.str (tx l),false)]=some (!(decide (1<=l.length)&&decide (l.length<=3))):=by
  by_cases h:1<=l.length
  ·have h':(1:Int)<=(l.length:Int):=by omega
   have e3:decide ((l.length:Int)<=3)=decide (l.length<=3):=by congr 1;apply propext;omega
   simp only[eT,cL,tChain,ck,dC,q,rR,ag,aa,decide_eq_true h',if_true,e3,decide_eq_true h,Bool.true_and]
  ·have h':¬(1:Int)<=(l.length:Int):=by omega
   simp only[eT,cL,tChain,ck,dC,q,rR,ag,aa,decide_eq_false h',decide_eq_false h,Bool.false_and,Bool.not_false];rfl
 rw[run,ig];unfold fw;by_cases h:(decide (1<=l.length)&&decide (l.length<=3))=true
 ·rw[dr (by rw[t1,h];rfl)];rw[Bool.and_eq_true,decide_eq_true_eq,decide_eq_true_eq] at h;rw[decide_eq_true h.1,decide_eq_true h.2,Bool.true_and,Bool.true_and];cases l with
  |nil=>simp at h
  |cons x xs =>
   have i0:=tO hl;have q2:(d2 kF (cc 0) (ck (dC (.int 0)))) [some (.str (tx (x::xs)),false)]=some (.str ⟨#[x]⟩,false):=i0;have c1:gF (.str ⟨#[x]⟩) (.str (tx [48]))=some (decide (x=48)):=by
    rw[show (⟨#[x]⟩:Str)=tx [x] from rfl,mi (fun c h=>by cases aM.mp h;exact hc x (by simp)) (by simp)];congr 1;exact decide_eq_decide.mpr (qJ x)
   have c2:j6 (.str (tx (x::xs))) (.str (tx [48]))=some ((x::xs) != [48]):=by
    rw[uh hc (by simp)];congr 1;rw[Bool.eq_iff_iff];simp only[Bool.not_eq_true',decide_eq_false_iff_not,bne_iff_ne,ne_eq];exact⟨fun h z=>h (by rw[z]),fun h z=>h (mm z)⟩
   have t2:(jy (cL (ck (d2 kF (cc 0) (ck (dC (.int 0))))) [(gF,(ck (dC (.str "0"))))]) (cL (cc 0) [(j6,(ck (dC (.str "0"))))])) [some (.str (tx (x::xs)),false)]=some ((x::xs).head?==some 48&&(x::xs) != [48]):=by
    rw[qA];by_cases hx:x=48
    ·subst hx;simp[jy,cL,tChain,ck,cc,dC,q2,c1,c2]
    ·simp[jy,cL,tChain,ck,cc,dC,q2,c1,c2,hx]
   have cm:=gJ (it:=jL (cF 0)) (n:=1) (ix:=[]) (g:=gN 0) (e:=gz) (ρ:=[some (.str (tx (x::xs)),false)]) (d:=fun c=>.str ⟨#[c]⟩) (β:=fun c=>.bool (gX.contains c)) (x::xs) (by simp[jL,cF,ku,tx]) ⋯ (fun c _=>⟨[some (.str ⟨#[c]⟩,false)],false,rfl,zM c⟩);cases b:((x::xs).head?==some 48&&(x::xs) != [48]) with
   |true =>
    rw[dq (by rw[t2,b]) rfl];rfl
   |false =>
    rw[dr (by rw[t2,b]),dh,d1,ck,cm,ag,aa];unfold iA;dsimp only;rw[gK];show some (PyData.bool (((x::xs).map fun c=>gX.contains c).all id),false)=_;rw[CG];rfl
 ·have h':(decide (1<=l.length)&&decide (l.length<=3))=false:=by simpa using h
  rw[dq (by rw[t1,h'];rfl) rfl,<-Bool.and_assoc,h'];rfl
end Lw
namespace Lw
open PySem DL
theorem n5 {l:List Nat}(h:fw l=true)(hl:l.length<=600):lQ (.str (tx l))=some (.int (kG l),false):=by
 unfold lQ;dsimp only;rw[if_pos (by rw[fi];omega),(ym h).1];rfl
theorem zN {l:List Nat}{p:Str}{ρ:Sl}(hp:p.length<=100)(hl:l.length<=1000)(hc:∀c∈l,c<1114112)(h0:cF 0 ρ=some (.str (tx l),false)):∃r,(cf (dJ (jC p (jR (cF 0) u3))) cG) ρ=some [r]:=by
 have rl:=StrLaws.reprText_len (tx l) (fun c hx=>by
  have:c∈l:=by simpa [tx] using hx
  have:=hc c this;omega)
 rw[fi l] at rl;have e1:jR (cF 0) u3 ρ=some [reprText (tx l)]:=by
  unfold jR;rw[h0,aa];dsimp only;rw[if_pos (l4 ⋯)];rfl
 have e2:jC p (jR (cF 0) u3) ρ=some [p,reprText (tx l)]:=by
  unfold jC;rw[e1];rfl
 have hz:(Str.empty++jT [p,reprText (tx l)]).length<=sizeLine:=by
  refine l4 ?_;unfold jT jT jT;rw[gZ,gZ,gZ];show 0+(p.length+((reprText (tx l)).length+0))<=1000000;omega
 refine⟨.str (Str.empty++jT [p,reprText (tx l)]),?_⟩;unfold cf;have e3:dJ (jC p (jR (cF 0) u3)) ρ=some (.str (Str.empty++jT [p,reprText (tx l)]),false):=by
  unfold dJ;rw[e2,aa,if_pos hz]
 rw[e3];rfl
theorem qG {t:AD}{ρ:Sl}{r:D}{n:Int}(h:t ρ=some [r]):lB t n ρ=some (.ret (rB n)):=by
 unfold lB;rw[h,aa,if_pos (by simp)]
theorem mF {l:List Nat}(hl:l.length<=600)(hc:∀c∈l,c<1114112):dQ [.str (tx l)]=some (if fw l=true then (.int (kG l),false) else rB 0):=by
 have run:dQ [.str (tx l)]=(iE [some (.str (tx l),false)]).bind eK:=rfl;have i:=pQ (l:=l) ⋯ hc;rw[run,iE];cases h:fw l with
 |true =>
  rw[h] at i;have t1:(eT (lq (cE eS (cf (cF 0) cG)))) [some (.str (tx l),false)]=some false:=by
   simp[eT,lq,cE,cf,cG,cF,i,qi]
  have e:(d1 lQ (cc 0)) [some (.str (tx l),false)]=some (.int (kG l),false):=n5 h hl;rw[dr t1,dh,e];rfl
 |false =>
  rw[h] at i;have t1:(eT (lq (cE eS (cf (cF 0) cG)))) [some (.str (tx l),false)]=some true:=by
   simp[eT,lq,cE,cf,cG,cF,i,qi]
  obtain⟨r,q⟩:=zN (l:=l) (p:=("no number: " : Str)) (ρ:=[some (.str (tx l),false)]) (by decide +kernel) ⋯ hc rfl;rw[cM,gh t1,qG q];rfl
end Lw
namespace Lw
open PySem DL
theorem wM {s0:Option Vl}(c:Nat):fU [s0,some (.str ⟨#[c]⟩,false)]=if gX.contains c=true then some (.next [s0,some (.str ⟨#[c]⟩,false)]) else some (.ret (.int (-1),false)):=by
 have q:xK ⟨#[c]⟩ (tx gX)=gX.contains c:=by rw[wY];simp
 have t:(cL (cc 1) [(mh,(ck (dC (.str "0123456789"))))]) [s0,some (.str ⟨#[c]⟩,false)]=some (!(gX.contains c)):=by
  rw[qB];simp[cL,tChain,cc,ck,dC,mh,q]
 rw[fU];cases h:gX.contains c with
 |true =>
  rw[lS (by rw[t,h];rfl),if_pos rfl];rfl
 |false =>
  rw[gh (by rw[t,h];rfl),if_neg (by simp)];rfl
theorem oa {s0:Option Vl}:∀(l:List Nat) (z:Option Vl),∃z',d7 (gN 1) fU (l.map fun c=>.str ⟨#[c]⟩) [s0,z]=if l.all (gX.contains ·)=true then some (.next [s0,z']) else some (.ret (.int (-1),false))
 |[],z=>⟨z,rfl⟩
 | c::l,z=>by
  obtain⟨z',e⟩:=oa (s0:=s0) l (some (.str ⟨#[c]⟩,false));refine⟨z',?_⟩;rw[aD,d7];simp only[gN,bN,aa];rw[wM,bW];cases h:gX.contains c with
  |true =>
   rw[if_pos rfl,aa,Bool.true_and];exact e
  |false =>
   rw[if_neg (by simp),aa,Bool.false_and,if_neg (by simp)]
theorem kc {l:List Nat}(hl:l.length<=600)(hc:∀c∈l,c<1114112):dD [.str (tx l)]=some (.int (if fw l=true then kG l else -1),false):=by
 have run:dD [.str (tx l)]=(gB [some (.str (tx l),false),none]).bind eK:=rfl;have q:(d1 gm (cc 0)) [some (.str (tx l),false),none]=some (.int (l.length:Int),false):=wK ⋯;have c0:gF (.str (tx l)) (.str (tx []))=some (decide (l=[])):=by
  rw[mi hc (by simp)];congr 1;exact decide_eq_decide.mpr ⟨mm,fun z=>by rw[z]⟩
 rw[run,gB,xT,qA];have neg:(d1 qT (ck (dC (.int 1)))) [some (.str (tx l),false),none]=some (.int (-1),false):=rfl;cases l with
 |nil =>
  rw[dq (by simp[iU,cL,tChain,ck,cc,dC,c0]) neg];rfl
 |cons x xs =>
  have q2:(d2 kF (cc 0) (ck (dC (.int 0)))) [some (.str (tx (x::xs)),false),none]=some (.str ⟨#[x]⟩,false):=tO ⋯;have c1:gF (.str ⟨#[x]⟩) (.str (tx [48]))=some (decide (x=48)):=by
   rw[show (⟨#[x]⟩:Str)=tx [x] from rfl,mi (fun c h=>by cases aM.mp h;exact hc x (by simp)) (by simp)];congr 1;exact decide_eq_decide.mpr (qJ x)
  have tt:(iU (cL (cc 0) [(gF,(ck (dC (.str (tx [])))))]) (iU (cL (ck (d1 gm (cc 0))) [(qg,(ck (dC (.int 3))))]) (jy (cL (ck (d1 gm (cc 0))) [(qg,(ck (dC (.int 1))))]) (cL (ck (d2 kF (cc 0) (ck (dC (.int 0))))) [(gF,(ck (dC (.str (tx [48])))))])))) [some (.str (tx (x::xs)),false),none]=some (decide (3<(x::xs).length)||(decide (1<(x::xs).length)&&decide (x=48))):=by
   have e1:decide ((3:Int)<((x::xs).length:Int))=decide (3<(x::xs).length):=by congr 1;apply propext;omega
   have e2:decide ((1:Int)<((x::xs).length:Int))=decide (1<(x::xs).length):=by congr 1;apply propext;omega
   have v0:(cc 0) [some (.str (tx (x::xs)),false),none]=some (.str (tx (x::xs))):=rfl;cases b1:decide (3<(x::xs).length) <;> cases b2:decide (1<(x::xs).length) <;> simp[-aj,iU,jy,cL,tChain,ck,dC,v0,q,q2,c0,c1,qg,e1,e2,b1,b2]
  obtain⟨z',lp⟩:=oa (s0:=some (.str (tx (x::xs)),false)) (x::xs) none;have hi:(jL (cF 0)) [some (.str (tx (x::xs)),false),none]=some ((x::xs).map fun c=>.str ⟨#[c]⟩):=by simp[jL,cF,ku,tx]
  cases b:(decide (3<(x::xs).length)||(decide (1<(x::xs).length)&&decide (x=48))) with
  |true =>
   rw[dq (by rw[tt,b]) neg];have:fw (x::xs)=false:=by
    unfold fw;simp at b ⊢;intro h3;rcases b with b|b
    ·omega
    ·intro h4;rcases h4 with h4|h4
     ·exact absurd b.2 h4
     ·rw[h4.2] at b;simp at b
   rw[this];rfl
  |false =>
   rw[dr (by rw[tt,b]),cM,hV hi,lp];simp only[Bool.or_eq_false_iff,Bool.and_eq_false_iff,decide_eq_false_iff_not] at b;cases ha:(x::xs).all (gX.contains ·) with
   |true =>
    have ok:fw (x::xs)=true:=by
     unfold fw;rw[ha];simp;simp at b;refine⟨by omega,?_⟩;by_cases hx:x=48
     ·refine .inr ?_;rcases b.2 with h|h
      ·exact⟨hx,h⟩
      ·exact absurd hx h
     ·exact .inl hx
    have e:(d1 lQ (cc 0)) [some (.str (tx (x::xs)),false),z']=some (.int (kG (x::xs)),false):=n5 ok hl;rw[if_pos rfl,aa];dsimp only;rw[dh,e,ok];rfl
   |false =>
    have:fw (x::xs)=false:=by
     unfold fw;rw[ha];simp
    rw[if_neg (by simp),aa,this];rfl
end Lw
namespace Lw
open PySem DL
theorem iR (c:Nat):∀l:List Nat,(el c l).length<=l.length+1
 |[]=>az _
 | x::xs=>by
  have ih:=iR c xs;obtain⟨w,ws,e⟩:=ik c xs;rw[el];split
  ·rw[aj,aj];omega
  ·rw[e] at ih ⊢;rw[aj] at ih ⊢;rw[aj];omega
theorem iQ {c:Nat}:∀{l w:List Nat},w∈el c l->w.length<=l.length/\∀x∈w,x∈l
 | [],w,h=>by
  cases aM.mp h;exact⟨az _,fun x hx=>nomatch hx⟩
 | y::ys,w,h=>by
  obtain⟨v,vs,e⟩:=ik c ys;rw[el] at h;split at h
  ·rcases aw.mp h with h|h
   ·subst h;exact⟨bt _,fun x hx=>nomatch hx⟩
   ·have ih:=iQ h;exact⟨by rw[aj];omega,fun x hx=>ao _ (ih.2 x hx)⟩
  ·rw[e] at h;dsimp only at h;rcases aw.mp h with h|h
   ·subst h;have ih:=iQ (c:=c) (l:=ys) (w:=v) (by rw[e];exact aC);refine⟨by rw[aj,aj];omega,fun x hx=>?_⟩;rcases aw.mp hx with z|z
    ·rw[z];exact aC
    ·exact ao _ (ih.2 x z)
   ·have ih:=iQ (c:=c) (l:=ys) (w:=w) (by rw[e];exact ao _ h);exact⟨by rw[aj];omega,fun x hx=>ao _ (ih.2 x hx)⟩
theorem o7 {l:List Nat}{c:Nat}(hc:c<256)(hl:l.length<=1000):gc (.str (tx l)) (.str ⟨#[c]⟩)=some (.list ((el c l).map fun w=>.str (tx w)),true):=by
 have cl:=iR c l;have hcut:(L2.cutsS (tx l) ⟨#[c]⟩).length<=sizeLine:=by
  unfold L2.cutsS;rw[length_partsBetween,tJ,fi];have:=List.length_filter_le (fun i=>(tx l).cps[i]?==some c) (List.range' 0 (l.length+1));rw[List.length_range'] at this;exact l4 ⋯
 unfold gc;dsimp only;rw[if_pos ⟨rfl,by rw[fi];exact l4 ⋯,hcut,by rw[nV l hc,ah];exact l4 ⋯⟩,nV l hc,CF];rfl
open PySem.Builtin.Str (glued tooLong)
theorem ng {a b:List Nat}(h:a.length+b.length<=1000000):dg (.str (tx a)) (.str (tx b))=some (.str (tx (a++b)),false):=by
 unfold dg;dsimp only;rw[if_pos (by rw[fi,fi];exact l4 h),AE]
theorem mv:∀ws:List (List Nat),jB (ws.map fun w=>.str (tx w))=some (ws.map tx)
 |[]=>rfl
 | w::ws=>by
  rw[aD,jB,mv ws];rfl
theorem tR:∀(ws:List (List Nat)) (l:List Nat),(ws.map tx).foldl (fun acc p=>acc++#[32]++p.cps) l.toArray=(l++ws.flatMap fun w=>32::w).toArray
 |[],l=>by simp
 | w::ws,l=>by
  rw[aD,List.foldl_cons,show (l.toArray++#[32]++(tx w).cps)=(l++32::w).toArray by simp[tx],tR ws,bq,aK]
noncomputable def dv:List (List Nat)->List Nat
 |[]=>[]
 |w::ws=>w++ws.flatMap fun w=>32::w
theorem yz:∀ws:List (List Nat),Txt.join ⟨#[32]⟩ (ws.map tx)=tx (dv ws)
 |[]=>rfl
 | w::ws=>by
  show glued ⟨#[32]⟩ (tx w::ws.map tx)=_;rw[vf];show (⟨(ws.map tx).foldl (fun acc p=>acc++#[32]++p.cps) w.toArray⟩:Str)=_;rw[tR];rfl
theorem qZ {B:Nat}:∀(ws:List (List Nat)) (n:Nat),(∀w∈ws,w.length<=B)->(ws.map tx).foldl (fun a b=>a+b.length+1) n<=n+ws.length*(B+1)
 |[],n,_=>by simp
 | w::ws,n,h=>by
  have hw:=h w (by simp);have ih:=qZ ws (n+(tx w).length+1) fun v hv=>h v (by simp[hv]);rw[fi] at ih;rw[aD,List.foldl_cons,aj,Nat.add_mul,fi];omega
theorem mL {B:Nat}{ws:List (List Nat)}(h:∀w∈ws,w.length<=B)(hb:ws.length*(B+1)<=1000000):jt (.str ⟨#[32]⟩) (.list (ws.map fun w=>.str (tx w)))=some (.str (tx (dv ws)),false):=by
 have ok:JoinOk ⟨#[32]⟩ (ws.map tx)=true:=by
  unfold JoinOk;have:=qZ ws 0 h;have e:(ws.map tx).toArray.foldl (fun a b=>a+b.length+(⟨#[32]⟩:Str).length) 0=(ws.map tx).foldl (fun a b=>a+b.length+1) 0:=by
   rw[List.foldl_toArray];rfl
  rw[e];unfold tooLong;have hz:(ws.map tx).foldl (fun a b=>a+b.length+1) 0<=sizeLine:=l4 ⋯;simp;omega
 unfold jt;dsimp only;rw[mv,aa,if_pos ok,yz]
open PySem.Builtin.Str (strSliceIndices)
theorem uD (l:List Nat)(n:Nat):Txt.slice (tx l) (some (n:Int)) none=tx (l.drop n):=by
 by_cases h:n<=l.length
 ·exact mw l h
 ·have e:strSliceIndices (some (n:Int)) none 1 (tx l).length=strSliceIndices (some ((l.length:Nat):Int)) none 1 (tx l).length:=by
   have a:¬((n:Int)<0):=by omega
   have b:¬(((l.length:Nat):Int)<0):=by omega
   have c:min (n:Int) ((l.length:Nat):Int)=((l.length:Nat):Int):=by omega
   rw[fi];unfold strSliceIndices;have p:(1:Int)>0:=by decide
   simp only[if_neg a,if_neg b,if_pos p,c,Int.min_self]
  have s:=mw l (az _);rw[kr] at s ⊢;unfold StrLaws.sliceText at s ⊢;rw[e,s,List.drop_length,List.drop_eq_nil_of_le ⋯]
theorem yS {l:List Nat}{n:Nat}(h:n<=l.length)(hz:l.length<=1000000):vt (.str (tx l)) none (some (n:Int))=some (.str (tx (l.take n)),false):=by
 unfold vt;dsimp only;rw[if_pos (by rw[fi];exact l4 hz),we l h]
theorem oI {l:List Nat}{n:Nat}(hz:l.length<=1000000):vt (.str (tx l)) (some (n:Int)) none=some (.str (tx (l.drop n)),false):=by
 unfold vt;dsimp only;rw[if_pos (by rw[fi];exact l4 hz),uD l n]
noncomputable def gQ (l:List Nat):Int:=if fw l=true then kG l else -1
theorem qV {a b:List Nat}(ha:∀c∈a,c<1114112)(hb:∀c∈b,c<1114112):j6 (.str (tx a)) (.str (tx b))=some (!decide (a=b)):=by
 rw[uh ha hb];congr 2;exact decide_eq_decide.mpr ⟨mm,fun z=>by rw[z]⟩
theorem yT {xs:List D}{n:Nat}(h:n<=xs.length):nJ (.list xs) none (some (n:Int))=some (.list (xs.take n),true):=by
 unfold nJ nK nC;dsimp only;rw[if_neg ⋯,bU,Nat.min_eq_left h];rfl
theorem vv {xs:List D}{n:Nat}(h:n<=xs.length):nJ (.list xs) (some (n:Int)) none=some (.list (xs.drop n),true):=by
 unfold nJ nK nC;dsimp only;rw[if_neg ⋯,bU,Nat.min_eq_left h,<-ba,List.take_length]
theorem rd (d:D)(ds:List D):cW (.list (d::ds)) (.int 0)=some (d,false):=by simp[cW,qh,nq]
theorem v7 (d:D)(ds:List D):nJ (.list (d::ds)) (some 1) none=some (.list ds,true):=by
 unfold nJ;dsimp only;unfold nK nC;dsimp only;rw[if_neg (by decide)];have:min (1:Int).toNat (d::ds).length=1:=by show min 1 _=1;rw[aj];omega
 rw[this];show some ((PyData.list (ds.take ((d::ds).length-1)),true):Vl)=_;rw[aj,Nat.add_sub_cancel,List.take_length]
end Lw
namespace Lw
open PySem DL
noncomputable def AI (c f found:Int):Int :=
 found*1000000000+(((c*f+7919)%2147483647*((c*f+7919)%2147483647))%2147483647*40692%2147483399)/7
noncomputable def zL (c:Int):Int:=AI c 44488 (AI c 39373 (AI c 69621 (AI c 48271 0)))
theorem qq {c f found:Int}{x:Option Vl}(hf:-(2 ^ 64)<f)(hf2:f<2 ^ 64):jU [some (.int c,false),some (.int found,false),some (.int f,false),x] =
  some (.next [some (.int c,false),some (.int (AI c f found),false),some (.int f,false),some (.int ((((c*f+7919)%2147483647*((c*f+7919)%2147483647))%2147483647*40692%2147483399)),false)]):=by
 have b1:0<=(c*f+7919)%2147483647:=bu _ (by decide);have b2:(c*f+7919)%2147483647<2147483647:=bo _ (by decide);simp[jU,cM,cO,d2,ck,cc,dC,pI hf hf2,dg,dz,gP,wB,sr (i:=(c*f+7919)%2147483647) (j:=(c*f+7919)%2147483647) ⋯ ⋯,pI,AI]
theorem tu (c:Int):fL [.int c]=some (.int (zL c),false):=by
 simp[fL,jZ,eK,kN,cM,cO,fg,dw,eN,cf,cG,dC,Cr,eV,iy,d7,gN,qq,dh,cF,zL]
noncomputable def cell (ns:List Int)(k:Nat):Int:=zL (ns.getD k 0)
theorem yB {n k:Nat}(h:k<n):nq n (k:Int)=some k:=by
 unfold nq;rw[if_pos ⋯,if_pos ⋯];simp
theorem qf {xs:List D}{k:Nat}{d:D}(h:xs[k]?=some d):qh xs (k:Int)=some d:=by
 unfold qh;have:k<xs.length:=(aE.mp h).1;rw[yB this,aa,h]
theorem il (ns:List Int)(k:Nat):cy [.list (ns.map .int),.int (k:Int)]=some (.int (cell ns k),false):=by
 by_cases h:k<ns.length
 ·have h':(k:Int)<(ns.length:Int):=by omega
  have e:qh (ns.map PyData.int) (k:Int)=some (.int (ns.getD k 0)):=qf (by rw[aN,bc h,aR,bc h];rfl);simp[cy,jZ,eK,jh,cM,fW,cL,tChain,cc,ck,d1,dY,sY,h',dh,cE,cf,cG,d2,cW,e,tu,cell]
 ·have h':¬(k:Int)<(ns.length:Int):=by omega
  have e:ns[k]?=none:=List.getElem?_eq_none ⋯;simp[cy,jZ,eK,jh,cM,fW,cL,tChain,cc,ck,d1,dY,sY,h',dW,dh,cE,cf,cG,dC,tu,cell,e]
noncomputable def Bk (s:Int):Int:=s*48271%2147483647
noncomputable def k8 (c k b:Int):Int:=Bk (Bk (Bk ((c%2147483629+1+k*1000003)%2147483647)))/97%b
theorem rE {s c k b:Int}{x:Option Vl}:jV [some (.int c,false),some (.int k,false),some (.int b,false),some (.int s,false),x] =
  some (.next [some (.int c,false),some (.int k,false),some (.int b,false),some (.int (Bk s),false),x]):=by
 simp[jV,cO,d2,ck,cc,dC,pI,dz,Bk]
theorem k7 {c k b:Int}(hb:0<b):cX [.int c,.int k,.int b]=some (.int (k8 c k b),false):=by
 simp[cX,jZ,eK,kO,cM,cO,d2,ck,cc,dC,dz,dg,pI,fg,dM,rN,fc,aV,aV.loop,d7,gN,rE,dh,gP,dz hb,k8]
theorem k4 {c k b:Int}(hb:0<b):0<=k8 c k b:=bu _ ⋯
theorem k6 {c k b:Int}(hb:0<b):k8 c k b<b:=bo _ hb
noncomputable def cR (p:Int×Int):D:=.tuple [.int p.1,.int p.2]
noncomputable def cz (k:Int)(ar:List (Int×Int)):D:=.tuple [.int k,.tuple (ar.map cR)]
structure Wf (k:Int)(ar:List (Int×Int)):Prop where
 lo:1<=k
 ok:∀p∈ar,0<=p.1/\p.1<p.2/\p.2<k
theorem lR (n:Nat):fc 0 n=(aV n).map fun (k:Nat)=>.int (k:Int):=by
 unfold fc;simp
theorem rj {ns:List Int}{first i most many kinds a b:Int}{ca cb:Int}{ar:List (Int×Int)}{y z:Option Vl}(c1:cy [.list (ns.map .int),.int (first+1)]=some (.int ca,false))(c2:cy [.list (ns.map .int),.int (first+2)]=some (.int cb,false))
  (d1':cX [.int ca,.int i,.int (kinds-1)]=some (.int a,false)) (d2':cX [.int cb,.int i,.int (kinds-1-a)]=some (.int b,false)) (hz:ar.length<sizeLine) :
  iq [some (.list (ns.map .int),false),some (.int first,false),some (.int most,false),some (.int many,false),some (.int kinds,false),some (.list (ar.map cR),true),some (.int i,false),y,z] =
   some (.next [some (.list (ns.map .int),false),some (.int first,false),some (.int most,false),some (.int many,false),some (.int kinds,false),some (.list ((ar++[(a,a+1+b)]).map cR),true),some (.int i,false),some (.int a,false),some (.int (a+1+b),false)]):=by
 simp[iq,cM,cO,cE,cf,cG,cF,d2,ck,cc,dC,dg,qR,c1,c2,d1',d2',nD,gj,pg,hz,Bx,cR]
theorem w6 {ns:List Int}{first:Nat}{most many kinds:Int}(hk:1<kinds)(n:Nat):∀(i:Nat) (ar:List (Int×Int)) (x y z:Option Vl),Wf kinds ar->ar.length+n<=1000->∃ar' x' y' z',Wf kinds ar'/\ar'.length=ar.length+n ∧
  d7 (gN 6) iq ((List.range' i n).map fun (k:Nat)=>.int (k:Int)) [some (.list (ns.map .int),false),some (.int (first:Int),false),some (.int most,false),some (.int many,false),some (.int kinds,false),some (.list (ar.map cR),true),x,y,z] =
   some (.next [some (.list (ns.map .int),false),some (.int (first:Int),false),some (.int most,false),some (.int many,false),some (.int kinds,false),some (.list (ar'.map cR),true),x',y',z']):=by
 induction n with
 |zero=>exact fun i ar x y z w _=>⟨ar,x,y,z,w,rfl,rfl⟩
 |succ n ih =>
  intro i ar x y z w hn;have c1:=il ns (first+1);have c2:=il ns (first+2);rw[show (((first+1:Nat)):Int)=(first:Int)+1 by omega] at c1;rw[show (((first+2:Nat)):Int)=(first:Int)+2 by omega] at c2;generalize cell ns (first+1)=ca at c1;generalize cell ns (first+2)=cb at c2;have hb1:0<kinds-1:=by omega
  have a0:=k4 (c:=ca) (k:=(i:Int)) hb1;have a1:=k6 (c:=ca) (k:=(i:Int)) hb1;have d1':=k7 (c:=ca) (k:=(i:Int)) hb1;generalize k8 ca (i:Int) (kinds-1)=a at a0 a1 d1';have hb2:0<kinds-1-a:=by omega
  have b0:=k4 (c:=cb) (k:=(i:Int)) hb2;have b1:=k6 (c:=cb) (k:=(i:Int)) hb2;have d2':=k7 (c:=cb) (k:=(i:Int)) hb2;generalize k8 cb (i:Int) (kinds-1-a)=b at b0 b1 d2';have w':Wf kinds (ar++[(a,a+1+b)]):=⟨w.lo,fun p hp=>by
   rcases aG.mp hp with h|h
   ·exact w.ok p h
   ·cases aM.mp h;dsimp only;omega⟩
  have hz:ar.length<sizeLine:=zf ⋯;obtain⟨ar',x',y',z',w2,l2,e2⟩:=ih (i+1) (ar++[(a,a+1+b)]) (some (.int (i:Int),false)) (some (.int a,false)) (some (.int (a+1+b),false)) w' (by rw[au,aJ];omega);refine⟨ar',x',y',z',w2,by rw[l2,au,aJ];omega,?_⟩;rw[List.range'_succ,aD,d7];simp only[gN,bN,aa];rw[rj c1 c2 d1' d2' hz,aa];exact e2
theorem tT (ns:List Int)(first:Nat){most many:Int}(hm:0<most)(hm2:most<1073741824)(hy:0<=many)(hy2:many<1000):∃k ar,du [.list (ns.map .int),.int (first:Int),.int most,.int many]=some (cz k ar,false)/\Wf k ar/\k<=most/\(ar.length:Int)<=many:=by
 have c0:=il ns first
 have k0:0<=cell ns first%most:=bu _ ⋯
 have k1:cell ns first%most<most:=bo _ hm
 have n0:0<=cell ns first/most%(many+1):=bu _ ⋯
 have n1:cell ns first/most%(many+1)<many+1:=bo _ ⋯
 have hmod:=dz (i:=cell ns first/most) (j:=many+1) ⋯;by_cases hk:1<1+cell ns first%most
 ·obtain⟨ar,x,y,z,w,l,e⟩:=w6 (ns:=ns) (first:=first) (most:=most) (many:=many) (kinds:=1+cell ns first%most) hk (cell ns first/most%(many+1)).toNat 0 [] none none none ⟨by omega,fun p hp=>by cases hp⟩ (by simp;omega);refine⟨1+cell ns first%most,ar,?_,w,by omega,by rw[l];simp;omega⟩;have hbd:-4611686018427387904<=cell ns first/most%(many+1)/\cell ns first/most%(many+1)<4611686018427387904:=by omega
  rw[bO,<-List.range_eq_range'] at e;have ei:=lR (cell ns first/most%(many+1)).toNat;simp[du,jZ,eK,jg,cM,cO,cE,cf,cG,cF,d2,ck,cc,dC,dg,c0,dz hm,gP hm hm2,hmod,eN,fW,cL,tChain,qg,hk,fg,dM,rN,hbd,ei,e,dh,gj,d1,df,Bx,cz]
 ·refine⟨1+cell ns first%most,[],?_,⟨by omega,fun p hp=>by cases hp⟩,by omega,by simpa using hy⟩;simp[du,jZ,eK,jg,cM,cO,cE,cf,cG,cF,d2,ck,cc,dC,dg,c0,dz hm,eN,fW,cL,tChain,qg,hk,dW,dh,gj,d1,df,Bx,cz]
end Lw
namespace Lw
open PySem DL
noncomputable abbrev Ar:=List (Int×Int)
noncomputable def Bi (ar:Ar)(kind:Int)(p:List Nat):Int:=match p.getLast? with
 |none=>kind
 |some i=>(ar.getD i (0,0)).2
theorem rm (k:Int)(ar:Ar):cW (cz k ar) (.int 0)=some (.int k,false):=by simp[cz,cW,qh,nq]
theorem om (k:Int)(ar:Ar):cW (cz k ar) (.int 1)=some (.tuple (ar.map cR),false):=by simp[cz,cW,qh,nq]
theorem wq (p:Int×Int):cW (cR p) (.int 0)=some (.int p.1,false):=by simp[cR,cW,qh,nq]
theorem tI (p:Int×Int):cW (cR p) (.int 1)=some (.int p.2,false):=by simp[cR,cW,qh,nq]
noncomputable def Ad (e:Int)(p:List Nat)(s:Nat):Ar->List (List Nat)
 |[]=>[]
 |a::r=>if a.1=e then (p++[s])::Ad e p (s+1) r else Ad e p (s+1) r
noncomputable def step (ar:Ar)(kind:Int)(r:List (List Nat)):List (List Nat):=r.flatMap fun p=>Ad (Bi ar kind p) p 0 ar
noncomputable def Cv (ar:Ar)(kind other:Int)(r:List (List Nat)):List (List Nat):=r.filter fun p=>decide (Bi ar kind p=other)
noncomputable def run (ar:Ar)(kind other:Int):Nat->List (List Nat)->List (List Nat)->List (List Nat)
 |0,_,f=>f
 |m+1,r,f=>run ar kind other m (step ar kind r) (f++Cv ar kind other r)
end Lw
namespace Lw
open PySem DL
noncomputable def cY (xs:List Int):D:=.tuple (xs.map .int)
noncomputable def cC (rows:List Int)(steps:List (List Int)):D:=.tuple [cY rows,.tuple (steps.map cY)]
noncomputable def gI (xs:List Int)(i:Int):Int:=xs.getD i.toNat 0
theorem oR (rows:List Int)(steps:List (List Int)):cW (cC rows steps) (.int 0)=some (cY rows,false):=by simp[cC,cW,qh,nq]
theorem oQ (rows:List Int)(steps:List (List Int)):cW (cC rows steps) (.int 1)=some (.tuple (steps.map cY),false):=by simp[cC,cW,qh,nq]
theorem tS {xs:List Int}{i:Int}(h0:0<=i)(h1:i<xs.length):xs[i.toNat]?=some (gI xs i):=by
 have hl:i.toNat<xs.length:=by omega
 unfold gI;rw[aR,bc hl];rfl
theorem v9 {xs:List Int}{i:Int}(h0:0<=i)(h1:i<xs.length):cW (cY xs) (.int i)=some (.int (gI xs i),false):=by
 unfold cY cW;dsimp only;rw[zk h0 (d:=.int (gI xs i)) (by rw[aN,tS h0 h1];rfl)];rfl
theorem qW {xs:List Int}{i:Int}(h0:0<=i)(h1:i<xs.length):cW (.list (xs.map .int)) (.int i)=some (.int (gI xs i),false):=by
 unfold cW;dsimp only;rw[zk h0 (d:=.int (gI xs i)) (by rw[aN,tS h0 h1];rfl)];rfl
theorem Bb (xs:List Int):Nb 1 (cY xs):=.tuple (pL (f:=PyData.int) (fun n=>.int 0 _) xs)
theorem yo (rows:List Int)(steps:List (List Int)):Nb 3 (cC rows steps):=.tuple (.cons (.tuple (pL (f:=PyData.int) (fun n=>.int 1 _) rows)) (.cons (.tuple (pL Bb steps)) .nil))
theorem Ab {xs:List Int}{i j v:Int}(hi:0<=i)(hj:0<=j)(hl:i<xs.length):gI (xs.set i.toNat v) j=if j=i then v else gI xs j:=by
 unfold gI;rw[aR,aR];by_cases h:j=i
 ·subst h;rw[aq ⋯,if_pos rfl];rfl
 ·rw[ae ⋯,if_neg h]
theorem rg {xs:List Int}(h:∀r∈xs,0<=r)(i:Int):0<=gI xs i:=by
 unfold gI;rw[aR];cases e:xs[i.toNat]? with
 |none=>exact Int.le_refl 0
 |some r=>exact h r (aQ e)
theorem zq {xs:List Int}{m:Int}(hm:0<=m)(h:∀r∈xs,r<=m)(i:Int):gI xs i<=m:=by
 unfold gI;rw[aR];cases e:xs[i.toNat]? with
 |none=>exact hm
 |some r=>exact h r (aQ e)
structure xH (k:Int)(ar:Ar)(rows:List Int)(steps:List (List Int)):Prop where
 len:(rows.length:Int)=k
 nn:∀r∈rows,0<=r
 sl:steps.length=ar.length
 st:∀(i:Nat) (a:Int×Int) (s:List Int),ar[i]?=some a->steps[i]?=some s->(s.length:Int)=gI rows a.1/\∀x∈s,0<=x/\x<gI rows a.2
theorem o6 (xs:List Int):dY (cY xs)=some (.int (xs.length:Int),false):=by simp[cY,dY]
theorem zH (xs:List D):dY (.tuple xs)=some (.int (xs.length:Int),false):=rfl
noncomputable def gv (rows:List Int)(a:Int×Int)(s:List Int):Bool:=decide ((s.length:Int)=gI rows a.1)&&s.all fun x=>decide (0<=x)&&decide (x<gI rows a.2)
noncomputable def gw (k:Int)(ar:Ar)(rows:List Int)(steps:List (List Int)):Bool :=
 (decide ((rows.length:Int)=k)&&decide (steps.length=ar.length))&&(rows.all (fun r=>decide (0<=r)&&decide (r<=200))&&(ar.zip steps).all fun p=>gv rows p.1 p.2)
end Lw
namespace Lw
open PySem DL
noncomputable def j9 (c:Int)(k most:Int):List Int:=(aV k.toNat).map fun (i:Nat)=>k8 c (i:Int) (most+1)
noncomputable def jc (rows:List Int)(p:Int×Int):List Int:=if 0<gI rows p.1/\gI rows p.2=0 then rows.set p.2.toNat 1 else rows
structure fA (k most:Int)(rows:List Int):Prop where
 len:(rows.length:Int)=k
 nn:∀r∈rows,0<=r
 le:∀r∈rows,r<=most
theorem kY {k most:Int}{rows:List Int}{p:Int×Int}(h:fA k most rows)(hm:1<=most):fA k most (jc rows p):=by
 unfold jc;split
 ·refine⟨by rw[aP];exact h.len,fun r hr=>?_,fun r hr=>?_⟩
  ·rcases List.mem_or_eq_of_mem_set hr with z|z
   ·exact h.nn r z
   ·omega
  ·rcases List.mem_or_eq_of_mem_set hr with z|z
   ·exact h.le r z
   ·omega
 ·exact h
theorem tV {k most:Int}(hm:1<=most):∀(l:List (Int×Int)) (rows:List Int),fA k most rows->fA k most (l.foldl jc rows)
 |[],_,h=>h
 |p::l,rows,h=>tV hm l (jc rows p) (kY h hm)
theorem l8 {k most:Int}{rows:List Int}{p:Int×Int}(h:fA k most rows)(hp:0<=p.2/\p.2<k){j:Int}(hj:0<=j):gI (jc rows p) j=if j=p.2/\0<gI rows p.1/\gI rows p.2=0 then 1 else gI rows j:=by
 have hl:=h.len;unfold jc;by_cases c:0<gI rows p.1/\gI rows p.2=0
 ·rw[if_pos c,Ab hp.1 hj ⋯];by_cases e:j=p.2
  ·rw[if_pos e,if_pos ⟨e,c⟩]
  ·rw[if_neg e,if_neg fun z=>e z.1]
 ·rw[if_neg c,if_neg fun z=>c z.2]
theorem yF {k most:Int}{rows:List Int}{p:Int×Int}(h:fA k most rows)(hp:0<=p.2/\p.2<k){j:Int}(hj:0<=j)(c:0<gI rows j):0<gI (jc rows p) j:=by
 rw[l8 h hp hj];split
 ·decide
 ·exact c
theorem tU {k most:Int}(hm:1<=most):∀(l:List (Int×Int)) (rows:List Int),fA k most rows->(∀p∈l,0<=p.2/\p.2<k)->∀{j:Int},0<=j->0<gI rows j->0<gI (l.foldl jc rows) j
 |[],_,_,_,_,_,c=>c
 |p::l,rows,h,hp,j,hj,c=>tU hm l (jc rows p) (kY h hm) (fun q hq=>hp q (by simp[hq])) hj (yF h (hp p (by simp)) hj c)
theorem oq {k most:Int}(hm:1<=most):∀(l:List (Int×Int)) (rows:List Int),fA k most rows->(∀p∈l,0<=p.2/\p.2<k)->∀{j:Int},0<=j->(∀p∈l,p.2≠j)->gI (l.foldl jc rows) j=gI rows j
 |[],_,_,_,_,_,_=>rfl
 | p::l,rows,h,hp,j,hj,c=>by
  rw[List.foldl_cons,oq hm l (jc rows p) (kY h hm) (fun q hq=>hp q (by simp[hq])) hj fun q hq=>c q (by simp[hq]),l8 h (hp p (by simp)) hj,if_neg fun z=>c p (by simp) z.1.symm]
theorem ot {k most:Int}(hm:1<=most):∀(l:List (Int×Int)) (rows:List Int),fA k most rows->(∀p∈l,0<=p.1/\p.1<p.2/\p.2<k)->l.Pairwise (fun p q=>p.1<=q.1)->∀p∈l,0<gI (l.foldl jc rows) p.1->0<gI (l.foldl jc rows) p.2
 |[],_,_,_,_,p,hp,_=>by cases hp
 | q::l,rows,h,hl,hs,p,hp,c=>by
  obtain⟨s1,s2⟩:=List.pairwise_cons.mp hs;have h':=kY (p:=q) h hm;have hl':∀p∈l,0<=p.1/\p.1<p.2/\p.2<k:=fun p hp=>hl p (by simp[hp]);have hb:∀p∈l,0<=p.2/\p.2<k:=fun p hp=>by have:=hl' p hp;omega
  rw[List.foldl_cons] at c ⊢;rcases aw.mp hp with z|z
  ·subst z;obtain⟨a0,a1,a2⟩:=hl p (by simp);rw[oq hm l _ h' hb a0 fun q hq=>by have:=hl' q hq;have:=s1 q hq;omega] at c;rw[l8 h ⟨by omega,a2⟩ a0,if_neg fun z=>by omega] at c;refine tU hm l _ h' hb ⋯ ?_;rw[l8 h ⟨by omega,a2⟩ ⋯];have nn:=rg h.nn p.2;by_cases e:gI rows p.2=0
   ·rw[if_pos ⟨rfl,c,e⟩];decide
   ·rw[if_neg fun z=>e z.2.2];omega
  ·exact ot hm l _ h' hl' s2 p z c
theorem qH:∀ar:Ar,jH (ar.map cR)=some ar
 |[]=>rfl
 | p::ar=>by
  rw[aD,jH,qH ar];rfl
theorem xS {ar:Ar}(h:ar.length<64):i6 (.tuple (ar.map cR))=some (.list ((iK ar).map cR),true):=by
 unfold i6 qu;dsimp only;rw[qH,aa,if_pos h];rfl
theorem qt {ar:Ar}{p:Int×Int}:p∈iK ar<->p∈ar:=(List.mergeSort_perm ar vQ).mem_iff
theorem xQ (ar:Ar):(iK ar).Pairwise (fun p q=>p.1<=q.1):=by
 refine (List.pairwise_mergeSort (le:=vQ) (fun a b c h1 h2=>?_) (fun a b=>?_) ar).imp fun h=>?_
 ·simp only[vQ,decide_eq_true_eq] at *;omega
 ·simp only[vQ,Bool.or_eq_true,decide_eq_true_eq];omega
 ·simp only[vQ,decide_eq_true_eq] at h;omega
noncomputable def lx (c:Int)(i:Nat)(n m:Int):List Int:=(aV n.toNat).map fun (x:Nat)=>k8 c (61*(i:Int)+(x:Int)) m
noncomputable def o5 (c:Int)(rows:List Int)(ar:Ar):List (List Int):=(ar.zipIdx).map fun p=>lx c p.2 (gI rows p.1.1) (gI rows p.1.2)
theorem Az {scr:D}{first c x most y:Int}(hc:cy [scr,.int first]=some (.int c,false))(hf:cX [.int c,.int x,.int (most+1)]=some (.int y,false)):fY [some (.int x,false),some (scr,false),some (.int first,false),some (.int most,false)]=some (.int y,false):=by
 simp[fY,cE,cf,cG,cF,hc,d2,cc,ck,dC,dg,hf]
theorem Ay {c x i y:Int}{rows:List Int}{a:Int×Int}(i2:cW (.list (rows.map .int)) (.int a.2)=some (.int (gI rows a.2),false))(hf:cX [.int c,.int (61*i+x),.int (gI rows a.2)]=some (.int y,false)):ic [some (.int x,false),some (.int c,false),some (.list (rows.map .int),true),some (.int i,false),some (cR a,false)]=some (.int y,false):=by
 have hm:j7 (.int 61) (.int i)=some (.int (61*i),false):=sr (by decide) (by decide);simp[ic,cE,cf,cG,cF,d2,cc,ck,dC,dg,hm,tI,i2,hf]
noncomputable def mE (f:Nat->Int)(k:Int):List Int:=(aV k.toNat).map f
theorem vJ {scr:D}{first c k most:Int}{ar:Ar}{f:Nat->Int}(hc:cy [scr,.int first]=some (.int c,false))(hf:∀x:Nat,cX [.int c,.int (x:Int),.int (most+1)]=some (.int (f x),false))(hk:0<=k)(hk2:k<1000) :
  (cO 4 (de (dM (d2 cW (cc 2) (ck (dC (.int 0))))) 1 [0,1,3] (gN 0) eB fY)) [some (scr,false),some (.int first,false),some (cz k ar,false),some (.int most,false),none,none,none,none,none,none,none] =
   some (.next [some (scr,false),some (.int first,false),some (cz k ar,false),some (.int most,false),some (.list ((mE f k).map .int),true),none,none,none,none,none,none]):=by
 have hi:(dM (d2 cW (cc 2) (ck (dC (.int 0))))) [some (scr,false),some (.int first,false),some (cz k ar,false),some (.int most,false),none,none,none,none,none,none,none]=some (fc 0 k.toNat):=by
  exact kJ (o:=false) (by simp[d2,cc,ck,dC,rm]) hk ⋯
 have hz:(fc 0 k.toNat).length<=sizeLine:=l4 (by rw[ja,ah,bx];omega);have hcp:dF 1 [0,1,3] [some (scr,false),some (.int first,false),some (cz k ar,false),some (.int most,false),none,none,none,none,none,none,none]=[none,some (scr,false),some (.int first,false),some (.int most,false)]:=by simp[dF]
 have hcm:iT (gN 0) eB fY [none,some (scr,false),some (.int first,false),some (.int most,false)] (fc 0 k.toNat)=some ((mE f k).map .int):=by
  rw[ja,mE,CF];exact f6 (aV k.toNat) fun x _=>⟨_,false,rfl,Az hc (hf x)⟩
 rw[cO,de,hi,aa,if_pos hz,hcp,hcm];rfl
theorem wj {c k most:Int}(hk:0<=k)(hm:0<=most):fA k most (j9 c k most):=by
 refine⟨by rw[j9,ah,bx];omega,fun r hr=>?_,fun r hr=>?_⟩
 ·obtain⟨x,_,rfl⟩:=bJ.mp hr;exact k4 ⋯
 ·obtain⟨x,_,rfl⟩:=bJ.mp hr;have:=k6 (c:=c) (k:=(x:Int)) (b:=most+1) ⋯;omega
theorem xD {k most:Int}{rows:List Int}{s0 s1 s2 s3 s7 s8 s9 s10:Option Vl}{p:Int×Int}(h:fA k most rows)(hp:0<=p.1/\p.1<p.2/\p.2<k) :
  eQ [s0,s1,s2,s3,some (.list (rows.map .int),true),some (.int p.1,false),some (.int p.2,false),s7,s8,s9,s10]=some (.next [s0,s1,s2,s3,some (.list ((jc rows p).map .int),true),some (.int p.1,false),some (.int p.2,false),s7,s8,s9,s10]):=by
 have hl:=h.len;have i1:=qW (xs:=rows) (i:=p.1) hp.1 ⋯;have i2:=qW (xs:=rows) (i:=p.2) ⋯ ⋯;have hx:nq (rows.map PyData.int).length p.2=some p.2.toNat:=by
  unfold nq;rw[if_pos ⋯,if_pos (by rw[ah];omega)]
 rw[ah] at hx;unfold jc;by_cases c1:0<gI rows p.1
 ·by_cases c2:gI rows p.2=0
  ·rw[if_pos ⟨c1,c2⟩];simp[eQ,fW,jy,cL,tChain,ck,d2,cc,dC,i1,i2,qg,c1,ip,c2,xV,cF,rN,pg,hx,List.map_set]
  ·rw[if_neg fun z=>c2 z.2];simp[eQ,fW,jy,cL,tChain,ck,d2,cc,dC,i1,i2,qg,c1,ip,c2,dW]
 ·rw[if_neg fun z=>c1 z.1];simp[eQ,fW,jy,cL,tChain,ck,d2,cc,dC,i1,qg,c1,dW]
theorem vI {k most c:Int}{rows:List Int}{scr:D}{first:Int}{s2 s3 s5 s6 s10:Option Vl}{a:Int×Int}{i:Nat}{g:List (List Int)}{f:Nat->Int}(hc:cy [scr,.int (first+1)]=some (.int c,false))(hf:0<gI rows a.1->∀x:Nat,cX [.int c,.int (61*(i:Int)+(x:Int)),.int (gI rows a.2)]=some (.int (f x),false))(h:fA k most rows)(hm:most<1000)(ha:0<=a.1/\a.1<a.2/\a.2<k)(hg:g.length<1000000) :
  f7 [some (scr,false),some (.int first,false),s2,s3,some (.list (rows.map .int),true),s5,s6,some (.list (g.map cY),true),some (.int (i:Int),false),some (cR a,false),s10] =
   some (.next [some (scr,false),some (.int first,false),s2,s3,some (.list (rows.map .int),true),s5,s6,some (.list ((g++[mE f (gI rows a.1)]).map cY),true),some (.int (i:Int),false),some (cR a,false),some (.int c,false)]):=by
 have hl:=h.len;have i1:=qW (xs:=rows) (i:=a.1) ha.1 ⋯;have i2:=qW (xs:=rows) (i:=a.2) ⋯ ⋯;have n0:=rg h.nn a.1;have n1:=zq (m:=most) (by have:=rg h.nn a.1;have:=h.le;by_cases e:rows=[];(subst e;simp at hl;omega);obtain⟨r,hr⟩:=List.exists_mem_of_ne_nil rows e;have:=h.le r hr;have:=h.nn r hr;omega) h.le a.1;have e1:(cO 10 (cE cy (cf (cF 0) (cf (d2 dg (cc 1) (ck (dC (.int 1)))) cG)))) [some (scr,false),some (.int first,false),s2,s3,some (.list (rows.map .int),true),s5,s6,some (.list (g.map cY),true),some (.int (i:Int),false),some (cR a,false),s10] =
   some (.next [some (scr,false),some (.int first,false),s2,s3,some (.list (rows.map .int),true),s5,s6,some (.list (g.map cY),true),some (.int (i:Int),false),some (cR a,false),some (.int c,false)]):=by
  simp[cO,cE,cf,cG,cF,d2,cc,ck,dC,dg,hc]
 have hi:(dM (d2 cW (cc 4) (ck (d2 cW (cc 9) (ck (dC (.int 0))))))) [some (scr,false),some (.int first,false),s2,s3,some (.list (rows.map .int),true),s5,s6,some (.list (g.map cY),true),some (.int (i:Int),false),some (cR a,false),some (.int c,false)]=some (fc 0 (gI rows a.1).toNat):=by
  exact kJ (o:=false) (by simp[d2,cc,ck,dC,wq,i1]) n0 ⋯
 have hz:(fc 0 (gI rows a.1).toNat).length<=sizeLine:=l4 (by rw[ja,ah,bx];omega);have hcp:dF 1 [10,4,8,9] [some (scr,false),some (.int first,false),s2,s3,some (.list (rows.map .int),true),s5,s6,some (.list (g.map cY),true),some (.int (i:Int),false),some (cR a,false),some (.int c,false)] =
   [none,some (.int c,false),some (.list (rows.map .int),true),some (.int (i:Int),false),some (cR a,false)]:=by simp[dF]
 have hcm:iT (gN 0) eB ic [none,some (.int c,false),some (.list (rows.map .int),true),some (.int (i:Int),false),some (cR a,false)] (fc 0 (gI rows a.1).toNat)=some ((mE f (gI rows a.1)).map .int):=by
  rw[ja,mE,CF];refine f6 (aV (gI rows a.1).toNat) fun x hx=>⟨_,false,rfl,Ay i2 (hf ?_ x)⟩;rw[List.mem_range] at hx;omega
 have hap:(g.map cY).length<sizeLine:=zf (by rw[ah];exact hg);rw[f7,cM,e1,aa];dsimp only;rw[nD,d1,ck,de,hi,aa,if_pos hz,hcp,hcm];simp only[ag,aa,df,pg,bT,List.getElem?_cons_zero,hap,if_true,bN,bj,aD,bO,cY]
theorem uz {c n m:Int}{i:Nat}(hn:0<=n)(go:0<n->0<m):((lx c i n m).length:Int)=n/\∀x∈lx c i n m,0<=x/\x<m:=by
 refine⟨by rw[lx,ah,bx];omega,fun x hx=>?_⟩;obtain⟨y,hy,rfl⟩:=bJ.mp hx;rw[List.mem_range] at hy;have hm:=go ⋯;exact⟨k4 hm,k6 hm⟩
theorem mZ {k most c:Int}{rows:List Int}{scr:D}{first:Int}{s2 s3 s5 s6:Option Vl}(hc:cy [scr,.int (first+1)]=some (.int c,false))(h:fA k most rows)(hm:most<1000):∀(l:List ((Int×Int)×Nat)) (g:List (List Int)) (x y z:Option Vl),(∀p∈l,(0<=p.1.1/\p.1.1<p.1.2/\p.1.2<k)/\(0<gI rows p.1.1->0<gI rows p.1.2))->g.length+l.length<=1000->∃x' y' z',
  d7 (gT [gN 8,gN 9]) f7 (l.map fun p=>.tuple [.int (p.2:Int),cR p.1]) [some (scr,false),some (.int first,false),s2,s3,some (.list (rows.map .int),true),s5,s6,some (.list (g.map cY),true),x,y,z] =
   some (.next [some (scr,false),some (.int first,false),s2,s3,some (.list (rows.map .int),true),s5,s6,some (.list ((g++l.map fun p=>lx c p.2 (gI rows p.1.1) (gI rows p.1.2)).map cY),true),x',y',z'])
 |[],g,x,y,z,_,_=>⟨x,y,z,by simp[d7]⟩
 | p::l,g,x,y,z,hp,hg=>by
  rw[aj] at hg;obtain⟨x',y',z',e⟩:=mZ (s2:=s2) (s3:=s3) (s5:=s5) (s6:=s6) hc h hm l (g++[lx c p.2 (gI rows p.1.1) (gI rows p.1.2)]) (some (.int (p.2:Int),false)) (some (cR p.1,false)) (some (.int c,false)) (fun q hq=>hp q (by simp[hq])) (by rw[au,aJ];omega);refine⟨x',y',z',?_⟩;rw[aD,d7];simp only[gT,mS,gN,bN,aa];rw[vI (f:=fun x=>k8 c (61*(p.2:Int)+(x:Int)) (gI rows p.1.2)) hc (fun z x=>k7 ((hp p (by simp)).2 z)) h hm (hp p (by simp)).1 ⋯,aa];dsimp only;refine Eq.trans e ?_;rw[aK];rfl
theorem yZ (ns:List Int)(first:Nat){k most:Int}{ar:Ar}(w:Wf k ar)(hk2:k<1000)(ha:ar.length<64)(hm:1<=most)(hm2:most<1000):∃rows steps,eR [.list (ns.map .int),.int (first:Int),cz k ar,.int most]=some (cC rows steps,false)/\xH k ar rows steps/\(∀r∈rows,r<=most):=by
 have c1:=il ns first
 have c2:=il ns (first+1);rw[show (((first+1:Nat)):Int)=(first:Int)+1 by omega] at c2;generalize cell ns first=c at c1
 generalize cell ns (first+1)=c' at c2;generalize PyData.list (ns.map .int)=scr at c1 c2;have k0:0<=k:=by have:=w.lo;omega
 have t1:=vJ (ar:=ar) (most:=most) (f:=fun (i:Nat)=>k8 c (i:Int) (most+1)) c1 (fun x=>k7 ⋯) k0 hk2;rw[show mE (fun (i:Nat)=>k8 c (i:Int) (most+1)) k=j9 c k most from rfl] at t1;have r0:=wj (c:=c) (most:=most) k0 ⋯;have mem:∀p∈iK ar,0<=p.1/\p.1<p.2/\p.2<k:=fun p hp=>w.ok p (qt.mp hp);have r1:=tV (k:=k) hm (iK ar) (j9 c k most) r0;have go:∀p∈ar,0<gI ((iK ar).foldl jc (j9 c k most)) p.1->0<gI ((iK ar).foldl jc (j9 c k most)) p.2:=fun p hp=>ot hm (iK ar) _ r0 mem (xQ ar) p (qt.mpr hp);obtain⟨ρ1,l1,⟨x5,x6,e1⟩,_⟩:=rq (g:=gT [gN 5,gN 6]) (b:=eQ) (d:=cR) (f:=jc) (P:=fun rows ρ=>(∃x y,ρ=[some (scr,false),some (.int (first:Int),false),some (cz k ar,false),some (.int most,false),some (.list (rows.map .int),true),x,y,none,none,none,none])/\fA k most rows) (iK ar) (j9 c k most) _ ⟨⟨none,none,rfl⟩,r0⟩ (fun p hp rows ρ zz=>by
  obtain ⟨⟨x,y,e⟩,ro⟩:=zz;subst e;exact⟨_,_,rfl,xD ro (mem p hp),⟨_,_,rfl⟩,kY ro hm⟩)
 generalize (iK ar).foldl jc (j9 c k most)=rows at r1 go e1;subst e1;have mem2:∀p∈ar.zipIdx,p.1∈ar:=fun p hp=>by
  obtain⟨q,j⟩:=p;exact (List.mem_zipIdx hp).2.2▸List.getElem_mem _
 obtain⟨y8,y9,y10,l2⟩:=mZ (s2:=some (cz k ar,false)) (s3:=some (.int most,false)) (s5:=x5) (s6:=x6) c2 r1 hm2 ar.zipIdx [] none none none (fun p hp=>⟨w.ok _ (mem2 p hp),go _ (mem2 p hp)⟩) (by rw[List.length_zipIdx];simp;omega);rw[<-oz] at l2;have t2:(fg (dw (iy (d1 i6 (ck (d2 cW (cc 2) (ck (dC (.int 1)))))))) (gT [(gN 5),(gN 6)]) eQ) [some (scr,false),some (.int (first:Int),false),some (cz k ar,false),some (.int most,false),some (.list ((j9 c k most).map .int),true),none,none,none,none,none,none] =
   some (.next [some (scr,false),some (.int (first:Int),false),some (cz k ar,false),some (.int most,false),some (.list (rows.map .int),true),x5,x6,none,none,none,none]):=by
  have hi:(dw (iy (d1 i6 (ck (d2 cW (cc 2) (ck (dC (.int 1)))))))) [some (scr,false),some (.int (first:Int),false),some (cz k ar,false),some (.int most,false),some (.list ((j9 c k most).map .int),true),none,none,none,none,none,none]=some ((iK ar).map cR):=by
   simp[dw,iy,d1,ck,d2,cc,dC,om,xS ha,eV]
  rw[fg,hi,aa,l1]
 have t3:(cO 7 (eN cG)) [some (scr,false),some (.int (first:Int),false),some (cz k ar,false),some (.int most,false),some (.list (rows.map .int),true),x5,x6,none,none,none,none] =
   some (.next [some (scr,false),some (.int (first:Int),false),some (cz k ar,false),some (.int most,false),some (.list (rows.map .int),true),x5,x6,some (.list ([].map cY),true),none,none,none]):=by simp[cO,eN,cG]
 have t4:(fg (kX (iy (d2 cW (cc 2) (ck (dC (.int 1)))))) (gT [(gN 8),(gN 9)]) f7) [some (scr,false),some (.int (first:Int),false),some (cz k ar,false),some (.int most,false),some (.list (rows.map .int),true),x5,x6,some (.list ([].map cY),true),none,none,none] =
   some (.next [some (scr,false),some (.int (first:Int),false),some (cz k ar,false),some (.int most,false),some (.list (rows.map .int),true),x5,x6,some (.list ((o5 c' rows ar).map cY),true),y8,y9,y10]):=by
  have hi:(kX (iy (d2 cW (cc 2) (ck (dC (.int 1)))))) [some (scr,false),some (.int (first:Int),false),some (cz k ar,false),some (.int most,false),some (.list (rows.map .int),true),x5,x6,some (.list ([].map cY),true),none,none,none]=some (fX 0 (ar.map cR)):=by
   simp[kX,iy,d2,ck,cc,dC,om,eV]
  rw[fg,hi,aa,l2];rfl
 refine⟨rows,o5 c' rows ar,?_,⟨r1.len,r1.nn,by rw[o5,ah,List.length_zipIdx],fun i a s e1 e2=>?_⟩,r1.le⟩
 ·have run:eR [scr,.int (first:Int),cz k ar,.int most]=(ji [some (scr,false),some (.int (first:Int),false),some (cz k ar,false),some (.int most,false),none,none,none,none,none,none,none]).bind eK:=rfl;rw[run,ji,cM,t1,aa];dsimp only;rw[cM,t2,aa];dsimp only;rw[cM,t3,aa];dsimp only;rw[cM,t4,aa];simp[dh,gj,cf,cG,d1,cc,df,Bx,eK,cC,cY]
 ·unfold o5 at e2;rw[aN,List.getElem?_zipIdx,e1] at e2;simp only[ag,aL.injEq] at e2;subst e2;have hp:a∈ar:=aQ e1;exact uz (rg r1.nn _) (go a hp)
end Lw
namespace Lw
open PySem DL
noncomputable def v5 (s:List Int)(l h:Int):Bool:=decide ((s.length:Int)=l)&&s.all fun x=>decide (0<=x)&&decide (x<h)
theorem zI {x h:Int}:fR [some (.int x,false),some (.int h,false)]=some (.bool (decide (0<=x)&&decide (x<h)),false):=by
 by_cases h0:0<=x <;> simp[fR,fZ,cL,tChain,ck,dC,cc,rR,sY,h0]
theorem vZ {s:List Int}{l h:Int}(hs:s.length<=1000000):fB [cY s,.int l,.int h]=some (.bool (v5 s l h),false):=by
 have run:fB [cY s,.int l,.int h]=(gA [some (cY s,false),some (.int l,false),some (.int h,false)]).bind eK:=rfl;have hc:=gJ (it:=dw (eU 0)) (n:=1) (ix:=[2]) (g:=gN 0) (e:=fR) (ρ:=[some (cY s,false),some (.int l,false),some (.int h,false)]) (d:=PyData.int) (β:=fun x=>.bool (decide (0<=x)&&decide (x<h))) s
  rfl hs (fun x _=>⟨[some (.int x,false),some (.int h,false)],false,rfl,zI⟩)
 have ht:(fZ (cL (ck (d1 dY (cc 0))) [(gF,(cc 1))])) [some (cY s,false),some (.int l,false),some (.int h,false)]=some (.bool (decide ((s.length:Int)=l)),false):=by
  simp[fZ,cL,tChain,ck,d1,cc,o6,ip]
 rw[run,gA,dh,rG,ht,aa];dsimp only[qi];rw[aa];unfold v5;by_cases e:(s.length:Int)=l
 ·rw[decide_eq_true e,if_pos rfl,Bool.true_and,d1,ck,hc,ag,aa,all_map];rfl
 ·rw[decide_eq_false e,if_neg Bool.false_ne_true,Bool.false_and];rfl
end Lw
namespace Lw
open PySem DL
theorem wX {x:Int}:jd [some (.int x,false)]=some (.bool (decide (0<=x)&&decide (x<=200)),false):=by
 by_cases h:0<=x <;> simp[jd,fZ,cL,tChain,ck,dC,cc,rR,h]
theorem wW {rows:List Int}{a:Int×Int}{s:List Int}(h1:0<=a.1/\a.1<rows.length)(h2:0<=a.2/\a.2<rows.length)(hs:s.length<=1000000):kL [some (cR a,false),some (cY s,false),some (cY rows,false)]=some (.bool (gv rows a s),false):=by
 have i1:=v9 h1.1 h1.2;have i2:=v9 h2.1 h2.2;have e:=vZ (l:=gI rows a.1) (h:=gI rows a.2) hs;simp[kL,cE,cf,cG,cF,d2,ck,cc,dC,wq,tI,i1,i2,e];rfl
theorem sL {k:Int}{ar:Ar}{rows:List Int}{steps:List (List Int)}(w:Wf k ar)(hr:rows.length<=1000)(ha:ar.length<=1000)(hs:∀s∈steps,s.length<=1000000):fP [cz k ar,cC rows steps]=some (.bool (gw k ar rows steps),false):=by
 have run:fP [cz k ar,cC rows steps]=(j4 [some (cz k ar,false),some (cC rows steps,false),none,none,none]).bind eK:=rfl;have t1:(cO 2 (d2 cW (cc 1) (ck (dC (.int 0))))) [some (cz k ar,false),some (cC rows steps,false),none,none,none]=some (.next [some (cz k ar,false),some (cC rows steps,false),some (cY rows,false),none,none]):=by simp[cO,d2,cc,ck,dC,oR]
 have t2:(cO 3 (d2 cW (cc 1) (ck (dC (.int 1))))) [some (cz k ar,false),some (cC rows steps,false),some (cY rows,false),none,none]=some (.next [some (cz k ar,false),some (cC rows steps,false),some (cY rows,false),some (.tuple (steps.map cY),false),none]):=by simp[cO,d2,cc,ck,dC,oQ]
 have t3:(cO 4 (d2 cW (cc 0) (ck (dC (.int 1))))) [some (cz k ar,false),some (cC rows steps,false),some (cY rows,false),some (.tuple (steps.map cY),false),none]=some (.next [some (cz k ar,false),some (cC rows steps,false),some (cY rows,false),some (.tuple (steps.map cY),false),some (.tuple (ar.map cR),false)]):=by
  simp[cO,d2,cc,ck,dC,om]
 have t4:(iU (cL (ck (d1 dY (cc 2))) [(j6,(ck (d2 cW (cc 0) (ck (dC (.int 0))))))]) (cL (ck (d1 dY (cc 3))) [(j6,(ck (d1 dY (cc 4))))])) [some (cz k ar,false),some (cC rows steps,false),some (cY rows,false),some (.tuple (steps.map cY),false),some (.tuple (ar.map cR),false)] =
   some (!(decide ((rows.length:Int)=k)&&decide (steps.length=ar.length))):=by
  have e:((steps.length:Int)=(ar.length:Int))<->steps.length=ar.length:=by omega
  by_cases h:(rows.length:Int)=k
  ·simp[iU,cL,tChain,ck,d1,cc,o6,d2,dC,rm,gE,zH,h,e]
  ·simp[iU,cL,tChain,ck,d1,cc,o6,d2,dC,rm,gE,h]
 have t5:(eT (lq (d1 iA (ck (de (dw (eU 2)) 1 [] (gN 0) eB jd))))) [some (cz k ar,false),some (cC rows steps,false),some (cY rows,false),some (.tuple (steps.map cY),false),some (.tuple (ar.map cR),false)]=some (!(rows.all fun r=>decide (0<=r)&&decide (r<=200))):=by
  have hi:(dw (eU 2)) [some (cz k ar,false),some (cC rows steps,false),some (cY rows,false),some (.tuple (steps.map cY),false),some (.tuple (ar.map cR),false)]=some (rows.map .int):=by simp[dw,eU,cY]
  have hz:(rows.map PyData.int).length<=sizeLine:=l4 (by rw[ah];omega);have hcp:dF 1 [] [some (cz k ar,false),some (cC rows steps,false),some (cY rows,false),some (.tuple (steps.map cY),false),some (.tuple (ar.map cR),false)]=[none]:=by simp[dF]
  rw[eT,lq,d1,ck,de,hi,aa,if_pos hz,hcp,f6 rows fun x _=>⟨_,false,rfl,wX⟩,ag,ag,aa,iA,gK];simp only[ag,aa,qi,CG];rfl
 rw[run,j4,cM,t1,aa];dsimp only;rw[cM,t2,aa];dsimp only;rw[cM,t3,aa];dsimp only;rw[cM,fW,t4,aa];unfold gw;by_cases h1:(decide ((rows.length:Int)=k)&&decide (steps.length=ar.length))=true
 ·rw[h1,Bool.not_true,if_neg Bool.false_ne_true,dW,aa,Bool.true_and];dsimp only;rw[cM,fW,t5,aa];rw[Bool.and_eq_true,decide_eq_true_eq,decide_eq_true_eq] at h1;by_cases h2:(rows.all fun r=>decide (0<=r)&&decide (r<=200))=true
  ·rw[h2,Bool.not_true,if_neg Bool.false_ne_true,dW,aa,Bool.true_and];dsimp only;have hi:(pS (eU 4) (eU 3)) [some (cz k ar,false),some (cC rows steps,false),some (cY rows,false),some (.tuple (steps.map cY),false),some (.tuple (ar.map cR),false)]=some ((ar.zip steps).map fun p=>.tuple [cR p.1,cY p.2]):=by
    rw[<-ml];simp[pS,eU]
   have hz:((ar.zip steps).map fun p=>PyData.tuple [cR p.1,cY p.2]).length<=sizeLine:=l4 (by rw[ah,List.length_zip];omega);have hcp:dF 2 [2] [some (cz k ar,false),some (cC rows steps,false),some (cY rows,false),some (.tuple (steps.map cY),false),some (.tuple (ar.map cR),false)]=[none,none,some (cY rows,false)]:=by simp[dF]
   rw[dh,d1,ck,de,hi,aa,if_pos hz,hcp,f6 (β:=fun p=>.bool (gv rows p.1 p.2)) (ar.zip steps) fun p hp=>⟨_,false,rfl,wW (by have:=w.ok p.1 (bz hp).1;omega) (by have:=w.ok p.1 (bz hp).1;omega) (hs p.2 (bz hp).2)⟩];rw[ag,ag,aa,iA,gK];simp only[ag,aa,eK,CG];rfl
  ·rw[Bool.not_eq_true] at h2;rw[h2,Bool.not_false,if_pos rfl,Bool.false_and];rfl
 ·rw[Bool.not_eq_true] at h1;rw[h1,Bool.not_false,if_pos rfl,Bool.false_and];rfl
end Lw
namespace Lw
open PySem DL
theorem vT (i:Int):f9 [.int i]=some (.bool true,false):=by
 simp[f9,jZ,eK,jS,dh,rG,d1,i7,tQ,cc,qi,yR]
theorem wD (x:Int):eL [some (.int x,false)]=some (.bool true,false):=by
 simp[eL,cE,cf,cG,cF,vT]
theorem oY {α:Type}(xs:List α):iA (.list (xs.map fun _=>.bool true))=some (.bool true,false):=by
 rw[iA,gK (fun _=>true) xs];simp
theorem mO {xs:List Int}(h:xs.length<=1000000):dS [cY xs]=some (.bool true,false):=by
 have hz:(xs.map PyData.int).length<=sizeLine:=l4 (by rw[ah];exact h);have hc:(de (dw (eU 0)) 1 [] (gN 0) eB eL) [some (cY xs,false)]=some (.list (xs.map fun _=>.bool true),true):=by
  have hi:(dw (eU 0)) [some (cY xs,false)]=some (xs.map .int):=by simp[dw,eU,cY]
  have hcp:dF 1 [] [some (cY xs,false)]=[none]:=by simp[dF]
  rw[de,hi,aa,if_pos hz,hcp,f6 xs fun x _=>⟨_,false,rfl,wD x⟩];rfl
 have run:dS [cY xs]=(fT [some (cY xs,false)]).bind eK:=rfl;have h1:(d1 (i7 "tuple") (cc 0)) [some (cY xs,false)]=some (.bool true,false):=by simp[d1,cc,cY,i7,tQ]
 have h2:(d1 iA (ck (de (dw (eU 0)) 1 [] (gN 0) eB eL))) [some (cY xs,false)]=some (.bool true,false):=by
  rw[d1,ck,hc,ag,aa,oY]
 rw[run,fT,dh,rG,h1,aa];simp[qi,h2,eK]
end Lw
namespace Lw
open PySem DL
theorem A8 {xs:List Int}(h:xs.length<=1000000):fq [some (cY xs,false)]=some (.bool true,false):=by
 simp[fq,cE,cf,cG,cF,mO h]
theorem ye {rows:List Int}{steps:List (List Int)}(hr:rows.length<=1000000)(hl:steps.length<=1000000)(hs:∀s∈steps,s.length<=1000000):fM [cC rows steps,cC rows steps]=some (.bool true,false):=by
 have run:fM [cC rows steps,cC rows steps]=(jf [some (cC rows steps,false),some (cC rows steps,false)]).bind eK:=rfl;have l2:dY (cC rows steps)=some (.int 2,false):=by simp[cC,dY]
 have a1:i7 "tuple" (cC rows steps)=some (.bool true,false):=by simp[cC,i7,tQ]
 have a2:i7 "tuple" (.tuple (steps.map cY))=some (.bool true,false):=by simp[i7,tQ]
 have t1:(iU (eT (lq (d1 (i7 "tuple") (cc 0)))) (iU (cL (ck (d1 dY (cc 0))) [(j6,(ck (dC (.int 2))))]) (eT (lq (cE dS (cf (d2 cW (cc 0) (ck (dC (.int 0)))) cG)))))) [some (cC rows steps,false),some (cC rows steps,false)]=some false:=by
  simp[iU,eT,lq,d1,cc,a1,qi,cL,tChain,ck,l2,dC,gE,cE,cf,cG,d2,oR,mO hr]
 have hi:(dw (iy (d2 cW (cc 0) (ck (dC (.int 1)))))) [some (cC rows steps,false),some (cC rows steps,false)]=some (steps.map cY):=by simp[dw,iy,d2,cc,ck,dC,oQ,eV]
 have hz:(steps.map cY).length<=sizeLine:=l4 (by rw[ah];exact hl);have hcp:dF 1 [] [some (cC rows steps,false),some (cC rows steps,false)]=[none]:=by simp[dF]
 have hc:(de (dw (iy (d2 cW (cc 0) (ck (dC (.int 1)))))) 1 [] (gN 0) eB fq) [some (cC rows steps,false),some (cC rows steps,false)]=some (.list (steps.map fun _=>.bool true),true):=by
  rw[de,hi,aa,if_pos hz,hcp,f6 (β:=fun _=>.bool true) steps fun x hx=>⟨_,false,rfl,A8 (hs x hx)⟩];rfl
 have h2:(lq (d1 iA (ck (de (dw (iy (d2 cW (cc 0) (ck (dC (.int 1)))))) 1 [] (gN 0) eB fq)))) [some (cC rows steps,false),some (cC rows steps,false)]=some true:=by
  rw[lq,d1,ck,hc,ag,aa,oY];rfl
 have t2:(iU (eT (lq (d1 (i7 "tuple") (ck (d2 cW (cc 0) (ck (dC (.int 1)))))))) (eT (lq (d1 iA (ck (de (dw (iy (d2 cW (cc 0) (ck (dC (.int 1)))))) 1 [] (gN 0) eB fq)))))) [some (cC rows steps,false),some (cC rows steps,false)]=some false:=by
  have h3:(lq (d1 (i7 "tuple") (ck (d2 cW (cc 0) (ck (dC (.int 1))))))) [some (cC rows steps,false),some (cC rows steps,false)]=some true:=by simp[lq,d1,ck,d2,cc,dC,oQ,a2,qi]
  simp only[iU,eT,h3,h2,aa,Bool.not_true,Bool.false_eq_true,if_false]
 have e3:=xy (yo rows steps);rw[run,jf,cM,fW,t1,aa,if_neg Bool.false_ne_true,dW,aa];dsimp only;rw[cM,fW,t2,aa,if_neg Bool.false_ne_true,dW,aa];simp[dh,fZ,cL,tChain,cc,e3,eK]
end Lw
namespace Lw
open PySem DL
noncomputable def fu:List (List Int)->List Int->List (List Nat)->List (List Int)
 |D,c,[]=>D++[c]
 |D,c,w::ws=>if w=[124] then fu (D++[c]) [] ws else fu D (c++[gQ w]) ws
noncomputable def xJ:List (List Int)->List Int->List (List Nat)->Option (List (List Int))
 |D,c,[]=>some (D++[c])
 |D,c,w::ws=>if w=[124] then xJ (D++[c]) [] ws else if fw w=true then xJ D (c++[kG w]) ws else none
theorem pO:∀(ws:List (List Nat)) (D:List (List Int)) (c:List Int),fu D c ws=D++fu [] c ws
 |[],D,c=>by rw[fu,fu];rfl
 | w::ws,D,c=>by
  rw[fu,fu];split
  ·rw[pO ws (D++[c]),pO ws ([]++[c])];simp
  ·exact pO ws D _
theorem sE:∀(ws:List (List Nat)) (D:List (List Int)) (c:List Int),(∃g∈D++[c],(-1:Int)∈g)->∃g∈fu D c ws,(-1:Int)∈g
 |[],D,c,h=>by rw[fu];exact h
 | w::ws,D,c,⟨g,hg,hn⟩=>by
  rw[fu];split
  ·exact sE ws (D++[c]) [] ⟨g,aB _ hg,hn⟩
  ·refine sE ws D _ ?_;rcases aG.mp hg with z|z
   ·exact⟨g,aB _ z,hn⟩
   ·cases aM.mp z;exact⟨c++[gQ w],by simp,aB _ hn⟩
theorem pB:∀(ws:List (List Nat)) (D:List (List Int)) (c:List Int),xJ D c ws=some (fu D c ws)\/xJ D c ws=none/\∃g∈fu D c ws,(-1:Int)∈g
 |[],D,c=>.inl rfl
 | w::ws,D,c=>by
  rw[xJ,fu];split
  ·exact pB ws _ _
  ·split
   ·rename_i h;rw[gQ,if_pos h];exact pB ws _ _
   ·rename_i h;refine .inr ⟨rfl,sE ws D _ ⟨c++[gQ w],by simp,?_⟩⟩;rw[gQ,if_neg h];simp
theorem yq (ws:List (List Nat))(D:List (List Int))(c:List Int):∃g gs,fu D c ws=g::gs:=by
 induction ws generalizing D c with
 |nil =>
  rw[fu];cases D with
  |nil=>exact⟨_,_,rfl⟩
  |cons d D=>exact⟨_,_,rfl⟩
 |cons w ws ih =>
  rw[fu];split
  ·exact ih _ _
  ·exact ih _ _
theorem kU:∀(ws:List (List Nat)) (D:List (List Int)) (c:List Int),(fu D c ws).length<=D.length+1+ws.length
 |[],D,c=>by rw[fu,au];simp
 | w::ws,D,c=>by
  rw[fu,aj];split
  ·have:=kU ws (D++[c]) [];rw[au,aJ] at this;omega
  ·have:=kU ws D (c++[gQ w]);omega
theorem jY {m:Nat}:∀(ws:List (List Nat)) (D:List (List Int)) (c:List Int),(∀g∈D,g.length<=m)->c.length+ws.length<=m->∀g∈fu D c ws,g.length<=m
 | [],D,c,h,hc=>by
  rw[fu];intro g hg;rcases aG.mp hg with z|z
  ·exact h g z
  ·cases aM.mp z;simpa using hc
 | w::ws,D,c,h,hc=>by
  rw[aj] at hc;rw[fu];split
  ·refine jY ws _ _ (fun g hg=>?_) (by simp;omega);rcases aG.mp hg with z|z
   ·exact h g z
   ·cases aM.mp z;omega
  ·exact jY ws _ _ h (by rw[au,aJ];omega)
noncomputable def gp:List (List Nat)->List (List Nat)
 |[]=>[]
 |w::ws=>if w=[124] then [] else w::gp ws
noncomputable def dX:List (List Nat)->List (List Nat)
 |[]=>[]
 |w::ws=>if w=[124] then w::ws else dX ws
theorem lD:∀ws:List (List Nat),(gp ws).length+(dX ws).length=ws.length
 |[]=>rfl
 | w::ws=>by
  have:=lD ws;rw[gp,dX];split
  ·simp
  ·rw[aj,aj];omega
theorem nX:∀{ws:List (List Nat)}{w:List Nat},w∈dX ws->w∈ws
 | v::ws,w,h=>by
  rw[dX] at h;split at h
  ·exact h
  ·exact ao _ (nX h)
noncomputable def iV (ws:List (List Nat)):List (List Int):=match dX ws with
 |[]=>[]
 |_::r=>fu [] [] r
theorem kH:∀(ws:List (List Nat)) (c:List Int),fu [] c ws=(c++(gp ws).map gQ)::iV ws
 |[],c=>by rw[fu,gp,iV,dX];simp
 | w::ws,c=>by
  unfold iV;rw[fu,gp,dX];split
  ·dsimp only;rw[pO];simp
  ·have:=kH ws (c++[gQ w]);rw[this,iV,aD,aK];rfl
noncomputable def lK (k:Int)(ar:Ar)(ws:List (List Nat)):Option (List Int×List (List Int)):=if gw k ar ((gp ws).map gQ) (iV ws)=true then some ((gp ws).map gQ,iV ws) else none
noncomputable def tG (k:Int)(ar:Ar)(ws:List (List Nat)):Option (List Int×List (List Int)):=match xJ [] [] ws with
 |some (r::ss)=>if gw k ar r ss=true then some (r,ss) else none
 |_=>none
theorem yY {k:Int}{ar:Ar}{r:List Int}{ss:List (List Int)}(h:gw k ar r ss=true):∀g∈r::ss,∀x∈g,(0:Int)<=x:=by
 unfold gw at h;simp only[Bool.and_eq_true,decide_eq_true_eq] at h;obtain⟨⟨_,hl⟩,hr,hs⟩:=h;intro g hg x hx;rcases aw.mp hg with z|z
 ·subst z;have:=bh.mp hr x hx;simp only[Bool.and_eq_true,decide_eq_true_eq] at this;exact this.1
 ·obtain⟨i,hi,e⟩:=List.mem_iff_getElem.mp z;have ha:i<ar.length:=by omega
  have hz:i<(ar.zip ss).length:=by rw[List.length_zip];omega
  have m:(ar[i],ss[i])∈ar.zip ss:=by
   have:=List.getElem_mem hz;rw[List.getElem_zip] at this;exact this
  have q:=bh.mp hs _ m;unfold gv at q;simp only[Bool.and_eq_true] at q;have:=bh.mp q.2 x (by rw[e];exact hx);simp only[Bool.and_eq_true,decide_eq_true_eq] at this;exact this.1
theorem uM (k:Int)(ar:Ar)(ws:List (List Nat)):tG k ar ws=lK k ar ws:=by
 unfold tG lK;have sp:=kH ws [];rw[bQ] at sp;rcases pB ws [] [] with h|⟨h,g,hg,hn⟩
 ·rw[h,sp]
 ·rw[h];dsimp only;rw[if_neg];intro z;rw[sp] at hg;have:=yY z g hg _ hn;omega
end Lw
namespace Lw
open PySem DL
theorem qC:(("|" : Str))=(⟨#[124]⟩:Str):=by decide +kernel
noncomputable def gD (G:List (List Int)):List D:=G.map fun g=>.list (g.map .int)
theorem pU (A B:List (List Int)):gD (A++B)=gD A++gD B:=bj
theorem kK (G:List (List Int)):(gD G).length=G.length:=ah _
theorem tM (D:List (List Int))(c:List Int)(ρ:Sl):jO (gD (D++[c])) (d1 qT (ck (dC (.int 1)))) ρ=some (D.length,c.map .int):=by
 unfold jO;rw[show (d1 qT (ck (dC (.int 1)))) (unown ρ)=some (.int (-1),false) from rfl,aa];show (nq (gD (D++[c])).length (-1)).bind _=_;have e:nq (gD (D++[c])).length (-1)=some D.length:=by
  unfold nq;rw[kK,au,aJ,if_neg (by decide),if_pos ⋯];congr 1;omega
 have g:(gD (D++[c]))[D.length]?=some (.list (c.map .int)):=by
  rw[pU,aU (by rw[kK];omega),kK,Nat.sub_self];rfl
 rw[e,aa,g];rfl
theorem qw (D:List (List Int))(c c':List Int):(gD (D++[c])).set D.length (.list (c'.map .int))=gD (D++[c']):=by
 rw[pU,pU,List.set_append_right _ _ (by rw[kK];omega),kK,Nat.sub_self];rfl
theorem sZ {w:List Nat}(hc:∀c∈w,c<1114112):gF (.str (tx w)) (.str ⟨#[124]⟩)=some (decide (w=[124])):=by
 show gF (.str (tx w)) (.str (tx [124]))=_;rw[mi hc (by simp)];congr 1;exact decide_eq_decide.mpr ⟨mm,fun z=>by rw[z]⟩
theorem AB {w:List Nat}(hc:∀c∈w,c<1114112):j6 (.str (tx w)) (.str ⟨#[124]⟩)=some (!decide (w=[124])):=qV (b:=[124]) hc (by simp)
theorem lF {i:Nat}{ρ:Sl}{G:List (List Int)}(h:gU i ρ=some (gD G))(hz:G.length<1000000):lC i (eN cG) ρ=some (.next (ρ.set i (some (cQ (gD (G++[[]])),true)))):=by
 unfold lC;rw[h,aa];show (if (gD G).length<sizeLine then _ else _)=_;rw[if_pos (by rw[kK];exact zf hz),pU];rfl
theorem Ct {s0 s1 s4:Option Vl}{D:List (List Int)}{c:List Int}{w:List Nat}(hw:w.length<=600)(hc:∀c∈w,c<1114112)(hD:D.length+c.length<1000):gG [s0,s1,some (cQ (gD (D++[c])),true),some (.str (tx w),false),s4] =
  if w=[124] then some (.next [s0,s1,some (cQ (gD (D++[c]++[[]])),true),some (.str (tx w),false),s4]) else if fw w=true then some (.next [s0,s1,some (cQ (gD (D++[c++[kG w]])),true),some (.str (tx w),false),s4]) else some (.ret (rB 0)):=by
 have tt:(cL (cc 3) [(gF,(ck (dC (.str "|"))))]) [s0,s1,some (cQ (gD (D++[c])),true),some (.str (tx w),false),s4]=some (decide (w=[124])):=by
  rw[qC];exact sZ hc
 have da:gU 2 [s0,s1,some (cQ (gD (D++[c])),true),some (.str (tx w),false),s4]=some (gD (D++[c])):=rfl;rw[gG];by_cases h:w=[124]
 ·rw[gh (by rw[tt,decide_eq_true h]),if_pos h,lF da (by rw[au,aJ];omega)];rfl
 ·rw[lS (by rw[tt,decide_eq_false h]),if_neg h];have rn:=mF hw hc;have v:(cE dQ (cf (cF 3) cG)) (unown [s0,s1,some (cQ (gD (D++[c])),true),some (.str (tx w),false),s4])=dQ [.str (tx w)]:=rfl;unfold oZ;rw[da,aa,tM,aa,v,rn,aa];cases fw w with
  |false=>rfl
  |true =>
   rw[if_pos rfl,if_pos rfl];show (if (c.map PyData.int).length<sizeLine then _ else _)=_;rw[if_pos (by rw[ah];exact zf ⋯)];have e:=qw D c (c++[kG w]);rw[bj] at e;rw[show c.map PyData.int++[PyData.int (kG w)]=c.map PyData.int++[kG w].map PyData.int from rfl,e];rfl
theorem pC {s0 s1 s4:Option Vl}:∀(ws:List (List Nat)) (D:List (List Int)) (c:List Int) (s3:Option Vl),(∀w∈ws,w.length<=600/\∀c∈w,c<1114112)->D.length+c.length+ws.length<1000->∃s3',d7 (gN 3) gG (ws.map fun w=>.str (tx w)) [s0,s1,some (cQ (gD (D++[c])),true),s3,s4]=match xJ D c ws with
  |some G=>some (.next [s0,s1,some (cQ (gD G),true),s3',s4])
  |none=>some (.ret (rB 0))
 |[],D,c,s3,_,_=>⟨s3,rfl⟩
 | w::ws,D,c,s3,h,hz=>by
  have hw:=h w (by simp);rw[aj] at hz;have one:=Ct (s0:=s0) (s1:=s1) (s4:=s4) (D:=D) (c:=c) hw.1 hw.2 ⋯;rw[aD,d7];simp only[gN,bN,aa,one];rw[xJ];by_cases h1:w=[124]
  ·rw[if_pos h1,if_pos h1,aa];exact pC ws (D++[c]) [] _ (fun v hv=>h v (by simp[hv])) (by rw[au,aJ];simp;omega)
  ·rw[if_neg h1,if_neg h1];by_cases h2:fw w=true
   ·rw[if_pos h2,if_pos h2,aa];exact pC ws D (c++[kG w]) _ (fun v hv=>h v (by simp[hv])) (by rw[au,aJ];omega)
   ·rw[if_neg h2,if_neg h2];exact⟨none,rfl⟩
theorem pN:∀xs:List Int,dZ (xs.map .int)=true
 |[]=>rfl
 |x::xs=>by rw[aD,dZ,pN xs,fE];rfl
theorem qX:∀ss:List (List Int),dZ (ss.map cY)=true
 |[]=>rfl
 |s::ss=>by rw[aD,dZ,qX ss,cY,fE,pN];rfl
theorem yp (r:List Int)(ss:List (List Int)):fE (cC r ss)=true:=by
 unfold cC;rw[fE,dZ,dZ,dZ,cY,fE,fE,pN,qX];rfl
theorem xY:∀{ws:List (List Nat)}{D G:List (List Int)}{c:List Int},xJ D c ws=some G->G=fu D c ws:=by
 intro ws D G c h;rcases pB ws D c with z|⟨z,_⟩
 ·rw[z] at h;exact (aL.inj h).symm
 ·rw[z] at h;cases h
noncomputable def lg (o:Option (List Int×List (List Int)))(e:Vl):Vl:=match o with
 |some p=>(cC p.1 p.2,false)
 |none=>e
theorem pA {l:List Nat}{k:Int}{ar:Ar}(w:Wf k ar)(ha:ar.length<=1000)(hl:l.length<=600)(hc:∀c∈l,c<1114112):ft [.str (tx l),cz k ar]=some (lg (tG k ar (el 32 l)) (rB 0)):=by
 have run:ft [.str (tx l),cz k ar]=(jQ [some (.str (tx l),false),some (cz k ar,false),none,none,none]).bind eK:=rfl;have sp:=o7 (l:=l) (c:=32) (by decide) ⋯;have cl:=iR 32 l;have cs:∀w∈el 32 l,w.length<=600/\∀c∈w,c<1114112:=fun w hw=>by
  have:=iQ hw;exact⟨by omega,fun c hx=>hc c (this.2 c hx)⟩
 generalize el 32 l=W at sp cl cs;have h0:(jG 2 (eN (cf (eN cG) cG))) [some (.str (tx l),false),some (cz k ar,false),none,none,none]=some (.next [some (.str (tx l),false),some (cz k ar,false),some (cQ (gD ([]++[[]])),true),none,none]):=rfl;have it:(dw (iy (d2 gc (cc 0) (ck (dC (.str " ")))))) [some (.str (tx l),false),some (cz k ar,false),some (cQ (gD ([]++[[]])),true),none,none]=some (W.map fun w=>.str (tx w)):=by
  rw[iZ];show ((gc (.str (tx l)) (.str ⟨#[32]⟩)).bind _)=_;rw[sp];rfl
 obtain⟨s3,lp⟩:=pC (s0:=some (.str (tx l),false)) (s1:=some (cz k ar,false)) (s4:=none) W [] [] none cs (by simp;omega);rw[run,jQ,cS h0,cM,hV it,lp];unfold tG;cases hG:xJ [] [] W with
 |none=>rfl
 |some G =>
  have eG:=xY hG;obtain⟨r,ss,e⟩:=yq W [] [];have ln:=kU W [] [];have le:=jY (m:=1000) W [] [] (fun g hg=>nomatch hg) (by simp;omega);rw[e] at eG ln le;subst eG;dsimp only[aa];rw[aj] at ln;simp only[bK,bZ] at ln;have it2:(dw (iy (nr (cc 2) (i4 (dC (.int 1))) i5))) (unown [some (.str (tx l),false),some (cz k ar,false),some (cQ (gD (r::ss)),true),s3,none])=some (ss.map fun g=>.list (g.map .int)):=by
   show (((nJ (.list (.list (r.map .int)::gD ss)) (some 1) none)).bind fun x=>eV x.1)=_;rw[v7];rfl
  have cm:=gJ (it:=dw (iy (nr (cc 2) (i4 (dC (.int 1))) i5))) (n:=1) (ix:=[]) (g:=gN 0) (e:=fy) (ρ:=unown [some (.str (tx l),false),some (cz k ar,false),some (cQ (gD (r::ss)),true),s3,none]) (d:=fun g:List Int=>.list (g.map .int)) (β:=cY) ss it2 ⋯ (fun g _=>⟨_,false,rfl,rfl⟩);have bk:(nI (gj (cf (d1 df (ck (d2 cW (cc 2) (ck (dC (.int 0)))))) (cf (d1 df (ck (de (dw (iy (nr (cc 2) (i4 (dC (.int 1))) i5))) 1 [] (gN 0) eB fy))) cG)))) [some (.str (tx l),false),some (cz k ar,false),some (cQ (gD (r::ss)),true),s3,none]=some (cC r ss,false):=by
   have o1:(d1 df (ck (d2 cW (cc 2) (ck (dC (.int 0)))))) (unown [some (.str (tx l),false),some (cz k ar,false),some (cQ (gD (r::ss)),true),s3,none])=some (cY r,false):=by
    show (((cW (.list (.list (r.map .int)::gD ss)) (.int 0)).map (·.1)).bind df)=_;rw[rd];rfl
   have o2:(d1 df (ck (de (dw (iy (nr (cc 2) (i4 (dC (.int 1))) i5))) 1 [] (gN 0) eB fy))) (unown [some (.str (tx l),false),some (cz k ar,false),some (cQ (gD (r::ss)),true),s3,none])=some (.tuple (ss.map cY),false):=by
    rw[d1,ck,cm];rfl
   rw[nI,gj,cf,o1,aa,cf,o2];show (if fE (cC r ss)=true then some ((cC r ss,false):Vl) else none)=_;rw[if_pos (yp r ss)]
  have h4:(cO 4 (nI (gj (cf (d1 df (ck (d2 cW (cc 2) (ck (dC (.int 0)))))) (cf (d1 df (ck (de (dw (iy (nr (cc 2) (i4 (dC (.int 1))) i5))) 1 [] (gN 0) eB fy))) cG))))) [some (.str (tx l),false),some (cz k ar,false),some (cQ (gD (r::ss)),true),s3,none]=some (.next [some (.str (tx l),false),some (cz k ar,false),some (cQ (gD (r::ss)),true),s3,some (cC r ss,false)]):=by
   rw[cO,bk];rfl
  have ib:=sL w (rows:=r) (steps:=ss) (le r (by simp)) ha (fun s hs=>by have:=le s (by simp[hs]);omega);have tt:(eT (lq (cE fP (cf (cF 1) (cf (cF 4) cG))))) [some (.str (tx l),false),some (cz k ar,false),some (cQ (gD (r::ss)),true),s3,some (cC r ss,false)]=some (!(gw k ar r ss)):=by
   show (((fP [cz k ar,cC r ss]).bind fun x=>qi x.1).bind fun c=>some (!c))=_;rw[ib];rfl
  rw[cS h4];cases hb:gw k ar r ss with
  |true =>
   rw[dr (by rw[tt,hb];rfl),if_pos rfl];rfl
  |false =>
   rw[cM,gh (by rw[tt,hb];rfl),qG rfl,if_neg (by simp)];rfl
end Lw
namespace Lw
open PySem DL
theorem pR:∀ns:List Int,jb (ns.map .int)=some ns
 |[]=>rfl
 |n::ns=>by simp only[aD,jb,rN,aa,pR ns,ag]
theorem wL:∀{ws:List (List Nat)},(∀w∈ws,∀c∈w,c<1114112)->SeqAt.shaped (.list (ws.map fun w=>.str (tx w)))=true:=by
 intro ws h;have g:∀{ws:List (List Nat)},(∀w∈ws,∀c∈w,c<1114112)->PyData.canLayAll0 (ws.map fun w=>.str (tx w))=true/\PyData.depthAll (ws.map fun w=>.str (tx w))<=2:=by
  intro ws;induction ws with
  |nil=>exact fun _=>⟨by simp[PyData.canLayAll0],by simp[PyData.depthAll]⟩
  |cons w ws ih =>
   intro h;have i:=ih fun v hv=>h v (by simp[hv]);have s:=jD (h w (by simp));unfold SeqAt.shaped at s;rw[Bool.and_eq_true] at s;refine⟨by rw[aD];simp[PyData.canLayAll0,s.1,i.1],?_⟩;rw[aD];simp only[PyData.depthAll,PyData.depth];have:=i.2;omega
 have q:=g h;unfold SeqAt.shaped;rw[Bool.and_eq_true];refine⟨by simp[PyData.canLay0,q.1],decide_eq_true ?_⟩;simp only[PyData.depth];have:=q.2;omega
theorem qm {ws:List (List Nat)}(h:∀w∈ws,∀c∈w,c<1114112):j6 (.list (ws.map fun w=>.str (tx w))) (.list [])=some (!ws.isEmpty):=by
 have h2:SeqAt.shaped (.list [])=true:=by simp[SeqAt.shaped,PyData.canLay0,PyData.canLayAll0,PyData.depth,PyData.depthAll]
 have h3:SeqAt.noMix (.list (ws.map fun w=>.str (tx w))) (.list [])=true:=by cases ws <;> simp[SeqAt.noMix,SeqAt.noMixAll]
 have h4:Spec.same (.list (ws.map fun w=>.str (tx w))) (.list [])=ws.isEmpty:=by cases ws <;> simp[Spec.same,Spec.sameAll]
 unfold j6;rw[wL h,h2,h3,h4];rfl
theorem oC {s0 s1 s4 s5 s6 s7 s8:Option Vl}:∀(ws:List (List Nat)) (acc:List Int),(∀w∈ws,w.length<=600/\∀c∈w,c<1114112)->acc.length+ws.length<1000->eZ fH jo (ws.length+1) [s0,s1,some (.list (ws.map fun w=>.str (tx w)),true),some (.list (acc.map .int),true),s4,s5,s6,s7,s8]=some (.next [s0,s1,some (.list ((dX ws).map fun w=>.str (tx w)),true),some (.list ((acc++(gp ws).map gQ).map .int),true),s4,s5,s6,s7,s8])
 | [],acc,_,_=>by
  have t:fH [s0,s1,some (.list (([]:List (List Nat)).map fun w=>.str (tx w)),true),some (.list (acc.map .int),true),s4,s5,s6,s7,s8]=some false:=by
   have:=qm (ws:=[]) (by simp);unfold fH jy;show ((j6 (.list (([]:List (List Nat)).map fun w=>.str (tx w))) (.list [])).bind _)=_;rw[this];rfl
  rw[eZ,t,aa,if_neg (by simp),gp,dX,bO (f:=gQ),aT]
 | w::ws,acc,h,hz=>by
  have hw:=h w (by simp);rw[aj] at hz;have wn:=qm (ws:=w::ws) fun v hv=>(h v hv).2;have t:fH [s0,s1,some (.list ((w::ws).map fun w=>.str (tx w)),true),some (.list (acc.map .int),true),s4,s5,s6,s7,s8]=some (!decide (w=[124])):=by
   unfold fH jy;rw[qC];show ((j6 (.list ((w::ws).map fun w=>.str (tx w))) (.list [])).bind _)=_;rw[wn];show cL (ck (d2 cW (cc 2) (ck (dC (.int 0))))) [(j6,(ck (dC (.str ⟨#[124]⟩))))] [s0,s1,some (.list ((w::ws).map fun w=>.str (tx w)),true),some (.list (acc.map .int),true),s4,s5,s6,s7,s8]=_;rw[cL];show (((cW (.list (.str (tx w)::ws.map fun w=>.str (tx w))) (.int 0)).map (·.1)).bind fun x=>tChain x _ _)=_;rw[rd];exact AB hw.2
  rw[aj,eZ,t,aa,gp,dX];by_cases hb:w=[124]
  ·rw[decide_eq_true hb,if_pos hb,if_pos hb,if_neg (by simp),bO (f:=gQ),aT]
  ·rw[decide_eq_false hb,if_neg hb,if_neg hb,Bool.not_false,if_pos rfl];have ln:=kc hw.1 hw.2;have body:jo [s0,s1,some (.list ((w::ws).map fun w=>.str (tx w)),true),some (.list (acc.map .int),true),s4,s5,s6,s7,s8]=some (.next [s0,s1,some (.list (ws.map fun w=>.str (tx w)),true),some (.list ((acc++[gQ w]).map .int),true),s4,s5,s6,s7,s8]):=by
    unfold jo;show (if 3=2\/fE (.str (tx w))=false then none else (dD [.str (tx w)]).bind _)=_;rw[if_neg (by simp[fE]),ln,aa];show (Option.map _ (if (acc.map PyData.int).length<sizeLine then _ else _))=_;rw[if_pos (by rw[ah];exact zf ⋯),bj];rfl
   rw[body,aa];dsimp only;have ih:=oC (s0:=s0) (s1:=s1) (s4:=s4) (s5:=s5) (s6:=s6) (s7:=s7) (s8:=s8) ws (acc++[gQ w]) (fun v hv=>h v (by simp[hv])) (by rw[au,aJ];omega);rw[ih,aK];rfl
theorem yI {s0 s1 s2 s3 s6 s7 s8:Option Vl}{D:List (List Int)}{c:List Int}{w:List Nat}(hw:w.length<=600)(hc:∀c∈w,c<1114112)(hD:D.length+c.length<1000):eP [s0,s1,s2,s3,some (cQ (gD (D++[c])),true),some (.str (tx w),false),s6,s7,s8] =
  some (.next [s0,s1,s2,s3,some (cQ (gD (if w=[124] then D++[c]++[[]] else D++[c++[gQ w]])),true),some (.str (tx w),false),s6,s7,s8]):=by
 have tt:(cL (cc 5) [(gF,(ck (dC (.str "|"))))]) [s0,s1,s2,s3,some (cQ (gD (D++[c])),true),some (.str (tx w),false),s6,s7,s8]=some (decide (w=[124])):=by
  rw[qC];exact sZ hc
 have da:gU 4 [s0,s1,s2,s3,some (cQ (gD (D++[c])),true),some (.str (tx w),false),s6,s7,s8]=some (gD (D++[c])):=rfl;rw[eP];by_cases h:w=[124]
 ·rw[gh (by rw[tt,decide_eq_true h]),if_pos h,lF da (by rw[au,aJ];omega)];rfl
 ·rw[lS (by rw[tt,decide_eq_false h]),if_neg h];have rn:=kc hw hc;have v:(cE dD (cf (cF 5) cG)) (unown [s0,s1,s2,s3,some (cQ (gD (D++[c])),true),some (.str (tx w),false),s6,s7,s8])=dD [.str (tx w)]:=rfl;unfold pw;rw[da,aa,tM,aa,v,rn,aa];show (if (c.map PyData.int).length<sizeLine then _ else _)=_;rw[if_pos (by rw[ah];exact zf ⋯)];have e:=qw D c (c++[gQ w]);rw[bj] at e;rw[<-e];rfl
theorem lL {s0 s1 s2 s3 s6 s7 s8:Option Vl}:∀(ws:List (List Nat)) (D:List (List Int)) (c:List Int) (s5:Option Vl),(∀w∈ws,w.length<=600/\∀c∈w,c<1114112)->D.length+c.length+ws.length<1000->∃s5',d7 (gN 5) eP (ws.map fun w=>.str (tx w)) [s0,s1,s2,s3,some (cQ (gD (D++[c])),true),s5,s6,s7,s8]=some (.next [s0,s1,s2,s3,some (cQ (gD (fu D c ws)),true),s5',s6,s7,s8])
 |[],D,c,s5,_,_=>⟨s5,rfl⟩
 | w::ws,D,c,s5,h,hz=>by
  have hw:=h w (by simp);rw[aj] at hz;have one:=yI (s0:=s0) (s1:=s1) (s2:=s2) (s3:=s3) (s6:=s6) (s7:=s7) (s8:=s8) (D:=D) (c:=c) hw.1 hw.2 ⋯;rw[aD,d7];simp only[gN,bN,aa,one];rw[fu];by_cases h1:w=[124]
  ·rw[if_pos h1,if_pos h1];exact lL ws (D++[c]) [] _ (fun v hv=>h v (by simp[hv])) (by rw[au,aJ];simp;omega)
  ·rw[if_neg h1,if_neg h1];exact lL ws D (c++[gQ w]) _ (fun v hv=>h v (by simp[hv])) (by rw[au,aJ];omega)
theorem nY:∀{ws:List (List Nat)}{w:List Nat}{r:List (List Nat)},dX ws=w::r->w=[124]
 | v::ws,w,r,h=>by
  rw[dX] at h;split at h
  ·rename_i e;cases h;exact e
  ·exact nY h
theorem xh {s0 s1 s2 s3 s6 s7 s8:Option Vl}(ws:List (List Nat))(s5:Option Vl)(h:∀w∈ws,w.length<=600/\∀c∈w,c<1114112)(hz:ws.length<1000):∃s5',d7 (gN 5) eP ((dX ws).map fun w=>.str (tx w)) [s0,s1,s2,s3,some (cQ (gD []),true),s5,s6,s7,s8]=some (.next [s0,s1,s2,s3,some (cQ (gD (iV ws)),true),s5',s6,s7,s8]):=by
 have rl:=lD ws;unfold iV;cases e:dX ws with
 |nil=>exact⟨s5,rfl⟩
 |cons w r =>
  have hw:=nY e;subst hw;have hr:∀v∈r,v.length<=600/\∀c∈v,c<1114112:=fun v hv=>h v (nX (by rw[e];simp[hv]));rw[e,aj] at rl;obtain⟨s5',lp⟩:=lL (s0:=s0) (s1:=s1) (s2:=s2) (s3:=s3) (s6:=s6) (s7:=s7) (s8:=s8) r [] [] (some (.str (tx [124]),false)) hr (by simp;omega);refine⟨s5',?_⟩;have one:eP [s0,s1,s2,s3,some (cQ (gD []),true),some (.str (tx [124]),false),s6,s7,s8]=some (.next [s0,s1,s2,s3,some (cQ (gD ([]++[[]])),true),some (.str (tx [124]),false),s6,s7,s8]):=by
   have tt:(cL (cc 5) [(gF,(ck (dC (.str "|"))))]) [s0,s1,s2,s3,some (cQ (gD []),true),some (.str (tx [124]),false),s6,s7,s8]=some true:=by
    rw[qC];exact (sZ (w:=[124]) (by simp)).trans (by simp)
   rw[eP,gh tt,lF (G:=[]) rfl (by decide)];rfl
  rw[aD,d7];simp only[gN,bN,aa,one];exact lp
theorem ui:∀(ns:List Int) (n:Int),eY (fun x b=>decide (x<b)) n ns<0<->∃x∈n::ns,x<0
 |[],n=>by simp[eY]
 | m::ns,n=>by
  have ih:=ui ns (if decide (m<n)=true then m else n);show eY (fun x b=>decide (x<b)) (if decide (m<n)=true then m else n) ns<0<->_;rw[ih];simp only[aw,exists_eq_or_imp];split
  ·rename_i h;have:=of_decide_eq_true h;constructor
   ·rintro (h|h)
    ·exact .inr (.inl h)
    ·exact .inr (.inr h)
   ·rintro (h|h|h)
    ·exact .inl ⋯
    ·exact .inl h
    ·exact .inr h
  ·rename_i h;have:¬m<n:=by simpa using h
   constructor
   ·rintro (h|h)
    ·exact .inl h
    ·exact .inr (.inr h)
   ·rintro (h|h|h)
    ·exact .inl h
    ·exact .inl ⋯
    ·exact .inr h
theorem uj:∀(ns:List Int) (n:Int),200<eY (fun x b=>decide (x>b)) n ns<->∃x∈n::ns,200<x
 |[],n=>by simp[eY]
 | m::ns,n=>by
  have ih:=uj ns (if decide (m>n)=true then m else n);show 200<eY (fun x b=>decide (x>b)) (if decide (m>n)=true then m else n) ns<->_;rw[ih];simp only[aw,exists_eq_or_imp];split
  ·rename_i h;have:=of_decide_eq_true h;constructor
   ·rintro (h|h)
    ·exact .inr (.inl h)
    ·exact .inr (.inr h)
   ·rintro (h|h|h)
    ·exact .inl ⋯
    ·exact .inl h
    ·exact .inr h
  ·rename_i h;have:¬m>n:=by simpa using h
   constructor
   ·rintro (h|h)
    ·exact .inl h
    ·exact .inr (.inr h)
   ·rintro (h|h|h)
    ·exact .inl h
    ·exact .inl ⋯
    ·exact .inr h
end Lw
namespace Lw
open PySem DL
theorem zp {rows:List Int}{s0 s1 s2 s4 s5 s7 s8:Option Vl}{a:Int×Int}{i:Int}{x:Int}(hp:cW (cR a) (.int i)=some (.int x,false))(h0:0<=x)(h1:x<rows.length):(d2 cW (cc 3) (ck (d2 cW (cc 6) (ck (dC (.int i)))))) [s0,s1,s2,some (.list (rows.map .int),true),s4,s5,some (cR a,false),s7,s8]=some (.int (gI rows x),false):=by
 show ((((cW (cR a) (.int i)).map (·.1)).bind fun y=>cW (.list (rows.map .int)) y))=_;rw[hp];exact qW h0 h1
theorem oE {s0 s1 s2 s4 s5 s7:Option Vl}{rows:List Int}{a:Int×Int}(h0:0<=a.2)(h1:a.2<rows.length):∀(s:List Int) (s8:Option Vl),∃s8',d7 (gN 8) kP (s.map .int) [s0,s1,s2,some (.list (rows.map .int),true),s4,s5,some (cR a,false),s7,s8]=if (s.all fun x=>decide (0<=x)&&decide (x<gI rows a.2))=true then some (.next [s0,s1,s2,some (.list (rows.map .int),true),s4,s5,some (cR a,false),s7,s8']) else some (.ret (.none,false))
 |[],s8=>⟨s8,rfl⟩
 | x::s,s8=>by
  obtain⟨s8',ih⟩:=oE h0 h1 (s0:=s0) (s1:=s1) (s2:=s2) (s4:=s4) (s5:=s5) (s7:=s7) (rows:=rows) (a:=a) s (some (.int x,false));refine⟨s8',?_⟩;have g:=zp (s0:=s0) (s1:=s1) (s2:=s2) (s4:=s4) (s5:=s5) (s7:=s7) (s8:=some (.int x,false)) (i:=1) (tI a) h0 h1;have tt:(eT (cL (ck (dC (.int 0))) [(rR,(cc 8)),(sY,(ck (d2 cW (cc 3) (ck (d2 cW (cc 6) (ck (dC (.int 1))))))))])) [s0,s1,s2,some (.list (rows.map .int),true),s4,s5,some (cR a,false),s7,some (.int x,false)]=some (!(decide (0<=x)&&decide (x<gI rows a.2))):=by
   have v8:cc 8 [s0,s1,s2,some (.list (rows.map .int),true),s4,s5,some (cR a,false),s7,some (.int x,false)]=some (.int x):=rfl;by_cases h:0<=x
   ·simp only[eT,cL,tChain,ck,dC,v8,g,rR,sY,ag,aa,decide_eq_true h,if_true,Bool.true_and]
   ·simp only[eT,cL,tChain,ck,dC,v8,rR,ag,aa,decide_eq_false h,Bool.false_and];rfl
  rw[aD,d7];simp only[gN,bN,aa];rw[kP,bW];cases hb:(decide (0<=x)&&decide (x<gI rows a.2)) with
  |true =>
   rw[lS (by rw[tt,hb];rfl),Bool.true_and];exact ih
  |false =>
   rw[gh (by rw[tt,hb];rfl),Bool.false_and,if_neg (by simp)];rfl
theorem yH {s0 s1 s2 s4 s5 s8:Option Vl}{rows s:List Int}{a:Int×Int}(h0:0<=a.1/\a.1<rows.length)(h1:0<=a.2/\a.2<rows.length):∃s8',fK [s0,s1,s2,some (.list (rows.map .int),true),s4,s5,some (cR a,false),some (.list (s.map .int),false),s8]=if gv rows a s=true then some (.next [s0,s1,s2,some (.list (rows.map .int),true),s4,s5,some (cR a,false),some (.list (s.map .int),false),s8']) else some (.ret (.none,false)):=by
 obtain⟨s8',lp⟩:=oE h1.1 h1.2 (s0:=s0) (s1:=s1) (s2:=s2) (s4:=s4) (s5:=s5) (s7:=some (.list (s.map .int),false)) (rows:=rows) (a:=a) s s8;refine⟨s8',?_⟩;have g:=zp (s0:=s0) (s1:=s1) (s2:=s2) (s4:=s4) (s5:=s5) (s7:=some (.list (s.map .int),false)) (s8:=s8) (i:=0) (wq a) h0.1 h0.2;have ln:(d1 dY (cc 7)) [s0,s1,s2,some (.list (rows.map .int),true),s4,s5,some (cR a,false),some (.list (s.map .int),false),s8]=some (.int (s.length:Int),false):=by
  show some ((PyData.int (((s.map PyData.int).length:Nat):Int),false):Vl)=_;rw[ah]
 have tt:(cL (ck (d1 dY (cc 7))) [(j6,(ck (d2 cW (cc 3) (ck (d2 cW (cc 6) (ck (dC (.int 0))))))))]) [s0,s1,s2,some (.list (rows.map .int),true),s4,s5,some (cR a,false),some (.list (s.map .int),false),s8]=some (decide ((s.length:Int)≠gI rows a.1)):=by
  simp only[cL,tChain,ck,ln,g,ag,aa,gE]
 have it:(dw (eU 7)) [s0,s1,s2,some (.list (rows.map .int),true),s4,s5,some (cR a,false),some (.list (s.map .int),false),s8]=some (s.map .int):=rfl;rw[fK];unfold gv;by_cases h:(s.length:Int)=gI rows a.1
 ·rw[dr (by rw[tt];simp[h]),hV it,lp,decide_eq_true h,Bool.true_and]
 ·rw[dq (by rw[tt];simp[h]) rfl,decide_eq_false h,Bool.false_and,if_neg (by simp)]
theorem oD {s0 s1 s2 s4 s5:Option Vl}{rows:List Int}:∀(l:List ((Int×Int)×List Int)) (s6 s7 s8:Option Vl),(∀p∈l,(0<=p.1.1/\p.1.1<rows.length)/\0<=p.1.2/\p.1.2<rows.length)->∃s6' s7' s8',d7 (gT [gN 6,gN 7]) fK (l.map fun p=>.tuple [cR p.1,.list (p.2.map .int)]) [s0,s1,s2,some (.list (rows.map .int),true),s4,s5,s6,s7,s8]=if (l.all fun p=>gv rows p.1 p.2)=true then some (.next [s0,s1,s2,some (.list (rows.map .int),true),s4,s5,s6',s7',s8']) else some (.ret (.none,false))
 |[],s6,s7,s8,_=>⟨s6,s7,s8,rfl⟩
 | (a,s)::l,s6,s7,s8,h=>by
  have ha:=h (a,s) (by simp);obtain⟨t8,one⟩:=yH (s0:=s0) (s1:=s1) (s2:=s2) (s4:=s4) (s5:=s5) (s8:=s8) (s:=s) ha.1 ha.2;obtain⟨s6',s7',s8',ih⟩:=oD (s0:=s0) (s1:=s1) (s2:=s2) (s4:=s4) (s5:=s5) (rows:=rows) l (some (cR a,false)) (some (.list (s.map .int),false)) t8 (fun p hp=>h p (by simp[hp]));refine⟨s6',s7',s8',?_⟩;rw[aD,d7];simp only[gT,mS,gN,bN,aa,one];rw[bW];cases gv rows a s with
  |true =>
   rw[if_pos rfl,aa,Bool.true_and];exact ih
  |false =>
   rw[if_neg (by simp),aa,Bool.false_and,if_neg (by simp)]
theorem xg {t5 s0 s2 s6 s7 s8:Option Vl}{k:Int}{ar:Ar}(w:Wf k ar)(rows:List Int)(S:List (List Int)):(xP (iU (cL (ck (d1 dY (cc 3))) [(j6,(ck (d2 cW (cc 1) (ck (dC (.int 0))))))]) (iU (cL (ck (d1 dY (cc 4))) [(j6,(ck (d1 dY (ck (d2 cW (cc 1) (ck (dC (.int 1))))))))]) (iU (cL (ck (d1 nZ (cc 3))) [(sY,(ck (dC (.int 0))))]) (cL (ck (d1 n4 (cc 3))) [(qg,(ck (dC (.int 200))))]))))) [s0,some (cz k ar,false),s2,some (.list (rows.map .int),true),some (cQ (gD S),true),t5,s6,s7,s8]=some (!((decide ((rows.length:Int)=k)&&decide (S.length=ar.length))&&rows.all fun r=>decide (0<=r)&&decide (r<=200))):=by
 have lo:=w.lo;unfold xP;have eu:unown [s0,some (cz k ar,false),s2,some (.list (rows.map .int),true),some (cQ (gD S),true),t5,s6,s7,s8]=[rT s0,some (cz k ar,false),rT s2,some (.list (rows.map .int),false),some (.list (gD S),false),rT t5,rT s6,rT s7,rT s8]:=rfl;rw[eu];generalize rT s0=s0;generalize rT s2=s2;generalize rT t5=t5;generalize rT s6=s6;generalize rT s7=s7;generalize rT s8=s8;generalize hρ:([s0,some (cz k ar,false),s2,some (.list (rows.map .int),false),some (.list (gD S),false),t5,s6,s7,s8]:Sl)=ρ;have a1:(d1 dY (cc 3)) ρ=some (.int (rows.length:Int),false):=by
  rw[<-hρ];show some ((PyData.int (((rows.map PyData.int).length:Nat):Int),false):Vl)=_;rw[ah]
 have a2:(d1 dY (cc 4)) ρ=some (.int (S.length:Int),false):=by
  rw[<-hρ];show some ((PyData.int (((gD S).length:Nat):Int),false):Vl)=_;rw[kK]
 have a3:(d2 cW (cc 1) (ck (dC (.int 0)))) ρ=some (.int k,false):=by rw[<-hρ];exact rm k ar
 have a4:(d1 dY (ck (d2 cW (cc 1) (ck (dC (.int 1)))))) ρ=some (.int (ar.length:Int),false):=by
  rw[<-hρ];show (((cW (cz k ar) (.int 1)).map (·.1)).bind dY)=_;rw[om];show some ((PyData.int (((ar.map cR).length:Nat):Int),false):Vl)=_;rw[ah]
 have v3:cc 3 ρ=some (.list (rows.map .int)):=by rw[<-hρ];rfl
 by_cases h1:(rows.length:Int)=k
 ·by_cases h2:S.length=ar.length
  ·have h2':(S.length:Int)=(ar.length:Int):=by omega
   match rows,h1 with
   |[],h1=>simp at h1;omega
   |r::rs,h1 =>
    have m1:(d1 nZ (cc 3)) ρ=some (.int (eY (fun x b=>decide (x<b)) r rs),false):=by
     rw[d1,v3,aa,nZ,n6];rw[pR];rfl
    have m2:(d1 n4 (cc 3)) ρ=some (.int (eY (fun x b=>decide (x>b)) r rs),false):=by
     rw[d1,v3,aa,n4,n6];rw[pR];rfl
    have e:(iU (cL (ck (d1 nZ (cc 3))) [(sY,(ck (dC (.int 0))))]) (cL (ck (d1 n4 (cc 3))) [(qg,(ck (dC (.int 200))))])) ρ=some (!((r::rs).all fun r=>decide (0<=r)&&decide (r<=200))):=by
     have b1:=ui rs r;have b2:=uj rs r;by_cases q1:eY (fun x b=>decide (x<b)) r rs<0
     ·obtain⟨x,hx,hn⟩:=b1.mp q1;have:((r::rs).all fun r=>decide (0<=r)&&decide (r<=200))=false:=by
       rw[List.all_eq_false];exact⟨x,hx,by simp;omega⟩
      rw[this];simp only[iU,cL,tChain,ck,m1,dC,sY,ag,aa,decide_eq_true q1,if_true];rfl
     ·by_cases q2:200<eY (fun x b=>decide (x>b)) r rs
      ·obtain⟨x,hx,hn⟩:=b2.mp q2;have:((r::rs).all fun r=>decide (0<=r)&&decide (r<=200))=false:=by
        rw[List.all_eq_false];exact⟨x,hx,by simp;omega⟩
       rw[this];simp only[iU,cL,tChain,ck,m1,m2,dC,sY,qg,ag,aa,decide_eq_false q1,decide_eq_true q2];rfl
      ·have:((r::rs).all fun r=>decide (0<=r)&&decide (r<=200))=true:=by
        rw[bh];intro x hx;have z1:¬x<0:=fun z=>q1 (b1.mpr ⟨x,hx,z⟩);have z2:¬200<x:=fun z=>q2 (b2.mpr ⟨x,hx,z⟩);simp;omega
       rw[this];simp only[iU,cL,tChain,ck,m1,m2,dC,sY,qg,ag,aa,decide_eq_false q1,decide_eq_false q2];rfl
    rw[iU];simp only[cL,tChain,ck,a1,a3,ag,aa,gE,h1,ne_eq,not_true_eq_false,decide_false,Bool.false_eq_true,if_false];rw[iU];simp only[cL,tChain,ck,a2,a4,ag,aa,gE,h2',ne_eq,not_true_eq_false,decide_false,Bool.false_eq_true,if_false];rw[h2];simp only[decide_true,Bool.true_and];exact e
  ·have h2':¬(S.length:Int)=(ar.length:Int):=by omega
   rw[iU];simp only[cL,tChain,ck,a1,a3,ag,aa,gE,h1,ne_eq,not_true_eq_false,decide_false,Bool.false_eq_true,if_false];rw[iU];simp only[cL,tChain,ck,a2,a4,ag,aa,gE,h2',ne_eq,not_false_eq_true,decide_true,if_true,decide_eq_false h2];rfl
 ·rw[iU];simp only[cL,tChain,ck,a1,a3,ag,aa,gE,h1,ne_eq,not_false_eq_true,decide_true,if_true,decide_eq_false h1];rfl
theorem sG {l:List Nat}{k:Int}{ar:Ar}(w:Wf k ar)(ha:ar.length<=1000)(hl:l.length<=600)(hc:∀c∈l,c<1114112):fO [.str (tx l),cz k ar]=some (lg (lK k ar (el 32 l)) (.none,false)):=by
 have run:fO [.str (tx l),cz k ar]=(j3 [some (.str (tx l),false),some (cz k ar,false),none,none,none,none,none,none,none]).bind eK:=rfl;have sp:=o7 (l:=l) (c:=32) (by decide) ⋯;have cl:=iR 32 l;have cs:∀w∈el 32 l,w.length<=600/\∀c∈w,c<1114112:=fun w hw=>by
  have:=iQ hw;exact⟨by omega,fun c hx=>hc c (this.2 c hx)⟩
 generalize el 32 l=W at sp cl cs;have h2:(cO 2 (d2 gc (cc 0) (ck (dC (.str " "))))) [some (.str (tx l),false),some (cz k ar,false),none,none,none,none,none,none,none]=some (.next [some (.str (tx l),false),some (cz k ar,false),some (.list (W.map fun w=>.str (tx w)),true),none,none,none,none,none,none]):=by
  rw[iZ];show ((gc (.str (tx l)) (.str ⟨#[32]⟩)).bind _)=_;rw[sp];rfl
 have h3:(cO 3 (eN cG)) [some (.str (tx l),false),some (cz k ar,false),some (.list (W.map fun w=>.str (tx w)),true),none,none,none,none,none,none]=some (.next [some (.str (tx l),false),some (cz k ar,false),some (.list (W.map fun w=>.str (tx w)),true),some (.list (([]:List Int).map .int),true),none,none,none,none,none]):=rfl;have wh:=uL (oC (s0:=some (.str (tx l),false)) (s1:=some (cz k ar,false)) (s4:=none) (s5:=none) (s6:=none) (s7:=none) (s8:=none) W [] cs (by simp;omega));rw[bQ] at wh;have h4:(jG 4 (eN cG)) [some (.str (tx l),false),some (cz k ar,false),some (.list ((dX W).map fun w=>.str (tx w)),true),some (.list (((gp W).map gQ).map .int),true),none,none,none,none,none]=some (.next [some (.str (tx l),false),some (cz k ar,false),some (.list ((dX W).map fun w=>.str (tx w)),true),some (.list (((gp W).map gQ).map .int),true),some (cQ (gD []),true),none,none,none,none]):=rfl;obtain⟨s5,lp⟩:=xh (s0:=some (.str (tx l),false)) (s1:=some (cz k ar,false)) (s2:=some (.list ((dX W).map fun w=>.str (tx w)),false)) (s3:=some (.list (((gp W).map gQ).map .int),true)) (s6:=none) (s7:=none) (s8:=none) W none cs ⋯;have h5:(jF 2 (fg (dw (eU 2)) (gN 5) eP)) [some (.str (tx l),false),some (cz k ar,false),some (.list ((dX W).map fun w=>.str (tx w)),true),some (.list (((gp W).map gQ).map .int),true),some (cQ (gD []),true),none,none,none,none]=_:=lp;rw[run,j3,cS h2,cS h3,cS wh,cS h4,cS h5];clear run h2 h3 wh h4 h5 lp;unfold lK gw;generalize ((gp W).map gQ)=rows;generalize iV W=S;have tt:=xg (s0:=some (.str (tx l),false)) (s2:=some (.list ((dX W).map fun w=>.str (tx w)),false)) (t5:=s5) (s6:=none) (s7:=none) (s8:=none) w rows S;cases hA:(decide ((rows.length:Int)=k)&&decide (S.length=ar.length)) with
 |false =>
  rw[hA] at tt;rw[dq tt rfl];rfl
 |true =>
  cases hC:(rows.all fun r=>decide (0<=r)&&decide (r<=200)) with
  |false =>
   rw[hA,hC] at tt;rw[dq tt rfl];rfl
  |true =>
   rw[hA,hC] at tt;rw[dr tt,Bool.true_and,Bool.true_and];rw[Bool.and_eq_true,decide_eq_true_eq,decide_eq_true_eq] at hA;obtain⟨s6,s7,s8,lp⟩:=oD (s0:=some (.str (tx l),false)) (s1:=some (cz k ar,false)) (s2:=some (.list ((dX W).map fun w=>.str (tx w)),false)) (s4:=some (.list (gD S),false)) (s5:=s5) (rows:=rows) (ar.zip S) none none none (fun p hp=>by
    have:=w.ok p.1 (bz hp).1;omega)
   have hi:(pS (iy (d2 cW (cc 1) (ck (dC (.int 1))))) (eU 4)) [some (.str (tx l),false),some (cz k ar,false),some (.list ((dX W).map fun w=>.str (tx w)),false),some (.list (rows.map .int),true),some (.list (gD S),false),s5,none,none,none]=some ((ar.zip S).map fun p=>.tuple [cR p.1,.list (p.2.map .int)]):=by
    rw[<-ml (g:=fun g:List Int=>.list (g.map .int))];show ((((cW (cz k ar) (.int 1)).bind fun x=>eV x.1)).bind fun xs=>(some (gD S)).map fun ys=>kq xs ys)=_;rw[om];rfl
   have hu:(l6 4 (jF 4 (fg (pS (iy (d2 cW (cc 1) (ck (dC (.int 1))))) (eU 4)) (gT [(gN 6),(gN 7)]) fK))) [some (.str (tx l),false),some (cz k ar,false),some (.list ((dX W).map fun w=>.str (tx w)),false),some (.list (rows.map .int),true),some (cQ (gD S),true),s5,none,none,none]=(fg (pS (iy (d2 cW (cc 1) (ck (dC (.int 1))))) (eU 4)) (gT [(gN 6),(gN 7)]) fK) [some (.str (tx l),false),some (cz k ar,false),some (.list ((dX W).map fun w=>.str (tx w)),false),some (.list (rows.map .int),true),some (.list (gD S),false),s5,none,none,none]:=rfl;rw[cM,hu,hV hi,lp];cases (ar.zip S).all fun p=>gv rows p.1 p.2 with
   |false=>rfl
   |true =>
    rw[if_pos rfl,if_pos rfl,aa];have cm:=gJ (it:=dw (eU 4)) (n:=1) (ix:=[]) (g:=gN 0) (e:=gR) (ρ:=[some (.str (tx l),false),some (cz k ar,false),some (.list ((dX W).map fun w=>.str (tx w)),false),some (.list (rows.map .int),true),some (.list (gD S),false),s5,s6,s7,s8]) (d:=fun g:List Int=>.list (g.map .int)) (β:=cY) S rfl ⋯ (fun g _=>⟨_,false,rfl,rfl⟩);have o2:(d1 df (ck (de (dw (eU 4)) 1 [] (gN 0) eB gR))) [some (.str (tx l),false),some (cz k ar,false),some (.list ((dX W).map fun w=>.str (tx w)),false),some (.list (rows.map .int),true),some (.list (gD S),false),s5,s6,s7,s8]=some (.tuple (S.map cY),false):=by
     rw[d1,ck,cm];rfl
    show ((dh (gj (cf (d1 df (cc 3)) (cf (d1 df (ck (de (dw (eU 4)) 1 [] (gN 0) eB gR))) cG)))) [some (.str (tx l),false),some (cz k ar,false),some (.list ((dX W).map fun w=>.str (tx w)),false),some (.list (rows.map .int),true),some (.list (gD S),false),s5,s6,s7,s8]).bind eK=_;rw[dh,gj,cf];show ((((cf (d1 df (ck (de (dw (eU 4)) 1 [] (gN 0) eB gR))) cG _).bind _).bind _).map _).bind eK=_;rw[cf,o2];rfl
end Lw
namespace Lw
open PySem DL
def nh (l:List Nat):Prop:=l.length<=600/\∀c∈l,c<1114112
noncomputable def eF:List (List Nat)->Nat
 |[]=>0
 |w::ws=>w.length+1+eF ws
theorem iJ:∀A B:List (List Nat),eF (A++B)=eF A+eF B
 |[],B=>by simp[eF]
 |a::A,B=>by rw[bV,eF,eF,iJ A B];omega
theorem jz:∀(W:List (List Nat)) (n:Nat),eF (W.take n)<=eF W
 |[],n=>by simp[eF]
 |w::W,0=>bt _
 | w::W,n+1=>by
  have:=jz W n;rw[List.take_succ_cons,eF,eF];omega
theorem jA:∀(W:List (List Nat)) (n:Nat),eF (W.drop n)<=eF W
 |[],n=>by simp[eF]
 |w::W,0=>az _
 | w::W,n+1=>by
  have:=jA W n;rw[List.drop_succ_cons,eF];omega
theorem ud (c:Nat):∀l:List Nat,eF (el c l)=l.length+1
 |[]=>rfl
 | x::xs=>by
  have ih:=ud c xs;obtain⟨w,ws,e⟩:=ik c xs;rw[el];split
  ·rw[eF,ih,aj];simp;omega
  ·rw[e] at ih ⊢;rw[eF] at ih ⊢;rw[aj,aj];omega
theorem rz:∀ws:List (List Nat),(ws.flatMap fun w=>32::w).length=eF ws
 |[]=>rfl
 |w::ws=>by rw[bq,au,rz ws,eF,aj]
theorem lI:∀ws:List (List Nat),(dv ws).length<=eF ws
 |[]=>az _
 |w::ws=>by rw[dv,au,rz,eF];omega
theorem oj {ws:List (List Nat)}(h:∀w∈ws,∀c∈w,c<1114112):∀c∈dv ws,c<1114112:=by
 have go:∀ws:List (List Nat),(∀w∈ws,∀c∈w,c<1114112)->∀c∈(ws.flatMap fun w=>32::w),c<1114112:=by
  intro ws h c hc;obtain⟨w,hw,hx⟩:=List.mem_flatMap.mp hc;rcases aw.mp hx with z|z
  ·omega
  ·exact h w hw c z
 match ws with
 |[]=>exact fun c h=>nomatch h
 |w::ws =>
  intro c hc;rw[dv] at hc;rcases aG.mp hc with z|z
  ·exact h w (by simp) c z
  ·exact go ws (fun v hv=>h v (by simp[hv])) c z
theorem wy {j:Int}(h0:0<=j)(h1:j<18):∃c,c<1114112/\kF (.str "0123456789 |-+_.a\t") (.int j)=some (.str ⟨#[c]⟩,false):=by
 have e:(("0123456789 |-+_.a\t" : Str))=tx [48,49,50,51,52,53,54,55,56,57,32,124,45,43,95,46,97,9]:=by decide +kernel
 rw[e];obtain⟨n,rfl⟩:∃n:Nat,j=n:=⟨j.toNat,by omega⟩;have hn:n<([48,49,50,51,52,53,54,55,56,57,32,124,45,43,95,46,97,9]:List Nat).length:=by show n<18;omega
 generalize hL:([48,49,50,51,52,53,54,55,56,57,32,124,45,43,95,46,97,9]:List Nat)=L at hn ⊢;refine⟨L[n],?_,?_⟩
 ·have:∀c∈L,c<1114112:=by rw[<-hL];decide
  exact this _ (List.getElem_mem hn)
 ·unfold kF;dsimp only;rw[if_pos (by rw[fi,<-hL];exact l4 (by decide))];unfold L2.atI L2.ixN;have z1:(0:Int)<=(n:Int):=by omega
  have z2:(n:Int)<(L.length:Int):=by omega
  simp[tx,hn,z1,z2]
theorem mq {l r:List Nat}(h:l.length<=250/\∀c∈l,c<1114112)(hr:r.length<=600)(hs:∀c∈r,c∈l\/c<1114112):nh r:=⟨hr,fun c hc=>by
 rcases hs c hc with z|z
 ·exact h.2 c z
 ·exact z⟩
theorem rX {l:List Nat}{m c:Int}(h:l.length<=250/\∀c∈l,c<1114112)(hc:0<=c):∃r,dR [.str (tx l),.int m,.int c]=some (.str (tx r),false)/\nh r:=by
 have run:dR [.str (tx l),.int m,.int c]=(fS [some (.str (tx l),false),some (.int m,false),some (.int c,false),none,none,none,none]).bind eK:=rfl;obtain⟨n,hn⟩:∃n:Nat,c%((l.length:Int)+1)=(n:Int):=⟨(c%((l.length:Int)+1)).toNat,by have:=bu c (show (l.length:Int)+1≠0 by omega);omega⟩;have nl:n<=l.length:=by have:=bo c (show 0<(l.length:Int)+1 by omega);omega
 obtain⟨g,hg,eg⟩:=wy (j:=c/4096%18) (bu _ (by decide)) (bo _ (by decide));have lz:l.length<=1000000:=by omega
 have h3:(cO 3 (d2 dH (cc 2) (ck (d2 dg (ck (d1 gm (cc 0))) (ck (dC (.int 1))))))) [some (.str (tx l),false),some (.int m,false),some (.int c,false),none,none,none,none]=some (.next [some (.str (tx l),false),some (.int m,false),some (.int c,false),some (.int (n:Int),false),none,none,none]):=by
  have ll:=wK (l:=l) ⋯;have q:(d1 gm (cc 0)) [some (.str (tx l),false),some (.int m,false),some (.int c,false),none,none,none,none]=some (.int (l.length:Int),false):=ll;have q2:(d2 dg (ck (d1 gm (cc 0))) (ck (dC (.int 1)))) [some (.str (tx l),false),some (.int m,false),some (.int c,false),none,none,none,none]=some (.int ((l.length:Int)+1),false):=by
   rw[d2,ck,q];rfl
  rw[cO,d2,show cc 2 [some (.str (tx l),false),some (.int m,false),some (.int c,false),none,none,none,none]=some (.int c) from rfl,aa,ck,q2,ag,aa,dz ⋯,hn];rfl
 have h4:(cO 4 (d2 kF (ck (dC (.str "0123456789 |-+_.a\t"))) (ck (d2 dH (ck (d2 gf (cc 2) (ck (dC (.int 4096))))) (ck (dC (.int 18))))))) [some (.str (tx l),false),some (.int m,false),some (.int c,false),some (.int (n:Int),false),none,none,none]=some (.next [some (.str (tx l),false),some (.int m,false),some (.int c,false),some (.int (n:Int),false),some (.str (tx [g]),false),none,none]):=by
  have q:(d2 dH (ck (d2 gf (cc 2) (ck (dC (.int 4096))))) (ck (dC (.int 18)))) [some (.str (tx l),false),some (.int m,false),some (.int c,false),some (.int (n:Int),false),none,none,none]=some (.int (c/4096%18),false):=by
   simp[d2,ck,cc,dC,gP,dz]
  rw[cO,d2,ck,dC,ag,aa,ck,q,ag,aa,eg];rfl
 rw[run,fS,cS h3,cS h4];generalize hρ:([some (.str (tx l),false),some (.int m,false),some (.int c,false),some (.int (n:Int),false),some (.str (tx [g]),false),none,none]:Sl)=ρ;have v0:cc 0 ρ=some (.str (tx l)):=by rw[<-hρ];rfl
 have v1:cc 1 ρ=some (.int m):=by rw[<-hρ];rfl
 have v4:cc 4 ρ=some (.str (tx [g])):=by rw[<-hρ];rfl
 have d3:cF 3 ρ=some (.int (n:Int),false):=by rw[<-hρ];rfl
 have b3:cc 3 ρ=some (.int (n:Int)):=by rw[<-hρ];rfl
 have pa:(i4 (cF 3)) ρ=some (some (n:Int)):=by rw[i4,d3];rfl
 have pb:(i4 (d2 dg (cc 3) (ck (dC (.int 1))))) ρ=some (some ((n+1:Nat):Int)):=by rw[i4,d2,b3];rfl
 have sA:(iF (cc 0) i5 (i4 (cF 3))) ρ=some (.str (tx (l.take n)),false):=by
  rw[iF,v0,aa,i5,aa,pa,aa,yS nl lz]
 have sB:(iF (cc 0) (i4 (d2 dg (cc 3) (ck (dC (.int 1))))) i5) ρ=some (.str (tx (l.drop (n+1))),false):=by
  rw[iF,v0,aa,pb,aa,i5,aa,oI lz]
 have sC:(iF (cc 0) (i4 (cF 3)) i5) ρ=some (.str (tx (l.drop n)),false):=by
  rw[iF,v0,aa,pa,aa,i5,aa,oI lz]
 have tm (j:Int) (ρ':Sl) (hv:cc 1 ρ'=some (.int m)):(cL (cc 1) [(gF,(ck (dC (.int j))))]) ρ'=some (decide (m=j)):=by
  rw[cL,hv];exact ip m j
 have tl:(l.take n).length<=250:=by rw[bB];omega
 have tk:∀x∈l.take n,x∈l:=fun x hx=>List.mem_of_mem_take hx;by_cases m1:m=1
 ·have e:(d2 dg (ck (iF (cc 0) i5 (i4 (cF 3)))) (ck (iF (cc 0) (i4 (d2 dg (cc 3) (ck (dC (.int 1))))) i5))) ρ=some (.str (tx (l.take n++l.drop (n+1))),false):=by
   rw[d2,ck,sA,ag,aa,ck,sB,ag,aa,ng (by rw[ba];omega)]
  refine⟨l.take n++l.drop (n+1),?_,mq h (by rw[au,ba];omega) fun x hx=>.inl ?_⟩
  ·rw[dq (by rw[tm 1 ρ v1,decide_eq_true m1]) e];rfl
  ·rcases aG.mp hx with z|z
   ·exact tk x z
   ·exact bX z
 rw[dr (by rw[tm 1 ρ v1,decide_eq_false m1])];have sD:(d2 dg (ck (iF (cc 0) i5 (i4 (cF 3)))) (cc 4)) ρ=some (.str (tx (l.take n++[g])),false):=by
  rw[d2,ck,sA,ag,aa,v4,aa,ng (by simp;omega)]
 have dl:(l.take n++[g]).length<=251:=by rw[au,aJ];omega
 have dk:∀x∈l.take n++[g],x∈l\/x<1114112:=fun x hx=>by
  rcases aG.mp hx with z|z
  ·exact .inl (tk x z)
  ·cases aM.mp z;exact .inr hg
 by_cases m2:m=2
 ·have e:(d2 dg (ck (d2 dg (ck (iF (cc 0) i5 (i4 (cF 3)))) (cc 4))) (ck (iF (cc 0) (i4 (cF 3)) i5))) ρ=some (.str (tx (l.take n++[g]++l.drop n)),false):=by
   rw[d2,ck,sD,ag,aa,ck,sC,ag,aa,ng (by rw[ba];omega)]
  refine⟨l.take n++[g]++l.drop n,?_,mq h (by rw[au,ba];omega) fun x hx=>?_⟩
  ·rw[dq (by rw[tm 2 ρ v1,decide_eq_true m2]) e];rfl
  ·rcases aG.mp hx with z|z
   ·exact dk x z
   ·exact .inl (bX z)
 rw[dr (by rw[tm 2 ρ v1,decide_eq_false m2])];by_cases m3:m=3
 ·have e:(d2 dg (ck (d2 dg (ck (iF (cc 0) i5 (i4 (cF 3)))) (cc 4))) (ck (iF (cc 0) (i4 (d2 dg (cc 3) (ck (dC (.int 1))))) i5))) ρ=some (.str (tx (l.take n++[g]++l.drop (n+1))),false):=by
   rw[d2,ck,sD,ag,aa,ck,sB,ag,aa,ng (by rw[ba];omega)]
  refine⟨l.take n++[g]++l.drop (n+1),?_,mq h (by rw[au,ba];omega) fun x hx=>?_⟩
  ·rw[dq (by rw[tm 3 ρ v1,decide_eq_true m3]) e];rfl
  ·rcases aG.mp hx with z|z
   ·exact dk x z
   ·exact .inl (bX z)
 rw[dr (by rw[tm 3 ρ v1,decide_eq_false m3])];have sp:=o7 (l:=l) (c:=32) (by decide) ⋯;have cl:=iR 32 l;have cs:∀w∈el 32 l,w.length<=250/\∀c∈w,c<1114112:=fun w hw=>by
  have:=iQ hw;exact⟨by omega,fun c hx=>h.2 c (this.2 c hx)⟩
 have cp:0<(el 32 l).length:=by obtain⟨w,ws,e⟩:=ik 32 l;rw[e];simp
 have ct:=ud 32 l;generalize el 32 l=W at sp cl cs cp ct;obtain⟨s,hs⟩:∃s:Nat,c%(W.length:Int)=(s:Int):=⟨(c%(W.length:Int)).toNat,by have:=bu c (show (W.length:Int)≠0 by omega);omega⟩;have sl:s<W.length:=by have:=bo c (show 0<(W.length:Int) by omega);omega
 have h5:(cO 5 (d2 gc (cc 0) (ck (dC (.str " "))))) ρ=some (.next (ρ.set 5 (some (.list (W.map fun w=>.str (tx w)),true)))):=by
  rw[iZ,cO,d2,v0,aa,ck,dC,ag,aa,sp];rfl
 have h6:(cO 6 (d2 dH (cc 2) (ck (d1 dY (cc 5))))) (ρ.set 5 (some (.list (W.map fun w=>.str (tx w)),true)))=some (.next [some (.str (tx l),false),some (.int m,false),some (.int c,false),some (.int (n:Int),false),some (.str (tx [g]),false),some (.list (W.map fun w=>.str (tx w)),true),some (.int (s:Int),false)]):=by
  rw[<-hρ];have ln:(d1 dY (cc 5)) (([some (.str (tx l),false),some (.int m,false),some (.int c,false),some (.int (n:Int),false),some (.str (tx [g]),false),none,none]:Sl).set 5 (some (.list (W.map fun w=>.str (tx w)),true)))=some (.int (W.length:Int),false):=by
   show some ((PyData.int (((W.map fun w=>PyData.str (tx w)).length:Nat):Int),false):Vl)=_;rw[ah]
  rw[cO,d2,show cc 2 (([some (.str (tx l),false),some (.int m,false),some (.int c,false),some (.int (n:Int),false),some (.str (tx [g]),false),none,none]:Sl).set 5 (some (.list (W.map fun w=>.str (tx w)),true)))=some (.int c) from rfl,aa,ck,ln,ag,aa,dz ⋯,hs];rfl
 rw[cS h5,cS h6];clear h5 h6;generalize hτ:([some (.str (tx l),false),some (.int m,false),some (.int c,false),some (.int (n:Int),false),some (.str (tx [g]),false),some (.list (W.map fun w=>.str (tx w)),true),some (.int (s:Int),false)]:Sl)=τ;have u1:cc 1 τ=some (.int m):=by rw[<-hτ];rfl
 have u5:cc 5 τ=some (.list (W.map fun w=>.str (tx w))):=by rw[<-hτ];rfl
 have p6:(i4 (cF 6)) τ=some (some (s:Int)):=by rw[<-hτ];rfl
 have p7:(i4 (d2 dg (cc 6) (ck (dC (.int 1))))) τ=some (some ((s+1:Nat):Int)):=by rw[<-hτ];rfl
 have jn (A B:List (List Nat)) (ha:∀w∈A,w∈W) (hb:∀w∈B,w∈W) (hn:A.length+B.length<=600) (ht:eF A+eF B<=600) {f f':ED} (ea:f τ=some (.list (A.map fun w=>.str (tx w)),true)) (eb:f' τ=some (.list (B.map fun w=>.str (tx w)),true)):(d2 jt (ck (dC (.str " "))) (ck (d2 su (ck f) (ck f')))) τ=some (.str (tx (dv (A++B))),false)/\nh (dv (A++B)):=by
  have ab:∀w∈A++B,w.length<=250/\∀c∈w,c<1114112:=fun w hw=>by
   rcases aG.mp hw with z|z
   ·exact cs w (ha w z)
   ·exact cs w (hb w z)
  have ln:(A++B).length<=600:=by rw[au];exact hn
  refine⟨?_,by have:=lI (A++B);rw[iJ] at this;omega,oj fun w hw=>(ab w hw).2⟩;have ct:(d2 su (ck f) (ck f')) τ=some (.list ((A++B).map fun w=>.str (tx w)),true):=by
   rw[d2,ck,ea,ag,aa,ck,eb,ag,aa];unfold su;dsimp only;rw[if_pos (by rw[ah,ah];exact l4 ⋯),bj]
  rw[iZ,d2,ck,dC,ag,aa,ck,ct,ag,aa,mL (B:=250) (fun w hw=>(ab w hw).1) ⋯]
 have wt (k:Nat):∀w∈W.take k,w∈W:=fun w hw=>List.mem_of_mem_take hw;have wd (k:Nat):∀w∈W.drop k,w∈W:=fun w hw=>bX hw;have cu {k:Nat}{p:PD} (hk:k<=W.length) (hp:p τ=some (some (k:Int))):(nr (cc 5) i5 p) τ=some (.list ((W.take k).map fun w=>.str (tx w)),true)/\(nr (cc 5) p i5) τ=some (.list ((W.drop k).map fun w=>.str (tx w)),true):=by
  refine⟨?_,?_⟩
  ·rw[nr,u5,aa,i5,aa,hp,aa,yT (by rw[ah];exact hk),List.map_take]
  ·rw[nr,u5,aa,hp,aa,i5,aa,vv (by rw[ah];exact hk),List.map_drop]
 by_cases m4:m=4
 ·obtain⟨e,ok⟩:=jn (W.take s) (W.drop (s+1)) (wt s) (wd _) (by rw[bB,ba];omega) (by have:=jz W s;have:=jz W (s+1);have:=jA W s;have:=jA W (s+1);omega) (cu ⋯ p6).1 (cu ⋯ p7).2;refine⟨_,?_,ok⟩;rw[dq (by rw[tm 4 τ u1,decide_eq_true m4]) e];rfl
 rw[dr (by rw[tm 4 τ u1,decide_eq_false m4])];by_cases m5:m=5
 ·obtain⟨e,ok⟩:=jn (W.take (s+1)) (W.drop s) (wt _) (wd _) (by rw[bB,ba];omega) (by have:=jz W s;have:=jz W (s+1);have:=jA W s;have:=jA W (s+1);omega) (cu ⋯ p7).1 (cu ⋯ p6).2;refine⟨_,?_,ok⟩;rw[dq (by rw[tm 5 τ u1,decide_eq_true m5]) e];rfl
 rw[dr (by rw[tm 5 τ u1,decide_eq_false m5])];refine⟨l,?_,by omega,h.2⟩;rw[<-hτ];rfl
end Lw
namespace Lw
open PySem DL
noncomputable def fC (i:Int):List Nat:=(Str.ofString (toString i)).cps.toList
theorem wF:((aV 201).all fun n=>decide ((fC (n:Int)).length<=3)&&(fC (n:Int)).all fun c=>decide (c<1114112))=true:=by decide +kernel
theorem pJ {i:Int}(h0:0<=i)(h1:i<=200):(fC i).length<=3/\∀c∈fC i,c<1114112:=by
 obtain⟨n,rfl⟩:∃n:Nat,i=n:=⟨i.toNat,by omega⟩;have:=bh.mp wF n (List.mem_range.mpr ⋯);rw[Bool.and_eq_true,decide_eq_true_eq] at this;exact⟨this.1,fun c hc=>of_decide_eq_true (bh.mp this.2 c hc)⟩
theorem wc {i:Int}(h0:0<=i)(h4:i<=200):i.natAbs<2 ^ 1000:=aH (show i.natAbs<201 by omega) (by decide +kernel)
theorem qS {i:Int}(h0:0<=i)(h1:i<=200):nH (.int i)=some (.str (tx (fC i)),false):=by
 unfold nH;dsimp only;rw[if_pos (wc h0 h1)];unfold fC tx;rw[Array.toArray_toList]
structure Mod (r:List Int)(ss:List (List Int)):Prop where
 ne:r≠[]
 rl:r.length<=4
 rv:∀x∈r,0<=x/\x<=200
 sl:ss.length<=5
 se:∀s∈ss,s.length<=4/\∀x∈s,0<=x/\x<=200
noncomputable def fD (s:List Int):List (List Nat):=[124]::s.map fC
noncomputable def eO (r:List Int)(ss:List (List Int)):List (List Nat):=r.map fC++ss.flatMap fD
theorem mM {s:List Int}(h:∀x∈s,0<=x/\x<=200){it:AD}{e:ED}{ρ:Sl}(hi:it ρ=some (s.map .int))(he:∀x,e [some (.int x,false)]=nH (.int x))(hz:s.length<=1000):de it 1 [] (gN 0) eB e ρ=some (.list ((s.map fC).map fun w=>.str (tx w)),true):=by
 rw[gJ (d:=.int) (β:=fun x=>.str (tx (fC x))) s hi ⋯ (fun x hx=>⟨[some (.int x,false)],false,rfl,by rw[he x];exact qS (h x hx).1 (h x hx).2⟩),CF];rfl
theorem uJ {s0:Option Vl}{P:List (List Nat)}{s:List Int}(hs:s.length<=4/\∀x∈s,0<=x/\x<=200)(hP:P.length<=1000):fV [s0,some (.list (P.map fun w=>.str (tx w)),true),some (cY s,false)]=some (.next [s0,some (.list ((P++fD s).map fun w=>.str (tx w)),true),some (cY s,false)]):=by
 have h1:(nD 1 (dC (.str "|"))) [s0,some (.list (P.map fun w=>.str (tx w)),true),some (cY s,false)]=some (.next [s0,some (.list ((P++[[124]]).map fun w=>.str (tx w)),true),some (cY s,false)]):=by
  rw[qC];show (Option.map _ (if (P.map fun w=>PyData.str (tx w)).length<sizeLine then _ else _))=_;rw[if_pos (by rw[ah];exact zf ⋯),bj];rfl
 have cm:=mM hs.2 (it:=dw (eU 2)) (e:=kh) (ρ:=[s0,some (.list ((P++[[124]]).map fun w=>.str (tx w)),true),some (cY s,false)]) rfl (fun _=>rfl) ⋯;rw[fV,cS h1,xW,cm];show (Option.map _ (if ((P++[[124]]).map fun w=>PyData.str (tx w)).length+((s.map fC).map fun w=>PyData.str (tx w)).length<=sizeLine then _ else _))=_;rw[if_pos (by rw[ah,ah,ah,au];exact l4 (by simp;omega)),<-bj,aK];rfl
theorem mz {s0:Option Vl}:∀(ss:List (List Int)) (P:List (List Nat)) (s2:Option Vl),(∀s∈ss,s.length<=4/\∀x∈s,0<=x/\x<=200)->P.length+5*ss.length<=1000->∃s2',d7 (gN 2) fV (ss.map cY) [s0,some (.list (P.map fun w=>.str (tx w)),true),s2]=some (.next [s0,some (.list ((P++ss.flatMap fD).map fun w=>.str (tx w)),true),s2'])
 |[],P,s2,_,_=>⟨s2,by rw[List.flatMap_nil,aT];rfl⟩
 | s::ss,P,s2,h,hz=>by
  have hs:=h s (by simp);rw[aj] at hz;have one:=uJ (s0:=s0) (P:=P) hs ⋯;obtain⟨s2',ih⟩:=mz (s0:=s0) ss (P++fD s) (some (cY s,false)) (fun v hv=>h v (by simp[hv])) (by rw[au,fD,aj,ah];omega);refine⟨s2',?_⟩;rw[aD,d7];simp only[gN,bN,aa,one];rw[ih,bq,aK]
theorem rM {r:List Int}{ss:List (List Int)}(m:Mod r ss):(eO r ss).length<=30/\eF (eO r ss)<=110/\∀w∈eO r ss,w.length<=3/\∀c∈w,c<1114112:=by
 have nums:∀s:List Int,(∀x∈s,0<=x/\x<=200)->eF (s.map fC)<=4*s.length/\∀w∈s.map fC,w.length<=3/\∀c∈w,c<1114112:=by
  intro s;induction s with
  |nil=>exact fun _=>⟨az _,fun w h=>nomatch h⟩
  |cons x s ih =>
   intro h;have i:=ih fun y hy=>h y (by simp[hy]);have o:=pJ (h x (by simp)).1 (h x (by simp)).2;refine⟨by rw[aD,eF,aj];have:=i.1;have:=o.1;omega,fun w hw=>?_⟩;rcases aw.mp hw with z|z
   ·rw[z];exact o
   ·exact i.2 w z
 have steps:∀ss:List (List Int),(∀s∈ss,s.length<=4/\∀x∈s,0<=x/\x<=200)->(ss.flatMap fD).length<=5*ss.length/\eF (ss.flatMap fD)<=18*ss.length/\∀w∈ss.flatMap fD,w.length<=3/\∀c∈w,c<1114112:=by
  intro ss;induction ss with
  |nil=>exact fun _=>⟨az _,az _,fun w h=>nomatch h⟩
  |cons s ss ih =>
   intro h;have i:=ih fun y hy=>h y (by simp[hy]);have hs:=h s (by simp);have n:=nums s hs.2;refine⟨by rw[bq,au,fD,aj,ah,aj];omega,?_,fun w hw=>?_⟩
   ·rw[bq,iJ,fD,eF,aj];have:=n.1;have:=i.2.1;have:=hs.1;simp;omega
   ·rw[bq] at hw;rcases aG.mp hw with z|z
    ·rcases aw.mp z with z|z
     ·rw[z];simp
     ·exact n.2 w z
    ·exact i.2.2 w z
 have n:=nums r m.rv;have s:=steps ss m.se;have r4:=m.rl;have s5:=m.sl;refine⟨by rw[eO,au,ah];omega,by rw[eO,iJ];omega,fun w hw=>?_⟩;rcases aG.mp hw with z|z
 ·exact n.2 w z
 ·exact s.2.2 w z
theorem nP {r:List Int}{ss:List (List Int)}(m:Mod r ss):d9 [cC r ss]=some (.str (tx (dv (eO r ss))),false):=by
 have run:d9 [cC r ss]=(gC [some (cC r ss,false),none,none]).bind eK:=rfl;have r4:=m.rl;have s5:=m.sl;have cm:=mM m.rv (it:=dw (iy (d2 cW (cc 0) (ck (dC (.int 0)))))) (e:=iC) (ρ:=[some (cC r ss,false),none,none]) (by
  show ((cW (cC r ss) (.int 0)).bind fun x=>eV x.1)=_;rw[oR];rfl) (fun _=>rfl) ⋯
 have h1:(cO 1 (de (dw (iy (d2 cW (cc 0) (ck (dC (.int 0)))))) 1 [] (gN 0) eB iC)) [some (cC r ss,false),none,none]=some (.next [some (cC r ss,false),some (.list ((r.map fC).map fun w=>.str (tx w)),true),none]):=by
  rw[cO,cm];rfl
 obtain⟨s2,lp⟩:=mz (s0:=some (cC r ss,false)) ss (r.map fC) none m.se (by rw[ah];omega);have it:(dw (iy (d2 cW (cc 0) (ck (dC (.int 1)))))) [some (cC r ss,false),some (.list ((r.map fC).map fun w=>.str (tx w)),true),none]=some (ss.map cY):=by
  show ((cW (cC r ss) (.int 1)).bind fun x=>eV x.1)=_;rw[oQ];rfl
 have ok:=rM m;have jn:=mL (B:=3) (ws:=eO r ss) (fun w hw=>(ok.2.2 w hw).1) ⋯;rw[run,gC,cS h1,cM,hV it,lp];show ((jF 1 (dh (d2 jt (ck (dC (.str " "))) (cc 1)))) [some (cC r ss,false),some (.list ((eO r ss).map fun w=>.str (tx w)),true),s2]).bind eK=_;rw[iZ];show ((jt (.str ⟨#[32]⟩) (.list ((eO r ss).map fun w=>.str (tx w)))).map Fl.ret).bind eK=_;rw[jn];rfl
theorem u0 {P:List (List Nat)}(h:P≠[])(Q:List (List Nat)):dv (P++Q)=dv P++Q.flatMap fun w=>32::w:=by
 match P,h with
 |p::P,_=>simp[dv]
theorem oh {s0 s1 s2 s3 s4 s5 s6 s7 s10 s11 s12:Option Vl}:∀(s:List Int) (t:List Nat) (s9:Option Vl),(∀x∈s,0<=x/\x<=200)->t.length+4*s.length<=1000->∃s9',d7 (gN 9) qc (s.map .int) [s0,s1,s2,s3,s4,s5,s6,s7,some (.str (tx t),false),s9,s10,s11,s12]=some (.next [s0,s1,s2,s3,s4,s5,s6,s7,some (.str (tx (t++(s.map fC).flatMap fun w=>32::w)),false),s9',s10,s11,s12])
 |[],t,s9,_,_=>⟨s9,by rw[bO,bO,List.flatMap_nil,aT];rfl⟩
 | x::s,t,s9,h,hz=>by
  have hx:=h x (by simp);have ok:=pJ hx.1 hx.2;rw[aj] at hz;have one:qc [s0,s1,s2,s3,s4,s5,s6,s7,some (.str (tx t),false),some (.int x,false),s10,s11,s12]=some (.next [s0,s1,s2,s3,s4,s5,s6,s7,some (.str (tx (t++32::fC x)),false),some (.int x,false),s10,s11,s12]):=by
   have q1:(d2 dg (cc 8) (ck (dC (.str " ")))) [s0,s1,s2,s3,s4,s5,s6,s7,some (.str (tx t),false),some (.int x,false),s10,s11,s12]=some (.str (tx (t++[32])),false):=by
    rw[iZ];exact ng (b:=[32]) (by simp;omega)
   have q2:(d1 nH (cc 9)) [s0,s1,s2,s3,s4,s5,s6,s7,some (.str (tx t),false),some (.int x,false),s10,s11,s12]=some (.str (tx (fC x)),false):=qS hx.1 hx.2;rw[qc,cO,d2,ck,q1,ag,aa,ck,q2,ag,aa,ng (by simp;omega),aK];rfl
  obtain⟨s9',ih⟩:=oh (s0:=s0) (s1:=s1) (s2:=s2) (s3:=s3) (s4:=s4) (s5:=s5) (s6:=s6) (s7:=s7) (s10:=s10) (s11:=s11) (s12:=s12) s (t++32::fC x) (some (.int x,false)) (fun y hy=>h y (by simp[hy])) (by rw[au,aj];omega);refine⟨s9',?_⟩;rw[aD,d7];simp only[gN,bN,aa,one];rw[ih,aD,bq,aK]
theorem og {s0 s1 s2 s3 s4 s5 s6 s10 s11 s12:Option Vl}:∀(ss:List (List Int)) (P:List (List Nat)) (s7 s9:Option Vl),P≠[]->(∀s∈ss,s.length<=4/\∀x∈s,0<=x/\x<=200)->eF P+18*ss.length<=900->∃s7' s9',d7 (gN 7) m8 (ss.map cY) [s0,s1,s2,s3,s4,s5,s6,s7,some (.str (tx (dv P)),false),s9,s10,s11,s12]=some (.next [s0,s1,s2,s3,s4,s5,s6,s7',some (.str (tx (dv (P++ss.flatMap fD))),false),s9',s10,s11,s12])
 |[],P,s7,s9,_,_,_=>⟨s7,s9,by rw[List.flatMap_nil,aT];rfl⟩
 | s::ss,P,s7,s9,hP,h,hz=>by
  have hs:=h s (by simp);rw[aj] at hz;have jl:=lI P;have h1:(cO 8 (d2 dg (cc 8) (ck (dC (.str " |"))))) [s0,s1,s2,s3,s4,s5,s6,some (cY s,false),some (.str (tx (dv P)),false),s9,s10,s11,s12]=some (.next [s0,s1,s2,s3,s4,s5,s6,some (cY s,false),some (.str (tx (dv P++[32,124])),false),s9,s10,s11,s12]):=by
   rw[show (" |" : Str)=tx [32,124] by decide +kernel];show (dg (.str (tx (dv P))) (.str (tx [32,124]))).bind _=_;rw[ng (by simp;omega)];rfl
  obtain⟨t9,lp⟩:=oh (s0:=s0) (s1:=s1) (s2:=s2) (s3:=s3) (s4:=s4) (s5:=s5) (s6:=s6) (s7:=some (cY s,false)) (s10:=s10) (s11:=s11) (s12:=s12) s (dv P++[32,124]) s9 hs.2 (by simp;omega);have e:dv P++[32,124]++((s.map fC).flatMap fun w=>32::w)=dv (P++fD s):=by
   rw[u0 hP,fD,bq,aK]
  rw[e] at lp;have one:m8 [s0,s1,s2,s3,s4,s5,s6,some (cY s,false),some (.str (tx (dv P)),false),s9,s10,s11,s12]=some (.next [s0,s1,s2,s3,s4,s5,s6,some (cY s,false),some (.str (tx (dv (P++fD s))),false),t9,s10,s11,s12]):=by
   rw[m8,cS h1,hV (ds:=s.map .int) rfl,lp]
  have tw:eF (fD s)<=18:=by
   have nums:∀s:List Int,(∀x∈s,0<=x/\x<=200)->eF (s.map fC)<=4*s.length:=by
    intro s;induction s with
    |nil=>exact fun _=>az _
    |cons x s ih =>
     intro h;have i:=ih fun y hy=>h y (by simp[hy]);have o:=pJ (h x (by simp)).1 (h x (by simp)).2;rw[aD,eF,aj];omega
   have:=nums s hs.2;rw[fD,eF];have:=hs.1;simp;omega
  obtain⟨s7',s9',ih⟩:=og (s0:=s0) (s1:=s1) (s2:=s2) (s3:=s3) (s4:=s4) (s5:=s5) (s6:=s6) (s10:=s10) (s11:=s11) (s12:=s12) ss (P++fD s) (some (cY s,false)) t9 (by simp[fD]) (fun v hv=>h v (by simp[hv])) (by rw[iJ];omega);refine⟨s7',s9',?_⟩;rw[aD,d7];simp only[gN,bN,aa,one];rw[ih,bq,aK]
theorem qY {l:List Nat}{k:Int}{ar:Ar}(w:Wf k ar)(ha:ar.length<=1000)(hl:l.length<=600)(hc:∀c∈l,c<1114112):fk [.str (tx l),cz k ar]=some (lg (lK k ar (el 32 l)) (.list [.bool true,.bool true,.bool false],true)):=by
 have run:fk [.str (tx l),cz k ar]=(je [some (.str (tx l),false),some (cz k ar,false),none]).bind eK:=rfl;rw[run,je,xU];show (((ft [.str (tx l),cz k ar]).bind _).bind eK)=_;rw[pA w ha hl hc,uM];cases lK k ar (el 32 l) with
 |none=>rfl
 |some p=>rfl
noncomputable def lY:List Str:=["", " ", "|", " |", "0 ", "0 |", "201", "1 1 | 0", "1 1 | 0 |", "1 1 |0"]
theorem wx:∀z∈lY,z.cps.toList.length<=600/\∀c∈z.cps.toList,c<1114112:=by decide +kernel
theorem zW {c:Int}:∃r,fN [.int c]=some (.str (tx r),false)/\nh r:=by
 have run:fN [.int c]=(j0 [some (.int c,false)]).bind eK:=rfl;obtain⟨n,hn⟩:∃n:Nat,c%10=(n:Int):=⟨(c%10).toNat,by have:=bu c (show (10:Int)≠0 by decide);omega⟩;have nl:n<10:=by have:=bo c (show (0:Int)<10 by decide);omega
 have ll:n<lY.length:=nl;refine⟨(lY[n]).cps.toList,?_,wx _ (List.getElem_mem ll)⟩;rw[run,j0];have ct:(eN (oH ["", " ", "|", " |", "0 ", "0 |", "201", "1 1 | 0", "1 1 | 0 |", "1 1 |0"])) [some (.int c,false)]=some (.list (lY.map .str),true):=rfl;rw[dh,d2,ck,ct,ag,aa];show ((((dH (.int c) (.int 10)).map _).bind _).map _).bind eK=_;rw[dz (by decide),hn];have a:cW (.list (lY.map .str)) (.int (n:Int))=some (.str lY[n],false):=by
  unfold cW;dsimp only;rw[qf (xs:=lY.map .str) (k:=n) (d:=.str lY[n]) (by rw[aN,bc ll];rfl)];rfl
 show ((cW (.list (lY.map .str)) (.int (n:Int))).map Fl.ret).bind eK=_;rw[a];show some ((PyData.str lY[n],false):Vl)=_;have:tx (lY[n]).cps.toList=lY[n]:=by unfold tx;rw[Array.toArray_toList]
 rw[this]
end Lw
namespace Lw
open PySem DL
theorem Cz {scr:D}{c many x i y:Int}(hc:cy [scr,.int 5]=some (.int c,false))(hf:cX [.int c,.int (61*i+x),.int many]=some (.int y,false)):mT [some (.int x,false),some (.int many,false),some (scr,false),some (.int i,false)]=some (.int y,false):=by
 have hm:j7 (.int 61) (.int i)=some (.int (61*i),false):=sr (by decide) (by decide);simp[mT,cE,cf,cG,cF,dC,hc,d2,cc,ck,dg,hm,hf]
theorem yr {scr:D}{k last many c:Int}{ar:Ar}{s2 s8 s9 s10 s11 s12:Option Vl}{acc:List (List Int)}{i:Nat}{s:List Int}{a:Int×Int}(hc:cy [scr,.int 5]=some (.int c,false))(ha:ar[i]?=some a)(hs:s.length<=4/\∀x∈s,0<=x/\x<=200)(hm:a.2=last->s≠[]->0<many)(hm2:many<=200)(hz:acc.length<=1000) :
  ∃s',(s'.length<=4/\∀x∈s',0<=x/\x<=200)/\m9 [some (scr,false),some (cz k ar,false),s2,some (.int last,false),some (.int many,false),some (.list (acc.map cY),true),some (.int (i:Int),false),some (cY s,false),s8,s9,s10,s11,s12]=some (.next [some (scr,false),some (cz k ar,false),s2,some (.int last,false),some (.int many,false),some (.list ((acc++[s']).map cY),true),some (.int (i:Int),false),some (cY s',false),s8,s9,s10,s11,s12]):=by
 have app (s':List Int):(nD 5 (cF 7)) [some (scr,false),some (cz k ar,false),s2,some (.int last,false),some (.int many,false),some (.list (acc.map cY),true),some (.int (i:Int),false),some (cY s',false),s8,s9,s10,s11,s12]=some (.next [some (scr,false),some (cz k ar,false),s2,some (.int last,false),some (.int many,false),some (.list ((acc++[s']).map cY),true),some (.int (i:Int),false),some (cY s',false),s8,s9,s10,s11,s12]):=by
  show (Option.map _ (if (acc.map cY).length<sizeLine then _ else _))=_;rw[if_pos (by rw[ah];exact zf ⋯),bj];rfl
 have ia:cW (.tuple (ar.map cR)) (.int (i:Int))=some (cR a,false):=by
  unfold cW;dsimp only;rw[qf (xs:=ar.map cR) (k:=i) (d:=cR a) (by rw[aN,ha];rfl)];rfl
 have tt:(cL (ck (d2 cW (ck (d2 cW (ck (d2 cW (cc 1) (ck (dC (.int 1))))) (cc 6))) (ck (dC (.int 1))))) [(gF,(cc 3))]) [some (scr,false),some (cz k ar,false),s2,some (.int last,false),some (.int many,false),some (.list (acc.map cY),true),some (.int (i:Int),false),some (cY s,false),s8,s9,s10,s11,s12]=some (decide (a.2=last)):=by
  have e1:(d2 cW (cc 1) (ck (dC (.int 1)))) [some (scr,false),some (cz k ar,false),s2,some (.int last,false),some (.int many,false),some (.list (acc.map cY),true),some (.int (i:Int),false),some (cY s,false),s8,s9,s10,s11,s12]=some (.tuple (ar.map cR),false):=om k ar;have e2:(d2 cW (ck (d2 cW (cc 1) (ck (dC (.int 1))))) (cc 6)) [some (scr,false),some (cz k ar,false),s2,some (.int last,false),some (.int many,false),some (.list (acc.map cY),true),some (.int (i:Int),false),some (cY s,false),s8,s9,s10,s11,s12]=some (cR a,false):=by
   rw[d2,ck,e1];exact ia
  have e3:(d2 cW (ck (d2 cW (ck (d2 cW (cc 1) (ck (dC (.int 1))))) (cc 6))) (ck (dC (.int 1)))) [some (scr,false),some (cz k ar,false),s2,some (.int last,false),some (.int many,false),some (.list (acc.map cY),true),some (.int (i:Int),false),some (cY s,false),s8,s9,s10,s11,s12]=some (.int a.2,false):=by
   rw[d2,ck,e2];exact tI a
  rw[cL,ck,e3];exact ip _ _
 rw[m9];by_cases h:a.2=last
 ·have hi:(dM (d1 dY (cc 7))) [some (scr,false),some (cz k ar,false),s2,some (.int last,false),some (.int many,false),some (.list (acc.map cY),true),some (.int (i:Int),false),some (cY s,false),s8,s9,s10,s11,s12]=some ((aV s.length).map fun (x:Nat)=>.int (x:Int)):=by
   have ln:(d1 dY (cc 7)) [some (scr,false),some (cz k ar,false),s2,some (.int last,false),some (.int many,false),some (.list (acc.map cY),true),some (.int (i:Int),false),some (cY s,false),s8,s9,s10,s11,s12]=some (.int (s.length:Int),false):=o6 s;rw[kJ ln ⋯ ⋯,bU,lR]
  have cm:=gJ (it:=dM (d1 dY (cc 7))) (n:=1) (ix:=[4,0,6]) (g:=gN 0) (e:=mT) (ρ:=[some (scr,false),some (cz k ar,false),s2,some (.int last,false),some (.int many,false),some (.list (acc.map cY),true),some (.int (i:Int),false),some (cY s,false),s8,s9,s10,s11,s12]) (d:=fun (x:Nat)=>.int (x:Int)) (β:=fun (x:Nat)=>.int (k8 c (61*(i:Int)+(x:Int)) many)) (aV s.length) hi (by rw[bx];omega) (fun x hx=>⟨[some (.int (x:Int),false),some (.int many,false),some (scr,false),some (.int (i:Int),false)],false,rfl,Cz hc (k7 (hm h fun z=>by rw[z] at hx;simp at hx))⟩);have cm':(de (dM (d1 dY (cc 7))) 1 [4,0,6] (gN 0) eB mT) [some (scr,false),some (cz k ar,false),s2,some (.int last,false),some (.int many,false),some (.list (acc.map cY),true),some (.int (i:Int),false),some (cY s,false),s8,s9,s10,s11,s12]=some (.list ((((aV s.length).map fun (x:Nat)=>k8 c (61*(i:Int)+(x:Int)) many)).map .int),true):=by
   rw[cm,CF];rfl
  generalize hs':((aV s.length).map fun (x:Nat)=>k8 c (61*(i:Int)+(x:Int)) many)=s' at cm';refine⟨s',⟨by rw[<-hs',ah,bx];exact hs.1,fun x hx=>?_⟩,?_⟩
  ·rw[<-hs'] at hx;obtain⟨n,hn,rfl⟩:=bJ.mp hx;have p:0<many:=hm h fun z=>by rw[z] at hn;simp at hn
   have:=k4 (c:=c) (k:=61*(i:Int)+(n:Int)) p;have:=k6 (c:=c) (k:=61*(i:Int)+(n:Int)) p;omega
  ·rw[cM,gh (by rw[tt,decide_eq_true h]),cO,d1,ck,cm'];exact app s'
 ·refine⟨s,hs,?_⟩;rw[dr (by rw[tt,decide_eq_false h])];exact app s
theorem oi {scr:D}{k last many c:Int}{ar:Ar}{s2 s8 s9 s10 s11 s12:Option Vl}(hc:cy [scr,.int 5]=some (.int c,false))(hm2:many<=200):∀(ss:List (List Int)) (j:Nat) (acc:List (List Int)) (s6 s7:Option Vl),(∀(i:Nat) (s:List Int),ss[i]?=some s->∃a,ar[j+i]?=some a/\(s.length<=4/\∀x∈s,0<=x/\x<=200)/\(a.2=last->s≠[]->0<many))->(∀s∈acc,s.length<=4/\∀x∈s,0<=x/\x<=200)->acc.length+ss.length<=5->∃(acc':List (List Int)) (s6' s7':Option Vl),(∀s∈acc',s.length<=4/\∀x∈s,0<=x/\x<=200)/\acc'.length<=5 ∧
  d7 (gT [gN 6,gN 7]) m9 (fX j (ss.map cY)) [some (scr,false),some (cz k ar,false),s2,some (.int last,false),some (.int many,false),some (.list (acc.map cY),true),s6,s7,s8,s9,s10,s11,s12]=some (.next [some (scr,false),some (cz k ar,false),s2,some (.int last,false),some (.int many,false),some (.list (acc'.map cY),true),s6',s7',s8,s9,s10,s11,s12])
 |[],j,acc,s6,s7,_,ha,hz=>⟨acc,s6,s7,ha,by simp at hz;omega,rfl⟩
 | s::ss,j,acc,s6,s7,h,ha,hz=>by
  obtain⟨a,ea,hs,hp⟩:=h 0 s rfl;rw[Nat.add_zero] at ea;rw[aj] at hz;obtain⟨s',ok,one⟩:=yr (k:=k) (last:=last) (many:=many) (s2:=s2) (s8:=s8) (s9:=s9) (s10:=s10) (s11:=s11) (s12:=s12) (acc:=acc) (i:=j) hc ea hs hp hm2 ⋯;obtain⟨acc',s6',s7',q1,q2,ih⟩:=oi (k:=k) (last:=last) (many:=many) (s2:=s2) (s8:=s8) (s9:=s9) (s10:=s10) (s11:=s11) (s12:=s12) (ar:=ar) hc hm2 ss (j+1) (acc++[s']) (some (.int (j:Int),false)) (some (cY s',false)) (fun i t e=>by
   obtain⟨b,eb,r⟩:=h (i+1) t (by simpa using e);exact⟨b,by rw[show j+1+i=j+(i+1) by omega];exact eb,r⟩) (fun t ht=>by
   rcases aG.mp ht with z|z
   ·exact ha t z
   ·cases aM.mp z;exact ok) (by rw[au,aJ];omega)
  refine⟨acc',s6',s7',q1,q2,?_⟩;rw[aD,fX,d7];simp only[gT,mS,gN,bN,aa,one];exact ih
theorem zZ {scr:D}{k c:Int}{ar:Ar}{rows:List Int}{steps:List (List Int)}(hc:cy [scr,.int 5]=some (.int c,false))(w:Wf k ar)(hk:k<=4)(har:ar.length<=5)(b:xH k ar rows steps)(hr:∀r∈rows,r<=4):∃r' ss' s4 s5 s6 s7,Mod r' ss'/\(fW (cL (ck (d2 dH (ck (cE cy (cf (cF 0) (cf (dC (.int 5)) cG)))) (ck (dC (.int 4))))) [(gF,(ck (dC (.int 1))))]) (cM (cO 4 (d2 wC (ck (d2 cW (ck (d2 cW (cc 2) (ck (dC (.int 0))))) (cc 3))) (ck (d2 dH (ck (d2 gf (ck (cE cy (cf (cF 0) (cf (dC (.int 5)) cG)))) (ck (dC (.int 4))))) (ck (dC (.int 201)))))))
  (cM (cO 5 (eN cG))
  (cM (fg (kX (iy (d2 cW (cc 2) (ck (dC (.int 1)))))) (gT [(gN 6),(gN 7)]) m9)
  (cO 2 (gj (cf (d2 dg (ck (nr (ck (d2 cW (cc 2) (ck (dC (.int 0))))) i5 (i4 (cF 3)))) (ck (gj (cf (cF 4) cG)))) (cf (d1 df (cc 5)) cG))))))) dW) [some (scr,false),some (cz k ar,false),some (cC rows steps,false),some (.int (k-1),false),none,none,none,none,none,none,none,none,none]=some (.next [some (scr,false),some (cz k ar,false),some (cC r' ss',false),some (.int (k-1),false),s4,s5,s6,s7,none,none,none,none,none]):=by
 have lo:=w.lo;have bl:=b.len;have gl (i:Int):gI rows i<=4:=zq (by decide) hr i;have gn (i:Int):0<=gI rows i:=rg b.nn i;have stp:∀s∈steps,s.length<=4/\∀x∈s,0<=x/\x<=200:=fun s hs=>by
  obtain⟨i,hi,e⟩:=List.mem_iff_getElem.mp hs;have ha:i<ar.length:=by rw[<-b.sl];exact hi
  have q:=b.st i ar[i] steps[i] (bc ha) (bc hi);rw[e] at q;have:=gl ar[i].1;refine⟨by omega,fun x hx=>?_⟩;have:=q.2 x hx;have:=gl ar[i].2;omega
 have base:Mod rows steps:=⟨fun z=>by rw[z] at bl;simp at bl;omega,by omega,fun x hx=>⟨b.nn x hx,by have:=hr x hx;omega⟩,by rw[b.sl];exact har,stp⟩;have hcell:(cE cy (cf (cF 0) (cf (dC (.int 5)) cG))) [some (scr,false),some (cz k ar,false),some (cC rows steps,false),some (.int (k-1),false),none,none,none,none,none,none,none,none,none]=some (.int c,false):=hc;have tt:(cL (ck (d2 dH (ck (cE cy (cf (cF 0) (cf (dC (.int 5)) cG)))) (ck (dC (.int 4))))) [(gF,(ck (dC (.int 1))))]) [some (scr,false),some (cz k ar,false),some (cC rows steps,false),some (.int (k-1),false),none,none,none,none,none,none,none,none,none]=some (decide (c%4=1)):=by
  have q:(d2 dH (ck (cE cy (cf (cF 0) (cf (dC (.int 5)) cG)))) (ck (dC (.int 4)))) [some (scr,false),some (cz k ar,false),some (cC rows steps,false),some (.int (k-1),false),none,none,none,none,none,none,none,none,none]=some (.int (c%4),false):=by
   rw[d2,ck,hcell];exact dz (i:=c) (j:=4) (by decide)
  rw[cL,ck,q];exact ip _ _
 by_cases h:c%4=1
 ·rw[gh (by rw[tt,decide_eq_true h])];obtain⟨many,hmany⟩:∃many:Int,many=if c/4%201>gI rows (k-1) then c/4%201 else gI rows (k-1):=⟨_,rfl⟩;have c0:0<=c/4%201:=bu _ (by decide);have c1:c/4%201<201:=bo _ (by decide);have g4:=gl (k-1);have g0:=gn (k-1);have m2:many<=200:=by rw[hmany];split <;> omega
  have m1:gI rows (k-1)<=many:=by rw[hmany];split <;> omega
  have m0:0<=many:=by omega
  have h4:(cO 4 (d2 wC (ck (d2 cW (ck (d2 cW (cc 2) (ck (dC (.int 0))))) (cc 3))) (ck (d2 dH (ck (d2 gf (ck (cE cy (cf (cF 0) (cf (dC (.int 5)) cG)))) (ck (dC (.int 4))))) (ck (dC (.int 201))))))) [some (scr,false),some (cz k ar,false),some (cC rows steps,false),some (.int (k-1),false),none,none,none,none,none,none,none,none,none]=some (.next [some (scr,false),some (cz k ar,false),some (cC rows steps,false),some (.int (k-1),false),some (.int many,false),none,none,none,none,none,none,none,none]):=by
   have e1:(d2 cW (cc 2) (ck (dC (.int 0)))) [some (scr,false),some (cz k ar,false),some (cC rows steps,false),some (.int (k-1),false),none,none,none,none,none,none,none,none,none]=some (cY rows,false):=oR rows steps;have e2:(d2 cW (ck (d2 cW (cc 2) (ck (dC (.int 0))))) (cc 3)) [some (scr,false),some (cz k ar,false),some (cC rows steps,false),some (.int (k-1),false),none,none,none,none,none,none,none,none,none]=some (.int (gI rows (k-1)),false):=by
    rw[d2,ck,e1];exact v9 ⋯ ⋯
   have e3:(d2 gf (ck (cE cy (cf (cF 0) (cf (dC (.int 5)) cG)))) (ck (dC (.int 4)))) [some (scr,false),some (cz k ar,false),some (cC rows steps,false),some (.int (k-1),false),none,none,none,none,none,none,none,none,none]=some (.int (c/4),false):=by
    rw[d2,ck,hcell];exact gP (i:=c) (j:=4) (by decide) (by decide)
   have e4:(d2 dH (ck (d2 gf (ck (cE cy (cf (cF 0) (cf (dC (.int 5)) cG)))) (ck (dC (.int 4))))) (ck (dC (.int 201)))) [some (scr,false),some (cz k ar,false),some (cC rows steps,false),some (.int (k-1),false),none,none,none,none,none,none,none,none,none]=some (.int (c/4%201),false):=by
    rw[d2,ck,e3];exact dz (i:=c/4) (j:=201) (by decide)
   rw[cO,d2,ck,e2,ag,aa,ck,e4,ag,aa,hmany];rfl
  have h5:(cO 5 (eN cG)) [some (scr,false),some (cz k ar,false),some (cC rows steps,false),some (.int (k-1),false),some (.int many,false),none,none,none,none,none,none,none,none]=some (.next [some (scr,false),some (cz k ar,false),some (cC rows steps,false),some (.int (k-1),false),some (.int many,false),some (.list (([]:List (List Int)).map cY),true),none,none,none,none,none,none,none]):=rfl;obtain⟨ss',s6,s7,q1,q2,lp⟩:=oi (k:=k) (last:=k-1) (many:=many) (ar:=ar) (s2:=some (cC rows steps,false)) (s8:=none) (s9:=none) (s10:=none) (s11:=none) (s12:=none) hc m2 steps 0 [] none none (fun i s e=>by
   have hi:i<steps.length:=(aE.mp e).1;have hi2:i<ar.length:=by rw[<-b.sl];exact hi
   have q:=b.st i ar[i] s (bc hi2) e;refine⟨ar[i],by rw[bZ];exact bc hi2,stp s (aQ e),fun h2 hne=>?_⟩;obtain⟨x,hx⟩:=List.exists_mem_of_ne_nil s hne;have:=q.2 x hx;rw[h2] at this;omega) (fun s hs=>nomatch hs) (by rw[b.sl];simpa using har)
  have it:(kX (iy (d2 cW (cc 2) (ck (dC (.int 1)))))) [some (scr,false),some (cz k ar,false),some (cC rows steps,false),some (.int (k-1),false),some (.int many,false),some (.list (([]:List (List Int)).map cY),true),none,none,none,none,none,none,none]=some (fX 0 (steps.map cY)):=by
   show (((cW (cC rows steps) (.int 1)).bind fun x=>eV x.1).map (fX 0))=_;rw[oQ];rfl
  refine⟨rows.take (k-1).toNat++[many],ss',some (.int many,false),some (.list (ss'.map cY),true),s6,s7,⟨by simp,?_,fun x hx=>?_,q2,q1⟩,?_⟩
  ·rw[au,bB,aJ];omega
  ·rcases aG.mp hx with z|z
   ·exact base.rv x (List.mem_of_mem_take z)
   ·cases aM.mp z;omega
  ·rw[cS h4,cS h5,cM,hV it,lp];show (cO 2 (gj (cf (d2 dg (ck (nr (ck (d2 cW (cc 2) (ck (dC (.int 0))))) i5 (i4 (cF 3)))) (ck (gj (cf (cF 4) cG)))) (cf (d1 df (cc 5)) cG)))) [some (scr,false),some (cz k ar,false),some (cC rows steps,false),some (.int (k-1),false),some (.int many,false),some (.list (ss'.map cY),true),s6,s7,none,none,none,none,none]=_;have e1:(d2 cW (cc 2) (ck (dC (.int 0)))) [some (scr,false),some (cz k ar,false),some (cC rows steps,false),some (.int (k-1),false),some (.int many,false),some (.list (ss'.map cY),true),s6,s7,none,none,none,none,none]=some (cY rows,false):=oR rows steps;have e2:(nr (ck (d2 cW (cc 2) (ck (dC (.int 0))))) i5 (i4 (cF 3))) [some (scr,false),some (cz k ar,false),some (cC rows steps,false),some (.int (k-1),false),some (.int many,false),some (.list (ss'.map cY),true),s6,s7,none,none,none,none,none]=some (cY (rows.take (k-1).toNat),false):=by
    rw[nr,ck,e1];show nJ (cY rows) none (some (k-1))=_;unfold nJ cY;dsimp only;unfold nK nC;dsimp only;rw[if_neg ⋯,Nat.min_eq_left (by rw[ah];omega),List.map_take];rfl
   have e3:(gj (cf (cF 4) cG)) [some (scr,false),some (cz k ar,false),some (cC rows steps,false),some (.int (k-1),false),some (.int many,false),some (.list (ss'.map cY),true),s6,s7,none,none,none,none,none]=some (cY [many],false):=rfl;have e4:(d2 dg (ck (nr (ck (d2 cW (cc 2) (ck (dC (.int 0))))) i5 (i4 (cF 3)))) (ck (gj (cf (cF 4) cG)))) [some (scr,false),some (cz k ar,false),some (cC rows steps,false),some (.int (k-1),false),some (.int many,false),some (.list (ss'.map cY),true),s6,s7,none,none,none,none,none]=some (cY (rows.take (k-1).toNat++[many]),false):=by
    rw[d2,ck,e2,ag,aa,ck,e3,ag,aa];unfold dg cY;dsimp only;rw[if_pos (by rw[ah,ah,bB];exact l4 (by simp;omega)),<-bj]
   rw[cO,gj,cf,e4];rfl
 ·refine⟨rows,steps,none,none,none,none,base,?_⟩;rw[lS (by rw[tt,decide_eq_false h])];rfl
end Lw
namespace Lw
open PySem DL
theorem law_true (ns:List Int)(_:ns.length<=63):F_law [.list (ns.map .int)]=some (.bool true,false):=by
 obtain⟨k,ar,ef,wf,hk,ha⟩:=tT ns 0 (most:=4) (many:=5) (by decide) (by decide) (by decide) (by decide);have ef':du [.list (ns.map .int),.int 0,.int 4,.int 5]=some (cz k ar,false):=ef;obtain⟨kb,arb,efb,wfb,hkb,hab⟩:=tT ns 8 (most:=4) (many:=5) (by decide) (by decide) (by decide) (by decide);have efb':du [.list (ns.map .int),.int 8,.int 4,.int 5]=some (cz kb arb,false):=efb;obtain⟨rows,steps,eb,bok,hr⟩:=yZ ns 3 wf ⋯ ⋯ (most:=4) (by decide) (by decide);have eb':eR [.list (ns.map .int),.int 3,cz k ar,.int 4]=some (cC rows steps,false):=eb;have c5:cy [.list (ns.map .int),.int 5]=some (.int (cell ns 5),false):=il ns 5;have c6:cy [.list (ns.map .int),.int 6]=some (.int (cell ns 6),false):=il ns 6;have c7:cy [.list (ns.map .int),.int 7]=some (.int (cell ns 7),false):=il ns 7;have run:F_law [.list (ns.map .int)]=(uc [some (.list (ns.map .int),false),none,none,none,none,none,none,none,none,none,none,none,none]).bind eK:=rfl;generalize PyData.list (ns.map .int)=scr at *;have h1:(cO 1 (cE du (cf (cF 0) (cf (dC (.int 0)) (cf (dC (.int 4)) (cf (dC (.int 5)) cG)))))) [some (scr,false),none,none,none,none,none,none,none,none,none,none,none,none]=some (.next [some (scr,false),some (cz k ar,false),none,none,none,none,none,none,none,none,none,none,none]):=by
  show (du [scr,.int 0,.int 4,.int 5]).bind _=_;rw[ef'];rfl
 have h2:(cO 2 (cE eR (cf (cF 0) (cf (dC (.int 3)) (cf (cF 1) (cf (dC (.int 4)) cG)))))) [some (scr,false),some (cz k ar,false),none,none,none,none,none,none,none,none,none,none,none]=some (.next [some (scr,false),some (cz k ar,false),some (cC rows steps,false),none,none,none,none,none,none,none,none,none,none]):=by
  show (eR [scr,.int 3,cz k ar,.int 4]).bind _=_;rw[eb'];rfl
 have h3:(cO 3 (d2 qR (ck (d2 cW (cc 1) (ck (dC (.int 0))))) (ck (dC (.int 1))))) [some (scr,false),some (cz k ar,false),some (cC rows steps,false),none,none,none,none,none,none,none,none,none,none]=some (.next [some (scr,false),some (cz k ar,false),some (cC rows steps,false),some (.int (k-1),false),none,none,none,none,none,none,none,none,none]):=by
  show ((((cW (cz k ar) (.int 0)).map (·.1)).bind fun x=>(some (PyData.int 1)).bind fun y=>qR x y).bind _)=_;rw[rm];rfl
 obtain⟨r,ss,s4,s5,s6,s7,m,h4⟩:=zZ c5 wf hk ⋯ bok hr;rw[run,uc,cS h1,cS h2,cS h3,cS h4];clear h1 h2 h3 h4 run bok eb eb' hr ef ef';have ok:=rM m;have r4:=m.rl;have s5l:=m.sl;have rw0:r.map fC≠[]:=by
  intro z;exact m.ne (List.map_eq_nil_iff.mp z)
 have tr:eF (r.map fC)<=110:=by
  have:=ok.2.1;rw[eO,iJ] at this;omega
 have jn:=mL (B:=3) (ws:=r.map fC) (fun w hw=>(ok.2.2 w (aB _ hw)).1) (by rw[ah];omega);have h8:(cO 8 (d2 jt (ck (dC (.str " "))) (ck (de (dw (iy (d2 cW (cc 2) (ck (dC (.int 0)))))) 1 [] (gN 0) eB sR)))) [some (scr,false),some (cz k ar,false),some (cC r ss,false),some (.int (k-1),false),s4,s5,s6,s7,none,none,none,none,none]=some (.next [some (scr,false),some (cz k ar,false),some (cC r ss,false),some (.int (k-1),false),s4,s5,s6,s7,some (.str (tx (dv (r.map fC))),false),none,none,none,none]):=by
  have cm:=mM m.rv (it:=dw (iy (d2 cW (cc 2) (ck (dC (.int 0)))))) (e:=sR) (ρ:=[some (scr,false),some (cz k ar,false),some (cC r ss,false),some (.int (k-1),false),s4,s5,s6,s7,none,none,none,none,none]) (by
   show ((cW (cC r ss) (.int 0)).bind fun x=>eV x.1)=_;rw[oR];rfl) (fun _=>rfl) ⋯
  rw[iZ,cO,d2,ck,dC,ag,aa,ck,cm,ag,aa,jn];rfl
 obtain⟨u7,u9,lp⟩:=og (s0:=some (scr,false)) (s1:=some (cz k ar,false)) (s2:=some (cC r ss,false)) (s3:=some (.int (k-1),false)) (s4:=s4) (s5:=s5) (s6:=s6) (s10:=none) (s11:=none) (s12:=none) ss (r.map fC) s7 none rw0 m.se ⋯;have h9:(fg (dw (iy (d2 cW (cc 2) (ck (dC (.int 1)))))) (gN 7) m8) [some (scr,false),some (cz k ar,false),some (cC r ss,false),some (.int (k-1),false),s4,s5,s6,s7,some (.str (tx (dv (r.map fC))),false),none,none,none,none]=some (.next [some (scr,false),some (cz k ar,false),some (cC r ss,false),some (.int (k-1),false),s4,s5,s6,u7,some (.str (tx (dv (eO r ss))),false),u9,none,none,none]):=by
  rw[hV (ds:=ss.map cY) (by
   show ((cW (cC r ss) (.int 1)).bind fun x=>eV x.1)=_;rw[oQ];rfl),lp]
  rfl
 have bs:=nP m;have sg:∀c∈dv (eO r ss),c<1114112:=oj fun w hw=>(ok.2.2 w hw).2;have sl:(dv (eO r ss)).length<=250:=by
  have:=lI (eO r ss);omega
 have h10:(cO 10 (cE d9 (cf (cF 2) cG))) [some (scr,false),some (cz k ar,false),some (cC r ss,false),some (.int (k-1),false),s4,s5,s6,u7,some (.str (tx (dv (eO r ss))),false),u9,none,none,none]=some (.next [some (scr,false),some (cz k ar,false),some (cC r ss,false),some (.int (k-1),false),s4,s5,s6,u7,some (.str (tx (dv (eO r ss))),false),u9,some (.str (tx (dv (eO r ss))),false),none,none]):=by
  show (d9 [cC r ss]).bind _=_;rw[bs];rfl
 have t10:(iU (eT (lq (d1 (i7 "str") (cc 10)))) (cL (cc 10) [(j6,(cc 8))])) [some (scr,false),some (cz k ar,false),some (cC r ss,false),some (.int (k-1),false),s4,s5,s6,u7,some (.str (tx (dv (eO r ss))),false),u9,some (.str (tx (dv (eO r ss))),false),none,none]=some false:=by
  show j6 (.str (tx (dv (eO r ss)))) (.str (tx (dv (eO r ss))))=some false;rw[qV sg sg];simp
 rw[cS h8,cS h9,cS h10,dr t10];clear h8 h9 h10 t10 lp bs jn;obtain⟨t,et,tok⟩:=rX (l:=dv (eO r ss)) (m:=cell ns 6%8) (c:=cell ns 7%10 ^ 9) ⟨sl,sg⟩ (bu _ (by decide));generalize some (PyData.int (k-1),false)=s3;generalize some (cC r ss,false)=s2;generalize hT:dv (eO r ss)=T at *;generalize hU:some (PyData.str (tx T),false)=U;have h11:(cO 8 (cE dR (cf (cF 8) (cf (d2 dH (ck (cE cy (cf (cF 0) (cf (dC (.int 6)) cG)))) (ck (dC (.int 8)))) (cf (d2 dH (ck (cE cy (cf (cF 0) (cf (dC (.int 7)) cG)))) (ck (d2 pH (ck (dC (.int 10))) (ck (dC (.int 9)))))) cG))))) [some (scr,false),some (cz k ar,false),s2,s3,s4,s5,s6,u7,U,u9,U,none,none]=some (.next [some (scr,false),some (cz k ar,false),s2,s3,s4,s5,s6,u7,some (.str (tx t),false),u9,U,none,none]):=by
  have p9:(d2 pH (ck (dC (.int 10))) (ck (dC (.int 9)))) [some (scr,false),some (cz k ar,false),s2,s3,s4,s5,s6,u7,U,u9,U,none,none]=some (.int (10 ^ 9),false):=by simp[d2,ck,dC,wB]
  have a6:(cE cy (cf (cF 0) (cf (dC (.int 6)) cG))) [some (scr,false),some (cz k ar,false),s2,s3,s4,s5,s6,u7,U,u9,U,none,none]=some (.int (cell ns 6),false):=c6;have a7:(cE cy (cf (cF 0) (cf (dC (.int 7)) cG))) [some (scr,false),some (cz k ar,false),s2,s3,s4,s5,s6,u7,U,u9,U,none,none]=some (.int (cell ns 7),false):=c7;have q6:(d2 dH (ck (cE cy (cf (cF 0) (cf (dC (.int 6)) cG)))) (ck (dC (.int 8)))) [some (scr,false),some (cz k ar,false),s2,s3,s4,s5,s6,u7,U,u9,U,none,none]=some (.int (cell ns 6%8),false):=by
   rw[d2,ck,a6];exact dz (i:=cell ns 6) (j:=8) (by decide)
  have q7:(d2 dH (ck (cE cy (cf (cF 0) (cf (dC (.int 7)) cG)))) (ck (d2 pH (ck (dC (.int 10))) (ck (dC (.int 9)))))) [some (scr,false),some (cz k ar,false),s2,s3,s4,s5,s6,u7,U,u9,U,none,none]=some (.int (cell ns 7%10 ^ 9),false):=by
   rw[d2,ck,a7,ag,aa,ck,p9];exact dz (i:=cell ns 7) (j:=10 ^ 9) (by decide)
  have d8:cF 8 [some (scr,false),some (cz k ar,false),s2,s3,s4,s5,s6,u7,U,u9,U,none,none]=some (.str (tx T),false):=by rw[<-hU];rfl
  rw[cO,cE,cf,d8,aa,cf,q6,aa,cf,q7];show (dR [.str (tx T),.int (cell ns 6%8),.int (cell ns 7%10 ^ 9)]).bind _=_;rw[et];rfl
 rw[cS h11];clear h11 et;have h12:∃t',nh t'/\(fW (cL (ck (d2 dH (ck (d2 gf (ck (cE cy (cf (cF 0) (cf (dC (.int 6)) cG)))) (ck (dC (.int 8))))) (ck (dC (.int 9))))) [(gF,(ck (dC (.int 1))))]) (cO 8 (cE fN (cf (cE cy (cf (cF 0) (cf (dC (.int 7)) cG))) cG))) dW) [some (scr,false),some (cz k ar,false),s2,s3,s4,s5,s6,u7,some (.str (tx t),false),u9,U,none,none]=some (.next [some (scr,false),some (cz k ar,false),s2,s3,s4,s5,s6,u7,some (.str (tx t'),false),u9,U,none,none]):=by
  have a6:(cE cy (cf (cF 0) (cf (dC (.int 6)) cG))) [some (scr,false),some (cz k ar,false),s2,s3,s4,s5,s6,u7,some (.str (tx t),false),u9,U,none,none]=some (.int (cell ns 6),false):=c6;have q1:(d2 gf (ck (cE cy (cf (cF 0) (cf (dC (.int 6)) cG)))) (ck (dC (.int 8)))) [some (scr,false),some (cz k ar,false),s2,s3,s4,s5,s6,u7,some (.str (tx t),false),u9,U,none,none]=some (.int (cell ns 6/8),false):=by
   rw[d2,ck,a6];exact gP (i:=cell ns 6) (j:=8) (by decide) (by decide)
  have q2:(d2 dH (ck (d2 gf (ck (cE cy (cf (cF 0) (cf (dC (.int 6)) cG)))) (ck (dC (.int 8))))) (ck (dC (.int 9)))) [some (scr,false),some (cz k ar,false),s2,s3,s4,s5,s6,u7,some (.str (tx t),false),u9,U,none,none]=some (.int (cell ns 6/8%9),false):=by
   rw[d2,ck,q1];exact dz (i:=cell ns 6/8) (j:=9) (by decide)
  have tt:(cL (ck (d2 dH (ck (d2 gf (ck (cE cy (cf (cF 0) (cf (dC (.int 6)) cG)))) (ck (dC (.int 8))))) (ck (dC (.int 9))))) [(gF,(ck (dC (.int 1))))]) [some (scr,false),some (cz k ar,false),s2,s3,s4,s5,s6,u7,some (.str (tx t),false),u9,U,none,none]=some (decide (cell ns 6/8%9=1)):=by
   rw[cL,ck,q2];exact ip _ _
  by_cases h:cell ns 6/8%9=1
  ·obtain⟨t',eo,ro⟩:=zW (c:=cell ns 7);refine⟨t',ro,?_⟩;have a7:(cE cy (cf (cF 0) (cf (dC (.int 7)) cG))) [some (scr,false),some (cz k ar,false),s2,s3,s4,s5,s6,u7,some (.str (tx t),false),u9,U,none,none]=some (.int (cell ns 7),false):=c7;rw[gh (by rw[tt,decide_eq_true h]),cO,cE,cf,a7];show (fN [.int (cell ns 7)]).bind _=_;rw[eo];rfl
  ·refine⟨t,tok,?_⟩;rw[lS (by rw[tt,decide_eq_false h])];rfl
 obtain⟨t',tok',h12⟩:=h12;rw[cS h12];clear h12;have h13:∃k' ar',Wf k' ar'/\ar'.length<=1000/\(fW (cL (ck (d2 dH (ck (d2 gf (ck (cE cy (cf (cF 0) (cf (dC (.int 6)) cG)))) (ck (dC (.int 72))))) (ck (dC (.int 6))))) [(gF,(ck (dC (.int 1))))]) (cO 1 (cE du (cf (cF 0) (cf (dC (.int 8)) (cf (dC (.int 4)) (cf (dC (.int 5)) cG)))))) dW) [some (scr,false),some (cz k ar,false),s2,s3,s4,s5,s6,u7,some (.str (tx t'),false),u9,U,none,none]=some (.next [some (scr,false),some (cz k' ar',false),s2,s3,s4,s5,s6,u7,some (.str (tx t'),false),u9,U,none,none]):=by
  have a6:(cE cy (cf (cF 0) (cf (dC (.int 6)) cG))) [some (scr,false),some (cz k ar,false),s2,s3,s4,s5,s6,u7,some (.str (tx t'),false),u9,U,none,none]=some (.int (cell ns 6),false):=c6;have q1:(d2 gf (ck (cE cy (cf (cF 0) (cf (dC (.int 6)) cG)))) (ck (dC (.int 72)))) [some (scr,false),some (cz k ar,false),s2,s3,s4,s5,s6,u7,some (.str (tx t'),false),u9,U,none,none]=some (.int (cell ns 6/72),false):=by
   rw[d2,ck,a6];exact gP (i:=cell ns 6) (j:=72) (by decide) (by decide)
  have q2:(d2 dH (ck (d2 gf (ck (cE cy (cf (cF 0) (cf (dC (.int 6)) cG)))) (ck (dC (.int 72))))) (ck (dC (.int 6)))) [some (scr,false),some (cz k ar,false),s2,s3,s4,s5,s6,u7,some (.str (tx t'),false),u9,U,none,none]=some (.int (cell ns 6/72%6),false):=by
   rw[d2,ck,q1];exact dz (i:=cell ns 6/72) (j:=6) (by decide)
  have tt:(cL (ck (d2 dH (ck (d2 gf (ck (cE cy (cf (cF 0) (cf (dC (.int 6)) cG)))) (ck (dC (.int 72))))) (ck (dC (.int 6))))) [(gF,(ck (dC (.int 1))))]) [some (scr,false),some (cz k ar,false),s2,s3,s4,s5,s6,u7,some (.str (tx t'),false),u9,U,none,none]=some (decide (cell ns 6/72%6=1)):=by
   rw[cL,ck,q2];exact ip _ _
  by_cases h:cell ns 6/72%6=1
  ·refine⟨kb,arb,wfb,by omega,?_⟩;rw[gh (by rw[tt,decide_eq_true h])];show (du [scr,.int 8,.int 4,.int 5]).bind _=_;rw[efb'];rfl
  ·refine⟨k,ar,wf,by omega,?_⟩;rw[lS (by rw[tt,decide_eq_false h])];rfl
 obtain⟨k',ar',wf',la',h13⟩:=h13;rw[cS h13];clear h13;have ed:=sG wf' la' tok'.1 tok'.2;have et:=qY wf' la' tok'.1 tok'.2;have dl:∀p,lK k' ar' (el 32 t')=some p->p.1.length<=1000000/\p.2.length<=1000000/\∀s∈p.2,s.length<=1000000:=by
  intro p hp;unfold lK at hp;split at hp
  ·cases hp;have cl:=iR 32 t';have t6:=tok'.1;have rl:=lD (el 32 t');have sp:=kH (el 32 t') [];have ll:=kU (el 32 t') [] [];have le:=jY (m:=1000) (el 32 t') [] [] (fun g hg=>nomatch hg) (by simp;omega);rw[sp] at ll le;rw[aj] at ll;simp only[bK,bZ] at ll;dsimp only;refine⟨by rw[ah];omega,by omega,fun s hs=>?_⟩;have:=le s (by simp[hs]);omega
  ·cases hp
 have h14:(cO 11 (cE fO (cf (cF 8) (cf (cF 1) cG)))) [some (scr,false),some (cz k' ar',false),s2,s3,s4,s5,s6,u7,some (.str (tx t'),false),u9,U,none,none]=some (.next [some (scr,false),some (cz k' ar',false),s2,s3,s4,s5,s6,u7,some (.str (tx t'),false),u9,U,some (lg (lK k' ar' (el 32 t')) (.none,false)),none]):=by
  show (fO [.str (tx t'),cz k' ar']).bind _=_;rw[ed];rfl
 have h15:(cO 12 (cE fk (cf (cF 8) (cf (cF 1) cG)))) [some (scr,false),some (cz k' ar',false),s2,s3,s4,s5,s6,u7,some (.str (tx t'),false),u9,U,some (lg (lK k' ar' (el 32 t')) (.none,false)),none]=some (.next [some (scr,false),some (cz k' ar',false),s2,s3,s4,s5,s6,u7,some (.str (tx t'),false),u9,U,some (lg (lK k' ar' (el 32 t')) (.none,false)),some (lg (lK k' ar' (el 32 t')) (.list [.bool true,.bool true,.bool false],true))]):=by
  show (fk [.str (tx t'),cz k' ar']).bind _=_;rw[et];rfl
 rw[cS h14,cS h15];clear h14 h15 ed et;cases hd:lK k' ar' (el 32 t') with
 |none =>
  have q:gF (.list [.bool true,.bool true,.bool false]) (.list [.bool true,.bool true,.bool false])=some true:=by decide +kernel
  have e:(fZ (cL (cc 12) [(gF,(ck (eN (cf (dC (.bool true)) (cf (dC (.bool true)) (cf (dC (.bool false)) cG))))))])) [some (scr,false),some (cz k' ar',false),s2,s3,s4,s5,s6,u7,some (.str (tx t'),false),u9,U,some (lg none (.none,false)),some (lg none (.list [.bool true,.bool true,.bool false],true))]=some (.bool true,false):=by
   show ((gF (.list [.bool true,.bool true,.bool false]) (.list [.bool true,.bool true,.bool false])).bind fun c=>some ((PyData.bool c,false):Vl))=_;rw[q];rfl
  rw[dq rfl e];rfl
 |some p =>
  have q:=dl p hd;have pe:=ye q.1 q.2.1 q.2.2;rw[dr rfl];show (((fM [cC p.1 p.2,cC p.1 p.2]).map Fl.ret).bind eK)=_;rw[pe];rfl
end Lw
set_option maxHeartbeats 4000000
namespace Lw
open PySem DL
noncomputable def top (i:Nat):Stmt:=PySem.Challenge.pw_formshift_k16_book_written.main.body.getD i (.Pass ⟨0,0,0,0⟩)
noncomputable abbrev kz:Stmt:=top 16
noncomputable abbrev kD:Stmt:=top 17
noncomputable abbrev kC:Stmt:=top 19
noncomputable abbrev kA:Stmt:=top 20
noncomputable abbrev gO:Stmt:=top 22
noncomputable abbrev fv:Stmt:=top 11
noncomputable abbrev iw:Stmt:=top 27
noncomputable abbrev iY:Stmt:=top 29
noncomputable abbrev jW:Stmt:=top 30
noncomputable abbrev gu:Stmt:=top 3
noncomputable abbrev iM:Stmt:=top 2
noncomputable abbrev hJ:Stmt:=top 14
noncomputable abbrev iu:Stmt:=top 13
noncomputable abbrev g9:Stmt:=top 12
noncomputable abbrev kv:Stmt:=top 31
noncomputable abbrev jE:Stmt:=top 18
noncomputable abbrev fQ:Stmt:=top 24
noncomputable abbrev iX:Stmt:=top 25
noncomputable abbrev ly:Stmt:=top 28
noncomputable abbrev kT:Stmt:=top 32
structure Txt (mg:Str->Option Value):Prop where
 b_ValueError:mg "ValueError" = none
 b_all:mg "all" = none
 b_bool:mg "bool" = none
 b_enumerate:mg "enumerate" = none
 b_int:mg "int" = none
 b_isinstance:mg "isinstance" = none
 b_len:mg "len" = none
 b_max:mg "max" = none
 b_min:mg "min" = none
 b_range:mg "range" = none
 b_sorted:mg "sorted" = none
 b_str:mg "str" = none
 b_tuple:mg "tuple" = none
 b_zip:mg "zip" = none
 g_FIGURES:∃tk,mg "FIGURES" = some (.str "0123456789" tk)
 g_MOST_FIGURES:∃tk,mg "MOST_FIGURES" = some (.int 3 tk)
 g_MOST_ROWS:∃tk,mg "MOST_ROWS" = some (.int 200 tk)
section
variable {P:Program}{w:World}{K:PySem.W.Frag}{mg:Str->Option Value}{base:Heap}
local macro_rules | `(tactic| trivial) => `(tactic| first | exact ⟨rfl,rfl,rfl,by decide +kernel,rfl,by decide +kernel,by decide +kernel⟩ | fail)
theorem fm:L2.FnScope ["cell", "found", "factor", "mixed"] ["cell"] (L2.defScope kz):=by trivial
theorem qL {f:Addr}{fd:FuncData}(T:Txt mg)  (Fu:L2.Fun K "_law_stir" "_law_stir" kz f fd):L2.FnOk P w K mg base L2.CX0 1 f fd ["cell"] (spD K fL) :=
 fF (N:=["cell", "found", "factor", "mixed"]) (b:=kN) Fu fm fun cdv A outer s H E hr =>
  (cB (cU (i:=1) fm.nd cx)
  (cB (fI rfl (eM (ju (gW (cw cx (cw cx (cw cx (cw cx cK))))))) (cT (i:=2) fm.nd) (cB (cU (i:=3) fm.nd (cN L2.op_mod d6 (DE.bb (cN L2.op_addA dj (DE.bb (cN L2.op_mul jI (cj 0) (cj 2))) (DE.bb cx))) (DE.bb cx)))
  (cB (cU (i:=3) fm.nd (cN L2.op_mod d6 (DE.bb (cN L2.op_mul jI (DE.bb (cN L2.op_mod d6 (DE.bb (cN L2.op_mul jI (cj 3) (cj 3))) (DE.bb cx))) (DE.bb cx))) (DE.bb cx)))
  (cD (cU (i:=1) fm.nd (cN L2.op_addA dj (DE.bb (cN L2.op_mul jI (cj 1) (DE.bb (cN L2.op_pow wz (DE.bb cx) (DE.bb cx))))) (DE.bb (cN L2.op_fdiv kE (cj 3) (DE.bb cx)))))))))
  (cD (cV (cJ 1)))))
theorem qz:L2.FnScope ["script", "k"] ["script", "k"] (L2.defScope kD):=by trivial
theorem qP {f:Addr}{fd:FuncData}(T:Txt mg)(c_law_stir:gH P w K mg base 1 "_law_stir" ["cell"] fL)(Fu:L2.Fun K "_law_cell" "_law_cell" kD f fd):L2.FnOk P w K mg base L2.CX0 2 f fd ["script", "k"] (spD K cy) :=
 fF (N:=["script", "k"]) (b:=jh) Fu qz fun cdv A outer s H E hr =>
  (cB (d5 (dA L2.op_lt ug (cj 1) (DE.bb (gi T.b_len (cj 0)))) (cD (cV (dm c_law_stir hr (cw (c9 (cj 0) (cj 1)) cK)))) c8)
  (cD (cV (dm c_law_stir hr (cw cx cK)))))
theorem g6:L2.FnScope ["cell", "k", "bound", "stir", "turn"] ["cell", "k", "bound"] (L2.defScope kC):=by trivial
theorem qO {f:Addr}{fd:FuncData}(T:Txt mg)  (Fu:L2.Fun K "_law_draw" "_law_draw" kC f fd):L2.FnOk P w K mg base L2.CX0 1 f fd ["cell", "k", "bound"] (spD K cX) :=
 fF (N:=["cell", "k", "bound", "stir", "turn"]) (b:=kO) Fu g6 fun cdv A outer s H E hr =>
  (cB (cU (i:=3) g6.nd (cN L2.op_mod d6 (DE.bb (cN L2.op_addA dj (DE.bb (cN L2.op_addA dj (DE.bb (cN L2.op_mod d6 (cj 0) (DE.bb cx))) (DE.bb cx))) (DE.bb (cN L2.op_mul jI (cj 1) (DE.bb cx))))) (DE.bb cx)))
  (cB (fI rfl (iO T.b_range cx) (cT (i:=4) g6.nd) (cD (cU (i:=3) g6.nd (cN L2.op_mod d6 (DE.bb (cN L2.op_mul jI (cj 3) (DE.bb cx))) (DE.bb cx)))))
  (cD (cV (cN L2.op_mod d6 (DE.bb (cN L2.op_fdiv kE (cj 3) (DE.bb cx))) (cj 2))))))
theorem fo:L2.FnScope ["script", "first", "most", "many", "kinds", "arrows", "k", "a", "b"] ["script", "first", "most", "many"] (L2.defScope kA):=by trivial
theorem qN {f:Addr}{fd:FuncData}(T:Txt mg)(c_law_cell:gH P w K mg base 2 "_law_cell" ["script", "k"] cy)(c_law_draw:gH P w K mg base 1 "_law_draw" ["cell", "k", "bound"] cX)(Fu:L2.Fun K "_law_form" "_law_form" kA f fd):L2.FnOk P w K mg base L2.CX0 3 f fd ["script", "first", "most", "many"] (spD K du) :=
 fF (N:=["script", "first", "most", "many", "kinds", "arrows", "k", "a", "b"]) (b:=jg) Fu fo fun cdv A outer s H E hr =>
  (cB (cU (i:=4) fo.nd (cN L2.op_addA dj (DE.bb cx) (DE.bb (cN L2.op_mod d6 (DE.bb (dm c_law_cell hr (cw (cJ 0) (cw (cJ 1) cK)))) (cj 2)))))
  (cB (cU (i:=5) fo.nd (gW cK))
  (cB (d5 (dA L2.op_gt rK (cj 4) (DE.bb cx)) (cD (fI rfl (iO T.b_range (cN L2.op_mod d6 (DE.bb (cN L2.op_fdiv kE (DE.bb (dm c_law_cell hr (cw (cJ 0) (cw (cJ 1) cK)))) (cj 2))) (DE.bb (cN L2.op_addA dj (cj 3) (DE.bb cx))))) (cT (i:=6) fo.nd) (cB (cU (i:=7) fo.nd (dm c_law_draw hr (cw (dm c_law_cell hr (cw (cJ 0) (cw (cN L2.op_addA dj (cj 1) (DE.bb cx)) cK))) (cw (cJ 6) (cw (cN L2.op_sub pG (cj 4) (DE.bb cx)) cK)))))
  (cB (cU (i:=8) fo.nd (cN L2.op_addA dj (DE.bb (cN L2.op_addA dj (cj 7) (DE.bb cx))) (DE.bb (dm c_law_draw hr (cw (dm c_law_cell hr (cw (cJ 0) (cw (cN L2.op_addA dj (cj 1) (DE.bb cx)) cK))) (cw (cJ 6) (cw (cN L2.op_sub pG (DE.bb (cN L2.op_sub pG (cj 4) (DE.bb cx))) (cj 7)) cK)))))))
  (cD (pX (i:=5) (kM (cw (cJ 7) (cw (cJ 8) cK))))))))) c8)
  (cD (cV (kM (cw (cJ 4) (cw (eh T.b_tuple (cj 5)) cK))))))))
theorem d0:L2.FnScope ["script", "first", "form", "most", "rows", "a", "b", "steps", "k", "arrow", "cell"] ["script", "first", "form", "most"] (L2.defScope gO):=by trivial
theorem qQ {f:Addr}{fd:FuncData}(T:Txt mg)(c_law_draw:gH P w K mg base 1 "_law_draw" ["cell", "k", "bound"] cX)(c_law_cell:gH P w K mg base 2 "_law_cell" ["script", "k"] cy)(Fu:L2.Fun K "_law_book" "_law_book" gO f fd):L2.FnOk P w K mg base L2.CX0 3 f fd ["script", "first", "form", "most"] (spD K eR) :=
 fF (N:=["script", "first", "form", "most", "rows", "a", "b", "steps", "k", "arrow", "cell"]) (b:=ji) Fu d0 fun cdv A outer s H E hr =>
  (cB (cU (i:=4) d0.nd (eW (own:=["kind"]) (ix:=[0,1,3]) (caps:=["script", "first", "most"]) (eE (osc:=L2.defScope gO) (oN:=["script", "first", "form", "most", "rows", "a", "b", "steps", "k", "arrow", "cell"]) rfl rfl (by decide +kernel)) rfl (by decide) dE (iO T.b_range (c9 (cj 2) (DE.bb cx))) (fun _ _ _ _=>(cT (i:=0) (show (["kind", "script", "first", "most"]:List Str).Nodup by decide +kernel))) (fun _ _ _ _=>eD) (fun _ _ _ _=>(dm c_law_draw hr (cw (dm c_law_cell hr (cw (cJ 1) (cw (cJ 2) cK))) (cw (cJ 0) (cw (cN L2.op_addA dj (cj 3) (DE.bb cx)) cK)))))))
  (cB (fI rfl (eM (ju (vn T.b_sorted (DE.bb (c9 (cj 2) (DE.bb cx)))))) (mU rfl (fh (cT (i:=5) d0.nd) (fh (cT (i:=6) d0.nd) k9))) (cD (d5 (DW.tt (pW (dA L2.op_gt rK (DE.bb (c9 (cj 4) (cj 5))) (DE.bb cx)) (ma (dA (eC hr.units) fG (DE.bb (c9 (cj 4) (cj 6))) (DE.bb cx))))) (cD (Aj (i:=4) (cJ 6) cx)) c8)))
  (cB (cU (i:=7) d0.nd (gW cK))
  (cB (fI rfl (tY T.b_enumerate (ju (c9 (cj 2) (DE.bb cx)))) (mU rfl (fh (cT (i:=8) d0.nd) (fh (cT (i:=9) d0.nd) k9))) (cB (cU (i:=10) d0.nd (dm c_law_cell hr (cw (cJ 0) (cw (cN L2.op_addA dj (cj 1) (DE.bb cx)) cK))))
  (cD (pX (i:=7) (eh T.b_tuple (DE.bb (eW (own:=["x"]) (ix:=[10,4,8,9]) (caps:=["cell", "rows", "k", "arrow"]) (eE (osc:=L2.defScope gO) (oN:=["script", "first", "form", "most", "rows", "a", "b", "steps", "k", "arrow", "cell"]) rfl rfl (by decide +kernel)) rfl (by decide) dE (iO T.b_range (c9 (cj 4) (DE.bb (c9 (cj 9) (DE.bb cx))))) (fun _ _ _ _=>(cT (i:=0) (show (["x", "cell", "rows", "k", "arrow"]:List Str).Nodup by decide +kernel))) (fun _ _ _ _=>eD) (fun _ _ _ _=>(dm c_law_draw hr (cw (cJ 1) (cw (cN L2.op_addA dj (DE.bb (cN L2.op_mul jI (DE.bb cx) (cj 3))) (cj 0)) (cw (c9 (cj 2) (DE.bb (c9 (cj 4) (DE.bb cx)))) cK))))))))))))
  (cD (cV (kM (cw (eh T.b_tuple (cj 4)) (cw (eh T.b_tuple (cj 7)) cK)))))))))
theorem ir:L2.FnScope ["book", "parts", "step"] ["book"] (L2.defScope fv):=by trivial
theorem nG {f:Addr}{fd:FuncData}(T:Txt mg)  (Fu:L2.Fun K "book_shown" "book_shown" fv f fd):L2.FnOk P w K mg base L2.CX0 1 f fd ["book"] (spD K d9) :=
 fF (N:=["book", "parts", "step"]) (b:=gC) Fu ir fun cdv A outer s H E hr =>
  (cB (yJ (i:=1) ir.nd (own:=["height"]) (ix:=[]) (caps:=[]) (eE (osc:=L2.defScope fv) (oN:=["book", "parts", "step"]) rfl rfl (by decide +kernel)) rfl (by decide) dE (eM (ju (c9 (cj 0) (DE.bb cx)))) (fun _ _ _ _=>(cT (i:=0) (show (["height"]:List Str).Nodup by decide +kernel))) (fun _ _ _ _=>eD) (fun _ _ _ _=>(md T.b_str (cj 0))))
  (cB (fI rfl (eM (ju (c9 (cj 0) (DE.bb cx)))) (cT (i:=2) ir.nd) (cB (pX (i:=1) dP)
  (cD (Ak (i:=1) (eW (own:=["row"]) (ix:=[]) (caps:=[]) (eE (osc:=L2.defScope fv) (oN:=["book", "parts", "step"]) rfl rfl (by decide +kernel)) rfl (by decide) dE (eM (gS 2)) (fun _ _ _ _=>(cT (i:=0) (show (["row"]:List Str).Nodup by decide +kernel))) (fun _ _ _ _=>eD) (fun _ _ _ _=>(md T.b_str (cj 0))))))))
  (cD (kZ 1 (cV (mf (DE.bb dP) (cj 1)))))))
theorem eI:L2.FnScope ["text", "mode", "cell", "at", "sign", "words", "spot"] ["text", "mode", "cell"] (L2.defScope iw):=by trivial
theorem mJ {f:Addr}{fd:FuncData}(T:Txt mg)  (Fu:L2.Fun K "_law_spoiled" "_law_spoiled" iw f fd):L2.FnOk P w K mg base L2.CX0 1 f fd ["text", "mode", "cell"] (spD K dR) :=
 fF (N:=["text", "mode", "cell", "at", "sign", "words", "spot"]) (b:=fS) Fu eI fun cdv A outer s H E hr =>
  (cB (cU (i:=3) eI.nd (cN L2.op_mod d6 (cj 2) (DE.bb (cN L2.op_addA dj (DE.bb (me T.b_len (cj 0))) (DE.bb cx)))))
  (cB (cU (i:=4) eI.nd (sT (DE.bb dP) (DE.bb (cN L2.op_mod d6 (DE.bb (cN L2.op_fdiv kE (cj 2) (DE.bb cx))) (DE.bb cx)))))
  (cB (d5 (dA (eC hr.units) fG (cj 1) (DE.bb cx)) (cD (cV (cN L2.op_addA dj (DE.bb (lM (cj 0) jw (jv (cJ 3)))) (DE.bb (lM (cj 0) (jv (cN L2.op_addA dj (cj 3) (DE.bb cx))) jw))))) c8)
  (cB (d5 (dA (eC hr.units) fG (cj 1) (DE.bb cx)) (cD (cV (cN L2.op_addA dj (DE.bb (cN L2.op_addA dj (DE.bb (lM (cj 0) jw (jv (cJ 3)))) (cj 4))) (DE.bb (lM (cj 0) (jv (cJ 3)) jw))))) c8)
  (cB (d5 (dA (eC hr.units) fG (cj 1) (DE.bb cx)) (cD (cV (cN L2.op_addA dj (DE.bb (cN L2.op_addA dj (DE.bb (lM (cj 0) jw (jv (cJ 3)))) (cj 4))) (DE.bb (lM (cj 0) (jv (cN L2.op_addA dj (cj 3) (DE.bb cx))) jw))))) c8)
  (cB (cU (i:=5) eI.nd (mV (cj 0) (DE.bb dP)))
  (cB (cU (i:=6) eI.nd (cN L2.op_mod d6 (cj 2) (DE.bb (gi T.b_len (cj 5)))))
  (cB (d5 (dA (eC hr.units) fG (cj 1) (DE.bb cx)) (cD (cV (mf (DE.bb dP) (DE.bb (cN L2.op_catS wA (DE.bb (oG (cj 5) jw (jv (cJ 6)))) (DE.bb (oG (cj 5) (jv (cN L2.op_addA dj (cj 6) (DE.bb cx))) jw))))))) c8)
  (cB (d5 (dA (eC hr.units) fG (cj 1) (DE.bb cx)) (cD (cV (mf (DE.bb dP) (DE.bb (cN L2.op_catS wA (DE.bb (oG (cj 5) jw (jv (cN L2.op_addA dj (cj 6) (DE.bb cx))))) (DE.bb (oG (cj 5) (jv (cJ 6)) jw))))))) c8)
  (cD (cV (cJ 0))))))))))))
theorem j8:L2.FnScope ["word", "sign"] ["word"] (L2.defScope iY):=by trivial
theorem nF {f:Addr}{fd:FuncData}(T:Txt mg)  (Fu:L2.Fun K "_law_number" "_law_number" iY f fd):L2.FnOk P w K mg base L2.CX0 1 f fd ["word"] (spD K dD) :=
 fF (N:=["word", "sign"]) (b:=gB) Fu j8 fun cdv A outer s H E hr =>
  (cB (d5 (DW.tt (ki (dA (eC hr.units) fG (cj 0) (DE.bb dP)) (ki (dA L2.op_gt rK (DE.bb (me T.b_len (cj 0))) (DE.bb cx)) (lJ (DW.tt (pW (dA L2.op_gt rK (DE.bb (me T.b_len (cj 0))) (DE.bb cx)) (ma (dA (eC hr.units) fG (DE.bb (sT (cj 0) (DE.bb cx))) (DE.bb dP))))))))) (cD (cV (tZ L2.un_neg o4 (DE.bb cx)))) c8)
  (cB (fI rfl (rF (cJ 0)) (cT (i:=1) j8.nd) (cD (d5 (dA L2.op_notin_str vw (cj 1) (DE.bb dP)) (cD (cV (tZ L2.un_neg o4 (DE.bb cx)))) c8)))
  (cD (cV (t7 T.b_int (cj 0))))))
theorem eJ:L2.FnScope ["text", "form", "words", "rows", "steps", "word", "arrow", "step", "row"] ["text", "form"] (L2.defScope jW):=by trivial
theorem si {f:Addr}{fd:FuncData}(T:Txt mg)(c_law_number:gH P w K mg base 1 "_law_number" ["word"] dD)(Fu:L2.Fun K "_law_due" "_law_due" jW f fd):L2.FnOk P w K mg base L2.CX0 2 f fd ["text", "form"] (spD K fO) :=
 fF (N:=["text", "form", "words", "rows", "steps", "word", "arrow", "step", "row"]) (b:=j3) Fu eJ fun cdv A outer s H E hr =>
  (cB (cU (i:=2) eJ.nd (mV (cj 0) (DE.bb dP)))
  (cB (cU (i:=3) eJ.nd (gW cK))
  (cB (xi (DW.tt (pW (dA (iz hr.units) ko (cj 2) (DE.bb (gW cK))) (ma (dA (iz hr.units) ko (DE.bb (c9 (cj 2) (DE.bb cx))) (DE.bb dP))))) (cD (vm (i:=3) (j:=2) c_law_number hr)))
  (cB (vk (i:=4) eJ.nd (gW cK))
  (cB (kZ 2 (fI rfl (eM (gS 2)) (cT (i:=5) eJ.nd) (cD (d5 (dA (eC hr.units) fG (cj 5) (DE.bb dP)) (cD (rD (i:=4) (gW cK))) (cD (xl (i:=4) (tZ L2.un_neg o4 (DE.bb cx)) (dm c_law_number hr (cw (cJ 5) cK))))))))
  (cB (d5 (Ag (DW.tt (ki (dA (iz hr.units) ko (DE.bb (gi T.b_len (cj 3))) (DE.bb (c9 (cj 1) (DE.bb cx)))) (ki (dA (iz hr.units) ko (DE.bb (gi T.b_len (cj 4))) (DE.bb (gi T.b_len (DE.bb (c9 (cj 1) (DE.bb cx)))))) (ki (dA L2.op_lt ug (DE.bb (yM rfl T.b_min (cj 3))) (DE.bb cx)) (lJ (dA L2.op_gt rK (DE.bb (yN rfl T.b_max (cj 3))) (DE.bb cx)))))))) (cD (cV pY)) c8)
  (cB (oF 4 (kZ 4 (fI rfl (xq T.b_zip (ju (c9 (cj 1) (DE.bb cx))) (gS 4)) (mU rfl (fh (cT (i:=6) eJ.nd) (fh (cT (i:=7) eJ.nd) k9))) (cB (d5 (dA (iz hr.units) ko (DE.bb (gi T.b_len (cj 7))) (DE.bb (c9 (cj 3) (DE.bb (c9 (cj 6) (DE.bb cx)))))) (cD (cV pY)) c8)
  (cD (fI rfl (eM (gS 7)) (cT (i:=8) eJ.nd) (cD (d5 (iD (zt L2.op_le oM L2.op_lt ug (DE.bb cx) (cj 8) (DE.bb (c9 (cj 3) (DE.bb (c9 (cj 6) (DE.bb cx))))))) (cD (cV pY)) c8))))))))
  (cD (oF 4 (kZ 4 (cV (kM (cw (eh T.b_tuple (cj 3)) (cw (eh T.b_tuple (DE.bb (eW (own:=["step"]) (ix:=[]) (caps:=[]) (eE (osc:=L2.defScope jW) (oN:=["text", "form", "words", "rows", "steps", "word", "arrow", "step", "row"]) rfl rfl (by decide +kernel)) rfl (by decide) dE (eM (gS 4)) (fun _ _ _ _=>(cT (i:=0) (show (["step"]:List Str).Nodup by decide +kernel))) (fun _ _ _ _=>eD) (fun _ _ _ _=>(eh T.b_tuple (cj 0)))))) cK))))))))))))))
theorem nB:L2.FnScope ["told", "length", "height"] ["told", "length", "height"] (L2.defScope gu):=by trivial
theorem nE {f:Addr}{fd:FuncData}(T:Txt mg)  (Fu:L2.Fun K "tells_rows" "tells_rows" gu f fd):L2.FnOk P w K mg base L2.CX0 1 f fd ["told", "length", "height"] (spD K fB) :=
 fF (N:=["told", "length", "height"]) (b:=gA) Fu nB fun cdv A outer s H E hr =>
  (cD (cV (sU (ua (eC hr.units) fG (DE.bb (gi T.b_len (cj 0))) (cj 1)) (sS (lO rfl T.b_all (DE.bb (eW (own:=["row"]) (ix:=[2]) (caps:=["height"]) (eE (osc:=L2.defScope gu) (oN:=["told", "length", "height"]) rfl rfl (by decide +kernel)) rfl (by decide) dE (eM (gS 0)) (fun _ _ _ _=>(cT (i:=0) (show (["row", "height"]:List Str).Nodup by decide +kernel))) (fun _ _ _ _=>eD) (fun _ _ _ _=>(zv L2.op_le oM L2.op_lt ug (DE.bb cx) (cj 0) (cj 1))))))))))
theorem iW:L2.FnScope ["form", "book", "rows", "steps", "arrows"] ["form", "book"] (L2.defScope iM):=by trivial
theorem sj {f:Addr}{fd:FuncData}(T:Txt mg)(c_tells_rows:gH P w K mg base 1 "tells_rows" ["told", "length", "height"] fB)(Fu:L2.Fun K "is_book" "is_book" iM f fd):L2.FnOk P w K mg base L2.CX0 2 f fd ["form", "book"] (spD K fP) :=
 fF (N:=["form", "book", "rows", "steps", "arrows"]) (b:=j4) Fu iW fun cdv A outer s H E hr =>
  (cB (cU (i:=2) iW.nd (c9 (cj 1) (DE.bb cx)))
  (cB (cU (i:=3) iW.nd (c9 (cj 1) (DE.bb cx)))
  (cB (cU (i:=4) iW.nd (c9 (cj 0) (DE.bb cx)))
  (cB (d5 (DW.tt (ki (dA (iz hr.units) ko (DE.bb (gi T.b_len (cj 2))) (DE.bb (c9 (cj 0) (DE.bb cx)))) (lJ (dA (iz hr.units) ko (DE.bb (gi T.b_len (cj 3))) (DE.bb (gi T.b_len (cj 4))))))) (cD (cV kj)) c8)
  (cB (d5 (iD (jN (lO rfl T.b_all (DE.bb (eW (own:=["height"]) (ix:=[]) (caps:=[]) (eE (osc:=L2.defScope iM) (oN:=["form", "book", "rows", "steps", "arrows"]) rfl rfl (by decide +kernel)) rfl (by decide) dE (eM (gS 2)) (fun _ _ _ _=>(cT (i:=0) (show (["height"]:List Str).Nodup by decide +kernel))) (fun _ _ _ _=>eD) (fun _ _ _ _=>(zv L2.op_le oM L2.op_le oM (DE.bb cx) (cj 0) (DE.bb (zu T.g_MOST_ROWS))))))))) (cD (cV kj)) c8)
  (cD (cV (lO rfl T.b_all (DE.bb (eW (own:=["arrow", "step"]) (ix:=[2]) (caps:=["rows"]) (eE (osc:=L2.defScope iM) (oN:=["form", "book", "rows", "steps", "arrows"]) rfl rfl (by decide +kernel)) rfl (by decide) (yg (qI dE (qI dE yh))) (xq T.b_zip (gS 4) (gS 3)) (fun _ _ _ _=>(mU rfl (fh (cT (i:=0) (show (["arrow", "step", "rows"]:List Str).Nodup by decide +kernel)) (fh (cT (i:=1) (show (["arrow", "step", "rows"]:List Str).Nodup by decide +kernel)) k9)))) (fun _ _ _ _=>eD) (fun _ _ _ _=>(dm c_tells_rows hr (cw (cJ 1) (cw (c9 (cj 2) (DE.bb (c9 (cj 0) (DE.bb cx)))) (cw (c9 (cj 2) (DE.bb (c9 (cj 0) (DE.bb cx)))) cK)))))))))))))))
theorem pd:L2.FnScope ["part"] ["part"] (L2.defScope hJ):=by trivial
theorem pF {f:Addr}{fd:FuncData}(T:Txt mg)  (Fu:L2.Fun K "is_number" "is_number" hJ f fd):L2.FnOk P w K mg base L2.CX0 1 f fd ["part"] (spD K eS) :=
 fF (N:=["part"]) (b:=ig) Fu pd fun cdv A outer s H E hr =>
  (cB (d5 (iD (zt L2.op_le oM L2.op_le oM (DE.bb cx) (DE.bb (me T.b_len (cj 0))) (DE.bb (zu T.g_MOST_FIGURES)))) (cD (cV kj)) c8)
  (cB (d5 (DW.tt (pW (dA (eC hr.units) fG (DE.bb (sT (cj 0) (DE.bb cx))) (DE.bb dP)) (ma (dA (iz hr.units) ko (cj 0) (DE.bb dP))))) (cD (cV kj)) c8)
  (cD (cV (lO rfl T.b_all (DE.bb (eW (own:=["sign"]) (ix:=[]) (caps:=[]) (eE (osc:=L2.defScope hJ) (oN:=["part"]) rfl rfl (by decide +kernel)) rfl (by decide) dE (rF (cJ 0)) (fun _ _ _ _=>(cT (i:=0) (show (["sign"]:List Str).Nodup by decide +kernel))) (fun _ _ _ _=>eD) (fun _ _ _ _=>(ua L2.op_in_str As (cj 0) (DE.bb (Ao T.g_FIGURES)))))))))))
theorem mB:L2.FnScope ["part"] ["part"] (L2.defScope iu):=by trivial
theorem mI {f:Addr}{fd:FuncData}(T:Txt mg){C_NotRead:Addr}(X_NotRead:gk K mg "NotRead" C_NotRead)(c_is_number:gH P w K mg base 1 "is_number" ["part"] eS)(Fu:L2.Fun K "read_number" "read_number" iu f fd):L2.FnOk P w K mg base (L2.CX1 P w) 2 f fd ["part"] (AX K dQ (fun _=>C_NotRead)) :=
 w8 Fu mB fun cdv A outer s H E hr =>
  (jM (xc (iD (jN (dm c_is_number hr (cw (cJ 0) cK)))) (l9 (rC PySem.F.excBase_ValueError (cw (yP (xp (yK (cJ 0) Al))) cK) X_NotRead.at_ X_NotRead.ex rfl (fun pins σ H s h' ea vs I hm z=>I.leaves rfl rfl rfl hm z))) tX)
  (pV (cD (cV (t7 T.b_int (cj 0))))))
theorem gr:L2.FnScope ["text", "form", "groups", "part", "book"] ["text", "form"] (L2.defScope g9):=by trivial
theorem pD {f:Addr}{fd:FuncData}(T:Txt mg){C_NotRead:Addr}(X_NotRead:gk K mg "NotRead" C_NotRead)(c_read_number:rQ P w K mg base 2 "read_number" ["part"] dQ (fun _=>C_NotRead))(c_is_book:gH P w K mg base 2 "is_book" ["form", "book"] fP)(Fu:L2.Fun K "read_book" "read_book" g9 f fd):L2.FnOk P w K mg base (L2.CX1 P w) 3 f fd ["text", "form"] (AX K ft (fun _=>C_NotRead)) :=
 w8 Fu gr fun cdv A outer s H E hr =>
  (jM (zr (vj (i:=2) gr.nd))
  (jM (Af PassesOwn.leaving rfl (eM (ju (mV (cj 0) (DE.bb dP)))) (cT (i:=3) gr.nd) (l9 (xc (dA (eC hr.units) fG (cj 3) (DE.bb dP)) (pV (cD (rD (i:=2) (gW cK)))) (l9 (xf (i:=2) (tZ L2.un_neg o4 (DE.bb cx)) (xr c_read_number hr (cw (cJ 3) cK) (fun pins σ H s e s' I c=>yd (P:=P) (w:=w) I rfl rfl rfl c)))))))
  (jM (zr (cU (i:=4) gr.nd (xu (kM (cw (eh T.b_tuple (DE.bb (c9 (cj 2) (DE.bb cx)))) (cw (eh T.b_tuple (DE.bb (eW (own:=["group"]) (ix:=[]) (caps:=[]) (eE (osc:=L2.defScope g9) (oN:=["text", "form", "groups", "part", "book"]) rfl rfl (by decide +kernel)) rfl (by decide) dE (eM (ju (oG (cj 2) (jv cx) jw))) (fun _ _ _ _=>(cT (i:=0) (show (["group"]:List Str).Nodup by decide +kernel))) (fun _ _ _ _=>eD) (fun _ _ _ _=>(eh T.b_tuple (cj 0)))))) cK))))))
  (jM (xc (iD (jN (dm c_is_book hr (cw (cJ 1) (cw (cJ 4) cK))))) (l9 (rC PySem.F.excBase_ValueError (cw dP cK) X_NotRead.at_ X_NotRead.ex rfl (fun pins σ H s h' ea vs I hm z=>I.leaves rfl rfl rfl hm z))) tX)
  (pV (cD (cV (cJ 4))))))))
theorem lP:L2.FnScope ["text", "form", "e"] ["text", "form"] (L2.defScope kv):=by trivial
theorem qK {f:Addr}{fd:FuncData}(T:Txt mg){C_NotRead:Addr}(X_NotRead:gk K mg "NotRead" C_NotRead){C_ShiftError:Addr}(X_ShiftError:gk K mg "ShiftError" C_ShiftError){C_TooWide:Addr}(X_TooWide:gk K mg "TooWide" C_TooWide)(S_NotRead_ShiftError:PySem.W.subIn K (.ref C_NotRead) (.ref C_ShiftError)=some true)(S_NotRead_ValueError:PySem.W.subIn K (.ref C_NotRead) (.type "ValueError")=some true)(S_NotRead_TooWide:PySem.W.subIn K (.ref C_NotRead) (.ref C_TooWide)=some false)(N_NotRead_TooWide:C_NotRead≠C_TooWide)(c_read_book:rQ P w K mg base 3 "read_book" ["text", "form"] ft (fun _=>C_NotRead))(Fu:L2.Fun K "_law_told" "_law_told" kv f fd):L2.FnOk P w K mg base L2.CX0 4 f fd ["text", "form"] (spD K fk) :=
 fF (N:=["text", "form", "e"]) (b:=je) Fu lP fun cdv A outer s H E hr =>
  (cD (Ai (C:=C_NotRead) (ie:=2) c_read_book (fun _=>rfl) hr (cw (cJ 0) (cw (cJ 1) cK)) (fun _ _ z=>z) X_ShiftError.at_ (yG X_ShiftError S_NotRead_ShiftError) (fun ea E2=>A7 (tH (i:=2) X_NotRead.cl T.b_isinstance X_NotRead.at_ wQ) (yc (i:=2) X_NotRead.cl T.b_isinstance T.b_ValueError nO (yt S_NotRead_ValueError)) (tH (i:=2) X_NotRead.cl T.b_isinstance X_TooWide.at_ (yu X_TooWide S_NotRead_TooWide (fun _=>N_NotRead_TooWide)))) lP.nd))
theorem o9:L2.FnScope ["found"] ["found"] (L2.defScope jE):=by trivial
theorem pE {f:Addr}{fd:FuncData}(T:Txt mg)  (Fu:L2.Fun K "_law_whole" "_law_whole" jE f fd):L2.FnOk P w K mg base L2.CX0 1 f fd ["found"] (spD K f9) :=
 fF (N:=["found"]) (b:=jS) Fu o9 fun cdv A outer s H E hr =>
  (cD (cV (sU (lN T.b_isinstance T.b_int PyProof.Rows.boot_int (cj 0)) (sS (Am (lN T.b_isinstance T.b_bool PyProof.Rows.boot_bool (cj 0)))))))
theorem mD:L2.FnScope ["found"] ["found"] (L2.defScope fQ):=by trivial
theorem mK {f:Addr}{fd:FuncData}(T:Txt mg)(c_law_whole:gH P w K mg base 1 "_law_whole" ["found"] f9)(Fu:L2.Fun K "_law_numbers" "_law_numbers" fQ f fd):L2.FnOk P w K mg base L2.CX0 2 f fd ["found"] (spD K dS) :=
 fF (N:=["found"]) (b:=fT) Fu mD fun cdv A outer s H E hr =>
  (cD (cV (sU (lN T.b_isinstance T.b_tuple PyProof.Rows.boot_tuple (cj 0)) (sS (lO rfl T.b_all (DE.bb (eW (own:=["x"]) (ix:=[]) (caps:=[]) (eE (osc:=L2.defScope fQ) (oN:=["found"]) rfl rfl (by decide +kernel)) rfl (by decide) dE (eM (gS 0)) (fun _ _ _ _=>(cT (i:=0) (show (["x"]:List Str).Nodup by decide +kernel))) (fun _ _ _ _=>eD) (fun _ _ _ _=>(dm c_law_whole hr (cw (cJ 0) cK))))))))))
theorem qx:L2.FnScope ["found", "due"] ["found", "due"] (L2.defScope iX):=by trivial
theorem qM {f:Addr}{fd:FuncData}(T:Txt mg)(c_law_numbers:gH P w K mg base 2 "_law_numbers" ["found"] dS)(Fu:L2.Fun K "_law_pair" "_law_pair" iX f fd):L2.FnOk P w K mg base L2.CX0 3 f fd ["found", "due"] (spD K fM) :=
 fF (N:=["found", "due"]) (b:=jf) Fu qx fun cdv A outer s H E hr =>
  (cB (d5 (DW.tt (ki (iD (jN (lN T.b_isinstance T.b_tuple PyProof.Rows.boot_tuple (cj 0)))) (ki (dA (iz hr.units) ko (DE.bb (gi T.b_len (cj 0))) (DE.bb cx)) (lJ (iD (jN (dm c_law_numbers hr (cw (c9 (cj 0) (DE.bb cx)) cK)))))))) (cD (cV kj)) c8)
  (cB (d5 (DW.tt (ki (iD (jN (lN T.b_isinstance T.b_tuple PyProof.Rows.boot_tuple (DE.bb (c9 (cj 0) (DE.bb cx)))))) (lJ (iD (jN (lO rfl T.b_all (DE.bb (eW (own:=["step"]) (ix:=[]) (caps:=[]) (eE (osc:=L2.defScope iX) (oN:=["found", "due"]) rfl rfl (by decide +kernel)) rfl (by decide) dE (eM (ju (c9 (cj 0) (DE.bb cx)))) (fun _ _ _ _=>(cT (i:=0) (show (["step"]:List Str).Nodup by decide +kernel))) (fun _ _ _ _=>eD) (fun _ _ _ _=>(dm c_law_numbers hr (cw (cJ 0) cK))))))))))) (cD (cV kj)) c8)
  (cD (cV (ua (eC hr.units) fG (cj 0) (cj 1))))))
theorem rY:L2.FnScope ["cell"] ["cell"] (L2.defScope ly):=by trivial
theorem sf {f:Addr}{fd:FuncData}(T:Txt mg)  (Fu:L2.Fun K "_law_odd" "_law_odd" ly f fd):L2.FnOk P w K mg base L2.CX0 1 f fd ["cell"] (spD K fN) :=
 Ac (N:=["cell"]) (b:=j0) Fu rY fun body e cdv A outer s H E hr =>
  Ah (e.trans rfl) fun a ea=>xj ea fun v' ev=>yL (zs:=[("", _,_),(" ", _,_),("|", _,_),(" |", _,_),("0 ", _,_),("0 |", _,_),("201", _,_),("1 1 | 0", _,_),("1 1 | 0 |", _,_),("1 1 |0", _,_)]) ev (DE.bb (cN L2.op_mod d6 (cj 0) (DE.bb cx)))
theorem dO:L2.FnScope ["script", "form", "book", "last", "many", "steps", "k", "step", "text", "row", "found", "due", "told"] ["script"] (L2.defScope kT):=by trivial
theorem zV {f:Addr}{fd:FuncData}(T:Txt mg)(c_law_form:gH P w K mg base 3 "_law_form" ["script", "first", "most", "many"] du)(c_law_book:gH P w K mg base 3 "_law_book" ["script", "first", "form", "most"] eR)(c_law_cell:gH P w K mg base 2 "_law_cell" ["script", "k"] cy)(c_law_draw:gH P w K mg base 1 "_law_draw" ["cell", "k", "bound"] cX)(c_book_shown:gH P w K mg base 1 "book_shown" ["book"] d9)(c_law_spoiled:gH P w K mg base 1 "_law_spoiled" ["text", "mode", "cell"] dR)(c_law_odd:gH P w K mg base 1 "_law_odd" ["cell"] fN)(c_law_due:gH P w K mg base 2 "_law_due" ["text", "form"] fO)(c_law_told:gH P w K mg base 4 "_law_told" ["text", "form"] fk)(c_law_pair:gH P w K mg base 3 "_law_pair" ["found", "due"] fM)(Fu:L2.Fun K "law" "law" kT f fd):L2.FnOk P w K mg base L2.CX0 5 f fd ["script"] (spD K F_law) :=
 fF (N:=["script", "form", "book", "last", "many", "steps", "k", "step", "text", "row", "found", "due", "told"]) (b:=uc) Fu dO fun cdv A outer s H E hr =>
  (cB (cU (i:=1) dO.nd (dm c_law_form hr (cw (cJ 0) (cw cx (cw cx (cw cx cK))))))
  (cB (cU (i:=2) dO.nd (dm c_law_book hr (cw (cJ 0) (cw cx (cw (cJ 1) (cw cx cK))))))
  (cB (cU (i:=3) dO.nd (cN L2.op_sub pG (DE.bb (c9 (cj 1) (DE.bb cx))) (DE.bb cx)))
  (cB (d5 (dA (eC hr.units) fG (DE.bb (cN L2.op_mod d6 (DE.bb (dm c_law_cell hr (cw (cJ 0) (cw cx cK)))) (DE.bb cx))) (DE.bb cx)) (cB (cU (i:=4) dO.nd (An rfl T.b_max (DE.bb (c9 (DE.bb (c9 (cj 2) (DE.bb cx))) (cj 3))) (DE.bb (cN L2.op_mod d6 (DE.bb (cN L2.op_fdiv kE (DE.bb (dm c_law_cell hr (cw (cJ 0) (cw cx cK)))) (DE.bb cx))) (DE.bb cx)))))
  (cB (cU (i:=5) dO.nd (gW cK))
  (cB (fI rfl (tY T.b_enumerate (ju (c9 (cj 2) (DE.bb cx)))) (mU rfl (fh (cT (i:=6) dO.nd) (fh (cT (i:=7) dO.nd) k9))) (cB (d5 (dA (eC hr.units) fG (DE.bb (c9 (DE.bb (c9 (DE.bb (c9 (cj 1) (DE.bb cx))) (cj 6))) (DE.bb cx))) (cj 3)) (cD (cU (i:=7) dO.nd (eh T.b_tuple (DE.bb (eW (own:=["x"]) (ix:=[4,0,6]) (caps:=["many", "script", "k"]) (eE (osc:=L2.defScope kT) (oN:=["script", "form", "book", "last", "many", "steps", "k", "step", "text", "row", "found", "due", "told"]) rfl rfl (by decide +kernel)) rfl (by decide) dE (iO T.b_range (gi T.b_len (cj 7))) (fun _ _ _ _=>(cT (i:=0) (show (["x", "many", "script", "k"]:List Str).Nodup by decide +kernel))) (fun _ _ _ _=>eD) (fun _ _ _ _=>(dm c_law_draw hr (cw (dm c_law_cell hr (cw (cJ 2) (cw cx cK))) (cw (cN L2.op_addA dj (DE.bb (cN L2.op_mul jI (DE.bb cx) (cj 3))) (cj 0)) (cw (cJ 1) cK)))))))))) c8)
  (cD (pX (i:=5) (cJ 7)))))
  (cD (cU (i:=2) dO.nd (kM (cw (cN L2.op_addA dj (DE.bb (oG (DE.bb (c9 (cj 2) (DE.bb cx))) jw (jv (cJ 3)))) (DE.bb (kM (cw (cJ 4) cK)))) (cw (eh T.b_tuple (cj 5)) cK)))))))) c8)
  (cB (cU (i:=8) dO.nd (mf (DE.bb dP) (DE.bb (eW (own:=["many"]) (ix:=[]) (caps:=[]) (eE (osc:=L2.defScope kT) (oN:=["script", "form", "book", "last", "many", "steps", "k", "step", "text", "row", "found", "due", "told"]) rfl rfl (by decide +kernel)) rfl (by decide) dE (eM (ju (c9 (cj 2) (DE.bb cx)))) (fun _ _ _ _=>(cT (i:=0) (show (["many"]:List Str).Nodup by decide +kernel))) (fun _ _ _ _=>eD) (fun _ _ _ _=>(md T.b_str (cj 0)))))))
  (cB (fI rfl (eM (ju (c9 (cj 2) (DE.bb cx)))) (cT (i:=7) dO.nd) (cB (cU (i:=8) dO.nd (cN L2.op_addA dj (cj 8) (DE.bb dP)))
  (cD (fI rfl (eM (gS 7)) (cT (i:=9) dO.nd) (cD (cU (i:=8) dO.nd (cN L2.op_addA dj (DE.bb (cN L2.op_addA dj (cj 8) (DE.bb dP))) (DE.bb (md T.b_str (cj 9))))))))))
  (cB (cU (i:=10) dO.nd (dm c_book_shown hr (cw (cJ 2) cK)))
  (cB (d5 (DW.tt (ki (iD (jN (lN T.b_isinstance T.b_str PyProof.Rows.boot_str (cj 10)))) (lJ (dA (iz hr.units) ko (cj 10) (cj 8))))) (cD (cV kj)) c8)
  (cB (cU (i:=8) dO.nd (dm c_law_spoiled hr (cw (cJ 8) (cw (cN L2.op_mod d6 (DE.bb (dm c_law_cell hr (cw (cJ 0) (cw cx cK)))) (DE.bb cx)) (cw (cN L2.op_mod d6 (DE.bb (dm c_law_cell hr (cw (cJ 0) (cw cx cK)))) (DE.bb (cN L2.op_pow wz (DE.bb cx) (DE.bb cx)))) cK)))))
  (cB (d5 (dA (eC hr.units) fG (DE.bb (cN L2.op_mod d6 (DE.bb (cN L2.op_fdiv kE (DE.bb (dm c_law_cell hr (cw (cJ 0) (cw cx cK)))) (DE.bb cx))) (DE.bb cx))) (DE.bb cx)) (cD (cU (i:=8) dO.nd (dm c_law_odd hr (cw (dm c_law_cell hr (cw (cJ 0) (cw cx cK))) cK)))) c8)
  (cB (d5 (dA (eC hr.units) fG (DE.bb (cN L2.op_mod d6 (DE.bb (cN L2.op_fdiv kE (DE.bb (dm c_law_cell hr (cw (cJ 0) (cw cx cK)))) (DE.bb cx))) (DE.bb cx))) (DE.bb cx)) (cD (cU (i:=1) dO.nd (dm c_law_form hr (cw (cJ 0) (cw cx (cw cx (cw cx cK))))))) c8)
  (cB (cU (i:=11) dO.nd (dm c_law_due hr (cw (cJ 8) (cw (cJ 1) cK))))
  (cB (cU (i:=12) dO.nd (dm c_law_told hr (cw (cJ 8) (cw (cJ 1) cK))))
  (cB (d5 (dA L2.op_isN Aq (cj 11) (DE.bb pY)) (cD (cV (ua (eC hr.units) fG (cj 12) (DE.bb (gW (cw kj (cw kj (cw kj cK)))))))) c8)
  (cD (cV (dm c_law_pair hr (cw (cJ 12) (cw (cJ 11) cK)))))))))))))))))))
end
theorem all_mk {l:PySem.W.OpenLaw}{w:World}{K:PySem.W.Frag}{h:Heap}{mg:Str->Option Value}{fa:Addr}(X:K.In h)(G:h.Ns mainGlobals mg)(hfa:mg "law" = some (.ref fa))
  (h1:FH K "_law_stir" kz)
  (h2:FH K "_law_cell" kD)
  (h3:FH K "_law_draw" kC)
  (h4:FH K "_law_form" kA)
  (h5:FH K "_law_book" gO)
  (h6:FH K "book_shown" fv)
  (h7:FH K "_law_spoiled" iw)
  (h8:FH K "_law_number" iY)
  (h9:FH K "_law_due" jW)
  (h10:FH K "tells_rows" gu)
  (h11:FH K "is_book" iM)
  (h12:FH K "is_number" hJ)
  (h13:FH K "read_number" iu)
  (h14:FH K "read_book" g9)
  (h15:FH K "_law_told" kv)
  (h16:FH K "_law_whole" jE)
  (h17:FH K "_law_numbers" fQ)
  (h18:FH K "_law_pair" iX)
  (h19:FH K "_law_odd" ly)
  (h20:FH K "law" kT)
  (z_ValueError:PySem.W.nsIn K mainGlobals "ValueError" = some none)
  (z_all:PySem.W.nsIn K mainGlobals "all" = some none)
  (z_bool:PySem.W.nsIn K mainGlobals "bool" = some none)
  (z_enumerate:PySem.W.nsIn K mainGlobals "enumerate" = some none)
  (z_int:PySem.W.nsIn K mainGlobals "int" = some none)
  (z_isinstance:PySem.W.nsIn K mainGlobals "isinstance" = some none)
  (z_len:PySem.W.nsIn K mainGlobals "len" = some none)
  (z_max:PySem.W.nsIn K mainGlobals "max" = some none)
  (z_min:PySem.W.nsIn K mainGlobals "min" = some none)
  (z_range:PySem.W.nsIn K mainGlobals "range" = some none)
  (z_sorted:PySem.W.nsIn K mainGlobals "sorted" = some none)
  (z_str:PySem.W.nsIn K mainGlobals "str" = some none)
  (z_tuple:PySem.W.nsIn K mainGlobals "tuple" = some none)
  (z_zip:PySem.W.nsIn K mainGlobals "zip" = some none)
  {tk_FIGURES:Tok} (v_FIGURES:PySem.W.nsIn K mainGlobals "FIGURES" = some (some (.str "0123456789" tk_FIGURES)))
  {tk_MOST_FIGURES:Tok} (v_MOST_FIGURES:PySem.W.nsIn K mainGlobals "MOST_FIGURES" = some (some (.int 3 tk_MOST_FIGURES)))
  {tk_MOST_ROWS:Tok} (v_MOST_ROWS:PySem.W.nsIn K mainGlobals "MOST_ROWS" = some (some (.int 200 tk_MOST_ROWS)))
  {C_NotRead:Addr} (ea_NotRead:PySem.W.nsIn K mainGlobals "NotRead" = some (some (.ref C_NotRead)))
  (eq_NotRead:PySem.W.excIn K C_NotRead wJ "ValueError.__new__" = true)
  (et_NotRead:PySem.W.typeIn K (.ref C_NotRead)=some (.type "type"))
  (eg_NotRead:PySem.W.findIn K (.ref C_NotRead) "__getattribute__" = some (some (.builtin "BaseException.__getattribute__")))
  (eh_NotRead:PySem.W.findIn K (.ref C_NotRead) "__getattr__" = some none)
  (es_NotRead:PySem.W.subIn K (.ref C_NotRead) (.type "BaseException")=some true)
  (ec_NotRead:PySem.W.findIn K (.ref C_NotRead) "__class__" = some (some (.builtin "object.__class__")))
  (em_NotRead:PySem.W.mroIn K C_NotRead (.type "object")=some true)
  {C_ShiftError:Addr} (ea_ShiftError:PySem.W.nsIn K mainGlobals "ShiftError" = some (some (.ref C_ShiftError)))
  (eq_ShiftError:PySem.W.excIn K C_ShiftError wJ "ValueError.__new__" = true)
  (et_ShiftError:PySem.W.typeIn K (.ref C_ShiftError)=some (.type "type"))
  (eg_ShiftError:PySem.W.findIn K (.ref C_ShiftError) "__getattribute__" = some (some (.builtin "BaseException.__getattribute__")))
  (eh_ShiftError:PySem.W.findIn K (.ref C_ShiftError) "__getattr__" = some none)
  (es_ShiftError:PySem.W.subIn K (.ref C_ShiftError) (.type "BaseException")=some true)
  (ec_ShiftError:PySem.W.findIn K (.ref C_ShiftError) "__class__" = some (some (.builtin "object.__class__")))
  (em_ShiftError:PySem.W.mroIn K C_ShiftError (.type "object")=some true)
  {C_TooWide:Addr} (ea_TooWide:PySem.W.nsIn K mainGlobals "TooWide" = some (some (.ref C_TooWide)))
  (eq_TooWide:PySem.W.excIn K C_TooWide wJ "ValueError.__new__" = true)
  (et_TooWide:PySem.W.typeIn K (.ref C_TooWide)=some (.type "type"))
  (eg_TooWide:PySem.W.findIn K (.ref C_TooWide) "__getattribute__" = some (some (.builtin "BaseException.__getattribute__")))
  (eh_TooWide:PySem.W.findIn K (.ref C_TooWide) "__getattr__" = some none)
  (es_TooWide:PySem.W.subIn K (.ref C_TooWide) (.type "BaseException")=some true)
  (ec_TooWide:PySem.W.findIn K (.ref C_TooWide) "__class__" = some (some (.builtin "object.__class__")))
  (em_TooWide:PySem.W.mroIn K C_TooWide (.type "object")=some true)
  (e_get:PySem.W.specialIn K (.builtin "object.__class__") "__get__" = some (some (.builtin "getset_descriptor.__get__"))) (e_tk:PySem.W.takesIn K (.builtin "object.__class__")=some true)
  (S_NotRead_ShiftError:PySem.W.subIn K (.ref C_NotRead) (.ref C_ShiftError)=some true)
  (S_NotRead_ValueError:PySem.W.subIn K (.ref C_NotRead) (.type "ValueError")=some true)
  (S_NotRead_TooWide:PySem.W.subIn K (.ref C_NotRead) (.ref C_TooWide)=some false)
  (N_NotRead_TooWide:C_NotRead≠C_TooWide) :
  ∃fd:FuncData,(∀(s:Shared) (v:Value),BindsTo s fd ⟨[v],[]⟩ [("script", v)])/\∀base:Heap,K.In base->base.Ns mainGlobals mg->L2.FnOk l.prog w K mg base L2.CX0 5 fa fd ["script"] (spD K F_law):=by
 obtain⟨f0,oc,od,kV,dc,pm,an,cd,ct,sl,a0,l0,c0,k0⟩:=h20;have e:=hfa.symm.trans (PySem.W.mg_of X G a0);cases e;have T:Txt mg:=⟨PySem.W.mg_none_of X G z_ValueError,PySem.W.mg_none_of X G z_all,PySem.W.mg_none_of X G z_bool,PySem.W.mg_none_of X G z_enumerate,PySem.W.mg_none_of X G z_int,PySem.W.mg_none_of X G z_isinstance,PySem.W.mg_none_of X G z_len,PySem.W.mg_none_of X G z_max,PySem.W.mg_none_of X G z_min,PySem.W.mg_none_of X G z_range,PySem.W.mg_none_of X G z_sorted,PySem.W.mg_none_of X G z_str,PySem.W.mg_none_of X G z_tuple,PySem.W.mg_none_of X G z_zip,⟨_,PySem.W.mg_of X G v_FIGURES⟩,⟨_,PySem.W.mg_of X G v_MOST_FIGURES⟩,⟨_,PySem.W.mg_of X G v_MOST_ROWS⟩⟩;have X_NotRead:gk K mg "NotRead" C_NotRead:=sP X G ea_NotRead eq_NotRead et_NotRead eg_NotRead eh_NotRead es_NotRead ec_NotRead e_get e_tk em_NotRead;have X_ShiftError:gk K mg "ShiftError" C_ShiftError:=sP X G ea_ShiftError eq_ShiftError et_ShiftError eg_ShiftError eh_ShiftError es_ShiftError ec_ShiftError e_get e_tk em_ShiftError;have X_TooWide:gk K mg "TooWide" C_TooWide:=sP X G ea_TooWide eq_TooWide et_TooWide eg_TooWide eh_TooWide es_TooWide ec_TooWide e_get e_tk em_TooWide;have F0:=L2.fun_mk (st:=kT) l0 c0 k0;refine⟨PySem.W.fnOf "law" "law" (L2.defArgs kT) (L2.defBody kT) (L2.defScope kT) .none kV dc pm an cd ct,fun s v=>.of_eq rfl,fun base _ _=>?_⟩;have G_law_stir:=jJ l.prog w base X G h1 (by trivial) fun _ _ Fu=>qL T  Fu;have G_law_cell:=jJ l.prog w base X G h2 (by trivial) fun _ _ Fu=>qP T G_law_stir Fu;have G_law_draw:=jJ l.prog w base X G h3 (by trivial) fun _ _ Fu=>qO T  Fu;have G_law_form:=jJ l.prog w base X G h4 (by trivial) fun _ _ Fu=>qN T G_law_cell G_law_draw Fu;have G_law_book:=jJ l.prog w base X G h5 (by trivial) fun _ _ Fu=>qQ T G_law_draw G_law_cell Fu;have G_book_shown:=jJ l.prog w base X G h6 (by trivial) fun _ _ Fu=>nG T  Fu;have G_law_spoiled:=jJ l.prog w base X G h7 (by trivial) fun _ _ Fu=>mJ T  Fu;have G_law_number:=jJ l.prog w base X G h8 (by trivial) fun _ _ Fu=>nF T  Fu;have G_law_due:=jJ l.prog w base X G h9 (by trivial) fun _ _ Fu=>si T G_law_number Fu;have G_tells_rows:=jJ l.prog w base X G h10 (by trivial) fun _ _ Fu=>nE T  Fu;have G_is_book:=jJ l.prog w base X G h11 (by trivial) fun _ _ Fu=>sj T G_tells_rows Fu;have G_is_number:=jJ l.prog w base X G h12 (by trivial) fun _ _ Fu=>pF T  Fu;have G_read_number:=zi l.prog w base X G h13 (by trivial) fun _ _ Fu=>mI T X_NotRead G_is_number Fu;have G_read_book:=zi l.prog w base X G h14 (by trivial) fun _ _ Fu=>pD T X_NotRead G_read_number G_is_book Fu;have G_law_told:=jJ l.prog w base X G h15 (by trivial) fun _ _ Fu=>qK T X_NotRead X_ShiftError X_TooWide S_NotRead_ShiftError S_NotRead_ValueError S_NotRead_TooWide N_NotRead_TooWide G_read_book Fu;have G_law_whole:=jJ l.prog w base X G h16 (by trivial) fun _ _ Fu=>pE T  Fu;have G_law_numbers:=jJ l.prog w base X G h17 (by trivial) fun _ _ Fu=>mK T G_law_whole Fu;have G_law_pair:=jJ l.prog w base X G h18 (by trivial) fun _ _ Fu=>qM T G_law_numbers Fu;have G_law_odd:=jJ l.prog w base X G h19 (by trivial) fun _ _ Fu=>sf T  Fu;exact zV T G_law_form G_law_book G_law_cell G_law_draw G_book_shown G_law_spoiled G_law_odd G_law_due G_law_told G_law_pair F0
end Lw
namespace PySem.W.Fast
theorem tw10870531631491704272:0=0:=rfl
theorem tw7033719956567810696:0=0:=rfl
theorem tw17421550002733092492:0=0:=rfl
theorem tw16957972253729359797:0=0:=rfl
theorem tw11741825620536682006:0=0:=rfl
theorem tw11145719878933949535:0=0:=rfl
theorem tw3334582745245963747:0=0:=rfl
theorem tw13287345191279690767:0=0:=rfl
theorem tw5363621901894823246:0=0:=rfl
theorem tw16750355643141612246:0=0:=rfl
theorem tw17470666320628248588:0=0:=rfl
theorem tw1781458617406799368:0=0:=rfl
theorem tw17312417725881472117:0=0:=rfl
theorem tw8475001545486132479:0=0:=rfl
theorem tw4345325371285648118:0=0:=rfl
theorem tw4870382063869949828:0=0:=rfl
theorem tw1579284401475783926:0=0:=rfl
theorem tw8875803209177093229:0=0:=rfl
theorem tw575399647314671289:0=0:=rfl
theorem tw3063673575077450371:0=0:=rfl
theorem tw5110495636116989112:0=0:=rfl
theorem tw10345461020347231087:0=0:=rfl
theorem tw15453920722552426020:0=0:=rfl
theorem tw17013767775202882712:0=0:=rfl
theorem tw13840854346814597284:0=0:=rfl
theorem tw9296628964896300733:0=0:=rfl
theorem tw15917232067194783086:0=0:=rfl
theorem tw2640473401930639635:0=0:=rfl
theorem tw11258363335661671783:0=0:=rfl
theorem tw9719200524898063740:0=0:=rfl
theorem tw9570255800638154187:0=0:=rfl
theorem tw6038949242313528718:0=0:=rfl
theorem tw13545863606268767621:0=0:=rfl
theorem tw11028723326366756099:0=0:=rfl
theorem tw14292348082007984896:0=0:=rfl
theorem tw5626248776673913902:0=0:=rfl
theorem tw1230870902370801224:0=0:=rfl
theorem tw5437990608707964291:0=0:=rfl
theorem tw14943866000303423469:0=0:=rfl
theorem tw3119747218118403997:0=0:=rfl
theorem tw6741859743113368459:0=0:=rfl
theorem tw3459534278351573952:0=0:=rfl
theorem tw2671704832843902243:0=0:=rfl
theorem tw1234407778974934979:0=0:=rfl
theorem tw15539715743158904143:0=0:=rfl
theorem tw2219272634912932180:0=0:=rfl
theorem tw3109390443146074992:0=0:=rfl
theorem tw17107165741940492474:0=0:=rfl
theorem tw14106315707223397456:0=0:=rfl
theorem tw6793690984014712299:0=0:=rfl
theorem tw10855172989989327310:0=0:=rfl
theorem tw14240102722791056594:0=0:=rfl
theorem tw8372858164209237888:0=0:=rfl
theorem tw8233307590505253177:0=0:=rfl
theorem tw15909459148564676045:0=0:=rfl
theorem tw13536134312109975436:0=0:=rfl
theorem tw13365278677447325759:0=0:=rfl
theorem tw9913231486423197893:0=0:=rfl
theorem tw280436917545283126:0=0:=rfl
theorem tw5655981002372134268:0=0:=rfl
theorem tw3393694833897771704:0=0:=rfl
theorem tw14149474634005650818:0=0:=rfl
theorem tw3435622098074188121:0=0:=rfl
theorem tw12717782769612714264:0=0:=rfl
theorem tw14950744873293661258:0=0:=rfl
theorem tw5222249765112325758:0=0:=rfl
theorem tw15908177381797556454:0=0:=rfl
theorem tw12466962182746264682:0=0:=rfl
theorem tw12079059981792547469:0=0:=rfl
theorem tw12714910218830119635:0=0:=rfl
theorem tw15675603410985054745:0=0:=rfl
theorem tw11806079076249132649:0=0:=rfl
theorem tw16342247995356160396:0=0:=rfl
theorem tw4292580567231922520:0=0:=rfl
theorem tw6054287419139828585:0=0:=rfl
theorem tw7001420448397055798:0=0:=rfl
theorem tw5520619741949471228:0=0:=rfl
theorem tw1761025523171059940:0=0:=rfl
theorem tw5377420285766034357:0=0:=rfl
theorem tw13914657482789351341:0=0:=rfl
theorem tw13171772869797123514:0=0:=rfl
theorem tw5580446520578370972:0=0:=rfl
theorem tw12429189612256575516:0=0:=rfl
theorem tw1397971949124025625:0=0:=rfl
theorem tw9877661630419412808:0=0:=rfl
theorem tw18143788069258810508:0=0:=rfl
theorem tw6492758276631679819:0=0:=rfl
theorem tw2836986808269888023:0=0:=rfl
theorem tw12839171327447391392:0=0:=rfl
theorem tw11272900991930642004:0=0:=rfl
theorem tw7318546956041931197:0=0:=rfl
theorem tw1828192197467379565:0=0:=rfl
theorem tw12647525500747262898:0=0:=rfl
theorem tw17130601253158331665:0=0:=rfl
theorem tw10734186840482424891:0=0:=rfl
theorem tw18389082039708626381:0=0:=rfl
theorem tw17466788039886928354:0=0:=rfl
theorem tw15859433799032530527:0=0:=rfl
theorem tw8085020256113695146:0=0:=rfl
theorem tw10740211704452818562:0=0:=rfl
theorem tw13155284136825162383:0=0:=rfl
theorem tw9873480587099736403:0=0:=rfl
theorem tw311499615255160341:0=0:=rfl
theorem tw1989013534838073863:0=0:=rfl
theorem tw3317095888075066877:0=0:=rfl
theorem tw2767691171452653187:0=0:=rfl
theorem tw11990596849848050079:0=0:=rfl
theorem tw9264447755114865312:0=0:=rfl
theorem tw5922237609777774696:0=0:=rfl
theorem tw7190745304394020607:0=0:=rfl
theorem tw3121974326935524344:0=0:=rfl
theorem tw13315517378025977957:0=0:=rfl
theorem tw10853015512158760542:0=0:=rfl
theorem tw8281320197047833348:0=0:=rfl
theorem tw2083598341485280900:0=0:=rfl
theorem tw11474828884003776727:0=0:=rfl
theorem tw12110917585652334734:0=0:=rfl
theorem tw12450881686763620304:0=0:=rfl
theorem tw14097027226365361195:0=0:=rfl
theorem tw17402075987113388634:0=0:=rfl
theorem tw10408868358143200199:0=0:=rfl
theorem tw3174732445963393607:0=0:=rfl
theorem tw6508793105880278454:0=0:=rfl
theorem tw4563009308130044310:0=0:=rfl
theorem tw18445398405183480144:0=0:=rfl
theorem tw11280943463445205508:0=0:=rfl
theorem tw739396875797716354:0=0:=rfl
theorem tw10248080415676895141:0=0:=rfl
theorem tw5527931240746140219:0=0:=rfl
theorem tw336098307925964770:0=0:=rfl
theorem tw15188503644551928208:0=0:=rfl
theorem tw2630562865084938158:0=0:=rfl
theorem tw2380086892439804254:0=0:=rfl
theorem tw13326643345312216727:0=0:=rfl
theorem tw17975819369707012332:0=0:=rfl
theorem tw4594474659325758941:0=0:=rfl
theorem tw18106787725356122137:0=0:=rfl
theorem tw13660427148881198599:0=0:=rfl
theorem tw12380473700801586215:0=0:=rfl
theorem tw701723801056712709:0=0:=rfl
theorem tw16012878711079575443:0=0:=rfl
theorem tw11306769048077539127:0=0:=rfl
theorem tw16913076197168262493:0=0:=rfl
theorem tw10704855350971644136:0=0:=rfl
theorem tw13049955280870628857:0=0:=rfl
theorem tw13510001213463996274:0=0:=rfl
theorem tw3719963102600641219:0=0:=rfl
theorem tw7351598816407503835:0=0:=rfl
theorem tw2759628438140819316:0=0:=rfl
theorem tw8883340254461860974:0=0:=rfl
theorem tw7785056729809280112:0=0:=rfl
theorem tw10858897112496714472:0=0:=rfl
theorem tw12930270229736143762:0=0:=rfl
theorem tw2307599790507715598:0=0:=rfl
theorem tw5771492675994214387:0=0:=rfl
theorem tw13497025033629578279:0=0:=rfl
theorem tw2798109352267182432:0=0:=rfl
theorem tw16219352066544707158:0=0:=rfl
theorem tw13009998796500647286:0=0:=rfl
theorem tw7871984912621035805:0=0:=rfl
theorem tw1555922434973938919:0=0:=rfl
theorem tw8087560977034756622:0=0:=rfl
theorem tw1214293495212809868:0=0:=rfl
theorem tw12087672377378668786:0=0:=rfl
theorem tw779415283617734008:0=0:=rfl
theorem tw13294449303708672958:0=0:=rfl
theorem tw7167290371765262904:0=0:=rfl
theorem tw7395843292140479520:0=0:=rfl
theorem tw13022676918487724243:0=0:=rfl
theorem tw9612834381870232488:0=0:=rfl
theorem tw13236148955603528472:0=0:=rfl
theorem tw12494714915396918770:0=0:=rfl
theorem tw11776226976247958810:0=0:=rfl
theorem tw9054435779601934163:0=0:=rfl
theorem tw2221851488748460192:0=0:=rfl
theorem tw8832669520124144501:0=0:=rfl
theorem tw8973962094068598363:0=0:=rfl
theorem tw7604380186233064276:0=0:=rfl
end PySem.W.Fast
open PySem PySem.W PyProof.Rows
set_option maxRecDepth 100000 in
set_option maxHeartbeats 0 in
theorem PySem.Challenge.cw_formshift_k16_book_written_holds : PySem.Challenge.rw_formshift_k16_book_written.Holds := by
  w_on; o_law; k_head; (case hw => w_witness2)
  k_fill
  refine L2.walk_ofK (l := PySem.Challenge.rw_formshift_k16_book_written) (n := 63) (k := 5) (x := "script") (CX := L2.CX0) (sp := fun K => DL.spD K Lw.F_law) rfl (by decide) rfl ⟨rfl, by decide, by decide⟩ (fun w h Y => PySem.W.kIn_of Y) ?F ?S ?C
  case F =>
    intro w mg fa h KX G hmg;refine' Lw.all_mk KX G hmg ?_ ?_ ?_ ?_ ?_ ?_ ?_ ?_ ?_ ?_ ?_ ?_ ?_ ?_ ?_ ?_ ?_ ?_ ?_ ?_ ?_ ?_ ?_ ?_ ?_ ?_ ?_ ?_ ?_ ?_ ?_ ?_ ?_ ?_ ?v_FIGURES ?v_MOST_FIGURES ?v_MOST_ROWS ?ea_NotRead ?eq_NotRead ?_ ?_ ?_ ?_ ?_ ?_ ?ea_ShiftError ?eq_ShiftError ?_ ?_ ?_ ?_ ?_ ?_ ?ea_TooWide ?eq_TooWide ?_ ?_ ?_ ?_ ?_ ?_ ?_ ?_ ?_ ?_ ?_ ?N_NotRead_TooWide
    (case v_FIGURES=>k_is)
    (case v_MOST_FIGURES=>k_is)
    (case v_MOST_ROWS=>k_is)
    (case ea_NotRead=>k_is)
    (case eq_NotRead=>k_exc)
    (case ea_ShiftError=>k_is)
    (case eq_ShiftError=>k_exc)
    (case ea_TooWide=>k_is)
    (case eq_TooWide=>k_exc)
    (case N_NotRead_TooWide=>decide)
    all_goals first|k_is|trivial
  case S => exact fun K H a ns hl hO hS => DL.law_end hS hl Lw.law_true
  case C => exact fun _ _ _ _ z => z

