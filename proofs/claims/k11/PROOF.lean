import PyProof.Rows.All
import Wide.All
import OpenK.AllK
import Wide.FinOn
import Lean
import PyProof.EqAt
import PyProof.EqKinds
import PyProof.TupleCall
import PyProof.CompFree
import PyProof.Rows.CellsFrame
import PyProof.EqLayable
import PyProof.SameEqv
import PyProof.Draws
import PyProof.ZipIter
import PyProof.EnumMake
import PyProof.Rows.SortShellK
import PyProof.ListRange
import PyProof.TupleOfSeq
import PyProof.IsRules
import PyProof.Conv_int_bool
import PyProof.Conv_int
import PyProof.StationsW
import PyProof.RulesAs
import KE.KTryMore
import PyProof.ExcArgs
import PyProof.NsDelKeeps
import PyProof.DictRoadsH
import PyProof.DictIter
import PyProof.Rows.SetFrom
import PyProof.WalksMore
import KE.KDictSum
import KE.KSort
import PyProof.DictItems
import PyProof.AttrMissHeap
import PyProof.ListNew
import PySem.Challenge.RW_formshift_k11_whole_natural
open Option renaming bind_some → aa, map_some → av, bind_eq_some_iff → bA
open PySem renaming wpAny_bind → ab, wpAny_pure → aq, wpAny_setField_rec → aT, wpAny_field → aV, wpAny_holding → bD, wpAny_newObj_type → bW
open PySem.Heap renaming get?_push_of_some → ae, lt_size → aB, get?_push_size → aD, size_push → bp
open List renaming length_map → af, getD_eq_getElem?_getD → ag, getElem?_set_ne → ai, getElem?_eq_getElem → aj, range → ao, getElem?_map → au, length_append → aw, getElem?_set_self → ay, map_cons → az, mem_of_getElem? → aA, size_toArray → aE, mem_cons_of_mem → aG, replicate → aH, length_range → aI, length_cons → aJ, getElem?_cons_succ → aK, mem_append_right → aL, getElem?_cons_zero → aM, getElem?_append_right → aN, length_singleton → aP, mem_cons_self → aQ, getElem?_append_left → aR, mem_append_left → aS, getElem?_eq_none → aU, map_append → aX, length_set → aY, mem_range → aZ, append_assoc → ba, length_replicate → bc, not_mem_nil → bf, map_map → bg, getElem?_range → bh, mem_cons → bq, append_nil → br, lookup_cons → bu, getElem_idxOf → bx, replicate_succ → bz, range_eq_range' → bB, filter_cons → bC, ext_getElem? → bF, length_zip → bG, all_eq_true → bH, map_nil → bI, getElem?_zipIdx → bJ, getElem?_replicate → bK, flatten_cons → bL, flatMap_cons → bM, nil_append → bN, length_nil → bO, range' → bP, set → bT, drop_eq_getElem_cons → bU, forIn_cons → bV, getElem?_of_mem → bX, range'_succ → bZ, length_zipIdx → b6, filter_append → Jv, find?_cons → Jx, idxOf_append → Jz, forIn_nil → JB, zipIdx_cons → JC, cons_append → JD, set_eq_of_length_le → JF, range_succ → JG, zip_cons_cons → JI, getElem_inj → JJ, drop_length → JK, zipIdx_nil → JN, of_mem_zip → JO, getElem?_zip_eq_some → JS, exists_mem_of_ne_nil → JT
open Nat renaming le_refl → aC, lt_of_lt_of_le → aF, ne_of_lt → aO, ne_of_gt → bj, le_trans → bo, lt_irrefl → bt, zero_le → bw, zero_add → bE, le_add_right → bQ, le_of_succ_le → Jy, le_succ → JA, mul_le_mul_right → JL, min_eq_left → JM, sub_self → JP, le_of_lt → JQ
open Int renaming toNat_natCast → aW, emod_lt_of_pos → Jw, emod_nonneg → JH
open Array renaming length_toList → bY, getElem?_eq_getElem → JE, forIn_toList → JR
local macro_rules | `(⋯) => `(by omega)
set_option compiler.extract_closed false
set_option genSizeOf false
set_option genInjectivity false
set_option Elab.async false
set_option linter.all false
set_option maxRecDepth 100000
namespace L2
open PySem PySem.Spec PyProof.Rows
noncomputable abbrev xR:=Sum Int Str
noncomputable def Fe:xR->Value->Bool
 |.inl k,v=>Value.isInt k v
 |.inr x,v=>Value.isStrOf x v
noncomputable def II (w:World):xR->Int
 |.inl k=>hashInt k
 |.inr x=>hashStr w x
theorem fD:∀{k:xR}{v:Value},Fe k v=true->(∃i t,k=Sum.inl i/\v=Value.int i t)\/(∃x t,k=Sum.inr x/\v=Value.str x t)
 | .inl i,v,h=>by
  obtain⟨t,e⟩:=Value.isInt_shape (k:=i) (v:=v) h;exact .inl ⟨i,t,rfl,e⟩
 | .inr x,v,h=>by
  obtain⟨t,e⟩:=Value.isStrOf_shape (x:=x) (v:=v) h;exact .inr ⟨x,t,rfl,e⟩
theorem Gz (a b:Int):decide ((Sum.inl a:xR)=Sum.inl b)=(a==b):=by
 by_cases e:a=b
 ·subst e;simp
 ·have h:¬(Sum.inl a:xR)=Sum.inl b:=fun q=>e (Sum.inl.inj q);rw[decide_eq_false h];exact (beq_eq_false_iff_ne.mpr e).symm
theorem Gw (a b:Str):decide ((Sum.inr a:xR)=Sum.inr b)=decide (a=b):=by
 by_cases e:a=b
 ·subst e;simp
 ·have h:¬(Sum.inr a:xR)=Sum.inr b:=fun q=>e (Sum.inr.inj q);rw[decide_eq_false h,decide_eq_false e]
theorem Gy (a:Int)(b:Str):decide ((Sum.inl a:xR)=Sum.inr b)=false:=decide_eq_false (fun q=>nomatch q)
theorem Gx (a:Str)(b:Int):decide ((Sum.inr a:xR)=Sum.inl b)=false:=decide_eq_false (fun q=>nomatch q)
noncomputable def zF (prog:Program)(w:World):PySem.KeyKind prog w xR where
 is:=Fe
 hash:=II w
 inj:=fun v a b ha hb=>by
  rcases fD ha with ⟨i,t,rfl,rfl⟩|⟨x,t,rfl,rfl⟩
  ·rcases fD hb with ⟨j,u,rfl,e⟩|⟨y,u,rfl,e⟩
   ·injection e with e1 _;rw[e1]
   ·exact nomatch e
  ·rcases fD hb with ⟨j,u,rfl,e⟩|⟨y,u,rfl,e⟩
   ·exact nomatch e
   ·injection e with e1 _;rw[e1]
 byValue:=fun k v h=>by
  rcases fD h with ⟨i,t,rfl,rfl⟩|⟨x,t,rfl,rfl⟩ <;> rfl
 pyHash:=fun hv h=>by
  rcases fD hv with ⟨i,t,rfl,rfl⟩|⟨x,t,rfl,rfl⟩
  ·exact wpAny_pyHash_int h
  ·exact wpAny_pyHash_str h
 eqBool:=fun hu hv h=>by
  rcases fD hu with ⟨i,t,rfl,rfl⟩|⟨x,t,rfl,rfl⟩
  ·rcases fD hv with ⟨j,u,rfl,rfl⟩|⟨y,u,rfl,rfl⟩
   ·rw[Gz] at h;exact wpAny_eqBool_int h
   ·rw[Gy] at h;exact SeqAt.EqAt.int_str i t y u _ _ _ _ h
  ·rcases fD hv with ⟨j,u,rfl,rfl⟩|⟨y,u,rfl,rfl⟩
   ·rw[Gx] at h;exact SeqAt.EqAt.str_int x t j u _ _ _ _ h
   ·rw[Gw] at h;exact wpAny_eqBool_str h
 «strs»:=fun k x t v h=>by
  rcases fD h with ⟨i,u,rfl,e⟩|⟨y,u,rfl,e⟩
  ·exact nomatch e
  ·injection e with e1 _
   subst e1;cases v <;> rfl
inductive V where
 |non|bl (b:Bool)|int (i:Int)|str (x:Str)|byt (b:Array UInt8)|flt (b:UInt64)|ref (a:Addr)|ty (n:String)
 deriving DecidableEq
noncomputable def dX:V->Value->Prop
 |.non,u=>u=Value.none
 |.bl b,u=>u=Value.bool b
 |.int i,u=>∃t,u=Value.int i t
 |.str x,u=>∃t,u=Value.str x t
 |.byt b,u=>∃t,u=Value.bytes b t
 |.flt b,u=>∃t,u=Value.float b t
 |.ref a,u=>u=Value.ref a
 |.ty n,u=>u=Value.type n
noncomputable abbrev cY:List V->List Value->Prop:=Paired dX
theorem cY.length {xs:List V}{us:List Value}(r:cY xs us):xs.length=us.length:=Paired.length r
theorem cY.get:∀{xs:List V}{us:List Value}{i:Nat}{x:V},cY xs us->xs[i]?=some x->∃u,us[i]?=some u/\dX x u
 |_,_,_,_,.nil,e=>by simp at e
 |_,_,0,_,.cons r _,e=>by simp at e;subst e;exact⟨_,rfl,r⟩
 | _,_,i+1,x,.cons _ t,e=>by
  obtain⟨u,h1,h2⟩:=cY.get (i:=i) (x:=x) t (by simpa using e);exact⟨u,by simpa using h1,h2⟩
theorem cY.set {x:V}{u:Value}(r:dX x u):∀{xs:List V}{us:List Value} (i:Nat),cY xs us->cY (xs.set i x) (us.set i u)
 |_,_,_,.nil=>.nil
 |_,_,0,.cons _ t=>.cons r t
 |_,_,i+1,.cons q t=>.cons q (cY.set r i t)
theorem cY.append:∀{xs ys:List V}{us ws:List Value},cY xs us->cY ys ws->cY (xs++ys) (us++ws):=by
 intro xs ys us ws h s;induction h with
 |nil=>exact s
 |cons r t ih=>exact .cons r ih
theorem cY.take:∀{xs:List V}{us:List Value} (n:Nat),cY xs us->cY (xs.take n) (us.take n)
 |_,_,0,_=>.nil
 |_,_,_+1,.nil=>.nil
 |_,_,n+1,.cons r t=>.cons r (cY.take n t)
noncomputable def Ic:Option V->Option Value->Prop
 |some v,some u=>dX v u
 |none,none=>True
 |_,_=>False
noncomputable def KV {κ:Type}:List (κ×V)->List (κ×Value)->Prop:=Paired fun (p:κ×V) (q:κ×Value)=>p.1=q.1/\dX p.2 q.2
noncomputable def kV:xR->V
 |.inl i=>.int i
 |.inr x=>.str x
inductive HO where
 |lst (xs:List V)
 |tup (xs:List V)
 |dK (kvs:List (xR×V))|dT (kvs:List (List xR×V))
 |set (S:Int->Bool) (n:Nat)
 |ins (C dx:Addr) (fs:List (Str×V))
 |own (x:Addr)
 |xd (fs:List (Str×V))
 |met (f x:Addr)
 |rng (lo hi:Int)
 |frz (o:Obj) (u:HO)
 |tbl (ps:Array Value)
 |ext (φ:Heap->Prop)
noncomputable abbrev Hp:=Addr->Option HO
noncomputable def eA (H:Hp)(a:Addr)(o:HO):Hp:=fun b=>if b=a then some o else H b
theorem cO {H:Hp}{a:Addr}{o:HO}:eA H a o a=some o:=by unfold eA;rw[if_pos rfl]
theorem cG {H:Hp}{a b:Addr}{o:HO}(h:b≠a):eA H a o b=H b:=by unfold eA;rw[if_neg h]
theorem cI {H:Hp}{a b:Addr}{o:HO}(h:H a=some o)(h':H b=none):a≠b:=by
 intro e;subst e;rw[h] at h';cases h'
section
variable (P:Program)(w:World)
noncomputable def ObjOk (H:Hp)(h:Heap)(a:Addr):HO->Prop
 |.lst xs=>xs.length<=sizeLine/\∃(its:List Value) (n:Nat),cY xs its/\h.get? a=some { cls:=.type "list", data:=.seq its.toArray n }
 |.tup xs=>xs.length<=sizeLine/\∃its:List Value,cY xs its/\IsTup h a its.toArray
 |.dK kvs=>kvs.length<=sizeLine/\(a==sysModules)=false/\∃vs,KV kvs vs/\h.DictOf (zF P w) a vs
 | .dT kvs=>kvs.length<=sizeLine/\(a==sysModules)=false/\∃xs:List (List xR×Addr×Value),
   Paired (fun (p:List xR×V) (q:List xR×Addr×Value)=>p.1=q.1/\H q.2.1=some (.tup (p.1.map kV))/\dX p.2 q.2.2) kvs xs ∧
   ∃o es ep,h.get? a=some o/\o.ExactDict/\o.data=.dict es ep/\es.toList=xs.map (entryOfKey (tupleKind (zF P w)))/\(xs.map (·.1)).Nodup
 |.set S n=>h.SetOf (intKind P w) a S n
 | .ins C dx fs=>H dx=some (.own a)/\fs.length<=1000/\dx≠a/\h.get? a=some (PySem.W.instObj C dx) ∧
   ∃mA,h.Ns1 dx mA/\(∀f,Ic (fs.lookup f) (mA f))/\PySem.Within mA (fs.map (·.1))
 |.own _=>∃o,h.get? a=some o
 |.xd fs=>∃mA,h.Ns1 a mA/\∀f,Ic (fs.lookup f) (mA f)
 |.rng lo hi=>∃t u v,h.get? a=some { cls:=.type "range", data:=.fields #[.int lo t,.int hi u,.int 1 v] }
 |.frz o u=>h.get? a=some o/\ObjOk H h a u
 |.tbl ps=>h.get? a=some { cls:=.none,data:=.fields ps }
 |.met f x=>h.get? a=some (PySem.W.methodObj (.ref f) (.ref x))
 |.ext φ=>φ h/\(∃o,h.get? a=some o)/\∀h1 h2:Heap,φ h1->(∀o,h1.get? a=some o->h2.get? a=some o)->φ h2
def sS (H:Hp)(h:Heap):Prop:=∀a o,H a=some o->ObjOk P w H h a o
end
section
variable {P:Program}{w:World}{H H':Hp}{h h':Heap}{a:Addr}{o:HO}
theorem ObjOk.lt (x:ObjOk P w H h a o):a<h.objs.size:=by
 cases o with
 |lst xs=>obtain⟨_,_,_,_,e⟩:=x;exact aB e
 |tup xs=>obtain⟨_,_,_,p⟩:=x;exact p.lt
 |dK kvs=>obtain⟨_,_,_,_,o,_,_,e,_⟩:=x;exact aB e
 |dT kvs=>obtain⟨_,_,_,_,o,_,_,e,_⟩:=x;exact aB e
 |set S n=>obtain⟨o,_,_,_,e,_⟩:=x;exact aB e
 |ins C dx fs=>obtain⟨_,_,_,e,_⟩:=x;exact aB e
 |own y=>obtain⟨_,e⟩:=x;exact aB e
 |xd fs=>obtain⟨_,⟨_,_,_,e,_⟩,_⟩:=x;exact aB e
 |rng lo hi=>obtain⟨_,_,_,e⟩:=x;exact aB e
 |frz ob u=>obtain⟨e,_⟩:=x;exact aB e
 |tbl ps=>exact aB (show h.get? a=some _ from x)
 |met f y=>exact aB (show h.get? a=some _ from x)
 |ext φ=>obtain⟨_,⟨_,e⟩,_⟩:=x;exact aB e
theorem Paired.mapP {α β:Type}{F G:α->β->Prop}:∀{l₁:List α}{l₂:List β},Paired F l₁ l₂->(∀a b,F a b->G a b)->Paired G l₁ l₂:=by
 intro l₁ l₂ h f;induction h with
 |nil=>exact .nil
 |cons r t ih=>exact .cons (f _ _ r) ih
theorem ObjOk.stay (x:ObjOk P w H h a o)(k:∀b u,(b=a\/H b=some (.own a))->h.get? b=some u->h'.get? b=some u)
  (ho:∀b,H b=some (.own a)->H' b=some (.own a)) (ht:∀b xs,H b=some (.tup xs)->H' b=some (.tup xs)):ObjOk P w H' h' a o:=by
 induction o with
 |lst xs=>obtain⟨z,its,n,r,e⟩:=x;exact⟨z,its,n,r,k _ _ (.inl rfl) e⟩
 |tup xs=>obtain⟨z,its,r,ob,e,c⟩:=x;exact⟨z,its,r,ob,k _ _ (.inl rfl) e,c⟩
 |dK kvs=>obtain⟨z,y,vs,r,ob,es,ep,e,c⟩:=x;exact⟨z,y,vs,r,ob,es,ep,k _ _ (.inl rfl) e,c⟩
 |dT kvs =>
  obtain⟨z,y,xs,r,ob,es,ep,e,c⟩:=x;exact⟨z,y,xs,Paired.mapP r fun p q z=>⟨z.1,ht _ _ z.2.1,z.2.2⟩,ob,es,ep,k _ _ (.inl rfl) e,c⟩
 |set S n=>obtain⟨ob,es,ep,t,e,c⟩:=x;exact⟨ob,es,ep,t,k _ _ (.inl rfl) e,c⟩
 |ins C dx fs =>
  obtain⟨d,z,ne,e,mA,⟨od,es,ep,e2,c⟩,r⟩:=x;exact⟨ho _ d,z,ne,k _ _ (.inl rfl) e,mA,⟨od,es,ep,k _ _ (.inr d) e2,c⟩,r⟩
 |own y=>obtain⟨ob,e⟩:=x;exact⟨ob,k _ _ (.inl rfl) e⟩
 |xd fs=>obtain⟨mA,⟨od,es,ep,e,c⟩,r⟩:=x;exact⟨mA,⟨od,es,ep,k _ _ (.inl rfl) e,c⟩,r⟩
 |rng lo hi=>obtain⟨t,u,v,e⟩:=x;exact⟨t,u,v,k _ _ (.inl rfl) e⟩
 |frz ob u ih=>obtain⟨e,q⟩:=x;exact⟨k _ _ (.inl rfl) e,ih q⟩
 |tbl ps =>
  have e:h.get? a=some { cls:=.none,data:=.fields ps }:=x;show h'.get? a=some { cls:=.none,data:=.fields ps };exact k a _ (.inl rfl) e
 |met f y =>
  have e:h.get? a=some (PySem.W.methodObj (.ref f) (.ref y)):=x;show h'.get? a=some (PySem.W.methodObj (.ref f) (.ref y));exact k a _ (.inl rfl) e
 |ext φ=>obtain⟨p,⟨o,e⟩,st⟩:=x;exact⟨st _ _ p fun o q=>k _ _ (.inl rfl) q,⟨o,k _ _ (.inl rfl) e⟩,st⟩
theorem sS.lt (x:sS P w H h)(e:H a=some o):a<h.objs.size:=(x a o e).lt
theorem sS.fresh (x:sS P w H h)(e:h.objs.size<=a):H a=none:=by
 cases q:H a with
 |none=>rfl
 |some u=>exact absurd (aF (x.lt q) e) (bt _)
theorem sS.kept (x:sS P w H h)(k:∀b u,h.get? b=some u->h'.get? b=some u):sS P w H h':=fun a o e =>
 (x a o e).stay (fun b u _ q=>k b u q) (fun _ q=>q) fun _ _ q=>q
theorem sS.laid (x:sS P w H h)(k:∀b u,h.get? b=some u->h'.get? b=some u)(hp:h.objs.size<=a)(new:ObjOk P w (eA H a o) h' a o):sS P w (eA H a o) h':=fun b u e=>by
 have hn:=x.fresh hp;by_cases hb:b=a
 ·subst hb;rw[cO] at e;cases e;exact new
 ·rw[cG hb] at e;exact (x b u e).stay (fun c v _ q=>k c v q) (fun c q=>by rw[cG (cI q hn)];exact q) fun c xs q=>by rw[cG (cI q hn)];exact q
end
def Rd (H:Hp)(a:Addr)(u:HO):Prop:=H a=some u\/∃o,H a=some (.frz o u)
theorem Rd.ok {P:Program}{w:World}{H:Hp}{h:Heap}{a:Addr}{u:HO}(r:Rd H a u)(x:sS P w H h):ObjOk P w H h a u:=by
 rcases r with r|⟨o,r⟩
 ·exact x a u r
 ·obtain⟨_,q⟩:=x a _ r;exact q
noncomputable def Ip:Option HO->Prop
 |some (.lst _)=>True
 |some (.dK _)=>True
 |some (.dT _)=>True
 |some (.set _ _)=>True
 |some (.ins _ _ _)=>True
 |some (.ext _)=>True
 |_=>False
section
variable {P:Program}{w:World}{H:Hp}{h h':Heap}{x e:Addr}{o':HO}
theorem sS.write (ok:sS P w H h)(mu:Ip (H x))(he:e=x\/H e=some (.own x))(k:∀b u,b≠e->h.get? b=some u->h'.get? b=some u)(heo:∃u,h'.get? e=some u)
  (new:ObjOk P w (eA H x o') h' x o'):sS P w (eA H x o') h':=fun b u q=>by
 have nown:∀c y,H c=some (.own y)->c≠x:=fun c y r z=>by subst z;rw[r] at mu;exact mu
 have ntup:∀c xs,H c=some (.tup xs)->c≠x:=fun c xs r z=>by subst z;rw[r] at mu;exact mu
 by_cases hb:b=x
 ·subst hb;rw[cO] at q;cases q;exact new
 ·rw[cG hb] at q;by_cases hbe:b=e
  ·have q':H b=some (.own x):=by
    rcases he with z|z
    ·exact absurd (hbe.trans z) hb
    ·rw[hbe];exact z
   rw[q] at q';cases q';obtain⟨v,hv⟩:=heo;exact⟨v,by rw[hbe];exact hv⟩
  ·refine (ok b u q).stay (fun c v hc r=>k c v ?_ r) (fun c r=>by rw[cG (nown c b r)];exact r) fun c xs r=>by rw[cG (ntup c xs r)];exact r
   rcases hc with rfl|hc
   ·exact hbe
   ·rintro rfl;rcases he with z|z
    ·exact nown c b hc z
    ·rw[hc] at z;cases z;exact hb rfl
end
structure Un (fs ex:List Addr)(H H':Hp)(h h':Heap):Prop where
 keep:∀b o,h.get? b=some o->H b=none->b∉fs->b∉ex->h'.get? b=some o
 slot:∀b o,h.get? b=some o->H b=none->b∈fs->b∉ex->∃sl,h'.get? b=some { o with slots:=sl }
 free:∀b o,h.get? b=some o->H b=none->b∉ex->H' b=none
 there:∀b o,h.get? b=some o->b∉ex->∃o',h'.get? b=some o'
 tups:∀b xs,H b=some (.tup xs)->H' b=some (.tup xs)
 frzs:∀b o u,H b=some (.frz o u)->H' b=some (.frz o u)
 tbls:∀b ps,H b=some (.tbl ps)->∃more,H' b=some (.tbl (ps++more))
section
variable {fs fs' ex ex':List Addr}{H H1 H2:Hp}{h h1 h2 h':Heap}{a x e:Addr}{o:HO}
theorem Un.any (u:Un fs ex H H1 h h1){b:Addr}{ob:Obj}(q:h.get? b=some ob)(n:H b=none)(hx:b∉ex):∃sl,h1.get? b=some { ob with slots:=sl }:=by
 by_cases hb:b∈fs
 ·exact u.slot b ob q n hb hx
 ·exact⟨ob.slots,u.keep b ob q n hb hx⟩
theorem Un.trans (a:Un fs ex H H1 h h1)(b:Un fs ex H1 H2 h1 h2):Un fs ex H H2 h h2 where
 keep:=fun c ob q n hc hx=>b.keep c ob (a.keep c ob q n hc hx) (a.free c ob q n hx) hc hx
 slot:=fun c ob q n hc hx=>by
  obtain⟨sl,e1⟩:=a.slot c ob q n hc hx;obtain⟨sl',e2⟩:=b.slot c _ e1 (a.free c ob q n hx) hc hx;exact⟨sl',e2⟩
 free:=fun c ob q n hx=>by
  obtain⟨o',e1⟩:=a.there c ob q hx;exact b.free c o' e1 (a.free c ob q n hx) hx
 there:=fun c ob q hx=>by
  obtain⟨o',e1⟩:=a.there c ob q hx;exact b.there c o' e1 hx
 tups:=fun c xs q=>b.tups c xs (a.tups c xs q)
 frzs:=fun c ob xs q=>b.frzs c ob xs (a.frzs c ob xs q)
 tbls:=fun c ps q=>by
  obtain⟨m1,e1⟩:=a.tbls c ps q;obtain⟨m2,e2⟩:=b.tbls c _ e1;exact⟨m1++m2,by rw[e2,Array.append_assoc]⟩
theorem Un.kept (k:∀b u,h.get? b=some u->h'.get? b=some u):Un fs ex H H h h' :=
 ⟨fun b ob q _ _ _=>k b ob q,fun b ob q _ _ _=>⟨ob.slots,k b ob q⟩,fun _ _ _ n _=>n,fun b ob q _=>⟨ob,k b ob q⟩,fun _ _ q=>q,fun _ _ _ q=>q,fun _ ps q=>⟨#[],by rw[q];simp⟩⟩
theorem Un.refl:Un fs ex H H h h:=Un.kept fun _ _ q=>q
theorem Un.laid (k:∀b u,h.get? b=some u->h'.get? b=some u)(hp:h.objs.size<=a)(hn:H a=none):Un fs ex H (eA H a o) h h' where
 keep:=fun b u q _ _ _=>k b u q
 slot:=fun b u q _ _ _=>⟨u.slots,k b u q⟩
 free:=fun b u q n _=>by rw[cG (aO (aF (aB q) hp))];exact n
 there:=fun b u q _=>⟨u,k b u q⟩
 tups:=fun b xs q=>by rw[cG (cI q hn)];exact q
 frzs:=fun b u xs q=>by rw[cG (cI q hn)];exact q
 tbls:=fun b ps q=>⟨#[],by rw[cG (cI q hn),q];simp⟩
theorem Un.write (mu:Ip (H x))(he:e=x\/H e=some (.own x))(k:∀b u,b≠e->h.get? b=some u->h'.get? b=some u)(heo:∃u,h'.get? e=some u):Un fs ex H (eA H x o) h h':=by
 have hx:∀b,H b=none->b≠x:=fun b n z=>by subst z;rw[n] at mu;exact mu
 have hb:∀b,H b=none->b≠e:=fun b n z=>by
  subst z;rcases he with r|r
  ·exact hx b n r
  ·rw[n] at r;cases r
 have hm:∀b u,H b=some u->¬Ip (some u)->b≠x:=fun b u q nm z=>by subst z;rw[q] at mu;exact nm mu
 refine⟨fun b u q n _ _=>k b u (hb b n) q,fun b u q n _ _=>⟨u.slots,k b u (hb b n) q⟩,fun b u q n _=>by rw[cG (hx b n)];exact n,fun b u q _=>?_,
  fun b xs q=>by rw[cG (hm b _ q fun z=>z)];exact q,fun b u xs q=>by rw[cG (hm b _ q fun z=>z)];exact q,fun b ps q=>⟨#[],by rw[cG (hm b _ q fun z=>z),q];simp⟩⟩
 by_cases hbe:b=e
 ·subst hbe;exact heo
 ·exact⟨u,k b u hbe q⟩
end
noncomputable def Ij (h:Heap)(H:Hp):List Addr:=(ao h.objs.size).filter fun a=>(H a).isSome
noncomputable def vD (h:Heap)(H:Hp):Heap:=PySem.W.hideAll h (Ij h H)
theorem AU (h:Heap)(H:Hp):(vD h H).objs.size=h.objs.size:=PySem.W.hideAll_size _ _
theorem Cp {h:Heap}{H:Hp}{b:Addr}{o:Obj}(e:h.get? b=some o)(n:H b=none):(vD h H).get? b=some o :=
 PySem.W.hideAll_get _ e fun hm=>by
  have q:(H b).isSome=true:=(List.mem_filter.mp hm).2;rw[n] at q;simp at q
theorem D7 {h:Heap}{H:Hp}{b:Addr}{o:Obj}(e:(vD h H).get? b=some o):h.get? b=some o/\H b=none:=by
 have e':h.get? b=some o:=PySem.W.of_hideAll (Ij h H) e;refine⟨e',?_⟩;cases q:H b with
 |none=>rfl
 |some x =>
  have hm:b∈Ij h H:=List.mem_filter.mpr ⟨List.mem_range.mpr (aB e'),by simp[q]⟩;have z:(vD h H).get? b=none:=PySem.W.hideAll_none (Ij h H) hm;rw[z] at e;cases e
noncomputable def EN (g h:Heap)(L:Addr):List (Addr×Obj):=(ao h.objs.size).filterMap fun a=>if a=L\/(g.get? a).isSome=true then none else (h.get? a).map fun o=>(a,o)
noncomputable def fV (g h:Heap)(L d:Addr):List (Addr×Obj):=(EN g h L).filter fun p=>decide (p.1≠d)
structure Mod (K:PySem.W.Frag)(mg:Str->Option Value)(base:Heap):Prop where
 kin:K.In base
 glob:base.Ns mainGlobals mg
 blt:∃mb,base.Ns builtinsNs mb/\∀x:Str,x ≠ "__name__" ->mb x=bootBuiltins x
 nolimit:base.NoLimit
structure Cx where
 prog:Program
 w:World
 K:PySem.W.Frag
 mg:Str->Option Value
 base:Heap
 A:Around
 N:List Str
 s₀:Shared
 H₀:Hp
 env:Env
 outer:List Env
 stack:List Env
 ex:List Addr
 fn:Str->Bool
 calm:Bool
 pn:List (Addr×Obj)
 xe:Value->Shared->Prop
noncomputable def AY (l:List Env):List Addr:=l.filterMap (·.frame)
noncomputable abbrev Cx.fs (X:Cx):List Addr:=AY X.outer
def Vis (sc:Scope)(x:Str):Prop:=sc.names.lookup x=some .local\/sc.names.lookup x=some .cell\/sc.names.lookup x=some .free
def Loc (sc:Scope)(x:Str):Prop:=sc.names.lookup x=some .local\/sc.names.lookup x=some .cell
noncomputable def IY (env:Env)(h:Heap)(m:Str->Option Value)(x:Str)(u:Value):Prop :=
 (env.kindOf x=some .local/\m x=some u)\/((env.kindOf x=some .cell\/env.kindOf x=some .free)/\∃c,env.cells.lookup x=some c/\h.IsCell c (some u))
structure Cx.Ok (X:Cx):Prop where
 mod:Mod X.K X.mg X.base
 kind:X.env.scope.kind=.function
 glob:X.env.globals=mainGlobals
 blt:X.env.builtins=builtinsNs
 above:X.s₀.heap.objs.size<=X.env.locals
 inj:∀x y c,X.env.cells.lookup x=some c->X.env.cells.lookup y=some c->x=y
 has:∀x,(X.env.kindOf x=some .cell\/X.env.kindOf x=some .free)->∃c,X.env.cells.lookup x=some c
 cab:∀x c,X.fn x=true->X.env.cells.lookup x=some c->X.s₀.heap.objs.size<=c
 hd:X.calm=true->X.A.handled=none
 frames:X.A.frames=some X.stack
 stk:X.stack=X.outer\/(X.stack=X.env::X.outer/\X.env.frame=some X.env.locals)
 exf:∀b∈X.ex,b≠X.env.locals/\∀x c,X.env.cells.lookup x=some c->c≠b
 bs:∀b o,X.base.get? b=some o->X.s₀.heap.get? b=some o/\X.H₀ b=none
 bsz:X.base.objs.size<=X.s₀.heap.objs.size
 noex:∀b o,X.base.get? b=some o->b∉X.ex
 exfs:∀b∈X.ex,b∉X.fs
 funs:X.s₀.heap.FunFrames X.base X.outer
 frf:∀b∈X.fs,X.H₀ b=none
structure cT (X:Cx)(pins:List (Addr×Obj))(σ:List (Option V))(H:Hp)(s:Shared):Prop where
 ok:X.Ok
 os:s.os=X.s₀.os
 bare:AllBare s.gens
 base:Un X.fs X.ex X.H₀ H X.s₀.heap s.heap
 loc:∃m,s.heap.Ns X.env.locals m/\∀(i:Nat) (x:Str) (v:V),X.N[i]?=some x->σ[i]?=some (some v)->Vis X.env.scope x->∃u,dX v u/\IY X.env s.heap m x u
 cell:∀x c,X.env.cells.lookup x=some c->∃v,s.heap.IsCell c v
 free:H X.env.locals=none
 freeC:∀x c,X.env.cells.lookup x=some c->H c=none
 pin:∀p∈X.pn++pins,s.heap.get? p.1=some p.2/\H p.1=none/\p.1≠X.env.locals/\p.1∉X.fs/\∀v,p.2.data≠.cell v
 hok:sS X.prog X.w H s.heap
 len:σ.length=X.N.length
section
variable {X:Cx}{pins:List (Addr×Obj)}{σ:List (Option V)}{H H':Hp}{s:Shared}{h':Heap}
theorem Cx.Ok.nofr (ok:X.Ok){b:Addr}{o:Obj}(e:X.base.get? b=some o):b∉X.fs:=fun hb=>by
 have:=(ok.funs.mem hb).1;rw[e] at this;cases this
theorem cT.bs (I:cT X pins σ H s):∀b o,X.base.get? b=some o->s.heap.get? b=some o/\H b=none:=fun b o e =>
 ⟨I.base.keep b o (I.ok.bs b o e).1 (I.ok.bs b o e).2 (I.ok.nofr e) (I.ok.noex b o e),I.base.free b o (I.ok.bs b o e).1 (I.ok.bs b o e).2 (I.ok.noex b o e)⟩
theorem cT.bk (I:cT X pins σ H s):∀b o,X.base.get? b=some o->s.heap.get? b=some o:=fun b o e=>(I.bs b o e).1
theorem cT.mod (I:cT X pins σ H s):Mod X.K X.mg X.base:=I.ok.mod
theorem cT.kIn (I:cT X pins σ H s):X.K.In s.heap:=I.ok.mod.kin.keeps I.bk
theorem cT.nolimit (I:cT X pins σ H s):s.heap.NoLimit:=I.ok.mod.nolimit.keeps I.bk
theorem cT.lt (I:cT X pins σ H s):X.env.locals<s.heap.objs.size:=let ⟨_,hn,_⟩:=I.loc;hn.lt
theorem cT.sz (I:cT X pins σ H s):X.s₀.heap.objs.size<=s.heap.objs.size:=bo I.ok.above (JQ I.lt)
theorem cT.nofs (I:cT X pins σ H s){a:Addr}(h:s.heap.objs.size<=a):a∉X.fs:=fun hb=>by
 obtain⟨_,o,ho,_⟩:=I.ok.funs.mem hb;exact absurd (aF (aB ho) (bo I.sz h)) (bt _)
theorem cT.cne (I:cT X pins σ H s):∀x c,X.env.cells.lookup x=some c->c≠X.env.locals:=fun x c e z=>by
 obtain⟨v,o,ho,hd⟩:=I.cell x c e;obtain⟨m,⟨o',es,ep,ho',hd',_⟩,_⟩:=I.loc;rw[z,ho'] at ho;cases ho;rw[hd'] at hd;cases hd
theorem cT.funs (I:cT X pins σ H s):s.heap.FunFrames X.base X.outer:=by
 have all:∀(l:List Env),(∀b∈AY l,b∈X.fs)->X.s₀.heap.FunFrames X.base l->s.heap.FunFrames X.base l:=by
  intro l;induction l with
  |nil=>intro _ _;trivial
  |cons env r ih =>
   intro hs hl;obtain⟨hk,⟨L,o,hf,hn,ho,hd⟩,hr⟩:=hl;have hL:L∈X.fs:=hs L (by unfold AY;rw[List.filterMap_cons,hf];exact aQ);obtain⟨sl,e⟩:=I.base.slot L o ho (I.ok.frf L hL) hL fun z=>I.ok.exfs L z hL;exact⟨hk,⟨L,_,hf,hn,e,hd⟩,ih (fun b hb=>hs b (by unfold AY;rw[List.filterMap_cons,hf];exact aG _ hb)) hr⟩
 exact all X.outer (fun _ hb=>hb) I.ok.funs
theorem cT.stack (I:cT X pins σ H s):s.heap.FunFrames X.base X.stack:=by
 rcases I.ok.stk with e|⟨e,hf⟩
 ·rw[e];exact I.funs
 ·rw[e];obtain⟨m,hn,_⟩:=I.loc;refine .cons (by rw[I.ok.kind];decide) hf hn ?_ I.funs;exact Heap.get?_none_of_le (bo I.ok.bsz I.ok.above)
theorem cT.stkSub (I:cT X pins σ H s):∀b∈AY X.stack,b∈X.env.locals::X.fs:=fun b hb=>by
 rcases I.ok.stk with e|⟨e,hf⟩
 ·rw[e] at hb;exact aG _ hb
 ·rw[e] at hb;unfold AY at hb;rw[List.filterMap_cons,hf] at hb;exact hb
theorem cT.stkFree (I:cT X pins σ H s):∀b∈AY X.stack,H b=none:=fun b hb=>by
 rcases List.mem_cons.mp (I.stkSub b hb) with e|hb
 ·rw[e];exact I.free
 ·obtain⟨_,o,ho,_⟩:=I.ok.funs.mem hb;exact I.base.free b o ho (I.ok.frf b hb) fun z=>I.ok.exfs b z hb
theorem cT.step {g':Array GenState}{t':Nat}{d':Drawn}{ch:List Addr}(I:cT X pins σ H s)
  (hch:∀b∈ch,(b∈X.ex\/X.s₀.heap.objs.size<=b)/\b≠X.env.locals/\(∀x c,X.env.cells.lookup x=some c->c≠b)/\∀p∈X.pn++pins,p.1≠b)
  (keep:∀b o,b≠X.env.locals->b∉X.fs->b∉ch->s.heap.get? b=some o->H b=none->h'.get? b=some o)
  (slot:∀b o,b≠X.env.locals->b∈X.fs->b∉ch->s.heap.get? b=some o->H b=none->∃sl,h'.get? b=some { o with slots:=sl }) (free:∀b o,b∉ch->s.heap.get? b=some o->H b=none->H' b=none)
  (there:∀b o,b∉ch->s.heap.get? b=some o->∃o',h'.get? b=some o')
  (tups:∀b xs,H b=some (.tup xs)->H' b=some (.tup xs)) (frzs:∀b o u,H b=some (.frz o u)->H' b=some (.frz o u)) (tbls:∀b ps,H b=some (.tbl ps)->∃more,H' b=some (.tbl (ps++more)))
  (ns:∀m,s.heap.Ns X.env.locals m->h'.Ns X.env.locals m) (hok:sS X.prog X.w H' h') (hg:AllBare g') :
  cT X pins σ H' { s with heap:=h',gens:=g',drawn:=d',toks:=t' }:=by
 have neL:∀b o,X.s₀.heap.get? b=some o->b≠X.env.locals:=fun b o e=>aO (aF (aB e) I.ok.above);have neC:∀b o,X.s₀.heap.get? b=some o->b∉X.ex->b∉ch:=fun b o e hx hb=>by
  rcases (hch b hb).1 with z|z
  ·exact hx z
  ·exact absurd (aF (aB e) z) (bt _)
 have cellK:∀x c,X.env.cells.lookup x=some c->∀v,s.heap.IsCell c v->h'.IsCell c v:=fun x c e v zz=>by
  obtain ⟨o,ho,hd⟩:=zz;have nch:c∉ch:=fun z=>(hch c z).2.2.1 x c e rfl;by_cases hc:c∈X.fs
  ·obtain⟨sl,q⟩:=slot c o (I.cne x c e) hc nch ho (I.freeC x c e);exact⟨_,q,hd⟩
  ·exact⟨o,keep c o (I.cne x c e) hc nch ho (I.freeC x c e),hd⟩
 refine⟨I.ok,I.os,hg,⟨fun b o e n hb hx=>?_,fun b o e n hb hx=>?_,fun b o e n hx=>?_,fun b o e hx=>?_,fun b xs e=>tups b xs (I.base.tups b xs e),fun b o xs e=>frzs b o xs (I.base.frzs b o xs e),fun b ps e=>?_⟩,?_,fun x c e=>?_,?_,fun x c e=>?_,fun p hp=>?_,hok,I.len⟩
 ·exact keep b o (neL b o e) hb (neC b o e hx) (I.base.keep b o e n hb hx) (I.base.free b o e n hx)
 ·obtain⟨sl,e1⟩:=I.base.slot b o e n hb hx;obtain⟨sl',e2⟩:=slot b _ (neL b o e) hb (neC b o e hx) e1 (I.base.free b o e n hx);exact⟨sl',e2⟩
 ·obtain⟨o',e1⟩:=I.base.there b o e hx;exact free b o' (neC b o e hx) e1 (I.base.free b o e n hx)
 ·obtain⟨o',e1⟩:=I.base.there b o e hx;exact there b o' (neC b o e hx) e1
 ·obtain⟨m1,e1⟩:=I.base.tbls b ps e;obtain⟨m2,e2⟩:=tbls b _ e1;exact⟨m1++m2,by rw[e2,Array.append_assoc]⟩
 ·obtain⟨m,hn,hl⟩:=I.loc;refine⟨m,ns m hn,fun i x v e1 e2 e3=>?_⟩;obtain⟨u,r,l⟩:=hl i x v e1 e2 e3;refine⟨u,r,?_⟩;rcases l with l|⟨k,c,e,z⟩
  ·exact .inl l
  ·exact .inr ⟨k,c,e,cellK x c e _ z⟩
 ·obtain⟨v,z⟩:=I.cell x c e;exact⟨v,cellK x c e v z⟩
 ·obtain⟨m,⟨o,_,_,ho,_⟩,_⟩:=I.loc;exact free _ o (fun z=>(hch _ z).2.1 rfl) ho I.free
 ·obtain⟨v,o,ho,hd⟩:=I.cell x c e;exact free c o (fun z=>(hch c z).2.2.1 x c e rfl) ho (I.freeC x c e)
 ·obtain⟨e,n,ne,nf,d⟩:=I.pin p hp;have nch:p.1∉ch:=fun z=>(hch p.1 z).2.2.2 p hp rfl;exact⟨keep p.1 p.2 ne nf nch e n,free p.1 p.2 nch e n,ne,nf,d⟩
theorem cT.un {t':Nat}(I:cT X pins σ H s)(u:Un X.fs [] H H' s.heap h')(hok:sS X.prog X.w H' h'):cT X pins σ H' { s with heap:=h',toks:=t' }:=by
 obtain⟨m,⟨o,es,ep,ho,r⟩,_⟩:=id I.loc;obtain⟨sl,hL⟩:=u.any ho I.free (by simp);exact I.step (g':=s.gens) (d':=s.drawn) (ch:=[]) (fun _ z=>nomatch z) (fun b o _ hb _ e n=>u.keep b o e n hb (by simp)) (fun b o _ hb _ e n=>u.slot b o e n hb (by simp)) (fun b o _ e n=>u.free b o e n (by simp)) (fun b o _ e=>u.there b o e (by simp)) u.tups u.frzs u.tbls (fun m' hm=>by
  obtain⟨o',es',ep',ho',r'⟩:=hm;rw[ho] at ho';cases ho';exact⟨_,es',ep',hL,r'⟩) hok I.bare
theorem cT.call {g':Array GenState}{t':Nat}{d':Drawn}{ch:List Addr}(I:cT X pins σ H s)(u:Un (AY X.stack) ch H H' s.heap h')(hok:sS X.prog X.w H' h')(hg:AllBare g')
  (hch:∀b∈ch,(b∈X.ex\/X.s₀.heap.objs.size<=b)/\b≠X.env.locals/\(∀x c,X.env.cells.lookup x=some c->c≠b)/\∀p∈X.pn++pins,p.1≠b) :
  cT X pins σ H' { s with heap:=h',gens:=g',drawn:=d',toks:=t' }:=by
 obtain⟨m,⟨o,es,ep,ho,r⟩,_⟩:=id I.loc;obtain⟨sl,hL⟩:=u.any ho I.free fun z=>(hch _ z).2.1 rfl;exact I.step (ch:=ch) hch (fun b o hL hb hc e n=>u.keep b o e n (fun z=>(List.mem_cons.mp (I.stkSub b z)).elim hL hb) hc) (fun b o _ _ hc e n=>u.any e n hc) (fun b o hc e n=>u.free b o e n hc) (fun b o hc e=>u.there b o e hc) u.tups u.frzs u.tbls (fun m' hm=>by
  obtain⟨o',es',ep',ho',r'⟩:=hm;rw[ho] at ho';cases ho';exact⟨_,es',ep',hL,r'⟩) hok hg
theorem cT.turned {t':Nat}{it:Addr}(I:cT X pins σ H s)(k:∀b o,b≠it->s.heap.get? b=some o->h'.get? b=some o)(hn:H it=none)(hL:it≠X.env.locals)
  (h1:it∈X.ex\/X.s₀.heap.objs.size<=it) (h2:∀x c,X.env.cells.lookup x=some c->c≠it) (h3:∀p∈X.pn++pins,p.1≠it):cT X pins σ H { s with heap:=h',toks:=t' }:=by
 have nit:∀b u,H b=some u->b≠it:=fun b u e z=>by rw[z,hn] at e;cases e
 refine I.step (g':=s.gens) (d':=s.drawn) (ch:=[it]) (fun b hb=>?_) (fun b o _ _ hc e _=>k b o (fun z=>hc (by simp[z])) e) (fun b o _ _ hc e _=>⟨o.slots,k b o (fun z=>hc (by simp[z])) e⟩) (fun _ _ _ _ n=>n)
  (fun b o hc e=>⟨o,k b o (fun z=>hc (by simp[z])) e⟩) (fun _ _ e=>e) (fun _ _ _ e=>e) (fun b ps e=>⟨#[],by rw[e];simp⟩) (fun m hm=>?_) (fun b u e=>?_) I.bare
 ·have e:b=it:=by simpa using hb
  subst e;exact⟨h1,hL,h2,h3⟩
 ·obtain⟨o,es,ep,ho,r⟩:=hm;exact⟨o,es,ep,k _ o (Ne.symm hL) ho,r⟩
 ·refine (I.hok b u e).stay (fun c v hc q=>k c v ?_ q) (fun _ q=>q) fun _ _ q=>q;rcases hc with z|z
  ·rw[z];exact nit b u e
  ·exact nit c _ z
theorem cT.tok (I:cT X pins σ H s)(t:Nat):cT X pins σ H { s with toks:=t }:=I.un (h':=s.heap) (t':=t) Un.refl I.hok
theorem cT.kept {t':Nat}(I:cT X pins σ H s)(k:∀b u,s.heap.get? b=some u->h'.get? b=some u):cT X pins σ H { s with heap:=h',toks:=t' }:=I.un (Un.kept k) (I.hok.kept k)
theorem cT.laid {a:Addr}{o:HO}{t':Nat}(I:cT X pins σ H s)(k:∀b u,s.heap.get? b=some u->h'.get? b=some u)(hp:s.heap.objs.size<=a)(new:ObjOk X.prog X.w (eA H a o) h' a o) :
  cT X pins σ (eA H a o) { s with heap:=h',toks:=t' }:=I.un (Un.laid k hp (I.hok.fresh hp)) (I.hok.laid k hp new)
theorem cT.write {x e:Addr}{o:HO}{t':Nat}(I:cT X pins σ H s)(mu:Ip (H x))(he:e=x\/H e=some (.own x))(k:∀b u,b≠e->s.heap.get? b=some u->h'.get? b=some u)(heo:∃u,h'.get? e=some u)
  (new:ObjOk X.prog X.w (eA H x o) h' x o):cT X pins σ (eA H x o) { s with heap:=h',toks:=t' }:=I.un (Un.write mu he k heo) (I.hok.write mu he k heo new)
theorem cT.pins_of {pins':List (Addr×Obj)}(I:cT X pins σ H s)(h:∀p∈pins',s.heap.get? p.1=some p.2/\H p.1=none/\p.1≠X.env.locals/\p.1∉X.fs/\∀v,p.2.data≠.cell v):cT X pins' σ H s :=
 ⟨I.ok,I.os,I.bare,I.base,I.loc,I.cell,I.free,I.freeC,fun p hp=>(List.mem_append.mp hp).elim (fun z=>I.pin p (aS _ z)) (h p),I.hok,I.len⟩
theorem w6 {N:List Str}(hN:N.Nodup){i j:Nat}{x:Str}(a:N[i]?=some x)(b:N[j]?=some x):i=j:=by
 obtain⟨h1,e1⟩:=List.getElem?_eq_some_iff.mp a;obtain⟨h2,e2⟩:=List.getElem?_eq_some_iff.mp b;exact (JJ hN).mp (e1.trans e2.symm)
theorem tS {M:Model}{A:Around}{E:Value->Shared->Prop}{i:Nat}{x:Str}{v:V}{u:Value}{Q:Unit->Shared->Prop}(I:cT X pins σ H s)(hN:X.N.Nodup)(hi:X.N[i]?=some x)(hx:Loc X.env.scope x)(r:dX v u)
  (h:∀s',cT X pins (σ.set i (some v)) H s'->(∃a,Heap.SameBut a s.heap s'.heap/\(a=X.env.locals\/X.env.cells.lookup x=some a))->Q () s') (hf:X.fn x=true\/X.env.scope.names.lookup x=some .local:=by first|exact .inl rfl|exact .inr rfl|assumption):wpAny M A (storeName X.env x u) Q E s:=by
 obtain⟨m,hn,hl⟩:=id I.loc;have hcls:(X.env.scope.kind==.class||(X.env.scope.kind==.module&&X.env.locals != X.env.globals))=false:=by rw[I.ok.kind];rfl
 have hiσ:i<σ.length:=by rw[I.len];exact (List.getElem?_eq_some_iff.mp hi).1
 have cne:=I.cne;have tracked:∀{a:Addr}{h':Heap},(∃o,s.heap.get? a=some o/\H a=none)->Heap.SameBut a s.heap h'->sS X.prog X.w H h':=fun {a h'} ha hs b ob e=>by
  obtain⟨_,_,hfree⟩:=ha;refine (I.hok b ob e).stay (fun c w' hc q=>(hs.2 c ?_).trans q) (fun _ q=>q) fun _ _ q=>q;rintro rfl;rcases hc with rfl|hc
  ·rw[hfree] at e;cases e
  ·rw[hfree] at hc;cases hc
 rcases hx with hk|hk
 ·refine wpAny_storeName_local hk hn (fun h' hn' hs=>?_) hcls;obtain⟨oL,_,_,hoL,_⟩:=id hn;refine h _ ⟨I.ok,I.os,I.bare,⟨fun b o e n hb hx=>?_,fun b o e n hb hx=>?_,I.base.free,fun b o e hx=>?_,I.base.tups,I.base.frzs,I.base.tbls⟩,⟨_,hn',fun j y v' e1 e2 e3=>?_⟩,fun y c e=>?_,I.free,I.freeC,fun p hp=>?_,tracked ⟨oL,hoL,I.free⟩ hs,by simpa using I.len⟩ ⟨_,hs,.inl rfl⟩
  ·exact (hs.2 b (aO (aF (aB e) I.ok.above))).trans (I.base.keep b o e n hb hx)
  ·obtain⟨sl,e1⟩:=I.base.slot b o e n hb hx;exact⟨sl,(hs.2 b (aO (aF (aB e) I.ok.above))).trans e1⟩
  ·obtain⟨o',e1⟩:=I.base.there b o e hx;exact⟨o',(hs.2 b (aO (aF (aB e) I.ok.above))).trans e1⟩
  ·by_cases hj:j=i
   ·subst hj;rw[hi] at e1;cases e1;rw[ay hiσ] at e2;cases e2;exact⟨u,r,.inl ⟨hk,by simp⟩⟩
   ·rw[ai (Ne.symm hj)] at e2;obtain⟨u',r',q⟩:=hl j y v' e1 e2 e3;refine⟨u',r',?_⟩;rcases q with ⟨k,e⟩|⟨k,c,e,z⟩
    ·refine .inl ⟨k,?_⟩;have:y≠x:=fun e=>hj (w6 hN e1 (e▸hi));simp[this,e]
    ·exact .inr ⟨k,c,e,z.sameBut hs (cne y c e)⟩
  ·obtain⟨w',z⟩:=I.cell y c e;exact⟨w',z.sameBut hs (cne y c e)⟩
  ·obtain⟨e,n,ne,nf,d⟩:=I.pin p hp;exact⟨(hs.2 p.1 ne).trans e,n,ne,nf,d⟩
 ·have hfn:X.fn x=true:=by
   rcases hf with z|z
   ·exact z
   ·rw[z] at hk;cases hk
  obtain⟨c,hc⟩:=I.ok.has x (.inl hk);obtain⟨w',z⟩:=I.cell x c hc;refine wpAny_storeName_cell I.ok.kind hk hc z (fun h' hc' hs=>?_);obtain⟨oc,hoc,hocd⟩:=id z;refine h { s with heap:=h' } ⟨I.ok,I.os,I.bare,⟨fun b o e n hb hx=>?_,fun b o e n hb hx=>?_,I.base.free,fun b o e hx=>?_,I.base.tups,I.base.frzs,I.base.tbls⟩,⟨m,hn.sameBut hs (Ne.symm (cne x c hc)),fun j y v' e1 e2 e3=>?_⟩,fun y c' e=>?_,I.free,I.freeC,fun p hp=>?_,tracked ⟨oc,hoc,I.freeC x c hc⟩ hs,by simpa using I.len⟩ ⟨c,hs,.inr hc⟩
  ·exact (hs.2 b (aO (aF (aB e) (I.ok.cab x c hfn hc)))).trans (I.base.keep b o e n hb hx)
  ·obtain⟨sl,e1⟩:=I.base.slot b o e n hb hx;exact⟨sl,(hs.2 b (aO (aF (aB e) (I.ok.cab x c hfn hc)))).trans e1⟩
  ·obtain⟨o',e1⟩:=I.base.there b o e hx;exact⟨o',(hs.2 b (aO (aF (aB e) (I.ok.cab x c hfn hc)))).trans e1⟩
  ·by_cases hj:j=i
   ·subst hj;rw[hi] at e1;cases e1;rw[ay hiσ] at e2;cases e2;exact⟨u,r,.inr ⟨.inl hk,c,hc,hc'⟩⟩
   ·rw[ai (Ne.symm hj)] at e2;obtain⟨u',r',q⟩:=hl j y v' e1 e2 e3;refine⟨u',r',?_⟩;rcases q with q|⟨k,c',e,z'⟩
    ·exact .inl q
    ·refine .inr ⟨k,c',e,z'.sameBut hs ?_⟩;rintro rfl;exact hj (w6 hN e1 (I.ok.inj _ _ _ e hc▸hi))
  ·by_cases hcc:c'=c
   ·subst hcc;exact⟨_,hc'⟩
   ·obtain⟨w2,z2⟩:=I.cell y c' e;exact⟨w2,z2.sameBut hs hcc⟩
  ·obtain⟨e,n,ne,nf,d⟩:=I.pin p hp;refine⟨(hs.2 p.1 ?_).trans e,n,ne,nf,d⟩;intro q;rw[q,hoc] at e;have q':oc=p.2:=Option.some.inj e;exact d w' (by rw[<-q'];exact hocd)
theorem wk {M:Model}{A:Around}{E:Value->Shared->Prop}{i:Nat}{x:Str}{v:V}{u:Value}{Q:Unit->Shared->Prop}(I:cT X pins σ H s)(hN:X.N.Nodup)(hi:X.N[i]?=some x)(hx:Loc X.env.scope x)(r:dX v u)
  (h:∀s',cT X pins (σ.set i (some v)) H s'->Q () s') (hf:X.fn x=true\/X.env.scope.names.lookup x=some .local:=by first|exact .inl rfl|exact .inr rfl|assumption):wpAny M A (storeName X.env x u) Q E s :=
 tS I hN hi hx r (fun s' I' _=>h s' I') hf
theorem cT.call' {s':Shared}{ch:List Addr}(I:cT X pins σ H s)(ho:s'.os=s.os)(u:Un (AY X.stack) ch H H' s.heap s'.heap)(hok:sS X.prog X.w H' s'.heap)(hg:AllBare s'.gens)
  (hch:∀b∈ch,(b∈X.ex\/X.s₀.heap.objs.size<=b)/\b≠X.env.locals/\(∀x c,X.env.cells.lookup x=some c->c≠b)/\∀p∈X.pn++pins,p.1≠b):cT X pins σ H' s':=by
 obtain⟨h',g',d',t',o'⟩:=s';have e:o'=s.os:=ho;subst e;exact I.call (g':=g') (t':=t') (d':=d') u hok hg hch
end
noncomputable abbrev XK:=Value->Option Addr->Hp->Prop
noncomputable abbrev St:=List (Option V)
noncomputable abbrev VK:=V->Hp->Prop
noncomputable abbrev TE:=St->Hp->VK->Prop
noncomputable abbrev TT:=St->Hp->(Bool->Hp->Prop)->Prop
noncomputable abbrev TA:=St->Hp->(List V->Hp->Prop)->Prop
structure jU where
 nx:St->Hp->Prop
 rt:VK
 bk:St->Hp->Prop:=fun _ _=>False
 ct:St->Hp->Prop:=fun _ _=>False
noncomputable abbrev TS:=jU->St->Hp->Prop
def EP (X:Cx)(pins:List (Addr×Obj))(σ:St)(Q:VK)(u:Value)(s':Shared):Prop:=∃v H',cT X pins σ H' s'/\dX v u/\Q v H'
def TP (X:Cx)(pins:List (Addr×Obj))(σ:St)(Q:Bool->Hp->Prop)(b:Bool)(s':Shared):Prop:=∃H',cT X pins σ H' s'/\Q b H'
def AP (X:Cx)(pins:List (Addr×Obj))(σ:St)(Q:List V->Hp->Prop)(us:List Value)(s':Shared):Prop:=∃vs H',cT X pins σ H' s'/\cY vs us/\Q vs H'
noncomputable def SP (X:Cx)(pins:List (Addr×Obj))(D:jU)(f:Flow)(s':Shared):Prop :=
 match f with
 |.next=>∃σ' H',cT X pins σ' H' s'/\D.nx σ' H'
 |.brk=>∃σ' H',cT X pins σ' H' s'/\D.bk σ' H'
 |.cont=>∃σ' H',cT X pins σ' H' s'/\D.ct σ' H'
 |.ret u=>∃v σ' H',cT X pins σ' H' s'/\dX v u/\D.rt v H'
noncomputable def PE (X:Cx)(e:Expr)(t:TE):Prop :=
 ∀(pins:List (Addr×Obj)) (s:Shared) (σ:St) (H:Hp) (Q:VK),cT X pins σ H s->t σ H Q->wpAny (model X.prog X.w) X.A (eval e X.env) (EP X pins σ Q) X.xe s
noncomputable def PT (X:Cx)(e:Expr)(t:TT):Prop :=
 ∀(pins:List (Addr×Obj)) (s:Shared) (σ:St) (H:Hp) (Q:Bool->Hp->Prop),cT X pins σ H s->t σ H Q->wpAny (model X.prog X.w) X.A (isTrue e X.env (eval e X.env)) (TP X pins σ Q) X.xe s
noncomputable def PW (X:Cx)(e:Expr)(t:TT):Prop :=
 ∀(whole:Sem Value) (pins:List (Addr×Obj)) (s:Shared) (σ:St) (H:Hp) (Q:Bool->Hp->Prop),cT X pins σ H s->t σ H Q->wpAny (model X.prog X.w) X.A (isTrue e X.env whole) (TP X pins σ Q) X.xe s
noncomputable def PA (X:Cx)(es:List Expr)(t:TA):Prop :=
 ∀(pos:Pos) (pins:List (Addr×Obj)) (s:Shared) (σ:St) (H:Hp) (Q:List V->Hp->Prop),cT X pins σ H s->t σ H Q->wpAny (model X.prog X.w) X.A (spliced (backTo pos (starEach es X.env))) (AP X pins σ Q) X.xe s
noncomputable def PS (X:Cx)(st:Stmt)(t:TS):Prop :=
 ∀(pins:List (Addr×Obj)) (s:Shared) (σ:St) (H:Hp) (D:jU),cT X pins σ H s->t D σ H->wpAny (model X.prog X.w) X.A (exec st X.env) (SP X pins D) X.xe s
noncomputable def PSs (X:Cx)(st:List Stmt)(t:TS):Prop :=
 ∀(pins:List (Addr×Obj)) (s:Shared) (σ:St) (H:Hp) (D:jU),cT X pins σ H s->t D σ H->wpAny (model X.prog X.w) X.A (execs st X.env) (SP X pins D) X.xe s
theorem thn {α:Type}{t:Sem α}{Q Q':α->Shared->Prop}{M:Model}{A:Around}{E:Value->Shared->Prop}{s:Shared}(h:wpAny M A t Q E s)(hQ:∀a s,Q a s->Q' a s):wpAny M A t Q' E s:=wpAny_mono h hQ fun _ _ x=>x
section
variable {X:Cx}
noncomputable def Iu (i:Nat):TE:=fun σ H Q=>∃v,σ[i]?=some (some v)/\Q v H
noncomputable def tC (v:V):TE:=fun _ H Q=>Q v H
theorem pe_var {i:Nat}{x:Str}{pos:Pos}(hN:X.N[i]?=some x)(hv:Vis X.env.scope x)(hd:(x==("__debug__" : Str))=false:=by decide)(hcd:(x==("__classdict__" : Str))=false:=by decide):PE X (.Name x pos) (Iu i):=by
 intro pins s σ H Q I h;obtain⟨v,e,h⟩:=h;obtain⟨m,hn,hl⟩:=I.loc;obtain⟨u,r,l⟩:=hl i x v hN e hv;have fin:EP X pins σ Q u s:=⟨v,H,I,r,h⟩;rcases l with ⟨hk,hm⟩|⟨hk,c,hc,hcell⟩
 ·exact wpAny_Name (wpAny_loadName_local I.ok.kind hk hn hm fin) hd
 ·rcases hk with hk|hk
  ·exact wpAny_Name (wpAny_loadName_cell I.ok.kind hk hc hcell fin) hd
  ·exact wpAny_Name (wpAny_loadName_free I.ok.kind hk hc hcell fin hcd) hd
theorem pe_int {i j pos}:PE X (.Constant (.int i) j pos) (tC (.int i)):=fun _ _ _ H _ I h=>wpAny_Constant_int ⟨.int i,H,I.tok _,⟨_,rfl⟩,h⟩
theorem pe_bl {b j pos}:PE X (.Constant (.bool b) j pos) (tC (.bl b)):=fun _ _ _ H _ I h=>Constant_bool ⟨.bl b,H,I,rfl,h⟩
theorem pe_non {j pos}:PE X (.Constant .none j pos) (tC .non):=fun _ _ _ H _ I h=>Constant_none ⟨.non,H,I,rfl,h⟩
def Gl (X:Cx)(x:Str):Prop:=X.env.kindOf x=some .globalImplicit
theorem El {E:Value->Shared->Prop}{pins:List (Addr×Obj)}{s:Shared}{σ:St}{H:Hp}{x:Str}{u:Value}{pos:Pos}{Q:Value->Shared->Prop}(I:cT X pins σ H s)(hg:Gl X x)(hm:X.mg x=some u)(h:Q u s)
  (hd:(x==("__debug__" : Str))=false:=by decide):wpAny (model X.prog X.w) X.A (eval (.Name x pos) X.env) Q E s :=
 Calls.Name_function_global I.ok.kind hg (Calls.loadGlobal_global (by rw[I.ok.glob];exact I.mod.glob.keeps I.bk) hm h) hd
theorem ld_blt {E:Value->Shared->Prop}{pins:List (Addr×Obj)}{s:Shared}{σ:St}{H:Hp}{x:Str}{u:Value}{pos:Pos}{Q:Value->Shared->Prop}(I:cT X pins σ H s)(hg:Gl X x)(hm:X.mg x=none)(hv:bootBuiltins x=some u)(h:Q u s)
  (hn:x ≠ "__name__" := by decide) (hd:(x==("__debug__" : Str))=false:=by decide):wpAny (model X.prog X.w) X.A (eval (.Name x pos) X.env) Q E s:=by
 obtain⟨mb,h1,h2⟩:=I.mod.blt;exact Calls.Name_function_global I.ok.kind hg (Calls.loadGlobal_builtin (by rw[I.ok.glob];exact I.mod.glob.keeps I.bk) hm (by rw[I.ok.blt];exact h1.keeps I.bk) ((h2 x hn).trans hv) h) hd
theorem pe_bltn {x:Str}{v:V}{u:Value}{pos:Pos}(hg:Gl X x)(hm:X.mg x=none)(hv:bootBuiltins x=some u)(r:dX v u)(hn:x ≠ "__name__" := by decide)(hd:(x==("__debug__" : Str))=false:=by decide):PE X (.Name x pos) (tC v) :=
 fun _ _ _ H _ I h=>ld_blt I hg hm hv ⟨v,H,I,r,h⟩ hn hd
variable {a b:Expr}{ta tb:TE}{pos:Pos}
noncomputable def tB (t:TE):TT:=fun σ H Q=>t σ H fun x H1=>∃c,x=.bl c/\Q c H1
theorem pt_val {e:Expr}{t:TE}(h:PE X e t)(he:∀whole,isTrue e X.env whole=(do let v <-whole;standAt e.pos;holding [v] (truthy v)):=by intro _;rfl):PT X e (tB t):=by
 intro pins s σ H Q I hw;refine isTrue_plain (thn (h pins s σ H _ I hw) fun v s1 ⟨x,H1,I1,r1,q1⟩=>?_) (he _);obtain⟨d,rfl,q⟩:=q1;cases r1;exact wpAny_truthy_bool ⟨H1,I1,q⟩
variable {tA tB':TT}{fV:List Expr}
noncomputable def qD (t u:TT):TT:=fun σ H Q=>t σ H fun c H1=>if c=true then u σ H1 Q else Q false H1
noncomputable def sY (t u:TT):TT:=fun σ H Q=>t σ H fun c H1=>if c=true then Q true H1 else u σ H1 Q
noncomputable def gv (t:TT):TT:=fun σ H Q=>t σ H fun c H1=>Q (!c) H1
theorem pw_and1 (ha:PT X a tA):PW X (.BoolOp .And [a] pos) tA:=by
 intro wh pins s σ H Q I h;refine isTrue_and (thn (ha pins s σ H Q I h) fun c s1 e=>?_);cases c with
 |true=>exact isTrue_and_nil e
 |false=>exact e
theorem pw_or1 (ha:PT X a tA):PW X (.BoolOp .Or [a] pos) tA:=by
 intro wh pins s σ H Q I h;refine isTrue_or (thn (ha pins s σ H Q I h) fun c s1 e=>?_);cases c with
 |false=>exact isTrue_or_nil e
 |true=>exact e
theorem pw_and (ha:PT X a tA)(hb:PW X (.BoolOp .And (b::fV) pos) tB'):PW X (.BoolOp .And (a::b::fV) pos) (qD tA tB'):=by
 intro wh pins s σ H Q I h;refine isTrue_and (thn (ha pins s σ H _ I h) fun c s1 zz=>?_);obtain ⟨H1,I1,q1⟩:=zz;cases c with
 |true=>exact hb wh pins s1 σ H1 Q I1 q1
 |false=>exact⟨H1,I1,q1⟩
theorem pw_or (ha:PT X a tA)(hb:PW X (.BoolOp .Or (b::fV) pos) tB'):PW X (.BoolOp .Or (a::b::fV) pos) (sY tA tB'):=by
 intro wh pins s σ H Q I h;refine isTrue_or (thn (ha pins s σ H _ I h) fun c s1 zz=>?_);obtain ⟨H1,I1,q1⟩:=zz;cases c with
 |true=>exact⟨H1,I1,q1⟩
 |false=>exact hb wh pins s1 σ H1 Q I1 q1
theorem pt_not (ha:PT X a tA):PT X (.UnaryOp .Not a pos) (gv tA):=by
 intro pins s σ H Q I h;exact isTrue_not (ha pins s σ H (fun c H1=>Q (!c) H1) I h)
noncomputable def Hj (ta tb:TE):TE:=fun σ H Q=>ta σ H fun x H1=>∃c,x=.bl c/\if c=true then tb σ H1 Q else Q (.bl false) H1
noncomputable def Hf (ta:TE):TE:=fun σ H Q=>ta σ H fun x H1=>∃c,x=.bl c/\Q (.bl (!c)) H1
theorem pe_one {op}{t:TE}(h:PE X a t):PE X (.BoolOp op [a] pos) t:=fun pins s σ H Q I hw=>BoolOp_one (h pins s σ H Q I hw)
theorem pe_and (ha:PE X a ta)(hb:PE X (.BoolOp .And (b::fV) pos) tb):PE X (.BoolOp .And (a::b::fV) pos) (Hj ta tb):=by
 intro pins s σ H Q I h;refine BoolOp_and (thn (ha pins s σ H _ I h) fun v s1 zz=>?_);obtain ⟨x,H1,I1,r1,q1⟩:=zz;obtain⟨c,rfl,q1⟩:=q1;cases r1;refine wpAny_truthy_bool ?_;cases c with
 |true=>exact hb pins s1 σ H1 Q I1 q1
 |false=>exact⟨.bl false,H1,I1,rfl,q1⟩
theorem pe_not (ha:PE X a ta):PE X (.UnaryOp .Not a pos) (Hf ta):=by
 intro pins s σ H Q I h;refine UnaryOp_ (thn (ha pins s σ H _ I h) fun v s1 zz=>?_);obtain ⟨x,H1,I1,r1,q1⟩:=zz;obtain⟨c,rfl,q1⟩:=q1;cases r1;exact not_of (wpAny_truthy_bool ⟨.bl (!c),H1,I1,rfl,q1⟩)
end
noncomputable def jT (K:PySem.W.Frag)(H:Hp)(a:Addr)(xs:List V):Prop :=
 Rd H a (.lst xs) ∨
  ∃(o:Obj) (its:Array Value) (n:Nat),K.lookup a=some o/\o.cls=.type "list" ∧ o.dict=none/\o.data=.seq its n/\its.size<=sizeLine/\cY xs its.toList
noncomputable def jw (K:PySem.W.Frag)(H:Hp)(a:Addr)(xs:List V):Prop :=
 Rd H a (.tup xs) ∨
  ∃(o:Obj) (its:Array Value) (n:Nat),K.lookup a=some o/\o.cls=.type "tuple" ∧ o.data=.seq its n/\its.size<=sizeLine/\cY xs its.toList
noncomputable def IU:Value->Option V
 |.none=>some .non
 |.bool b=>some (.bl b)
 |.int i _=>some (.int i)
 |.str x _=>some (.str x)
 |.bytes b _=>some (.byt b)
 |.float b _=>some (.flt b)
 |.ref a=>some (.ref a)
 |.type n=>some (.ty n)
 |_=>none
theorem dX.abs {x:V}{u:Value}(r:dX x u):IU u=some x:=by
 cases x with
 |non=>cases r;rfl
 |bl _=>cases r;rfl
 |int _=>obtain⟨t,rfl⟩:=r;rfl
 |str _=>obtain⟨t,rfl⟩:=r;rfl
 |byt _=>obtain⟨t,rfl⟩:=r;rfl
 |flt _=>obtain⟨t,rfl⟩:=r;rfl
 |ref _=>cases r;rfl
 |ty _=>cases r;rfl
theorem dX.inj {x y:V}{u:Value}(r:dX x u)(q:dX y u):x=y:=Option.some.inj (r.abs.symm.trans q.abs)
theorem cY.inj:∀{xs ys:List V}{us:List Value},cY xs us->cY ys us->xs=ys:=by
 intro xs ys us h;induction h generalizing ys with
 |nil=>intro q; cases q; rfl
 |cons r t ih=>
  intro q;cases q with
  |cons r2 t2=>rw [r.inj r2,ih t2]
section
variable {X:Cx}{pins:List (Addr×Obj)}{σ:St}{H:Hp}{s:Shared}{a:Addr}{xs ys:List V}
theorem cT.list (I:cT X pins σ H s)(h:jT X.K H a xs):∃its:List Value,cY xs its/\PlainL s.heap a its.toArray/\xs.length<=sizeLine:=by
 rcases h with h|⟨o,its,n,hk,hc,hd,hs,hz,r⟩
 ·obtain⟨z,its,n,r,e⟩:=h.ok I.hok;exact⟨its,r,⟨_,n,e,rfl,rfl,rfl⟩,z⟩
 ·refine⟨its.toList,r,⟨o,n,I.kIn a o hk,hc,hd,by simpa using hs⟩,?_⟩;have e:=r.length;simp only[bY] at e;omega
theorem cT.tuple (I:cT X pins σ H s)(h:jw X.K H a xs):∃its:List Value,cY xs its/\IsTup s.heap a its.toArray/\xs.length<=sizeLine:=by
 rcases h with h|⟨o,its,n,hk,hc,hs,hz,r⟩
 ·obtain⟨z,its,r,p⟩:=h.ok I.hok;exact⟨its,r,p,z⟩
 ·refine⟨its.toList,r,⟨o,I.kIn a o hk,hc,n,by simpa using hs⟩,?_⟩;have e:=r.length;simp only[bY] at e;omega
theorem cT.list_inj (I:cT X pins σ H s)(h:jT X.K H a xs)(h':jT X.K H a ys):xs=ys:=by
 obtain⟨its,r,⟨o,n,e,_,_,d⟩,_⟩:=I.list h;obtain⟨its',r',⟨o',n',e',_,_,d'⟩,_⟩:=I.list h';rw[e] at e';cases e';rw[d] at d';injection d' with d1 _
 have:its=its':=by simpa using congrArg Array.toList d1
 subst this;exact r.inj r'
theorem cT.tuple_inj (I:cT X pins σ H s)(h:jw X.K H a xs)(h':jw X.K H a ys):xs=ys:=by
 obtain⟨its,r,⟨o,e,_,n,d⟩,_⟩:=I.tuple h;obtain⟨its',r',⟨o',e',_,n',d'⟩,_⟩:=I.tuple h';rw[e] at e';cases e';rw[d] at d';injection d' with d1 _
 have:its=its':=by simpa using congrArg Array.toList d1
 subst this;exact r.inj r'
end
noncomputable abbrev Cx.wish (X:Cx)(E:Value->Shared->Prop):Cx:={ X with xe:=E }
noncomputable abbrev Cx.nox (X:Cx):Cx:=X.wish fun _ _=>False
theorem Cx.Ok.wish {X:Cx}(ok:X.Ok)(E:Value->Shared->Prop):(X.wish E).Ok :=
 ⟨ok.mod,ok.kind,ok.glob,ok.blt,ok.above,ok.inj,ok.has,ok.cab,ok.hd,ok.frames,ok.stk,ok.exf,ok.bs,ok.bsz,ok.noex,ok.exfs,ok.funs,ok.frf⟩
theorem Cx.Ok.unwish {X:Cx}{E:Value->Shared->Prop}(ok:(X.wish E).Ok):X.Ok :=
 ⟨ok.mod,ok.kind,ok.glob,ok.blt,ok.above,ok.inj,ok.has,ok.cab,ok.hd,ok.frames,ok.stk,ok.exf,ok.bs,ok.bsz,ok.noex,ok.exfs,ok.funs,ok.frf⟩
section
variable {X:Cx}{pins:List (Addr×Obj)}{σ:St}{H:Hp}{s:Shared}{E:Value->Shared->Prop}
theorem cT.wish (I:cT X pins σ H s)(E:Value->Shared->Prop):cT (X.wish E) pins σ H s:=⟨I.ok.wish E,I.os,I.bare,I.base,I.loc,I.cell,I.free,I.freeC,I.pin,I.hok,I.len⟩
theorem cT.unwish (I:cT (X.wish E) pins σ H s):cT X pins σ H s:=⟨I.ok.unwish,I.os,I.bare,I.base,I.loc,I.cell,I.free,I.freeC,I.pin,I.hok,I.len⟩
theorem SP.unwish {D:jU}{f:Flow}{s':Shared}(h:SP (X.wish E) pins D f s'):SP X pins D f s':=by
 cases f with
 |next=>obtain⟨σ',H',I,q⟩:=h;exact⟨σ',H',I.unwish,q⟩
 |brk=>obtain⟨σ',H',I,q⟩:=h;exact⟨σ',H',I.unwish,q⟩
 |cont=>obtain⟨σ',H',I,q⟩:=h;exact⟨σ',H',I.unwish,q⟩
 |ret u=>obtain⟨v,σ',H',I,r,q⟩:=h;exact⟨v,σ',H',I.unwish,r,q⟩
theorem PE.nox {e:Expr}{t:TE}(h:PE X.nox e t):PE X e t:=fun pins s σ H Q I hw =>
 wpAny_mono (h pins s σ H Q (I.wish _) hw) (fun _ _ ⟨v,H',I',r,q⟩=>⟨v,H',I'.unwish,r,q⟩) fun _ _ z=>False.elim z
theorem PT.nox {e:Expr}{t:TT}(h:PT X.nox e t):PT X e t:=fun pins s σ H Q I hw =>
 wpAny_mono (h pins s σ H Q (I.wish _) hw) (fun _ _ ⟨H',I',q⟩=>⟨H',I'.unwish,q⟩) fun _ _ z=>False.elim z
theorem PSs.nox {st:List Stmt}{t:TS}(h:PSs X.nox st t):PSs X st t:=fun pins s σ H D I hw =>
 wpAny_mono (h pins s σ H D (I.wish _) hw) (fun _ _ q=>q.unwish) fun _ _ z=>False.elim z
end
section
variable {X:Cx}{st:Stmt}{fV:List Stmt}{t u:TS}{e:Expr}{te:TE}{pos:Pos}
noncomputable def Hg:TS:=fun D σ H=>D.nx σ H
noncomputable def Iw (t u:TS):TS:=fun D σ H=>t { D with nx:=u D } σ H
theorem pss_nil:PSs X [] Hg:=fun _ _ σ H _ I h=>wpAny_execs_nil ⟨σ,H,I,h⟩
theorem pss_cons (h1:PS X st t)(h2:PSs X fV u):PSs X (st::fV) (Iw t u):=by
 intro pins s σ H D I h;refine wpAny_execs_cons (thn (h1 pins s σ H { D with nx:=u D } I h) fun f s1 q=>?_);cases f with
 |next =>
  obtain⟨σ',H',I',q⟩:=q;exact h2 pins s1 σ' H' D I' q
 |ret v=>exact q
 |brk=>exact q
 |cont=>exact q
theorem pss_one (h1:PS X st t):PSs X [st] t:=by
 intro pins s σ H D I h;refine wpAny_execs_cons (thn (h1 pins s σ H D I h) fun f s1 q=>?_);cases f with
 |next=>exact wpAny_execs_nil q
 |ret v=>exact q
 |brk=>exact q
 |cont=>exact q
theorem cT.quiet {pins:List (Addr×Obj)}{σ:St}{H:Hp}{s:Shared}(I:cT X pins σ H s):interactive X.env=false:=by simp[interactive,I.ok.kind]
noncomputable def Hh (te:TE):TS:=fun D σ H=>te σ H fun _ H1=>D.nx σ H1
theorem ps_expr (he:PE X e te)(hs:swapsWith e none pos.line X.env=pure false:=by rfl):PS X (.Expr e pos) (Hh te):=by
 intro pins s σ H D I h;exact wpAny_Expr_any (thn (he pins s σ H _ I h) fun v s1 ⟨x,H1,I1,r1,q1⟩=>⟨σ,H1,I1,q1⟩) I.quiet hs
noncomputable def Iy (te:TE):TS:=fun D σ H=>te σ H D.rt
theorem ps_ret (he:PE X e te):PS X (.Return (some e) pos) (Iy te):=by
 intro pins s σ H D I h;exact wpAny_Return_some (thn (he pins s σ H _ I h) fun v s1 ⟨x,H1,I1,r1,q1⟩=>⟨x,σ,H1,I1,r1,q1⟩)
noncomputable def IB (c:TT)(t u:TS):TS:=fun D σ H=>c σ H fun b H1=>if b=true then t D σ H1 else u D σ H1
theorem ps_if {c:Expr}{a b:List Stmt}{tc:TT}(hc:PT X c tc)(ha:PSs X a t)(hb:PSs X b u):PS X (.If c a b pos) (IB tc t u):=by
 intro pins s σ H D I h;refine wpAny_If (thn (hc pins s σ H _ I h) fun d s1 zz=>?_);obtain ⟨H1,I1,q1⟩:=zz;cases d with
 |true=>exact ha pins s1 σ H1 D I1 q1
 |false=>exact hb pins s1 σ H1 D I1 q1
end
noncomputable abbrev TG:=V->St->Hp->(St->Hp->Prop)->Prop
noncomputable abbrev TGs:=List V->St->Hp->(St->Hp->Prop)->Prop
noncomputable def PG (X:Cx)(target:Expr)(t:TG):Prop :=
 ∀(pins:List (Addr×Obj)) (s:Shared) (σ:St) (H:Hp) (v:V) (u:Value) (Q:St->Hp->Prop),cT X pins σ H s->dX v u->t v σ H Q →
  wpAny (model X.prog X.w) X.A (assign target X.env u) (fun _ s'=>∃σ' H',cT X pins σ' H' s'/\Q σ' H') X.xe s
noncomputable def PGs (X:Cx)(ts:List Expr)(t:TGs):Prop :=
 ∀(pins:List (Addr×Obj)) (s:Shared) (σ:St) (H:Hp) (vs:List V) (us:List Value) (Q:St->Hp->Prop),cT X pins σ H s->cY vs us->t vs σ H Q →
  wpAny (model X.prog X.w) X.A (assignInOrder ((assignEach ts X.env).map (·.2)) us) (fun _ s'=>∃σ' H',cT X pins σ' H' s'/\Q σ' H') X.xe s
noncomputable abbrev TSet:=V->V->V->Hp->(Hp->Prop)->Prop
noncomputable def PSet (X:Cx)(t:TSet):Prop :=
 ∀(pins:List (Addr×Obj)) (s:Shared) (σ:St) (H:Hp) (o i v:V) (ov iv u:Value) (Q:Hp->Prop),cT X pins σ H s->dX o ov->dX i iv->dX v u->t o i v H Q →
  wpAny (model X.prog X.w) X.A (setItem ov iv u) (fun _ s'=>∃H',cT X pins σ H' s'/\Q H') X.xe s
section
variable {X:Cx}{pos:Pos}
noncomputable def gName (i:Nat):TG:=fun v σ H Q=>Q (σ.set i (some v)) H
theorem pg_name {i:Nat}{x:Str}(hN:X.N.Nodup)(hi:X.N[i]?=some x)(hx:Loc X.env.scope x)(hf:X.fn x=true\/X.env.scope.names.lookup x=some .local:=by first|exact .inl rfl|exact .inr rfl|assumption):PG X (.Name x pos) (gName i):=by
 intro pins s σ H v u Q I r h;exact wpAny_assign_Name (wk I hN hi hx r (fun s' I'=>⟨_,H,I',h⟩) hf)
noncomputable def IS:TGs:=fun vs σ H Q=>vs=[]/\Q σ H
noncomputable def HR (t:TG)(u:TGs):TGs:=fun vs σ H Q=>∃v r,vs=v::r/\t v σ H fun σ' H'=>u r σ' H' Q
theorem pgs_nil:PGs X [] IS:=by
 intro pins s σ H vs us Q I r h;obtain⟨e,h⟩:=h;subst e;cases r;exact assignInOrder_nil ⟨σ,H,I,h⟩
theorem pgs_cons {e:Expr}{es:List Expr}{t:TG}{u:TGs}(h1:PG X e t)(h2:PGs X es u)
  (hs:(assignEach (e::es) X.env).map (·.2)=assign e X.env::(assignEach es X.env).map (·.2):=by rfl):PGs X (e::es) (HR t u):=by
 intro pins s σ H vs us Q I r h;obtain⟨v,vr,e1,h⟩:=h;subst e1;cases r with
 |cons r rr =>
  rw[hs];refine assignInOrder_cons (thn (h1 pins s σ H _ _ _ I r h) fun _ s1 zz=>?_);obtain ⟨σ1,H1,I1,q1⟩:=zz;exact h2 pins s1 σ1 H1 _ _ Q I1 rr q1
noncomputable def IP (K:PySem.W.Frag)(n:Nat)(t:TGs):TG:=fun v σ H Q=>∃a xs,v=.ref a/\jw K H a xs/\xs.length=n/\t xs σ H Q
theorem pg_tup {es:List Expr}{k:Nat}{t:TGs}{n:Nat}(hc:X.calm=true)(h:PGs X es t)
  (hn:(assignEach es X.env).length=n:=by rfl) (hst:(assignEach es X.env).findIdx? (·.1)=none:=by rfl):PG X (.Tuple es k pos) (IP X.K n t):=by
 intro pins s σ H v u Q I r hw;obtain⟨a,xs,e1,hq,hl,hw⟩:=hw;subst e1;cases r;obtain⟨its,rv,ht,hz⟩:=I.tuple hq;refine assign_Tuple_tuple (I.ok.hd hc) ht (by simp[hn,<-hl,rv.length]) hst fun h' hx=>?_;have I1:cT X pins σ H { s with heap:=h' }:=I.kept (t':=s.toks) fun b o e=>hx b o (aO (aB e)) e;exact h pins _ σ H xs _ Q I1 (by simpa using rv) hw
noncomputable def IQ (to ti:TE)(t:TSet):TG:=fun v σ H Q=>to σ H fun o H1=>ti σ H1 fun i H2=>t o i v H2 fun H3=>Q σ H3
theorem pg_sub {o i:Expr}{to ti:TE}{t:TSet}(ho:PE X o to)(hi:PE X i ti)(hs:PSet X t)
  (ha:∀v,assign (.Subscript o i pos) X.env v=(do
   let ov <-holding [v] (eval o X.env)
   let iv <-holding [v,ov] (eval i X.env)
   standAt pos
   holding [v,ov,iv] (setItem ov iv v)
   release [v,ov,iv] []):=by intro _;rfl):PG X (.Subscript o i pos) (IQ to ti t):=by
 intro pins s σ H v u Q I r h;rw[ha];refine ab (bD (thn (ho pins s σ H _ I h) fun ov s1 zz=>?_));obtain ⟨x,H1,I1,r1,q1⟩:=zz;refine ab (bD (thn (hi pins s1 σ H1 _ I1 q1) fun iv s2 zz=>?_));obtain ⟨y,H2,I2,r2,q2⟩:=zz;refine ab (wpAny_standAt (ab (bD (thn (hs pins s2 σ H2 x y v ov iv u _ I2 r1 r2 r q2) fun _ s3 zz=>?_))));obtain ⟨H3,I3,q3⟩:=zz;exact wpAny_release ⟨σ,H3,I3,q3⟩
noncomputable def tAsg (te:TE)(g:TG):TS:=fun D σ H=>te σ H fun x H1=>g x σ H1 D.nx
theorem ps_asg {tg e:Expr}{te:TE}{g:TG}(he:PE X e te)(hg:PG X tg g)(hs:swapsWithSole [tg] e pos.line X.env=pure false:=by rfl)(hw:swappedStores [tg] e X.env=pure none:=by rfl)
  (h1:(assignEach [tg] X.env).map (·.2)=[assign tg X.env]:=by rfl):PS X (.Assign [tg] e pos) (tAsg te g):=by
 intro pins s σ H D I h;refine wpAny_Assign_stores (thn (he pins s σ H _ I h) fun v s1 ⟨x,H1,I1,r1,q1⟩=>?_) hs hw;rw[h1];exact thn (hg pins s1 σ H1 x v _ I1 r1 q1) fun _ s2 q=>q
theorem ps_set {i:Nat}{x:Str}{e:Expr}{te:TE}{pos':Pos}(hN:X.N.Nodup)(hi:X.N[i]?=some x)(hx:Loc X.env.scope x)(he:PE X e te)(hs:swapsWith e (some (.Name x pos')) pos.line X.env=pure false:=by rfl)(hf:X.fn x=true\/X.env.scope.names.lookup x=some .local:=by first|exact .inl rfl|exact .inr rfl|assumption) :
  PS X (.Assign [.Name x pos'] e pos) (tAsg te (gName i)):=by
 intro pins s σ H D I h;refine wpAny_Assign_Name (thn (he pins s σ H _ I h) fun v s1 ⟨y,H1,I1,r1,q1⟩=>?_) hs;exact wk I1 hN hi hx r1 (fun s2 I2=>⟨_,H1,I2,q1⟩) hf
end
section
variable {X:Cx}{pos:Pos}
noncomputable def FN (c:TT)(tb:TS):TS:=fun D σ H=>∃W:Nat->St->Hp->Prop,(∃m,W m σ H)/\∀m σ H,W m σ H →
 c σ H fun b H1=>if b=true then ∃N:St->Hp->Prop,(∀σ' H',N σ' H'->∃m',m'<m/\W m' σ' H')/\tb { D with nx:=N,ct:=N,bk:=D.nx } σ H1 else D.nx σ H1
theorem ps_while {c:Expr}{body:List Stmt}{tc:TT}{tb:TS}(hp:PassesOwn (model X.prog X.w) X.A X.env X.xe)(hc:PT X c tc)(hb:PSs X body tb):PS X (.While c body [] pos) (FN tc tb):=by
 intro pins s σ H D I h;obtain⟨W,⟨m0,w0⟩,turn⟩:=h;refine wpAny_While (codeAny_whileLoop (fun n s'=>∃σ' H',cT X pins σ' H' s'/\W n σ' H') ?_ m0 ⟨σ,H,I,w0⟩);rintro n s1 ⟨σ1,H1,I1,w1⟩;refine wpAny_passesOwn hp (thn (hc pins s1 σ1 H1 _ I1 (turn n σ1 H1 w1)) fun b s2 zz=>?_);obtain ⟨H2,I2,q2⟩:=zz;cases b with
 |true =>
  obtain⟨N,hN,q2⟩:=q2;rw[if_pos rfl];refine wpAny_passesOwn hp (thn (hb pins s2 σ1 H2 _ I2 q2) fun f s3 q3=>?_);cases f with
  |next =>
   obtain⟨σ3,H3,I3,n3⟩:=q3;obtain⟨m',hm,w3⟩:=hN σ3 H3 n3;exact⟨m',hm,σ3,H3,I3,w3⟩
  |cont =>
   obtain⟨σ3,H3,I3,n3⟩:=q3;obtain⟨m',hm,w3⟩:=hN σ3 H3 n3;exact⟨m',hm,σ3,H3,I3,w3⟩
  |brk=>exact q3
  |ret v=>exact q3
 |false =>
  rw[if_neg Bool.false_ne_true];exact wpAny_execs_nil ⟨σ1,H2,I2,q2⟩
end
structure It where
 go:Nat->Hp->Prop
 yld:Nat->Hp->V->Hp->Prop
 stop:Nat->Hp->Prop
noncomputable def sT (X:Cx)(pins:List (Addr×Obj))(H:Hp)(b:Addr):Prop :=
 H b=none/\b≠X.env.locals/\b∉X.fs/\(b∈X.ex\/X.s₀.heap.objs.size<=b)/\(∀x c,X.env.cells.lookup x=some c->c≠b)/\∀p∈X.pn++pins,p.1≠b
theorem cT.fpOk {X:Cx}{pins:List (Addr×Obj)}{σ:St}{H H':Hp}{s:Shared}{b:Addr}(I:cT X pins σ H s)(hb:s.heap.objs.size<=b)(hn:H' b=none):sT X pins H' b:=by
 refine⟨hn,bj (aF I.lt hb),I.nofs hb,.inr (bo I.sz hb),fun x c e z=>?_,fun p hp z=>?_⟩
 ·obtain⟨v,q⟩:=I.cell x c e;exact absurd (aF q.lt (by rw[z];exact hb)) (bt _)
 ·exact absurd (aF (aB (I.pin p hp).1) (by rw[z];exact hb)) (bt _)
structure Turn (P:Program)(w:World)(K:PySem.W.Frag)(tg:Expr)(J:It)(fp:List Addr)(it:Addr)(tn:Nat->Heap->Prop):Prop where
 mem:it∈fp
 obj:∀i h,tn i h->∀b∈fp,∃o,h.get? b=some o/\∀v,o.data≠.cell v
 keep:∀i h h',tn i h->(∀b∈fp,∀o,h.get? b=some o->h'.get? b=some o)->tn i h'
 item:∀(X:Cx),X.prog=P->X.w=w->X.K=K->X.calm=true->∀(i:Nat) (pins:List (Addr×Obj)) (s:Shared) (σ:St) (H:Hp) (E:Value->Shared->Prop),cT X pins σ H s->(∀b∈fp,sT X pins H b)->tn i s.heap->J.go i H →
  wpAny (model P w) X.A (pyNext (.ref it)) (fun r s1=>∃u,r=some u ∧
   wpAny (model P w) X.A (letOwnedTupleGo tg (.ref it) u) (fun _ s2=>∃x H',cT X pins σ H' s2/\dX x u/\J.yld i H x H'/\tn (i+1) s2.heap/\∀b∈fp,H' b=none) E s1) E s
 done:∀(X:Cx),X.prog=P->X.w=w->X.K=K->X.calm=true->∀(i:Nat) (pins:List (Addr×Obj)) (s:Shared) (σ:St) (H:Hp) (E:Value->Shared->Prop),cT X pins σ H s->(∀b∈fp,sT X pins H b)->tn i s.heap->J.stop i H →
  wpAny (model P w) X.A (pyNext (.ref it)) (fun r s1=>r=none/\cT X pins σ H s1) E s
 self:∀(A:Around) (i:Nat) (s:Shared) (Q:Value->Shared->Prop) (E:Value->Shared->Prop),tn i s.heap->Q (.ref it) s->wpAny (model P w) A (pyIter (.ref it)) Q E s
noncomputable abbrev TI:=St->Hp->(It->Hp->Prop)->Prop
noncomputable def Jc (X:Cx)(pins:List (Addr×Obj))(σ:St)(tg:Expr)(R:It->Hp->Prop)(itv:Value)(s2:Shared):Prop :=
 ∃(it:Addr) (fp:List Addr) (tn:Nat->Heap->Prop) (J:It) (H':Hp),itv=.ref it/\cT X pins σ H' s2/\Turn X.prog X.w X.K tg J fp it tn/\tn 0 s2.heap/\(∀b∈fp,sT X pins H' b)/\R J H'
noncomputable def PI (X:Cx)(tg iter:Expr)(wi:TI):Prop :=
 ∀(pins:List (Addr×Obj)) (s:Shared) (σ:St) (H:Hp) (R:It->Hp->Prop),cT X pins σ H s->wi σ H R →
  wpAny (model X.prog X.w) X.A (eval iter X.env) (fun v s1=>wpAny (model X.prog X.w) X.A (pyIter v) (Jc X pins σ tg R) X.xe s1) X.xe s
theorem Cq {M:Model}{A:Around}{E:Value->Shared->Prop}{s:Shared}{tg:Expr}{it:Addr}{u:Value}{o:Obj}{n:String}{vs:Array Value}{Q:Unit->Shared->Prop}(ho:s.heap.get? it=some o)(hc:o.cls=.type n)(hd:o.data=.fields vs)
    (hn:["enumerate", "zip", "dict_itemiterator", "dict_reverseitemiterator", "odict_iterator", "itertools.zip_longest", "itertools.pairwise"].contains n=false) (hQ:Q () s):wpAny M A (letOwnedTupleGo tg (.ref it) u) Q E s:=by
  unfold letOwnedTupleGo;cases tg <;> first
    |exact aq hQ
    | (cases u <;> first
        |exact aq hQ
        | (refine ab (wpAny_load ho ?_)
           rw[hc,hd];show wpAny M A (if (["enumerate", "zip", "dict_itemiterator", "dict_reverseitemiterator", "odict_iterator", "itertools.zip_longest", "itertools.pairwise"].contains n&&vs[0]?==some (rawInt _))=true then _ else _) Q E s;rw[if_neg (by intro h;rw[hn,Bool.false_and] at h;cases h)];exact aq hQ))
noncomputable def Itl (K:PySem.W.Frag)(a:Addr):It :=
 ⟨fun i H=>∃xs x,jT K H a xs/\xs[i]?=some x,fun i H x H'=>H'=H/\∀xs,jT K H a xs->xs[i]?=some x,fun i H=>∃xs,jT K H a xs/\xs.length<=i⟩
noncomputable def Itt (K:PySem.W.Frag)(a:Addr):It :=
 ⟨fun i H=>∃xs x,jw K H a xs/\xs[i]?=some x,fun i H x H'=>H'=H/\∀xs,jw K H a xs->xs[i]?=some x,fun i H=>∃xs,jw K H a xs/\xs.length<=i⟩
noncomputable def Itr (lo:Int)(n:Nat):It:=⟨fun i _=>i<n,fun i H x H'=>H'=H/\x=.int (lo+i),fun i _=>n<=i⟩
theorem turn_list {P:Program}{w:World}{K:PySem.W.Frag}{tg:Expr}(a it:Addr):Turn P w K tg (Itl K a) [it] it (fun i h=>h.IsListIter it a i) where
 mem:=by simp
 obj:=fun i h st b hb=>by
  have e:b=it:=by simpa using hb
  subst e;obtain⟨o,e,c,d⟩:=st;exact⟨o,e,fun v z=>by rw[d] at z;cases z⟩
 keep:=fun i h h' st k=>st.at fun o e=>k it (by simp) o e
 item:=by
  intro X hP hw hK hc i pins s σ H E I hf st hg;subst hP hw hK;obtain⟨xs,x,hq,hx⟩:=hg;obtain⟨its,rv,p,hz⟩:=I.list hq;obtain⟨u,hu,ru⟩:=rv.get hx;obtain⟨f0,f1,f2,f3,f4,f5⟩:=hf it (by simp);refine wpAny_pyNext_list_item st p.isList (x:=u) (by simpa using hu) fun h' st' sb=>?_;have I1:cT X pins σ H { s with heap:=h' }:=I.turned (t':=s.toks) (fun b o hb e=>(sb.2 b hb).trans e) f0 f1 f3 f4 f5;obtain⟨o,e,c,d⟩:=id st';exact⟨u,rfl,Cq (s:={ s with heap:=h' }) e c d (by decide) ⟨x,H,I1,ru,⟨rfl,fun ys hy=>by rw[I.list_inj hy hq];exact hx⟩,st',fun b hb=>(hf b hb).1⟩⟩
 done:=by
  intro X hP hw hK hc i pins s σ H E I hf st hg;subst hP hw hK;obtain⟨xs,hq,hx⟩:=hg;obtain⟨its,rv,p,hz⟩:=I.list hq;obtain⟨f0,f1,f2,f3,f4,f5⟩:=hf it (by simp);have hl:=rv.length;exact wpAny_pyNext_list_end (I.ok.hd hc) st p.isList (by simp;omega) fun h' eb=>⟨rfl,I.turned (t':=s.toks) (fun b o hb e=>eb b o hb e) f0 f1 f3 f4 f5⟩
 self:=fun _ _ _ _ _ st h=>wpAny_pyIter_listiter st h
theorem turn_tuple {P:Program}{w:World}{K:PySem.W.Frag}{tg:Expr}(a it:Addr):Turn P w K tg (Itt K a) [it] it (fun i h=>h.IsTupleIter it a i) where
 mem:=by simp
 obj:=fun i h st b hb=>by
  have e:b=it:=by simpa using hb
  subst e;obtain⟨o,e,c,d⟩:=st;exact⟨o,e,fun v z=>by rw[d] at z;cases z⟩
 keep:=fun i h h' st k=>st.at fun o e=>k it (by simp) o e
 item:=by
  intro X hP hw hK hc i pins s σ H E I hf st hg;subst hP hw hK;obtain⟨xs,x,hq,hx⟩:=hg;obtain⟨its,rv,p,hz⟩:=I.tuple hq;obtain⟨u,hu,ru⟩:=rv.get hx;obtain⟨f0,f1,f2,f3,f4,f5⟩:=hf it (by simp);refine wpAny_pyNext_tuple_item st (show s.heap.IsTuple a its.toArray from p) (x:=u) (by simpa using hu) fun h' st' sb=>?_;have I1:cT X pins σ H { s with heap:=h' }:=I.turned (t':=s.toks) (fun b o hb e=>(sb.2 b hb).trans e) f0 f1 f3 f4 f5;obtain⟨o,e,c,d⟩:=id st';exact⟨u,rfl,Cq (s:={ s with heap:=h' }) e c d (by decide) ⟨x,H,I1,ru,⟨rfl,fun ys hy=>by rw[I.tuple_inj hy hq];exact hx⟩,st',fun b hb=>(hf b hb).1⟩⟩
 done:=by
  intro X hP hw hK hc i pins s σ H E I hf st hg;subst hP hw hK;obtain⟨xs,hq,hx⟩:=hg;obtain⟨its,rv,p,hz⟩:=I.tuple hq;obtain⟨f0,f1,f2,f3,f4,f5⟩:=hf it (by simp);have hl:=rv.length;exact wpAny_pyNext_tuple_end (I.ok.hd hc) st (show s.heap.IsTuple a its.toArray from p) (by simp;omega) fun h' eb=>⟨rfl,I.turned (t':=s.toks) (fun b o hb e=>eb b o hb e) f0 f1 f3 f4 f5⟩
 self:=fun _ _ _ _ _ st h=>wpAny_pyIter_tupleiter st h
theorem xV {P:Program}{w:World}{K:PySem.W.Frag}{tg:Expr}(it:Addr)(lo:Int)(n:Nat):Turn P w K tg (Itr lo n) [it] it (fun i h=>IsRangeIter h it (lo+(i:Nat)*1) ((n:Int)-(i:Nat)) 1) where
 mem:=by simp
 obj:=fun i h st b hb=>by
  have e:b=it:=by simpa using hb
  subst e;exact⟨_,st,fun v z=>by
   have z':Data.fields _=Data.cell v:=z;cases z'⟩
 keep:=fun i h h' st k=>k it (by simp) _ st
 item:=by
  intro X hP hw hK hc i pins s σ H E I hf st hg;subst hP hw hK;obtain⟨f0,f1,f2,f3,f4,f5⟩:=hf it (by simp);have W:=Walks.range (prog:=X.prog) (w:=X.w) (I.ok.hd hc) it lo 1 n;refine W.item i s _ _ hg st fun v h' tk hv st' kk=>?_;obtain⟨t,rfl⟩:=hv;have I1:cT X pins σ H { s with heap:=h',toks:=tk }:=I.turned (fun b o hb e=>kk b o (by simpa using hb) e) f0 f1 f3 f4 f5;refine⟨_,rfl,Cq (s:={ s with heap:=h',toks:=tk }) (n := "range_iterator") st' rfl rfl (by decide) ⟨.int (lo+i),H,I1,⟨t,?_⟩,⟨rfl,rfl⟩,st',fun b hb=>(hf b hb).1⟩⟩;rw[Int.mul_one]
 done:=by
  intro X hP hw hK hc i pins s σ H E I hf st hg;subst hP hw hK;obtain⟨f0,f1,f2,f3,f4,f5⟩:=hf it (by simp);exact wpAny_pyNext_range_end (I.ok.hd hc) st (by have:n<=i:=hg;omega) fun h' eb=>⟨rfl,I.turned (t':=s.toks) (fun b o hb e=>eb b o hb e) f0 f1 f3 f4 f5⟩
 self:=fun _ _ _ _ _ st h=>wpAny_pyIter_rangeiter st h
section
variable {X:Cx}{tg:Expr}
theorem BH {pins:List (Addr×Obj)}{σ:St}{H:Hp}{s:Shared}{R:It->Hp->Prop}{E:Value->Shared->Prop}{lo hi:Int}{t u v:Tok}{tk:Nat}(I:cT X pins σ H s)(h1:-(2 ^ 62)<=lo)(h2:lo<2 ^ 62)(h3:-(2 ^ 62)<=hi)(h4:hi<2 ^ 62)
  (q:R (Itr lo (hi-lo).toNat) H):wpAny (model X.prog X.w) X.A (pyIter (.ref s.heap.objs.size)) (Jc X pins σ tg R) E { s with heap:=s.heap.push { cls:=.type "range", data:=.fields #[.int lo t,.int hi u,.int 1 v] },toks:=tk }:=by
 refine wpAny_pyIter_range (IsRange.new ..) (small_one h1 h2 h3 h4) ?_;have I1:cT X pins σ H { s with heap:=s.heap.push { cls:=.type "range", data:=.fields #[.int lo t,.int hi u,.int 1 v] },toks:=tk }:=I.kept fun b o e=>ae _ e;refine⟨(s.heap.push { cls:=.type "range", data:=.fields #[.int lo t,.int hi u,.int 1 v] }).objs.size,[(s.heap.push { cls:=.type "range", data:=.fields #[.int lo t,.int hi u,.int 1 v] }).objs.size],_,_,H,rfl,
  I1.kept (t':=tk) fun b o e=>ae _ e,xV _ lo (hi-lo).toNat,?_,fun b hb=>?_,q⟩
 ·have e1:lo+((0:Nat):Int)*1=lo:=by simp
  have e2:(((hi-lo).toNat:Nat):Int)-((0:Nat):Int)=Builtin.Range.rangeSize lo hi 1:=by rw[rangeSize_one];split <;> omega
  show IsRangeIter _ _ (lo+((0:Nat):Int)*1) ((((hi-lo).toNat:Nat):Int)-((0:Nat):Int)) 1;rw[e1,e2];exact aD _ rfl
 ·have e:b=(s.heap.push { cls:=.type "range", data:=.fields #[.int lo t,.int hi u,.int 1 v] }).objs.size:=by simpa using hb
  subst e;exact I1.fpOk (aC _) (I1.hok.fresh (aC _))
noncomputable def HP (ta:TA):TI:=fun σ H R=>ta σ H fun vs H1=>∃j:Int,vs=[.int j]/\-(2 ^ 62)<=j/\j<2 ^ 62/\R (Itr 0 j.toNat) H1
theorem pi_range1 {a:Expr}{ta:TA}{p pos:Pos}(hg:Gl X "range")(hm:X.mg "range" = none)(ha:PA X [a] ta)(hs:starEach [a] X.env=[(false,eval a X.env)]:=by rfl):PI X tg (.Call (.Name "range" p) [a] [] pos) (HP ta):=by
 intro pins s σ H R I h;refine Call_ (ld_blt I hg hm boot_range (PyProof.Rows.callWith_type1 (thn (ha pos pins s σ H _ I h) fun us s1 ⟨vs,H1,I1,r1,q1⟩=>?_) hs rfl));obtain⟨j,e,q1,q2,q⟩:=q1;subst e;cases r1 with
 |cons r rr =>
  cases rr;obtain⟨t,rfl⟩:=r;exact call_range_1 (BH I1 ⋯ ⋯ q1 q2 (by simpa using q))
noncomputable def IC (wi:TI)(g:TG)(tb:TS):TS:=fun D σ H=>wi σ H fun J H1=>∃W:Nat->Nat->St->Hp->Prop,(∃m,W 0 m σ H1)/\∀i m σ H,W i m σ H →
 (J.stop i H/\D.nx σ H)\/(J.go i H/\∃N:St->Hp->Prop,(∀σ' H',N σ' H'->∃m',m'<m/\W (i+1) m' σ' H')/\∀x H',J.yld i H x H'->g x σ H' fun σ2 H2=>tb { D with nx:=N,ct:=N,bk:=D.nx } σ2 H2)
noncomputable def rJ (fp:List Addr)(h:Heap):List (Addr×Obj):=fp.filterMap fun b=>(h.get? b).map fun o=>(b,o)
theorem lA {fp:List Addr}{h:Heap}{b:Addr}{o:Obj}(hb:b∈fp)(e:h.get? b=some o):(b,o)∈rJ fp h:=List.mem_filterMap.mpr ⟨b,hb,by rw[e];rfl⟩
theorem AF {fp:List Addr}{h:Heap}{p:Addr×Obj}(hp:p∈rJ fp h):p.1∈fp/\h.get? p.1=some p.2:=by
 obtain⟨b,hb,e⟩:=List.mem_filterMap.mp hp;cases q:h.get? b with
 |none=>rw[q] at e;cases e
 |some o =>
  rw[q] at e;have e':(b,o)=p:=Option.some.inj e;subst e';exact⟨hb,q⟩
theorem cT.pinned {pins:List (Addr×Obj)}{σ:St}{H:Hp}{s:Shared}{fp:List Addr}(I:cT X pins σ H s)(hf:∀b∈fp,sT X pins H b)(ho:∀b∈fp,∃o,s.heap.get? b=some o/\∀v,o.data≠.cell v):cT X (pins++rJ fp s.heap) σ H s :=
 I.pins_of fun p hp=>(List.mem_append.mp hp).elim (fun z=>I.pin p (aL _ z)) fun z=>by
  obtain⟨hb,e⟩:=AF z;obtain⟨f0,f1,f2,_⟩:=hf p.1 hb;obtain⟨o,e',d⟩:=ho p.1 hb;rw[e] at e';cases e';exact⟨e,f0,f1,f2,d⟩
theorem cT.unpinned {pins pl:List (Addr×Obj)}{σ:St}{H:Hp}{s:Shared}(I:cT X (pins++pl) σ H s):cT X pins σ H s:=I.pins_of fun p hp=>I.pin p (aL _ (aS _ hp))
theorem ps_for {iter:Expr}{body:List Stmt}{wi:TI}{g:TG}{tb:TS}{pos:Pos}(hp:PassesOwn (model X.prog X.w) X.A X.env X.xe)(hc:X.calm=true)(hi:PI X tg iter wi)(hg:PG X tg g)(hb:PSs X body tb)
  (hs:∀x,foldedSetIterable iter X.env x=pure x:=by intro _;rfl):PS X (.For tg iter body [] pos) (IC wi g tb):=by
 intro pins s σ H D I h;refine wpAny_For (thn (hi pins s σ H _ I h) fun v s1 h1=>thn h1 fun itv s2 h2=>?_) hs;obtain⟨it,fp,tn,J,H2,e,I2,T,st2,f2,W,⟨m0,w0⟩,turn⟩:=h2;subst e;have stat:∀{H':Hp},(∀b∈fp,H' b=none)->∀b∈fp,sT X pins H' b:=fun hn b hb=>⟨hn b hb,(f2 b hb).2⟩;refine codeAny_forLoop_any (fun n s'=>∃i σ' H',cT X pins σ' H' s'/\tn i s'.heap/\(∀b∈fp,H' b=none)/\W i n σ' H') ?_ m0 ⟨0,σ,H2,I2,st2,fun b hb=>(f2 b hb).1,w0⟩;rintro n s3 ⟨i,σ3,H3,I3,st3,fr3,w3⟩;rcases turn i n σ3 H3 w3 with ⟨stop,qn⟩|⟨go,N,hN,step⟩
 ·refine wpAny_passesOwn hp (thn (T.done X rfl rfl rfl hc i pins s3 σ3 H3 X.xe I3 (stat fr3) st3 stop) fun r s4 zz=>?_);obtain ⟨hr,I4⟩:=zz;subst hr;exact wpAny_execs_nil ⟨σ3,H3,I4,qn⟩
 ·refine wpAny_passesOwn hp (thn (T.item X rfl rfl rfl hc i pins s3 σ3 H3 X.xe I3 (stat fr3) st3 go) fun r s4 zz=>?_);obtain ⟨u,hr,h4⟩:=zz;subst hr;refine wpAny_passesOwn hp (thn h4 fun _ s5 zz=>?_);obtain ⟨x,H5,I5,r5,y5,st5,fr5⟩:=zz;have I5':=I5.pinned (stat fr5) (T.obj _ _ st5);refine wpAny_passesOwn hp (thn (hg _ s5 σ3 H5 x u _ I5' r5 (step x H5 y5)) fun _ s6 zz=>?_);obtain ⟨σ6,H6,I6,q6⟩:=zz;refine wpAny_passesOwn hp (thn (hb _ s6 σ6 H6 _ I6 q6) fun f s7 q7=>?_);have again:∀{σ7:St}{H7:Hp},cT X (pins++rJ fp s5.heap) σ7 H7 s7->N σ7 H7->∃m,m<n/\∃i σ' H',cT X pins σ' H' s7/\tn i s7.heap/\(∀b∈fp,H' b=none)/\W i m σ' H':=fun {σ7 H7} I7 n7=>by
   obtain⟨m',hm,w7⟩:=hN σ7 H7 n7;refine⟨m',hm,i+1,σ7,H7,I7.unpinned,T.keep _ _ _ st5 fun b hb o e=>(I7.pin (b,o) (aL _ (aL _ (lA hb e)))).1,fun b hb=>?_,w7⟩;obtain⟨o,e,d⟩:=T.obj _ _ st5 b hb;exact (I7.pin (b,o) (aL _ (aL _ (lA hb e)))).2.1
  cases f with
  |next=>obtain⟨σ7,H7,I7,n7⟩:=q7;exact again I7 n7
  |cont=>obtain⟨σ7,H7,I7,n7⟩:=q7;exact again I7 n7
  |brk=>obtain⟨σ7,H7,I7,q7⟩:=q7;exact⟨σ7,H7,I7.unpinned,q7⟩
  |ret v=>obtain⟨x7,σ7,H7,I7,r7,q7⟩:=q7;exact⟨x7,σ7,H7,I7.unpinned,r7,q7⟩
end
noncomputable abbrev R2:=V->V->Hp->VK->Prop
noncomputable def OpR (X:Cx)(f:Value->Value->Sem Value)(r:R2):Prop :=
 ∀(pins:List (Addr×Obj)) (s:Shared) (σ:St) (H:Hp) (x y:V) (v u:Value) (Q:VK),cT X pins σ H s->dX x v->dX y u->r x y H Q →
  wpAny (model X.prog X.w) X.A (f v u) (EP X pins σ Q) X.xe s
noncomputable def UnR (X:Cx)(f:Value->Sem Value)(r:V->Hp->VK->Prop):Prop :=
 ∀(pins:List (Addr×Obj)) (s:Shared) (σ:St) (H:Hp) (x:V) (v:Value) (Q:VK),cT X pins σ H s->dX x v->r x H Q →
  wpAny (model X.prog X.w) X.A (f v) (EP X pins σ Q) X.xe s
noncomputable def CallR (X:Cx)(f:Value)(r:List V->Hp->VK->Prop):Prop :=
 ∀(pins:List (Addr×Obj)) (s:Shared) (σ:St) (H:Hp) (xs:List V) (us:List Value) (Q:VK),cT X pins σ H s->cY xs us->r xs H Q →
  wpAny (model X.prog X.w) X.A (call f us) (EP X pins σ Q) X.xe s
noncomputable def tOp (r:R2)(ta tb:TE):TE:=fun σ H Q=>ta σ H fun x H1=>tb σ H1 fun y H2=>r x y H2 Q
noncomputable def tUn (r:V->Hp->VK->Prop)(ta:TE):TE:=fun σ H Q=>ta σ H fun x H1=>r x H1 Q
noncomputable def rI (C:Int->Int->Prop)(g:Int->Int->V):R2:=fun x y H Q=>∃i j,x=.int i/\y=.int j/\C i j/\Q (g i j) H
noncomputable def rI0 (g:Int->Int->V):R2:=fun x y H Q=>∃i j,x=.int i/\y=.int j/\Q (g i j) H
noncomputable def rU (g:Int->V):V->Hp->VK->Prop:=fun x H Q=>∃i,x=.int i/\Q (g i) H
section
variable {X:Cx}{a b c:Expr}{ta tb tc:TE}{pos:Pos}
theorem GX (ha:PE X a ta)(hb:PE X b tb){pins:List (Addr×Obj)}{s:Shared}{σ:St}{H:Hp}{R:V->V->Hp->Prop}(I:cT X pins σ H s)
  (h:ta σ H fun x H1=>tb σ H1 fun y H2=>R x y H2) {Q:Value->Shared->Prop}{f:Value->Value->Sem Value}
  (hf:∀v u s2 x y H2,cT X pins σ H2 s2->dX x v->dX y u->R x y H2->wpAny (model X.prog X.w) X.A (f v u) Q X.xe s2) :
  wpAny (model X.prog X.w) X.A (eval a X.env) (fun v s₁=>wpAny (model X.prog X.w) X.A (eval b X.env) (fun u s₂=>wpAny (model X.prog X.w) X.A (f v u) Q X.xe s₂) X.xe s₁) X.xe s:=by
 refine thn (ha pins s σ H _ I h) fun v s1 zz=>?_;obtain ⟨x,H1,I1,r1,q1⟩:=zz;refine thn (hb pins s1 σ H1 _ I1 q1) fun u s2 zz=>?_;obtain ⟨y,H2,I2,r2,q2⟩:=zz;exact hf v u s2 x y H2 I2 r1 r2 q2
theorem pe_op {op:Operator}{r:R2}(ho:OpR X (binaryOp op) r)(ha:PE X a ta)(hb:PE X b tb):PE X (.BinOp a op b pos) (tOp r ta tb):=by
 intro pins s σ H Q I h;exact wpAny_BinOp (GX ha hb I h fun v u s2 x y H2 I2 rx ry q=>ho pins s2 σ H2 x y v u Q I2 rx ry q)
theorem pe_un {op:UnaryOp}{r:V->Hp->VK->Prop}(ho:UnR X (unaryOp op) r)(ha:PE X a ta):PE X (.UnaryOp op a pos) (tUn r ta):=by
 intro pins s σ H Q I h;exact UnaryOp_ (thn (ha pins s σ H _ I h) fun v s1 ⟨x,H1,I1,r1,q1⟩=>ho pins s1 σ H1 x v Q I1 r1 q1)
theorem Ik {f:Value->Value->Sem Value}{C:Int->Int->Prop}{g:Int->Int->Int}
  (rule:∀(i j:Int) (t u:Tok) (s:Shared) (Q:Value->Shared->Prop) (E:Value->Shared->Prop),C i j->Q (.int (g i j) s.toks) { s with toks:=s.toks+1 }->wpAny (model X.prog X.w) X.A (f (.int i t) (.int j u)) Q E s) :
  OpR X f (rI C fun i j=>.int (g i j)):=by
 intro pins s σ H x y v u Q I rx ry h;obtain⟨i,j,rfl,rfl,hc,q⟩:=h;obtain⟨t,rfl⟩:=rx;obtain⟨t',rfl⟩:=ry;exact rule i j t t' s _ _ hc ⟨.int (g i j),H,I.tok _,⟨_,rfl⟩,q⟩
theorem HB {f:Value->Value->Sem Value}{g:Int->Int->Int}
  (rule:∀(i j:Int) (t u:Tok) (s:Shared) (Q:Value->Shared->Prop) (E:Value->Shared->Prop),Q (.int (g i j) s.toks) { s with toks:=s.toks+1 }->wpAny (model X.prog X.w) X.A (f (.int i t) (.int j u)) Q E s) :
  OpR X f (rI0 fun i j=>.int (g i j)):=by
 intro pins s σ H x y v u Q I rx ry h;obtain⟨i,j,rfl,rfl,q⟩:=h;obtain⟨t,rfl⟩:=rx;obtain⟨t',rfl⟩:=ry;exact rule i j t t' s _ _ ⟨.int (g i j),H,I.tok _,⟨_,rfl⟩,q⟩
theorem F4 {f:Value->Value->Sem Value}{g:Int->Int->Bool}
  (rule:∀(i j:Int) (t u:Tok) (s:Shared) (Q:Value->Shared->Prop) (E:Value->Shared->Prop),Q (.bool (g i j)) s->wpAny (model X.prog X.w) X.A (f (.int i t) (.int j u)) Q E s) :
  OpR X f (rI0 fun i j=>.bl (g i j)):=by
 intro pins s σ H x y v u Q I rx ry h;obtain⟨i,j,rfl,rfl,q⟩:=h;obtain⟨t,rfl⟩:=rx;obtain⟨t',rfl⟩:=ry;exact rule i j t t' s _ _ ⟨.bl (g i j),H,I,rfl,q⟩
def CDiv (i j:Int):Prop:=0<j/\j<1073741824
def CPow (i j:Int):Prop:=0<=j/\j<=1000000/\i.natAbs<2 ^ 64
def CMul (i j:Int):Prop:=(-(2 ^ 64)<i/\i<2 ^ 64)\/(-(2 ^ 64)<j/\j<2 ^ 64)
theorem CMul.ok {i j:Int}(h:CMul i j):IntMulOk i j:=by
 rcases h with ⟨h1,h2⟩|⟨h1,h2⟩
 ·exact .of_left (intBits_le_64 h1 h2)
 ·exact .of_right (intBits_le_64 h1 h2)
theorem F3:OpR X (binaryOp .Add) (rI0 fun i j=>.int (i+j)):=HB fun _ _ _ _ _ _ _ q=>add_int q
theorem op_sub:OpR X (binaryOp .Sub) (rI0 fun i j=>.int (i-j)):=HB fun _ _ _ _ _ _ _ q=>sub_int q
theorem op_mul:OpR X (binaryOp .Mult) (rI CMul fun i j=>.int (i*j)):=Ik fun _ _ _ _ _ _ _ hc q=>mul_int q hc.ok
theorem op_fdiv:OpR X (binaryOp .FloorDiv) (rI CDiv fun i j=>.int (i/j)):=Ik fun i j _ _ _ _ _ hc q=>by
 have h1:(0:Int)<j:=hc.1;have h2:j<1073741824:=hc.2;exact floordiv_int ⋯ (by rw[Int.fdiv_eq_ediv_of_nonneg i ⋯];exact q) (.inl (PyProof.noPylong_small ⋯))
theorem op_mod:OpR X (binaryOp .Mod) (rI (fun _ j=>0<j) fun i j=>.int (i%j)):=Ik fun i j _ _ _ _ _ hc q=>by
 have h1:(0:Int)<j:=hc;exact mod_int' ⋯ (by rw[Int.fmod_eq_emod_of_nonneg i ⋯];exact q)
theorem op_pow:OpR X (binaryOp .Pow) (rI CPow fun i j=>.int (i ^ j.toNat)):=Ik fun _ _ _ _ _ _ _ hc q=>pow_int_small hc.1 hc.2.1 hc.2.2 q
theorem Jh {f:Value->Sem Value}{g:Int->Int}
  (rule:∀(i:Int) (t:Tok) (s:Shared) (Q:Value->Shared->Prop) (E:Value->Shared->Prop),Q (.int (g i) s.toks) { s with toks:=s.toks+1 }->wpAny (model X.prog X.w) X.A (f (.int i t)) Q E s) :
  UnR X f (rU fun i=>.int (g i)):=by
 intro pins s σ H x v Q I rx h;obtain⟨i,rfl,q⟩:=h;obtain⟨t,rfl⟩:=rx;exact rule i t s _ _ ⟨.int (g i),H,I.tok _,⟨_,rfl⟩,q⟩
theorem un_neg:UnR X (unaryOp .USub) (rU fun i=>.int (-i)):=Jh fun _ _ _ _ _ q=>neg_int q
end
section
variable {X:Cx}{a b c:Expr}{ta tb tc:TE}{pos:Pos}
theorem Cw {pins:List (Addr×Obj)}{σ:St}{H:Hp}{s:Shared}{Q:VK}{k k':Bool}(I:cT X pins σ H s)(q:Q (.bl k) H)(e:k=k'):EP X pins σ Q (.bool k') s:=by
 subst e;exact⟨.bl k,H,I,rfl,q⟩
theorem op_lt:OpR X (compareOp .Lt) (rI0 fun i j=>.bl (decide (i<j))):=F4 fun _ _ _ _ _ _ _ q=>lt_int q
theorem op_le:OpR X (compareOp .LtE) (rI0 fun i j=>.bl (decide (i<=j))):=F4 fun _ _ _ _ _ _ _ q=>le_int q
theorem op_gt:OpR X (compareOp .Gt) (rI0 fun i j=>.bl (decide (j<i))):=F4 fun _ _ _ _ _ _ _ q=>gt_int q
theorem op_isN:OpR X (compareOp .Is) (fun x y H Q=>y=.non/\Q (.bl (decide (x=.non))) H):=by
 intro pins s σ H x y v u Q I rx ry h;obtain⟨rfl,q⟩:=h;cases ry;refine is_none_gen (Cw I q ?_);cases x <;> first
  |(cases rx;rfl)
  |(obtain⟨t,rfl⟩:=rx;rfl)
theorem op_notN:OpR X (compareOp .IsNot) (fun x y H Q=>y=.non/\Q (.bl (!decide (x=.non))) H):=by
 intro pins s σ H x y v u Q I rx ry h;obtain⟨rfl,q⟩:=h;cases ry;refine isnot_none_gen (Cw I q ?_);cases x <;> first
  |(cases rx;rfl)
  |(obtain⟨t,rfl⟩:=rx;rfl)
theorem OpR.or {f:Value->Value->Sem Value}{r r':R2}(h:OpR X f r)(h':OpR X f r'):OpR X f (fun x y H Q=>r x y H Q\/r' x y H Q):=by
 intro pins s σ H x y v u Q I rx ry q;rcases q with q|q
 ·exact h pins s σ H x y v u Q I rx ry q
 ·exact h' pins s σ H x y v u Q I rx ry q
theorem nomark (b:Expr){op:CmpOp}(h:op≠.In:=by decide)(h2:op≠.NotIn:=by decide):behindInMarks op b=false:=by
 have e1:(op==CmpOp.In)=false:=by cases op <;> first|rfl|exact absurd rfl h
 have e2:(op==CmpOp.NotIn)=false:=by cases op <;> first|rfl|exact absurd rfl h2
 cases b <;> simp[behindInMarks,e1,e2]
theorem pe_cmpR {op:CmpOp}{r:R2}(ho:OpR X (compareOp op) r)(ha:PE X a ta)(hb:PE X b tb)(hm:behindInMarks op b=false):PE X (.Compare a [op] [b] pos) (tOp r ta tb):=by
 intro pins s σ H Q I h;exact wpAny_Compare1 (GX ha hb I h fun v u s2 x y H2 I2 rx ry q=>ho pins s2 σ H2 x y v u Q I2 rx ry q) hm
noncomputable def EY (t:TE):TT:=fun σ H Q=>t σ H fun x H'=>∃k,x=.bl k/\Q k H'
theorem pt_cmpR {op:CmpOp}{r:R2}(ho:OpR X (compareOp op) r)(ha:PE X a ta)(hb:PE X b tb)(hm:behindInMarks op b=false):PT X (.Compare a [op] [b] pos) (EY (tOp r ta tb)):=by
 intro pins s σ H Q I h;refine wpAny_isTrue_Compare1 (thn (ha pins s σ H _ I h) fun v s1 ⟨x,H1,I1,r1,q1⟩=>thn (hb pins s1 σ H1 _ I1 q1) fun u s2 ⟨y,H2,I2,r2,q2⟩ =>
  thn (ho pins s2 σ H2 x y v u _ I2 r1 r2 q2) fun c s3 ⟨z,H3,I3,r3,k,e,q3⟩=>?_) hm
 subst e;cases r3;exact wpAny_truthy_bool ⟨H3,I3,q3⟩
noncomputable def tChain (r r':R2)(ta tb tc:TE):TE:=fun σ H Q=>ta σ H fun x H1=>tb σ H1 fun y H2=>r x y H2 fun z H3=>∃k,z=.bl k ∧
 (if k=true then tc σ H3 fun w' H4=>r' y w' H4 Q else Q (.bl false) H3)
theorem pt_chain {op op':CmpOp}{r r':R2}(ho:OpR X (compareOp op) r)(ho':OpR X (compareOp op') r')(ha:PE X a ta)(hb:PE X b tb)(hc:PE X c tc)
  (hm:lastMarks [op,op'] [b,c]=false:=by with_unfolding_all rfl):PT X (.Compare a [op,op'] [b,c] pos) (EY (tChain r r' ta tb tc)):=by
 intro pins s σ H Q I h;refine isTrue_chain (thn (ha pins s σ H _ I h) fun v s1 ⟨x,H1,I1,r1,q1⟩=>test_link (thn (hb pins s1 σ H1 _ I1 q1) fun u s2 ⟨y,H2,I2,r2,q2⟩ =>
  thn (ho pins s2 σ H2 x y v u _ I2 r1 r2 q2) fun d s3 ⟨z,H3,I3,r3,k,e,q3⟩=>?_)) hm
 subst e;cases r3;refine wpAny_truthy_bool ?_;cases k with
 |false =>
  obtain⟨k',e',q'⟩:=q3;cases e';exact ite_ff ⟨H3,I3,q'⟩
 |true =>
  refine ite_tt (test_last (thn (hc pins s3 σ H3 _ I3 q3) fun w' s4 ⟨z',H4,I4,r4,q4⟩=>thn (ho' pins s4 σ H4 y z' u w' _ I4 r2 r4 q4) fun d' s5 zz=>?_));obtain ⟨z2,H5,I5,r5,k2,e2,q5⟩:=zz;subst e2;cases r5;exact wpAny_truthy_bool ⟨H5,I5,q5⟩
theorem rW:(sizeLine:Nat)<2 ^ 63:=by rw[sizeLine_eq];decide
theorem yg:OpR X (binaryOp .Add) (fun x y H Q=>∃i j,x=.str i/\y=.str j/\i.length+j.length<=sizeLine/\Q (.str (i++j)) H):=by
 intro pins s σ H x y v u Q I rx ry h;obtain⟨i,j,rfl,rfl,hz,q⟩:=h;obtain⟨t,rfl⟩:=rx;obtain⟨t',rfl⟩:=ry;exact add_str (fun t' tk=>⟨.str (i++j),H,I.tok _,⟨_,rfl⟩,q⟩) hz
theorem EW {x:V}{us:List Value}(r:cY [x] us):∃u,us=[u]/\dX x u:=by
 cases r with
 |cons r1 r2=>cases r2;exact⟨_,rfl,r1⟩
theorem EV {x y:V}{us:List Value}(r:cY [x,y] us):∃u w',us=[u,w']/\dX x u/\dX y w':=by
 cases r with
 |cons r1 r2 =>
  cases r2 with
  |cons r3 r4=>cases r4;exact⟨_,_,rfl,r1,r3⟩
theorem call_max2 (hc:X.calm=true):CallR X (.builtin "max") (fun xs H Q=>∃i j,xs=[.int i,.int j]/\Q (.int (if j>i then j else i)) H):=by
 intro pins s σ H xs us Q I r h;obtain⟨i,j,rfl,q⟩:=h;obtain⟨u,w',rfl,⟨t,rfl⟩,⟨t',rfl⟩⟩:=EV r;refine max_two_ints (I.ok.hd hc) fun h' tk k=>⟨_,H,I.kept k,?_,q⟩;by_cases hj:j>i
 ·rw[if_pos hj,if_pos hj];exact⟨_,rfl⟩
 ·rw[if_neg hj,if_neg hj];exact⟨_,rfl⟩
theorem call_min2 (hc:X.calm=true):CallR X (.builtin "min") (fun xs H Q=>∃i j,xs=[.int i,.int j]/\Q (.int (if j<i then j else i)) H):=by
 intro pins s σ H xs us Q I r h;obtain⟨i,j,rfl,q⟩:=h;obtain⟨u,w',rfl,⟨t,rfl⟩,⟨t',rfl⟩⟩:=EV r;refine min_two_ints (I.ok.hd hc) fun h' tk k=>⟨_,H,I.kept k,?_,q⟩;by_cases hj:j<i
 ·rw[if_pos hj,if_pos hj];exact⟨_,rfl⟩
 ·rw[if_neg hj,if_neg hj];exact⟨_,rfl⟩
end
section
variable {prog:Program}{w:World}{A:Around}{E:Value->Shared->Prop}{s:Shared}{K:PySem.W.Frag}{x dx C f:Addr}{mA:Str->Option Value}{name:Str}{v:Value}
end
section
variable {P:Program}{w:World}{H H':Hp}{h h':Heap}{a C dx:Addr}{fs fs':List (Str×V)}
end
section
variable {X:Cx}{pins:List (Addr×Obj)}{σ:St}{H:Hp}{s:Shared}{a C dx:Addr}{fs:List (Str×V)}{f:Str}{v:V}{A:Around}{E:Value->Shared->Prop}
end
section
variable {X:Cx}{o e value:Expr}{f:Str}{pos pos' tpos:Pos}{ta tv:TE}
end
section
variable {X:Cx}{pins:List (Addr×Obj)}{σ:St}{H:Hp}{s:Shared}{A:Around}{E:Value->Shared->Prop}{Q:Value->Shared->Prop}{c:Value}{b:Bool}
end
structure Room (k:Nat)(A:Around):Prop where
 hd:A.handled=none
 dp:A.depth+3*k+5<recursionLimit
 un:A.units+16*k+200<cLine
theorem Room.mono {j k:Nat}{A:Around}(r:Room k A)(h:j<=k):Room j A:=⟨r.hd,by have:=r.dp;omega,by have:=r.un;omega⟩
theorem Room.deeper {k:Nat}{A:Around}(r:Room (k+1) A)(env:Env):Room k (A.deeper env) :=
 ⟨r.hd,by have:=r.dp;show A.depth+1+3*k+5<_;omega,by have:=r.un;show A.units+3+16*k+200<_;omega⟩
theorem Room.depth {k:Nat}{A:Around}(r:Room k A):A.depth<recursionLimit:=by have:=r.dp;omega
theorem Room.units {k:Nat}{A:Around}(r:Room k A):A.units+64<cLine:=by have:=r.un;omega
noncomputable def tNil:TA:=fun _ H Q=>Q [] H
noncomputable def tCons (ta:TE)(tr:TA):TA:=fun σ H Q=>ta σ H fun x H1=>tr σ H1 fun xs H2=>Q (x::xs) H2
section
variable {X:Cx}{e:Expr}{es:List Expr}{te:TE}{t:TA}{pos:Pos}
theorem pa_nil:PA X [] tNil:=fun _ _ _ _ H Q I h=>Calls.spliced_nil ⟨[],H,I,.nil,h⟩
theorem pa_cons (ha:PE X e te)(hr:PA X es t)(hs:starEach (e::es) X.env=(false,eval e X.env)::starEach es X.env:=by rfl):PA X (e::es) (tCons te t):=by
 intro pos pins s σ H Q I h;rw[hs];show wpAny _ _ (spliced ((false,eval e X.env)::backTo pos (starEach es X.env))) _ _ s;refine Calls.spliced_cons (thn (ha pins s σ H _ I h) fun u s1 zz=>?_);obtain ⟨x,H1,I1,r1,q1⟩:=zz;exact thn (hr pos pins s1 σ H1 _ I1 q1) fun us s2 ⟨xs,H2,I2,r2,q2⟩=>⟨x::xs,H2,I2,.cons r1 r2,q2⟩
noncomputable def Iv (t:TA):TE:=fun σ H Q=>t σ H fun xs H1=>xs.length<=sizeLine/\∀p,H1 p=none->Q (.ref p) (eA H1 p (.tup xs))
noncomputable def Iz (t:TA):TE:=fun σ H Q=>t σ H fun xs H1=>xs.length<=sizeLine/\∀p,H1 p=none->Q (.ref p) (eA H1 p (.lst xs))
theorem pe_tup {x1}(h:PA X es t):PE X (.Tuple es x1 pos) (Iv t):=by
 intro pins s σ H Q I hq;refine wpAny_Tuple_spliced (thn (h pos pins s σ H _ I hq) fun us s1 ⟨xs,H1,I1,r,z,q⟩=>⟨by rw[<-r.length];exact z,?_⟩);have hf:H1 s1.heap.objs.size=none:=I1.hok.fresh (aC _);refine⟨.ref s1.heap.objs.size,eA H1 s1.heap.objs.size (.tup xs),I1.laid (t':=s1.toks) (fun b u e=>ae _ e) (aC _) ?_,rfl,q _ hf⟩;exact⟨z,us,r,⟨_,aD _ rfl,rfl,_,rfl⟩⟩
theorem pe_lst (h:PA X es t):PE X (.List es pos) (Iz t):=by
 intro pins s σ H Q I hq;refine wpAny_List_spliced (thn (h pos pins s σ H _ I hq) fun us s1 ⟨xs,H1,I1,r,z,q⟩=>⟨by rw[<-r.length];exact z,?_⟩);have hf:H1 s1.heap.objs.size=none:=I1.hok.fresh (aC _);refine⟨.ref s1.heap.objs.size,eA H1 s1.heap.objs.size (.lst xs),I1.laid (t':=s1.toks) (fun b u e=>ae _ e) (aC _) ?_,rfl,q _ hf⟩;exact⟨z,us,0,r,aD _ rfl⟩
end
noncomputable abbrev Sp:=List V->Hp->VK->XK->Prop
noncomputable abbrev Bi:=List Env->Hp->Shared->XK->Value->Shared->Prop
structure ES (P:Program)(w:World)(K:PySem.W.Frag)(mg:Str->Option Value)(base:Heap)(A:Around)(outer:List Env)(s:Shared)(H:Hp):Prop where
 frames:A.frames=some outer
 mod:Mod K mg base
 bs:∀b o,base.get? b=some o->s.heap.get? b=some o/\H b=none
 bsz:base.objs.size<=s.heap.objs.size
 funs:s.heap.FunFrames base outer
 frf:∀b∈AY outer,H b=none
 hok:sS P w H s.heap
 bare:AllBare s.gens
noncomputable def CE (outer:List Env)(P:Program)(w:World)(H:Hp)(s:Shared)(Q:VK)(u:Value)(s':Shared):Prop :=
 ∃v H',s'.os=s.os/\AllBare s'.gens/\Un (AY outer) [] H H' s.heap s'.heap/\sS P w H' s'.heap/\dX v u/\Q v H'
noncomputable def CR (CX:Bi)(outer:List Env)(P:Program)(w:World)(H:Hp)(s:Shared)(Q:VK)(E:XK)(r:Result)(s':Shared):Prop :=
 match r with
 |.ok (.ret u)=>CE outer P w H s Q u s'
 |.ok _=>False
 |.error e=>CX outer H s E e s'
structure FnOk (P:Program)(w:World)(K:PySem.W.Frag)(mg:Str->Option Value)(base:Heap)(CX:Bi)(k:Nat)(f:Addr)(fd:FuncData)(ps:List Str)(sp:Sp):Prop where
 len:∀vs H Q E,sp vs H Q E->vs.length=ps.length
 run:∀(A:Around) (outer:List Env) (s:Shared) (H:Hp) (args:Args) (us:List Value) (vs:List V) (Q:VK) (E:XK),Room k A->ES P w K mg base A outer s H->BindsTo s fd args (ps.zip us)->cY vs us->sp vs H Q E →
  codeAny (model P w) A (.call (.ref f) args) (CR CX outer P w H s Q E) s
section
variable {X:Cx}{pins:List (Addr×Obj)}{σ:St}{H:Hp}{s s':Shared}
theorem cT.env0 (I:cT X pins σ H s):ES X.prog X.w X.K X.mg X.base X.A X.stack s H :=
 ⟨I.ok.frames,I.ok.mod,I.bs,bo I.ok.bsz I.sz,I.stack,I.stkFree,I.hok,I.bare⟩
theorem cT.after {Q:VK}{u:Value}(I:cT X pins σ H s)(h:CE X.stack X.prog X.w H s Q u s'):EP X pins σ Q u s':=by
 obtain⟨v,H',os,bare,un,hok,r,q⟩:=h;obtain⟨hh,g,d,t,os'⟩:=s'
 obtain rfl:os'=s.os:=os
 exact⟨v,H',I.call (h':=hh) (g':=g) (d':=d) (t':=t) (ch:=[]) un hok bare (fun b z=>absurd z (by simp)),r,q⟩
end
noncomputable def Hi (sp:Sp)(dvs:List V)(E:XK)(t:TA):TE:=fun σ H Q=>t σ H fun vs H1=>sp (vs++dvs) H1 Q E
noncomputable def Binds (K:PySem.W.Frag)(fd:FuncData)(ps:List Str)(ds:List Value):Prop :=
 ∀(s:Shared) (us:List Value),K.In s.heap->(us++ds).length=ps.length->BindsTo s fd ⟨us,[]⟩ (ps.zip (us++ds))
theorem Binds.all {K:PySem.W.Frag}{fd:FuncData}{ps:List Str}(h:∀us:List Value,us.length=ps.length->bindArgs fd ⟨us,[]⟩=pure (ps.zip us)):Binds K fd ps []:=fun s us _ hl=>by
 rw[br] at hl ⊢;exact .of_eq (h us hl)
def zh (CX:Bi)(X:Cx)(E:XK):Prop:=∀(pins:List (Addr×Obj)) (σ:St) (H:Hp) (s:Shared) (e:Value) (s':Shared),cT X pins σ H s->CX X.stack H s E e s'->X.xe e s'
section
variable {X:Cx}{CX:Bi}{k:Nat}{f C:Addr}{fd:FuncData}{ps:List Str}{sp:Sp}{dvs:List V}{ds:List Value}{E:XK}{x m:Str}{p pos apos:Pos}{e o:Expr}{es:List Expr}{ta:TE}{t:TA}
theorem FV {pins:List (Addr×Obj)}{σ:St}{H:Hp}{s:Shared}{Q:VK}{us:List Value}{vs:List V}(F:FnOk X.prog X.w X.K X.mg X.base CX k f fd ps sp)(hr:Room k X.A)(hb:Binds X.K fd ps ds)(hd:cY dvs ds)(hx:zh CX X E)
  (I:cT X pins σ H s) (r:cY vs us) (h:sp (vs++dvs) H Q E):wpAny (model X.prog X.w) X.A (call (.ref f) us) (EP X pins σ Q) X.xe s:=by
 have r2:cY (vs++dvs) (us++ds):=r.append hd;have hl:(us++ds).length=ps.length:=by rw[<-r2.length];exact F.len _ _ _ _ h
 refine wpAny_call (codeAny_mono (F.run X.A X.stack s H ⟨us,[]⟩ (us++ds) (vs++dvs) Q E hr I.env0 (hb s us I.kIn hl) r2 h) fun r s' hq=>?_);cases r with
 |error e=>exact hx pins σ H s e s' I hq
 |ok fl =>
  cases fl with
  |ret u=>exact I.after hq
  |next=>exact False.elim hq
  |brk=>exact False.elim hq
  |cont=>exact False.elim hq
theorem pe_call (F:FnOk X.prog X.w X.K X.mg X.base CX k f fd ps sp)(hr:Room k X.A)(hg:Gl X x)(hm:X.mg x=some (.ref f))(hk:PySem.W.keepIn X.K (.ref f)=true)(hb:Binds X.K fd ps ds)(hd:cY dvs ds)(hx:zh CX X E)
  (ha:PA X (e::es) t) (hdb:(x==("__debug__" : Str))=false:=by decide) (he:starEach (e::es) X.env=(false,eval e X.env)::starEach es X.env:=by rfl) (hpl:(backTo pos (starEach es X.env)).any (·.1)=false:=by rfl) :
  PE X (.Call (.Name x p) (e::es) [] pos) (Hi sp dvs E t):=by
 intro pins s σ H Q I h;refine wpAny_Call_Name_kw (El I hg hm ?_ hdb);refine PySem.W.callWith_K (h₀:=X.base) I.ok.mod.kin hk (thn (ha pos pins s σ H _ I h) fun us s1 ⟨vs,H1,I1,r,q⟩=>⟨I1.kIn,?_⟩) he hpl;exact FV F hr hb hd hx I1 r q
end
section
variable {X:Cx}{CX:Bi}{k:Nat}{f C:Addr}{fd:FuncData}{ps ks:List Str}{sp:Sp}{E:XK}{x m:Str}{p pos apos kpos:Pos}{e o:Expr}{es:List Expr}{kws:List Keyword}{te ta:TE}{t tk:TA}{nm:Option Str}
variable {g:List Value->List Value->List Value}{gV:List V->List V->List V}
end
structure FnScope (N P:List Str)(sc:Scope):Prop where
 kind:sc.kind=.function
 co:sc.isCoroutine=false
 gen:sc.isGenerator=false
 nd:N.Nodup
 pre:N.take P.length=P
 par:∀x∈P,sc.names.lookup x=some .local\/sc.names.lookup x=some .cell
 nofree:∀y∈sc.names,y.2≠.free
theorem uH {kindOf:Str->Option NameKind}{x:Str}:∀{binds:List (Str×Value)}{m:Str->Option Value},(∀v,(x,v)∉binds)->bindL kindOf binds m x=m x
 |[],_,_=>rfl
 | (n,v)::r,m,h=>by
  unfold bindL;rw[uH fun w hw=>h w (aG _ hw)];split
  ·have:x≠n:=by rintro rfl;exact h v aQ
   simp[this]
  ·rfl
theorem uK {kindOf:Str->Option NameKind}{x:Str}:∀{binds:List (Str×Value)}{m:Str->Option Value},(∀v,(x,v)∉binds)->bindC kindOf binds m x=m x
 |[],_,_=>rfl
 | (n,v)::r,m,h=>by
  unfold bindC;rw[uK fun w hw=>h w (aG _ hw)];split
  ·rfl
  ·have:x≠n:=by rintro rfl;exact h v aQ
   simp[this]
theorem uJ {kindOf:Str->Option NameKind}{x:Str}{v:Value}:∀{P:List Str}{vs:List Value}{i:Nat}{m:Str->Option Value},P.Nodup->P[i]?=some x->vs[i]?=some v->kindOf x=some .local →
  bindL kindOf (P.zip vs) m x=some v
 |[],_,_,_,_,h,_,_=>by simp at h
 |_::_,[],_,_,_,_,h,_=>by simp at h
 | p::P,w::vs,0,m,nd,h1,h2,hk=>by
  simp at h1 h2;subst h1;subst h2;show bindL kindOf ((p,w)::P.zip vs) m p=_;unfold bindL;rw[uH fun v hv=>(List.nodup_cons.mp nd).1 (JO hv).1,if_pos hk];simp
 | p::P,w::vs,i+1,m,nd,h1,h2,hk=>by
  show bindL kindOf ((p,w)::P.zip vs) m x=_;unfold bindL;exact uJ (i:=i) (List.nodup_cons.mp nd).2 (by simpa using h1) (by simpa using h2) hk
theorem uM {kindOf:Str->Option NameKind}{x:Str}{v:Value}:∀{P:List Str}{vs:List Value}{i:Nat}{m:Str->Option Value},P.Nodup->P[i]?=some x->vs[i]?=some v->kindOf x≠some .local →
  bindC kindOf (P.zip vs) m x=some v
 |[],_,_,_,_,h,_,_=>by simp at h
 |_::_,[],_,_,_,_,h,_=>by simp at h
 | p::P,w::vs,0,m,nd,h1,h2,hk=>by
  simp at h1 h2;subst h1;subst h2;show bindC kindOf ((p,w)::P.zip vs) m p=_;unfold bindC;rw[uK fun v hv=>(List.nodup_cons.mp nd).1 (JO hv).1,if_neg hk];simp
 | p::P,w::vs,i+1,m,nd,h1,h2,hk=>by
  show bindC kindOf ((p,w)::P.zip vs) m x=_;unfold bindC;exact uM (i:=i) (List.nodup_cons.mp nd).2 (by simpa using h1) (by simpa using h2) hk
noncomputable def start (N:List Str)(vs:List V):St:=vs.map some++aH (N.length-vs.length) none
noncomputable def cxOf (CX:Bi)(P:Program)(w:World)(K:PySem.W.Frag)(mg:Str->Option Value)(base:Heap)(N:List Str)(qual:Str)(scope:Scope)(f:Addr)(cd:Value)(A:Around)(outer:List Env)(s:Shared)(H:Hp)(E:XK):Cx where
 prog:=P
 w:=w
 K:=K
 mg:=mg
 base:=base
 A:=A.deeper (envOfC qual scope s.heap.objs.size f cd)
 N:=N
 s₀:=s
 H₀:=H
 env:=envOfC qual scope s.heap.objs.size f cd
 outer:=outer
 stack:=envOfC qual scope s.heap.objs.size f cd::outer
 ex:=[]
 calm:=true
 fn:=fun _=>true
 pn:=[]
 xe:=fun e s'=>wpAny (model P w) (A.deeper (envOfC qual scope s.heap.objs.size f cd)) (leaving (envOfC qual scope s.heap.objs.size f cd) e) (fun _ s''=>CX outer H s E e s'') (fun e' s''=>CX outer H s E e' s'') s'
theorem xE {sc:Scope}{n:Nat}{x:Str}(h:sc.names.lookup x=some .cell):∃c,(cellsFrom n sc.names []).lookup x=some c:=by
 have q:=PySem.W.cellsFrom_some sc.names n [] (.inl h);exact Option.isSome_iff_exists.mp q
theorem AS {CX:Bi}{P:Program}{w:World}{K:PySem.W.Frag}{mg:Str->Option Value}{base:Heap}{N ps:List Str}{qual:Str}{scope:Scope}{f:Addr}{cd:Value}{A:Around}{outer:List Env}{s s1:Shared}{H:Hp}{E:XK}{us:List Value}{vs:List V}
  (S:FnScope N ps scope) (hd:A.handled=none) (e0:ES P w K mg base A outer s H) (hl:vs.length=ps.length) (r:cY vs us)
  (x:InCallC s s.heap.objs.size (bindL (envOfC qual scope s.heap.objs.size f cd).kindOf (ps.zip us) fun _=>none) (cellsFrom (s.heap.objs.size+1) scope.names []) (bindC (envOfC qual scope s.heap.objs.size f cd).kindOf (ps.zip us) fun _=>none) s1) :
  cT (cxOf CX P w K mg base N qual scope f cd A outer s H E) [] (start N vs) H s1:=by
 have hpl:ps.length<=N.length:=by have:=congrArg List.length S.pre;rw[List.length_take] at this;omega
 obtain⟨h1,tk,rfl,hk⟩:=x.done;have noA:∀b:Addr,b∉(cxOf CX P w K mg base N qual scope f cd A outer s H E).ex:=fun b z=>absurd (show b∈([]:List Addr) from z) (by simp);refine⟨⟨e0.mod,S.kind,rfl,rfl,aC _,fun y z c h1 h2=>?_,fun y hy=>?_,fun y c _ h=>?_,fun _=>hd,Around.frames_deeper e0.frames,.inr ⟨rfl,rfl⟩,fun b z=>absurd z (noA b),e0.bs,e0.bsz,fun b _ _=>noA b,fun b z=>absurd z (noA b),e0.funs,e0.frf⟩,
  rfl,e0.bare,Un.kept hk,⟨_,x.toInCall.ns,fun i y v h1 h2 h3=>?_⟩,fun y c h=>⟨_,x.cell y c h⟩,e0.hok.fresh (aC _),fun y c h=>?_,fun p hp=>absurd (show p∈([]:List (Addr×Obj)) from hp) (by simp),e0.hok.kept hk,?_⟩
 ·exact name_of_addr x.apart (PySem.mem_of_lookup h1) (PySem.mem_of_lookup h2)
 ·have hy:scope.names.lookup y=some .cell\/scope.names.lookup y=some .free:=hy;rcases hy with hy|hy
  ·exact xE hy
  ·exact absurd rfl (S.nofree _ (PySem.mem_of_lookup hy))
 ·exact JQ (x.above y c (PySem.mem_of_lookup h))
 ·have hi:i<vs.length:=by
   unfold start at h2;by_cases hi:i<vs.length
   ·exact hi
   ·rw[aN (by simpa using hi)] at h2;rw[bK] at h2;split at h2 <;> cases h2
  have ha:vs[i]?=some v:=by
   unfold start at h2;rw[aR (by simpa using hi),au] at h2;cases e:vs[i]? with
   |none=>rw[e] at h2;cases h2
   |some a=>rw[e] at h2;cases h2;rfl
  obtain⟨u,hu,rv⟩:=r.get ha;have hp:ps[i]?=some y:=by
   rw[<-S.pre,List.getElem?_take_of_lt ⋯];exact h1
  have ndP:ps.Nodup:=by rw[<-S.pre];exact S.nd.sublist (List.take_sublist _ _)
  refine⟨u,rv,?_⟩;rcases S.par y (aA hp) with k|k
  ·exact .inl ⟨k,uJ ndP hp hu k⟩
  ·obtain⟨c,e⟩:=xE (n:=s.heap.objs.size+1) k;refine .inr ⟨.inl k,c,e,?_⟩;have q:=x.cell y c e;rw[uM ndP hp hu (by show scope.names.lookup y≠_;rw[k];decide)] at q;exact q
 ·exact e0.hok.fresh (JQ (x.above y c (PySem.mem_of_lookup h)))
 ·unfold start;show _=N.length;rw[aw,af,bc];omega
theorem HS {CX:Bi}{P:Program}{w:World}{K:PySem.W.Frag}{mg:Str->Option Value}{base:Heap}{k:Nat}{f:Addr}{name qual:Str}{params:Arguments}{body:List Stmt}{scope:Scope}{dV kV doc pm cdv ct oc:Value}{an od:Option Addr}
  {osl:Array (Option Value)}{N ps:List Str}{sp:Sp} (lk:K.lookup f=some ⟨oc,od,.func (PySem.W.fnOf name qual params body scope dV kV doc pm an cdv ct),osl⟩) (hcd:PySem.W.codeIn K cdv qual=true) (S:FnScope N ps scope)
  (len:∀vs H Q E,sp vs H Q E->vs.length=ps.length)
  (hbody:∀(A:Around) (outer:List Env) (s:Shared) (H:Hp) (vs:List V) (Q:VK) (E:XK),Room k (A.deeper (envOfC qual scope s.heap.objs.size f cdv))->sp vs H Q E →
   ∃t,PSs (cxOf CX P w K mg base N qual scope f cdv A outer s H E) body t/\t { nx:=fun _ H'=>Q .non H',rt:=Q } (start N vs) H) :
  FnOk P w K mg base CX (k+1) f (PySem.W.fnOf name qual params body scope dV kV doc pm an cdv ct) ps sp:=by
 refine⟨len,fun A outer s H args us vs Q E hr e0 hb r hsp=>?_⟩;have hl:=len _ _ _ _ hsp;have KX:K.In s.heap:=e0.mod.kin.keeps fun b o e=>(e0.bs b o e).1;have lim:s.heap.NoLimit:=e0.mod.nolimit.keeps fun b o e=>(e0.bs b o e).1;have hkind:∀y∈ps.zip us,scope.names.lookup y.1=some .local\/(scope.names.lookup y.1=some .cell/\((cellsFrom (s.heap.objs.size+1) scope.names []).lookup y.1).isSome=true):=fun⟨n,v⟩ hy=>by
  rcases S.par n (JO hy).1 with q|q
  ·exact .inl q
  ·exact .inr ⟨q,PySem.W.cellsFrom_some _ _ _ (.inl q)⟩
 refine codeAny_call_function hr.depth (KX _ _ lk) rfl S.co S.gen rfl (PySem.W.codeRec_of KX hcd) (hb _ _ _ _ ?_);refine wpAny_newFunctionEnv_cells S.kind hkind fun env he s1 x=>?_;subst he;refine⟨lim.keeps x.toInCall.keep,codeAny_func ?_⟩;obtain⟨t,ht,hq⟩:=hbody A outer s H vs Q E (hr.deeper _) hsp;have I:cT (cxOf CX P w K mg base N qual scope f cdv A outer s H E) [] (start N vs) H s1:=AS S hr.hd e0 hl r x;refine wpAny_mono (ht [] s1 (start N vs) H _ I hq) (fun fl s' hs=>?_) fun e s' hs=>hs;have fin:∀{σ':St}{H':Hp}{v:V}{u:Value},cT (cxOf CX P w K mg base N qual scope f cdv A outer s H E) [] σ' H' s'->dX v u->Q v H'->CE outer P w H s Q u s' :=
  fun {σ' H' v u} J rv q=>⟨v,H',J.os,J.bare,J.base,J.hok,rv,q⟩
 cases fl with
 |ret u =>
  obtain⟨v,σ',H',J,rv,q⟩:=hs;exact fin J rv q
 |next =>
  obtain⟨σ',H',J,q⟩:=hs;exact fin (v:=V.non) (u:=Value.none) J rfl q
 |brk =>
  obtain⟨_,_,_,q⟩:=hs;exact False.elim q
 |cont =>
  obtain⟨_,_,_,q⟩:=hs;exact False.elim q
section
variable {X:Cx}{x:Str}{p pos:Pos}{e:Expr}{es:List Expr}{t:TA}{id T:String}{r:List V->Hp->VK->Prop}
noncomputable def tCB (r:List V->Hp->VK->Prop)(t:TA):TE:=fun σ H Q=>t σ H fun vs H1=>r vs H1 Q
theorem pe_callB (hc:CallR X (.builtin id) r)(hg:Gl X x)(hm:X.mg x=none)(hv:bootBuiltins x=some (.builtin id))(ha:PA X (e::es) t)(hn:x ≠ "__name__" := by decide)(hdb:(x==("__debug__" : Str))=false:=by decide)
  (he:starEach (e::es) X.env=(false,eval e X.env)::starEach es X.env:=by rfl) (hpl:(backTo pos (starEach es X.env)).any (·.1)=false:=by rfl):PE X (.Call (.Name x p) (e::es) [] pos) (tCB r t):=by
 intro pins s σ H Q I h;refine wpAny_Call_Name_kw (ld_blt I hg hm hv ?_ hn hdb);exact PyProof.Rows.callWith_builtin1 (thn (ha pos pins s σ H _ I h) fun us s1 ⟨vs,H1,I1,r1,q1⟩=>hc pins s1 σ H1 vs us Q I1 r1 q1) he hpl
theorem pe_callTy (hc:CallR X (.type T) r)(hg:Gl X x)(hm:X.mg x=none)(hv:bootBuiltins x=some (.type T))(ha:PA X (e::es) t)(hn:x ≠ "__name__" := by decide)(hdb:(x==("__debug__" : Str))=false:=by decide)
  (he:starEach (e::es) X.env=(false,eval e X.env)::starEach es X.env:=by rfl) (hpl:(backTo pos (starEach es X.env)).any (·.1)=false:=by rfl):PE X (.Call (.Name x p) (e::es) [] pos) (tCB r t):=by
 intro pins s σ H Q I h;refine wpAny_Call_Name_kw (ld_blt I hg hm hv ?_ hn hdb);exact PyProof.Rows.callWith_type1 (thn (ha pos pins s σ H _ I h) fun us s1 ⟨vs,H1,I1,r1,q1⟩=>hc pins s1 σ H1 vs us Q I1 r1 q1) he hpl
end
end L2
namespace HT
open PySem PyProof.Rows
section
open PySem.SeqAt
open PySem.AutoSeq1 (wpAny_loadPart')
open PySem.MeetsSeq PySem.MeetsSeq2 PySem.MeetsSeq3
end
section
variable {prog:Program}{w:World}{A:Around}{E:Value->Shared->Prop}{s:Shared}
theorem cat_tup {t b:Addr}{vs ws:List Value}{Q:Value->Shared->Prop}(ht:IsTup s.heap t vs.toArray)(hb:IsTup s.heap b ws.toArray)(hv:vs≠[])
  (h1:ws=[]->Q (.ref t) s) (h2:ws≠[]->Q (.ref s.heap.objs.size) { s with heap:=s.heap.push { cls:=.type "tuple", data:=.seq (vs++ws).toArray } })
  (hsz:vs.length+ws.length<=sizeLine):wpAny (model prog w) A (binaryOp .Add (.ref t) (.ref b)) Q E s:=by
 obtain⟨⟨cls,dd,data,sl⟩,ho,hc,n,hd⟩:=id ht;obtain⟨⟨cls2,dd2,data2,sl2⟩,ho2,hc2,n2,hd2⟩:=id hb;simp only at hc hd hc2 hd2;subst hc hd hc2 hd2;have e:vs.toArray++ws.toArray=(vs++ws).toArray:=by simp
 by_cases hw:ws=[]
 ·exact concat_meets ⟨_,ho,rfl⟩ ⟨_,ho2,rfl⟩ noFill_tuple_add seq_tuple_add PySem.F.slot_tuple_add PySem.F.entry_tuple_add (PySem.F.args_tuple_add_2 _ _)
   (tuple_addW1 t b vs.toArray ws.toArray n n2 dd dd2 sl sl2 (by simpa using hv) (by simp[hw])) ⟨ho,ho2,h1 hw⟩
 ·refine concat_meets ⟨_,ho,rfl⟩ ⟨_,ho2,rfl⟩ noFill_tuple_add seq_tuple_add PySem.F.slot_tuple_add PySem.F.entry_tuple_add (PySem.F.args_tuple_add_2 _ _)
   (tuple_addW2 t b vs.toArray ws.toArray n n2 dd dd2 sl sl2 (by simpa using hv) (by simpa using hw) (by rw[aE,aE];exact hsz)) ⟨ho,ho2,?_⟩
  rw[e];exact h2 hw
end
end HT
namespace L2
open PySem PySem.Spec PyProof.Rows
noncomputable abbrev TO:=St->Hp->(Option Int->Hp->Prop)->Prop
section
variable {X:Cx}{e:Expr}{te:TE}{lo hi:Option Expr}{tl th:TO}{pos p2:Pos}
noncomputable def EZ (K:PySem.W.Frag):R2:=fun x y H Q=>∃a b xs ys,x=.ref a/\y=.ref b/\jw K H a xs/\jw K H b ys/\xs≠[]/\xs.length+ys.length<=sizeLine ∧
 (ys=[]->Q (.ref a) H)/\(ys≠[]->∀p,H p=none->Q (.ref p) (eA H p (.tup (xs++ys))))
theorem cY.nil_iff {xs:List V}{us:List Value}(r:cY xs us):us=[]<->xs=[]:=by
 cases r with
 |nil=>simp
 |cons _ _=>simp
theorem DZ:OpR X (binaryOp .Add) (EZ X.K):=by
 intro pins s σ H x y v u Q I rx ry h;obtain⟨a,b,xs,ys,rfl,rfl,ha,hb,hx,hz,q1,q2⟩:=h;cases rx;cases ry;obtain⟨its,r1,p1,_⟩:=I.tuple ha;obtain⟨its2,r2,p2,_⟩:=I.tuple hb;refine HT.cat_tup p1 p2 (fun z=>hx (r1.nil_iff.mp z)) (fun z=>⟨.ref a,H,I,rfl,q1 (r2.nil_iff.mp z)⟩) (fun z=>?_) (by rw[<-r1.length,<-r2.length];exact hz);refine⟨.ref s.heap.objs.size,_,I.laid (t':=s.toks) (o:=.tup (xs++ys)) (fun b ob q=>ae _ q) (aC _) ?_,rfl,q2 (fun w=>z (r2.nil_iff.mpr w)) _ (I.hok.fresh (aC _))⟩;exact⟨by rw[aw];exact hz,_,r1.append r2,IsTup.new _ _⟩
end
noncomputable def ixN (n:Nat)(i:Int):Option Nat:=if 0<=i then (if i<n then some i.toNat else none) else if -(n:Int)<=i then some (i+n).toNat else none
noncomputable def atI {α:Type}(xs:List α)(i:Int):Option α:=(ixN xs.length i).bind fun j=>xs[j]?
theorem zK {n:Nat}{i:Int}{j:Nat}(h:ixN n i=some j):seqIndex? i n=some j/\j<n/\-(n:Int)<=i/\i<n:=by
 unfold ixN at h;by_cases h0:0<=i
 ·rw[if_pos h0] at h;by_cases h1:i<n
  ·rw[if_pos h1] at h;have e:i.toNat=j:=Option.some.inj h;exact⟨by rw[seqIndex_of h0 h1,e],by omega,by omega,h1⟩
  ·rw[if_neg h1] at h;cases h
 ·rw[if_neg h0] at h;by_cases h1:-(n:Int)<=i
  ·rw[if_pos h1] at h;have e:(i+n).toNat=j:=Option.some.inj h;exact⟨by rw[seqIndex_neg ⋯ h1,e],by omega,h1,by omega⟩
  ·rw[if_neg h1] at h;cases h
theorem vV {α:Type}{xs:List α}{i:Int}{v:α}(h:atI xs i=some v):∃j,seqIndex? i xs.length=some j/\xs[j]?=some v/\j<xs.length/\-(xs.length:Int)<=i/\i<xs.length:=by
 unfold atI at h;cases e:ixN xs.length i with
 |none=>rw[e] at h;cases h
 |some j =>
  rw[e] at h;obtain⟨h1,h2,h3,h4⟩:=zK e;exact⟨j,h1,h,h2,h3,h4⟩
def PlainIx (b:Expr):Prop:=∀o i,subscripted b false o i=operate [o,i] (getItem o i)
noncomputable def IxR (X:Cx)(r:R2):Prop :=
 ∀(value slice:Expr) (pins:List (Addr×Obj)) (s:Shared) (σ:St) (H:Hp) (x y:V) (v u:Value) (Q:VK),cT X pins σ H s->dX x v->dX y u->r x y H Q →
  subscripted slice false v u=operate [v,u] (getItem v u)->wpAny (model X.prog X.w) X.A (subscriptTail value slice v u) (EP X pins σ Q) X.xe s
noncomputable def Ju (X:Cx)(id:String)(r:V->List V->Hp->VK->Prop):Prop :=
 ∀(pins:List (Addr×Obj)) (s:Shared) (σ:St) (H:Hp) (x:V) (xs:List V) (v:Value) (us:List Value) (Q:VK),cT X pins σ H s->dX x v->cY xs us->r x xs H Q →
  wpAny (model X.prog X.w) X.A (call (.builtin id) (v::us)) (EP X pins σ Q) X.xe s
section
variable {X:Cx}{a b:Expr}{ta tb:TE}{pos:Pos}
theorem IxR.or {r r':R2}(h:IxR X r)(h':IxR X r'):IxR X (fun x y H Q=>r x y H Q\/r' x y H Q):=by
 intro value slice pins s σ H x y v u Q I rx ry q hs;rcases q with q|q
 ·exact h value slice pins s σ H x y v u Q I rx ry q hs
 ·exact h' value slice pins s σ H x y v u Q I rx ry q hs
theorem pe_ix {r:R2}(hr:IxR X r)(ha:PE X a ta)(hb:PE X b tb)(hs:PlainIx b):PE X (.Subscript a b pos) (tOp r ta tb):=by
 intro pins s σ H Q I h;exact Subscript_ (GX ha hb I h fun v u s2 x y H2 I2 rx ry q=>hr a b pins s2 σ H2 x y v u Q I2 rx ry q (hs _ _))
noncomputable def Hr (K:PySem.W.Frag):R2:=fun x y H Q=>∃p xs i v,x=.ref p/\y=.int i/\jT K H p xs/\atI xs i=some v/\Q v H
noncomputable def Ho (K:PySem.W.Frag):R2:=fun x y H Q=>∃p xs i v,x=.ref p/\y=.int i/\jw K H p xs/\atI xs i=some v/\Q v H
noncomputable def Hq:R2:=fun x y H Q=>∃z i c,x=.str z/\y=.int i/\z.length<=sizeLine/\atI z.cps.toList i=some c/\Q (.str ⟨#[c]⟩) H
theorem Ep:IxR X (Hr X.K):=by
 intro value slice pins s σ H x y v u Q I rx ry h hs;obtain⟨p,xs,i,z,rfl,rfl,hq,he,q⟩:=h;cases rx;obtain⟨t,rfl⟩:=ry;obtain⟨its,r,pl,hz⟩:=I.list hq;obtain⟨j,h1,h2,h3,h4,h5⟩:=vV he;obtain⟨w,ew,rw'⟩:=r.get h2;have hl:=r.length;have hn:=rW;have fin:EP X pins σ Q w s:=⟨z,H,I,rw',q⟩;by_cases h0:0<=i
 ·have hj:i.toNat=j:=by
   rw[seqIndex_of h0 h5] at h1;exact Option.some.inj h1
  exact item_listR pl.isList h0 ⋯ (by rw[hj];simpa using ew) fin hs
 ·have hj:(i+(its.toArray.size:Int)).toNat=j:=by
   rw[seqIndex_neg ⋯ h4] at h1;rw[aE,<-hl];exact Option.some.inj h1
  exact subscriptTail_builtinR (x:=w) pl.isList.typeIs slot_list_getitem.lookup
   (wpAny_getItem_list_neg (Q:=fun r s'=>r=w/\EP X pins σ Q r s') pl.isList ⋯ (by rw[aE] <;> omega) ⋯ (by rw[hj];simpa using ew) ⟨rfl,fin⟩) hs
theorem GA:IxR X (Ho X.K):=by
 intro value slice pins s σ H x y v u Q I rx ry h hs;obtain⟨p,xs,i,z,rfl,rfl,hq,he,q⟩:=h;cases rx;obtain⟨t,rfl⟩:=ry;obtain⟨its,r,pl,hz⟩:=I.tuple hq;obtain⟨j,h1,h2,h3,h4,h5⟩:=vV he;obtain⟨w,ew,rw'⟩:=r.get h2;have hl:=r.length;have hn:=rW;have fin:EP X pins σ Q w s:=⟨z,H,I,rw',q⟩;exact subscriptTail_builtinR (x:=w) pl.typeIs slot_tuple_getitem.lookup
  (getItem_tuple (j:=j) (Q:=fun r s'=>r=w/\EP X pins σ Q r s') pl ⋯ ⋯ (by rw[aE,<-hl];exact h1) (by simpa using ew) ⟨rfl,fin⟩) hs
theorem GB:IxR X Hq:=by
 intro value slice pins s σ H x y v u Q I rx ry h hs;obtain⟨z,i,c,rfl,rfl,hz,he,q⟩:=h;obtain⟨t,rfl⟩:=rx;obtain⟨t',rfl⟩:=ry;obtain⟨j,h1,h2,h3,h4,h5⟩:=vV he;have hl:z.cps.toList.length=z.length:=by simp[Str.length]
 rw[hl] at h1 h4 h5;have hn:=rW;exact tail_any (typeIs_str s z t) slot_str_getitem.lookup (getItem_str (c:=c) (by
  have e1:decide (i < -(2 ^ 63:Int))=false:=decide_eq_false ⋯;have e2:decide (i ≥ 2 ^ 63)=false:=decide_eq_false ⋯;rw[e1,e2,Bool.or_false]) (by rw[h1];simpa using h2) ⟨.str ⟨#[c]⟩,H,I.tok _,⟨_,rfl⟩,q⟩) hs
noncomputable def rIx (K:PySem.W.Frag):R2:=fun x y H Q=>Hr K x y H Q\/Ho K x y H Q\/Hq x y H Q
theorem ix_seq:IxR X (rIx X.K):=Ep.or (GA.or GB)
theorem yw (its:List Value)(n j:Nat)(u:Value):Obj.mapSeq (·.setIfInBounds j u) { cls:=.type "list", data:=.seq its.toArray n }={ cls:=.type "list", data:=.seq (its.set j u).toArray n }:=by
 simp[Obj.mapSeq]
theorem cT.lst {pins:List (Addr×Obj)}{σ:St}{H:Hp}{s:Shared}{p:Addr}{xs:List V}(I:cT X pins σ H s)(h:H p=some (.lst xs)) :
  ∃(its:List Value) (n:Nat),cY xs its/\s.heap.get? p=some { cls:=.type "list", data:=.seq its.toArray n }/\xs.length<=sizeLine:=by
 obtain⟨z,its,n,r,e⟩:=I.hok p _ h;exact⟨its,n,r,e,z⟩
theorem cT.lstUpd {pins:List (Addr×Obj)}{σ:St}{H:Hp}{s:Shared}{p:Addr}{xs ys:List V}{its its':List Value}{n n':Nat}{f:Obj->Obj}(I:cT X pins σ H s)(h:H p=some (.lst xs))
  (ho:s.heap.get? p=some { cls:=.type "list", data:=.seq its.toArray n }) (hf:f { cls:=.type "list", data:=.seq its.toArray n }={ cls:=.type "list", data:=.seq its'.toArray n' }) (r:cY ys its') (hz:ys.length<=sizeLine) (t:Nat) :
  cT X pins σ (eA H p (.lst ys)) { s with heap:=s.heap.update p f,toks:=t }:=by
 have e:(s.heap.update p f).get? p=some { cls:=.type "list", data:=.seq its'.toArray n' }:=by
  rw[Heap.get?_update_self f ho (by rw[hf] <;> rfl),hf]
 refine I.write (x:=p) (e:=p) (by rw[h];trivial) (.inl rfl) (fun b u hb q=>(Heap.get?_update_other _ _ (Ne.symm hb)).trans q) ⟨_,e⟩ ?_;exact⟨hz,its',n',r,e⟩
noncomputable def Hl:V->V->V->Hp->(Hp->Prop)->Prop:=fun o i v H Q=>∃p xs k j,o=.ref p/\i=.int k/\H p=some (.lst xs)/\ixN xs.length k=some j/\Q (eA H p (.lst (xs.set j v)))
theorem set_list:PSet X Hl:=by
 intro pins s σ H o i v ov iv u Q I ro ri rv h;obtain⟨p,xs,k,j,rfl,rfl,hp,hj,q⟩:=h;cases ro;obtain⟨t,rfl⟩:=ri;obtain⟨its,n,r,ho,hz⟩:=I.lst hp;obtain⟨h1,h2,h3,h4⟩:=zK hj;have hl:=r.length;have hn:=rW;have I':cT X pins σ (eA H p (.lst (xs.set j v))) { s with heap:=s.heap.update p (Obj.mapSeq (·.setIfInBounds j u)) } :=
  I.lstUpd hp ho (yw its n j u) (r.set rv j) (by rw[aY];exact hz) s.toks
 by_cases h0:0<=k
 ·have hk:k.toNat=j:=by
   rw[seqIndex_of h0 h4] at h1;exact Option.some.inj h1
  exact PySem.W.ki_setAt ho h0 ⋯ (by rw[aE,<-hl];exact h4) (by rw[hk];exact⟨_,I',q⟩)
 ·have hk:(k+(its.toArray.size:Int)).toNat=j:=by
   rw[seqIndex_neg ⋯ h3] at h1;rw[aE,<-hl];exact Option.some.inj h1
  exact PySem.W.ki_setBack ho ⋯ (by rw[aE,<-hl];exact h3) ⋯ (by rw[hk];exact⟨_,I',q⟩)
theorem call_len_seq:CallR X (.builtin "len") (fun xs H Q=>∃p ys,xs=[.ref p]/\(jT X.K H p ys\/jw X.K H p ys)/\Q (.int ys.length) H):=by
 intro pins s σ H xs us Q I r h;obtain⟨p,ys,rfl,hq,q⟩:=h;obtain⟨u,rfl,rx⟩:=EW r;cases rx;have hn:=rW;rcases hq with hq|hq
 ·obtain⟨its,r',pl,hz⟩:=I.list hq;have hlen:=r'.length;exact Calls.call_len_list pl.isList (by simp only[aE] <;> omega) ⟨.int ys.length,H,I.tok _,⟨s.toks+1,by rw[aE,hlen]⟩,q⟩
 ·obtain⟨its,r',pl,hz⟩:=I.tuple hq;have hlen:=r'.length;exact len_tuple pl (by simp only[aE] <;> omega) ⟨.int ys.length,H,I.tok _,⟨s.toks+1,by rw[aE,hlen]⟩,q⟩
theorem call_tuple_of:CallR X (.type "tuple") (fun xs H Q=>∃p ys,xs=[.ref p]/\((jT X.K H p ys/\∀l,H l=none->Q (.ref l) (eA H l (.tup ys)))\/(jw X.K H p ys/\Q (.ref p) H))):=by
 intro pins s σ H xs us Q I r h;obtain⟨p,ys,rfl,h⟩:=h;obtain⟨u,rfl,rx⟩:=EW r;cases rx;rcases h with ⟨hq,q⟩|⟨hq,q⟩
 ·obtain⟨its,r',pl,hz⟩:=I.list hq;have hlen:=r'.length;refine call_tuple_list pl.isList (fun h' kp=>?_) (by simp only[aE] <;> omega);have I1:cT X pins σ H { s with heap:=h' }:=I.kept (t':=s.toks) kp;have I2:cT X pins σ (eA H h'.objs.size (.tup ys)) { s with heap:=h'.push { cls:=.type "tuple", data:=.seq its.toArray } } :=
   I1.laid (t':=s.toks) (fun b o e=>ae _ e) (aC _) (show ObjOk X.prog X.w _ _ _ (.tup ys) from ⟨hz,its,r',IsTup.new _ _⟩)
  exact⟨.ref h'.objs.size,_,I2,rfl,q _ (I1.hok.fresh (aC _))⟩
 ·obtain⟨its,r',pl,hz⟩:=I.tuple hq;exact call_tuple_same pl ⟨.ref p,H,I,rfl,q⟩
def I0 (K:PySem.W.Frag)(T:String)(x:V)(H:Hp):Prop:=match x with
 |.str _=>T = "str"
 |.int _=>T = "int"
 | .ref p=>(T = "list" ∧ ∃xs,jT K H p xs)\/(T = "tuple" ∧ ∃o,K.lookup p=some o/\o.cls=.type "tuple" ∧ o.dict=none) ∨
   (T = "dict" ∧ ((∃kvs,H p=some (.dK kvs))\/∃kvs,H p=some (.dT kvs)))\/(T = "set" ∧ ∃S n,H p=some (.set S n))
 |_=>False
theorem FG {pins:List (Addr×Obj)}{σ:St}{H:Hp}{s:Shared}{T:String}{x:V}{v:Value}(I:cT X pins σ H s)(r:dX x v)(ty:I0 X.K T x H) :
  s.TypeIs v T/\∀a,v=.ref a->∃ob,s.heap.get? a=some ob/\ob.dict=none:=by
 cases x with
 |str z =>
  obtain⟨t,rfl⟩:=r;cases (show T = "str" from ty);exact⟨typeIs_str s z t,fun _ e=>nomatch e⟩
 |int i =>
  obtain⟨t,rfl⟩:=r;cases (show T = "int" from ty);exact⟨typeIs_int s i t,fun _ e=>nomatch e⟩
 |ref p =>
  cases r;rcases ty with ⟨rfl,xs,hq⟩|⟨rfl,o,hk,hc,hd⟩|⟨rfl,hk⟩|⟨rfl,S,n,hk⟩
  ·obtain⟨its,_,pl,_⟩:=I.list hq;refine⟨pl.isList.typeIs,fun a e=>?_⟩;cases e;obtain⟨o,n,e,c,hd,_⟩:=pl;exact⟨o,e,hd⟩
  ·refine⟨⟨o,I.kIn p o hk,hc⟩,fun a e=>?_⟩;cases e;exact⟨o,I.kIn _ o hk,hd⟩
  ·have z:∃o,s.heap.get? p=some o/\o.ExactDict:=by
    rcases hk with ⟨kvs,hk⟩|⟨kvs,hk⟩
    ·obtain⟨_,_,_,_,o,_,_,e,ex,_⟩:=I.hok p _ hk;exact⟨o,e,ex⟩
    ·obtain⟨_,_,_,_,o,_,_,e,ex,_⟩:=I.hok p _ hk;exact⟨o,e,ex⟩
   obtain⟨o,e,ex⟩:=z;refine⟨⟨o,e,ex.1⟩,fun a e2=>?_⟩;cases e2;exact⟨o,e,ex.2.1⟩
  ·obtain⟨o,_,_,_,e,ex,_⟩:=I.hok p _ hk;refine⟨⟨o,e,ex.1⟩,fun a e2=>?_⟩;cases e2;exact⟨o,e,ex.2.1⟩
 |_=>exact False.elim ty
noncomputable def Jl (K:PySem.W.Frag)(T:String)(r:V->List V->Hp->VK->Prop)(to:TE)(t:TA):TE:=fun σ H Q=>to σ H fun x H1=>I0 K T x H1/\t σ H1 fun xs H2=>r x xs H2 Q
variable {o e:Expr}{es:List Expr}{to:TE}{t:TA}{name:Str}{apos cpos:Pos}{T id:String}{r:V->List V->Hp->VK->Prop}
theorem pe_bm (pa:PlainAttrs T)(slot:Slot T name id)(hty:typeOf (.builtin id)=pure (.type "method_descriptor"))(hm:Ju X id r)(ho:PE X o to)(ha:PA X (e::es) t)
  (hbase:attributeBase o name X.env (eval o X.env)=eval o X.env:=by rfl)
  (hfew:((backTo cpos (starEach (e::es) X.env)).all (fun x=>!x.1)&&(backToKw cpos (keywordEach [] X.env)).all (fun x=>x.1.isSome)
   && decide ((e::es).length+([]:List Keyword).length+(if ([]:List Keyword).isEmpty then 0 else 1)<30))=true:=by rfl)
  (hline:(apos.endLine==cpos.line)=true:=by rfl) (hs:starEach (e::es) X.env=(false,eval e X.env)::starEach es X.env:=by rfl) (hplain:(backTo cpos (starEach es X.env)).any (·.1)=false:=by rfl) :
  PE X (.Call (.Attribute o name apos) (e::es) [] cpos) (Jl X.K T r to t):=by
 intro pins s σ H Q I h;refine wpAny_Call_method_late hbase hfew hline rfl (thn (ho pins s σ H _ I h) fun v s1 zz=>?_);obtain ⟨x,H1,I1,r1,ty,q1⟩:=zz;obtain⟨h1,h2⟩:=FG I1 r1 ty;refine⟨T,id,pa,slot,hty,h1,h2,?_⟩;have hA:=ha cpos pins s1 σ H1 _ I1 q1;rw[hs] at hA ⊢;refine Calls.callWith_builtin (by show (false||(backTo cpos (starEach es X.env)).any (·.1))=false;rw[hplain] <;> rfl) (Calls.evalArgs_plain ?_);exact thn hA fun us s2 ⟨vs,H2,I2,r2,q2⟩=>hm pins s2 σ H2 x vs v us Q I2 r1 r2 q2
end
noncomputable def Jd (X:Cx)(id:String)(r:V->List V->Hp->VK->Prop):Prop :=
 ∀(pins:List (Addr×Obj)) (s:Shared) (σ:St) (H:Hp) (x:V) (xs:List V) (v:Value) (us:List Value) (Q:VK),cT X pins σ H s->dX x v->cY xs us->r x xs H Q →
  wpAny (model X.prog X.w) X.A (call (.builtin id) (v::us)) (EP X pins σ Q) X.xe s
theorem cY.one:∀{x:V}{us:List Value},cY [x] us->∃u,us=[u]/\dX x u:=by
 intro x us h;cases h with
 |cons r q=>cases q; exact ⟨_,rfl,r⟩
theorem cY.two:∀{x y:V}{us:List Value},cY [x,y] us->∃u v,us=[u,v]/\dX x u/\dX y v:=by
 intro x y us h;cases h with
 |cons r q=>
  cases q with
  |cons q z=>cases z; exact ⟨_,_,rfl,r,q⟩
theorem cY.rep {xs:List V}{us:List Value}(h:cY xs us):∀k:Nat,cY (aH k xs).flatten (aH k us).flatten
 |0=>.nil
 | k+1=>by
  rw[bz,bz,bL,bL];exact cY.append h (cY.rep h k)
theorem uc (its:List Value):∀(k:Nat) (acc:List Value),
  List.foldl (fun x1 x2=>x1++x2) acc.toArray (aH k its.toArray)=(acc++(aH k its).flatten).toArray
 |0,acc=>by simp
 | k+1,acc=>by
  have e:acc.toArray++its.toArray=(acc++its).toArray:=by simp
  have e2:(acc++its)++(aH k its).flatten=acc++(aH (k+1) its).flatten:=by
   rw[bz,bL,ba]
  rw[<-e2,<-uc its k (acc++its),<-e,bz,List.foldl_cons]
section
variable {X:Cx}{pins:List (Addr×Obj)}{σ:St}{H:Hp}{s:Shared}{l b:Addr}{xs ys zs:List V}
theorem cT.lset {its its':List Value}{n:Nat}{f:Array Value->Array Value}{t':Nat}(I:cT X pins σ H s)(hH:H l=some (.lst xs))
  (e:s.heap.get? l=some { cls:=.type "list", data:=.seq its.toArray n }) (hf:f its.toArray=its'.toArray) (hv:cY ys its') (hz:ys.length<=sizeLine) :
  cT X pins σ (eA H l (.lst ys)) { s with heap:=s.heap.update l (Obj.mapSeq f),toks:=t' }:=by
 have q:=PySem.IsL.update e f;rw[hf] at q;refine I.write (x:=l) (e:=l) (by rw[hH];exact trivial) (.inl rfl) (fun b' u hb hu=>(Heap.get?_update_other s.heap (Obj.mapSeq f) (Ne.symm hb)).trans hu) ⟨_,q⟩ ?_;exact⟨hz,its',_,hv,q⟩
theorem cT.lnew {its:List Value}{t':Nat}(I:cT X pins σ H s)(hv:cY ys its)(hz:ys.length<=sizeLine) :
  cT X pins σ (eA H s.heap.objs.size (.lst ys)) { s with heap:=s.heap.push { cls:=.type "list", data:=.seq its.toArray },toks:=t' } :=
 I.laid (fun _ _ q=>ae _ q) (aC _) ⟨hz,its,0,hv,aD _ rfl⟩
theorem cT.fresh (I:cT X pins σ H s):H s.heap.objs.size=none:=I.hok.fresh (aC _)
theorem cT.lstM (I:cT X pins σ H s)(hH:H l=some (.lst xs)):xs.length<=sizeLine/\∃(its:List Value) (n:Nat),cY xs its/\xs.length=its.length/\s.heap.get? l=some { cls:=.type "list", data:=.seq its.toArray n }:=by
 obtain⟨z,its,n,r,e⟩:=I.hok l _ hH;exact⟨z,its,n,r,r.length,e⟩
theorem w4 {n:Nat}(h:n<=sizeLine):Builtin.List.listTooLong n=false:=by
 unfold Builtin.List.listTooLong;exact decide_eq_false ⋯
end
section
variable {X:Cx}
noncomputable def DO:V->List V->Hp->VK->Prop:=fun x vs H Q=>∃l xs y,x=.ref l/\vs=[y]/\H l=some (.lst xs)/\xs.length<sizeLine/\Q .non (eA H l (.lst (xs++[y])))
theorem mt_append:Jd X "list.append" DO:=by
 intro pins s σ H x vs v us Q I rx rv h;obtain⟨l,xs,y,rfl,rfl,hH,hz,q⟩:=h;cases rx;obtain⟨u,rfl,ru⟩:=rv.one;obtain⟨z,its,n,r,hl,e⟩:=I.lstM hH;refine call_meets F.slot_list_append ⟨_,e,rfl⟩ F.entry_list_append (F.args_list_append_2 _ _) (PySem.list_append l its.toArray n u (by rw[aE];omega)) ⟨e,?_⟩;refine⟨.non,_,I.lset (its':=its++[u]) hH e (by simp) (r.append (.cons ru .nil)) ?_,rfl,q⟩;rw[aw,aP];omega
noncomputable def DN:V->List V->Hp->VK->Prop:=fun x vs H Q=>∃l b xs zs,x=.ref l/\vs=[.ref b]/\H l=some (.lst xs)/\H b=some (.lst zs)/\xs.length+zs.length<=sizeLine/\Q .non (eA H l (.lst (xs++zs)))
theorem mt_extend:Jd X "list.extend" DN:=by
 intro pins s σ H x vs v us Q I rx rv h;obtain⟨l,b,xs,zs,rfl,rfl,hH,hB,hz,q⟩:=h;cases rx;obtain⟨u,rfl,ru⟩:=rv.one;cases ru;obtain⟨z,its,n,r,hl,e⟩:=I.lstM hH;obtain⟨z2,its2,n2,r2,hl2,e2⟩:=I.lstM hB;have hsz:its.toArray.size+its2.toArray.size<=sizeLine:=by rw[aE,aE];omega
 have hlong:¬(!its.toArray.isEmpty&&Builtin.List.listTooLong (its.toArray.size+its2.toArray.size))=true:=by
  rw[w4 hsz,Bool.and_false];exact Bool.false_ne_true
 refine call_meets F.slot_list_extend ⟨_,e,rfl⟩ F.entry_list_extend (F.args_list_extend_2 _ _)
  (AutoSeq1.list_extend_list_list_0 l its.toArray n b its2.toArray n2 hlong (by rw[aE];omega) ⋯) ⟨e,e2,?_⟩
 refine⟨.non,_,I.lset (its':=its++its2) hH e (by simp) (r.append r2) ?_,rfl,q⟩;rw[aw];omega
noncomputable def IF:R2:=fun x y H Q=>∃l k xs,x=.ref l/\y=.int k/\H l=some (.lst xs)/\-(2 ^ 63)<=k/\k<2 ^ 63/\xs.length*k.toNat<=sizeLine ∧
 ∀p,H p=none->Q (.ref p) (eA H p (.lst (aH k.toNat xs).flatten))
theorem Ej {α:Type}(xs:List α)(k:Nat):(aH k xs).flatten.length=k*xs.length:=by
 induction k with
 |zero=>simp
 |succ k ih=>rw[bz,bL,aw,ih,Nat.succ_mul,Nat.add_comm]
theorem op_rep:OpR X (binaryOp .Mult) IF:=by
 intro pins s σ H x y v u Q I rx ry h;obtain⟨l,k,xs,rfl,rfl,hH,h1,h2,hz,q⟩:=h;cases rx;obtain⟨t,rfl⟩:=ry;obtain⟨z,its,n,r,hl,e⟩:=I.lstM hH;have hlen:its.toArray.size*k.toNat<=sizeLine:=by rw[aE,<-hl];exact hz
 have hcap:¬its.toArray.size*k.toNat>(2 ^ 63-1)/8:=by
  have:(sizeLine:Nat)<=(2 ^ 63-1)/8:=by decide
  omega
 have hfit:¬(!Builtin.List.listFitsIndex k)=true:=by
  rw[fitsIndex_both h1 h2];exact Bool.false_ne_true
 have hlong:¬Builtin.List.listTooLong (its.toArray.size*k.toNat)=true:=by
  rw[w4 hlen];exact Bool.false_ne_true
 have hnew:List.foldl (fun x1 x2=>x1++x2) #[] (aH (if its.toArray.isEmpty=true then 0 else k.toNat) its.toArray)=(aH k.toNat its).flatten.toArray:=by
  have f0:∀m:Nat,List.foldl (fun x1 x2=>x1++x2) #[] (aH m its.toArray)=(aH m its).flatten.toArray:=fun m=>by
   have:=uc its m [];rw[bN] at this;exact this
  rw[f0];cases its with
  |nil=>simp
  |cons a r'=>rw[if_neg (by simp)]
 refine wpAny_binaryOp_repeat_ref (T := "list") (U := "int") (by decide) ⟨_,e,rfl⟩ (fun s'=>typeIs_int s' k t) noFill_list_mul F.fills_int_mul F.slot_int_rmul repeat_list F.slot_int_index.lookup
  (call_meets F.slot_int_rmul (typeIs_int s k t) F.entry_int_rmul (F.args_int_rmul_2 _ _) (int___rmul___int_list k t l its.toArray n)
   ⟨e,rfl,⟨_,e,rfl⟩,call_meets F.slot_list_mul ⟨_,e,rfl⟩ F.entry_list_mul (F.args_list_mul_2 _ _) (AutoListH.list___mul___list_int_3 l its.toArray n k t hfit hcap hlong) ⟨e,?_⟩⟩)
 rw[hnew];exact⟨.ref _,_,I.lnew (t':=s.toks) (r.rep k.toNat) (by rw[Ej,Nat.mul_comm];exact hz),rfl,q _ I.fresh⟩
end
section
variable {prog:Program}{w:World}{A:Around}{E:Value->Shared->Prop}{s:Shared}
set_option maxRecDepth 100000 in
end
section
variable {X:Cx}
end
end L2
namespace Att
open PySem PySem.W PySem.Calls PyProof.Rows
theorem qF {P:Params}{h:Heap}:∀(ns:List Int) (vs:List Value),WellAll P h vs (ns.map WData.int)->IntsAre vs ns:=by
 intro ns;induction ns with
 |nil =>
  intro vs w;rw[bI] at w;cases w;exact .nil
 |cons n ns ih =>
  intro vs w;rw[az] at w;cases w with
  |cons a b =>
   cases a;exact .cons _ _ (ih _ b)
theorem Am {l:OpenLaw}{n:Nat}(hn:l.most=some n){P:Params}{h:Heap}{args:List WData}{vals:List Value}
  (hpre:l.row.toRowW.claim.pre args=true) (hwl:WellAll P h vals args) :
  ∃a vs ns,vals=[Value.ref a]/\args=[WData.list (ns.map WData.int)]/\h.get? a=some { cls:=.type "list", data:=.seq vs.toArray }/\IntsAre vs ns/\ns.length<=n:=by
 have hsh:WShape.hasAll [] args [.list .int]=true:=(pre_splitW hpre).1;have hc:l.pre.holds [] { args:=args }=true:=(pre_splitW hpre).2;obtain⟨d,r,rfl,h1,h2⟩:=hasAllW_cons hsh
 obtain rfl:=hasAllW_nil h2
 obtain⟨xs,rfl,h3⟩:=hasW_list h1;obtain⟨ns,rfl⟩:=items_int h3;have hlen:ns.length<=n:=by
  unfold OpenLaw.pre at hc;have h4:(WTm.not (.lt (.lit (.int (n:Int))) (.len (.arg 0)))).holds [] { args:=[.list (ns.map .int)] }=true:=by
   have h4:=(holds_andW hc).1;rw[hn] at h4;exact h4
  have h5:=condW_of h4 (w_not (w_lt w_lit (w_len_list (w_arg rfl))));rw[af] at h5;refine Nat.le_of_not_lt fun q=>?_;have q':(n:Int)<((ns.length:Nat):Int):=by omega
  first
   |(rw[decide_eq_true q'] at h5;exact absurd h5 (by decide))
   |(simp at h5;omega)
 cases hwl with
 |cons w1 w2 =>
  cases w2;cases w1 with
  |list ho hall=>exact⟨_,_,ns,rfl,rfl,ho,qF ns _ hall,hlen⟩
theorem Av (l:OpenLaw)(args:List WData):l.row.toRowW.claim.post args (.bool true) args=true :=
 postW_of (r:=l.row.toRowW) (X:=(true==true))
  (show WShape.has [] (.bool true) .bool=true by first|rfl|decide|simp[WShape.has,WShape.arms,WShape.armsAll])
  (show (WTm.eq .res (.lit (.bool true))).value [] { args:=args,res:=some (.bool true),after:=args }=some (.bool (true==true)) from w_eq_bool (w_res rfl) w_lit) rfl
theorem attach_call {l:OpenLaw}{n:Nat}{q:Program}{loose:List Str}{XP:(Str->Option Value)->Heap->Prop}{YP:World->Heap->Prop}{d:DefRec}
  (hn:l.most=some n) (hdf:d.params.defaults=[])
  (call:∀(w:World) (s₀ s₁:Shared) (mg mb:Str->Option Value) (fa:Addr) (o:Obj) (pm cd doc:Value) (a:Addr) (vs:List Value) (ns:List Int),
   Ground q loose [] XP w s₀ mg mb s₁.heap->YP w s₁.heap →
   s₁.heap.get? fa=some o->o.data=.func (docDef d.name d.params d.body d.scope pm cd doc)->s₁.heap.CodeRec cd d.name->mg d.name=some (.ref fa) →
   s₁.heap.get? a=some { cls:=.type "list", data:=.seq vs.toArray }->IntsAre vs ns->ns.length<=n->s₁.gens=#[] →
   codeAny (model l.prog w) callerA (.call (.ref fa) ⟨[.ref a],[]⟩) (fun r s'=>r=.ok (.ret (.bool true))/\OldK s₁.heap s'.heap/\s'.os=s₁.os/\AllBare s'.gens) s₁) :
  WalkO q loose XP YP l.row.toRowW d [] (fun f vs=>PySem.call f vs):=by
 intro w s₀ s₁ mg mb G Y fa o pm cd doc dV kV ho hd hcd hD hmg hg args vals as hpre hlay hrd hwl hlo
 obtain rfl:dV=.none:=Dflts.none hD hdf
 obtain rfl:kV=.none:=Dflts.noKw hD
 obtain⟨a,vs,ns,rfl,rfl,hobj,hints,hlen⟩:=Am hn hpre hwl;refine enter_call (codeAny_mono (call w s₀ s₁ mg mb fa o pm cd doc a vs ns G Y ho (fd_plain hd) hcd hmg hobj hints hlen hg) fun r s' hq=>?_);obtain⟨rfl,h2,h3,h4⟩:=hq;exact⟨.inl ⟨.bool true,.bool true,[],rfl,fun _=>rfl,.bool true,Av l _,fun _=>⟨List.Pairwise.nil,fun _ hm=>(nomatch hm)⟩⟩,h2,h3,h4⟩
section
variable {prog:Program}{w:World}{A:Around}{E:Value->Shared->Prop}{s:Shared}{K:Frag}
end
end Att
namespace L2
open PySem PySem.Spec PyProof.Rows
theorem Ad:∀{vs:List Value}{ns:List Int},IntsAre vs ns->cY (ns.map V.int) vs:=by
 intro vs ns h;induction h with
 |nil=>exact .nil
 |cons n t _ ih=>exact .cons ⟨t,rfl⟩ ih
def EO (H:Hp):Prop:=∀b,H b=none\/∃o xs,H b=some (.frz o (.lst xs))
theorem Cf {P:Program}{w:World}{K:PySem.W.Frag}{mg mb:Str->Option Value}{CX:Bi}{k:Nat}{fa a:Addr}{fd:FuncData}{x:Str}{sp:Sp}{s₁:Shared}{vs:List Value}{ns:List Int}
  (KX:K.In s₁.heap) (hns:s₁.heap.Ns mainGlobals mg) (hb:s₁.heap.Ns builtinsNs mb) (hbb:∀x:Str,x ≠ "__name__" ->mb x=bootBuiltins x) (hlim:s₁.heap.NoLimit) (hg:s₁.gens=#[])
  (ha:s₁.heap.get? a=some { cls:=.type "list", data:=.seq vs.toArray }) (hi:IntsAre vs ns) (hl:ns.length<=sizeLine) (hr:Room k callerA)
  (F:∀base:Heap,K.In base->base.Ns mainGlobals mg->FnOk P w K mg base CX k fa fd [x] sp) (hbind:∀(s:Shared) (u:Value),BindsTo s fd ⟨[u],[]⟩ [(x,u)])
  (hsp:∀H:Hp,EO H->jT K H a (ns.map V.int)->sp [.ref a] H (fun v _=>v=.bl true) fun _ _ _=>False)
  (hCX:∀H e s',CX [] H s₁ (fun _ _ _=>False) e s'->False) :
  codeAny (model P w) callerA (.call (.ref fa) ⟨[.ref a],[]⟩) (fun r s'=>r=.ok (.ret (.bool true))/\OldK s₁.heap s'.heap/\s'.os=s₁.os/\AllBare s'.gens) s₁:=by
 have rv:=Ad hi;have lenV:=hi.length;have core:∀H:Hp,EO H->jT K H a (ns.map V.int)->sS P w H s₁.heap->(∀b,H b≠none->b=a)->(H a≠none->K.lookup a=none) →
   codeAny (model P w) callerA (.call (.ref fa) ⟨[.ref a],[]⟩) (fun r s'=>r=.ok (.ret (.bool true))/\OldK s₁.heap s'.heap/\s'.os=s₁.os/\AllBare s'.gens) s₁:=by
  intro H hO hS hok hA hK;have base_of:∀{b:Addr}{o:Obj},s₁.heap.get? b=some o->H b=none->(vD s₁.heap H).get? b=some o:=fun e n=>Cp e n;have noA:∀{b:Addr}{o:Obj}{es:Array DictEntry}{ep:Nat},s₁.heap.get? b=some o->o.data=.dict es ep->H b=none:=fun {b o es ep} e d=>by
   cases q:H b with
   |none=>rfl
   |some u =>
    have e':b=a:=hA b (by rw[q];simp);subst e';rw[ha] at e;cases e;have d':Data.seq vs.toArray _=Data.dict es ep:=d;cases d'
  have nsK:∀{b:Addr}{m:Str->Option Value},s₁.heap.Ns b m->(vD s₁.heap H).Ns b m:=fun {b m} ⟨o,es,ep,e,d,r⟩=>⟨o,es,ep,base_of e (noA e d),d,r⟩;have hKb:K.In (vD s₁.heap H):=fun b o e=>base_of (KX b o e) (by
   cases q:H b with
   |none=>rfl
   |some u =>
    have e':b=a:=hA b (by rw[q];simp);subst e';rw[hK (by rw[q];simp)] at e;cases e)
  have hM:Mod K mg (vD s₁.heap H):=⟨hKb,nsK hns,⟨mb,nsK hb,hbb⟩,let ⟨mc,h1,h2⟩:=hlim;⟨mc,nsK h1,h2⟩⟩;have e0:ES P w K mg (vD s₁.heap H) callerA [] s₁ H:=⟨rfl,hM,fun b o e=>D7 e,Nat.le_of_eq (AU _ _),trivial,fun b hb=>absurd (show b∈([]:List Addr) from hb) (by simp),hok,.of_eq hg⟩;refine codeAny_mono ((F _ hKb (nsK hns)).run callerA [] s₁ H ⟨[.ref a],[]⟩ [.ref a] [.ref a] _ _ hr e0 (hbind s₁ (.ref a)) (.cons rfl .nil) (hsp H hO hS)) fun r s' h=>?_;cases r with
  |error e=>exact (hCX H e s' h).elim
  |ok fl =>
   cases fl with
   |next=>exact False.elim h
   |brk=>exact False.elim h
   |cont=>exact False.elim h
   |ret u =>
    obtain⟨v,H',os,bare,un,hok',r',q⟩:=h;have q':v=.bl true:=q;subst q'
    obtain rfl:u=Value.bool true:=r'
    refine⟨rfl,OldK.of_keep fun b o e=>?_,os,bare⟩;cases q:H b with
    |none=>exact un.keep b o e q (by intro z;exact absurd (show b∈([]:List Addr) from z) (by simp)) (by simp)
    |some u =>
     rcases hO b with z|⟨ob,xs,z⟩
     ·rw[q] at z;cases z
     ·have z2:=un.frzs b ob _ z;obtain⟨e1,_⟩:=hok b _ z;obtain⟨e2,_⟩:=hok' b _ z2;rw[e] at e1;cases e1;exact e2
 cases hk:K.lookup a with
 |some o =>
  have e:=KX a o hk;rw[ha] at e;cases e;refine core (fun _=>none) (fun _=>.inl rfl) (.inr ⟨_,vs.toArray,_,hk,rfl,rfl,rfl,by rw[aE,lenV];exact hl,by simpa using rv⟩) (fun b u z=>by have z':(none:Option HO)=some u:=z;cases z') (fun b z=>absurd rfl z) fun z=>absurd rfl z
 |none =>
  refine core (fun b=>if b=a then some (.frz { cls:=.type "list", data:=.seq vs.toArray } (.lst (ns.map V.int))) else none) (fun b=>?_) (.inl (.inr ⟨{ cls:=.type "list", data:=.seq vs.toArray },if_pos rfl⟩)) (fun b u z=>?_) (fun b z=>?_) fun _=>hk
  ·by_cases hb:b=a
   ·exact .inr ⟨_,_,if_pos hb⟩
   ·exact .inl (if_neg hb)
  ·by_cases hb:b=a
   ·have z':=(if_pos hb).symm.trans z;cases z';subst hb;exact⟨ha,by rw[af];exact hl,vs,_,rv,ha⟩
   ·have z':=(if_neg hb).symm.trans z;cases z'
  ·by_cases hb:b=a
   ·exact hb
   ·exact absurd (if_neg hb) z
theorem Dt {l:PySem.W.OpenLaw}{n k:Nat}{q:Program}{loose:List Str}{XP:(Str->Option Value)->Heap->Prop}{YP:World->Heap->Prop}{d:DefRec}{K:Params->PySem.W.Frag}{CX:World->Bi}{sp:World->Sp}{x:Str}
  (hn:l.most=some n) (hn2:n<=sizeLine) (hdf:d.params.defaults=[]) (hr:Room k callerA)
  (hY:∀(w:World) (h:Heap),YP w h->(K w.params).In h)
  (F:∀(w:World) (mg:Str->Option Value) (fa:Addr) (h:Heap),(K w.params).In h->h.Ns mainGlobals mg->mg d.name=some (.ref fa) →
   ∃fd:FuncData,(∀(s:Shared) (u:Value),BindsTo s fd ⟨[u],[]⟩ [(x,u)]) ∧
    ∀base:Heap,(K w.params).In base->base.Ns mainGlobals mg->FnOk l.prog w (K w.params) mg base (CX w) k fa fd [x] (sp w))
  (hsp:∀(w:World) (H:Hp) (a:Addr) (ns:List Int),ns.length<=n->EO H->jT (K w.params) H a (ns.map V.int)->sp w [.ref a] H (fun v _=>v=.bl true) fun _ _ _=>False)
  (hCX:∀(w:World) (H:Hp) (s:Shared) (e:Value) (s':Shared),CX w [] H s (fun _ _ _=>False) e s'->False) :
  PySem.W.WalkO q loose XP YP l.row.toRowW d [] (fun f vs=>PySem.call f vs):=by
 refine Att.attach_call hn hdf fun w s₀ s₁ mg mb fa o pm cd doc a vs ns G Y ho hd hcd hmg hobj hints hlen hg=>?_;have KX:=hY w _ Y;obtain⟨fd,hb,hF⟩:=F w mg fa _ KX G.T.g hmg;exact Cf KX G.T.g G.T.b G.T.builtins G.T.nolimit hg hobj hints (bo hlen hn2) hr hF hb (fun H hO hS=>hsp w H a ns hlen hO hS) fun H e s'=>hCX w H s₁ e s'
theorem walk_ofK {l:PySem.W.OpenLaw}{n k:Nat}{q:Program}{loose:List Str}{XP:(Str->Option Value)->Heap->Prop}{YP:World->Heap->Prop}{d:DefRec}{K:Params->PySem.W.Frag}{CX:Bi}{sp:PySem.W.Frag->Sp}{x:Str}
  (hn:l.most=some n) (hn2:n<=sizeLine) (hdf:d.params.defaults=[]) (hr:Room k callerA)
  (hY:∀(w:World) (h:Heap),YP w h->(K w.params).In h)
  (F:∀(w:World) (mg:Str->Option Value) (fa:Addr) (h:Heap),(K w.params).In h->h.Ns mainGlobals mg->mg d.name=some (.ref fa) →
   ∃fd:FuncData,(∀(s:Shared) (u:Value),BindsTo s fd ⟨[u],[]⟩ [(x,u)]) ∧
    ∀base:Heap,(K w.params).In base->base.Ns mainGlobals mg->FnOk l.prog w (K w.params) mg base CX k fa fd [x] (sp (K w.params)))
  (hsp:∀(K:PySem.W.Frag) (H:Hp) (a:Addr) (ns:List Int),ns.length<=n->EO H->jT K H a (ns.map V.int)->sp K [.ref a] H (fun v _=>v=.bl true) fun _ _ _=>False)
  (hCX:∀(H:Hp) (s:Shared) (e:Value) (s':Shared),CX [] H s (fun _ _ _=>False) e s'->False) :
  PySem.W.WalkO q loose XP YP l.row.toRowW d [] (fun f vs=>PySem.call f vs) :=
 Dt (K:=K) (CX:=fun _=>CX) (sp:=fun w=>sp (K w.params)) hn hn2 hdf hr hY F (fun w H a ns h1 h2 h3=>hsp (K w.params) H a ns h1 h2 h3) fun _ H s e s'=>hCX H s e s'
noncomputable def defArgs (s:Stmt):Arguments:=match s with
 |.FunctionDef _ a _ _ _ _ _ _ _ _=>a
 |_=>{ posonlyargs:=[],args:=[],vararg:=none,kwonlyargs:=[],kw_defaults:=[],kwarg:=none,defaults:=[] }
noncomputable def defBody (s:Stmt):List Stmt:=match s with
 |.FunctionDef _ _ b _ _ _ _ _ _ _=>b
 |_=>[]
noncomputable def defScope (s:Stmt):Scope:=match s with
 |.FunctionDef _ _ _ _ _ _ sc _ _ _=>sc
 |_=>{ kind:=.function,names:=[],isGenerator:=false,isCoroutine:=false }
noncomputable abbrev CX0:Bi:=fun _ _ _ _ _ _=>False
noncomputable abbrev E0:XK:=fun _ _ _=>False
theorem pass0 {X:Cx}:zh CX0 X E0:=fun _ _ _ _ _ _ _ h=>h.elim
structure Fun (K:PySem.W.Frag)(x qual:Str)(st:Stmt)(f:Addr)(fd:FuncData):Prop where
 ex:∃(oc:Value) (od:Option Addr) (kV doc pm:Value) (an:Option Addr) (cdv ct:Value) (osl:Array (Option Value)),
  fd=PySem.W.fnOf x qual (defArgs st) (defBody st) (defScope st) .none kV doc pm an cdv ct/\K.lookup f=some ⟨oc,od,.func fd,osl⟩/\PySem.W.codeIn K cdv qual=true
 kp:PySem.W.keepIn K (.ref f)=true
section
variable {P:Program}{w:World}{K:PySem.W.Frag}{mg:Str->Option Value}{base:Heap}
theorem Fun.ok {x qual:Str}{st:Stmt}{f:Addr}{fd:FuncData}{N ps:List Str}{k:Nat}{sp:Sp}(F:Fun K x qual st f fd)(S:FnScope N ps (defScope st))(len:∀vs H Q E,sp vs H Q E->vs.length=ps.length)
  (hbody:∀(cdv:Value) (A:Around) (outer:List Env) (s:Shared) (H:Hp) (vs:List V) (Q:VK) (E:XK),Room k (A.deeper (envOfC qual (defScope st) s.heap.objs.size f cdv))->sp vs H Q E →
   ∃t,PSs (cxOf CX0 P w K mg base N qual (defScope st) f cdv A outer s H E).nox (defBody st) t/\t { nx:=fun _ H'=>Q .non H',rt:=Q } (start N vs) H):FnOk P w K mg base CX0 (k+1) f fd ps sp:=by
 obtain⟨oc,od,kV,doc,pm,an,cdv,ct,osl,rfl,lk,hcd⟩:=F.ex;refine HS lk hcd S len fun A outer s H vs Q E hr hsp=>?_;obtain⟨t,h,q⟩:=hbody cdv A outer s H vs Q E hr hsp;exact⟨t,h.nox,q⟩
theorem Fun.binds {x qual:Str}{st:Stmt}{f:Addr}{fd:FuncData}{ps:List Str}(F:Fun K x qual st f fd)
  (h:∀(kV doc pm:Value) (an:Option Addr) (cdv ct:Value) (us:List Value),us.length=ps.length->bindArgs (PySem.W.fnOf x qual (defArgs st) (defBody st) (defScope st) .none kV doc pm an cdv ct) ⟨us,[]⟩=pure (ps.zip us)):Binds K fd ps []:=by
 obtain⟨oc,od,kV,doc,pm,an,cdv,ct,osl,rfl,lk,hcd⟩:=F.ex;exact .all (h kV doc pm an cdv ct)
theorem fun_mk {x qual:Str}{st:Stmt}{f:Addr}{oc:Value}{od an:Option Addr}{osl:Array (Option Value)}{kV doc pm cdv ct:Value}(l:K.lookup f=some ⟨oc,od,.func (PySem.W.fnOf x qual (defArgs st) (defBody st) (defScope st) .none kV doc pm an cdv ct),osl⟩)
  (c:PySem.W.codeIn K cdv qual=true) (k:PySem.W.keepIn K (.ref f)=true):Fun K x qual st f (PySem.W.fnOf x qual (defArgs st) (defBody st) (defScope st) .none kV doc pm an cdv ct):=⟨⟨oc,od,kV,doc,pm,an,cdv,ct,osl,rfl,l,c⟩,k⟩
end
section
variable {X:Cx}
end
def dq (H H':Hp):Prop:=∀b o,H b=some o->H' b=some o
theorem dq.refl (H:Hp):dq H H:=fun _ _ h=>h
theorem dq.trans {H H1 H2:Hp}(a:dq H H1)(b:dq H1 H2):dq H H2:=fun c o h=>b c o (a c o h)
theorem dq.free {H H':Hp}(e:dq H H'){l:Addr}(h:H' l=Option.none):H l=Option.none:=by
 cases q:H l with
 |none=>rfl
 |some o =>
  rw[e l o q] at h;cases h
theorem dq.seq {K:PySem.W.Frag}{H H':Hp}{a:Addr}{xs:List V}(e:dq H H')(h:jT K H a xs):jT K H' a xs:=by
 rcases h with (h|⟨o,h⟩)|h
 ·exact .inl (.inl (e _ _ h))
 ·exact .inl (.inr ⟨o,e _ _ h⟩)
 ·exact .inr h
open PySem PyProof.Rows
noncomputable def lO (env:Env):List (Str×NameKind)->List (Str×Addr)->List (Str×Addr)
 |[],acc=>acc
 |(y,k)::r,acc=>if k==.free then (match env.cells.lookup y with|some c=>lO env r ((y,c)::acc)|none=>lO env r acc) else lO env r acc
theorem nJ {scope:Scope}{env:Env}(h:∀y,(y,NameKind.free)∈scope.names->∃c,env.cells.lookup y=some c):closureFor scope env=pure (lO env scope.names []):=by
 have key:∀(names:List (Str×NameKind)) (acc:List (Str×Addr)),(∀y,(y,NameKind.free)∈names->∃c,env.cells.lookup y=some c) →
   (forIn names acc fun x r=>if (x.2==NameKind.free)=true then (do let a <-cellOf env x.1;pure (ForInStep.yield ((x.1,a)::r))) else pure (ForInStep.yield r):Sem (List (Str×Addr)))=pure (lO env names acc):=by
  intro names;induction names with
  |nil=>intro acc _;rfl
  |cons x r ih =>
   intro acc hh;obtain⟨y,k⟩:=x;have hr:=fun z hz=>hh z (aG _ hz);rw[bV];unfold lO;by_cases hk:(k==NameKind.free)=true
   ·have hk':k=.free:=by simpa using hk
    subst hk';obtain⟨c,hc⟩:=hh y aQ;have hcell:cellOf env y=pure c:=by unfold cellOf;rw[hc]
    simp only[hcell,hc];exact ih _ hr
   ·have hk':(k==NameKind.free)=false:=by simpa using hk
    simp only[hk'];exact ih _ hr
 unfold closureFor;have:=key scope.names [] h;refine Eq.trans ?_ (congrArg (fun m:Sem _=>m>>=fun r=>pure r) this);rfl
theorem pj {env:Env}{y:Str}{c:Addr}:∀(names:List (Str×NameKind)) (acc:List (Str×Addr)),(∀c,acc.lookup y=some c->env.cells.lookup y=some c)->(lO env names acc).lookup y=some c->env.cells.lookup y=some c
 |[],acc,h,e=>h c e
 | (z,k)::r,acc,h,e=>by
  unfold lO at e;split at e
  ·split at e
   ·rename_i c' hc;refine pj r _ (fun d hd=>?_) e;rw[bu] at hd;cases hb:y==z with
    |true=>rw[hb] at hd;rw[beq_iff_eq.mp hb];cases hd;exact hc
    |false=>rw[hb] at hd;exact h d hd
   ·exact pj r _ h e
  ·exact pj r _ h e
theorem nc {env:Env}{y:Str}{c:Addr}:∀(names:List (Str×NameKind)) (acc:List (Str×Addr)),env.cells.lookup y=some c->acc.lookup y=some c->(lO env names acc).lookup y=some c
 |[],acc,_,e=>e
 | (z,k)::r,acc,h,e=>by
  unfold lO;split
  ·split
   ·rename_i c' hc;refine nc r _ h ?_;rw[bu];cases hb:y==z with
    |true=>rw[<-beq_iff_eq.mp hb,h] at hc;cases hc;rfl
    |false=>exact e
   ·exact nc r _ h e
  ·exact nc r _ h e
theorem pA {env:Env}{y:Str}{c:Addr}(h:env.cells.lookup y=some c):∀(names:List (Str×NameKind)) (acc:List (Str×Addr)),(y,NameKind.free)∈names->(lO env names acc).lookup y=some c
 | (z,k)::r,acc,hm=>by
  unfold lO;rcases List.mem_cons.mp hm with e|hm
  ·cases e;simp only[beq_self_eq_true,if_true,h];exact nc r _ h (by rw[bu];simp)
  ·split
   ·split
    ·exact pA h r _ hm
    ·exact pA h r _ hm
   ·exact pA h r _ hm
theorem f9:∀(names:List (Str×NameKind)) (n:Nat) (acc:List (Str×Addr)),cellsFrom n names acc=cellsFrom n names []++acc
 |[],_,_=>rfl
 | (y,k)::r,n,acc=>by
  unfold cellsFrom;split
  ·rw[f9 r (n+1) ((y,n)::acc),f9 r (n+1) [(y,n)],ba];rfl
  ·exact f9 r n acc
theorem lC {α:Type}{y:Str}:∀(l m:List (Str×α)),(l++m).lookup y=(l.lookup y).or (m.lookup y)
 |[],_=>by simp
 | (z,c)::r,m=>by
  rw[JD,bu,bu];cases y==z with
  |true=>rfl
  |false=>exact lC r m
theorem kI {y:Str}{c:Addr}:∀(names:List (Str×NameKind)) (n:Nat) (acc:List (Str×Addr)),(y,c)∈cellsFrom n names acc->(y,NameKind.cell)∈names\/(y,c)∈acc
 |[],_,_,h=>.inr h
 | (z,k)::r,n,acc,h=>by
  unfold cellsFrom at h;split at h
  ·rename_i hk;have hk':k=.cell:=by simpa using hk
   subst hk';rcases kI r _ _ h with q|q
   ·exact .inl (aG _ q)
   ·rcases List.mem_cons.mp q with e|q
    ·cases e;exact .inl aQ
    ·exact .inr q
  ·rcases kI r _ _ h with q|q
   ·exact .inl (aG _ q)
   ·exact .inr q
theorem B0 {M:Model}{A:Around}{E:Value->Shared->Prop}{s:Shared}{scope:Scope}{globals:Addr}{cl:List (Str×Addr)}{qual:Str}{env:Env}{Q:Env->Shared->Prop}
  (hQ:∀h',h'.Ns s.heap.objs.size (fun _=>none)->(∀b o,s.heap.get? b=some o->h'.get? b=some o)->CellsOk h' (s.heap.objs.size+1) (cellsFrom (s.heap.objs.size+1) scope.names [])->s.heap.objs.size<h'.objs.size →
   Q (newEnv scope s.heap.objs.size globals (cellsFrom (s.heap.objs.size+1) scope.names cl) qual none .none (some env) builtinsNs) { s with heap:=h' }) :
  wpAny M A (newFunctionEnv scope globals cl [] qual none .none (some env)) Q E s:=by
 simp only[newFunctionEnv,Option.isSome_some,if_true];refine ab (wpAny_alloc ?_);refine ab (wpAny_layCells _ (fun name kind cells=>by cases hkc:kind==NameKind.cell <;> simp[hkc]) _ _ _ _ ?_);have ok:=cellsFrom_ok scope.names (s.heap.push { cls:=.type "dict", data:=.dict #[] }) (s.heap.objs.size+1) [] ⟨fun _ _ hm=>(nomatch hm),List.Pairwise.nil⟩ (by rw[bp];exact aC _);rw[bp] at ok;rw[show ({ s with heap:=s.heap.push { cls:=.type "dict", data:=.dict #[] } }:Shared).heap.objs.size=s.heap.objs.size+1 from bp ..];refine ab (aq (aq ?_));exact hQ _ ((Heap.Ns.new s.heap (.type "dict")).keeps (pushCells_keeps _ _)) (fun b o e=>pushCells_keeps _ _ b o (ae _ e)) ok (Heap.Ns.lt ((Heap.Ns.new s.heap (.type "dict")).keeps (pushCells_keeps scope.names _)))
structure CompSc (osc:Scope)(oN:List Str)(scope:Scope)(own:List Str)(ix:List Nat)(caps:List Str):Prop where
 kind:scope.kind=.function
 nd:(own++caps).Nodup
 loc:∀x∈own,scope.names.lookup x=some .local\/scope.names.lookup x=some .cell
 ixs:ix.map (fun j=>oN[j]?)=caps.map some
 frees:∀p∈scope.names,p.2=.free->(osc.names.lookup p.1=some .cell\/osc.names.lookup p.1=some .free)
 caps:∀y∈caps,(y,NameKind.free)∈scope.names
 uniq:∀p∈scope.names,scope.names.lookup p.1=some p.2
noncomputable def k5 (X:Cx)(scope:Scope)(C:Addr):Env :=
 { newEnv scope C X.env.globals (cellsFrom (C+1) scope.names (lO X.env scope.names [])) X.env.qual none .none (some X.env) builtinsNs with scope:=relabel scope X.env }
noncomputable def compCx (X:Cx)(scope:Scope)(N':List Str)(s₀:Shared)(H₀:Hp)(ex:List Addr)(pn:List (Addr×Obj)):Cx :=
 { X with N:=N',s₀:=s₀,H₀:=H₀,env:=k5 X scope s₀.heap.objs.size,outer:=X.stack,stack:=X.stack,ex:=ex,fn:=fun x=>scope.names.lookup x==some .cell,pn:=pn,xe:=fun _ _=>False }
noncomputable def capt (n:Nat)(ix:List Nat)(σ:St):St:=aH n none++ix.map (fun j=>(σ[j]?).join)
theorem lookup_relabel {env:Env}{scope:Scope}{y:Str} :
  (relabel scope env).names.lookup y=(scope.names.lookup y).map fun k=>if (k==NameKind.free&&env.scope.kind==.function&&env.kindOf y==some .cell)=true then .cell else k:=by
 unfold relabel;dsimp only;generalize scope.names=names;induction names with
 |nil=>rfl
 |cons x r ih =>
  obtain⟨n,k⟩:=x;rw[az];dsimp only;by_cases hb:(y==n)=true
  ·have e:y=n:=beq_iff_eq.mp hb;subst e;by_cases hc:(k==NameKind.free&&env.scope.kind==.function&&env.kindOf y==some .cell)=true
   ·rw[if_pos hc,bu,bu];simp only[beq_self_eq_true,av,if_pos hc]
   ·rw[if_neg hc,bu,bu];simp only[beq_self_eq_true,av,if_neg hc]
  ·have hb':(y==n)=false:=by simpa using hb
   rw[bu (a:=y) (b:=(n,k).2),hb'];by_cases hc:(k==NameKind.free&&env.scope.kind==.function&&env.kindOf n==some .cell)=true
   ·rw[if_pos hc,bu,hb'];exact ih
   ·rw[if_neg hc,bu,hb'];exact ih
section
variable {X:Cx}{pins:List (Addr×Obj)}{σ:St}{H:Hp}{s:Shared}{scope:Scope}{own caps:List Str}{ix:List Nat}
theorem uu {C:Addr}{x:Str}(S:CompSc X.env.scope X.N scope own ix caps)(h:scope.names.lookup x=some .cell):∃c,(k5 X scope C).cells.lookup x=some c/\(x,c)∈cellsFrom (C+1) scope.names []:=by
 have q:=PySem.W.cellsFrom_some scope.names (C+1) [] (.inl h);obtain⟨c,hc⟩:=Option.isSome_iff_exists.mp q;refine⟨c,?_,mem_of_lookup hc⟩;show (cellsFrom (C+1) scope.names (lO X.env scope.names [])).lookup x=some c;rw[f9,lC,hc];rfl
theorem ur {C:Addr}{x:Str}(S:CompSc X.env.scope X.N scope own ix caps)(h:scope.names.lookup x=some .free)(hX:∃c,X.env.cells.lookup x=some c):(k5 X scope C).cells.lookup x=X.env.cells.lookup x:=by
 obtain⟨c,hc⟩:=hX;show (cellsFrom (C+1) scope.names (lO X.env scope.names [])).lookup x=_;rw[f9,lC];have hn:(cellsFrom (C+1) scope.names []).lookup x=none:=by
  cases e:(cellsFrom (C+1) scope.names []).lookup x with
  |none=>rfl
  |some d =>
   rcases kI _ _ _ (mem_of_lookup e) with q|q
   ·have:=S.uniq _ q;rw[h] at this;cases this
   ·cases q
 rw[hn,pA hc _ _ (mem_of_lookup h),hc];rfl
theorem iU {C:Addr}{x:Str}{c:Addr}(h:(k5 X scope C).cells.lookup x=some c):(x,c)∈cellsFrom (C+1) scope.names []\/X.env.cells.lookup x=some c:=by
 have h':(cellsFrom (C+1) scope.names (lO X.env scope.names [])).lookup x=some c:=h;rw[f9,lC] at h';cases e:(cellsFrom (C+1) scope.names []).lookup x with
 |some d =>
  rw[e] at h';cases h';exact .inl (mem_of_lookup e)
 |none =>
  rw[e] at h';exact .inr (pj _ [] (fun _ z=>by cases z) h')
theorem CT {fp:List Addr}{h':Heap}(S:CompSc X.env.scope X.N scope own ix caps)(I:cT X pins σ H s)(hf:∀b∈fp,sT X pins H b)(hlt:∀b∈fp,b<s.heap.objs.size)
  (hn:h'.Ns s.heap.objs.size (fun _=>none)) (hk:∀b o,s.heap.get? b=some o->h'.get? b=some o) (hc:CellsOk h' (s.heap.objs.size+1) (cellsFrom (s.heap.objs.size+1) scope.names [])) :
  cT (compCx X scope (own++caps) s H fp (X.pn++pins)) [] (capt own.length ix σ) H { s with heap:=h' }:=by
 have lenS:ix.length=caps.length:=by
  have:=congrArg List.length S.ixs;simpa using this
 have oldc:∀x c,X.env.cells.lookup x=some c->c<s.heap.objs.size:=fun x c e=>by
  obtain⟨v,q⟩:=I.cell x c e;exact q.lt
 have newc:∀{x c},(x,c)∈cellsFrom (s.heap.objs.size+1) scope.names []->s.heap.objs.size+1<=c:=fun h=>(hc.empty _ _ h).2;have freeOf:∀x,scope.names.lookup x=some .free->(X.env.kindOf x=some .cell\/X.env.kindOf x=some .free):=fun x h=>S.frees (x,.free) (mem_of_lookup h) rfl;have xHas:∀x,scope.names.lookup x=some .free->∃c,X.env.cells.lookup x=some c:=fun x h=>I.ok.has x (freeOf x h);have stkF:∀b∈AY X.stack,H b=none:=I.stkFree;have hOk:(compCx X scope (own++caps) s H fp (X.pn++pins)).Ok:=by
  refine⟨I.ok.mod,S.kind,I.ok.glob,I.ok.blt,aC _,?_,?_,?_,I.ok.hd,I.ok.frames,.inl rfl,?_,I.bs,bo I.ok.bsz I.sz,?_,?_,I.stack,stkF⟩
  ·intro x y c e1 e2;rcases iU e1 with q1|q1 <;> rcases iU e2 with q2|q2
   ·exact name_of_addr hc.apart q1 q2
   ·exact absurd (aF (oldc _ _ q2) (Jy (newc q1))) (bt _)
   ·exact absurd (aF (oldc _ _ q1) (Jy (newc q2))) (bt _)
   ·exact I.ok.inj _ _ _ q1 q2
  ·intro x hx;have hx':(relabel scope X.env).names.lookup x=some .cell\/(relabel scope X.env).names.lookup x=some .free:=hx;rw[lookup_relabel] at hx';cases e:scope.names.lookup x with
   |none=>rw[e] at hx';rcases hx' with z|z <;> cases z
   |some k =>
    by_cases hcell:k=.cell
    ·subst hcell;obtain⟨c,hc,_⟩:=uu (C:=s.heap.objs.size) S e;exact⟨c,hc⟩
    ·by_cases hfree:k=.free
     ·subst hfree;obtain⟨c,hc⟩:=xHas x e;exact⟨c,(ur S e ⟨c,hc⟩).trans hc⟩
     ·rw[e,av] at hx';have hkf:(k==NameKind.free)=false:=by simpa using hfree
      rw[hkf] at hx';rcases hx' with z|z
      ·exact absurd (Option.some.inj z) hcell
      ·exact absurd (Option.some.inj z) hfree
  ·intro x c hfn e;have hcell:scope.names.lookup x=some .cell:=by simpa [compCx] using hfn
   rcases iU e with q|q
   ·exact Jy (newc q)
   ·obtain⟨c',e',m'⟩:=uu (C:=s.heap.objs.size) S hcell;have:c'=c:=by
     have e2:(k5 X scope s.heap.objs.size).cells.lookup x=some c:=e;rw[e'] at e2;exact Option.some.inj e2
    subst this;exact Jy (newc m')
  ·intro b hb;refine⟨aO (hlt b hb),fun x c e=>?_⟩;rcases iU e with q|q
   ·exact bj (aF (hlt b hb) (Jy (newc q)))
   ·exact (hf b hb).2.2.2.2.1 x c q
  ·intro b o e hb;rcases (hf b hb).2.2.2.1 with z|z
   ·exact I.ok.noex b o e z
   ·exact absurd (aF (aB e) (bo I.ok.bsz z)) (bt _)
  ·intro b hb hb2;rcases List.mem_cons.mp (I.stkSub b hb2) with z|z
   ·exact (hf b hb).2.1 z
   ·exact (hf b hb).2.2.1 z
 refine⟨hOk,rfl,I.bare,Un.kept hk,⟨fun _=>none,hn,?_⟩,?_,I.hok.fresh (aC _),?_,?_,I.hok.kept hk,?_⟩
 ·intro i x v h1 h2 h3;by_cases hi:i<own.length
  ·have h2':(capt own.length ix σ)[i]?=some (some v):=h2;unfold capt at h2';rw[aR (by simpa using hi),bK,if_pos hi] at h2';cases h2'
  ·have h2':(capt own.length ix σ)[i]?=some (some v):=h2;unfold capt at h2';rw[aN (by simpa using hi),bc,au] at h2';have h1':(own++caps)[i]?=some x:=h1;rw[aN (by simpa using hi)] at h1';cases ej:ix[i-own.length]? with
   |none=>rw[ej] at h2';cases h2'
   |some j =>
    rw[ej,av] at h2';have hj:X.N[j]?=some x:=by
     have q:(ix.map (fun j=>X.N[j]?))[i-own.length]?=(caps.map some)[i-own.length]?:=by rw[S.ixs]
     rw[au,au,ej,h1',av,av] at q;exact Option.some.inj q
    have hv:σ[j]?=some (some v):=by
     have q:(σ[j]?).join=some v:=Option.some.inj h2';cases e:σ[j]? with
     |none=>rw[e] at q;cases q
     |some w'=>rw[e] at q;exact congrArg some q
    have hfree:scope.names.lookup x=some .free:=S.uniq _ (S.caps x (aA h1'));obtain⟨m,hm,hl⟩:=I.loc;have hvis:Vis X.env.scope x:=by
     rcases freeOf x hfree with z|z
     ·exact .inr (.inl z)
     ·exact .inr (.inr z)
    obtain⟨u,r,l⟩:=hl j x v hj hv hvis;refine⟨u,r,?_⟩;rcases l with ⟨k,_⟩|⟨k,c,e,z⟩
    ·rcases freeOf x hfree with q|q <;> rw[q] at k <;> cases k
    ·refine .inr ⟨?_,c,(ur S hfree ⟨c,e⟩).trans e,z.keeps hk⟩;show (relabel scope X.env).names.lookup x=some .cell\/(relabel scope X.env).names.lookup x=some .free;rw[lookup_relabel,hfree,av];split
     ·exact .inl rfl
     ·exact .inr rfl
 ·intro x c e;rcases iU e with q|q
  ·exact⟨none,(hc.empty _ _ q).1⟩
  ·obtain⟨v,z⟩:=I.cell x c q;exact⟨v,z.keeps hk⟩
 ·intro x c e;rcases iU e with q|q
  ·exact I.hok.fresh (Jy (newc q))
  ·exact I.freeC x c q
 ·intro p hp;have hp':p∈X.pn++pins:=by
   have:p∈(X.pn++pins)++[]:=hp;simpa using this
  obtain⟨e,n,ne,nf,d⟩:=I.pin p hp';refine⟨hk _ _ e,n,aO (aB e),fun z=>?_,d⟩;rcases List.mem_cons.mp (I.stkSub p.1 z) with q|q
  ·exact ne q
  ·exact nf q
 ·show (capt own.length ix σ).length=(own++caps).length;unfold capt;rw[aw,aw,bc,af,lenS]
end
noncomputable abbrev Ft:Value->Shared->Prop:=fun _ _=>False
theorem vR {prog:Program}{w:World}{A:Around}{R:Result->Shared->Prop}{s:Shared}{elt target iter:Expr}{ifs:List Expr}{scope:Scope}{pos:Pos}{it acc:Value}{env:Env}(I:Nat->Shared->Prop)
  (turn:∀n s,I n s->wpAny (model prog w) A (pyNext it) (fun r s₁=>match r with
   |none=>R (.ok .next) s₁
   |some v=>wpAny (model prog w) A (letOwnedTupleGo target it v) (fun _ s₁'=>wpAny (model prog w) A (assign target env v) (fun _ s₂ =>
     wpAny (model prog w) A (forIn ifs true fun c r=>if r=true then do let ok <-isTrue c env (eval c env);pure (ForInStep.yield ok) else pure (ForInStep.yield r)) (fun ok s₃ =>
      if ok=true then wpAny (model prog w) A (eval elt env) (fun x s₄ =>
       wpAny (model prog w) A (call (.builtin "list.append") [acc,x]) (fun _ s₅=>∃m,m<n/\I m s₅) Ft s₄) Ft s₃
      else ∃m,m<n/\I m s₃) Ft s₂) Ft s₁') Ft s₁) Ft s)
  (n:Nat) (h:I n s) :
  codeAny (model prog w) A (.compLoop (.ListComp elt [⟨target,iter,ifs,0⟩] scope pos) 0 it acc env) R s:=by
 refine codeAny_loop rfl I (fun n s hI=>?_) n h;show wpAny _ A ((compTurn (.ListComp elt [⟨target,iter,ifs,0⟩] scope pos) 0 it acc env).onRaise (fun x=>do noteFrame x env;theTreesLotGoes x)) _ _ s;refine wpAny_noted ?_;rw[compTurn_list];refine ab (wpAny_standAt (ab (wpAny_mono (turn n s hI) (fun r s₁ h₁=>?_) fun _ _ h'=>h'.elim)));cases r with
 |none=>exact aq h₁
 |some v =>
  refine ab (wpAny_mono h₁ (fun _ s₁' h₁'=>?_) fun _ _ h'=>h'.elim);refine ab (wpAny_mono h₁' (fun _ s₂ h₂=>ab (wpAny_mono h₂ (fun ok s₃ h₃=>?_) fun _ _ h'=>h'.elim)) fun _ _ h'=>h'.elim);cases ok with
  |false=>exact aq ⟨rfl,h₃⟩
  |true =>
   exact ab (ab (wpAny_mono h₃ (fun x s₄ h₄=>ab (wpAny_mono h₄ (fun _ s₅ h₅=>aq (aq ⟨rfl,h₅⟩)) fun _ _ h'=>h'.elim)) fun _ _ h'=>h'.elim))
noncomputable def PTs (X:Cx)(ifs:List Expr)(t:TT):Prop :=
 ∀(pins:List (Addr×Obj)) (s:Shared) (σ:St) (H:Hp) (Q:Bool->Hp->Prop),cT X pins σ H s->t σ H Q →
  wpAny (model X.prog X.w) X.A (forIn ifs true fun c r=>if r=true then do let ok <-isTrue c X.env (eval c X.env);pure (ForInStep.yield ok) else pure (ForInStep.yield r)) (TP X pins σ Q) X.xe s
noncomputable def He:TT:=fun _ H Q=>Q true H
theorem pts_nil {X:Cx}:PTs X [] He:=fun pins s σ H Q I h=>wpAny_tests_nil ⟨H,I,h⟩
theorem pts_one {X:Cx}{c:Expr}{t:TT}(h:PT X c t):PTs X [c] t:=fun pins s σ H Q I hq=>wpAny_tests_one (h pins s σ H Q I hq)
noncomputable def tComp (wi:TI)(n:Nat)(ix:List Nat)(g:TG)(tc:TT)(te:TE):TE:=fun σ H Q=>wi σ H fun J H1=>∀D,H1 D=none →
 ∃W:Nat->Nat->St->Hp->Prop,(∃m,W 0 m (capt n ix σ) (eA H1 D (.lst [])))/\∀i m σ' H',W i m σ' H' →
  (J.stop i H'/\Q (.ref D) H')\/(J.go i H'/\∃N:St->Hp->Prop,(∀σ2 H2,N σ2 H2->∃m',m'<m/\W (i+1) m' σ2 H2) ∧
   ∀x H2,J.yld i H' x H2->g x σ' H2 fun σ3 H3=>tc σ3 H3 fun b H4=>if b=true then te σ3 H4 fun y H5=>∃ys,H5 D=some (.lst ys)/\ys.length<sizeLine/\N σ3 (eA H5 D (.lst (ys++[y]))) else N σ3 H4)
section
variable {X:Cx}{scope:Scope}{own caps:List Str}{ix:List Nat}{tg iter elt:Expr}{ifs:List Expr}{wi:TI}{g:TG}{tc:TT}{te:TE}
theorem sL {pos:Pos}{pins:List (Addr×Obj)}{s2:Shared}{σ:St}{H2:Hp}{E:Value->Shared->Prop}{J:It}{it:Addr}{fp:List Addr}{tn:Nat->Heap->Prop}{Q:VK}{RR:Value->Addr->Result->Shared->Prop}
  (S:CompSc X.env.scope X.N scope own ix caps) (hc:X.calm=true)
  (hg:∀s₀ H₀ ex pn,PG (compCx X scope (own++caps) s₀ H₀ ex pn) tg g) (ht:∀s₀ H₀ ex pn,PTs (compCx X scope (own++caps) s₀ H₀ ex pn) ifs tc) (he:∀s₀ H₀ ex pn,PE (compCx X scope (own++caps) s₀ H₀ ex pn) elt te)
  (I2:cT X pins σ H2 s2) (T:Turn X.prog X.w X.K tg J fp it tn) (st2:tn 0 s2.heap) (f2:∀b∈fp,sT X pins H2 b)
  (hW:∀D,H2 D=none->∃W:Nat->Nat->St->Hp->Prop,(∃m,W 0 m (capt own.length ix σ) (eA H2 D (.lst [])))/\∀i m σ' H',W i m σ' H' →
   (J.stop i H'/\Q (.ref D) H')\/(J.go i H'/\∃N:St->Hp->Prop,(∀σ2 H2,N σ2 H2->∃m',m'<m/\W (i+1) m' σ2 H2) ∧
    ∀x H2,J.yld i H' x H2->g x σ' H2 fun σ3 H3=>tc σ3 H3 fun b H4=>if b=true then te σ3 H4 fun y H5=>∃ys,H5 D=some (.lst ys)/\ys.length<sizeLine/\N σ3 (eA H5 D (.lst (ys++[y]))) else N σ3 H4))
  (hRR:∀(D C:Addr) (H':Hp) (s':Shared),cT X pins σ H' s'->Q (.ref D) H'->(∃m,s'.heap.Ns C m)->H' C=none->C≠X.env.locals->X.s₀.heap.objs.size<=C->(∀x c,X.env.cells.lookup x=some c->c≠C)->(∀p∈X.pn++pins,p.1≠C)->RR (.ref D) C (.ok .next) s') :
  wpAny (model X.prog X.w) X.A (newList []) (fun acc s₃=>wpAny (model X.prog X.w) X.A (newFunctionEnv scope X.env.globals (lO X.env scope.names []) [] X.env.qual none .none (some X.env)) (fun cenv s₄ =>
   codeAny (model X.prog X.w) X.A (.compStart (.ListComp elt [⟨tg,iter,ifs,0⟩] scope pos) 0 (.ref it) acc { cenv with scope:=relabel scope X.env }) (RR acc cenv.locals) s₄) E s₃) E s2:=by
 refine bW (B0 fun h' hn hk hcl hs=>?_);have hD:H2 s2.heap.objs.size=none:=I2.hok.fresh (aC _);obtain⟨W,⟨m0,w0⟩,turn⟩:=hW s2.heap.objs.size hD;have I3:=I2.lnew (ys:=[]) (its:=[]) (t':=s2.toks) .nil (bw _);generalize hs3:({ s2 with heap:=s2.heap.push { cls:=.type "list", data:=.seq ([]:List Value).toArray },toks:=s2.toks }:Shared)=s3 at I3;have hlt:∀b∈fp,b<s2.heap.objs.size:=fun b hb=>by
  obtain⟨o,e,_⟩:=T.obj _ _ st2 b hb;exact aB e
 have hsz:s3.heap.objs.size=s2.heap.objs.size+1:=by rw[<-hs3];exact bp ..
 have k3:∀b o,s2.heap.get? b=some o->s3.heap.get? b=some o:=fun b o e=>by rw[<-hs3];exact ae _ e
 have f3:∀b∈fp,sT X pins (eA H2 s2.heap.objs.size (.lst [])) b:=fun b hb=>by
  obtain⟨f0,fr⟩:=f2 b hb;exact⟨by rw[cG (aO (hlt b hb))];exact f0,fr⟩
 have es3:s3={ s2 with heap:=s2.heap.push { cls:=.type "list", data:=.seq ([]:List Value).toArray } }:=hs3.symm
 try rw[<-es3] at hn
 try rw[<-es3] at hk
 try rw[<-es3] at hcl
 try rw[<-es3] at hs
 try rw[<-es3]
 have hlt3:∀b∈fp,b<s3.heap.objs.size:=fun b hb=>by rw[hsz];exact Nat.lt_succ_of_lt (hlt b hb)
 have I4:=CT S I3 f3 hlt3 hn hk hcl;have st4:tn 0 h':=T.keep _ _ _ st2 fun b hb o e=>hk b o (k3 b o e);have stat:∀{H':Hp},(∀b∈fp,H' b=none)->∀b∈fp,sT (compCx X scope (own++caps) s3 (eA H2 s2.heap.objs.size (.lst [])) fp (X.pn++pins)) [] H' b:=fun hn b hb=>by
  obtain⟨f0,f1,f2',f3',f4,f5⟩:=f3 b hb;refine⟨hn b hb,aO (hlt3 b hb),fun z=>?_,.inl hb,fun x c e=>(I4.ok.exf b hb).2 x c e,fun p hp=>f5 p (by simpa [compCx] using hp)⟩;rcases List.mem_cons.mp (I2.stkSub b z) with q|q
  ·exact f1 q
  ·exact f2' q
 have main:codeAny (model X.prog X.w) X.A (.compLoop (.ListComp elt [⟨tg,iter,ifs,0⟩] scope pos) 0 (.ref it) (.ref s2.heap.objs.size) (k5 X scope s3.heap.objs.size))
   (RR (.ref s2.heap.objs.size) s3.heap.objs.size) { s3 with heap:=h' }:=by
  refine vR (fun n s'=>∃i σ' H',cT (compCx X scope (own++caps) s3 (eA H2 s2.heap.objs.size (.lst [])) fp (X.pn++pins)) [] σ' H' s'/\tn i s'.heap/\(∀b∈fp,H' b=none)/\W i n σ' H') ?_ m0
   ⟨0,_,_,I4,st4,fun b hb=>(f3 b hb).1,w0⟩
  rintro n s5 ⟨i,σ5,H5,I5,st5,fr5,w5⟩;rcases turn i n σ5 H5 w5 with ⟨stop,qn⟩|⟨go,N,hN,step⟩
  ·refine thn (T.done (compCx X scope (own++caps) s3 (eA H2 s2.heap.objs.size (.lst [])) fp (X.pn++pins)) rfl rfl rfl hc i [] s5 σ5 H5 Ft I5 (stat fr5) st5 stop) fun r s6 zz=>?_;obtain ⟨hr,I6⟩:=zz;subst hr;have u:Un (AY X.stack) fp H2 H5 s2.heap s6.heap:=(Un.laid (o:=.lst []) k3 (aC _) hD).trans I6.base;have e6:s6.os=s2.os:=by
    have:=I6.os;rw[this,<-hs3];rfl
   have I7:cT X pins σ H5 s6:=I2.call' e6 u I6.hok I6.bare fun b hb=>⟨(f2 b hb).2.2.2.1,(f2 b hb).2.1,(f2 b hb).2.2.2.2.1,(f2 b hb).2.2.2.2.2⟩;obtain⟨mC,hC,_⟩:=I6.loc;refine hRR _ _ H5 s6 I7 qn ⟨mC,hC⟩ I6.free (bj (aF I2.lt (by rw[hsz];exact JA _))) (bo I2.sz (by rw[hsz];exact JA _)) (fun x c e z=>?_) fun p hp z=>?_
   ·obtain⟨v,q⟩:=I2.cell x c e;have:=q.lt;rw[z,hsz] at this;exact bt _ (Nat.lt_of_succ_lt this)
   ·have:=aB (I2.pin p hp).1;rw[z,hsz] at this;exact bt _ (Nat.lt_of_succ_lt this)
  ·refine thn (T.item (compCx X scope (own++caps) s3 (eA H2 s2.heap.objs.size (.lst [])) fp (X.pn++pins)) rfl rfl rfl hc i [] s5 σ5 H5 Ft I5 (stat fr5) st5 go) fun r s6 zz=>?_;obtain ⟨u,hr,h6⟩:=zz;subst hr;refine thn h6 fun _ s7 zz=>?_;obtain ⟨x,H7,I7,r7,y7,st7,fr7⟩:=zz;have I7':=I7.pinned (stat fr7) (T.obj _ _ st7);refine thn (hg _ _ _ _ _ s7 σ5 H7 x u _ I7' r7 (step x H7 y7)) fun _ s8 zz=>?_;obtain ⟨σ8,H8,I8,q8⟩:=zz;refine thn (ht _ _ _ _ _ s8 σ8 H8 _ I8 q8) fun b s9 zz=>?_;obtain ⟨H9,I9,q9⟩:=zz;have again:∀{σ':St}{H':Hp}{s':Shared},cT (compCx X scope (own++caps) s3 (eA H2 s2.heap.objs.size (.lst [])) fp (X.pn++pins)) ([]++rJ fp s7.heap) σ' H' s'->N σ' H' →
     ∃m,m<n/\∃i σ' H',cT (compCx X scope (own++caps) s3 (eA H2 s2.heap.objs.size (.lst [])) fp (X.pn++pins)) [] σ' H' s'/\tn i s'.heap/\(∀b∈fp,H' b=none)/\W i m σ' H':=fun {σ' H' s'} J n7=>by
    obtain⟨m',hm,w7⟩:=hN σ' H' n7;refine⟨m',hm,i+1,σ',H',J.unpinned,T.keep _ _ _ st7 fun b hb o e=>(J.pin (b,o) (aL _ (aL _ (lA hb e)))).1,fun b hb=>?_,w7⟩;obtain⟨o,e,d⟩:=T.obj _ _ st7 b hb;exact (J.pin (b,o) (aL _ (aL _ (lA hb e)))).2.1
   cases b with
   |false=>exact again I9 q9
   |true =>
    rw[if_pos rfl] at q9;show wpAny _ _ (eval elt _) _ _ _;refine thn (he _ _ _ _ _ s9 σ8 H9 _ I9 q9) fun y s10 zz=>?_;obtain ⟨vy,H10,I10,r10,ys,hD10,hz10,q10⟩:=zz;refine thn (mt_append _ s10 σ8 H10 (.ref s2.heap.objs.size) [vy] (.ref s2.heap.objs.size) [y] (fun _ H'=>N σ8 H') I10 rfl (.cons r10 .nil) ⟨_,ys,vy,rfl,rfl,hD10,hz10,q10⟩) fun _ s11 zz=>?_;obtain ⟨_,H11,I11,_,q11⟩:=zz;exact again I11 q11
 exact codeAny_compStart_list main (T.self _ 0 _ _ _ st4 main)
theorem pe_lcomp {pos:Pos}(S:CompSc X.env.scope X.N scope own ix caps)(hc:X.calm=true)(hi:PI X tg iter wi)
  (hg:∀s₀ H₀ ex pn,PG (compCx X scope (own++caps) s₀ H₀ ex pn) tg g) (ht:∀s₀ H₀ ex pn,PTs (compCx X scope (own++caps) s₀ H₀ ex pn) ifs tc) (he:∀s₀ H₀ ex pn,PE (compCx X scope (own++caps) s₀ H₀ ex pn) elt te)
  (hs:∀x,foldedSetIterable iter X.env x=pure x:=by intro _;rfl) :
  PE X (.ListComp elt [⟨tg,iter,ifs,0⟩] scope pos) (tComp wi own.length ix g tc te):=by
 intro pins s σ H Q I h;have hcl:closureFor scope X.env=pure (lO X.env scope.names []):=nJ fun y hy=>I.ok.has y (S.frees (y,.free) hy rfl);rw[eval_ListComp];refine wpAny_comprehension_free (use:=none) rfl hs hcl S.kind (fun y hy hl=>by have:=S.uniq y hy;rw[hl] at this;exact this) ?_;refine thn (hi pins s σ H _ I h) fun v s1 h1=>thn h1 fun itv s2 h2=>?_;obtain⟨it,fp,tn,J,H2,e,I2,T,st2,f2,hW⟩:=h2;subst e;refine sL (E:=X.xe) (Q:=Q) (RR:=fun acc C=>compPost (model X.prog X.w) X.A X.xe none (EP X pins σ Q) acc C) S hc hg ht he I2 T st2 f2 hW ?_;intro D C H' s' I' q hC hH hL hs0 hcell hp;obtain⟨m,hm⟩:=hC;refine⟨m,hm,fun h'' hsb=>⟨.ref D,H',?_,rfl,q⟩⟩;exact I'.turned (t':=s'.toks) (fun b o hb e=>(hsb.2 b hb).trans e) hH (Ne.symm hL).symm (.inr hs0) hcell hp
theorem ps_lcomp {pos spos py:Pos}{i:Nat}{y:Str}(S:CompSc X.env.scope X.N scope own ix caps)(hc:X.calm=true)(hN:X.N.Nodup)(hiN:X.N[i]?=some y)(hy:X.env.scope.names.lookup y=some .local)
  (hi:PI X tg iter wi)
  (hg:∀s₀ H₀ ex pn,PG (compCx X scope (own++caps) s₀ H₀ ex pn) tg g) (ht:∀s₀ H₀ ex pn,PTs (compCx X scope (own++caps) s₀ H₀ ex pn) ifs tc) (he:∀s₀ H₀ ex pn,PE (compCx X scope (own++caps) s₀ H₀ ex pn) elt te)
  (hsw:swapsWith (.ListComp elt [⟨tg,iter,ifs,0⟩] scope pos) (some (.Name y py)) spos.line X.env=pure true:=by rfl)
  (hs:∀x,foldedSetIterable iter X.env x=pure x:=by intro _;rfl) :
  PS X (.Assign [.Name y py] (.ListComp elt [⟨tg,iter,ifs,0⟩] scope pos) spos) (tAsg (tComp wi own.length ix g tc te) (gName i)):=by
 intro pins s σ H D I h;have hcl:closureFor scope X.env=pure (lO X.env scope.names []):=nJ fun y hy=>I.ok.has y (S.frees (y,.free) hy rfl);rw[exec_Assign_Name_used _ _ _ _ hsw];refine ab (wpAny_standAt (ab ?_));show wpAny _ _ (do let _ <-comprehension (.ListComp elt [⟨tg,iter,ifs,0⟩] scope pos) scope X.env _ (newList []) false (eval iter X.env) (some (assign (.Name y py) X.env))) _ _ s;refine ab (wpAny_mono (wpAny_comprehension_free (use:=some (assign (.Name y py) X.env)) (Q:=fun _ s'=>SP X pins D .next s') rfl hs hcl S.kind (fun y hy hl=>by have:=S.uniq y hy;rw[hl] at this;exact this) ?_)
  (fun _ s' hq=>aq (aq hq)) fun _ _ e=>e)
 refine thn (hi pins s σ H _ I h) fun v s1 h1=>thn h1 fun itv s2 h2=>?_;obtain⟨it,fp,tn,J,H2,e,I2,T,st2,f2,hW⟩:=h2;subst e;refine sL (E:=X.xe) (Q:=fun x H1=>gName i x σ H1 D.nx) (RR:=fun acc C=>compPost (model X.prog X.w) X.A X.xe (some (assign (.Name y py) X.env)) (fun _ s'=>SP X pins D .next s') acc C) S hc hg ht he I2 T st2 f2 hW ?_;intro Dl C H' s' I' q hC hH hL hs0 hcell hp;obtain⟨m,hm⟩:=hC;show wpAny _ _ (assign (.Name y py) X.env (.ref Dl)) _ _ s';refine wpAny_assign_Name (tS (v:=.ref Dl) I' hN hiN (.inl hy) rfl (fun s'' I'' hsame=>?_) (.inr hy));obtain⟨a,hsa,ha⟩:=hsame;have haC:C≠a:=by
  rcases ha with z|z
  ·rw[z];exact hL
  ·exact fun e=>hcell _ _ z e.symm
 refine⟨m,hm.sameBut hsa haC,fun h'' hsb=>?_⟩;exact⟨_,H',I''.turned (t':=s''.toks) (fun b o hb e=>(hsb.2 b hb).trans e) hH hL (.inr hs0) hcell hp,q⟩
end
end L2
namespace DL
open PySem PySem.Spec PySem.SeqAt
noncomputable abbrev D:=PyData
noncomputable abbrev Vl:=D×Bool
noncomputable abbrev Sl:=List (Option Vl)
set_option genInjectivity true in
inductive Fl where
 |next (ρ:Sl)|ret (r:Vl)|brk (ρ:Sl)|cont (ρ:Sl)
noncomputable abbrev ED:=Sl->Option Vl
noncomputable abbrev BD:=Sl->Option D
noncomputable abbrev TD:=Sl->Option Bool
noncomputable abbrev AD:=Sl->Option (List D)
noncomputable abbrev SD:=Sl->Option Fl
noncomputable abbrev GD:=D->Sl->Option Sl
noncomputable abbrev O2:=D->D->Option Vl
noncomputable abbrev FD:=List D->Option Vl
noncomputable def dC (d:D):ED:=fun _=>some (d,false)
noncomputable def cj (i:Nat):ED:=fun ρ=>match ρ[i]? with
 |some (some (d,false))=>some (d,false)
 |_=>none
noncomputable def cc (i:Nat):BD:=fun ρ=>match ρ[i]? with
 |some (some (d,false))=>some d
 |some (some (.list xs,true))=>some (.list xs)
 |some (some (.dict [(.dict kvs,.bool true)],true))=>some (.dict kvs)
 |_=>none
noncomputable def cC (f:ED):BD:=fun ρ=>(f ρ).map (·.1)
noncomputable def d1 (op:D->Option Vl)(f:BD):ED:=fun ρ=>(f ρ).bind op
noncomputable def d2 (op:O2)(f g:BD):ED:=fun ρ=>(f ρ).bind fun x=>(g ρ).bind fun y=>op x y
noncomputable def cy:AD:=fun _=>some []
noncomputable def b7 (f:ED)(t:AD):AD:=fun ρ=>(f ρ).bind fun x=>(t ρ).bind fun xs=>some (x.1::xs)
noncomputable def eK (t:AD):ED:=fun ρ=>(t ρ).bind fun xs=>if xs.length<=sizeLine then some (.tuple xs,false) else none
noncomputable def df (t:AD):ED:=fun ρ=>(t ρ).bind fun xs=>if xs.length<=sizeLine then some (.list xs,true) else none
noncomputable def cB (F:FD)(t:AD):ED:=fun ρ=>(t ρ).bind F
noncomputable def tM:D->Option Bool
 |.bool b=>some b
 |_=>none
noncomputable def tL (f g:ED):ED:=fun ρ=>(f ρ).bind fun x=>(tM x.1).bind fun c=>if c=true then g ρ else some (.bool false,false)
noncomputable def EF (f:ED):ED:=fun ρ=>(f ρ).bind fun x=>(tM x.1).bind fun c=>some (.bool (!c),false)
noncomputable def sH (t:TD):ED:=fun ρ=>(t ρ).bind fun c=>some (.bool c,false)
noncomputable abbrev LD:=Sl->Option (List D)
noncomputable def Fd (f:ED):LD:=fun ρ=>(f ρ).bind fun x=>match x with
 |(.list xs,true)=>some xs
 |_=>none
noncomputable def qx (f:LD)(g:BD):ED:=fun ρ=>(f ρ).bind fun xs=>(g ρ).bind fun y=>match y with
 |.int k=>if -(2 ^ 63)<=k/\k<2 ^ 63/\xs.length*k.toNat<=sizeLine then some (.list (aH k.toNat xs).flatten,true) else none
 |_=>none
noncomputable def lX (f:ED):TD:=fun ρ=>(f ρ).bind fun x=>tM x.1
noncomputable def qD (f g:TD):TD:=fun ρ=>(f ρ).bind fun c=>if c=true then g ρ else some false
noncomputable def sY (f g:TD):TD:=fun ρ=>(f ρ).bind fun c=>if c=true then some true else g ρ
noncomputable def gv (f:TD):TD:=fun ρ=>(f ρ).bind fun c=>some (!c)
noncomputable def fU:TD:=fun _=>some true
noncomputable abbrev C2:=D->D->Option Bool
noncomputable def tChain:D->List (C2×BD)->TD
 |_,[]=>fun _=>some true
 |x,[(op,f)]=>fun ρ=>(f ρ).bind fun y=>op x y
 |x,(op,f)::r=>fun ρ=>(f ρ).bind fun y=>(op x y).bind fun c=>if c=true then tChain y r ρ else some false
noncomputable def de (f:BD)(l:List (C2×BD)):TD:=fun ρ=>(f ρ).bind fun x=>tChain x l ρ
noncomputable def zc (i j:Int):Bool:=(decide (-(2 ^ 64)<i)&&decide (i<2 ^ 64))||(decide (-(2 ^ 64)<j)&&decide (j<2 ^ 64))
noncomputable def eZ:O2
 |.int i,.int j=>some (.int (i+j),false)
 |.tuple xs,.tuple ys=>if xs.length+ys.length<=sizeLine then some (.tuple (xs++ys),false) else none
 |.str x,.str y=>if x.length+y.length<=sizeLine then some (.str (x++y),false) else none
 |_,_=>none
noncomputable def BS:O2
 |.int i,.int j=>some (.int (i-j),false)
 |_,_=>none
noncomputable def nZ:O2
 |.int i,.int j=>if zc i j=true then some (.int (i*j),false) else none
 |_,_=>none
noncomputable def yn:O2
 |.int i,.int j=>if 0<j/\j<1073741824 then some (.int (i/j),false) else none
 |_,_=>none
noncomputable def nv:O2
 |.int i,.int j=>if 0<j then some (.int (i%j),false) else none
 |_,_=>none
noncomputable def BU:O2
 |.int i,.int j=>if 0<=j/\j<=1000000/\i.natAbs<2 ^ 64 then some (.int (i ^ j.toNat),false) else none
 |_,_=>none
noncomputable def Gg:D->Option Vl
 |.int i=>some (.int (-i),false)
 |_=>none
noncomputable def G6:C2
 |.int i,.int j=>some (decide (i<j))
 |_,_=>none
noncomputable def Im:C2
 |.int i,.int j=>some (decide (i<=j))
 |_,_=>none
noncomputable def A7:C2
 |.int i,.int j=>some (decide (j<i))
 |_,_=>none
noncomputable def nA:C2:=fun x y=>if (shaped x&&shaped y&&noMix x y)=true then some (same x y) else none
noncomputable def uC:C2:=fun x y=>if (shaped x&&shaped y&&noMix x y)=true then some (!same x y) else none
noncomputable def vZ (n:Nat)(i:Int):Option Nat:=if 0<=i then (if i<n then some i.toNat else none) else if -(n:Int)<=i then some (i+n).toNat else none
noncomputable def sV (xs:List D)(i:Int):Option D:=(vZ xs.length i).bind fun j=>xs[j]?
noncomputable def cN:O2
 |.tuple xs,.int i=>(sV xs i).map fun d=>(d,false)
 |.list xs,.int i=>(sV xs i).map fun d=>(d,false)
 |_,_=>none
noncomputable def fK:D->Option Vl
 |.tuple xs=>some (.int xs.length,false)
 |.list xs=>some (.int xs.length,false)
 |_=>none
noncomputable def dg:D->Option Vl
 |.tuple xs=>some (.tuple xs,false)
 |.list xs=>some (.tuple xs,false)
 |_=>none
noncomputable def kL:List D->Option (List Bool)
 |[]=>some []
 |d::r=>(tM d).bind fun b=>(kL r).map fun bs=>b::bs
noncomputable def pZ:D->Option Vl
 |.tuple xs=>(kL xs).map fun bs=>(.bool (bs.all id),false)
 |.list xs=>(kL xs).map fun bs=>(.bool (bs.all id),false)
 |_=>none
noncomputable def ym:O2
 |.int i,.int j=>some (.int (if j>i then j else i),false)
 |_,_=>none
noncomputable def yl:O2
 |.int i,.int j=>some (.int (if j<i then j else i),false)
 |_,_=>none
noncomputable def zL (T:String):D->Bool
 |.bool _=>T == "bool" || T == "int"
 |.int _=>T == "int"
 |.str _=>T == "str"
 |.tuple _=>T == "tuple"
 |.list _=>T == "list"
 |_=>false
noncomputable def jA (T:String):D->Option Vl
 |.bool b=>some (.bool (zL T (.bool b)),false)
 |.int b=>some (.bool (zL T (.int b)),false)
 |.str b=>some (.bool (zL T (.str b)),false)
 |.tuple b=>some (.bool (zL T (.tuple b)),false)
 |.list b=>some (.bool (zL T (.list b)),false)
 |_=>none
noncomputable def gN (i:Nat):GD:=fun d ρ=>some (ρ.set i (some (d,false)))
noncomputable def og:List GD->List D->Sl->Option Sl
 |[],[],ρ=>some ρ
 |g::gs,d::ds,ρ=>(g d ρ).bind fun ρ'=>og gs ds ρ'
 |_,_,_=>none
noncomputable def gT (gs:List GD):GD:=fun d ρ=>match d with
 |.tuple ds=>og gs ds ρ
 |_=>none
noncomputable def dS:D->Option (List D)
 |.tuple xs=>some xs
 |.list xs=>some xs
 |_=>none
noncomputable def fF (f:ED):AD:=fun ρ=>(f ρ).bind fun x=>dS x.1
noncomputable def da (f:AD):AD:=f
noncomputable def xQ:D->Option Int
 |.int i=>some i
 |_=>none
noncomputable def fv (i:Int)(n:Nat):List D:=(ao n).map fun (k:Nat)=>.int (i+k)
noncomputable def cS (f:ED):AD:=fun ρ=>(f ρ).bind fun x=>(xQ x.1).bind fun j=>if -(2 ^ 62)<=j/\j<2 ^ 62 then some (fv 0 j.toNat) else none
noncomputable def fJ (i:Nat):List D->List D
 |[]=>[]
 |d::ds=>.tuple [.int i,d]::fJ (i+1) ds
noncomputable def fO (f:AD):AD:=fun ρ=>(f ρ).map (fJ 0)
noncomputable def l5:List D->List D->List D
 |x::xs,y::ys=>.tuple [x,y]::l5 xs ys
 |_,_=>[]
noncomputable def oZ (f g:AD):AD:=fun ρ=>(f ρ).bind fun xs=>(g ρ).map fun ys=>l5 xs ys
noncomputable def iD (g:GD)(t:TD)(e:ED)(ρ:Sl):List D->Option (List D)
 |[]=>some []
 |d::ds=>(g d ρ).bind fun ρ1=>(t ρ1).bind fun c=>if c=true then (e ρ1).bind fun x=>(iD g t e ρ ds).map fun xs=>x.1::xs else iD g t e ρ ds
noncomputable def eT (n:Nat)(ix:List Nat)(ρ:Sl):Sl:=aH n none++ix.map (fun j=>(ρ[j]?).join)
noncomputable def dD (it:AD)(n:Nat)(ix:List Nat)(g:GD)(t:TD)(e:ED):ED:=fun ρ=>(it ρ).bind fun ds=>if ds.length<=sizeLine then (iD g t e (eT n ix ρ) ds).map fun xs=>(.list xs,true) else none
noncomputable def fk:SD:=fun ρ=>some (.next ρ)
noncomputable def cH (a b:SD):SD:=fun ρ=>(a ρ).bind fun fl=>match fl with
 |.next ρ'=>b ρ'
 |fl=>some fl
noncomputable def cJ (i:Nat)(f:ED):SD:=fun ρ=>(f ρ).bind fun x=>some (.next (ρ.set i (some x)))
noncomputable def dw (f:ED):SD:=fun ρ=>(f ρ).map .ret
noncomputable def lT (i:Nat):SD:=fun ρ=>match ρ[i]? with
 |some (some (d,false))=>some (.ret (d,false))
 |some (some (.list xs,true))=>some (.ret (.list xs,true))
 |_=>none
noncomputable def il (t:TD)(a b:SD):SD:=fun ρ=>(t ρ).bind fun c=>if c=true then a ρ else b ρ
noncomputable def share (i:Nat)(ρ:Sl):Sl:=match ρ[i]? with
 |some (some (.list xs,true))=>ρ.set i (some (.list xs,false))
 |_=>ρ
noncomputable def kH (i:Nat)(a:SD):SD:=fun ρ=>a (share i ρ)
noncomputable def gf (i:Nat)(F:SD):SD:=fun ρ=>(F ρ).map fun fl=>match fl with
 |.next ρ'=>.next (share i ρ')
 |fl=>fl
noncomputable def iw (xs:List D):D:=.dict [(.list xs,.none)]
noncomputable def nu (c:D):D:=.dict [(c,.bool true)]
noncomputable def CJ (xs:List D):D:=.dict [(.list xs,.bool true)]
noncomputable def iP (ρ:Sl):Bool:=ρ.all fun s=>match s with
 |some (.dict [(_,.none)],true)=>false
 |_=>true
noncomputable def dY (i:Nat):AD:=fun ρ=>match ρ[i]? with
 |some (some (.list xs,false))=>some xs
 |some (some (.tuple xs,false))=>some xs
 |some (some (.dict [(.list xs,.none)],true))=>some xs
 |_=>none
noncomputable def lY (i:Nat)(h:List D->Option (List D)):SD:=fun ρ=>match ρ[i]? with
 |some (some (.list xs,true))=>(h xs).map fun ys=>.next (ρ.set i (some (.list ys,true)))
 |_=>none
noncomputable def ik (i:Nat)(f:ED):SD:=fun ρ=>(f ρ).bind fun x=>lY i (fun xs=>if xs.length<sizeLine then some (xs++[x.1]) else none) ρ
noncomputable def pS (i:Nat)(f:ED):SD:=fun ρ=>(f ρ).bind fun x=>match x with
 |(.list ys,true)=>lY i (fun xs=>if xs.length+ys.length<=sizeLine then some (xs++ys) else none) ρ
 |_=>none
noncomputable def DK (i:Nat)(k f:ED):SD:=fun ρ=>(f ρ).bind fun x=>(k ρ).bind fun y=>(xQ y.1).bind fun j=>lY i (fun xs=>(vZ xs.length j).map fun p=>xs.set p x.1) ρ
noncomputable def eN (g:GD)(b:SD):List D->SD
 |[],ρ=>some (.next ρ)
 | d::ds,ρ=>(g d ρ).bind fun ρ1=>(b ρ1).bind fun fl=>match fl with
  |.next ρ'=>eN g b ds ρ'
  |.cont ρ'=>eN g b ds ρ'
  |.brk ρ'=>some (.next ρ')
  |.ret r=>some (.ret r)
noncomputable def eh (it:AD)(g:GD)(b:SD):SD:=fun ρ=>(it ρ).bind fun ds=>eN g b ds ρ
noncomputable def fc (c:TD)(b:SD):Nat->SD
 |0,_=>none
 | n+1,ρ=>(c ρ).bind fun t=>if t=true then (b ρ).bind fun fl=>match fl with
  |.next ρ'=>fc c b n ρ'
  |.cont ρ'=>fc c b n ρ'
  |.brk ρ'=>some (.next ρ')
  |.ret r=>some (.ret r) else some (.next ρ)
theorem jh {c:TD}{b:SD}:∀{n:Nat}{ρ:Sl}{fl:Fl},fc c b n ρ=some fl->∀k,fc c b (n+k) ρ=some fl
 |0,_,_,h,_=>by cases h
 | n+1,ρ,fl,h,k=>by
  rw[show n+1+k=(n+k)+1 by omega];unfold fc at h ⊢;cases hc:c ρ with
  |none=>rw[hc] at h;cases h
  |some t =>
   rw[hc,aa] at h;rw[aa];cases t with
   |false=>exact h
   |true =>
    rw[if_pos rfl] at h ⊢;cases hb:b ρ with
    |none=>rw[hb] at h;cases h
    |some x =>
     rw[hb,aa] at h;rw[aa];cases x with
     |next ρ'=>exact jh h k
     |cont ρ'=>exact jh h k
     |brk ρ'=>exact h
     |ret r=>exact h
open Classical in
noncomputable def kG (c:TD)(b:SD):SD:=fun ρ=>if h:∃n,(fc c b n ρ).isSome=true then fc c b h.choose ρ else none
theorem pQ {c:TD}{b:SD}{n:Nat}{ρ:Sl}{fl:Fl}(h:fc c b n ρ=some fl):kG c b ρ=some fl:=by
 unfold kG;have hx:∃n,(fc c b n ρ).isSome=true:=⟨n,by rw[h];rfl⟩;rw[dif_pos hx];obtain⟨fl',h'⟩:=Option.isSome_iff_exists.mp hx.choose_spec;rw[h'];have e1:=jh h hx.choose;have e2:=jh h' n;rw[Nat.add_comm] at e1;rw[e1] at e2;exact e2.symm
theorem qo {c:TD}{b:SD}{ρ:Sl}{fl:Fl}(h:kG c b ρ=some fl):∃n,fc c b n ρ=some fl:=by
 unfold kG at h;split at h
 ·exact⟨_,h⟩
 ·cases h
noncomputable def eD:Fl->Option Vl
 |.next _=>some (.none,false)
 |.ret r=>some r
 |_=>none
noncomputable def ki (n m:Nat)(b:SD):FD:=fun ds=>if ds.length=n then (b (ds.map (fun d=>some (d,false))++aH m none)).bind eD else none
noncomputable abbrev PD:=Sl->Option (Option Int)
noncomputable def Hu (p:Int×Int):D:=.tuple [.int p.1,.int p.2]
noncomputable def F1:D->Option (Int×Int)
 |.tuple [.int a,.int b]=>some (a,b)
 |_=>none
noncomputable def nX:List D->Option (List (Int×Int))
 |[]=>some []
 |d::ds=>(F1 d).bind fun p=>(nX ds).map fun ps=>p::ps
noncomputable def Bg (p q:Int×Int):Bool:=decide (p.1<q.1\/(p.1=q.1/\p.2<=q.2))
noncomputable def kQ (ps:List (Int×Int)):List (Int×Int):=ps.mergeSort Bg
noncomputable def wu (ds:List D):Option Vl:=(nX ds).bind fun ps=>if ps.length<64 then some (.list ((kQ ps).map Hu),true) else none
noncomputable def lx:D->Option Vl
 |.tuple ds=>wu ds
 |.list ds=>wu ds
 |_=>none
mutual
noncomputable def oX:D->Bool
 |.none=>true
 |.bool _=>true
 |.int _=>true
 |.str _=>true
 |.tuple ds=>j7 ds
 |.list _=>false
 |.dict _=>false
noncomputable def j7:List D->Bool
 |[]=>true
 |d::ds=>oX d&&j7 ds
end
noncomputable def G4:Option Vl->Option Vl
 |some (d,false)=>some (d,false)
 |some (.list xs,true)=>some (.list xs,false)
 |some (.dict [(.list xs,.none)],true)=>some (.list xs,false)
 |some (.dict [(.list xs,.bool true)],true)=>some (.list xs,false)
 |some (.dict [(.dict kvs,.bool true)],true)=>some (.dict kvs,false)
 |_=>none
noncomputable def unown (ρ:Sl):Sl:=ρ.map G4
noncomputable def xY (t:TD):TD:=fun ρ=>t (unown ρ)
noncomputable def qc (ρ:Sl):Bool:=ρ.all fun s=>match s with
 |some (.dict [(_,.bool true)],true)=>false
 |_=>true
mutual
noncomputable def Jr:D->D->Option Bool
 |.int i,.int j=>some (decide (j<=i))
 |.tuple xs,.tuple ys=>Ja xs ys
 |_,_=>none
noncomputable def Ja:List D->List D->Option Bool
 |[],[]=>some true
 |[],_::_=>some false
 |_::_,[]=>some true
 |x::xs,y::ys=>if same x y=true then Ja xs ys else Jr x y
end
noncomputable def IG:Vl->Option (List D)
 |(.list xs,true)=>some xs
 |_=>none
noncomputable def yo:Vl->Option D
 |(d,false)=>if oX d=true then some d else none
 |_=>none
noncomputable def jH:List D->List D->List D->List D
 |x::xs,y::ys,z::zs=>.tuple [x,y,z]::jH xs ys zs
 |_,_,_=>[]
noncomputable def xp (f g k:AD):AD:=fun ρ=>(f ρ).bind fun xs=>(g ρ).bind fun ys=>(k ρ).map fun zs=>jH xs ys zs
noncomputable def sI (it:AD):ED:=fun ρ=>(it ρ).bind fun ds=>if ds.length<=1000000 then some (.list ds,true) else none
end DL
set_option autoImplicit false
namespace DL
open PySem PySem.Spec PySem.SeqAt
open L2 (V Hp HO dX)
mutual
inductive Kb:Nat->D->Prop where
 |int (n:Nat) (i:Int):Kb n (.int i)
 |tuple {n:Nat}{ds:List D}:vX n ds->Kb (n+1) (.tuple ds)
inductive vX:Nat->List D->Prop where
 |nil {n:Nat}:vX n []
 |cons {n:Nat}{d:D}{ds:List D}:Kb n d->vX n ds->vX n (d::ds)
end
mutual
noncomputable def sa:D->Int
 |.int i=>hashInt i
 |.tuple ds=>reduceHash (Builtin.Tuple.tupleHashOf (iy ds))
 |_=>0
noncomputable def iy:List D->List Int
 |[]=>[]
 |d::ds=>sa d::iy ds
end
noncomputable def A1 (x:D×Addr×Value):DictEntry:=⟨sa x.1,.ref x.2.1,x.2.2⟩
noncomputable abbrev En:=D×V×V
def qk (p:En)(q:D×Addr×Value):Prop:=p.1=q.1/\p.2.1=.ref q.2.1/\dX p.2.2 q.2.2
def qC (a:Addr)(o:Obj)(es:List En)(h:Heap):Prop:=es.length<=sizeLine/\(a==sysModules)=false/\h.get? a=some o/\∃xs:List (D×Addr×Value),PySem.Paired qk es xs ∧
 ∃ds ep,o.ExactDict/\o.data=.dict ds ep/\ds.toList=xs.map A1/\(xs.map (·.1)).Nodup
noncomputable abbrev Es:=Obj×List En
noncomputable def nI (a:Addr)(es:Es):HO:=.ext (qC a es.1 es.2)
theorem qC.stay {a:Addr}{o:Obj}{es:List En}{h1 h2:Heap}(x:qC a o es h1)(k:∀o,h1.get? a=some o->h2.get? a=some o):qC a o es h2:=by
 obtain⟨z,y,e,r⟩:=x;exact⟨z,y,k _ e,r⟩
theorem qC.there {a:Addr}{o:Obj}{es:List En}{h:Heap}(x:qC a o es h):∃o,h.get? a=some o:=⟨o,x.2.2.1⟩
theorem CO {P:Program}{w:World}{H:Hp}{h:Heap}{a:Addr}{es:Es}(x:qC a es.1 es.2 h):L2.ObjOk P w H h a (nI a es):=⟨x,x.there,fun h1 h2 y k=>y.stay k⟩
noncomputable def oW:(List V ⊕ (Heap->Prop))->HO
 |.inl vs=>.lst vs
 |.inr φ=>.ext φ
open L2 (V Hp St HO VK TE TT TA TS TI TG Cx cT PE PT PA PS PSs PI PG jw jT dq eA cO cG cI cY dX EP TP AP SP jU It)
noncomputable abbrev Fg:=PySem.W.Frag
noncomputable def Bc (K:Fg)(H:Hp)(O:List Addr)(a:Addr)(vs:List V):Prop :=
 (H a=some (.lst vs)/\a∉O)\/(∃o,H a=some (.frz o (.lst vs))) ∨
  ∃(o:Obj) (its:Array Value) (n:Nat),K.lookup a=some o/\o.cls=.type "list" ∧ o.dict=none/\o.data=.seq its n/\its.size<=sizeLine/\cY vs its.toList
theorem Bc.sq {K:Fg}{H:Hp}{O:List Addr}{a:Addr}{vs:List V}(h:Bc K H O a vs):jT K H a vs:=by
 rcases h with h|h|h
 ·exact .inl (.inl h.1)
 ·exact .inl (.inr h)
 ·exact .inr h
mutual
inductive R (K:Fg)(H:Hp)(O:List Addr):D->V->Prop where
 |none:R K H O .none .non
 |bool (b:Bool):R K H O (.bool b) (.bl b)
 |int (i:Int):R K H O (.int i) (.int i)
 |str (x:Str):R K H O (.str x) (.str x)
 |tuple {a:Addr}{ds:List D}{vs:List V}:jw K H a vs->Rs K H O ds vs->R K H O (.tuple ds) (.ref a)
 |list {a:Addr}{ds:List D}{vs:List V}:Bc K H O a vs->Rs K H O ds vs->R K H O (.list ds) (.ref a)
 |dict {a:Addr}{kvs:List (D×D)}{es:Es}:H a=some (nI a es)->a∉O->Rd K H O kvs es.2->R K H O (.dict kvs) (.ref a)
inductive Rs (K:Fg)(H:Hp)(O:List Addr):List D->List V->Prop where
 |nil:Rs K H O [] []
 |cons {d:D}{v:V}{ds:List D}{vs:List V}:R K H O d v->Rs K H O ds vs->Rs K H O (d::ds) (v::vs)
inductive Rd (K:Fg)(H:Hp)(O:List Addr):List (D×D)->List En->Prop where
 |nil:Rd K H O [] []
 |cons {k d:D}{u v:V}{kvs:List (D×D)}{es:List En}:R K H O k u->R K H O d v->Rd K H O kvs es->Rd K H O ((k,d)::kvs) ((k,u,v)::es)
end
structure iZ (M O:List Addr)(H:Hp)(O':List Addr)(H':Hp):Prop where
 tup:∀b xs,H b=some (.tup xs)->H' b=some (.tup xs)
 frz:∀b o u,H b=some (.frz o u)->H' b=some (.frz o u)
 lst:∀b xs,b∉M->H b=some (.lst xs)->H' b=some (.lst xs)
 ext:∀b φ,b∉M->H b=some (.ext φ)->H' b=some (.ext φ)
 new:∀b∈O',b∈O\/H b=none
 sub:∀b∈M,b∈O
theorem iZ.same {O:List Addr}{H H':Hp}(s:dq H H'):iZ [] O H O H':=⟨fun b _ e=>s b _ e,fun b _ _ e=>s b _ e,fun b _ _ e=>s b _ e,fun b _ _ e=>s b _ e,fun _ h=>.inl h,(fun _ h=>nomatch h)⟩
theorem iZ.less {O O':List Addr}{H:Hp}(s:∀b∈O',b∈O):iZ [] O H O' H:=⟨fun _ _ e=>e,fun _ _ _ e=>e,fun _ _ _ e=>e,fun _ _ _ e=>e,fun b h=>.inl (s b h),(fun _ h=>nomatch h)⟩
theorem iZ.fresh {O:List Addr}{H H':Hp}{p:Addr}(s:dq H H')(hp:H p=none):iZ [] O H (p::O) H':=⟨fun b _ e=>s b _ e,fun b _ _ e=>s b _ e,fun b _ _ e=>s b _ e,fun b _ _ e=>s b _ e,fun b hb=>(List.mem_cons.mp hb).elim (fun z=>.inr (z▸hp)) .inl,(fun _ h=>nomatch h)⟩
theorem jw.ext {K:Fg}{M O O':List Addr}{H H':Hp}{a:Addr}{vs:List V}(e:iZ M O H O' H')(h:jw K H a vs):jw K H' a vs:=by
 rcases h with (h|⟨o,h⟩)|h
 ·exact .inl (.inl (e.tup _ _ h))
 ·exact .inl (.inr ⟨o,e.frz _ _ _ h⟩)
 ·exact .inr h
theorem Bc.ext {K:Fg}{M O O':List Addr}{H H':Hp}{a:Addr}{vs:List V}(e:iZ M O H O' H')(h:Bc K H O a vs):Bc K H' O' a vs:=by
 rcases h with ⟨h,n⟩|⟨o,h⟩|h
 ·refine .inl ⟨e.lst _ _ (fun z=>n (e.sub _ z)) h,fun z=>?_⟩;rcases e.new _ z with q|q
  ·exact n q
  ·rw[q] at h;cases h
 ·exact .inr (.inl ⟨o,e.frz _ _ _ h⟩)
 ·exact .inr (.inr h)
mutual
theorem R.ext {K:Fg}{M O O':List Addr}{H H':Hp}{d:D}{v:V}(e:iZ M O H O' H'):R K H O d v->R K H' O' d v
 |.none=>.none
 |.bool b=>.bool b
 |.int i=>.int i
 |.str x=>.str x
 |.tuple h r=>.tuple (jw.ext e h) (Rs.ext e r)
 |.list h r=>.list (h.ext e) (Rs.ext e r)
 |.dict h n r=>.dict (e.ext _ _ (fun z=>n (e.sub _ z)) h) (fun z=>(e.new _ z).elim n fun q=>by rw[q] at h;cases h) (Rd.ext e r)
theorem Rs.ext {K:Fg}{M O O':List Addr}{H H':Hp}{ds:List D}{vs:List V}(e:iZ M O H O' H'):Rs K H O ds vs->Rs K H' O' ds vs
 |.nil=>.nil
 |.cons h r=>.cons (R.ext e h) (Rs.ext e r)
theorem Rd.ext {K:Fg}{M O O':List Addr}{H H':Hp}{kvs:List (D×D)}{es:List En}(e:iZ M O H O' H'):Rd K H O kvs es->Rd K H' O' kvs es
 |.nil=>.nil
 |.cons h g r=>.cons (R.ext e h) (R.ext e g) (Rd.ext e r)
end
section
variable {K:Fg}{H H':Hp}{O:List Addr}
theorem Rd.length:∀{kvs:List (D×D)}{es:List En},Rd K H O kvs es->kvs.length=es.length:=by
 intro ds;induction ds with
 |nil=>intro vs h; cases h; rfl
 |cons d ds ih=>
  intro vs h;cases h with
  |cons _ _ r=>rw [aJ,aJ,ih r]
theorem Rd.get:∀{kvs:List (D×D)}{es:List En}{i:Nat}{p:D×D},Rd K H O kvs es->kvs[i]?=some p->∃u v,es[i]?=some (p.1,u,v)/\R K H O p.1 u/\R K H O p.2 v
 |_,_,_,_,.nil,e=>by simp at e
 |_,_,0,_,.cons h g _,e=>by simp at e;subst e;exact⟨_,_,rfl,h,g⟩
 |_,_,i+1,_,.cons _ _ r,e=>by simpa using Rd.get r (by simpa using e)
theorem Rd.append:∀{kvs kvs':List (D×D)}{es es':List En},Rd K H O kvs es->Rd K H O kvs' es'->Rd K H O (kvs++kvs') (es++es')
 |_,_,_,_,.nil,s=>s
 |_,_,_,_,.cons h g r,s=>.cons h g (Rd.append r s)
theorem Rd.same {kvs:List (D×D)}{es:List En}(s:dq H H')(h:Rd K H O kvs es):Rd K H' O kvs es:=h.ext (.same s)
theorem Rs.length:∀{ds:List D}{vs:List V},Rs K H O ds vs->ds.length=vs.length:=by
 intro ds;induction ds with
 |nil=>intro vs h; cases h; rfl
 |cons d ds ih=>
  intro vs h;cases h with
  |cons _ r=>rw [aJ,aJ,ih r]
theorem Rs.get:∀{ds:List D}{vs:List V}{i:Nat}{d:D},Rs K H O ds vs->ds[i]?=some d->∃v,vs[i]?=some v/\R K H O d v
 |_,_,_,_,.nil,e=>by simp at e
 |_,_,0,_,.cons h _,e=>by simp at e;subst e;exact⟨_,rfl,h⟩
 |_,_,i+1,_,.cons _ r,e=>by simpa using Rs.get r (by simpa using e)
theorem Rs.append:∀{ds es:List D}{vs us:List V},Rs K H O ds vs->Rs K H O es us->Rs K H O (ds++es) (vs++us):=by
 intro ds;induction ds with
 |nil=>intro es vs us h s; cases h; exact s
 |cons d ds ih=>
  intro es vs us h s;cases h with
  |cons q r=>exact .cons q (ih r s)
theorem Rs.set {d:D}{v:V}(h:R K H O d v):∀{ds:List D}{vs:List V} (n:Nat),Rs K H O ds vs->Rs K H O (ds.set n d) (vs.set n v)
 |_,_,_,.nil=>.nil
 |_,_,0,.cons _ r=>.cons h r
 |_,_,n+1,.cons q r=>.cons q (Rs.set h n r)
theorem Rs.rep {ds:List D}{vs:List V}(h:Rs K H O ds vs):∀k:Nat,Rs K H O (aH k ds).flatten (aH k vs).flatten
 |0=>.nil
 |k+1=>by rw[bz,bz,bL,bL];exact h.append (Rs.rep h k)
theorem R.same {d:D}{v:V}(s:dq H H')(h:R K H O d v):R K H' O d v:=h.ext (.same s)
theorem Rs.same {ds:List D}{vs:List V}(s:dq H H')(h:Rs K H O ds vs):Rs K H' O ds vs:=h.ext (.same s)
end
inductive Dp (K:Fg)(H:Hp)(O M:List Addr):List D->List Addr->Prop where
 |nil:Dp K H O M [] []
 |cons {xs:List D}{vs:List V}{b:Addr}{ds:List D}{bs:List Addr}:H b=some (.lst vs)->b∈M->Rs K H O xs vs->Dp K H O M ds bs->Dp K H O M (.list xs::ds) (b::bs)
theorem Dp.go {K:Fg}{H H':Hp}{Mx O O' M M':List Addr}{ds:List D}{bs:List Addr}(x:iZ Mx O H O' H')(h:Dp K H O M ds bs)(k:∀b∈bs,b∈M->b∈M'/\∀vs,H b=some (.lst vs)->H' b=some (.lst vs)):Dp K H' O' M' ds bs:=by
 induction h with
 |nil=>exact .nil
 |cons h1 h2 h3 _ ih=>exact .cons ((k _ aQ h2).2 _ h1) (k _ aQ h2).1 (h3.ext x) (ih fun b hb=>k b (aG _ hb))
theorem Dp.mem {K:Fg}{H:Hp}{O M:List Addr}{ds:List D}{bs:List Addr}(h:Dp K H O M ds bs):∀b∈bs,b∈M:=by
 induction h with
 |nil=>exact fun b hb=>nomatch hb
 |cons _ h2 _ _ ih=>exact fun b hb=>(List.mem_cons.mp hb).elim (fun z=>z▸h2) (ih b)
def De (K:Fg)(H:Hp)(O M:List Addr)(ρ:Sl)(σ:St)(i:Nat)(ds:List D):Prop:=∃a bs,σ[i]?=some (some (.ref a))/\H a=some (.lst (bs.map V.ref))/\a∈M/\(a::bs).Nodup/\Dp K H O M ds bs/\∀(j:Nat) (es:List D) (c:Addr),ρ[j]?=some (some (.list es,true))->σ[j]?=some (some (.ref c))->c∉a::bs
def Fv (K:Fg)(H:Hp)(O M:List Addr)(ρ:Sl)(σ:St)(i:Nat)(kvs:List (D×D)):Prop:=∃a es,σ[i]?=some (some (.ref a))/\H a=some (nI a es)/\a∈M/\Rd K H O kvs es.2/\∀(j:Nat) (es:List D) (c:Addr),ρ[j]?=some (some (.list es,true))->σ[j]?=some (some (.ref c))->c≠a
def IW (K:Fg)(H:Hp)(O M:List Addr)(ρ:Sl)(σ:St)(i:Nat)(c:D):Prop:=(∃ds,c=.list ds/\De K H O M ρ σ i ds)\/∃kvs,c=.dict kvs/\Fv K H O M ρ σ i kvs
structure kO (K:Fg)(H:Hp)(O M:List Addr)(ρ:Sl)(σ:St):Prop where
 pk:∀(i:Nat) (c:D),ρ[i]?=some (some (nu c,true))->IW K H O M ρ σ i c
 one:∀(i j:Nat) (c e:D),ρ[i]?=some (some (nu c,true))->ρ[j]?=some (some (nu e,true))->i=j
theorem kO.at_ {K:Fg}{H:Hp}{O M:List Addr}{ρ:Sl}{σ:St}(h:kO K H O M ρ σ)(i:Nat)(ds:List D)(e:ρ[i]?=some (some (CJ ds,true))):De K H O M ρ σ i ds:=by
 rcases h.pk i (.list ds) e with ⟨_,z,q⟩|⟨_,z,_⟩
 ·cases z;exact q
 ·cases z
theorem kO.dc {K:Fg}{H:Hp}{O M:List Addr}{ρ:Sl}{σ:St}(h:kO K H O M ρ σ)(i:Nat)(kvs:List (D×D))(e:ρ[i]?=some (some (nu (.dict kvs),true))):Fv K H O M ρ σ i kvs:=by
 rcases h.pk i (.dict kvs) e with ⟨_,z,q⟩|⟨_,z,q⟩
 ·cases z
 ·cases z;exact q
theorem kO.none_ {K:Fg}{H:Hp}{O M:List Addr}{ρ:Sl}{σ:St}(h:∀(i:Nat) (x:Vl),ρ[i]?=some (some x)->x.2=false):kO K H O M ρ σ:=⟨fun i ds e=>absurd (h i _ e) (by simp),fun i j ds es e=>absurd (h i _ e) (by simp)⟩
theorem kO.go {K:Fg}{H H':Hp}{Mx O O' M M':List Addr}{ρ ρ':Sl}{σ σ':St}(h:kO K H O M ρ σ)(x:iZ Mx O H O' H')(hd:∀(i:Nat) (c:D),ρ'[i]?=some (some (nu c,true))->ρ[i]?=some (some (nu c,true))/\σ'[i]?=σ[i]?)
  (hm:∀b∈M,(∀(j:Nat) (es:List D),ρ[j]?=some (some (.list es,true))->σ[j]?≠some (some (.ref b)))->b∈M'/\∀u,H b=some (oW u)->H' b=some (oW u))
  (ho:∀(j:Nat) (es:List D) (c:Addr),ρ'[j]?=some (some (.list es,true))->σ'[j]?=some (some (.ref c))->c∉M\/∃(j':Nat) (es':List D),ρ[j']?=some (some (PyData.list es',true))/\σ[j']?=some (some (V.ref c))):kO K H' O' M' ρ' σ' where
 one:=fun i j ds es e1 e2=>h.one i j ds es (hd i ds e1).1 (hd j es e2).1
 pk:=fun i c e=>by
  obtain⟨e1,e2⟩:=hd i c e;rcases h.pk i c e1 with ⟨ds,rfl,q⟩|⟨kvs,rfl,q⟩
  ·refine .inl ⟨ds,rfl,?_⟩;obtain⟨a,bs,h1,h2,h3,h4,h5,h6⟩:=q;have inM:∀b∈a::bs,b∈M:=fun b hb=>(List.mem_cons.mp hb).elim (fun z=>z▸h3) (h5.mem b);have good:∀b∈a::bs,b∈M'/\∀vs,H b=some (.lst vs)->H' b=some (.lst vs):=fun b hb =>
    let g:=hm b (inM b hb) fun j es e z=>h6 j es b e z hb
    ⟨g.1,fun vs e=>g.2 (.inl vs) e⟩
   refine⟨a,bs,e2.trans h1,(good a aQ).2 _ h2,(good a aQ).1,h4,h5.go x fun b hb _=>good b (aG _ hb),fun j es c z1 z2 z3=>?_⟩;rcases ho j es c z1 z2 with z|⟨j',es',z4,z5⟩
   ·exact z (inM c z3)
   ·exact h6 j' es' c z4 z5 z3
  ·refine .inr ⟨kvs,rfl,?_⟩;obtain⟨a,es,h1,h2,h3,h5,h6⟩:=q;obtain⟨g1,g2⟩:=hm a h3 fun j es e z=>h6 j es a e z rfl;refine⟨a,es,e2.trans h1,g2 (.inr _) h2,g1,h5.ext x,fun j es c z1 z2 z3=>?_⟩;rcases ho j es c z1 z2 with z|⟨j',es',z4,z5⟩
   ·exact z (z3▸h3)
   ·exact h6 j' es' c z4 z5 z3
structure ER (K:Fg)(H:Hp)(O M:List Addr)(lad:Nat->Addr)(ρ:Sl)(σ:St):Prop where
 sh:∀(i:Nat) (d:D),ρ[i]?=some (some (d,false))->∃v,σ[i]?=some (some v)/\R K H O d v
 ow:∀(i:Nat) (ds:List D),ρ[i]?=some (some (.list ds,true))->∃a vs,σ[i]?=some (some (.ref a))/\H a=some (.lst vs)/\a∈M/\Rs K H O ds vs
 le:∀(i:Nat) (ds:List D),ρ[i]?=some (some (iw ds,true))->σ[i]?=some (some (.ref (lad i)))/\∃vs,H (lad i)=some (.lst vs)/\lad i∈O/\lad i∉M/\Rs K H O ds vs
 ap:∀(i j:Nat) (ds es:List D) (a:Addr),ρ[i]?=some (some (.list ds,true))->ρ[j]?=some (some (.list es,true))->σ[i]?=some (some (.ref a))->σ[j]?=some (some (.ref a))->i=j
 tr:∀a∈O,∃u,H a=some (oW u)
 sub:∀a∈M,a∈O
 len:ρ.length=σ.length
 dp:kO K H O M ρ σ
noncomputable def v5 (K:Fg)(H:Hp)(O:List Addr)(H':Hp)(r:Vl)(v:V):Prop :=
 (r.2=false/\R K H' O r.1 v)\/(r.2=true/\∃a ds vs,r.1=.list ds/\v=.ref a/\H a=none/\H' a=some (.lst vs)/\Rs K H' (a::O) ds vs)
noncomputable def BR (K:Fg)(H:Hp)(O:List Addr)(d:D)(v:V):Prop :=
 R K H O d v\/(∃a ds vs,d=.list ds/\v=.ref a/\H a=some (.lst vs)/\Rs K H O ds vs)\/∃a kvs es,d=.dict kvs/\v=.ref a/\H a=some (nI a es)/\Rd K H O kvs es.2
section
variable {K:Fg}{H H' H1 H2:Hp}{O M:List Addr}{lad:Nat->Addr}{ρ:Sl}{σ:St}{d:D}{v:V}{r:Vl}
theorem ER.same (s:dq H H')(h:ER K H O M lad ρ σ):ER K H' O M lad ρ σ where
 sh:=fun i d e=>let ⟨v,e1,q⟩:=h.sh i d e;⟨v,e1,q.same s⟩
 ow:=fun i d e=>let ⟨a,vs,e2,e3,e4,q⟩:=h.ow i d e;⟨a,vs,e2,s _ _ e3,e4,q.same s⟩
 le:=fun i d e=>let ⟨e2,vs,e3,e4,e5,q⟩:=h.le i d e;⟨e2,vs,s _ _ e3,e4,e5,q.same s⟩
 ap:=h.ap
 tr:=fun a ha=>let ⟨vs,e⟩:=h.tr a ha;⟨vs,s _ _ e⟩
 sub:=h.sub
 len:=h.len
 dp:=h.dp.go (.same s) (fun _ _ e=>⟨e,rfl⟩) (fun b hb _=>⟨hb,fun vs e=>s _ _ e⟩) fun j es c e1 e2=>.inr ⟨j,es,e1,e2⟩
theorem ER.ne (h:ER K H O M lad ρ σ):∀a∈O,H a≠none:=fun a ha e=>by
 obtain⟨vs,q⟩:=h.tr a ha;rw[e] at q;cases q
theorem R.bb (h:R K H O d v):BR K H O d v:=.inl h
theorem BR.same (s:dq H H')(h:BR K H O d v):BR K H' O d v:=by
 rcases h with h|⟨a,ds,vs,e1,e2,e3,q⟩|⟨a,kvs,es,e1,e2,e3,q⟩
 ·exact .inl (h.same s)
 ·exact .inr (.inl ⟨a,ds,vs,e1,e2,s _ _ e3,q.same s⟩)
 ·exact .inr (.inr ⟨a,kvs,es,e1,e2,s _ _ e3,q.same s⟩)
theorem v5.toR (tr:∀a∈O,H a≠none)(h:v5 K H O H' r v):R K H' O r.1 v:=by
 rcases h with ⟨_,h⟩|⟨_,a,ds,vs,e1,e2,e3,e4,q⟩
 ·exact h
 ·rw[e1,e2];exact .list (.inl ⟨e4,fun z=>tr a z e3⟩) (q.ext (.less fun b hb=>aG _ hb))
theorem v5.of (h:R K H' O d v):v5 K H O H' (d,false) v:=.inl ⟨rfl,h⟩
theorem v5.back (s:dq H H1)(h:v5 K H1 O H' r v):v5 K H O H' r v:=by
 rcases h with h|⟨e,a,ds,vs,e1,e2,e3,e4,q⟩
 ·exact .inl h
 ·exact .inr ⟨e,a,ds,vs,e1,e2,s.free e3,e4,q⟩
end
noncomputable def uE (K:Fg)(f:ED):TE:=fun σ H Q=>∃ρ O M lad r,ER K H O M lad ρ σ/\f ρ=some r/\∀v H',dq H H'->v5 K H O H' r v->Q v H'
noncomputable def uB (K:Fg)(f:BD):TE:=fun σ H Q=>∃ρ O M lad d,ER K H O M lad ρ σ/\f ρ=some d/\∀v H',dq H H'->BR K H' O d v->Q v H'
noncomputable def uT (K:Fg)(f:TD):TT:=fun σ H Q=>∃ρ O M lad b,ER K H O M lad ρ σ/\f ρ=some b/\∀H',dq H H'->Q b H'
noncomputable def uA (K:Fg)(f:AD):TA:=fun σ H Q=>∃ρ O M lad ds,ER K H O M lad ρ σ/\f ρ=some ds/\∀vs H',dq H H'->Rs K H' O ds vs->Q vs H'
def DE (X:Cx)(e:Expr)(f:ED):Prop:=PE X e (uE X.K f)
def DB (X:Cx)(e:Expr)(f:BD):Prop:=PE X e (uB X.K f)
def DT (X:Cx)(e:Expr)(f:TD):Prop:=PT X e (uT X.K f)
def DA (X:Cx)(es:List Expr)(f:AD):Prop:=PA X es (uA X.K f)
theorem _root_.L2.PE.imp {X:Cx}{e:Expr}{t t':TE}(h:PE X e t)(i:∀σ H Q,t' σ H Q->t σ H Q):PE X e t':=fun pins s σ H Q I q=>h pins s σ H Q I (i σ H Q q)
theorem _root_.L2.PT.imp {X:Cx}{e:Expr}{t t':TT}(h:PT X e t)(i:∀σ H Q,t' σ H Q->t σ H Q):PT X e t':=fun pins s σ H Q I q=>h pins s σ H Q I (i σ H Q q)
theorem _root_.L2.PA.imp {X:Cx}{e:List Expr}{t t':TA}(h:PA X e t)(i:∀σ H Q,t' σ H Q->t σ H Q):PA X e t':=fun pos pins s σ H Q I q=>h pos pins s σ H Q I (i σ H Q q)
theorem _root_.L2.PS.imp {X:Cx}{e:Stmt}{t t':TS}(h:PS X e t)(i:∀D σ H,t' D σ H->t D σ H):PS X e t':=fun pins s σ H D I q=>h pins s σ H D I (i D σ H q)
theorem _root_.L2.PSs.imp {X:Cx}{e:List Stmt}{t t':TS}(h:PSs X e t)(i:∀D σ H,t' D σ H->t D σ H):PSs X e t':=fun pins s σ H D I q=>h pins s σ H D I (i D σ H q)
section
variable {X:Cx}{e a b c:Expr}{es:List Expr}{f g:ED}{fb gb hb:BD}{t u:TD}{pos:Pos}
theorem DE.bb (h:DE X e f):DB X e (cC f):=h.imp fun σ H Q zz=>by
 obtain ⟨ρ,O,M,lad,d,hE,hf,k⟩:=zz;unfold cC at hf;cases hr:f ρ with
 |none=>rw[hr] at hf;cases hf
 |some r =>
  rw[hr,av] at hf;cases hf;exact⟨ρ,O,M,lad,r,hE,hr,fun v H' s q=>k v H' s (q.toR hE.ne).bb⟩
theorem cf (i:Nat){x:Str}(hN:X.N[i]?=some x:=by rfl)(hv:L2.Vis X.env.scope x:=by first|exact Or.inl rfl|exact Or.inr (Or.inl rfl)|exact Or.inr (Or.inr rfl))(hd:(x==("__debug__" : Str))=false:=by decide)
  (hcd:(x==("__classdict__" : Str))=false:=by decide):DB X (.Name x pos) (cc i):=(L2.pe_var hN hv hd hcd).imp fun σ H Q zz=>by
 obtain ⟨ρ,O,M,lad,d,hE,hf,k⟩:=zz;unfold cc at hf;split at hf
 ·rename_i d' hr;cases hf;obtain⟨v,e1,q⟩:=hE.sh i _ hr;exact⟨v,e1,k v H (.refl H) q.bb⟩
 ·rename_i ds hr;cases hf;obtain⟨a,vs,e2,e3,e4,q⟩:=hE.ow i _ hr;exact⟨_,e2,k _ H (.refl H) (.inr (.inl ⟨a,ds,vs,rfl,rfl,e3,q⟩))⟩
 ·rename_i kvs hr;cases hf;obtain⟨a,es,e2,e3,e4,q,_⟩:=hE.dp.dc i kvs hr;exact⟨_,e2,k _ H (.refl H) (.inr (.inr ⟨a,kvs,es,rfl,rfl,e3,q⟩))⟩
 ·cases hf
theorem ck (i:Nat){x:Str}(hN:X.N[i]?=some x:=by rfl)(hv:L2.Vis X.env.scope x:=by first|exact Or.inl rfl|exact Or.inr (Or.inl rfl)|exact Or.inr (Or.inr rfl))(hd:(x==("__debug__" : Str))=false:=by decide)
  (hcd:(x==("__classdict__" : Str))=false:=by decide):DE X (.Name x pos) (cj i):=(L2.pe_var hN hv hd hcd).imp fun σ H Q zz=>by
 obtain ⟨ρ,O,M,lad,d,hE,hf,k⟩:=zz;unfold cj at hf;split at hf
 ·rename_i d' hr;cases hf;obtain⟨v,e1,q⟩:=hE.sh i _ hr;exact⟨v,e1,k v H (.refl H) (.of q)⟩
 ·cases hf
theorem GN {d:D}{v:V}(h:PE X e (L2.tC v))(r:∀(H:Hp) (O:List Addr),R X.K H O d v):DE X e (dC d):=h.imp fun σ H Q zz=>by
 obtain ⟨ρ,O,M,lad,r',hE,hf,k⟩:=zz;cases hf;exact k v H (.refl H) (.of (r H O))
theorem cz {i j}:DE X (.Constant (.int i) j pos) (dC (.int i)):=GN L2.pe_int fun _ _=>.int _
theorem kY {i j}:DE X (.Constant (.bool i) j pos) (dC (.bool i)):=GN L2.pe_bl fun _ _=>.bool _
theorem sv {j}:DE X (.Constant .none j pos) (dC .none):=GN L2.pe_non fun _ _=>.none
def OD (X:Cx)(r:L2.R2)(op:O2):Prop:=∀(x y:D) (vx vy:V) (H:Hp) (O:List Addr) (res:Vl) (Q:VK),(∀a∈O,H a≠none)->BR X.K H O x vx->BR X.K H O y vy->op x y=some res →
 (∀v H',dq H H'->v5 X.K H O H' res v->Q v H')->r vx vy H Q
theorem vQ {r:L2.R2}{op:O2}(hd:OD X r op){σ:St}{H:Hp}{Q:VK}(h:uE X.K (d2 op fb gb) σ H Q):L2.tOp r (uB X.K fb) (uB X.K gb) σ H Q:=by
 obtain⟨ρ,O,M,lad,res,hE,hf,k⟩:=h;unfold d2 at hf;obtain⟨x,hx,hf⟩:=Option.bind_eq_some_iff.mp hf;obtain⟨y,hy,hf⟩:=Option.bind_eq_some_iff.mp hf;refine⟨ρ,O,M,lad,x,hE,hx,fun vx H1 s1 q1=>⟨ρ,O,M,lad,y,hE.same s1,hy,fun vy H2 s2 q2=>?_⟩⟩;exact hd x y vx vy H2 O res Q ((hE.same s1).same s2).ne (q1.same s2) q2 hf fun v H' s q=>k v H' ((s1.trans s2).trans s) (q.back (s1.trans s2))
theorem dJ {op:Operator}{r:L2.R2}{o:O2}(ho:L2.OpR X (binaryOp op) r)(hd:OD X r o)(ha:DB X a fb)(hb:DB X b gb):DE X (.BinOp a op b pos) (d2 o fb gb) :=
 (L2.pe_op ho ha hb).imp fun _ _ _ h=>vQ hd h
def UD (X:Cx)(r:V->Hp->VK->Prop)(op:D->Option Vl):Prop:=∀(x:D) (vx:V) (H:Hp) (O:List Addr) (res:Vl) (Q:VK),(∀a∈O,H a≠none)->BR X.K H O x vx->op x=some res →
 (∀v H',dq H H'->v5 X.K H O H' res v->Q v H')->r vx H Q
theorem CS {r:V->Hp->VK->Prop}{op:D->Option Vl}(hd:UD X r op){σ:St}{H:Hp}{Q:VK}(h:uE X.K (d1 op fb) σ H Q):L2.tUn r (uB X.K fb) σ H Q:=by
 obtain⟨ρ,O,M,lad,res,hE,hf,k⟩:=h;unfold d1 at hf;obtain⟨x,hx,hf⟩:=Option.bind_eq_some_iff.mp hf;refine⟨ρ,O,M,lad,x,hE,hx,fun vx H1 s1 q1=>?_⟩;exact hd x vx H1 O res Q (hE.same s1).ne q1 hf fun v H' s q=>k v H' (s1.trans s) (q.back s1)
theorem HZ {op:UnaryOp}{r:V->Hp->VK->Prop}{o:D->Option Vl}(ho:L2.UnR X (unaryOp op) r)(hd:UD X r o)(ha:DB X a fb):DE X (.UnaryOp op a pos) (d1 o fb) :=
 (L2.pe_un ho ha).imp fun _ _ _ h=>CS hd h
theorem cA:DA X [] cy:=L2.pa_nil.imp fun σ H Q zz=>by
 obtain ⟨ρ,O,M,lad,ds,hE,hf,k⟩:=zz;cases hf;exact k [] H (.refl H) .nil
theorem b8 {t:AD}(ha:DE X e f)(hr:DA X es t)(hs:starEach (e::es) X.env=(false,eval e X.env)::starEach es X.env:=by rfl):DA X (e::es) (b7 f t):=(L2.pa_cons ha hr hs).imp fun σ H Q zz=>by
 obtain ⟨ρ,O,M,lad,ds,hE,hf,k⟩:=zz;unfold b7 at hf;obtain⟨x,hx,hf⟩:=Option.bind_eq_some_iff.mp hf;obtain⟨xs,hy,hf⟩:=Option.bind_eq_some_iff.mp hf;cases hf;exact⟨ρ,O,M,lad,x,hE,hx,fun v H1 s1 q1=>⟨ρ,O,M,lad,xs,hE.same s1,hy,fun vs H2 s2 q2=>k _ H2 (s1.trans s2) (.cons ((q1.toR hE.ne).same s2) q2)⟩⟩
theorem fB {x1}{t:AD}(h:DA X es t):DE X (.Tuple es x1 pos) (eK t):=(L2.pe_tup h).imp fun σ H Q zz=>by
 obtain ⟨ρ,O,M,lad,r,hE,hf,k⟩:=zz;unfold eK at hf;obtain⟨xs,hx,hf⟩:=Option.bind_eq_some_iff.mp hf;split at hf
 ·rename_i hz;cases hf;refine⟨ρ,O,M,lad,xs,hE,hx,fun vs H1 s1 q1=>⟨by rw[<-q1.length];exact hz,fun p hp=>?_⟩⟩;have s2:dq H1 (eA H1 p (.tup vs)):=fun b o e=>by rw[cG (cI e hp)];exact e
  exact k _ _ (s1.trans s2) (.of (.tuple (.inl (.inl cO)) (q1.same s2)))
 ·cases hf
theorem dZ {t:AD}(h:DA X es t):DE X (.List es pos) (df t):=(L2.pe_lst h).imp fun σ H Q zz=>by
 obtain ⟨ρ,O,M,lad,r,hE,hf,k⟩:=zz;unfold df at hf;obtain⟨xs,hx,hf⟩:=Option.bind_eq_some_iff.mp hf;split at hf
 ·rename_i hz;cases hf;refine⟨ρ,O,M,lad,xs,hE,hx,fun vs H1 s1 q1=>⟨by rw[<-q1.length];exact hz,fun p hp=>?_⟩⟩;have s2:dq H1 (eA H1 p (.lst vs)):=fun b o e=>by rw[cG (cI e hp)];exact e
  refine k _ _ (s1.trans s2) (.inr ⟨rfl,p,xs,vs,rfl,rfl,s1.free hp,cO,q1.ext (iZ.fresh s2 hp)⟩)
 ·cases hf
noncomputable def spD (K:Fg)(F:FD):L2.Sp:=fun vs H Q _=>∃ds O r,Rs K H O ds vs/\(∀a∈O,∃u,H a=some (oW u))/\F ds=some r/\∀v H',dq H H'->v5 K H O H' r v->Q v H'
theorem EE {k:Nat}{fa:Addr}{fd:FuncData}{ps:List Str}{F:FD}{x:Str}{p:Pos}{t:AD}(G:L2.FnOk X.prog X.w X.K X.mg X.base L2.CX0 k fa fd ps (spD X.K F))(hr:L2.Room k X.A)(hg:L2.Gl X x)(hm:X.mg x=some (.ref fa))(hk:PySem.W.keepIn X.K (.ref fa)=true)
  (hb:L2.Binds X.K fd ps []) (ha:DA X (e::es) t) (hdb:(x==("__debug__" : Str))=false:=by decide) (he:starEach (e::es) X.env=(false,eval e X.env)::starEach es X.env:=by rfl) (hpl:(backTo pos (starEach es X.env)).any (·.1)=false:=by rfl) :
  DE X (.Call (.Name x p) (e::es) [] pos) (cB F t):=by
 refine (L2.pe_call G hr hg hm hk hb (.nil:cY [] []) L2.pass0 ha hdb he hpl).imp fun σ H Q zz=>?_;obtain ⟨ρ,O,M,lad,r,hE,hf,k⟩:=zz;unfold cB at hf;obtain⟨ds,hx,hf⟩:=Option.bind_eq_some_iff.mp hf;refine⟨ρ,O,M,lad,ds,hE,hx,fun vs H1 s1 q1=>?_⟩;show spD X.K F (vs++[]) H1 Q L2.E0;rw[br];exact⟨ds,O,r,q1,(hE.same s1).tr,hf,fun v H' s q=>k v H' (s1.trans s) (q.back s1)⟩
theorem xI {d:D}{c:Bool}(h:tM d=some c):d=.bool c:=by
 cases d <;> first|(cases h;rfl)|cases h
theorem v5.bool {K:Fg}{H H':Hp}{O:List Addr}{r:Vl}{v:V}{c:Bool}(h:v5 K H O H' r v)(e:tM r.1=some c):v=.bl c:=by
 have e':=xI e;rcases h with ⟨_,h⟩|⟨_,a,ds,vs,e1,_⟩
 ·rw[e'] at h;cases h;rfl
 ·rw[e'] at e1;cases e1
theorem yN {op}(h:DE X a f):DE X (.BoolOp op [a] pos) f:=L2.pe_one h
theorem vO {fV:List Expr}(ha:DE X a f)(hb:DE X (.BoolOp .And (b::fV) pos) g):DE X (.BoolOp .And (a::b::fV) pos) (tL f g):=(L2.pe_and ha hb).imp fun σ H Q zz=>by
 obtain ⟨ρ,O,M,lad,r,hE,hf,k⟩:=zz;unfold tL at hf;obtain⟨x,hx,hf⟩:=Option.bind_eq_some_iff.mp hf;obtain⟨c,hc,hf⟩:=Option.bind_eq_some_iff.mp hf;refine⟨ρ,O,M,lad,x,hE,hx,fun v H1 s1 q1=>⟨c,q1.bool hc,?_⟩⟩;cases c with
 |true =>
  rw[if_pos rfl] at hf ⊢;exact⟨ρ,O,M,lad,r,hE.same s1,hf,fun v H' s q=>k v H' (s1.trans s) (q.back s1)⟩
 |false =>
  rw[if_neg Bool.false_ne_true] at hf ⊢;cases hf;exact k _ H1 s1 (.of (.bool _))
theorem GJ (ha:DE X a f):DE X (.UnaryOp .Not a pos) (EF f):=(L2.pe_not ha).imp fun σ H Q zz=>by
 obtain ⟨ρ,O,M,lad,r,hE,hf,k⟩:=zz;unfold EF at hf;obtain⟨x,hx,hf⟩:=Option.bind_eq_some_iff.mp hf;obtain⟨c,hc,hf⟩:=Option.bind_eq_some_iff.mp hf;cases hf;exact⟨ρ,O,M,lad,x,hE,hx,fun v H1 s1 q1=>⟨c,q1.bool hc,k _ H1 s1 (.of (.bool _))⟩⟩
theorem jB (h:DE X e f)(he:∀whole,isTrue e X.env whole=(do let v <-whole;standAt e.pos;holding [v] (truthy v)):=by intro _;rfl):DT X e (lX f):=(L2.pt_val h he).imp fun σ H Q zz=>by
 obtain ⟨ρ,O,M,lad,c,hE,hf,k⟩:=zz;unfold lX at hf;obtain⟨x,hx,hf⟩:=Option.bind_eq_some_iff.mp hf;exact⟨ρ,O,M,lad,x,hE,hx,fun v H1 s1 q1=>⟨c,q1.bool hf,k H1 s1⟩⟩
def DW (X:Cx)(e:Expr)(f:TD):Prop:=L2.PW X e (uT X.K f)
theorem _root_.L2.PW.imp {X:Cx}{e:Expr}{t t':TT}(h:L2.PW X e t)(i:∀σ H Q,t' σ H Q->t σ H Q):L2.PW X e t':=fun whole pins s σ H Q I q=>h whole pins s σ H Q I (i σ H Q q)
theorem zS (ha:DT X a t):DW X (.BoolOp .And [a] pos) t:=L2.pw_and1 ha
theorem sj (ha:DT X a t):DW X (.BoolOp .Or [a] pos) t:=L2.pw_or1 ha
theorem DW.tt (h:DW X e t):DT X e t:=h _
theorem CA {fV:List Expr}(ha:DT X a t)(hb:DW X (.BoolOp .And (b::fV) pos) u):DW X (.BoolOp .And (a::b::fV) pos) (qD t u):=(L2.pw_and ha hb).imp fun σ H Q zz=>by
 obtain ⟨ρ,O,M,lad,r,hE,hf,k⟩:=zz;unfold qD at hf;obtain⟨c,hx,hf⟩:=Option.bind_eq_some_iff.mp hf;refine⟨ρ,O,M,lad,c,hE,hx,fun H1 s1=>?_⟩;cases c with
 |true =>
  rw[if_pos rfl] at hf ⊢;exact⟨ρ,O,M,lad,r,hE.same s1,hf,fun H' s=>k H' (s1.trans s)⟩
 |false =>
  rw[if_neg Bool.false_ne_true] at hf ⊢;cases hf;exact k H1 s1
theorem um {fV:List Expr}(ha:DT X a t)(hb:DW X (.BoolOp .Or (b::fV) pos) u):DW X (.BoolOp .Or (a::b::fV) pos) (sY t u):=(L2.pw_or ha hb).imp fun σ H Q zz=>by
 obtain ⟨ρ,O,M,lad,r,hE,hf,k⟩:=zz;unfold sY at hf;obtain⟨c,hx,hf⟩:=Option.bind_eq_some_iff.mp hf;refine⟨ρ,O,M,lad,c,hE,hx,fun H1 s1=>?_⟩;cases c with
 |false =>
  rw[if_neg Bool.false_ne_true] at hf ⊢;exact⟨ρ,O,M,lad,r,hE.same s1,hf,fun H' s=>k H' (s1.trans s)⟩
 |true =>
  rw[if_pos rfl] at hf ⊢;cases hf;exact k H1 s1
theorem jC (ha:DT X a t):DT X (.UnaryOp .Not a pos) (gv t):=(L2.pt_not ha).imp fun σ H Q zz=>by
 obtain ⟨ρ,O,M,lad,r,hE,hf,k⟩:=zz;unfold gv at hf;obtain⟨c,hx,hf⟩:=Option.bind_eq_some_iff.mp hf;cases hf;exact⟨ρ,O,M,lad,c,hE,hx,fun H1 s1=>k H1 s1⟩
def CD (X:Cx)(r:L2.R2)(op:C2):Prop:=∀(x y:D) (vx vy:V) (H:Hp) (O:List Addr) (c:Bool) (Q:VK),BR X.K H O x vx->BR X.K H O y vy->op x y=some c->Q (.bl c) H->r vx vy H Q
theorem C4 {r:L2.R2}{op:C2}(hd:CD X r op){ρ:Sl}{O M:List Addr}{lad:Nat->Addr}{k:Bool}{σ:St}{H:Hp}{Q:VK}(hE:ER X.K H O M lad ρ σ)(hf:de fb [(op,gb)] ρ=some k)(q:∀H',dq H H'->Q (.bl k) H'):L2.tOp r (uB X.K fb) (uB X.K gb) σ H Q:=by
 unfold de tChain at hf;obtain⟨x,hx,hf⟩:=Option.bind_eq_some_iff.mp hf;obtain⟨y,hy,hf⟩:=Option.bind_eq_some_iff.mp hf;exact⟨ρ,O,M,lad,x,hE,hx,fun vx H1 s1 q1=>⟨ρ,O,M,lad,y,hE.same s1,hy,fun vy H2 s2 q2=>hd x y vx vy H2 O k Q (q1.same s2) q2 hf (q H2 (s1.trans s2))⟩⟩
theorem yT {ρ:Sl}{r:Vl}(h:sH t ρ=some r):∃c,t ρ=some c/\r=(.bool c,false):=by
 unfold sH at h;cases hx:t ρ with
 |none=>rw[hx] at h;cases h
 |some c=>rw[hx] at h;cases h;exact⟨c,rfl,rfl⟩
theorem Fi {op:CmpOp}{r:L2.R2}{o:C2}(ho:L2.OpR X (compareOp op) r)(hd:CD X r o)(ha:DB X a fb)(hb:DB X b gb)(hm:behindInMarks op b=false:=by first|exact L2.nomark _|with_unfolding_all rfl):DE X (.Compare a [op] [b] pos) (sH (de fb [(o,gb)])) :=
 (L2.pe_cmpR ho ha hb hm).imp fun σ H Q zz=>by
  obtain ⟨ρ,O,M,lad,r,hE,hf,k⟩:=zz;obtain⟨c,hc,rfl⟩:=yT hf;exact C4 hd hE hc fun H' s=>k _ H' s (.of (.bool _))
theorem fW {op:CmpOp}{r:L2.R2}{o:C2}(ho:L2.OpR X (compareOp op) r)(hd:CD X r o)(ha:DB X a fb)(hb:DB X b gb)(hm:behindInMarks op b=false:=by first|exact L2.nomark _|with_unfolding_all rfl):DT X (.Compare a [op] [b] pos) (de fb [(o,gb)]) :=
 (L2.pt_cmpR ho ha hb hm).imp fun σ H Q ⟨ρ,O,M,lad,c,hE,hf,k⟩=>C4 hd hE hf fun H' s=>⟨c,rfl,k H' s⟩
theorem GU {r r':L2.R2}{op op':C2}(hd:CD X r op)(hd':CD X r' op'){ρ:Sl}{O M:List Addr}{lad:Nat->Addr}{k:Bool}{σ:St}{H:Hp}{Q:VK}(hE:ER X.K H O M lad ρ σ)(hf:de fb [(op,gb),(op',hb)] ρ=some k)(q:∀H',dq H H'->Q (.bl k) H') :
  L2.tChain r r' (uB X.K fb) (uB X.K gb) (uB X.K hb) σ H Q:=by
 unfold de tChain at hf;obtain⟨x,hx,hf⟩:=Option.bind_eq_some_iff.mp hf;obtain⟨y,hy,hf⟩:=Option.bind_eq_some_iff.mp hf;obtain⟨c,hc,hf⟩:=Option.bind_eq_some_iff.mp hf;refine⟨ρ,O,M,lad,x,hE,hx,fun vx H1 s1 q1=>⟨ρ,O,M,lad,y,hE.same s1,hy,fun vy H2 s2 q2=>hd x y vx vy H2 O c _ (q1.same s2) q2 hc ⟨c,rfl,?_⟩⟩⟩;cases c with
 |false =>
  rw[if_neg Bool.false_ne_true] at hf ⊢;cases hf;exact q H2 (s1.trans s2)
 |true =>
  rw[if_pos rfl] at hf ⊢;unfold tChain at hf;obtain⟨z,hz,hf⟩:=Option.bind_eq_some_iff.mp hf;exact⟨ρ,O,M,lad,z,(hE.same s1).same s2,hz,fun vz H3 s3 q3=>hd' y z vy vz H3 O k Q (q2.same s3) q3 hf (q H3 ((s1.trans s2).trans s3))⟩
theorem HW {op op':CmpOp}{r r':L2.R2}{o o':C2}(ho:L2.OpR X (compareOp op) r)(hd:CD X r o)(ho':L2.OpR X (compareOp op') r')(hd':CD X r' o')(ha:DB X a fb)(hb':DB X b gb)(hc:DB X c hb)(hm:lastMarks [op,op'] [b,c]=false:=by with_unfolding_all rfl) :
  DT X (.Compare a [op,op'] [b,c] pos) (de fb [(o,gb),(o',hb)]):=(L2.pt_chain ho ho' ha hb' hc hm).imp fun σ H Q ⟨ρ,O,M,lad,c,hE,hf,k⟩=>GU hd hd' hE hf fun H' s=>⟨c,rfl,k H' s⟩
end
structure gZ (M:List Addr)(H:Hp)(M':List Addr)(H':Hp):Prop where
 keep:∀b o,b∉M->H b=some o->H' b=some o
 tup:∀b xs,H b=some (.tup xs)->H' b=some (.tup xs)
 frz:∀b o u,H b=some (.frz o u)->H' b=some (.frz o u)
 new:∀b∈M',b∈M\/H b=none
 there:∀b,H b≠none->H' b≠none
theorem gZ.refl (M:List Addr)(H:Hp):gZ M H M H:=⟨fun _ _ _ e=>e,fun _ _ e=>e,fun _ _ _ e=>e,fun _ h=>.inl h,fun _ h=>h⟩
theorem gZ.same {M:List Addr}{H H':Hp}(s:dq H H'):gZ M H M H':=⟨fun b o _ e=>s b o e,fun b _ e=>s b _ e,fun b _ _ e=>s b _ e,fun _ h=>.inl h,fun b h z=>by
 cases e:H b with
 |none=>exact h e
 |some o=>rw[s b o e] at z;cases z⟩
theorem gZ.trans {M M1 M2:List Addr}{H H1 H2:Hp}(a:gZ M H M1 H1)(b:gZ M1 H1 M2 H2):gZ M H M2 H2 where
 keep:=fun c o n e=>b.keep c o (fun z=>(a.new c z).elim n fun q=>by rw[q] at e;cases e) (a.keep c o n e)
 tup:=fun c xs e=>b.tup c xs (a.tup c xs e)
 frz:=fun c o u e=>b.frz c o u (a.frz c o u e)
 new:=fun c hc=>by
  rcases b.new c hc with z|z
  ·exact a.new c z
  ·refine .inr ?_;cases e:H c with
   |none=>rfl
   |some o=>exact absurd z (a.there c (by rw[e];simp))
 there:=fun c h=>b.there c (a.there c h)
theorem gZ.ext {M M' B:List Addr}{H H':Hp}(a:gZ M H M' H'):iZ M (M++B) H (M'++B) H' where
 sub:=fun b hb=>aS _ hb
 tup:=a.tup
 frz:=a.frz
 lst:=fun b xs n e=>a.keep b _ n e
 ext:=fun b φ n e=>a.keep b _ n e
 new:=fun b hb=>(List.mem_append.mp hb).elim (fun z=>(a.new b z).elim (fun q=>.inl (aS _ q)) .inr) fun z=>.inl (aL _ z)
def SR (K:Fg)(B:List Addr)(H₀:Hp)(M₀:List Addr)(lad:Nat->Addr)(ρ:Sl)(σ:St)(H:Hp):Prop:=∃M,gZ M₀ H₀ M H/\(∀a∈M,a∉B)/\ER K H (M++B) M lad ρ σ
noncomputable def Aa (K:Fg)(B:List Addr)(H₀:Hp)(M₀:List Addr)(H':Hp)(r:Vl)(v:V):Prop :=
 (∃M',gZ M₀ H₀ M' H')/\((r.2=false/\R K H' B r.1 v)\/(r.2=true/\∃a ds vs,r.1=.list ds/\v=.ref a/\(a∈M₀\/H₀ a=none)/\H' a=some (.lst vs)/\Rs K H' (a::B) ds vs))
noncomputable def Ig (K:Fg)(B:List Addr)(H₀:Hp)(M₀:List Addr)(lad:Nat->Addr)(E:jU):Fl->Prop
 |.next ρ=>∀σ H,SR K B H₀ M₀ lad ρ σ H->E.nx σ H
 |.brk ρ=>∀σ H,SR K B H₀ M₀ lad ρ σ H->E.bk σ H
 |.cont ρ=>∀σ H,SR K B H₀ M₀ lad ρ σ H->E.ct σ H
 |.ret r=>∀v H,Aa K B H₀ M₀ H r v->E.rt v H
noncomputable def uS (K:Fg)(B:List Addr)(H₀:Hp)(M₀:List Addr)(lad:Nat->Addr)(F:SD):TS:=fun E σ H=>∃ρ fl,SR K B H₀ M₀ lad ρ σ H/\F ρ=some fl/\Ig K B H₀ M₀ lad E fl
def DS (X:Cx)(st:Stmt)(F:SD):Prop:=∀B H₀ M₀ lad,PS X st (uS X.K B H₀ M₀ lad F)
def Df (X:Cx)(st:List Stmt)(F:SD):Prop:=∀B H₀ M₀ lad,PSs X st (uS X.K B H₀ M₀ lad F)
theorem lB {a b:Addr}{M B:List Addr}(h:a∈(b::M)++B):a=b\/a∈M++B:=by
 rw[JD] at h;exact List.mem_cons.mp h
theorem ER.set {K:Fg}{H H':Hp}{B M:List Addr}{lad:Nat->Addr}{ρ:Sl}{σ:St}{r:Vl}{v:V}(i:Nat)(h:ER K H (M++B) M lad ρ σ)(hB:∀a∈M,a∉B)(s:dq H H')(q:v5 K H (M++B) H' r v) :
  ∃M',gZ M H M' H'/\(∀a∈M',a∉B)/\ER K H' (M'++B) M' lad (ρ.set i (some r)) (σ.set i (some v)):=by
 have h':=h.same s;by_cases hi:i<ρ.length
 ·have hi':i<σ.length:=by rw[<-h.len];exact hi
  obtain⟨d,o⟩:=r;rcases q with ⟨e,q⟩|⟨e,a,ds,vs,e1,e2,e3,e4,q⟩
  ·cases e;have out:∀{j:Nat}{x:Vl},x.2=true->(ρ.set i (some (d,false)))[j]?=some (some x)->i≠j:=fun {j x} hx ej z=>by subst z;rw[ay hi] at ej;cases ej;cases hx
   refine⟨M,.same s,hB,⟨fun j d' ej=>?_,fun j d' ej=>?_,fun j d' ej=>?_,fun j k d' e' a e1 e2 e3 e4=>?_,h'.tr,h'.sub,by rw[aY,aY];exact h.len,h'.dp.go (.same (.refl _)) (fun j es ej=>?_) (fun b hb _=>⟨hb,fun _ e=>e⟩) fun j es c ej ec=>.inr ?_⟩⟩
   ·by_cases hj:i=j
    ·subst hj;rw[ay hi] at ej;cases ej;exact⟨v,ay hi',q⟩
    ·rw[ai hj] at ej ⊢;exact h'.sh j d' ej
   ·have hj:=out rfl ej;rw[ai hj] at ej ⊢;exact h'.ow j d' ej
   ·have hj:=out rfl ej;rw[ai hj] at ej ⊢;exact h'.le j d' ej
   ·have nj:=out rfl e1;have nk:=out rfl e2;rw[ai nj] at e1 e3;rw[ai nk] at e2 e4;exact h'.ap j k d' e' a e1 e2 e3 e4
   ·have nj:=out rfl ej;rw[ai nj] at ej;exact⟨ej,ai nj⟩
   ·have nj:=out rfl ej;rw[ai nj] at ej ec;exact⟨j,es,ej,ec⟩
  ·cases e;have e1':d=.list ds:=e1;subst e1' e2;have x:iZ [] (M++B) H ((a::M)++B) H':=iZ.fresh s e3;have notIn:∀b,b∈M++B->b≠a:=fun b hb z=>h.ne b hb (z▸e3);refine⟨a::M,⟨fun b o _ e=>s b o e,fun b _ e=>s b _ e,fun b _ _ e=>s b _ e,fun b hb=>(List.mem_cons.mp hb).elim (fun z=>.inr (z▸e3)) .inl,(gZ.same (M:=M) s).there⟩,fun b hb=>(List.mem_cons.mp hb).elim (fun z hbB=>h.ne a (aL _ (z▸hbB)) e3) (hB b),
    ⟨fun j d' ej=>?_,fun j d' ej=>?_,fun j d' ej=>?_,fun j k d' e' b e1 e2 e3' e4'=>?_,fun b hb=>?_,fun b hb=>?_,by rw[aY,aY];exact h.len,h.dp.go x (fun j es ej=>?_) (fun b hb _=>⟨aG _ hb,fun _ e=>s _ _ e⟩) fun j es c ej ec=>?_⟩⟩
   ·by_cases hj:i=j
    ·subst hj;rw[ay hi] at ej;cases ej
    ·rw[ai hj] at ej ⊢;obtain⟨w,e5,q5⟩:=h.sh j d' ej;exact⟨w,e5,q5.ext x⟩
   ·by_cases hj:i=j
    ·subst hj;rw[ay hi] at ej;cases ej;exact⟨a,vs,ay hi',e4,aQ,q⟩
    ·rw[ai hj] at ej ⊢;obtain⟨b,us,e6,e7,e8,q5⟩:=h.ow j d' ej;exact⟨b,us,e6,s _ _ e7,aG _ e8,q5.ext x⟩
   ·have hj:i≠j:=fun z=>by subst z;rw[ay hi] at ej;cases ej
    rw[ai hj] at ej ⊢;obtain⟨e6,us,e7,e8,e9,q5⟩:=h.le j d' ej;exact⟨e6,us,s _ _ e7,aG _ e8,fun z=>(List.mem_cons.mp z).elim (fun z=>notIn _ e8 z) e9,q5.ext x⟩
   ·by_cases hj:i=j
    ·subst hj;by_cases hk:i=k
     ·exact hk
     ·rw[ay hi'] at e3';cases e3';rw[ai hk] at e2 e4';obtain⟨b,us,e6,e7,e8,q5⟩:=h.ow k e' e2;rw[e4'] at e6;cases e6;exact absurd rfl (notIn _ (aS _ e8))
    ·by_cases hk:i=k
     ·subst hk;rw[ay hi'] at e4';cases e4';rw[ai hj] at e1 e3';obtain⟨b,us,e6,e7,e8,q5⟩:=h.ow j d' e1;rw[e3'] at e6;cases e6;exact absurd rfl (notIn _ (aS _ e8))
     ·rw[ai hj] at e1 e3';rw[ai hk] at e2 e4';exact h'.ap j k d' e' b e1 e2 e3' e4'
   ·rcases lB hb with z|z
    ·subst z;exact⟨.inl vs,e4⟩
    ·exact h'.tr b z
   ·rcases List.mem_cons.mp hb with z|z
    ·subst z;exact aS _ aQ
    ·exact aS _ (aG _ z)
   ·have nj:i≠j:=fun z=>by subst z;rw[ay hi] at ej;cases ej
    rw[ai nj] at ej;exact⟨ej,ai nj⟩
   ·by_cases hj:i=j
    ·subst hj;rw[ay hi'] at ec;cases ec;exact .inl fun z=>notIn _ (aS _ z) rfl
    ·rw[ai hj] at ej ec;exact .inr ⟨j,es,ej,ec⟩
 ·refine⟨M,.same s,hB,?_⟩;rw[JF ⋯,JF (by rw[<-h.len];omega)];exact h'
section
variable {X:Cx}{e a b c:Expr}{es:List Expr}{f g:ED}{fb gb hb:BD}{t u:TD}{pos:Pos}{st:Stmt}{fV sts:List Stmt}{F G:SD}
theorem eg:Df X [] fk:=fun B H₀ M₀ lad=>L2.pss_nil.imp fun E σ H zz=>by
 obtain ⟨ρ,fl,hR,hf,k⟩:=zz;cases hf;exact k σ H hR
theorem cx (h1:DS X st F)(h2:Df X fV G):Df X (st::fV) (cH F G):=fun B H₀ M₀ lad=>(L2.pss_cons (h1 B H₀ M₀ lad) (h2 B H₀ M₀ lad)).imp fun E σ H zz=>by
 obtain ⟨ρ,fl,hR,hf,k⟩:=zz;unfold cH at hf;obtain⟨fl1,hx,hf⟩:=Option.bind_eq_some_iff.mp hf;refine⟨ρ,fl1,hR,hx,?_⟩;cases fl1 with
 |next ρ'=>exact fun σ' H' r=>⟨ρ',fl,r,hf,k⟩
 |ret r=>cases hf;exact k
 |brk ρ'=>cases hf;exact k
 |cont ρ'=>cases hf;exact k
theorem cD (h1:DS X st F):Df X [st] F:=fun B H₀ M₀ lad=>L2.pss_one (h1 B H₀ M₀ lad)
theorem gh (hc:DT X c t)(ha:Df X sts F)(hb:Df X fV G):DS X (.If c sts fV pos) (il t F G):=fun B H₀ M₀ lad=>(L2.ps_if hc (ha B H₀ M₀ lad) (hb B H₀ M₀ lad)).imp fun E σ H zz=>by
 obtain ⟨ρ,fl,⟨M,hx,hB,hE⟩,hf,k⟩:=zz;unfold il at hf;obtain⟨c,ht,hf⟩:=Option.bind_eq_some_iff.mp hf;refine⟨ρ,_,M,lad,c,hE,ht,fun H1 s1=>?_⟩;have hR:SR X.K B H₀ M₀ lad ρ σ H1:=⟨M,hx.trans (.same s1),hB,hE.same s1⟩;cases c with
 |true=>dsimp only at hf ⊢;rw[if_pos rfl] at hf ⊢;exact⟨ρ,fl,hR,hf,k⟩
 |false=>dsimp only at hf ⊢;rw[if_neg Bool.false_ne_true] at hf ⊢;exact⟨ρ,fl,hR,hf,k⟩
theorem zq {i:Nat}{B:List Addr}{H₀:Hp}{M₀:List Addr}{lad:Nat->Addr}{E:jU}{σ:St}{H:Hp}(h:uS X.K B H₀ M₀ lad (cJ i f) E σ H):L2.tAsg (uE X.K f) (L2.gName i) E σ H:=by
 obtain⟨ρ,fl,⟨M,hx,hB,hE⟩,hf,k⟩:=h;unfold cJ at hf;obtain⟨r,hr,hf⟩:=Option.bind_eq_some_iff.mp hf;cases hf;refine⟨ρ,_,M,lad,r,hE,hr,fun v H1 s1 q1=>?_⟩;obtain⟨M',x',B',E'⟩:=hE.set i hB s1 q1;exact k _ _ ⟨M',hx.trans x',B',E'⟩
theorem cP {i:Nat}{x:Str}{pos':Pos}(hN:X.N.Nodup)(he:DE X e f)(hi:X.N[i]?=some x:=by rfl)(hx:L2.Loc X.env.scope x:=by first|exact Or.inl rfl|exact Or.inr rfl)(hs:swapsWith e (some (.Name x pos')) pos.line X.env=pure false:=by rfl)(hf:X.fn x=true\/X.env.scope.names.lookup x=some .local:=by first|exact .inl rfl|exact .inr rfl|assumption) :
  DS X (.Assign [.Name x pos'] e pos) (cJ i f):=fun B H₀ M₀ lad=>(L2.ps_set hN hi hx he hs hf).imp fun E σ H h=>zq h
theorem dj (he:DE X e f):DS X (.Return (some e) pos) (dw f):=fun B H₀ M₀ lad=>(L2.ps_ret he).imp fun E σ H zz=>by
 obtain ⟨ρ,fl,⟨M,hx,hB,hE⟩,hf,k⟩:=zz;unfold dw at hf;cases hr:f ρ with
 |none=>rw[hr] at hf;cases hf
 |some r =>
  rw[hr,av] at hf;cases hf;refine⟨ρ,_,M,lad,r,hE,hr,fun v H1 s1 q1=>k v H1 ⟨⟨M,hx.trans (.same s1)⟩,?_⟩⟩;rcases q1 with ⟨e,q⟩|⟨e,a,ds,vs,e1,e2,e3,e4,q⟩
  ·exact .inl ⟨e,q.ext (.less fun b hb=>aL _ hb)⟩
  ·refine .inr ⟨e,a,ds,vs,e1,e2,.inr ?_,e4,q.ext (.less fun b hb=>(List.mem_cons.mp hb).elim (fun z=>z▸aQ) fun z=>aG _ (aL _ z))⟩;cases e5:H₀ a with
   |none=>rfl
   |some o=>exact absurd e3 (hx.there a (by rw[e5];simp))
theorem lH (i:Nat){x:Str}{pos':Pos}(hN:X.N[i]?=some x:=by rfl)(hv:L2.Vis X.env.scope x:=by first|exact Or.inl rfl|exact Or.inr (Or.inl rfl)|exact Or.inr (Or.inr rfl))(hd:(x==("__debug__" : Str))=false:=by decide)
  (hcd:(x==("__classdict__" : Str))=false:=by decide):DS X (.Return (some (.Name x pos')) pos) (lT i):=fun B H₀ M₀ lad=>(L2.ps_ret (L2.pe_var hN hv hd hcd)).imp fun E σ H zz=>by
 obtain ⟨ρ,fl,⟨M,hx,hB,hE⟩,hf,k⟩:=zz;unfold lT at hf;split at hf
 ·rename_i d hr;cases hf;obtain⟨v,e1,q⟩:=hE.sh i _ hr;exact⟨v,e1,k v H ⟨⟨M,hx⟩,.inl ⟨rfl,q.ext (.less fun b hb=>aL _ hb)⟩⟩⟩
 ·rename_i ds hr;cases hf;obtain⟨a,vs,e2,e3,e4,q⟩:=hE.ow i _ hr;exact⟨_,e2,k _ H ⟨⟨M,hx⟩,.inr ⟨rfl,a,ds,vs,rfl,rfl,hx.new a e4,e3,q.ext (.less fun b hb=>(List.mem_cons.mp hb).elim (fun z=>z▸aS _ e4) fun z=>aL _ z)⟩⟩⟩
 ·cases hf
theorem ER.share {K:Fg}{H:Hp}{B M:List Addr}{lad:Nat->Addr}{ρ:Sl}{σ:St}(i:Nat)(h:ER K H (M++B) M lad ρ σ)(hB:∀a∈M,a∉B):∃M',(∀a∈M',a∈M)/\ER K H (M'++B) M' lad (share i ρ) σ:=by
 unfold DL.share;split
 ·rename_i ds hr;have hi:i<ρ.length:=(List.getElem?_eq_some_iff.mp hr).1;obtain⟨a,vs,e2,e3,e4,q⟩:=h.ow i _ hr;have sub:∀b∈M.filter (fun b=>decide (b≠a))++B,b∈M++B:=fun b hb=>(List.mem_append.mp hb).elim (fun z=>aS _ (List.mem_filter.mp z).1) fun z=>aL _ z;have out:∀{j:Nat}{x:Vl},x.2=true->(ρ.set i (some (.list ds,false)))[j]?=some (some x)->i≠j:=fun {j x} hx ej z=>by subst z;rw[ay hi] at ej;cases ej;cases hx
  refine⟨M.filter (fun b=>decide (b≠a)),fun b hb=>(List.mem_filter.mp hb).1,⟨fun j d' ej=>?_,fun j d' ej=>?_,fun j d' ej=>?_,fun j k d' e' b e5 e6 e7 e8=>?_,fun b hb=>h.tr b (sub b hb),fun b hb=>aS _ hb,by rw[aY];exact h.len,h.dp.go (.less sub) (fun j es ej=>?_) (fun b hb nb=>⟨List.mem_filter.mpr ⟨hb,decide_eq_true fun z=>nb i _ hr (by rw[z];exact e2)⟩,fun _ e=>e⟩) fun j es c ej ec=>.inr ?_⟩⟩
  ·by_cases hj:i=j
   ·subst hj;rw[ay hi] at ej;cases ej;refine⟨_,e2,.list (.inl ⟨e3,fun z=>?_⟩) (q.ext (.less sub))⟩;rcases List.mem_append.mp z with z|z
    ·exact absurd rfl (of_decide_eq_true (List.mem_filter.mp z).2)
    ·exact hB a e4 z
   ·rw[ai hj] at ej;obtain⟨v,e5,q5⟩:=h.sh j d' ej;exact⟨v,e5,q5.ext (.less sub)⟩
  ·have hj:=out rfl ej;rw[ai hj] at ej;obtain⟨b,us,e6,e7,e8,q5⟩:=h.ow j d' ej;refine⟨b,us,e6,e7,List.mem_filter.mpr ⟨e8,decide_eq_true fun z=>?_⟩,q5.ext (.less sub)⟩;subst z;exact hj (h.ap i j _ d' b hr ej e2 e6)
  ·have hj:=out rfl ej;rw[ai hj] at ej;obtain⟨e6,us,e7,e8,e9,q5⟩:=h.le j d' ej;refine⟨e6,us,e7,?_,fun z=>e9 (List.mem_filter.mp z).1,q5.ext (.less sub)⟩;exact (List.mem_append.mp e8).elim (fun z=>absurd z e9) fun z=>aL _ z
  ·have nj:=out rfl e5;have nk:=out rfl e6;rw[ai nj] at e5;rw[ai nk] at e6;exact h.ap j k d' e' b e5 e6 e7 e8
  ·have nj:=out rfl ej;rw[ai nj] at ej;exact⟨ej,rfl⟩
  ·have nj:=out rfl ej;rw[ai nj] at ej;exact⟨j,es,ej,ec⟩
 ·exact⟨M,fun _ h=>h,h⟩
theorem SR.share {K:Fg}{B:List Addr}{H₀:Hp}{M₀:List Addr}{lad:Nat->Addr}{ρ:Sl}{σ:St}{H:Hp}(i:Nat)(h:SR K B H₀ M₀ lad ρ σ H):SR K B H₀ M₀ lad (DL.share i ρ) σ H:=by
 obtain⟨M,hx,hB,hE⟩:=h;obtain⟨M',sub,E'⟩:=hE.share i hB;exact⟨M',⟨hx.keep,hx.tup,hx.frz,fun b hb=>hx.new b (sub b hb),hx.there⟩,fun a ha=>hB a (sub a ha),E'⟩
theorem sr (i:Nat)(h:DS X st F):DS X st (kH i F):=fun B H₀ M₀ lad=>(h B H₀ M₀ lad).imp fun E σ H ⟨ρ,fl,hR,hf,k⟩=>⟨_,fl,hR.share i,hf,k⟩
theorem ER.mut {K:Fg}{H:Hp}{B M:List Addr}{lad:Nat->Addr}{ρ:Sl}{σ:St}{i:Nat}{ds ds':List D}{a:Addr}{vs':List V}(h:ER K H (M++B) M lad ρ σ)(hr:ρ[i]?=some (some (.list ds,true)))(hσ:σ[i]?=some (some (.ref a)))(q:Rs K H (M++B) ds' vs') :
  gZ M H M (eA H a (.lst vs'))/\ER K (eA H a (.lst vs')) (M++B) M lad (ρ.set i (some (.list ds',true))) σ:=by
 obtain⟨a',us,e2,e3,e4,q0⟩:=h.ow i _ hr;rw[hσ] at e2;cases e2;have hi:i<ρ.length:=(List.getElem?_eq_some_iff.mp hr).1;have x:gZ M H M (eA H a (.lst vs')):=by
  refine⟨fun b o n e=>?_,fun b xs e=>?_,fun b o u e=>?_,fun b hb=>.inl hb,fun b hb=>?_⟩
  ·rw[cG (fun (z:b=a)=>n (by rw[z];exact e4))];exact e
  ·rw[cG (fun z=>by subst z;rw[e3] at e;cases e)];exact e
  ·rw[cG (fun z=>by subst z;rw[e3] at e;cases e)];exact e
  ·by_cases hz:b=a
   ·subst hz;rw[cO];simp
   ·rw[cG hz];exact hb
 have x':iZ M (M++B) H (M++B) (eA H a (.lst vs')):=x.ext;refine⟨x,⟨fun j d' ej=>?_,fun j d' ej=>?_,fun j d' ej=>?_,fun j k d' e' b e5 e6 e7 e8=>?_,fun b hb=>?_,h.sub,by rw[aY];exact h.len,h.dp.go x' (fun j es ej=>?_) (fun b hb nb=>⟨hb,fun _ e=>by rw[cG (fun (z:b=a)=>nb i _ hr (by rw[z];exact hσ))];exact e⟩) fun j es c ej ec=>.inr ?_⟩⟩
 ·have nj:i≠j:=fun z=>by subst z;rw[ay hi] at ej;cases ej
  rw[ai nj] at ej;obtain⟨v,e5,q5⟩:=h.sh j d' ej;exact⟨v,e5,q5.ext x'⟩
 ·by_cases hj:i=j
  ·subst hj;rw[ay hi] at ej;cases ej;exact⟨a,vs',hσ,cO,e4,q.ext x'⟩
  ·rw[ai hj] at ej;obtain⟨b,us',e6,e7,e8,q5⟩:=h.ow j d' ej;refine⟨b,us',e6,?_,e8,q5.ext x'⟩;rw[cG (fun (z:b=a)=>hj (h.ap i j _ d' b hr ej (by rw[z];exact hσ) e6))];exact e7
 ·have nj:i≠j:=fun z=>by subst z;rw[ay hi] at ej;cases ej
  rw[ai nj] at ej;obtain⟨e6,us',e7,e8,e9,q5⟩:=h.le j d' ej;refine⟨e6,us',?_,e8,e9,q5.ext x'⟩;rw[cG (fun (z:lad j=a)=>e9 (by rw[z];exact e4))];exact e7
 ·by_cases hj:i=j
  ·by_cases hk:i=k
   ·exact hj.symm.trans hk
   ·subst hj;rw[ai hk] at e6;exact h.ap i k _ e' b hr e6 e7 e8
  ·rw[ai hj] at e5;by_cases hk:i=k
   ·subst hk;exact h.ap j i d' _ b e5 hr e7 e8
   ·rw[ai hk] at e6;exact h.ap j k d' e' b e5 e6 e7 e8
 ·by_cases hz:b=a
  ·subst hz;exact⟨.inl vs',cO⟩
  ·rw[cG hz];exact h.tr b hb
 ·have nj:i≠j:=fun z=>by subst z;rw[ay hi] at ej;cases ej
  rw[ai nj] at ej;exact⟨ej,rfl⟩
 ·by_cases hj:i=j
  ·subst hj;exact⟨i,ds,hr,ec⟩
  ·rw[ai hj] at ej;exact⟨j,es,ej,ec⟩
theorem pR {i:Nat}{h:List D->Option (List D)}{ρ:Sl}{fl:Fl}(e:lY i h ρ=some fl):∃xs ys,ρ[i]?=some (some (.list xs,true))/\h xs=some ys/\fl=.next (ρ.set i (some (.list ys,true))):=by
 unfold lY at e;split at e
 ·rename_i xs hr;cases hy:h xs with
  |none=>rw[hy] at e;cases e
  |some ys =>
   rw[hy] at e;cases e;exact⟨xs,ys,hr,hy,rfl⟩
 ·cases e
theorem iC {i:Nat}{x:Str}{p1 p2 p3:Pos}(he:DE X e f)(hN:X.N[i]?=some x:=by rfl)(hv:L2.Vis X.env.scope x:=by first|exact Or.inl rfl|exact Or.inr (Or.inl rfl)|exact Or.inr (Or.inr rfl))(hd:(x==("__debug__" : Str))=false:=by decide)
  (hcd:(x==("__classdict__" : Str))=false:=by decide)
  (hs0:starEach [e] X.env=[(false,eval e X.env)]:=by rfl)
  (hbase:attributeBase (.Name x p1) "append" X.env (eval (.Name x p1) X.env)=eval (.Name x p1) X.env:=by rfl)
  (hfew:((backTo p3 (starEach [e] X.env)).all (fun x=>!x.1)&&(backToKw p3 (keywordEach [] X.env)).all (fun x=>x.1.isSome)&&decide ([e].length+([]:List Keyword).length+(if ([]:List Keyword).isEmpty then 0 else 1)<30))=true:=by rfl)
  (hline:(p2.endLine==p3.line)=true:=by rfl) (hs:starEach [e] X.env=(false,eval e X.env)::starEach [] X.env:=by rfl) (hplain:(backTo p3 (starEach [] X.env)).any (·.1)=false:=by rfl)
  (hsw:swapsWith (.Call (.Attribute (.Name x p1) "append" p2) [e] [] p3) none pos.line X.env=pure false:=by rfl) :
  DS X (.Expr (.Call (.Attribute (.Name x p1) "append" p2) [e] [] p3) pos) (ik i f):=fun B H₀ M₀ lad =>
 (L2.ps_expr (L2.pe_bm PySem.F.plainAttrs_list PySem.F.slot_list_append PySem.F.type_list_append L2.mt_append (L2.pe_var hN hv hd hcd) (b8 he cA hs) hbase hfew hline hs hplain) hsw).imp fun E σ H zz=>by
  obtain ⟨ρ,fl,⟨M,hx,hB,hE⟩,hf,k⟩:=zz;unfold ik at hf;obtain⟨r,hr,hf⟩:=Option.bind_eq_some_iff.mp hf;obtain⟨xs,ys,hi,hy,rfl⟩:=pR hf;split at hy
  ·rename_i hz;cases hy;obtain⟨a,vs,e2,e3,e4,q⟩:=hE.ow i _ hi;refine⟨_,e2,.inl ⟨rfl,vs,.inl (.inl e3)⟩,ρ,_,M,lad,[r.1],hE,by unfold b7;rw[hr];rfl,fun us H2 s2 q2=>?_⟩;cases q2 with
   |cons qy qn =>
    cases qn;have E2:=hE.same s2;have l:=q.length;refine⟨a,vs,_,rfl,rfl,s2 _ _ e3,by omega,?_⟩;obtain⟨x',E'⟩:=E2.mut hi e2 ((q.same s2).append (.cons qy .nil));exact k _ _ ⟨M,(hx.trans (.same s2)).trans x',hB,E'⟩
  ·cases hy
theorem su {i:Nat}{x:Str}{p1 p2 p3:Pos}(he:DE X e f)(hN:X.N[i]?=some x:=by rfl)(hv:L2.Vis X.env.scope x:=by first|exact Or.inl rfl|exact Or.inr (Or.inl rfl)|exact Or.inr (Or.inr rfl))(hd:(x==("__debug__" : Str))=false:=by decide)
  (hcd:(x==("__classdict__" : Str))=false:=by decide)
  (hbase:attributeBase (.Name x p1) "extend" X.env (eval (.Name x p1) X.env)=eval (.Name x p1) X.env:=by rfl)
  (hfew:((backTo p3 (starEach [e] X.env)).all (fun x=>!x.1)&&(backToKw p3 (keywordEach [] X.env)).all (fun x=>x.1.isSome)&&decide ([e].length+([]:List Keyword).length+(if ([]:List Keyword).isEmpty then 0 else 1)<30))=true:=by rfl)
  (hline:(p2.endLine==p3.line)=true:=by rfl) (hs:starEach [e] X.env=(false,eval e X.env)::starEach [] X.env:=by rfl) (hplain:(backTo p3 (starEach [] X.env)).any (·.1)=false:=by rfl)
  (hsw:swapsWith (.Call (.Attribute (.Name x p1) "extend" p2) [e] [] p3) none pos.line X.env=pure false:=by rfl) :
  DS X (.Expr (.Call (.Attribute (.Name x p1) "extend" p2) [e] [] p3) pos) (pS i f):=fun B H₀ M₀ lad =>
 (L2.ps_expr (L2.pe_bm PySem.F.plainAttrs_list PySem.F.slot_list_extend PySem.F.type_list_extend L2.mt_extend (L2.pe_var hN hv hd hcd) (L2.pa_cons he L2.pa_nil hs) hbase hfew hline hs hplain) hsw).imp fun E σ H zz=>by
  obtain ⟨ρ,fl,⟨M,hx,hB,hE⟩,hf,k⟩:=zz;unfold pS at hf;obtain⟨r,hr,hf⟩:=Option.bind_eq_some_iff.mp hf;split at hf
  ·rename_i zs;obtain⟨xs,ys,hi,hy,rfl⟩:=pR hf;split at hy
   ·rename_i hz;cases hy;obtain⟨a,vs,e2,e3,e4,q⟩:=hE.ow i _ hi;refine⟨_,e2,.inl ⟨rfl,vs,.inl (.inl e3)⟩,ρ,_,M,lad,_,hE,hr,fun u H2 s2 q2=>?_⟩;rcases q2 with ⟨z,_⟩|⟨_,b,es',us,e5,e6,e7,e8,q3⟩
    ·cases z
    ·cases e5;have E2:=hE.same s2;have l:=q.length;have l3:=q3.length;refine⟨a,b,vs,us,rfl,by rw[e6],s2 _ _ e3,e8,by omega,?_⟩;obtain⟨x',E'⟩:=E2.mut hi e2 ((q.same s2).append (q3.ext (.less fun c hc=>aG _ hc)));exact k _ _ ⟨M,(hx.trans (.same s2)).trans x',hB,E'⟩
   ·cases hy
  ·cases hf
theorem GI {i:Nat}{x:Str}{p1 p2:Pos}{kx:ED}{ke:Expr}(hk:DE X ke kx)(he:DE X e f)(hN:X.N[i]?=some x:=by rfl)(hv:L2.Vis X.env.scope x:=by first|exact Or.inl rfl|exact Or.inr (Or.inl rfl)|exact Or.inr (Or.inr rfl))(hd:(x==("__debug__" : Str))=false:=by decide)
  (hcd:(x==("__classdict__" : Str))=false:=by decide)
  (ha:∀v,assign (.Subscript (.Name x p1) ke p2) X.env v=(do
   let ov <-holding [v] (eval (.Name x p1) X.env)
   let iv <-holding [v,ov] (eval ke X.env)
   standAt p2
   holding [v,ov,iv] (setItem ov iv v)
   release [v,ov,iv] []):=by intro _;rfl)
  (hs:swapsWithSole [.Subscript (.Name x p1) ke p2] e pos.line X.env=pure false:=by rfl) (hw:swappedStores [.Subscript (.Name x p1) ke p2] e X.env=pure none:=by rfl)
  (h1:(assignEach [.Subscript (.Name x p1) ke p2] X.env).map (·.2)=[assign (.Subscript (.Name x p1) ke p2) X.env]:=by rfl) :
  DS X (.Assign [.Subscript (.Name x p1) ke p2] e pos) (DK i kx f):=fun B H₀ M₀ lad =>
 (L2.ps_asg he (L2.pg_sub (L2.pe_var hN hv hd hcd) hk L2.set_list ha) hs hw h1).imp fun E σ H zz=>by
  obtain ⟨ρ,fl,⟨M,hx,hB,hE⟩,hf,k⟩:=zz;unfold DK at hf;obtain⟨r,hr,hf⟩:=Option.bind_eq_some_iff.mp hf;obtain⟨y,hy,hf⟩:=Option.bind_eq_some_iff.mp hf;obtain⟨j,hj,hf⟩:=Option.bind_eq_some_iff.mp hf;obtain⟨xs,ys,hi,hp,rfl⟩:=pR hf;cases hq:vZ xs.length j with
  |none=>rw[hq] at hp;cases hp
  |some p =>
   rw[hq,av] at hp;cases hp;obtain⟨a,vs,e2,e3,e4,q⟩:=hE.ow i _ hi;refine⟨ρ,_,M,lad,r,hE,hr,fun v H1 s1 q1=>⟨_,e2,ρ,_,M,lad,y,hE.same s1,hy,fun u H2 s2 q2=>?_⟩⟩;have hint:y.1=.int j:=by
    cases hy1:y.1 <;> rw[hy1] at hj <;> first|(cases hj;rfl)|cases hj
   have hu:u=.int j:=by
    have:=q2.toR (hE.same s1).ne;rw[hint] at this;cases this;rfl
   have l:=q.length;have E2:=(hE.same s1).same s2;refine⟨a,vs,j,p,rfl,hu,s2 _ _ (s1 _ _ e3),by rw[<-l];exact hq,?_⟩;obtain⟨x',E'⟩:=E2.mut hi e2 (((q.same s1).same s2).set ((q1.toR hE.ne).same s2) p);exact k _ _ ⟨M,(hx.trans (.same (s1.trans s2))).trans x',hB,E'⟩
theorem ub {ρ:Sl}(h:iP ρ=true){j:Nat}{xs:List D}(e:ρ[j]?=some (some (iw xs,true))):False:=by
 unfold iP at h;rw[bH] at h;have:=h _ (aA e);simp[iw] at this
end
theorem _root_.L2.PG.imp {X:Cx}{e:Expr}{t t':TG}(h:PG X e t)(i:∀v σ H Q,t' v σ H Q->t v σ H Q):PG X e t':=fun pins s σ H v u Q I r q=>h pins s σ H v u Q I r (i v σ H Q q)
theorem _root_.L2.PGs.imp {X:Cx}{e:List Expr}{t t':L2.TGs}(h:L2.PGs X e t)(i:∀v σ H Q,t' v σ H Q->t v σ H Q):L2.PGs X e t':=fun pins s σ H v u Q I r q=>h pins s σ H v u Q I r (i v σ H Q q)
theorem _root_.L2.PI.imp {X:Cx}{tg e:Expr}{t t':TI}(h:PI X tg e t)(i:∀σ H Q,t' σ H Q->t σ H Q):PI X tg e t':=fun pins s σ H R I q=>h pins s σ H R I (i σ H R q)
theorem _root_.L2.PTs.imp {X:Cx}{es:List Expr}{t t':TT}(h:L2.PTs X es t)(i:∀σ H Q,t' σ H Q->t σ H Q):L2.PTs X es t':=fun pins s σ H Q I q=>h pins s σ H Q I (i σ H Q q)
theorem ER.setS {K:Fg}{H:Hp}{O M:List Addr}{lad:Nat->Addr}{ρ:Sl}{σ:St}{d:D}{v:V}(i:Nat)(h:ER K H O M lad ρ σ)(q:R K H O d v):ER K H O M lad (ρ.set i (some (d,false))) (σ.set i (some v)):=by
 by_cases hi:i<ρ.length
 ·have hi':i<σ.length:=by rw[<-h.len];exact hi
  have out:∀{j:Nat}{x:Vl},x.2=true->(ρ.set i (some (d,false)))[j]?=some (some x)->i≠j:=fun {j x} hx ej z=>by subst z;rw[ay hi] at ej;cases ej;cases hx
  refine⟨fun j d' ej=>?_,fun j d' ej=>?_,fun j d' ej=>?_,fun j k d' e' a e1 e2 e3 e4=>?_,h.tr,h.sub,by rw[aY,aY];exact h.len,h.dp.go (.same (.refl _)) (fun j es ej=>?_) (fun b hb _=>⟨hb,fun _ e=>e⟩) fun j es c ej ec=>.inr ?_⟩
  ·by_cases hj:i=j
   ·subst hj;rw[ay hi] at ej;cases ej;exact⟨v,ay hi',q⟩
   ·rw[ai hj] at ej ⊢;exact h.sh j d' ej
  ·have hj:=out rfl ej;rw[ai hj] at ej ⊢;exact h.ow j d' ej
  ·have hj:=out rfl ej;rw[ai hj] at ej ⊢;exact h.le j d' ej
  ·have nj:=out rfl e1;have nk:=out rfl e2;rw[ai nj] at e1 e3;rw[ai nk] at e2 e4;exact h.ap j k d' e' a e1 e2 e3 e4
  ·have nj:=out rfl ej;rw[ai nj] at ej;exact⟨ej,ai nj⟩
  ·have nj:=out rfl ej;rw[ai nj] at ej ec;exact⟨j,es,ej,ec⟩
 ·rw[JF ⋯,JF (by rw[<-h.len];omega)];exact h
noncomputable def uG (K:Fg)(g:GD):TG:=fun v σ H Q=>∃ρ O M lad d ρ',ER K H O M lad ρ σ/\R K H O d v/\g d ρ=some ρ'/\∀σ' H',dq H H'->ER K H' O M lad ρ' σ'->Q σ' H'
noncomputable def Jj (K:Fg)(gs:List GD):L2.TGs:=fun vs σ H Q=>∃ρ O M lad ds ρ',ER K H O M lad ρ σ/\Rs K H O ds vs/\og gs ds ρ=some ρ'/\∀σ' H',dq H H'->ER K H' O M lad ρ' σ'->Q σ' H'
def DG (X:Cx)(tg:Expr)(g:GD):Prop:=PG X tg (uG X.K g)
def Ir (X:Cx)(ts:List Expr)(gs:List GD):Prop:=L2.PGs X ts (Jj X.K gs)
section
variable {X:Cx}{e a b c tg iter elt:Expr}{es:List Expr}{f g:ED}{t u:TD}{pos:Pos}{st:Stmt}{fV sts body:List Stmt}{F G:SD}{it:AD}{gd:GD}{gs:List GD}
theorem cE {i:Nat}{x:Str}(hN:X.N.Nodup)(hi:X.N[i]?=some x:=by rfl)(hx:L2.Loc X.env.scope x:=by first|exact Or.inl rfl|exact Or.inr rfl)(hf:X.fn x=true\/X.env.scope.names.lookup x=some .local:=by first|exact .inl rfl|exact .inr rfl|assumption):DG X (.Name x pos) (gN i) :=
 (L2.pg_name hN hi hx hf).imp fun v σ H Q zz=>by
  obtain ⟨ρ,O,M,lad,d,ρ',hE,q,hg,k⟩:=zz;cases hg;exact k _ _ (.refl H) (hE.setS i q)
theorem eX:Ir X [] []:=L2.pgs_nil.imp fun vs σ H Q zz=>by
 obtain ⟨ρ,O,M,lad,ds,ρ',hE,q,hg,k⟩:=zz;cases q with
 |nil =>
  cases hg;exact⟨rfl,k _ _ (.refl H) hE⟩
 |cons _ _=>cases hg
theorem cQ (h1:DG X e gd)(h2:Ir X es gs)(hs:(assignEach (e::es) X.env).map (·.2)=assign e X.env::(assignEach es X.env).map (·.2):=by rfl):Ir X (e::es) (gd::gs):=(L2.pgs_cons h1 h2 hs).imp fun vs σ H Q zz=>by
 obtain ⟨ρ,O,M,lad,ds,ρ',hE,q,hg,k⟩:=zz;cases q with
 |nil=>cases hg
 |@cons d v ds vs q qs =>
  unfold og at hg;obtain⟨ρ1,hx,hg⟩:=Option.bind_eq_some_iff.mp hg;exact⟨v,vs,rfl,ρ,O,M,lad,d,ρ1,hE,q,hx,fun σ1 H1 s1 E1=>⟨ρ1,O,M,lad,ds,ρ',E1,qs.same s1,hg,fun σ2 H2 s2 E2=>k σ2 H2 (s1.trans s2) E2⟩⟩
theorem xr:∀{gs:List GD}{ds:List D}{ρ ρ':Sl},og gs ds ρ=some ρ'->ds.length=gs.length
 |[],[],_,_,_=>rfl
 |[],_::_,_,_,h=>by cases h
 |_::_,[],_,_,h=>by cases h
 | g::gs,d::ds,ρ,ρ',h=>by
  unfold og at h;obtain⟨ρ1,hx,h⟩:=Option.bind_eq_some_iff.mp h;rw[aJ,aJ,xr h]
theorem fS {k:Nat}(hc:X.calm=true)(h:Ir X es gs)(hn:(assignEach es X.env).length=gs.length:=by rfl)(hst:(assignEach es X.env).findIdx? (·.1)=none:=by rfl):DG X (.Tuple es k pos) (gT gs):=(L2.pg_tup hc h hn hst).imp fun v σ H Q zz=>by
 obtain ⟨ρ,O,M,lad,d,ρ',hE,q,hg,k⟩:=zz;unfold gT at hg;split at hg
 ·rename_i ds;cases q with
  |tuple ha qs=>exact⟨_,_,rfl,ha,by rw[<-qs.length];exact xr hg,ρ,O,M,lad,ds,ρ',hE,qs,hg,k⟩
 ·cases hg
def mU (K:Fg)(J:It)(ds:List D)(M O:List Addr)(H':Hp):Prop:=∀(O'':List Addr) (H'':Hp),iZ M O H' O'' H'' →
 (∀(i:Nat) (d:D),ds[i]?=some d->J.go i H''/\∀x H3,J.yld i H'' x H3->dq H'' H3/\R K H3 O'' d x)/\J.stop ds.length H''
noncomputable def uI (K:Fg)(it:AD):TI:=fun σ H Q=>∃ρ O M lad ds,ER K H O M lad ρ σ/\it ρ=some ds/\∀J H',dq H H'->mU K J ds M O H'->Q J H'
def DI (X:Cx)(tg e:Expr)(it:AD):Prop:=PI X tg e (uI X.K it)
def Jt (kd:Bool)(K:Fg)(H:Hp)(a:Addr)(xs:List V):Prop:=if kd=true then jT K H a xs else jw K H a xs
def QR (K:Fg)(M O:List Addr)(H:Hp)(ds:List D)(v:V)(kd:Bool):Prop:=∃a vs,v=.ref a/\Rs K H O ds vs/\∀O' H',iZ M O H O' H'->Jt kd K H' a vs
noncomputable def uQ (K:Fg)(f:AD):TE:=fun σ H Q=>∃ρ O M lad ds,ER K H O M lad ρ σ/\f ρ=some ds/\∀v H' kd,dq H H'->QR K M O H' ds v kd->Q v H'
theorem iZ.id (M O:List Addr)(H:Hp)(h:∀b∈M,b∈O):iZ M O H O H:=⟨fun _ _ e=>e,fun _ _ _ e=>e,fun _ _ _ e=>e,fun _ _ _ e=>e,fun _ h=>.inl h,h⟩
theorem R.qr {K:Fg}{H:Hp}{M O:List Addr}{d:D}{v:V}{ds:List D}(q:R K H O d v)(h:dS d=some ds):∃kd,QR K M O H ds v kd:=by
 cases q with
 |tuple ha qs =>
  cases h;exact⟨false,_,_,rfl,qs,fun _ _ x=>jw.ext x ha⟩
 |list ha qs =>
  cases h;exact⟨true,_,_,rfl,qs,fun _ _ x=>(ha.ext x).sq⟩
 |_=>cases h
def DQ (X:Cx)(e:Expr)(f:AD):Prop:=PE X e (uQ X.K f)
theorem fP (h:DE X e f):DQ X e (fF f):=h.imp fun σ H Q zz=>by
 obtain ⟨ρ,O,M,lad,ds,hE,hf,k⟩:=zz;unfold fF at hf;obtain⟨r,hr,hf⟩:=Option.bind_eq_some_iff.mp hf;refine⟨ρ,O,M,lad,r,hE,hr,fun v H1 s1 q1=>?_⟩;obtain⟨kd,q⟩:=(q1.toR hE.ne).qr (M:=M) hf;exact k v H1 kd s1 q
theorem fA (i:Nat){x:Str}(hN:X.N[i]?=some x:=by rfl)(hv:L2.Vis X.env.scope x:=by first|exact Or.inl rfl|exact Or.inr (Or.inl rfl)|exact Or.inr (Or.inr rfl))(hd:(x==("__debug__" : Str))=false:=by decide)
  (hcd:(x==("__classdict__" : Str))=false:=by decide):DQ X (.Name x pos) (dY i):=(L2.pe_var hN hv hd hcd).imp fun σ H Q zz=>by
 obtain ⟨ρ,O,M,lad,ds,hE,hf,k⟩:=zz;unfold dY at hf;split at hf
 ·rename_i xs hr;cases hf;obtain⟨v,e1,q⟩:=hE.sh i _ hr;obtain⟨kd,q⟩:=q.qr (M:=M) rfl;exact⟨v,e1,k v H kd (.refl H) q⟩
 ·rename_i xs hr;cases hf;obtain⟨v,e1,q⟩:=hE.sh i _ hr;obtain⟨kd,q⟩:=q.qr (M:=M) rfl;exact⟨v,e1,k v H kd (.refl H) q⟩
 ·rename_i xs hr;cases hf;obtain⟨e6,us,e7,e8,e9,q5⟩:=hE.le i _ hr;exact⟨_,e6,k _ H true (.refl H) ⟨_,us,rfl,q5,fun O' H' x=>.inl (.inl (x.lst _ _ e9 e7))⟩⟩
 ·cases hf
theorem AO {K:Fg}{H:Hp}{M O:List Addr}{a:Addr}{ds:List D}{vs:List V}(h:∀O' H',iZ M O H O' H'->jT K H' a vs)(q:Rs K H O ds vs):mU K (L2.Itl K a) ds M O H:=by
 intro O2 H2 x;have h2:=h _ _ x;have q2:=q.ext x;refine⟨fun i d e=>?_,vs,h2,by rw[q.length];exact aC _⟩;obtain⟨v,ev,rv⟩:=q2.get e;refine⟨⟨vs,v,h2,ev⟩,fun y H3 ⟨e3,hy⟩=>?_⟩;subst e3;have:=hy vs h2;rw[ev] at this;cases this;exact⟨.refl _,rv⟩
theorem AN {K:Fg}{H:Hp}{M O:List Addr}{a:Addr}{ds:List D}{vs:List V}(h:∀O' H',iZ M O H O' H'->jw K H' a vs)(q:Rs K H O ds vs):mU K (L2.Itt K a) ds M O H:=by
 intro O2 H2 x;have h2:=h _ _ x;have q2:=q.ext x;refine⟨fun i d e=>?_,vs,h2,by rw[q.length];exact aC _⟩;obtain⟨v,ev,rv⟩:=q2.get e;refine⟨⟨vs,v,h2,ev⟩,fun y H3 ⟨e3,hy⟩=>?_⟩;subst e3;have:=hy vs h2;rw[ev] at this;cases this;exact⟨.refl _,rv⟩
theorem DU {l:Expr}{tl:TE}(hl:PE X l tl):PI X tg l (fun σ H R=>tl σ H fun x H1=>∃a,x=.ref a/\(((∃xs,jT X.K H1 a xs)/\R (L2.Itl X.K a) H1)\/((∃xs,jw X.K H1 a xs)/\R (L2.Itt X.K a) H1))):=by
 intro pins s σ H R I h;refine L2.thn (hl pins s σ H _ I h) fun v s1 zz=>?_;obtain ⟨x,H1,I1,r1,q1⟩:=zz;obtain⟨a,rfl,q1⟩:=q1;cases (show v=Value.ref a from r1);rcases q1 with ⟨⟨xs,hq⟩,q⟩|⟨⟨xs,hq⟩,q⟩
 ·obtain⟨its,rv,p,hz⟩:=I1.list hq;refine wpAny_pyIter_list p.isList ⟨s1.heap.objs.size,[s1.heap.objs.size],_,_,H1,rfl,I1.kept (t':=s1.toks) fun b o e=>ae _ e,L2.turn_list a _,⟨_,aD _ rfl,rfl,rfl⟩,fun b hb=>?_,q⟩;have e:b=s1.heap.objs.size:=by simpa using hb
  subst e;exact I1.fpOk (aC _) (I1.hok.fresh (aC _))
 ·obtain⟨its,rv,p,hz⟩:=I1.tuple hq;refine wpAny_pyIter_tuple (show s1.heap.IsTuple a its.toArray from p) ⟨s1.heap.objs.size,[s1.heap.objs.size],_,_,H1,rfl,I1.kept (t':=s1.toks) fun b o e=>ae _ e,L2.turn_tuple a _,⟨_,aD _ rfl,rfl,rfl⟩,fun b hb=>?_,q⟩;have e:b=s1.heap.objs.size:=by simpa using hb
  subst e;exact I1.fpOk (aC _) (I1.hok.fresh (aC _))
theorem eF {f:AD}(h:DQ X e f):DI X tg e (da f):=(DU h).imp fun σ H Q zz=>by
 obtain ⟨ρ,O,M,lad,ds,hE,hf,k⟩:=zz;refine⟨ρ,O,M,lad,ds,hE,hf,fun v H1 kd s1 ⟨a,vs,ev,qs,st⟩=>⟨a,ev,?_⟩⟩;have st0:=st _ _ (iZ.id M O H1 (hE.same s1).sub);cases kd with
 |true=>exact .inl ⟨⟨vs,st0⟩,k _ H1 s1 (AO (fun O' H' x=>st O' H' x) qs)⟩
 |false=>exact .inr ⟨⟨vs,st0⟩,k _ H1 s1 (AN (fun O' H' x=>st O' H' x) qs)⟩
theorem xH {d:D}{i:Int}(h:xQ d=some i):d=.int i:=by
 cases d <;> first|(cases h;rfl)|cases h
theorem yA {K:Fg}{H:Hp}{M O:List Addr}(lo:Int)(n:Nat):mU K (L2.Itr lo n) (fv lo n) M O H:=by
 intro O2 H2 x;refine⟨fun i d e=>?_,?_⟩
 ·unfold fv at e;rw[au] at e;cases er:(ao n)[i]? with
  |none=>rw[er] at e;cases e
  |some k =>
   rw[er,av] at e;cases e;obtain⟨h1,h2⟩:=List.getElem?_eq_some_iff.mp er;rw[aI] at h1;rw[List.getElem_range] at h2;subst h2;exact⟨h1,fun y H3 zz=>by obtain ⟨e3,e4⟩:=zz; subst e3 e4;exact⟨.refl _,.int _⟩⟩
 ·show n<=_;unfold fv;rw[af,aI];exact aC _
theorem dN {p pos':Pos}(hm:X.mg "range" = none)(h:DE X a f)(hg:L2.Gl X "range" := by rfl)(hs:starEach [a] X.env=[(false,eval a X.env)]:=by rfl):DI X tg (.Call (.Name "range" p) [a] [] pos') (cS f) :=
 (L2.pi_range1 hg hm (b8 h cA hs) hs).imp fun σ H Q zz=>by
  obtain ⟨ρ,O,M,lad,ds,hE,hf,k⟩:=zz;unfold cS at hf;obtain⟨r,hr,hf⟩:=Option.bind_eq_some_iff.mp hf;obtain⟨j,hj,hf⟩:=Option.bind_eq_some_iff.mp hf;split at hf
  ·rename_i hb;cases hf;refine⟨ρ,O,M,lad,[r.1],hE,by unfold b7;rw[hr];rfl,fun vs H1 s1 q1=>?_⟩;rw[xH hj] at q1;cases q1 with
   |cons q qn =>
    cases q;cases qn;exact⟨j,rfl,hb.1,hb.2,k _ H1 s1 (yA 0 j.toNat)⟩
  ·cases hf
noncomputable def uX (K:Fg)(F:SD):TS:=fun E σ H=>∃B H₀ M₀ lad,uS K B H₀ M₀ lad F E σ H
theorem Df.x (h:Df X sts F):PSs X sts (uX X.K F):=fun pins s σ H D I ⟨B,H₀,M₀,lad,q⟩=>h B H₀ M₀ lad pins s σ H D I q
theorem Aa.up {K:Fg}{B:List Addr}{H₀ H1 H':Hp}{M₀ M:List Addr}{r:Vl}{v:V}(x:gZ M₀ H₀ M H1)(h:Aa K B H1 M H' r v):Aa K B H₀ M₀ H' r v:=by
 obtain⟨⟨M',x'⟩,q⟩:=h;refine⟨⟨M',x.trans x'⟩,?_⟩;rcases q with q|⟨e,a,ds,vs,e1,e2,e3,e4,q⟩
 ·exact .inl q
 ·refine .inr ⟨e,a,ds,vs,e1,e2,?_,e4,q⟩;rcases e3 with z|z
  ·exact x.new a z
  ·refine .inr ?_;cases e5:H₀ a with
   |none=>rfl
   |some o=>exact absurd z (x.there a (by rw[e5];simp))
theorem SR.up {K:Fg}{B:List Addr}{H₀ H1 H:Hp}{M₀ M:List Addr}{lad:Nat->Addr}{ρ:Sl}{σ:St}(x:gZ M₀ H₀ M H1)(h:SR K B H1 M lad ρ σ H):SR K B H₀ M₀ lad ρ σ H:=by
 obtain⟨M',x',hB,hE⟩:=h;exact⟨M',x.trans x',hB,hE⟩
theorem dG (hc:X.calm=true)(hi:DI X tg iter it)(hg:DG X tg gd)(hb:Df X body F)(hp:PassesOwn (model X.prog X.w) X.A X.env X.xe:=by exact PassesOwn.never)
  (hs:∀x,foldedSetIterable iter X.env x=pure x:=by intro _;rfl):DS X (.For tg iter body [] pos) (eh it gd F):=fun B H₀ M₀ lad=>(L2.ps_for hp hc hi hg hb.x hs).imp fun E σ H zz=>by
 obtain ⟨ρ,fl,⟨M,hx,hB,hE⟩,hf,k⟩:=zz;unfold eh at hf;obtain⟨ds,hd,hf⟩:=Option.bind_eq_some_iff.mp hf;refine⟨ρ,_,M,lad,ds,hE,hd,fun J H1 s1 iok=>?_⟩;have x1:gZ M₀ H₀ M H1:=hx.trans (.same s1);refine⟨fun i m σ' H'=>m=ds.length-i/\i<=ds.length/\∃ρ',SR X.K B H1 M lad ρ' σ' H'/\eN gd F (ds.drop i) ρ'=some fl,⟨ds.length,by simp,bw _,ρ,⟨M,.refl M H1,hB,hE.same s1⟩,by simpa using hf⟩,?_⟩;rintro i m σ' H' ⟨rfl,hi,ρ',hR,hl⟩;obtain⟨M',x',hB',hE'⟩:=id hR;obtain⟨go,stop⟩:=iok _ _ x'.ext;by_cases hlt:i<ds.length
 ·have ed:ds.drop i=ds[i]::ds.drop (i+1):=bU hlt;rw[ed] at hl;unfold eN at hl;obtain⟨ρ1,hg1,hl⟩:=Option.bind_eq_some_iff.mp hl;obtain⟨fl1,hF,hl⟩:=Option.bind_eq_some_iff.mp hl;obtain⟨g1,g2⟩:=go i ds[i] (by simp[hlt]);refine .inr ⟨g1,fun σ2 H2=>∃ρ2,SR X.K B H1 M lad ρ2 σ2 H2/\eN gd F (ds.drop (i+1)) ρ2=some fl,fun σ2 H2 ⟨ρ2,r2,l2⟩=>⟨ds.length-(i+1),by omega,rfl,hlt,ρ2,r2,l2⟩,fun x H2 hy=>?_⟩;obtain⟨s2,q2⟩:=g2 x H2 hy;refine⟨ρ',_,M',lad,ds[i],ρ1,hE'.same s2,q2,hg1,fun σ3 H3 s3 E3=>⟨B,H1,M,lad,ρ1,fl1,⟨M',(x'.trans (.same s2)).trans (.same s3),hB',E3⟩,hF,?_⟩⟩;cases fl1 with
  |next ρ2=>exact fun σ4 H4 r4=>⟨ρ2,r4,hl⟩
  |cont ρ2=>exact fun σ4 H4 r4=>⟨ρ2,r4,hl⟩
  |brk ρ2 =>
   cases hl;exact fun σ4 H4 r4=>k σ4 H4 (r4.up x1)
  |ret r =>
   cases hl;exact fun v H4 r4=>k v H4 (r4.up x1)
 ·have e:i=ds.length:=by omega
  subst e;rw[JK] at hl;cases hl;exact .inl ⟨stop,k σ' H' (hR.up x1)⟩
theorem xw (hc:DT X c t)(hb:Df X body F)(hp:PassesOwn (model X.prog X.w) X.A X.env X.xe:=by exact PassesOwn.never):DS X (.While c body [] pos) (kG t F):=fun B H₀ M₀ lad=>(L2.ps_while hp hc (hb B H₀ M₀ lad)).imp fun E σ H zz=>by
 obtain ⟨ρ,fl,hR,hf,k⟩:=zz;obtain⟨n,hn⟩:=qo hf;refine⟨fun m σ' H'=>∃ρ',SR X.K B H₀ M₀ lad ρ' σ' H'/\fc t F m ρ'=some fl,⟨n,ρ,hR,hn⟩,?_⟩;rintro m σ' H' ⟨ρ',⟨M,hx,hB,hE⟩,hw⟩;cases m with
 |zero=>cases hw
 |succ m =>
  unfold fc at hw;obtain⟨c,ht,hw⟩:=Option.bind_eq_some_iff.mp hw;refine⟨ρ',_,M,lad,c,hE,ht,fun H1 s1=>?_⟩;have r1:SR X.K B H₀ M₀ lad ρ' σ' H1:=⟨M,hx.trans (.same s1),hB,hE.same s1⟩;cases c with
  |false =>
   dsimp only at hw ⊢;rw[if_neg Bool.false_ne_true] at hw ⊢;cases hw;exact k σ' H1 r1
  |true =>
   dsimp only at hw ⊢;rw[if_pos rfl] at hw ⊢;obtain⟨fl1,hF,hw⟩:=Option.bind_eq_some_iff.mp hw;refine⟨fun σ2 H2=>∃ρ2,SR X.K B H₀ M₀ lad ρ2 σ2 H2/\fc t F m ρ2=some fl,fun σ2 H2 r2=>⟨m,Nat.lt_succ_self m,r2⟩,ρ',fl1,r1,hF,?_⟩;cases fl1 with
   |next ρ2=>exact fun σ4 H4 r4=>⟨ρ2,r4,hw⟩
   |cont ρ2=>exact fun σ4 H4 r4=>⟨ρ2,r4,hw⟩
   |brk ρ2=>cases hw;exact k
   |ret r=>cases hw;exact k
end
end DL
namespace L2
open PySem PySem.Spec PyProof.Rows
section
variable {X:Cx}
noncomputable def E6 (K:PySem.W.Frag):R2:=fun x y H Q=>∃a b ys,x=.ref a/\y=.ref b/\jw K H a []/\jw K H b ys/\Q (.ref b) H
theorem D0:OpR X (binaryOp .Add) (E6 X.K):=by
 intro pins s σ H x y v u Q I rx ry h;obtain⟨a,b,ys,rfl,rfl,ha,hb,q⟩:=h;cases rx;cases ry;obtain⟨its,r1,p1,_⟩:=I.tuple ha;obtain⟨its2,r2,p2,_⟩:=I.tuple hb;cases r1;obtain⟨⟨cls,dd,data,sl⟩,ho,hc,n,hd⟩:=id p1;obtain⟨⟨cls2,dd2,data2,sl2⟩,ho2,hc2,n2,hd2⟩:=id p2;simp only at hc hd hc2 hd2;subst hc hd hc2 hd2;exact concat_meets ⟨_,ho,rfl⟩ ⟨_,ho2,rfl⟩ noFill_tuple_add seq_tuple_add PySem.F.slot_tuple_add PySem.F.entry_tuple_add (PySem.F.args_tuple_add_2 _ _)
   (tuple_addW0 a b _ _ n n2 dd dd2 sl sl2 (by simp)) ⟨ho,ho2,⟨.ref b,H,I,rfl,q⟩⟩
noncomputable def rAddA (K:PySem.W.Frag):R2:=fun x y H Q=>rI0 (fun i j=>.int (i+j)) x y H Q\/(EZ K x y H Q\/(E6 K x y H Q\/∃i j,x=.str i/\y=.str j/\i.length+j.length<=sizeLine/\Q (.str (i++j)) H))
theorem op_addA:OpR X (binaryOp .Add) (rAddA X.K):=F3.or (DZ.or (D0.or yg))
theorem call_allB (hc:X.calm=true):CallR X (.builtin "all") (fun xs H Q=>∃(a:Addr) (ys:List V) (bs:List Bool),xs=[.ref a]/\(jT X.K H a ys\/jw X.K H a ys)/\ys=bs.map V.bl/\Q (.bl (bs.all id)) H):=by
 intro pins s σ H xs us Q I rx h;obtain⟨a,ys,bs,rfl,hq,rfl,q⟩:=h;obtain⟨u,rfl,ru⟩:=cY.one rx;cases ru;have bools:∀(bs:List Bool) (its:List Value),cY (bs.map V.bl) its->its=bs.map Value.bool:=by
  intro bs;induction bs with
  |nil=>intro its r;cases r;rfl
  |cons b bs ih =>
   intro its r;cases r with
   |cons r rs =>
    have:_=Value.bool b:=r;rw[az,ih _ rs,this]
 have alls:∀(bs:List Bool),(ao bs.length).all (fun i=>bs.getD i false)=bs.all id:=by
  intro bs;induction bs with
  |nil=>rfl
  |cons b bs ih =>
   rw[aJ,List.range_succ_eq_map,List.all_cons,List.all_cons,List.all_map];show (b&&_)=(b&&_);congr 1
 have tru:TruthOf X.prog X.w X.A.in1 (fun i v=>(bs.map Value.bool).toArray[i]?=some v) (fun i=>bs.getD i false):=by
  intro i v s' Q' E' hP hQ;have hP':(bs.map Value.bool)[i]?=some v:=by simpa using hP
  rw[au] at hP';cases e:bs[i]? with
  |none=>rw[e] at hP';cases hP'
  |some b =>
   rw[e,av] at hP';cases hP';refine wpAny_truthy_bool ?_;have:bs.getD i false=b:=by rw[ag,e];rfl
   have hQ2:Q' (bs.getD i false) s':=hQ;rw[this] at hQ2;exact hQ2
 have fin:∀(o:Obj) (h':Heap) (tk:Nat),(∀b ob,b∉[s.heap.objs.size]->(s.heap.push o).get? b=some ob->h'.get? b=some ob) →
   EP X pins σ Q (.bool ((ao (bs.map Value.bool).toArray.size).all fun i=>bs.getD i false)) { s with heap:=h',toks:=tk }:=by
  intro o h' tk hk;have ez:(bs.map Value.bool).toArray.size=bs.length:=by simp
  rw[ez,alls];exact⟨.bl _,H,I.kept (t':=tk) fun b ob e=>hk b ob (by simpa using aO (aB e)) (ae _ e),rfl,q⟩
 refine call_all_walk ?_;rcases hq with hq|hq
 ·obtain⟨its,rv,p,hz⟩:=I.list hq;have e:=bools bs its rv;subst e;refine wpAny_pyIter_list p.isList ?_;have hne:a≠s.heap.objs.size:=aO (by obtain⟨o,n,e,_⟩:=p;exact aB e);exact⟨_,_,_,_,_,_,fun i=>bs.getD i false,rfl,Walks.list (A:=X.A.in1) (I.ok.hd hc) s.heap.objs.size a hne (bs.map Value.bool).toArray,⟨⟨_,aD _ rfl,rfl,rfl⟩,p.isList.at fun o e=>ae _ e⟩,tru,fun h' tk hk=>fin _ h' tk hk⟩
 ·obtain⟨its,rv,p,hz⟩:=I.tuple hq;have e:=bools bs its rv;subst e;have p':s.heap.IsTuple a (bs.map Value.bool).toArray:=p;refine wpAny_pyIter_tuple p' ?_;have hne:a≠s.heap.objs.size:=aO p.lt;exact⟨_,_,_,_,_,_,fun i=>bs.getD i false,rfl,Walks.tuple (A:=X.A.in1) (I.ok.hd hc) s.heap.objs.size a hne (bs.map Value.bool).toArray,⟨⟨_,aD _ rfl,rfl,rfl⟩,p'.at fun o e=>ae _ e⟩,tru,fun h' tk hk=>fin _ h' tk hk⟩
def KdV (K:PySem.W.Frag)(H:Hp)(x:V)(t:String):Prop:=match x with
 |.bl _=>t = "bool"
 |.int _=>t = "int"
 |.str _=>t = "str"
 |.ref a=>(t = "tuple" ∧ ∃xs,jw K H a xs)\/(t = "list" ∧ ∃xs,jT K H a xs)
 |_=>False
theorem call_isa:CallR X (.builtin "isinstance") (fun xs H Q=>∃x t T b,xs=[x,.ty T]/\KdV X.K H x t/\PySem.W.kitOne X.K (.type t) (.type T)=some b/\Q (.bl b) H):=by
 intro pins s σ H xs us Q I rx h;obtain⟨x,t,T,b,rfl,kd,e,q⟩:=h;obtain⟨u,w',rfl,r1,r2⟩:=cY.two rx;cases r2;have fin:∀tk,EP X pins σ Q (.bool b) { s with toks:=tk }:=fun tk=>⟨.bl b,H,I.tok tk,rfl,q⟩;cases x with
 |bl y =>
  cases (show t = "bool" from kd);cases (show u=Value.bool y from r1);exact PySem.W.kia_one PySem.W.kitx_bool I.kIn True.intro e (fun z=>nomatch z) fin
 |int i =>
  cases (show t = "int" from kd);obtain⟨t',q'⟩:=(show ∃t,u=Value.int i t from r1);cases q';exact PySem.W.kia_one PySem.W.kitx_int I.kIn True.intro e (fun z=>nomatch z) fin
 |str y =>
  cases (show t = "str" from kd);obtain⟨t',q'⟩:=(show ∃t,u=Value.str y t from r1);cases q';exact PySem.W.kia_one PySem.W.kitx_str I.kIn True.intro e (fun z=>nomatch z) fin
 |ref a =>
  cases (show u=Value.ref a from r1);rcases kd with ⟨rfl,ys,hq⟩|⟨rfl,ys,hq⟩
  ·obtain⟨its,rv,⟨o,h1,h2,_⟩,hz⟩:=I.tuple hq;exact PySem.W.kia_one PySem.W.kitx_tuple I.kIn ⟨o,h1,h2⟩ e (fun z=>nomatch z) fin
  ·obtain⟨its,rv,⟨o,n,h1,h2,_⟩,hz⟩:=I.list hq;exact PySem.W.kia_one PySem.W.kitx_list I.kIn ⟨o,h1,h2⟩ e (fun z=>nomatch z) fin
 |_=>exact False.elim kd
end
end L2
namespace DL
open PySem PySem.Spec PySem.SeqAt
open L2 (V Hp St HO VK TE TT TA TS TI TG Cx cT PE PT PA PS PSs PI PG jw jT dq eA cO cG cI cY dX EP TP AP SP jU It)
section
variable {K:Fg}{H:Hp}{O:List Addr}{v:V}
theorem BR.int {i:Int}(h:BR K H O (.int i) v):v=.int i:=by
 rcases h with h|⟨a,ds,vs,e,_⟩|⟨a,ds,vs,e,_⟩
 ·cases h;rfl
 ·cases e
 ·cases e
theorem BR.bool {b:Bool}(h:BR K H O (.bool b) v):v=.bl b:=by
 rcases h with h|⟨a,ds,vs,e,_⟩|⟨a,ds,vs,e,_⟩
 ·cases h;rfl
 ·cases e
 ·cases e
theorem BR.str {x:Str}(h:BR K H O (.str x) v):v=.str x:=by
 rcases h with h|⟨a,ds,vs,e,_⟩|⟨a,ds,vs,e,_⟩
 ·cases h;rfl
 ·cases e
 ·cases e
theorem BR.tuple {ds:List D}(h:BR K H O (.tuple ds) v):∃a vs,v=.ref a/\jw K H a vs/\Rs K H O ds vs:=by
 rcases h with h|⟨a,es,vs,e,_⟩|⟨a,es,vs,e,_⟩
 ·cases h with
  |tuple ha hs=>exact⟨_,_,rfl,ha,hs⟩
 ·cases e
 ·cases e
theorem BR.list {ds:List D}(h:BR K H O (.list ds) v):∃a vs,v=.ref a/\jT K H a vs/\Rs K H O ds vs:=by
 rcases h with h|⟨a,es,vs,e,e2,e3,q⟩|⟨a,es,vs,e,_⟩
 ·cases h with
  |list ha hs=>exact⟨_,_,rfl,ha.sq,hs⟩
 ·cases e;exact⟨a,vs,e2,.inl (.inl e3),q⟩
 ·cases e
theorem BR.dict {kvs:List (D×D)}(h:BR K H O (.dict kvs) v):∃a es,v=.ref a/\H a=some (nI a es)/\Rd K H O kvs es.2:=by
 rcases h with h|⟨a,es,vs,e,_⟩|⟨a,kvs',es,e,e2,e3,q⟩
 ·cases h with
  |dict ha _ hs=>exact⟨_,_,rfl,ha,hs⟩
 ·cases e
 ·cases e;exact⟨a,es,e2,e3,q⟩
end
section
variable {X:Cx}{e a b c:Expr}{es:List Expr}{f g:ED}{fb gb:BD}{t u:TD}{pos:Pos}
theorem fG:OD X (L2.rAddA X.K) eZ:=by
 intro x y vx vy H O r Q ne hx hy hf k;cases x <;> first|(cases hf;done)|(cases y <;> first|cases hf|skip)
 ·cases hx.int;cases hy.int;exact .inl ⟨_,_,rfl,rfl,k _ H (.refl H) (.of (.int _))⟩
 ·cases hx.str;cases hy.str;unfold eZ at hf;dsimp only at hf;split at hf
  ·rename_i hz;cases hf;exact .inr (.inr (.inr ⟨_,_,rfl,rfl,hz,k _ H (.refl H) (.of (.str _))⟩))
  ·cases hf
 ·unfold eZ at hf;dsimp only at hf;split at hf
  ·rename_i ds es hz;cases hf;obtain⟨a,vs,rfl,ha,qa⟩:=hx.tuple;obtain⟨b,us,rfl,hb,qb⟩:=hy.tuple;by_cases hn:ds=[]
   ·subst hn;cases qa;exact .inr (.inr (.inl ⟨a,b,us,rfl,rfl,ha,hb,k _ H (.refl H) (.of (.tuple hb qb))⟩))
   ·refine .inr (.inl ⟨a,b,vs,us,rfl,rfl,ha,hb,fun z=>?_,by rw[<-qa.length,<-qb.length];exact hz,fun z=>?_,fun z p hp=>?_⟩)
    ·subst z;cases qa;exact hn rfl
    ·subst z;cases qb;rw[br] at k;exact k _ H (.refl H) (.of (.tuple ha qa))
    ·have s2:dq H (eA H p (.tup (vs++us))):=fun b o e=>by rw[cG (cI e hp)];exact e
     exact k _ _ s2 (.of (.tuple (.inl (.inl cO)) ((qa.append qb).same s2)))
  ·cases hf
theorem nH {α:Type}{op:D->D->Option α}(h1:∀x y,(∀i,x≠.int i)->op x y=none)(h2:∀i y,(∀j,y≠.int j)->op (.int i) y=none){x y:D}{r:α}(h:op x y=some r):∃i j,x=.int i/\y=.int j:=by
 by_cases e1:∃i,x=.int i
 ·obtain⟨i,rfl⟩:=e1;by_cases e2:∃j,y=.int j
  ·obtain⟨j,rfl⟩:=e2;exact⟨i,j,rfl,rfl⟩
  ·rw[h2 i y fun j z=>e2 ⟨j,z⟩] at h;cases h
 ·rw[h1 x y fun i z=>e1 ⟨i,z⟩] at h;cases h
theorem yj:OD X (L2.rI0 fun i j=>.int (i-j)) BS:=by
 intro x y vx vy H O r Q ne hx hy hf k;obtain⟨_,_,rfl,rfl⟩:=nH (fun x y n=>by cases x <;> first|rfl|exact absurd rfl (n _)) (fun i y n=>by cases y <;> first|rfl|exact absurd rfl (n _)) hf;cases hx.int;cases hy.int;cases hf;exact⟨_,_,rfl,rfl,k _ H (.refl H) (.of (.int _))⟩
theorem EI {i j:Int}(h:zc i j=true):L2.CMul i j:=by
 unfold zc at h;simpa [L2.CMul] using h
theorem mi:OD X (L2.rI L2.CMul fun i j=>.int (i*j)) nZ:=by
 intro x y vx vy H O r Q ne hx hy hf k;obtain⟨_,_,rfl,rfl⟩:=nH (fun x y n=>by cases x <;> first|rfl|exact absurd rfl (n _)) (fun i y n=>by cases y <;> first|rfl|exact absurd rfl (n _)) hf;cases hx.int;cases hy.int;unfold nZ at hf;dsimp only at hf;split at hf
 ·rename_i hc;cases hf;exact⟨_,_,rfl,rfl,EI hc,k _ H (.refl H) (.of (.int _))⟩
 ·cases hf
theorem yk:OD X (L2.rI L2.CDiv fun i j=>.int (i/j)) yn:=by
 intro x y vx vy H O r Q ne hx hy hf k;obtain⟨_,_,rfl,rfl⟩:=nH (fun x y n=>by cases x <;> first|rfl|exact absurd rfl (n _)) (fun i y n=>by cases y <;> first|rfl|exact absurd rfl (n _)) hf;cases hx.int;cases hy.int;unfold yn at hf;dsimp only at hf;split at hf
 ·rename_i hc;cases hf;exact⟨_,_,rfl,rfl,hc,k _ H (.refl H) (.of (.int _))⟩
 ·cases hf
theorem j6:OD X (L2.rI (fun _ j=>0<j) fun i j=>.int (i%j)) nv:=by
 intro x y vx vy H O r Q ne hx hy hf k;obtain⟨_,_,rfl,rfl⟩:=nH (fun x y n=>by cases x <;> first|rfl|exact absurd rfl (n _)) (fun i y n=>by cases y <;> first|rfl|exact absurd rfl (n _)) hf;cases hx.int;cases hy.int;unfold nv at hf;dsimp only at hf;split at hf
 ·rename_i hc;cases hf;exact⟨_,_,rfl,rfl,hc,k _ H (.refl H) (.of (.int _))⟩
 ·cases hf
theorem F9:OD X (L2.rI L2.CPow fun i j=>.int (i ^ j.toNat)) BU:=by
 intro x y vx vy H O r Q ne hx hy hf k;obtain⟨_,_,rfl,rfl⟩:=nH (fun x y n=>by cases x <;> first|rfl|exact absurd rfl (n _)) (fun i y n=>by cases y <;> first|rfl|exact absurd rfl (n _)) hf;cases hx.int;cases hy.int;unfold BU at hf;dsimp only at hf;split at hf
 ·rename_i hc;cases hf;exact⟨_,_,rfl,rfl,hc,k _ H (.refl H) (.of (.int _))⟩
 ·cases hf
theorem FA:UD X (L2.rU fun i=>.int (-i)) Gg:=by
 intro x vx H O r Q ne hx hf k;cases x <;> first|cases hf|skip
 cases hx.int;exact⟨_,rfl,k _ H (.refl H) (.of (.int _))⟩
theorem yW {c:C2}{p:Int->Int->Bool}(hc:∀x y k,c x y=some k->∃i j,x=.int i/\y=.int j/\k=p i j):CD X (L2.rI0 fun i j=>.bl (p i j)) c:=by
 intro x y vx vy H O k Q hx hy hf q;obtain⟨i,j,rfl,rfl,rfl⟩:=hc _ _ _ hf;cases hx.int;cases hy.int;exact⟨_,_,rfl,rfl,q⟩
theorem Fn:CD X (L2.rI0 fun i j=>.bl (decide (i<j))) G6:=yW fun x y k h=>by
 obtain⟨_,_,rfl,rfl⟩:=nH (fun x y n=>by cases x <;> first|rfl|exact absurd rfl (n _)) (fun i y n=>by cases y <;> first|rfl|exact absurd rfl (n _)) h;cases h;exact⟨_,_,rfl,rfl,rfl⟩
theorem H0:CD X (L2.rI0 fun i j=>.bl (decide (i<=j))) Im:=yW fun x y k h=>by
 obtain⟨_,_,rfl,rfl⟩:=nH (fun x y n=>by cases x <;> first|rfl|exact absurd rfl (n _)) (fun i y n=>by cases y <;> first|rfl|exact absurd rfl (n _)) h;cases h;exact⟨_,_,rfl,rfl,rfl⟩
theorem z9:CD X (L2.rI0 fun i j=>.bl (decide (j<i))) A7:=yW fun x y k h=>by
 obtain⟨_,_,rfl,rfl⟩:=nH (fun x y n=>by cases x <;> first|rfl|exact absurd rfl (n _)) (fun i y n=>by cases y <;> first|rfl|exact absurd rfl (n _)) h;cases h;exact⟨_,_,rfl,rfl,rfl⟩
end
section
variable {X:Cx}{pins:List (Addr×Obj)}{σ:St}{H:Hp}{s:Shared}{O:List Addr}
mutual
theorem R.reads (I:cT X pins σ H s){d:D}{v:V}:R X.K H O d v->d.canLay0=true->∀u,dX v u->∃as,Reads s.heap u d as
 |.none,_,u,r=>by cases (show u=Value.none from r);exact⟨_,.none⟩
 |.bool b,_,u,r=>by cases (show u=Value.bool b from r);exact⟨_,.bool b⟩
 |.int i,_,u,r=>by obtain⟨t,rfl⟩:=(show ∃t,u=Value.int i t from r);exact⟨_,.int i t⟩
 |.str x,_,u,r=>by obtain⟨t,rfl⟩:=(show ∃t,u=Value.str x t from r);exact⟨_,.str x t⟩
 | .tuple (a:=a) ha hs,hl,u,r=>by
  cases (show u=Value.ref a from r);obtain⟨its,rv,⟨o,e,c,n,hd⟩,_⟩:=I.tuple ha;obtain⟨as,q⟩:=Rs.reads I hs (by simpa [PyData.canLay0] using hl) its rv;exact⟨_,.tuple e c hd (by simpa using q)⟩
 |.dict _ _ _,hl,_,_=>by simp[PyData.canLay0] at hl
 | .list (a:=a) ha hs,hl,u,r=>by
  cases (show u=Value.ref a from r);obtain⟨its,rv,⟨o,n,e,c,_,hd⟩,_⟩:=I.list ha.sq;obtain⟨as,q⟩:=Rs.reads I hs (by simpa [PyData.canLay0] using hl) its rv;exact⟨_,.list e c hd (by simpa using q)⟩
theorem Rs.reads (I:cT X pins σ H s){ds:List D}{vs:List V}:Rs X.K H O ds vs->PyData.canLayAll0 ds=true->∀us,cY vs us->∃as,ReadsAll s.heap us ds as
 |.nil,_,us,r=>by cases r;exact⟨_,.nil⟩
 | .cons h hs,hl,us,r=>by
  cases r with
  |cons r rs =>
   simp only[PyData.canLayAll0,Bool.and_eq_true] at hl;obtain⟨as,q⟩:=R.reads I h hl.1 _ r;obtain⟨bs,qs⟩:=Rs.reads I hs hl.2 _ rs;exact⟨_,.cons q qs⟩
end
theorem qG {d:D}(h:shaped d=true):d.canLay0=true:=by
 unfold shaped at h;rw[Bool.and_eq_true] at h;exact h.1
theorem BR.reads (I:cT X pins σ H s){d:D}{v:V}(h:BR X.K H O d v)(hl:d.canLay0=true)(u:Value)(r:dX v u):∃as,Reads s.heap u d as:=by
 rcases h with h|⟨a,ds,vs,rfl,rfl,e,q⟩|⟨a,ds,vs,rfl,_⟩
 ·exact h.reads I hl u r
 ·cases (show u=Value.ref a from r);obtain⟨its,rv,⟨o,n,e',c,_,hd⟩,_⟩:=I.list (show jT X.K H a vs from .inl (.inl e));obtain⟨as,q'⟩:=q.reads I (by simpa [PyData.canLay0] using hl) its rv;exact⟨_,.list e' c hd (by simpa using q')⟩
 ·simp[PyData.canLay0] at hl
end
noncomputable def Ht (K:Fg):L2.R2:=fun x y H Q=>∃(O:List Addr) (dx dy:D),BR K H O dx x/\BR K H O dy y/\shaped dx=true/\shaped dy=true/\noMix dx dy=true/\Q (.bl (same dx dy)) H
noncomputable def Hn (K:Fg):L2.R2:=fun x y H Q=>∃(O:List Addr) (dx dy:D),BR K H O dx x/\BR K H O dy y/\shaped dx=true/\shaped dy=true/\noMix dx dy=true/\Q (.bl (!same dx dy)) H
section
variable {X:Cx}{e a b c:Expr}{es:List Expr}{f g:ED}{fb gb:BD}{t u:TD}{pos:Pos}
theorem iO (hu:X.A.units+64<cLine):L2.OpR X (compareOp .Eq) (Ht X.K):=by
 intro pins s σ H x y v u Q I rx ry h;obtain⟨O,dx,dy,hx,hy,sx,sy,nm,q⟩:=h;obtain⟨as,ra⟩:=hx.reads I (qG sx) v rx;obtain⟨bs,rb⟩:=hy.reads I (qG sy) u ry;exact PyProof.Rows.eq_dataH_same ra rb sx sy hu nm ⟨.bl _,H,I,rfl,q⟩
theorem pV (hu:X.A.units+64<cLine):L2.OpR X (compareOp .NotEq) (Hn X.K):=by
 intro pins s σ H x y v u Q I rx ry h;obtain⟨O,dx,dy,hx,hy,sx,sy,nm,q⟩:=h;obtain⟨as,ra⟩:=hx.reads I (qG sx) v rx;obtain⟨bs,rb⟩:=hy.reads I (qG sy) u ry;exact PyProof.Rows.ne_dataH_same ra rb sx sy hu nm ⟨.bl _,H,I,rfl,q⟩
theorem k6:CD X (Ht X.K) nA:=by
 intro x y vx vy H O k Q hx hy hf q;unfold nA at hf;split at hf
 ·rename_i h;cases hf;rw[Bool.and_eq_true,Bool.and_eq_true] at h;exact⟨O,x,y,hx,hy,h.1.1,h.1.2,h.2,q⟩
 ·cases hf
theorem ux:CD X (Hn X.K) uC:=by
 intro x y vx vy H O k Q hx hy hf q;unfold uC at hf;split at hf
 ·rename_i h;cases hf;rw[Bool.and_eq_true,Bool.and_eq_true] at h;exact⟨O,x,y,hx,hy,h.1.1,h.1.2,h.2,q⟩
 ·cases hf
theorem Rs.at {K:Fg}{H:Hp}{O:List Addr}{ds:List D}{vs:List V}{i:Int}{d:D}(q:Rs K H O ds vs)(h:sV ds i=some d):∃v,L2.atI vs i=some v/\R K H O d v:=by
 unfold sV at h;obtain⟨j,hj,h⟩:=Option.bind_eq_some_iff.mp h;obtain⟨v,e,r⟩:=q.get h;refine⟨v,?_,r⟩;unfold L2.atI;have:L2.ixN vs.length i=some j:=by rw[<-q.length];exact hj
 rw[this,aa];exact e
theorem HF:OD X (L2.rIx X.K) cN:=by
 intro x y vx vy H O r Q ne hx hy hf k;cases x <;> first|(cases hf;done)|(cases y <;> first|cases hf|skip)
 ·obtain⟨a,vs,rfl,ha,qa⟩:=hx.list;cases hy.int;rename_i ds i;unfold cN at hf;dsimp only at hf;cases hd:sV ds i with
  |none=>rw[hd] at hf;cases hf
  |some d =>
   rw[hd] at hf;cases hf;obtain⟨v,e,rv⟩:=qa.at hd;exact .inl ⟨a,vs,i,v,rfl,rfl,ha,e,k _ H (.refl H) (.of rv)⟩
 ·obtain⟨a,vs,rfl,ha,qa⟩:=hx.tuple;cases hy.int;rename_i ds i;unfold cN at hf;dsimp only at hf;cases hd:sV ds i with
  |none=>rw[hd] at hf;cases hf
  |some d =>
   rw[hd] at hf;cases hf;obtain⟨v,e,rv⟩:=qa.at hd;exact .inr (.inl ⟨a,vs,i,v,rfl,rfl,ha,e,k _ H (.refl H) (.of rv)⟩)
theorem cF (ha:DB X a fb)(hb:DB X b gb)(hs:L2.PlainIx b:=by exact fun _ _=>rfl):DE X (.Subscript a b pos) (d2 cN fb gb):=(L2.pe_ix L2.ix_seq ha hb hs).imp fun _ _ _ h=>vQ HF h
theorem uy {r:List V->Hp->VK->Prop}{op:D->Option Vl}(hd:UD X (fun x H Q=>r [x] H Q) op){σ:St}{H:Hp}{Q:VK}(h:uE X.K (d1 op fb) σ H Q):L2.tCB r (L2.tCons (uB X.K fb) L2.tNil) σ H Q:=CS hd h
theorem A6 {r:List V->Hp->VK->Prop}{op:O2}(hd:OD X (fun x y H Q=>r [x,y] H Q) op){σ:St}{H:Hp}{Q:VK}(h:uE X.K (d2 op fb gb) σ H Q):L2.tCB r (L2.tCons (uB X.K fb) (L2.tCons (uB X.K gb) L2.tNil)) σ H Q:=vQ hd h
variable {x:Str}{p:Pos}{bid T:String}{r:List V->Hp->VK->Prop}
theorem sA {op:D->Option Vl}(hc:L2.CallR X (.builtin bid) r)(hd:UD X (fun x H Q=>r [x] H Q) op)(hm:X.mg x=none)(hv:bootBuiltins x=some (.builtin bid))(ha:DB X a fb)(hg:L2.Gl X x:=by rfl)(hn:x ≠ "__name__" := by decide)(hdb:(x==("__debug__" : Str))=false:=by decide)
  (he:starEach [a] X.env=(false,eval a X.env)::starEach [] X.env:=by rfl) (hpl:(backTo pos (starEach [] X.env)).any (·.1)=false:=by rfl):DE X (.Call (.Name x p) [a] [] pos) (d1 op fb) :=
 (L2.pe_callB hc hg hm hv (L2.pa_cons ha L2.pa_nil he) hn hdb he hpl).imp fun _ _ _ h=>uy hd h
theorem CM {op:D->Option Vl}(hc:L2.CallR X (.type T) r)(hd:UD X (fun x H Q=>r [x] H Q) op)(hm:X.mg x=none)(hv:bootBuiltins x=some (.type T))(ha:DB X a fb)(hg:L2.Gl X x:=by rfl)(hn:x ≠ "__name__" := by decide)(hdb:(x==("__debug__" : Str))=false:=by decide)
  (he:starEach [a] X.env=(false,eval a X.env)::starEach [] X.env:=by rfl) (hpl:(backTo pos (starEach [] X.env)).any (·.1)=false:=by rfl):DE X (.Call (.Name x p) [a] [] pos) (d1 op fb) :=
 (L2.pe_callTy hc hg hm hv (L2.pa_cons ha L2.pa_nil he) hn hdb he hpl).imp fun _ _ _ h=>uy hd h
theorem xB {op:O2}(hc:L2.CallR X (.builtin bid) r)(hd:OD X (fun x y H Q=>r [x,y] H Q) op)(hm:X.mg x=none)(hv:bootBuiltins x=some (.builtin bid))(ha:DB X a fb)(hb:DB X b gb)(hg:L2.Gl X x:=by rfl)(hn:x ≠ "__name__" := by decide)(hdb:(x==("__debug__" : Str))=false:=by decide)
  (he:starEach [a,b] X.env=(false,eval a X.env)::starEach [b] X.env:=by rfl) (he2:starEach [b] X.env=(false,eval b X.env)::starEach [] X.env:=by rfl) (hpl:(backTo pos (starEach [b] X.env)).any (·.1)=false:=by rfl):DE X (.Call (.Name x p) [a,b] [] pos) (d2 op fb gb) :=
 (L2.pe_callB hc hg hm hv (L2.pa_cons ha (L2.pa_cons hb L2.pa_nil he2) he) hn hdb he hpl).imp fun _ _ _ h=>A6 hd h
theorem FC:UD X (fun x H Q=>(fun xs H Q=>∃p ys,xs=[.ref p]/\(jT X.K H p ys\/jw X.K H p ys)/\Q (.int (ys.length:Nat)) H:List V->Hp->VK->Prop) [x] H Q) fK:=by
 intro x vx H O r Q ne hx hf k;cases x <;> first|cases hf|skip
 ·obtain⟨a,vs,rfl,ha,qa⟩:=hx.list;rw[qa.length] at k;exact⟨a,vs,rfl,.inl ha,k _ H (.refl H) (.of (.int _))⟩
 ·obtain⟨a,vs,rfl,ha,qa⟩:=hx.tuple;rw[qa.length] at k;exact⟨a,vs,rfl,.inr ha,k _ H (.refl H) (.of (.int _))⟩
theorem Br:UD X (fun x H Q=>(fun xs H Q=>∃p ys,xs=[.ref p]/\((jT X.K H p ys/\∀l,H l=none->Q (.ref l) (eA H l (.tup ys)))\/(jw X.K H p ys/\Q (.ref p) H)):List V->Hp->VK->Prop) [x] H Q) dg:=by
 intro x vx H O r Q ne hx hf k;cases x <;> first|cases hf|skip
 ·obtain⟨a,vs,rfl,ha,qa⟩:=hx.list;refine⟨a,vs,rfl,.inl ⟨ha,fun p hp=>?_⟩⟩;have s2:dq H (eA H p (.tup vs)):=fun b o e=>by rw[cG (cI e hp)];exact e
  exact k _ _ s2 (.of (.tuple (.inl (.inl cO)) (qa.same s2)))
 ·obtain⟨a,vs,rfl,ha,qa⟩:=hx.tuple;exact⟨a,vs,rfl,.inr ⟨ha,k _ H (.refl H) (.of (.tuple ha qa))⟩⟩
theorem uF {K:Fg}{H:Hp}{O:List Addr}:∀{ds:List D}{vs:List V}{bs:List Bool},Rs K H O ds vs->kL ds=some bs->vs=bs.map V.bl:=by
 intro ds;induction ds with
 |nil=>intro vs bs q h;cases q;cases h;rfl
 |cons d ds ih =>
  intro vs bs q h;cases q with
  |cons q qs =>
    unfold kL at h;obtain⟨b,hb,h⟩:=Option.bind_eq_some_iff.mp h;cases hr:kL ds with
    |none=>rw[hr] at h;cases h
    |some cs =>
     rw[hr] at h;cases h;rw[xI hb] at q;cases q;rw[ih qs hr];rfl
theorem FF:UD X (fun x H Q=>(fun xs H Q=>∃(a:Addr) (ys:List V) (bs:List Bool),xs=[.ref a]/\(jT X.K H a ys\/jw X.K H a ys)/\ys=bs.map V.bl/\Q (.bl (bs.all id)) H:List V->Hp->VK->Prop) [x] H Q) pZ:=by
 intro x vx H O r Q ne hx hf k;cases x <;> first|cases hf|skip
 ·obtain⟨a,vs,rfl,ha,qa⟩:=hx.list;rename_i ds;unfold pZ at hf;dsimp only at hf;cases hb:kL ds with
  |none=>rw[hb] at hf;cases hf
  |some bs =>
   rw[hb] at hf;cases hf;exact⟨a,vs,bs,rfl,.inl ha,uF qa hb,k _ H (.refl H) (.of (.bool _))⟩
 ·obtain⟨a,vs,rfl,ha,qa⟩:=hx.tuple;rename_i ds;unfold pZ at hf;dsimp only at hf;cases hb:kL ds with
  |none=>rw[hb] at hf;cases hf
  |some bs =>
   rw[hb] at hf;cases hf;exact⟨a,vs,bs,rfl,.inr ha,uF qa hb,k _ H (.refl H) (.of (.bool _))⟩
theorem Gb:OD X (fun x y H Q=>(fun xs H Q=>∃i j,xs=[.int i,.int j]/\Q (.int (if j>i then j else i)) H:List V->Hp->VK->Prop) [x,y] H Q) ym:=by
 intro x y vx vy H O r Q ne hx hy hf k;obtain⟨_,_,rfl,rfl⟩:=nH (fun x y n=>by cases x <;> first|rfl|exact absurd rfl (n _)) (fun i y n=>by cases y <;> first|rfl|exact absurd rfl (n _)) hf;cases hf;cases hx.int;cases hy.int;exact⟨_,_,rfl,k _ H (.refl H) (.of (.int _))⟩
theorem Ga:OD X (fun x y H Q=>(fun xs H Q=>∃i j,xs=[.int i,.int j]/\Q (.int (if j<i then j else i)) H:List V->Hp->VK->Prop) [x,y] H Q) yl:=by
 intro x y vx vy H O r Q ne hx hy hf k;obtain⟨_,_,rfl,rfl⟩:=nH (fun x y n=>by cases x <;> first|rfl|exact absurd rfl (n _)) (fun i y n=>by cases y <;> first|rfl|exact absurd rfl (n _)) hf;cases hf;cases hx.int;cases hy.int;exact⟨_,_,rfl,k _ H (.refl H) (.of (.int _))⟩
theorem jD (hm:X.mg "len" = none)(ha:DB X a fb)(hg:L2.Gl X "len" := by rfl)(he:starEach [a] X.env=(false,eval a X.env)::starEach [] X.env:=by rfl):DE X (.Call (.Name "len" p) [a] [] pos) (d1 fK fb):=sA L2.call_len_seq FC hm PySem.boot_len ha hg (by decide) (by decide) he
theorem dO (hm:X.mg "tuple" = none)(ha:DB X a fb)(hg:L2.Gl X "tuple" := by rfl)(he:starEach [a] X.env=(false,eval a X.env)::starEach [] X.env:=by rfl):DE X (.Call (.Name "tuple" p) [a] [] pos) (d1 dg fb):=CM L2.call_tuple_of Br hm PyProof.Rows.boot_tuple ha hg (by decide) (by decide) he
theorem yP (hc:X.calm=true)(hm:X.mg "all" = none)(ha:DB X a fb)(hg:L2.Gl X "all" := by rfl)(he:starEach [a] X.env=(false,eval a X.env)::starEach [] X.env:=by rfl):DE X (.Call (.Name "all" p) [a] [] pos) (d1 pZ fb):=sA (L2.call_allB hc) FF hm PyProof.Rows.boot_all ha hg (by decide) (by decide) he
theorem GL (hc:X.calm=true)(hm:X.mg "max" = none)(ha:DB X a fb)(hb:DB X b gb)(hg:L2.Gl X "max" := by rfl)(he:starEach [a,b] X.env=(false,eval a X.env)::starEach [b] X.env:=by rfl)(he2:starEach [b] X.env=(false,eval b X.env)::starEach [] X.env:=by rfl)(hpl:(backTo pos (starEach [b] X.env)).any (·.1)=false:=by rfl) :
  DE X (.Call (.Name "max" p) [a,b] [] pos) (d2 ym fb gb):=xB (L2.call_max2 hc) Gb hm PyProof.Rows.boot_max ha hb hg (by decide) (by decide) he he2 hpl
theorem GK (hc:X.calm=true)(hm:X.mg "min" = none)(ha:DB X a fb)(hb:DB X b gb)(hg:L2.Gl X "min" := by rfl)(he:starEach [a,b] X.env=(false,eval a X.env)::starEach [b] X.env:=by rfl)(he2:starEach [b] X.env=(false,eval b X.env)::starEach [] X.env:=by rfl)(hpl:(backTo pos (starEach [b] X.env)).any (·.1)=false:=by rfl) :
  DE X (.Call (.Name "min" p) [a,b] [] pos) (d2 yl fb gb):=xB (L2.call_min2 hc) Ga hm PyProof.Rows.boot_min ha hb hg (by decide) (by decide) he he2 hpl
noncomputable def Dg:List String:=["bool", "int", "str", "tuple", "list"]
noncomputable def AR (t T:String):Bool:=T==t||(t == "bool" && T == "int")
theorem rY (K:Fg):∀t∈Dg,∀T∈Dg,PySem.W.kitOne K (.type t) (.type T)=some (AR t T):=by
 intro t ht T hT;simp only[Dg,bq,bf,or_false] at ht hT;rcases ht with rfl|rfl|rfl|rfl|rfl <;> rcases hT with rfl|rfl|rfl|rfl|rfl <;> kernel_rfl
theorem FE {T:String}(hT:T∈Dg):UD X (fun x H Q=>∃t b,L2.KdV X.K H x t/\PySem.W.kitOne X.K (.type t) (.type T)=some b/\Q (.bl b) H) (jA T):=by
 intro x vx H O r Q ne hx hf k;cases x <;> first|cases hf|skip
 ·cases hx.bool;refine⟨"bool", _,rfl,rY _ _ (by simp[Dg]) _ hT,?_⟩;have:=k _ H (.refl H) (.of (.bool _));simp only[zL] at this;simpa [AR] using this
 ·cases hx.int;refine⟨"int", _,rfl,rY _ _ (by simp[Dg]) _ hT,?_⟩;have:=k _ H (.refl H) (.of (.bool _));simp only[zL] at this;simpa [AR] using this
 ·cases hx.str;refine⟨"str", _,rfl,rY _ _ (by simp[Dg]) _ hT,?_⟩;have:=k _ H (.refl H) (.of (.bool _));simp only[zL] at this;simpa [AR] using this
 ·obtain⟨a,vs,rfl,ha,qa⟩:=hx.list;refine⟨"list", _,.inr ⟨rfl,vs,ha⟩,rY _ _ (by simp[Dg]) _ hT,?_⟩;have:=k _ H (.refl H) (.of (.bool _));simp only[zL] at this;simpa [AR] using this
 ·obtain⟨a,vs,rfl,ha,qa⟩:=hx.tuple;refine⟨"tuple", _,.inl ⟨rfl,vs,ha⟩,rY _ _ (by simp[Dg]) _ hT,?_⟩;have:=k _ H (.refl H) (.of (.bool _));simp only[zL] at this;simpa [AR] using this
theorem mJ {y:Str}{T:String}{p2:Pos}(hm:X.mg "isinstance" = none)(hmT:X.mg y=none)(hvT:bootBuiltins y=some (.type T))(ha:DB X a fb)(hT:T∈Dg:=by decide)(hg:L2.Gl X "isinstance" := by rfl)(hgT:L2.Gl X y:=by rfl)(hnT:y ≠ "__name__" := by decide)(hdT:(y==("__debug__" : Str))=false:=by decide)
  (he:starEach [a,.Name y p2] X.env=(false,eval a X.env)::starEach [.Name y p2] X.env:=by rfl) (he2:starEach [.Name y p2] X.env=(false,eval (.Name y p2) X.env)::starEach [] X.env:=by rfl) (hpl:(backTo pos (starEach [.Name y p2] X.env)).any (·.1)=false:=by rfl) :
  DE X (.Call (.Name "isinstance" p) [a,.Name y p2] [] pos) (d1 (jA T) fb) :=
 (L2.pe_callB L2.call_isa hg hm PyProof.Rows.boot_isinstance (L2.pa_cons ha (L2.pa_cons (L2.pe_bltn (v:=.ty T) hgT hmT hvT rfl hnT hdT) L2.pa_nil he2) he) (by decide) (by decide) he hpl).imp fun σ H Q h=>by
  obtain⟨ρ,O,M,lad,res,hE,hf,k⟩:=h;unfold d1 at hf;obtain⟨x,hx,hf⟩:=Option.bind_eq_some_iff.mp hf;refine⟨ρ,O,M,lad,x,hE,hx,fun vx H1 s1 q1=>?_⟩;obtain⟨t,b,kd,e,q⟩:=FE hT x vx H1 O res Q (hE.same s1).ne q1 hf fun v H' s q=>k v H' (s1.trans s) (q.back s1);exact⟨vx,t,T,b,rfl,kd,e,q⟩
end
def Bb (n:Nat)(g:GD):Prop:=∀d ρ ρ1,g d ρ=some ρ1->ρ1.length=ρ.length/\∀i:Nat,n<=i->ρ1[i]?=ρ[i]?
theorem dh {n i:Nat}(h:i<n:=by decide):Bb n (gN i):=fun d ρ ρ1 e=>by
 cases e;exact⟨by rw[aY],fun j hj=>by rw[ai ⋯]⟩
def Ab (n:Nat)(gs:List GD):Prop:=∀ds ρ ρ1,og gs ds ρ=some ρ1->ρ1.length=ρ.length/\∀i:Nat,n<=i->ρ1[i]?=ρ[i]?
theorem qM {n:Nat}:Ab n []:=fun ds ρ ρ1 e=>by
 cases ds with
 |nil=>cases e;exact⟨rfl,fun _ _=>rfl⟩
 |cons _ _=>cases e
theorem gO {n:Nat}{g:GD}{gs:List GD}(h:Bb n g)(hs:Ab n gs):Ab n (g::gs):=fun ds ρ ρ1 e=>by
 cases ds with
 |nil=>cases e
 |cons d ds =>
  unfold og at e;obtain⟨ρ2,hx,e⟩:=Option.bind_eq_some_iff.mp e;obtain⟨l1,q1⟩:=h _ _ _ hx;obtain⟨l2,q2⟩:=hs _ _ _ e;exact⟨l2.trans l1,fun i hi=>(q2 i hi).trans (q1 i hi)⟩
theorem qL {n:Nat}{gs:List GD}(hs:Ab n gs):Bb n (gT gs):=fun d ρ ρ1 e=>by
 unfold gT at e;split at e
 ·exact hs _ _ _ e
 ·cases e
theorem A5 {n:Nat}{ix:List Nat}{ρ:Sl}{i:Nat}(h:i<n):(eT n ix ρ)[i]?=some none:=by
 unfold eT;rw[aR (by rw[bc];exact h),bK,if_pos h]
theorem eQ {n:Nat}{ix:List Nat}{ρ:Sl}{i:Nat}{x:Vl}(h:(eT n ix ρ)[i]?=some (some x)):n<=i/\∃j,ix[i-n]?=some j/\ρ[j]?=some (some x):=by
 by_cases hi:i<n
 ·rw[A5 hi] at h;cases h
 ·refine⟨by omega,?_⟩;unfold eT at h;rw[aN (by rw[bc];omega),bc,au] at h;cases ej:ix[i-n]? with
  |none=>rw[ej] at h;cases h
  |some j =>
   rw[ej,av] at h;refine⟨j,rfl,?_⟩;cases er:ρ[j]? with
   |none=>rw[er] at h;cases h
   |some y=>rw[er] at h;exact congrArg some (Option.some.inj h)
theorem gB {n:Nat}{ix:List Nat}{σ:St}{i j:Nat}{v:V}(hi:n<=i)(hj:ix[i-n]?=some j)(h:σ[j]?=some (some v)):(L2.capt n ix σ)[i]?=some (some v):=by
 unfold L2.capt;rw[aN (by rw[bc];omega),bc,au,hj,av,h];rfl
theorem ER.capt {K:Fg}{H:Hp}{O M:List Addr}{lad:Nat->Addr}{ρ:Sl}{σ:St}(n:Nat){ix:List Nat}(hix:ix.Nodup)(h:ER K H O M lad ρ σ):ER K H O M (fun i=>lad (ix.getD (i-n) 0)) (eT n ix ρ) (L2.capt n ix σ) where
 sh:=fun i d e=>by
  obtain⟨hi,j,hj,hr⟩:=eQ e;obtain⟨v,e1,q⟩:=h.sh j d hr;exact⟨v,gB hi hj e1,q⟩
 ow:=fun i d e=>by
  obtain⟨hi,j,hj,hr⟩:=eQ e;obtain⟨a,vs,e2,r⟩:=h.ow j d hr;exact⟨a,vs,gB hi hj e2,r⟩
 le:=fun i d e=>by
  obtain⟨hi,j,hj,hr⟩:=eQ e;obtain⟨e2,r⟩:=h.le j d hr;have z:ix.getD (i-n) 0=j:=by rw[ag,hj];rfl
  rw[z];exact⟨gB hi hj e2,r⟩
 ap:=fun i k d e a e1 e2 e3 e4=>by
  obtain⟨hi,j,hj,hr⟩:=eQ e1;obtain⟨hk,l,hl,hs⟩:=eQ e2;obtain⟨a1,_,f1,_⟩:=h.ow j d hr;obtain⟨a2,_,f2,_⟩:=h.ow l e hs;have g1:=gB hi hj f1;have g2:=gB hk hl f2;rw[e3] at g1;rw[e4] at g2;cases g1;cases g2;have:=h.ap j l d e a hr hs f1 f2;subst this;have:i-n=k-n:=by
   obtain⟨h1,z1⟩:=List.getElem?_eq_some_iff.mp hj;obtain⟨h2,z2⟩:=List.getElem?_eq_some_iff.mp hl;exact (JJ hix).mp (z1.trans z2.symm)
  omega
 tr:=h.tr
 sub:=h.sub
 len:=by
  unfold eT L2.capt;rw[aw,aw,bc,bc,af,af]
 dp:=by
  have inj:∀{i k j:Nat},n<=i->n<=k->ix[i-n]?=some j->ix[k-n]?=some j->i=k:=fun {i k j} hi hk h1 h2=>by
   obtain⟨l1,z1⟩:=List.getElem?_eq_some_iff.mp h1;obtain⟨l2,z2⟩:=List.getElem?_eq_some_iff.mp h2;have:i-n=k-n:=(JJ hix).mp (z1.trans z2.symm);omega
  refine⟨fun i ds e=>?_,fun i k ds es e1 e2=>?_⟩
  ·obtain⟨hi,j,hj,hr⟩:=eQ e;rcases h.dp.pk j ds hr with ⟨ds',rfl,a,bs,h1,h2,h3,h4,h5,h6⟩|⟨kvs,rfl,a,es',h1,h2,h3,h5,h6⟩
   ·refine .inl ⟨ds',rfl,a,bs,gB hi hj h1,h2,h3,h4,h5,fun k es c z1 z2=>?_⟩;obtain⟨hk,l,hl,hs⟩:=eQ z1;obtain⟨a2,_,f2,_⟩:=h.ow l es hs;have g2:=gB hk hl f2;rw[z2] at g2;cases g2;exact h6 l es c hs f2
   ·refine .inr ⟨kvs,rfl,a,es',gB hi hj h1,h2,h3,h5,fun k es c z1 z2=>?_⟩;obtain⟨hk,l,hl,hs⟩:=eQ z1;obtain⟨a2,_,f2,_⟩:=h.ow l es hs;have g2:=gB hk hl f2;rw[z2] at g2;cases g2;exact h6 l es c hs f2
  ·obtain⟨hi,j,hj,hr⟩:=eQ e1;obtain⟨hk,l,hl,hs⟩:=eQ e2;have:=h.dp.one j l ds es hr hs;subst this;exact inj hi hk hj hl
theorem ER.fewer {K:Fg}{H:Hp}{O M:List Addr}{lad:Nat->Addr}{ρ ρ':Sl}{σ:St}(h:ER K H O M lad ρ σ)(hl:ρ'.length=ρ.length)(le:∀(i:Nat) x,ρ'[i]?=some (some x)->ρ[i]?=some (some x)):ER K H O M lad ρ' σ :=
 ⟨fun i d e=>h.sh i d (le i _ e),fun i d e=>h.ow i d (le i _ e),fun i d e=>h.le i d (le i _ e),fun i j d e a e1 e2=>h.ap i j d e a (le i _ e1) (le j _ e2),h.tr,h.sub,hl.trans h.len,h.dp.go (.same (.refl _)) (fun i ds e=>⟨le i _ e,rfl⟩) (fun b hb _=>⟨hb,fun _ e=>e⟩) fun j es c e1 e2=>.inr ⟨j,es,le j _ e1,e2⟩⟩
theorem ER.more {K:Fg}{H H':Hp}{O O' M:List Addr}{lad:Nat->Addr}{ρ:Sl}{σ:St}(h:ER K H O M lad ρ σ)(x:iZ [] O H O' H')(so:∀b∈O,b∈O')(tr:∀b∈O',∃u,H' b=some (oW u))(kl:∀b u,H b=some (oW u)->H' b=some (oW u)):ER K H' O' M lad ρ σ where
 sh:=fun i d e=>let ⟨v,e1,q⟩:=h.sh i d e;⟨v,e1,q.ext x⟩
 ow:=fun i d e=>let ⟨a,vs,e2,e3,e4,q⟩:=h.ow i d e;⟨a,vs,e2,kl _ (.inl _) e3,e4,q.ext x⟩
 le:=fun i d e=>let ⟨e2,vs,e3,e4,e5,q⟩:=h.le i d e;⟨e2,vs,kl _ (.inl _) e3,so _ e4,e5,q.ext x⟩
 ap:=h.ap
 tr:=tr
 sub:=fun b hb=>so b (h.sub b hb)
 len:=h.len
 dp:=h.dp.go x (fun _ _ e=>⟨e,rfl⟩) (fun b hb _=>⟨hb,fun vs e=>kl _ _ e⟩) fun j es c e1 e2=>.inr ⟨j,es,e1,e2⟩
theorem xC {K:Fg}{it:AD}{n:Nat}{ix:List Nat}{g:GD}{t:TD}{e:ED}(hix:ix.Nodup)(hg:Bb n g){σ:St}{H:Hp}{Q:VK}(h:uE K (dD it n ix g t e) σ H Q) :
  L2.tComp (uI K it) n ix (uG K g) (uT K t) (uE K e) σ H Q:=by
 obtain⟨ρ,O,M,lad,res,hE,hf,k⟩:=h;unfold dD at hf;cases hd:it ρ with
 |none=>rw[hd] at hf;cases hf
 |some ds =>
  rw[hd,aa] at hf;split at hf
  ·rename_i hz;cases hc:iD g t e (eT n ix ρ) ds with
   |none=>rw[hc] at hf;cases hf
   |some xs =>
    rw[hc,av] at hf;cases hf;refine⟨ρ,O,M,lad,ds,hE,hd,fun J H1 s1 iok=>fun L hL=>?_⟩;have hLO:L∉O:=fun z=>(hE.same s1).ne L z hL;refine⟨fun i m σ' H'=>m=ds.length-i/\i<=ds.length/\dq H1 H'/\∃ys vs,ys.length<=i/\H' L=some (.lst vs)/\Rs K H' (L::O) ys vs/\ER K H' (L::O) M (fun i=>lad (ix.getD (i-n) 0)) (eT n ix ρ) σ' ∧
     (iD g t e (eT n ix ρ) (ds.drop i)).map (fun r=>ys++r)=some xs,⟨ds.length,by simp,bw _,?_,[],[],bw _,cO,.nil,?_,by simp[hc]⟩,?_⟩
    ·exact fun b o e=>by rw[cG (cI e hL)];exact e
    ·have E1:=(hE.same s1).capt n hix;have x:iZ [] O H1 (L::O) (eA H1 L (.lst [])):=iZ.fresh (fun b o e=>by rw[cG (cI e hL)];exact e) hL;refine E1.more x (fun b hb=>aG _ hb) (fun b hb=>?_) fun b vs e=>by rw[cG (cI e hL)];exact e
     rcases List.mem_cons.mp hb with z|z
     ·subst z;exact⟨.inl [],cO⟩
     ·obtain⟨vs,e⟩:=E1.tr b z;exact⟨vs,by rw[cG (cI e hL)];exact e⟩
    ·rintro i m σ' H' ⟨rfl,hi,sm,ys,vs,hl,hD,qs,E',hrest⟩;have x0:iZ [] O H1 (L::O) H':=iZ.fresh sm hL;have x:iZ M O H1 (L::O) H':=⟨x0.tup,x0.frz,fun b xs _ e=>sm b _ e,fun b φ _ e=>sm b _ e,x0.new,hE.sub⟩;obtain⟨go,stop⟩:=iok _ _ x;by_cases hlt:i<ds.length
     ·have ed:ds.drop i=ds[i]::ds.drop (i+1):=bU hlt;rw[ed] at hrest;unfold iD at hrest;cases hg1:g ds[i] (eT n ix ρ) with
      |none=>rw[hg1] at hrest;cases hrest
      |some ρ1 =>
       rw[hg1,aa] at hrest;cases ht:t ρ1 with
       |none=>rw[ht] at hrest;cases hrest
       |some c =>
        rw[ht,aa] at hrest;obtain⟨g1,g2⟩:=go i ds[i] (by simp[hlt]);obtain⟨ln,keep⟩:=hg _ _ _ hg1;have back:∀(j:Nat) y,(eT n ix ρ)[j]?=some (some y)->ρ1[j]?=some (some y):=fun j y e=>by
         rw[keep j (eQ e).1];exact e
        refine .inr ⟨g1,fun σ2 H2=>dq H1 H2/\∃ys vs,ys.length<=i+1/\H2 L=some (.lst vs)/\Rs K H2 (L::O) ys vs/\ER K H2 (L::O) M (fun i=>lad (ix.getD (i-n) 0)) (eT n ix ρ) σ2/\(iD g t e (eT n ix ρ) (ds.drop (i+1))).map (fun r=>ys++r)=some xs,
         fun σ2 H2 ⟨s2,r⟩=>⟨ds.length-(i+1),by omega,rfl,hlt,s2,r⟩,fun v H2 hy=>?_⟩
        obtain⟨s2,q2⟩:=g2 v H2 hy;refine⟨_,_,M,_,ds[i],ρ1,E'.same s2,q2,hg1,fun σ3 H3 s3 E3=>⟨ρ1,_,M,_,c,E3,ht,fun H4 s4=>?_⟩⟩;have S4:dq H' H4:=(s2.trans s3).trans s4;have E4:ER K H4 (L::O) M (fun i=>lad (ix.getD (i-n) 0)) ρ1 σ3:=E3.same s4;cases c with
        |false =>
         dsimp only at hrest ⊢;rw[if_neg Bool.false_ne_true] at hrest ⊢;exact⟨sm.trans S4,ys,vs,by omega,S4 _ _ hD,qs.same S4,E4.fewer ln.symm back,hrest⟩
        |true =>
         dsimp only at hrest ⊢;rw[if_pos rfl] at hrest ⊢;cases he:e ρ1 with
         |none=>rw[he] at hrest;cases hrest
         |some r1 =>
          rw[he,aa] at hrest;cases hc2:iD g t e (eT n ix ρ) (ds.drop (i+1)) with
          |none=>rw[hc2] at hrest;cases hrest
          |some zs =>
           rw[hc2,av,av] at hrest;cases hrest;refine⟨ρ1,_,M,_,r1,E4,he,fun y H5 s5 q5=>?_⟩;have S5:dq H' H5:=S4.trans s5;have hl2:=qs.length;have qy:=q5.toR E4.ne;have s6:iZ [L] (L::O) H5 (L::O) (eA H5 L (.lst (vs++[y]))):=by
            have hD5:=S5 _ _ hD;refine⟨fun b xs e=>?_,fun b o u e=>?_,fun b xs nb e=>?_,fun b φ nb e=>?_,fun b hb=>.inl hb,fun b hb=>(List.mem_singleton.mp hb)▸aQ⟩
            ·rw[cG (fun (z:b=L)=>by rw[z,hD5] at e;cases e)];exact e
            ·rw[cG (fun (z:b=L)=>by rw[z,hD5] at e;cases e)];exact e
            ·rw[cG (fun (z:b=L)=>nb (by rw[z];exact List.mem_singleton.mpr rfl))];exact e
            ·rw[cG (fun (z:b=L)=>nb (by rw[z];exact List.mem_singleton.mpr rfl))];exact e
           have kl:∀b us,b≠L->H5 b=some (oW us)->(eA H5 L (.lst (vs++[y]))) b=some (oW us):=fun b us nb e=>by rw[cG nb];exact e
           refine⟨vs,S5 _ _ hD,by omega,?_,ys++[r1.1],vs++[y],by rw[aw,aP];omega,cO,((qs.same S5).append (.cons qy .nil)).ext s6,?_,by rw[av,ba];rfl⟩
           ·intro b o e;rw[cG (cI e hL)];exact S5 _ _ (sm _ _ e)
           ·have E5:ER K H5 (L::O) M (fun i=>lad (ix.getD (i-n) 0)) (eT n ix ρ) σ3:=(E4.same s5).fewer ln.symm back;have nM:∀b∈M,b≠L:=fun b hb z=>hLO (z▸hE.sub b hb);have nL:∀(j:Nat) (d:List D),(eT n ix ρ)[j]?=some (some (iw d,true))->lad (ix.getD (j-n) 0)≠L:=fun j d e z=>by
             obtain⟨hi,j',hj,hr⟩:=eQ e;obtain⟨_,_,_,e4,_⟩:=hE.le j' d hr;have z':ix.getD (j-n) 0=j':=by rw[ag,hj];rfl
             rw[z'] at z;exact hLO (z▸e4)
            exact⟨fun j d e=>let ⟨w,e1,q⟩:=E5.sh j d e;⟨w,e1,q.ext s6⟩,
             fun j d e=>let ⟨a,us,e2,e3,e4,q⟩:=E5.ow j d e;⟨a,us,e2,kl _ (.inl _) (nM a e4) e3,e4,q.ext s6⟩,
             fun j d e=>let ⟨e2,us,e3,e4,e5,q⟩:=E5.le j d e;⟨e2,us,kl _ (.inl _) (nL j d e) e3,e4,e5,q.ext s6⟩,E5.ap,
             fun b hb=>by
              by_cases z:b=L
              ·subst z;exact⟨.inl _,cO⟩
              ·obtain⟨us,e⟩:=E5.tr b hb;exact⟨us,kl b us z e⟩,E5.sub,E5.len,
             E5.dp.go s6 (fun _ _ e=>⟨e,rfl⟩) (fun b hb _=>⟨hb,fun us e=>kl b us (nM b hb) e⟩) fun j es c e1 e2=>.inr ⟨j,es,e1,e2⟩⟩
     ·have ei:i=ds.length:=by omega
      subst ei;rw[JK] at hrest;unfold iD at hrest;rw[av,br] at hrest;have ee:=Option.some.inj hrest;subst ee;exact .inl ⟨stop,k _ H' (s1.trans sm) (.inr ⟨rfl,L,ys,vs,rfl,rfl,s1.free hL,hD,qs⟩)⟩
  ·cases hf
section
variable {X:Cx}{e a b c elt tg iter:Expr}{es ifs:List Expr}{f g:ED}{fb gb hb' kb:BD}{t u:TD}{pos:Pos}{it:AD}{gd:GD}{scope:Scope}{own caps:List Str}{ix:List Nat}
def Iq (X:Cx)(ifs:List Expr)(t:TD):Prop:=L2.PTs X ifs (uT X.K t)
theorem eW:Iq X [] fU:=L2.pts_nil.imp fun σ H Q zz=>by
 obtain ⟨ρ,O,M,lad,b,hE,hf,k⟩:=zz;cases hf;exact k H (.refl H)
theorem vL (h:DT X c t):Iq X [c] t:=L2.pts_one h
theorem eO (S:L2.CompSc X.env.scope X.N scope own ix caps)(hc:X.calm=true)(hix:ix.Nodup)(hw:Bb own.length gd)(hi:DI X tg iter it)
  (hg:∀s₀ H₀ ex pn,DG (L2.compCx X scope (own++caps) s₀ H₀ ex pn) tg gd) (ht:∀s₀ H₀ ex pn,Iq (L2.compCx X scope (own++caps) s₀ H₀ ex pn) ifs t) (he:∀s₀ H₀ ex pn,DE (L2.compCx X scope (own++caps) s₀ H₀ ex pn) elt f)
  (hs:∀x,foldedSetIterable iter X.env x=pure x:=by intro _;rfl):DE X (.ListComp elt [⟨tg,iter,ifs,0⟩] scope pos) (dD it own.length ix gd t f) :=
 (L2.pe_lcomp (g:=uG X.K gd) (tc:=uT X.K t) (te:=uE X.K f) S hc hi hg ht he hs).imp fun σ H Q h=>xC hix hw h
theorem zV {spos py:Pos}{i:Nat}{y:Str}(hN:X.N.Nodup)(S:L2.CompSc X.env.scope X.N scope own ix caps)(hc:X.calm=true)(hix:ix.Nodup)(hw:Bb own.length gd)(hi:DI X tg iter it)
  (hg:∀s₀ H₀ ex pn,DG (L2.compCx X scope (own++caps) s₀ H₀ ex pn) tg gd) (ht:∀s₀ H₀ ex pn,Iq (L2.compCx X scope (own++caps) s₀ H₀ ex pn) ifs t) (he:∀s₀ H₀ ex pn,DE (L2.compCx X scope (own++caps) s₀ H₀ ex pn) elt f)
  (hiN:X.N[i]?=some y:=by rfl) (hy:X.env.scope.names.lookup y=some .local:=by rfl)
  (hsw:swapsWith (.ListComp elt [⟨tg,iter,ifs,0⟩] scope pos) (some (.Name y py)) spos.line X.env=pure true:=by rfl)
  (hs:∀x,foldedSetIterable iter X.env x=pure x:=by intro _;rfl):DS X (.Assign [.Name y py] (.ListComp elt [⟨tg,iter,ifs,0⟩] scope pos) spos) (cJ i (dD it own.length ix gd t f)):=fun B H₀ M₀ lad =>
 (L2.ps_lcomp (g:=uG X.K gd) (tc:=uT X.K t) (te:=uE X.K f) S hc hN hiN hy hi hg ht he hsw hs).imp fun E σ H h=>xC hix hw (zq h)
noncomputable def uL (K:Fg)(f:LD):TE:=fun σ H Q=>∃ρ O M lad ds,ER K H O M lad ρ σ/\f ρ=some ds/\∀v H',dq H H'->(∃a vs,v=.ref a/\H' a=some (.lst vs)/\Rs K H' O ds vs)->Q v H'
def Jf (X:Cx)(e:Expr)(f:LD):Prop:=PE X e (uL X.K f)
theorem Fh (h:DE X e f):Jf X e (Fd f):=h.imp fun σ H Q zz=>by
 obtain ⟨ρ,O,M,lad,ds,hE,hf,k⟩:=zz;unfold Fd at hf;obtain⟨r,hr,hf⟩:=Option.bind_eq_some_iff.mp hf;split at hf
 ·cases hf;refine⟨ρ,O,M,lad,_,hE,hr,fun v H1 s1 q1=>k v H1 s1 ?_⟩;rcases q1 with ⟨z,_⟩|⟨_,a,es,vs,e1,e2,e3,e4,q⟩
  ·cases z
  ·cases e1;exact⟨a,vs,e2,e4,q.ext (.less fun b hb=>aG _ hb)⟩
 ·cases hf
theorem B4 {K:Fg}{H H1:Hp}{O:List Addr}{ds:List D}{vs:List V}{Q:VK}(s1:dq H H1)(qa:Rs K H1 O ds vs)(k:∀v H',dq H H'->v5 K H O H' (.list ds,true) v->Q v H'):∀l,H1 l=none->Q (.ref l) (eA H1 l (.lst vs)):=fun p hp=>by
 have s2:dq H1 (eA H1 p (.lst vs)):=fun b o e=>by rw[cG (cI e hp)];exact e
 refine k _ _ (s1.trans s2) (.inr ⟨rfl,p,ds,vs,rfl,rfl,s1.free hp,cO,qa.ext (iZ.fresh s2 hp)⟩)
theorem zY {fl:LD}(ha:Jf X a fl)(hb:DB X b gb):DE X (.BinOp a .Mult b pos) (qx fl gb):=(L2.pe_op L2.op_rep ha hb).imp fun σ H Q zz=>by
 obtain ⟨ρ,O,M,lad,r,hE,hf,k⟩:=zz;unfold qx at hf;obtain⟨xs,hx,hf⟩:=Option.bind_eq_some_iff.mp hf;obtain⟨y,hy,hf⟩:=Option.bind_eq_some_iff.mp hf;split at hf
 ·split at hf
  ·rename_i j hz;cases hf;refine⟨ρ,O,M,lad,xs,hE,hx,fun v H1 s1 ⟨a,vs,e1,e2,q1⟩=>⟨ρ,O,M,lad,_,hE.same s1,hy,fun w H2 s2 q2=>?_⟩⟩;have l1:=q1.length;exact⟨a,j,vs,e1,q2.int,s2 _ _ e2,hz.1,hz.2.1,by rw[<-l1];exact hz.2.2,B4 (s1.trans s2) ((q1.same s2).rep j.toNat) k⟩
  ·cases hf
 ·cases hf
end
theorem zQ {n m:Nat}{b:SD}{ds:List D}{r:Vl}(h:ki n m b ds=some r):ds.length=n:=by
 unfold ki at h;split at h
 ·assumption
 ·cases h
theorem BB {K:Fg}{H:Hp}{B:List Addr}{m:Nat}{ds:List D}{vs:List V}(q:Rs K H B ds vs)(tr:∀a∈B,∃u,H a=some (oW u))(lad:Nat->Addr):ER K H ([]++B) [] lad (ds.map (fun d=>some (d,false))++aH m none) (vs.map some++aH m none):=by
 have fl:∀{i:Nat}{d:D}{o:Bool},(ds.map (fun d=>some (d,false))++aH m none:Sl)[i]?=some (some (d,o))->o=false/\ds[i]?=some d:=fun {i d o} e=>by
  by_cases hi:i<ds.length
  ·rw[aR (by rw[af];exact hi),au] at e;cases er:ds[i]? with
   |none=>rw[er] at e;cases e
   |some d'=>rw[er] at e;cases e;exact⟨rfl,rfl⟩
  ·rw[aN (by rw[af];omega),bK] at e;split at e <;> cases e
 refine⟨fun i d e=>?_,fun i d e=>?_,fun i d e=>?_,fun i j d e a e1=>?_,tr,(fun a ha=>nomatch ha),by rw[aw,aw,af,af,q.length];simp,.none_ fun i x e=>(fl (d:=x.1) (o:=x.2) e).1⟩
 ·obtain⟨_,ed⟩:=fl e;obtain⟨v,ev,rv⟩:=q.get ed;refine⟨v,?_,rv⟩;have hi:i<vs.length:=(List.getElem?_eq_some_iff.mp ev).1;rw[aR (by rw[af];exact hi),au,ev];rfl
 ·cases (fl e).1
 ·cases (fl e).1
 ·cases (fl e1).1
theorem eS {P:Program}{w:World}{K:Fg}{mg:Str->Option Value}{base:Heap}{x qual:Str}{st:Stmt}{f:Addr}{fd:FuncData}{N ps:List Str}{k:Nat}{b:SD}(F:L2.Fun K x qual st f fd)(S:L2.FnScope N ps (L2.defScope st))
  (hb:∀(cdv:Value) (A:Around) (outer:List Env) (s:Shared) (H:Hp) (E:L2.XK),L2.Room k (A.deeper (PyProof.Rows.envOfC qual (L2.defScope st) s.heap.objs.size f cdv))->Df (L2.cxOf L2.CX0 P w K mg base N qual (L2.defScope st) f cdv A outer s H E).nox (L2.defBody st) b) :
  L2.FnOk P w K mg base L2.CX0 (k+1) f fd ps (spD K (ki ps.length (N.length-ps.length) b)):=by
 refine F.ok S (fun vs H Q E zz=>by obtain ⟨ds,B,r,q,_,hF,_⟩:=zz; rw[<-q.length];exact zQ hF) fun cdv A outer s H vs Q E hr zz=>?_;obtain ⟨ds,B,r,q,tr,hF,kk⟩:=zz;have hl:=zQ hF;refine⟨_,hb cdv A outer s H E hr B H [] (fun _=>f),?_⟩;unfold ki at hF;rw[if_pos hl] at hF;obtain⟨fl,hfl,hF⟩:=Option.bind_eq_some_iff.mp hF;have same:∀{M':List Addr}{H':Hp},gZ [] H M' H'->dq H H':=fun x b o e=>x.keep b o (fun z=>(nomatch z)) e;refine⟨_,fl,⟨[],.refl [] H,(fun _ z=>nomatch z),?_⟩,hfl,?_⟩
 ·have:=BB (m:=N.length-ps.length) q tr (fun _=>f);unfold L2.start;rw[<-q.length,hl];exact this
 ·cases fl with
  |next ρ =>
   cases hF;exact fun σ H' ⟨M',x,_,_⟩=>kk _ H' (same x) (.of .none)
  |ret r' =>
   cases hF;refine fun v H' ⟨⟨M',x⟩,q'⟩=>kk v H' (same x) ?_;rcases q' with q'|⟨e,a,es,us,e1,e2,e3,e4,q'⟩
   ·exact .inl q'
   ·exact .inr ⟨e,a,es,us,e1,e2,e3.elim (fun z=>(nomatch z)) id,e4,q'⟩
  |brk ρ=>cases hF
  |cont ρ=>cases hF
theorem iT {X:Cx}{st:Stmt}{F:SD}(i:Nat)(h:DS X st F):DS X st (gf i F):=fun B H₀ M₀ lad=>(h B H₀ M₀ lad).imp fun E σ H zz=>by
 obtain ⟨ρ,fl,hR,hf,k⟩:=zz;unfold gf at hf;cases hx:F ρ with
 |none=>rw[hx] at hf;cases hf
 |some fl0 =>
  rw[hx,av] at hf;refine⟨ρ,fl0,hR,hx,?_⟩;cases fl0 with
  |next ρ'=>cases hf;exact fun σ' H' r=>k σ' H' (r.share i)
  |ret r=>cases hf;exact k
  |brk ρ'=>cases hf;exact k
  |cont ρ'=>cases hf;exact k
structure fo (P:Program)(w:World)(K:Fg)(mg:Str->Option Value)(base:Heap)(k:Nat)(x:Str)(ps:List Str)(F:FD):Prop where
 ex:∃(fa:Addr) (fd:FuncData),L2.FnOk P w K mg base L2.CX0 k fa fd ps (spD K F)/\mg x=some (.ref fa)/\PySem.W.keepIn K (.ref fa)=true/\L2.Binds K fd ps []
theorem cU {X:Cx}{e:Expr}{es:List Expr}{pos p:Pos}{k j:Nat}{ps:List Str}{F:FD}{x:Str}{t:AD}(G:fo X.prog X.w X.K X.mg X.base k x ps F)(hr:L2.Room j X.A)(ha:DA X (e::es) t)(hj:k<=j:=by decide)(hg:L2.Gl X x:=by rfl)
  (hdb:(x==("__debug__" : Str))=false:=by decide) (he:starEach (e::es) X.env=(false,eval e X.env)::starEach es X.env:=by rfl) (hpl:(backTo pos (starEach es X.env)).any (·.1)=false:=by rfl) :
  DE X (.Call (.Name x p) (e::es) [] pos) (cB F t):=by
 obtain⟨fa,fd,h1,h2,h3,h4⟩:=G.ex;exact EE h1 (hr.mono hj) hg h2 h3 h4 ha hdb he hpl
open L2 (V Hp St HO VK Cx jw jT)
noncomputable def qS (osc:Scope)(oN:List Str)(scope:Scope)(own:List Str)(ix:List Nat)(caps:List Str):Bool :=
 decide (scope.kind=.function)&&decide ((own++caps).Nodup)&&own.all (fun x=>scope.names.lookup x==some .local||scope.names.lookup x==some .cell)&&decide (ix.map (fun j=>oN[j]?)=caps.map some) &&
 scope.names.all (fun p=>p.2 != .free||osc.names.lookup p.1==some .cell||osc.names.lookup p.1==some .free)&&caps.all (fun y=>scope.names.any fun p=>p.1==y&&p.2==.free)&&scope.names.all (fun p=>scope.names.lookup p.1==some p.2)
theorem eL {X:Cx}{osc scope:Scope}{oN own caps:List Str}{ix:List Nat}(h1:X.env.scope=osc)(h2:X.N=oN)(h:qS osc oN scope own ix caps=true):L2.CompSc X.env.scope X.N scope own ix caps:=by
 rw[h1,h2];unfold qS at h;simp only[Bool.and_eq_true,decide_eq_true_eq,bH,Bool.or_eq_true,beq_iff_eq,List.any_eq_true,bne_iff_ne,ne_eq] at h;obtain⟨⟨⟨⟨⟨⟨a1,a2⟩,a3⟩,a4⟩,a5⟩,a6⟩,a7⟩:=h;refine⟨a1,a2,a3,a4,fun p hp hf=>?_,fun y hy=>?_,a7⟩
 ·rcases a5 p hp with (z|z)|z
  ·exact absurd hf z
  ·exact .inl z
  ·exact .inr z
 ·obtain⟨⟨z,k⟩,hp,e1,e2⟩:=a6 y hy;simp only at e1 e2;subst e1 e2;exact hp
theorem zv {K:Fg}{H:Hp}{O:List Addr}:∀ns:List Int,Rs K H O (ns.map .int) (ns.map V.int)
 |[]=>.nil
 |n::ns=>.cons (.int n) (zv ns)
theorem law_end {K:Fg}{H:Hp}{a:Addr}{ns:List Int}{F:FD}(hS:jT K H a (ns.map V.int))(hl:ns.length<=63)(h:∀ns:List Int,ns.length<=63->F [.list (ns.map .int)]=some (.bool true,false)) :
  spD K F [.ref a] H (fun v _=>v=.bl true) fun _ _ _=>False:=by
 refine⟨[.list (ns.map .int)],[],_,.cons (.list ?_ (zv ns)) .nil,(fun _ z=>nomatch z),h ns hl,fun v H' s q=>?_⟩
 ·rcases hS with (z|z)|z
  ·exact .inl ⟨z,fun w=>nomatch w⟩
  ·exact .inr (.inl z)
  ·exact .inr (.inr z)
 ·rcases q with ⟨_,q⟩|⟨z,_⟩
  ·cases q;rfl
  ·cases z
theorem len1 {α:Type}{us:List α}(h:us.length=1):∃a0,us=[a0]:=match us,h with|[a0],_=>⟨a0,rfl⟩
theorem len2 {α:Type}{us:List α}(h:us.length=2):∃a0 a1,us=[a0,a1]:=match us,h with|[a0,a1],_=>⟨a0,a1,rfl⟩
theorem len3 {α:Type}{us:List α}(h:us.length=3):∃a0 a1 a2,us=[a0,a1,a2]:=match us,h with|[a0,a1,a2],_=>⟨a0,a1,a2,rfl⟩
theorem len4 {α:Type}{us:List α}(h:us.length=4):∃a0 a1 a2 a3,us=[a0,a1,a2,a3]:=match us,h with|[a0,a1,a2,a3],_=>⟨a0,a1,a2,a3,rfl⟩
theorem len5 {α:Type}{us:List α}(h:us.length=5):∃a0 a1 a2 a3 a4,us=[a0,a1,a2,a3,a4]:=match us,h with|[a0,a1,a2,a3,a4],_=>⟨a0,a1,a2,a3,a4,rfl⟩
theorem len6 {α:Type}{us:List α}(h:us.length=6):∃a0 a1 a2 a3 a4 a5,us=[a0,a1,a2,a3,a4,a5]:=match us,h with|[a0,a1,a2,a3,a4,a5],_=>⟨a0,a1,a2,a3,a4,a5,rfl⟩
open PySem
theorem GR {i j:Int}(h1:-(2 ^ 64)<j)(h2:j<2 ^ 64):zc i j=true:=by
 simp only[zc,Bool.or_eq_true,Bool.and_eq_true,decide_eq_true_eq];exact Or.inr ⟨h1,h2⟩
theorem GS {i j:Int}(h1:-(2 ^ 64)<i)(h2:i<2 ^ 64):zc i j=true:=by
 simp only[zc,Bool.or_eq_true,Bool.and_eq_true,decide_eq_true_eq];exact Or.inl ⟨h1,h2⟩
theorem rO {i j:Int}(h1:-(2 ^ 64)<j)(h2:j<2 ^ 64):nZ (.int i) (.int j)=some (.int (i*j),false):=by
 unfold nZ;simp[GR h1 h2]
theorem BV {i j:Int}(h1:-(2 ^ 64)<i)(h2:i<2 ^ 64):nZ (.int i) (.int j)=some (.int (i*j),false):=by
 unfold nZ;simp[GS h1 h2]
theorem jq {i j:Int}(h:0<j):nv (.int i) (.int j)=some (.int (i%j),false):=by
 unfold nv;simp[h]
theorem rP {i j:Int}(h:0<j)(h2:j<1073741824):yn (.int i) (.int j)=some (.int (i/j),false):=by
 unfold yn;simp[h,h2]
theorem Ge:BU (.int 10) (.int 9)=some (.int 1000000000,false):=by
 simp[BU]
theorem FP:(0:Nat)<=sizeLine:=bw _
theorem Dh:(1:Nat)<=sizeLine:=by decide
theorem Bf:(2:Nat)<=sizeLine:=by decide
theorem Jn:(3:Nat)<=sizeLine:=by decide
theorem Jm:(4:Nat)<=sizeLine:=by decide
theorem sZ {n:Nat}(h:n<=1000000):n<=sizeLine:=bo h (by decide)
theorem zk {n:Nat}(h:n<1000000):n<sizeLine:=aF h (by decide)
theorem uq {f:LD}{g:BD}{ρ:Sl}{xs:List D}{n:Nat}(hf:f ρ=some xs)(hg:g ρ=some (.int (n:Int)))(h1:n<1000)(h2:xs.length*n<=sizeLine):qx f g ρ=some (.list (aH n xs).flatten,true):=by
 unfold qx;rw[hf,aa,hg,aa];dsimp only;rw[if_pos ⟨by omega,by omega,h2⟩];rfl
mutual
inductive Nb:Nat->D->Prop where
 |int (n:Nat) (i:Int):Nb n (.int i)
 |tuple {n:Nat}{ds:List D}:oG n ds->Nb (n+1) (.tuple ds)
 |list {n:Nat}{ds:List D}:oG n ds->Nb (n+1) (.list ds)
inductive oG:Nat->List D->Prop where
 |nil {n:Nat}:oG n []
 |cons {n:Nat}{d:D}{ds:List D}:Nb n d->oG n ds->oG n (d::ds)
end
theorem B5 {n:Nat}:∀{ds:List D},(∀d∈ds,Nb n d)->oG n ds
 |[],_=>.nil
 |d::ds,h=>.cons (h d (by simp)) (B5 fun e he=>h e (by simp[he]))
theorem jM {α:Type}{n:Nat}{f:α->D}(h:∀x,Nb n (f x))(xs:List α):oG n (xs.map f):=B5 fun d hd=>by
 obtain⟨x,_,rfl⟩:=List.mem_map.mp hd;exact h x
mutual
theorem Nb.lay {n:Nat}{d:D}:Nb n d->d.canLay0=true
 |.int _ _=>by simp[PyData.canLay0]
 |.tuple h=>by simp only[PyData.canLay0];exact oG.lay h
 |.list h=>by simp only[PyData.canLay0];exact oG.lay h
theorem oG.lay {n:Nat}{ds:List D}:oG n ds->PyData.canLayAll0 ds=true
 |.nil=>by simp[PyData.canLayAll0]
 |.cons h hs=>by simp[PyData.canLayAll0,Nb.lay h,oG.lay hs]
end
mutual
theorem Nb.deep {n:Nat}{d:D}:Nb n d->d.depth<=n
 |.int _ _=>by simp[PyData.depth]
 |.tuple h=>by have:=oG.deep h;simp only[PyData.depth];omega
 |.list h=>by have:=oG.deep h;simp only[PyData.depth];omega
theorem oG.deep {n:Nat}{ds:List D}:oG n ds->PyData.depthAll ds<=n
 |.nil=>by simp[PyData.depthAll]
 |.cons h hs=>by have:=Nb.deep h;have:=oG.deep hs;simp only[PyData.depthAll];omega
end
mutual
theorem Nb.mix {n m:Nat}{x y:D}:Nb n x->Nb m y->noMix x y=true
 |.int _ _,.int _ _=>by simp[noMix]
 |.int _ _,.tuple _=>by simp[noMix]
 |.int _ _,.list _=>by simp[noMix]
 |.tuple _,.int _ _=>by simp[noMix]
 |.list _,.int _ _=>by simp[noMix]
 |.tuple _,.list _=>by simp[noMix]
 |.list _,.tuple _=>by simp[noMix]
 |.tuple h,.tuple h'=>by simp only[noMix];exact oG.mix h h'
 |.list h,.list h'=>by simp only[noMix];exact oG.mix h h'
theorem oG.mix {n m:Nat}{xs ys:List D}:oG n xs->oG m ys->noMixAll xs ys=true
 |.nil,.nil=>by simp[noMixAll]
 |.nil,.cons _ _=>by simp[noMixAll]
 |.cons _ _,.nil=>by simp[noMixAll]
 |.cons h hs,.cons h' hs'=>by simp[noMixAll,Nb.mix h h',oG.mix hs hs']
end
mutual
theorem Nb.eq {n m:Nat}{x y:D}:Nb n x->Nb m y->same x y=true->x=y
 |.int _ _,.int _ _,h=>by simp[same] at h;rw[h]
 |.int _ _,.tuple _,h=>by simp[same] at h
 |.int _ _,.list _,h=>by simp[same] at h
 |.tuple _,.int _ _,h=>by simp[same] at h
 |.list _,.int _ _,h=>by simp[same] at h
 |.tuple _,.list _,h=>by simp[same] at h
 |.list _,.tuple _,h=>by simp[same] at h
 |.tuple q,.tuple q',h=>by simp only[same] at h;rw[oG.eq q q' h]
 |.list q,.list q',h=>by simp only[same] at h;rw[oG.eq q q' h]
theorem oG.eq {n m:Nat}{xs ys:List D}:oG n xs->oG m ys->sameAll xs ys=true->xs=ys
 |.nil,.nil,_=>rfl
 |.nil,.cons _ _,h=>by simp[sameAll] at h
 |.cons _ _,.nil,h=>by simp[sameAll] at h
 | .cons q qs,.cons q' qs',h=>by
  simp only[sameAll,Bool.and_eq_true] at h;rw[Nb.eq q q' h.1,oG.eq qs qs' h.2]
end
theorem Nb.shp {n:Nat}{d:D}(h:Nb n d)(hn:n<=64):shaped d=true:=by
 unfold shaped;rw[Bool.and_eq_true];have:=h.deep;exact⟨h.lay,decide_eq_true ⋯⟩
theorem ze {n m:Nat}{x y:D}(hx:Nb n x)(hy:Nb m y)(hn:n<=64:=by decide)(hm:m<=64:=by decide):nA x y=some (same x y):=by
 unfold nA;rw[hx.shp hn,hy.shp hm,hx.mix hy];rfl
theorem za {n m:Nat}{x y:D}(hx:Nb n x)(hy:Nb m y)(hn:n<=64:=by decide)(hm:m<=64:=by decide):uC x y=some (!same x y):=by
 unfold uC;rw[hx.shp hn,hy.shp hm,hx.mix hy];rfl
theorem pF {n:Nat}{x:D}(hx:Nb n x)(hn:n<=64:=by decide):nA x x=some true:=by rw[ze hx hx hn hn,same_self]
theorem C1 {n:Nat}{x:D}(hx:Nb n x)(hn:n<=64:=by decide):uC x x=some false:=by rw[za hx hx hn hn,same_self];rfl
theorem C3 {n m:Nat}{x y:D}(hx:Nb n x)(hy:Nb m y)(h:x≠y)(hn:n<=64:=by decide)(hm:m<=64:=by decide):nA x y=some false:=by
 rw[ze hx hy hn hm];cases e:same x y with
 |false=>rfl
 |true=>exact absurd (hx.eq hy e) h
theorem GQ {n m:Nat}{x y:D}(hx:Nb n x)(hy:Nb m y)(h:x≠y)(hn:n<=64:=by decide)(hm:m<=64:=by decide):uC x y=some true:=by
 rw[za hx hy hn hm];cases e:same x y with
 |false=>rfl
 |true=>exact absurd (hx.eq hy e) h
theorem fE (a b:Int):nA (.int a) (.int b)=some (decide (a=b)):=by
 rw[ze (.int 0 a) (.int 0 b)];simp only[same];by_cases e:a=b <;> simp[e]
theorem pE (a b:Int):uC (.int a) (.int b)=some (decide (a≠b)):=by
 rw[za (.int 0 a) (.int 0 b)];simp only[same];by_cases e:a=b <;> simp[e]
theorem kZ {α:Type}{g:GD}{e:ED}{ρ:Sl}{d β:α->D}:∀l:List α,(∀x∈l,∃ρ1 o,g (d x) ρ=some ρ1/\e ρ1=some (β x,o))->iD g fU e ρ (l.map d)=some (l.map β)
 |[],_=>rfl
 | x::l,h=>by
  obtain⟨ρ1,o,h1,h2⟩:=h x (by simp);rw[az,iD,h1,aa,fU,aa,if_pos rfl,h2,aa,kZ l fun y hy=>h y (by simp[hy])];rfl
theorem z6 {α:Type}{g:GD}{t:TD}{e:ED}{ρ:Sl}{d β:α->D}{c:α->Bool}:∀l:List α,(∀x∈l,∃ρ1,g (d x) ρ=some ρ1/\t ρ1=some (c x)/\(c x=true->∃o,e ρ1=some (β x,o)))->iD g t e ρ (l.map d)=some ((l.filter c).map β)
 |[],_=>rfl
 | x::l,h=>by
  obtain⟨ρ1,h1,h2,h3⟩:=h x (by simp);have ih:=z6 (g:=g) (t:=t) (e:=e) (ρ:=ρ) (d:=d) (β:=β) (c:=c) l fun y hy=>h y (by simp[hy]);rw[az,iD,h1,aa,h2,aa,ih];cases hc:c x with
  |false=>rw[if_neg Bool.false_ne_true,bC,hc,if_neg Bool.false_ne_true]
  |true =>
   obtain⟨o,h4⟩:=h3 hc;rw[if_pos rfl,h4,aa,bC,hc,if_pos rfl];rfl
theorem mD {α σ:Type}{g:GD}{b:SD}{P:σ->Sl->Prop}{f:σ->α->σ}{d:α->D}:∀(l:List α) (st:σ) (ρ:Sl),P st ρ->(∀x∈l,∀st ρ,P st ρ->∃ρ1 ρ2,g (d x) ρ=some ρ1/\b ρ1=some (.next ρ2)/\P (f st x) ρ2) →
  ∃ρ',eN g b (l.map d) ρ=some (.next ρ')/\P (l.foldl f st) ρ'
 |[],st,ρ,h,_=>⟨ρ,rfl,h⟩
 | x::l,st,ρ,h,k=>by
  obtain⟨ρ1,ρ2,h1,h2,h3⟩:=k x (by simp) st ρ h;obtain⟨ρ',h4,h5⟩:=mD (g:=g) (b:=b) l (f st x) ρ2 h3 fun y hy=>k y (by simp[hy]);refine⟨ρ',?_,h5⟩;rw[az,eN,h1,aa,h2,aa];exact h4
theorem jV {α:Type}{g:GD}{b:SD}{P:Sl->Prop}{ok:α->Bool}{r:Vl}{d:α->D}:∀(l:List α) (ρ:Sl),P ρ->(∀x∈l,∀ρ,P ρ->∃ρ1,g (d x) ρ=some ρ1/\if ok x=true then ∃ρ2,b ρ1=some (.next ρ2)/\P ρ2 else b ρ1=some (.ret r)) →
  if l.all ok=true then ∃ρ',eN g b (l.map d) ρ=some (.next ρ')/\P ρ' else eN g b (l.map d) ρ=some (.ret r)
 |[],ρ,h,_=>by rw[List.all_nil,if_pos rfl];exact⟨ρ,rfl,h⟩
 | x::l,ρ,h,k=>by
  obtain⟨ρ1,h1,h2⟩:=k x (by simp) ρ h;rw[List.all_cons];cases hx:ok x with
  |false =>
   rw[hx,if_neg Bool.false_ne_true] at h2;rw[Bool.false_and,if_neg Bool.false_ne_true,az,eN,h1,aa,h2];rfl
  |true =>
   rw[hx,if_pos rfl] at h2;obtain⟨ρ2,h3,h4⟩:=h2;have ih:=jV (g:=g) (b:=b) (ok:=ok) (r:=r) (d:=d) l ρ2 h4 fun y hy=>k y (by simp[hy]);rw[Bool.true_and,az,eN,h1,aa,h3,aa];exact ih
theorem kW {α:Type}(f:α->D):∀(xs:List α) (s:Nat),fJ s (xs.map f)=(xs.zipIdx s).map fun p=>.tuple [.int (p.2:Int),f p.1]
 |[],_=>rfl
 |x::xs,s=>by rw[az,fJ,kW f xs (s+1)];rfl
theorem oH {α β:Type}(f:α->D)(g:β->D):∀(xs:List α) (ys:List β),l5 (xs.map f) (ys.map g)=(xs.zip ys).map fun p=>.tuple [f p.1,g p.2]
 |[],_=>rfl
 |_::_,[]=>rfl
 |x::xs,y::ys=>by rw[az,az,l5,oH f g xs ys];rfl
theorem dA (n:Nat):fv 0 n=(ao n).map fun (k:Nat)=>.int (k:Int):=by
 unfold fv;simp
theorem uD {α:Type}(f:α->Bool):∀xs:List α,kL (xs.map fun x=>.bool (f x))=some (xs.map f)
 |[]=>rfl
 | x::xs=>by
  rw[az,kL,uD f xs];rfl
theorem qt {xs:List D}{i:Int}{d:D}(h0:0<=i)(h:xs[i.toNat]?=some d):sV xs i=some d:=by
 have hl:i.toNat<xs.length:=(List.getElem?_eq_some_iff.mp h).1;unfold sV vZ;rw[if_pos h0,if_pos ⋯,aa,h]
theorem dI {f:ED}{ρ:Sl}{j:Int}{o:Bool}(hf:f ρ=some (.int j,o))(h0:0<=j)(h1:j<=1000000):cS f ρ=some (fv 0 j.toNat):=by
 unfold cS;rw[hf,aa];dsimp only[xQ];rw[aa,if_pos ⟨by omega,by omega⟩]
theorem cL {a b:SD}{ρ ρ':Sl}(h:a ρ=some (.next ρ')):cH a b ρ=b ρ':=by
 rw[cH,h];rfl
theorem eG {α:Type}{it:AD}{n:Nat}{ix:List Nat}{g:GD}{e:ED}{ρ:Sl}{d β:α->D}(l:List α)(hi:it ρ=some (l.map d))(hz:l.length<=1000000)(h:∀x∈l,∃ρ1 o,g (d x) (eT n ix ρ)=some ρ1/\e ρ1=some (β x,o)):dD it n ix g fU e ρ=some (.list (l.map β),true):=by
 rw[dD,hi,aa,if_pos (sZ (by rw[af];exact hz)),kZ l h];rfl
theorem CQ {α:Type}{it:AD}{n:Nat}{ix:List Nat}{g:GD}{t:TD}{e:ED}{ρ:Sl}{d β:α->D}{c:α->Bool}(l:List α)(hi:it ρ=some (l.map d))(hz:l.length<=1000000)(h:∀x∈l,∃ρ1,g (d x) (eT n ix ρ)=some ρ1/\t ρ1=some (c x)/\(c x=true->∃o,e ρ1=some (β x,o))):dD it n ix g t e ρ=some (.list ((l.filter c).map β),true):=by
 rw[dD,hi,aa,if_pos (sZ (by rw[af];exact hz)),z6 l h];rfl
theorem mB {g:GD}{b:SD}{d:D}{ds:List D}{ρ ρ1 ρ2:Sl}(h1:g d ρ=some ρ1)(h2:b ρ1=some (.next ρ2)):eN g b (d::ds) ρ=eN g b ds ρ2:=by
 rw[eN,h1,aa,h2,aa]
theorem lE {α β:Type}{g:GD}{b:SD}{d:α->D}{f:α->β}{P:List β->Sl->Prop}(N:Nat):∀(l:List α) (acc:List β) (ρ:Sl),P acc ρ->acc.length+l.length<=N->(∀x∈l,∀acc ρ,P acc ρ->acc.length<N->∃ρ1 ρ2,g (d x) ρ=some ρ1/\b ρ1=some (.next ρ2)/\P (acc++[f x]) ρ2) →
  ∃ρ',eN g b (l.map d) ρ=some (.next ρ')/\P (acc++l.map f) ρ'
 |[],acc,ρ,h,_,_=>⟨ρ,rfl,by rw[bI,br];exact h⟩
 | x::l,acc,ρ,h,hn,k=>by
  rw[aJ] at hn;obtain⟨ρ1,ρ2,h1,h2,h3⟩:=k x (by simp) acc ρ h ⋯;obtain⟨ρ',h4,h5⟩:=lE (g:=g) (b:=b) N l (acc++[f x]) ρ2 h3 (by rw[aw,aP];omega) fun y hy=>k y (by simp[hy]);refine⟨ρ',?_,by rw[az];rw[ba] at h5;exact h5⟩;rw[az,mB h1 h2];exact h4
theorem lD {α β:Type}{g:GD}{b:SD}{d:α->D}{f:α->List β}{P:List β->Sl->Prop}(N:Nat):∀(l:List α) (acc:List β) (ρ:Sl),P acc ρ->acc.length+(l.flatMap f).length<=N->(∀x∈l,∀acc ρ,P acc ρ->acc.length+(f x).length<=N->∃ρ1 ρ2,g (d x) ρ=some ρ1/\b ρ1=some (.next ρ2)/\P (acc++f x) ρ2) →
  ∃ρ',eN g b (l.map d) ρ=some (.next ρ')/\P (acc++l.flatMap f) ρ'
 |[],acc,ρ,h,_,_=>⟨ρ,rfl,by rw[List.flatMap_nil,br];exact h⟩
 | x::l,acc,ρ,h,hn,k=>by
  rw[bM,aw] at hn;obtain⟨ρ1,ρ2,h1,h2,h3⟩:=k x (by simp) acc ρ h ⋯;obtain⟨ρ',h4,h5⟩:=lD (g:=g) (b:=b) N l (acc++f x) ρ2 h3 (by rw[aw];omega) fun y hy=>k y (by simp[hy]);refine⟨ρ',?_,by rw[bM];rw[ba] at h5;exact h5⟩;rw[az,mB h1 h2];exact h4
theorem eB {it:AD}{g:GD}{b:SD}{ρ:Sl}{ds:List D}(h:it ρ=some ds):eh it g b ρ=eN g b ds ρ:=by rw[eh,h,aa]
theorem yD {t:TD}{a b:SD}{ρ:Sl}(h:t ρ=some true):il t a b ρ=a ρ:=by rw[il,h,aa,if_pos rfl]
theorem Ck {t:TD}{a b:SD}{ρ:Sl}(h:t ρ=some false):il t a b ρ=b ρ:=by rw[il,h,aa,if_neg Bool.false_ne_true]
theorem ib {t:TD}{a b:SD}{ρ:Sl}(h:t ρ=some false):cH (il t a fk) b ρ=b ρ:=by
 rw[cH,Ck h];rfl
theorem iR {t:TD}{f:ED}{b c:SD}{ρ:Sl}{r:Vl}(h:t ρ=some true)(hr:f ρ=some r):cH (il t (dw f) c) b ρ=some (.ret r):=by
 rw[cH,yD h,dw,hr];rfl
end DL
namespace L2
open PySem PySem.Spec PyProof.Rows
section
variable {prog:Program}{w:World}{A:Around}{E:Value->Shared->Prop}{s:Shared}
theorem D9 {it l:Addr}{i:Nat}{its:Array Value}{x:Value}{Q:Value->Shared->Prop}(hi:s.heap.IsTupleIter it l i)(hl:s.heap.IsTuple l its)(hx:its[i]?=some x)
  (hQ:∀h',h'.IsTupleIter it l (i+1)->Heap.SameBut it s.heap h'->Q x { s with heap:=h' }):wpAny (model prog w) A (Builtin.SmallTypes.nextOf (.ref it)) Q E s:=by
 obtain⟨ob,hob,hcl,hdt⟩:=id hi;obtain⟨oL,hoL,_,nL,hdL⟩:=hl;unfold Builtin.SmallTypes.nextOf;refine ab (wpAny_callSpecial?_slot (name:=Str.ofString "__next__") hi.typeIs F.slot_tuple_iterator_next (wpAny_call_entry F.slot_tuple_iterator_next hi.typeIs F.entry_tuple_iterator_next ?_ (F.args_tuple_iterator_next_1 _)));show wpAny _ _ (field (.ref it) 0>>=_) _ _ s;refine ab (aV hob hdt (x:=.ref l) rfl ?_);show wpAny _ _ (if (Value.ref l==Value.none)=true then _ else _) _ _ s;rw[if_neg (show ¬((Value.ref l==Value.none)=true) from Bool.false_ne_true)];show wpAny _ _ (field (.ref it) 1>>=_) _ _ s;refine ab (aV hob hdt (x:=.int i 0) rfl ?_);show wpAny _ _ (seqItems? (.ref l)>>=_) _ _ s;refine ab (wpAny_seqItems hoL hdL ?_);simp only[aW,hx];refine ab (wpAny_setField hob hdt (by simp) (aq ⟨x,rfl,aq (hQ _ ?_ (Heap.SameBut.update ..))⟩));exact⟨_,Heap.get?_update_self _ hob (Obj.isFreed_of_fields (Obj.data_mapFields hdt _)),(Obj.cls_mapFields ..).trans hcl,by rw[Obj.data_mapFields hdt];simp[rawInt]⟩
theorem yq {it l:Addr}{i:Nat}{its:Array Value}{Q:Value->Shared->Prop}(hh:A.handled=none)(hi:s.heap.IsTupleIter it l i)(hl:s.heap.IsTuple l its)(hx:its[i]?=none)
  (hE:∀h' e,Heap.ExtBut it s.heap h'->(∃o,h'.get? e=some o/\o.cls=.type "StopIteration")->E (.ref e) { s with heap:=h' }):wpAny (model prog w) A (Builtin.SmallTypes.nextOf (.ref it)) Q E s:=by
 obtain⟨ob,hob,hcl,hdt⟩:=id hi;obtain⟨oL,hoL,_,nL,hdL⟩:=hl;unfold Builtin.SmallTypes.nextOf;refine ab (wpAny_callSpecial?_slot (name:=Str.ofString "__next__") hi.typeIs F.slot_tuple_iterator_next (wpAny_call_entry F.slot_tuple_iterator_next hi.typeIs F.entry_tuple_iterator_next ?_ (F.args_tuple_iterator_next_1 _)));show wpAny _ _ (field (.ref it) 0>>=_) _ _ s;refine ab (aV hob hdt (x:=.ref l) rfl ?_);show wpAny _ _ (if (Value.ref l==Value.none)=true then _ else _) _ _ s;rw[if_neg (show ¬((Value.ref l==Value.none)=true) from Bool.false_ne_true)];show wpAny _ _ (field (.ref it) 1>>=_) _ _ s;refine ab (aV hob hdt (x:=.int i 0) rfl ?_);show wpAny _ _ (seqItems? (.ref l)>>=_) _ _ s;refine ab (wpAny_seqItems hoL hdL ?_);simp only[aW,hx];refine ab (wpAny_rule (ab (wpAny_setField hob hdt (by simp) ?_)));show wpAny _ _ (newExc (.type "StopIteration") []>>=_) _ _ _;refine ab ?_;simp only[newExc,newTuple];refine ab (bW ?_ (by size_fits));refine ab (m:=firstArgMember _ _) (wpAny_of_eq (a:=Value.none) (by first|rfl|(simp only[firstArgMember];rfl)) ?_);refine bW ?_ (by size_fits);simp only[raiseNew];refine ab (wpAny_handled ?_)
 first|rw[show A.in1.handled=none from hh]|rw[hh]
 refine ab (aq (wpAny_throw ?_));exact hE _ _ (((Heap.SameBut.update ..).extBut.push _).push _) ⟨_,aD _ rfl,rfl⟩
end
def xM (h:Heap)(it l:Addr)(its:Array Value)(i:Nat):Prop:=(h.IsListIter it l i/\h.IsList l its)\/(h.IsTupleIter it l i/\h.IsTuple l its)
theorem xM.at {h h':Heap}{it l:Addr}{its:Array Value}{i:Nat}(x:xM h it l its i)(k:∀b,b=it\/b=l->∀o,h.get? b=some o->h'.get? b=some o):xM h' it l its i:=by
 rcases x with ⟨a,b⟩|⟨a,b⟩
 ·exact .inl ⟨a.at fun o e=>k it (.inl rfl) o e,b.at fun o e=>k l (.inr rfl) o e⟩
 ·exact .inr ⟨a.at fun o e=>k it (.inl rfl) o e,b.at fun o e=>k l (.inr rfl) o e⟩
theorem xM.live {h:Heap}{it l:Addr}{its:Array Value}{i:Nat}(x:xM h it l its i):∃o,h.get? it=some o/\(∃vs,o.data=.fields vs):=by
 rcases x with ⟨⟨o,e,_,d⟩,_⟩|⟨⟨o,e,_,d⟩,_⟩
 ·exact⟨o,e,_,d⟩
 ·exact⟨o,e,_,d⟩
theorem draws_sq {prog:Program}{w:World}{A:Around}(hh:A.handled=none)(it l:Addr)(hne:l≠it)(its:Array Value) :
  Draws prog w A it [it,l] its.size (fun i v=>its[i]?=some v) (fun i h=>xM h it l its i) where
 live:=fun _ _ st=>let ⟨o,e,_⟩:=st.live;⟨o,e⟩
 frame:=fun _ _ _ st hk=>st.at fun b hb o e=>hk b (by rcases hb with z|z <;> simp[z]) o e
 item:=fun i s Q E hi st hQ=>by
  have ge:its[i]?=some its[i]:=JE hi;rcases st with ⟨a,b⟩|⟨a,b⟩
  ·exact wpAny_nextOf_list_item a b ge fun h' a' hs=>hQ _ h' s.toks ge (.inl ⟨a',b.extBut hs.extBut hne⟩) hs
  ·exact D9 a b ge fun h' a' hs=>hQ _ h' s.toks ge (.inr ⟨a',b.at fun o e=>hs.extBut l o hne e⟩) hs
 done:=fun s Q E st hE=>by
  rcases st with ⟨a,b⟩|⟨a,b⟩
  ·exact wpAny_nextOf_list_end hh a b (by simp) hE
  ·exact yq hh a b (by simp) hE
theorem cT.turnedLay {X:Cx}{pins:List (Addr×Obj)}{σ:St}{H:Hp}{s:Shared}{h':Heap}{t':Nat}{fp:List Addr}{T:Addr}{xs:List V}(I:cT X pins σ H s)(k:∀b o,b∉fp->s.heap.get? b=some o->h'.get? b=some o)
  (th:∀b∈fp,∃o,h'.get? b=some o) (hf:∀b∈fp,sT X pins H b) (hT:s.heap.objs.size<=T) (new:ObjOk X.prog X.w (eA H T (.tup xs)) h' T (.tup xs)) :
  cT X pins σ (eA H T (.tup xs)) { s with heap:=h',toks:=t' }:=by
 have fresh:H T=none:=I.hok.fresh hT;have nfp:∀b u,H b=some u->b∉fp:=fun b u e z=>by rw[(hf b z).1] at e;cases e
 have nT:∀b o,s.heap.get? b=some o->b≠T:=fun b o e=>aO (aF (aB e) hT);refine I.step (g':=s.gens) (d':=s.drawn) (ch:=fp) (fun b hb=>?_) (fun b o _ _ hc e _=>k b o hc e) (fun b o _ _ hc e _=>⟨o.slots,k b o hc e⟩) (fun b o _ e n=>by rw[cG (nT b o e)];exact n)
  (fun b o hc e=>⟨o,k b o hc e⟩) (fun b ys e=>by rw[cG (cI e fresh)];exact e) (fun b o u e=>by rw[cG (cI e fresh)];exact e)
  (fun b ps e=>⟨#[],by rw[cG (cI e fresh),e];simp⟩) (fun m hm=>?_) (fun b u e=>?_) I.bare
 ·obtain⟨_,f1,f2,f3,f4,f5⟩:=hf b hb;exact⟨f3,f1,f4,f5⟩
 ·obtain⟨o,es,ep,ho,r⟩:=hm;exact⟨o,es,ep,k _ o (fun z=>(hf _ z).2.1 rfl) ho,r⟩
 ·by_cases hb:b=T
  ·subst hb;rw[cO] at e;cases e;exact new
  ·rw[cG hb] at e;refine (I.hok b u e).stay (fun c v hc q=>k c v ?_ q) (fun c q=>by rw[cG (cI q fresh)];exact q) fun c ys q=>by rw[cG (cI q fresh)];exact q
   rcases hc with z|z
   ·rw[z];exact nfp b u e
   ·exact nfp c _ z
theorem sz2':(2:Nat)<=sizeLine:=by decide
def iM (kd:Bool)(K:PySem.W.Frag)(H:Hp)(a:Addr)(xs:List V):Prop:=if kd=true then jT K H a xs else jw K H a xs
def ItK (kd:Bool)(h:Heap)(it a:Addr)(i:Nat):Prop:=if kd=true then h.IsListIter it a i else h.IsTupleIter it a i
def kF (kd:Bool)(h:Heap)(a:Addr)(its:Array Value):Prop:=if kd=true then h.IsList a its else h.IsTuple a its
theorem ItK.with {kd:Bool}{h:Heap}{it a:Addr}{i:Nat}{its:Array Value}(x:ItK kd h it a i)(y:kF kd h a its):xM h it a its i:=by
 cases kd
 ·exact .inr ⟨x,y⟩
 ·exact .inl ⟨x,y⟩
theorem ItK.at {kd:Bool}{h h':Heap}{it a:Addr}{i:Nat}(x:ItK kd h it a i)(k:∀o,h.get? it=some o->h'.get? it=some o):ItK kd h' it a i:=by
 cases kd
 ·exact Heap.IsTupleIter.at (show h.IsTupleIter it a i from x) k
 ·exact Heap.IsListIter.at (show h.IsListIter it a i from x) k
theorem ItK.obj {kd:Bool}{h:Heap}{it a:Addr}{i:Nat}(x:ItK kd h it a i):∃o,h.get? it=some o/\∀v,o.data≠.cell v:=by
 cases kd
 ·obtain⟨o,e,_,d⟩:=(show h.IsTupleIter it a i from x);exact⟨o,e,fun v z=>by rw[d] at z;cases z⟩
 ·obtain⟨o,e,_,d⟩:=(show h.IsListIter it a i from x);exact⟨o,e,fun v z=>by rw[d] at z;cases z⟩
theorem ItK.of {kd:Bool}{h:Heap}{it a:Addr}{i:Nat}{its:Array Value}(x:xM h it a its i)(y:kF kd h a its):ItK kd h it a i:=by
 cases kd
 ·rcases x with ⟨p,q⟩|⟨p,_⟩
  ·obtain⟨o,e,c,_⟩:=q;obtain⟨o',e',c',_⟩:=(show h.IsTuple a its from y);rw[e] at e';cases e';rw[c] at c';exact absurd c' (by decide)
  ·exact p
 ·rcases x with ⟨p,_⟩|⟨p,q⟩
  ·exact p
  ·obtain⟨o,e,c,_⟩:=q;obtain⟨o',e',c',_⟩:=(show h.IsList a its from y);rw[e] at e';cases e';rw[c] at c';exact absurd c' (by decide)
section
variable {X:Cx}{pins:List (Addr×Obj)}{σ:St}{H:Hp}{s:Shared}{a:Addr}{xs ys:List V}{kd:Bool}
theorem cT.seqK (I:cT X pins σ H s)(h:iM kd X.K H a xs):∃its:List Value,cY xs its/\kF kd s.heap a its.toArray/\xs.length<=sizeLine:=by
 cases kd
 ·obtain⟨its,r,p,z⟩:=I.tuple (show jw X.K H a xs from h);exact⟨its,r,p,z⟩
 ·obtain⟨its,r,p,z⟩:=I.list (show jT X.K H a xs from h);exact⟨its,r,p.isList,z⟩
theorem cT.seqK_inj (I:cT X pins σ H s)(h:iM kd X.K H a xs)(h':iM kd X.K H a ys):xs=ys:=by
 cases kd
 ·exact I.tuple_inj (show jw X.K H a xs from h) h'
 ·exact I.list_inj (show jT X.K H a xs from h) h'
theorem kF.at {h h':Heap}{its:Array Value}(x:kF kd h a its)(k:∀o,h.get? a=some o->h'.get? a=some o):kF kd h' a its:=by
 cases kd
 ·exact Heap.IsTuple.at (show h.IsTuple a its from x) k
 ·exact Heap.IsList.at (show h.IsList a its from x) k
theorem kF.lt {h:Heap}{its:Array Value}(x:kF kd h a its):a<h.objs.size:=by
 cases kd
 ·obtain⟨o,e,_⟩:=(show h.IsTuple a its from x);exact aB e
 ·obtain⟨o,e,_⟩:=(show h.IsList a its from x);exact aB e
end
noncomputable def Ite (K:PySem.W.Frag)(kd:Bool)(a:Addr):It :=
 ⟨fun i H=>∃xs x,iM kd K H a xs/\xs[i]?=some x,fun i H v H'=>∃T x,v=.ref T/\H T=none/\H'=eA H T (.tup [.int i,x])/\∀xs,iM kd K H a xs->xs[i]?=some x,fun i H=>∃xs,iM kd K H a xs/\xs.length=i⟩
theorem Cz {h:Heap}{e it:Addr}{i:Int}{old:Value}(x:IsEnum h e it i old):∃o,h.get? e=some o/\∀v,o.data≠.cell v:=⟨_,x,fun v z=>by cases z⟩
theorem Ah {P:Program}{w:World}{K:PySem.W.Frag}{tes:List Expr}{tk:Nat}{tp:Pos}{kd:Bool}(a e it:Addr)(hne:e≠it)(hae:a≠e)(hai:a≠it) :
  Turn P w K (.Tuple tes tk tp) (Ite K kd a) [e,it] e (fun i h=>(∃old,IsEnum h e it i old)/\ItK kd h it a i) where
 mem:=by simp
 obj:=fun i h ⟨⟨old,x⟩,y⟩ b hb=>by
  rcases List.mem_cons.mp hb with z|z
  ·subst z;exact Cz x
  ·have z':b=it:=by simpa using z
   subst z';exact y.obj
 keep:=fun i h h' ⟨⟨old,x⟩,y⟩ k=>⟨⟨old,k e (by simp) _ x⟩,y.at fun o q=>k it (by simp) o q⟩
 item:=by
  rintro X hP hw hK hc i pins s σ H E I hf ⟨⟨old,x⟩,y⟩ ⟨xs,v,hq,hv⟩;subst hP hw hK;obtain⟨its,rv,ob,hz⟩:=I.seqK hq;obtain⟨u,hu,ru⟩:=rv.get hv;have hi:i<its.toArray.size:=by rw[aE];exact (List.getElem?_eq_some_iff.mp hu).1
  have D:=draws_sq (prog:=X.prog) (w:=X.w) (A:=X.A.in1) (I.ok.hd hc) it a hai its.toArray;refine wpAny_pyNext_enum_itemD D x (y.with ob) hi hne (by simp[hne,Ne.symm hae]) fun u' h' tk hP ho st' hT hsz hk=>?_;have eu:u'=u:=by
   have:its[i]?=some u':=by simpa using hP
   rw[hu] at this;exact (Option.some.inj this).symm
  subst eu;have ob':kF kd h' a its.toArray:=ob.at fun o q=>hk a o hae hai q;refine⟨_,rfl,?_⟩;have I1:cT X pins σ (eA H s.heap.objs.size (.tup [.int i,v])) { s with heap:=h',toks:=tk+1 }:=by
   refine I.turnedLay (fp:=[e,it]) (fun b o hb q=>hk b o (fun z=>hb (by simp[z])) (fun z=>hb (by simp[z])) q) (fun b hb=>?_) hf (aC _) ⟨sz2',[.int i tk,u'],.cons ⟨_,rfl⟩ (.cons ru .nil),⟨_,hT,rfl,_,rfl⟩⟩;rcases List.mem_cons.mp hb with z|z
   ·subst z;exact⟨_,ho⟩
   ·have z':b=it:=by simpa using z
    subst z';obtain⟨o,q,_⟩:=st'.live;exact⟨o,q⟩
  have fr:H s.heap.objs.size=none:=I.hok.fresh (aC _);have fe:=hf e (by simp);have elt:e<s.heap.objs.size:=aB x;refine wpAny_letOwnedTupleGo_enum (s:={ s with heap:=h',toks:=tk+1 }) ho fun h2 he2 hs2=>?_;have I2:cT X pins σ (eA H s.heap.objs.size (.tup [.int i,v])) { s with heap:=h2,toks:=tk+1 } :=
   cT.turned (s:={ s with heap:=h',toks:=tk+1 }) (it:=e) (t':=tk+1) I1 (fun b o hb q=>(hs2.2 b hb).trans q) (by rw[cG (aO elt)];exact fe.1) fe.2.1 fe.2.2.2.1 fe.2.2.2.2.1 fe.2.2.2.2.2
  refine⟨.ref s.heap.objs.size,_,I2,rfl,⟨_,v,rfl,fr,rfl,fun ys hy=>?_⟩,⟨⟨_,by simpa using he2⟩,(ItK.of st' ob').at fun o q=>(hs2.2 it (Ne.symm hne)).trans q⟩,fun b hb=>?_⟩
  ·rw[I.seqK_inj hy hq];exact hv
  ·have hb':H b=none:=(hf b hb).1;have blt:b<s.heap.objs.size:=by
    rcases List.mem_cons.mp hb with z|z
    ·rw[z];exact elt
    ·have z':b=it:=by simpa using z
     obtain⟨o,q,_⟩:=y.obj;rw[z'];exact aB q
   rw[cG (aO blt)];exact hb'
 done:=by
  rintro X hP hw hK hc i pins s σ H E I hf ⟨⟨old,x⟩,y⟩ ⟨xs,hq,hl⟩;subst hP hw hK;obtain⟨its,rv,ob,hz⟩:=I.seqK hq;have ei:i=its.toArray.size:=by rw[aE,<-rv.length];exact hl.symm
  have D:=draws_sq (prog:=X.prog) (w:=X.w) (A:=X.A.in1) (I.ok.hd hc) it a hai its.toArray;obtain⟨f0,f1,f2,f3,f4,f5⟩:=hf it (by simp);have st:=y.with ob
  rw[ei] at st;exact wpAny_pyNext_enum_endD D x st fun h' eb=>⟨rfl,I.turned (t':=s.toks) (fun b o hb q=>eb b o hb q) f0 f1 f3 f4 f5⟩
 self:=fun _ _ _ _ _ ⟨⟨old,x⟩,_⟩ h=>wpAny_pyIter_enum x h
open AutoSeq1 (wpAny_loadPart')
noncomputable abbrev wj (l:Addr):Obj:={ cls:=.type "tuple_iterator", data:=.fields #[.ref l,.int 0 0] }
noncomputable abbrev yL (it:Addr):Obj:={ cls:=.type "enumerate", data:=.fields #[.none,.bool false,.ref it,rawInt 0,.none,.none] }
set_option maxRecDepth 100000 in
theorem A0 (l:Addr)(its:Array Value)(n:Nat)(dct:Option Addr)(sl:Array (Option Value)) :
  Meets (Builtin.«enumerate.__new__» ⟨[.type "enumerate", .ref l],[]⟩) (fun _ R s=>s.heap.get? l=some { cls:=.type "tuple", dict:=dct,data:=.seq its n,slots:=sl } ∧
   R (.ok (.ret (.ref (s.heap.push (wj l)).objs.size))) { s with heap:=(s.heap.push (wj l)).push (yL s.heap.objs.size) }) :=
 .of_wp fun prog w A R s h=>by
  obtain⟨hp,g,d,tk,os⟩:=s;obtain⟨hl,h⟩:=h;have hsub:=sub_enumerate;have hTu:Heap.IsTuple (Shared.heap ⟨hp,g,d,tk,os⟩) l its:=⟨_,hl,rfl,n,rfl⟩
  wp_walk using wpAny_loadPart' hl
  refine wpAny_stack_any fun stk=>aq ?_;split
  ·rename_i c _ _ _ _ _;cases (c==Value.type "enumerate")
   ·wp_walk using wpAny_loadPart' hl,wpAny_pyIter_tuple hTu
    exact⟨_,rfl,h⟩
   ·wp_walk using wpAny_loadPart' hl,wpAny_pyIter_tuple hTu
    exact⟨_,rfl,h⟩
  ·wp_walk using wpAny_loadPart' hl,wpAny_pyIter_tuple hTu
   exact⟨_,rfl,h⟩
theorem yZ {prog:Program}{w:World}{A:Around}{E:Value->Shared->Prop}{s:Shared}{kd:Bool}{l:Addr}{its:Array Value}{Q:Value->Shared->Prop}(ob:kF kd s.heap l its)
  (h:∀h',IsEnum h' (s.heap.objs.size+1) s.heap.objs.size 0 .none->ItK kd h' s.heap.objs.size l 0->(∀b o,s.heap.get? b=some o->h'.get? b=some o)->Q (.ref (s.heap.objs.size+1)) { s with heap:=h' }) :
  wpAny (model prog w) A (call (.type "enumerate") [.ref l]) Q E s:=by
 cases kd
 ·obtain⟨⟨c,dct,dt,sl⟩,hl,hc,n,hd⟩:=(show s.heap.IsTuple l its from ob);have hc':c=.type "tuple" := hc;have hd':dt=.seq its n:=hd;subst hc' hd';refine callType_new F.called_enumerate (by decide) (F.typeCall_enumerate_1 _) (F.newCall_enumerate_1 _) (fun obj=>F.args_object_init_2 obj _) F.entry_enumerate_new (A0 l its n dct sl) ⟨hl,?_⟩;have hz:(s.heap.push (wj l)).objs.size=s.heap.objs.size+1:=bp ..;show _/\_;rw[hz];have he:IsEnum ((s.heap.push (wj l)).push (yL s.heap.objs.size)) (s.heap.objs.size+1) s.heap.objs.size 0 .none:=by
   have q:=aD (s.heap.push (wj l)) (o:=yL s.heap.objs.size) rfl;rw[hz] at q;exact q
  exact⟨⟨_,he,rfl⟩,h _ he ⟨_,ae _ (aD _ rfl),rfl,rfl⟩ fun b o x=>ae _ (ae _ x)⟩
 ·exact call_enumerate_list (show s.heap.IsList l its from ob) fun h' he hi _ hk=>h h' he hi hk
section
variable {X:Cx}{l:Expr}{tl:TE}{p pos tp:Pos}{tes:List Expr}{tk:Nat}
noncomputable def IM (K:PySem.W.Frag)(ta:TA):TI:=fun σ H R=>ta σ H fun vs H1=>∃kd a,vs=[.ref a]/\(∃xs,iM kd K H1 a xs)/\R (Ite K kd a) H1
theorem pi_enum {ta:TA}(hg:Gl X "enumerate")(hm:X.mg "enumerate" = none)(ha:PA X [l] ta)(hs:starEach [l] X.env=[(false,eval l X.env)]:=by rfl):PI X (.Tuple tes tk tp) (.Call (.Name "enumerate" p) [l] [] pos) (IM X.K ta):=by
 intro pins s σ H R I h;refine Call_ (ld_blt I hg hm boot_enumerate (PyProof.Rows.callWith_type1 (thn (ha pos pins s σ H _ I h) fun us s1 ⟨vs,H1,I1,r1,q1⟩=>?_) hs rfl));obtain⟨kd,a,e,⟨xs,hq⟩,q⟩:=q1;subst e;obtain⟨u,rfl,ru⟩:=cY.one r1;cases ru;obtain⟨its,rv,ob,hz⟩:=I1.seqK hq;refine yZ ob fun h' he hi hk=>?_;have I2:cT X pins σ H1 { s1 with heap:=h' }:=I1.kept (t':=s1.toks) hk;have alt:=ob.lt;refine wpAny_pyIter_enum he ⟨_,_,_,_,H1,rfl,I2,Ah (kd:=kd) a (s1.heap.objs.size+1) s1.heap.objs.size (Nat.succ_ne_self _) (aO (Nat.lt_succ_of_lt alt)) (aO alt),⟨⟨_,he⟩,hi⟩,fun b hb=>?_,q⟩;rcases List.mem_cons.mp hb with z|z
 ·subst z;exact I1.fpOk (JA _) (I1.hok.fresh (JA _))
 ·have z':b=s1.heap.objs.size:=by simpa using z
  subst z';exact I1.fpOk (aC _) (I1.hok.fresh (aC _))
end
end L2
namespace DL
open PySem PySem.Spec PySem.SeqAt
open L2 (V Hp St HO VK TE TT TA TS TI TG Cx cT PE PT PA PS PSs PI PG jw jT dq eA cO cG cI cY dX EP TP AP SP jU It iM)
theorem ui:∀(ds:List D) (k i:Nat) (d:D),(fJ k ds)[i]?=some d->∃e,ds[i]?=some e/\d=.tuple [.int ((k+i:Nat):Int),e]
 |[],k,i,d,h=>by simp[fJ] at h
 |e::ds,k,0,d,h=>by simp[fJ] at h;exact⟨e,rfl,by simp[h]⟩
 | e::ds,k,i+1,d,h=>by
  have h':(fJ (k+1) ds)[i]?=some d:=by simpa [fJ] using h
  obtain⟨e',h1,h2⟩:=ui ds (k+1) i d h';exact⟨e',by simpa using h1,by rw[h2,show k+1+i=k+(i+1) by omega]⟩
theorem uh:∀(ds:List D) (k:Nat),(fJ k ds).length=ds.length
 |[],_=>rfl
 |_::ds,k=>by simp[fJ,uh ds]
theorem AQ {K:Fg}{H:Hp}{M O:List Addr}{a:Addr}{kd:Bool}{ds:List D}{vs:List V}(h:∀O' H',iZ M O H O' H'->iM kd K H' a vs)(q:Rs K H O ds vs):mU K (L2.Ite K kd a) (fJ 0 ds) M O H:=by
 intro O2 H2 x;have h2:=h _ _ x;have q2:=q.ext x;refine⟨fun i d e=>?_,vs,h2,by rw[uh,q.length]⟩;obtain⟨e',he,rfl⟩:=ui ds 0 i d e;obtain⟨v,ev,rv⟩:=q2.get he;refine⟨⟨vs,v,h2,ev⟩,fun y H3 ⟨T,z,ey,hT,eH,hz⟩=>?_⟩;subst ey eH;have:=hz vs h2;rw[ev] at this;cases this;have s2:dq H2 (eA H2 T (.tup [.int (i:Int),v])):=fun b o e=>by rw[cG (cI e hT)];exact e
 refine⟨s2,.tuple (.inl (.inl cO)) (.cons ?_ (.cons (rv.same s2) .nil))⟩;rw[show (0+i:Nat)=i by omega];exact .int _
section
variable {X:Cx}{e:Expr}{f:AD}{p pos tp:Pos}{tes:List Expr}{tk:Nat}
theorem kB (hm:X.mg "enumerate" = none)(h:DQ X e f)(hg:L2.Gl X "enumerate" := by rfl)(hs:starEach [e] X.env=[(false,eval e X.env)]:=by rfl):DI X (.Tuple tes tk tp) (.Call (.Name "enumerate" p) [e] [] pos) (fO f) :=
 (L2.pi_enum hg hm (L2.pa_cons h L2.pa_nil hs) hs).imp fun σ H Q zz=>by
  obtain ⟨ρ,O,M,lad,zs,hE,hf,k⟩:=zz;unfold fO at hf;cases hr:f ρ with
  |none=>rw[hr] at hf;cases hf
  |some ds =>
   rw[hr,av] at hf;cases hf;refine⟨ρ,O,M,lad,ds,hE,hr,fun v H1 kd s1 ⟨a,vs,ev,qs,st⟩=>?_⟩;subst ev;exact⟨kd,a,rfl,⟨vs,st _ _ (iZ.id M O H1 (hE.same s1).sub)⟩,k _ H1 s1 (AQ (kd:=kd) (fun O' H' x=>st O' H' x) qs)⟩
end
end DL
namespace L2
open PySem PySem.Spec PyProof.Rows
structure Fq (z TI TO i1 i2:Addr):Prop where
 a1:TI≠z
 a2:TO≠z
 a3:i1≠z
 a4:i2≠z
 a5:TI≠TO
 a6:TI≠i1
 a7:TI≠i2
 a8:TO≠i1
 a9:TO≠i2
 b1:i1≠i2
section
variable {prog:Program}{w:World}{A:Around}{E:Value->Shared->Prop}{s:Shared}{z TI TO i1 i2:Addr}{n1 n2 k:Nat}{fp1 fp2:List Addr}{P1 P2:Nat->Value->Prop}{S1 S2:Nat->Heap->Prop}
theorem zipItem {a b:Value}{Q:Value->Shared->Prop}(Z:Fq z TI TO i1 i2)(D1:Draws prog w A i1 fp1 n1 P1 S1)(D2:Draws prog w A i2 fp2 n2 P2 S2)(f1:z∉fp1/\TO∉fp1/\i2∉fp1)(f2:z∉fp2/\TO∉fp2/\i1∉fp2)
  (hz:IsZip s.heap z TI TO .none) (hTI:IsPair s.heap TI (.ref i1) (.ref i2)) (hTO:IsPair s.heap TO a b) (t1:S1 k s.heap) (t2:S2 k s.heap) (l1:k<n1) (l2:k<n2)
  (hQ:∀x y h' tk,P1 k x->P2 k y->IsZip h' z TI TO (rawInt s.heap.objs.size)->IsPair h' TO x y->S1 (k+1) h'->S2 (k+1) h'->IsPair h' s.heap.objs.size x y →
   (∀c o,c≠z->c≠TO->c≠i1->c≠i2->s.heap.get? c=some o->h'.get? c=some o)->Q (.ref s.heap.objs.size) { s with heap:=h',toks:=tk }) :
  wpAny (model prog w) A (Builtin.«zip.__next__» ⟨[.ref z],[]⟩) (fun fin s'=>∃v,fin=.done (.ret v)/\Q v s') E s:=by
 show wpAny _ _ (field (.ref z) 2>>=_) _ _ _;refine ab (aV hz rfl (x:=.bool false) rfl ?_);show wpAny _ _ (field (.ref z) 3>>=_) _ _ _;refine ab (aV hz rfl (x:=.ref TI) rfl ?_);refine ab (wpAny_seqItems hTI rfl ?_);show wpAny _ _ (Builtin.SmallTypes.ownedTupleIsFree (.ref z)>>=_) _ _ _;refine ab ?_;unfold Builtin.SmallTypes.ownedTupleIsFree;refine ab (aV hz rfl (x:=.none) rfl (aq ?_));simp only[if_true];refine ab (wpAny_rule ?_);refine ab (aV hz rfl (x:=.ref TO) rfl ?_);refine ab (aT hz (by simp) fun g1 hz1 e1=>?_);have hz1':IsZip g1 z TI TO .ellipsis:=hz1;refine ab ?_;simp only[JC,JN,bV,JB];refine ab (ab (wpAny_onRaise ?_));show wpAny _ _ (Builtin.SmallTypes.nextOf (.ref i1)>>=_) _ _ _;have t1':S1 k g1:=D1.frame _ _ _ t1 fun c hc o q=>e1.extBut c o (fun w'=>f1.1 (w'▸hc)) q;refine ab (D1.item k _ _ _ l1 t1' fun x g2 tk2 px u1 e2=>aq ?_);have hTO2:IsPair g2 TO a b:=e2.extBut _ _ Z.a8 (e1.extBut _ _ Z.a2 hTO);refine ab (wpAny_seqItems hTO2 rfl ?_);refine ab (wpAny_updateSeq_pair hTO2 fun g3 hTO3 e3=>?_);have hTO3':IsPair g3 TO x b:=hTO3;refine ab (wpAny_letGo (aq ?_));refine ab (ab (wpAny_onRaise ?_));show wpAny _ _ (Builtin.SmallTypes.nextOf (.ref i2)>>=_) _ _ _;have t2':S2 k g3:=D2.frame _ _ _ t2 fun c hc o q=>e3.extBut c o (fun w'=>f2.2.1 (w'▸hc)) (e2.extBut c o (fun w'=>f2.2.2 (w'▸hc)) (e1.extBut c o (fun w'=>f2.1 (w'▸hc)) q));refine ab (D2.item k _ _ _ l2 t2' fun y g4 tk4 py u2 e4=>aq ?_);have hTO4:IsPair g4 TO x b:=e4.extBut _ _ Z.a9 hTO3';refine ab (wpAny_seqItems hTO4 rfl ?_);refine ab (wpAny_updateSeq_pair hTO4 fun g5 hTO5 e5=>?_);have hTO5':IsPair g5 TO x y:=hTO5;refine ab (wpAny_letGo (aq (aq ?_)));refine ab (wpAny_seqItems hTO5' rfl ?_);refine ab (wpAny_newTuple ?_);have hsz:g5.objs.size=s.heap.objs.size:=by rw[e5.1,e4.1,e3.1,e2.1,e1.1]
 have hz5:IsZip g5 z TI TO .ellipsis:=e5.extBut _ _ Z.a2.symm (e4.extBut _ _ Z.a4.symm (e3.extBut _ _ Z.a2.symm (e2.extBut _ _ Z.a3.symm hz1')));have hk5:∀c o,c≠z->c≠TO->c≠i1->c≠i2->s.heap.get? c=some o->g5.get? c=some o:=fun c o c1 c2 c3 c4 q =>
  e5.extBut _ _ c2 (e4.extBut _ _ c4 (e3.extBut _ _ c2 (e2.extBut _ _ c3 (e1.extBut _ _ c1 q))))
 have v1:S1 (k+1) g5:=D1.frame _ _ _ u1 fun c hc o q=>e5.extBut c o (fun w'=>f1.2.1 (w'▸hc)) (e4.extBut c o (fun w'=>f1.2.2 (w'▸hc)) (e3.extBut c o (fun w'=>f1.2.1 (w'▸hc)) q));have v2:S2 (k+1) g5:=D2.frame _ _ _ u2 fun c hc o q=>e5.extBut c o (fun w'=>f2.2.1 (w'▸hc)) q;have zlt:z<g5.objs.size:=aB hz5;show wpAny _ _ (Builtin.SmallTypes.ownedTupleHandOut (.ref z) (.ref g5.objs.size)>>=_) _ _ _;refine ab ?_;unfold Builtin.SmallTypes.ownedTupleHandOut;have hz6:IsZip (g5.push { cls:=.type "tuple", data:=.seq #[x,y] }) z TI TO .ellipsis:=ae _ hz5;refine ab (aT hz6 (by simp) fun g7 hz7 e7=>?_);have hz7':IsZip g7 z TI TO (rawInt g5.objs.size):=hz7;refine aT hz7' (by simp) fun g8 hz8 e8=>?_;have hz8':IsZip g8 z TI TO (rawInt g5.objs.size):=hz8;have up:∀c o,c≠z->g5.get? c=some o->g8.get? c=some o:=fun c o c1 q=>e8.extBut _ _ c1 (e7.extBut _ _ c1 (ae _ q));have hT8:IsPair g8 g5.objs.size x y:=e8.extBut _ _ (bj zlt) (e7.extBut _ _ (bj zlt) (aD _ rfl));rw[hsz] at hz8' hT8;refine aq ⟨_,rfl,?_⟩;show Q (.ref g5.objs.size) _;rw[hsz];exact hQ x y g8 _ px py hz8' (up _ _ Z.a2 hTO5') (D1.frame _ _ _ v1 fun c hc o q=>up c o (fun w'=>f1.1 (w'▸hc)) q) (D2.frame _ _ _ v2 fun c hc o q=>up c o (fun w'=>f2.1 (w'▸hc)) q) hT8 fun c o c1 c2 c3 c4 q=>up c o c1 (hk5 c o c1 c2 c3 c4 q)
theorem zipEnd {a b:Value}{Q:Fin->Shared->Prop}(Z:Fq z TI TO i1 i2)(D1:Draws prog w A i1 fp1 n1 P1 S1)(D2:Draws prog w A i2 fp2 n2 P2 S2)(f1:z∉fp1/\TO∉fp1/\i2∉fp1)(f2:z∉fp2/\TO∉fp2/\i1∉fp2)
  (hz:IsZip s.heap z TI TO .none) (hTI:IsPair s.heap TI (.ref i1) (.ref i2)) (hTO:IsPair s.heap TO a b) (t1:S1 k s.heap) (t2:S2 k s.heap) (hend:k=n1\/(k<n1/\k=n2))
  (hE:∀h' tk e,(∀c o,c≠z->c≠TO->c≠i1->c≠i2->s.heap.get? c=some o->h'.get? c=some o)->(∃o,h'.get? e=some o/\o.cls=.type "StopIteration")->E (.ref e) { s with heap:=h',toks:=tk }) :
  wpAny (model prog w) A (Builtin.«zip.__next__» ⟨[.ref z],[]⟩) Q E s:=by
 show wpAny _ _ (field (.ref z) 2>>=_) _ _ _;refine ab (aV hz rfl (x:=.bool false) rfl ?_);show wpAny _ _ (field (.ref z) 3>>=_) _ _ _;refine ab (aV hz rfl (x:=.ref TI) rfl ?_);refine ab (wpAny_seqItems hTI rfl ?_);show wpAny _ _ (Builtin.SmallTypes.ownedTupleIsFree (.ref z)>>=_) _ _ _;refine ab ?_;unfold Builtin.SmallTypes.ownedTupleIsFree;refine ab (aV hz rfl (x:=.none) rfl (aq ?_));simp only[if_true];refine ab (wpAny_rule ?_);refine ab (aV hz rfl (x:=.ref TO) rfl ?_);refine ab (aT hz (by simp) fun g1 hz1 e1=>?_);have hz1':IsZip g1 z TI TO .ellipsis:=hz1;refine ab ?_;simp only[JC,JN,bV,JB];refine ab (ab (wpAny_onRaise ?_));show wpAny _ _ (Builtin.SmallTypes.nextOf (.ref i1)>>=_) _ _ _;have t1':S1 k g1:=D1.frame _ _ _ t1 fun c hc o q=>e1.extBut c o (fun w'=>f1.1 (w'▸hc)) q;rcases hend with rfl|⟨l1,rfl⟩
 ·refine ab (D1.done _ _ _ t1' fun g2 ex e2 he=>?_);obtain⟨oe,hoe,hce⟩:=he;have hz2:IsZip g2 z TI TO .ellipsis:=e2 _ _ Z.a3.symm hz1';have hez:ex≠z:=fun q=>by rw[q,hz2] at hoe;cases hoe;simp at hce
  exact aT hz2 (by simp) fun g3 _ e3=>hE g3 _ ex (fun c o c1 _ c3 _ q=>e3.extBut _ _ c1 (e2 _ _ c3 (e1.extBut _ _ c1 q))) ⟨oe,e3.extBut _ _ hez hoe,hce⟩
 ·refine ab (D1.item k _ _ _ l1 t1' fun x g2 tk2 px u1 e2=>aq ?_);have hTO2:IsPair g2 TO a b:=e2.extBut _ _ Z.a8 (e1.extBut _ _ Z.a2 hTO);refine ab (wpAny_seqItems hTO2 rfl ?_);refine ab (wpAny_updateSeq_pair hTO2 fun g3 hTO3 e3=>?_);refine ab (wpAny_letGo (aq ?_));refine ab (ab (wpAny_onRaise ?_));show wpAny _ _ (Builtin.SmallTypes.nextOf (.ref i2)>>=_) _ _ _;have t2':S2 k g3:=D2.frame _ _ _ t2 fun c hc o q=>e3.extBut c o (fun w'=>f2.2.1 (w'▸hc)) (e2.extBut c o (fun w'=>f2.2.2 (w'▸hc)) (e1.extBut c o (fun w'=>f2.1 (w'▸hc)) q));refine ab (D2.done _ _ _ t2' fun g4 ex e4 he=>?_);obtain⟨oe,hoe,hce⟩:=he;have hz4:IsZip g4 z TI TO .ellipsis:=e4 _ _ Z.a4.symm (e3.extBut _ _ Z.a2.symm (e2.extBut _ _ Z.a3.symm hz1'));have hez:ex≠z:=fun q=>by rw[q,hz4] at hoe;cases hoe;simp at hce
  exact aT hz4 (by simp) fun g5 _ e5=>hE g5 _ ex (fun c o c1 c2 c3 c4 q=>e5.extBut _ _ c1 (e4 _ _ c4 (e3.extBut _ _ c2 (e2.extBut _ _ c3 (e1.extBut _ _ c1 q))))) ⟨oe,e5.extBut _ _ hez hoe,hce⟩
end
noncomputable abbrev n8 (kd:Bool)(l:Addr):Obj:={ cls:=.type (if kd=true then "list_iterator" else "tuple_iterator"),data:=.fields #[.ref l,.int 0 0] }
section
variable {prog:Program}{w:World}{A:Around}{E:Value->Shared->Prop}{s:Shared}
theorem xm {kd:Bool}{l:Addr}{its:Array Value}{Q:Value->Shared->Prop}(ob:kF kd s.heap l its)(h:Q (.ref s.heap.objs.size) { s with heap:=s.heap.push (n8 kd l) }):wpAny (model prog w) A (pyIter (.ref l)) Q E s:=by
 cases kd
 ·exact wpAny_pyIter_tuple (show s.heap.IsTuple l its from ob) h
 ·exact wpAny_pyIter_list (show s.heap.IsList l its from ob) h
end
noncomputable abbrev Fz (h:Heap)(k1:Bool)(l1:Addr):Heap:=h.push (n8 k1 l1)
noncomputable abbrev ET (h:Heap)(k1 k2:Bool)(l1 l2:Addr):Heap:=(Fz h k1 l1).push (n8 k2 l2)
noncomputable abbrev Ii (h:Heap)(k1 k2:Bool)(l1 l2:Addr):Heap:=(ET h k1 k2 l1 l2).push { cls:=.type "tuple", data:=.seq #[.ref h.objs.size,.ref (Fz h k1 l1).objs.size] }
noncomputable abbrev Ih (h:Heap)(k1 k2:Bool)(l1 l2:Addr):Heap:=(Ii h k1 k2 l1 l2).push { cls:=.type "tuple", data:=.seq #[.none,.none] }
noncomputable abbrev G3 (h:Heap)(k1 k2:Bool)(l1 l2:Addr):Heap:=(Ih h k1 k2 l1 l2).push { cls:=.type "zip", data:=.fields #[.none,.bool false,.bool false,.ref (ET h k1 k2 l1 l2).objs.size,.ref (Ii h k1 k2 l1 l2).objs.size] }
set_option maxRecDepth 100000 in
theorem Bj (k1 k2:Bool)(l1 l2:Addr)(xs ys:Array Value) :
  Meets (Builtin.«zip.__new__» ⟨[.type "zip", .ref l1,.ref l2],[]⟩) (fun _ R s=>kF k1 s.heap l1 xs/\kF k2 s.heap l2 ys ∧
   R (.ok (.ret (.ref (Ih s.heap k1 k2 l1 l2).objs.size))) { s with heap:=G3 s.heap k1 k2 l1 l2 }) :=
 .of_wp fun prog w A R s h=>by
  obtain⟨hp,g,d,tk,os⟩:=s;obtain⟨o1,o2,h⟩:=h;have hsub:=sub_zip;have q1:kF k1 (Shared.heap ⟨hp,g,d,tk,os⟩) l1 xs:=o1;have q2:kF k2 (Shared.heap ⟨hp.push (n8 k1 l1),g,d,tk,os⟩) l2 ys:=kF.at o2 fun o e=>ae _ e
  wp_walk using xm q1,xm q2
  exact⟨_,rfl,h⟩
section
variable {prog:Program}{w:World}{A:Around}{E:Value->Shared->Prop}{s:Shared}
theorem call_zipK {k1 k2:Bool}{l1 l2:Addr}{xs ys:Array Value}{Q:Value->Shared->Prop}(o1:kF k1 s.heap l1 xs)(o2:kF k2 s.heap l2 ys)
  (h:∀h',IsZip h' (s.heap.objs.size+4) (s.heap.objs.size+2) (s.heap.objs.size+3) .none->IsPair h' (s.heap.objs.size+2) (.ref s.heap.objs.size) (.ref (s.heap.objs.size+1)) →
   IsPair h' (s.heap.objs.size+3) .none .none->ItK k1 h' s.heap.objs.size l1 0->ItK k2 h' (s.heap.objs.size+1) l2 0->(∀c o,s.heap.get? c=some o->h'.get? c=some o)->Q (.ref (s.heap.objs.size+4)) { s with heap:=h' }) :
  wpAny (model prog w) A (call (.type "zip") [.ref l1,.ref l2]) Q E s:=by
 refine callType_new F.called_zip (by decide) (F.typeCall_zip_2 _ _) (F.newCall_zip_2 _ _) (fun obj=>F.args_object_init_3 obj _ _) F.entry_zip_new (Bj k1 k2 l1 l2 xs ys) ⟨o1,o2,?_⟩;have y1:(Fz s.heap k1 l1).objs.size=s.heap.objs.size+1:=bp ..;have y2:(ET s.heap k1 k2 l1 l2).objs.size=s.heap.objs.size+2:=by rw[bp,y1]
 have y3:(Ii s.heap k1 k2 l1 l2).objs.size=s.heap.objs.size+3:=by rw[bp,y2]
 have y4:(Ih s.heap k1 k2 l1 l2).objs.size=s.heap.objs.size+4:=by rw[bp,y3]
 have r5:(G3 s.heap k1 k2 l1 l2).get? (Ih s.heap k1 k2 l1 l2).objs.size=some _:=aD _ rfl;have r4:(G3 s.heap k1 k2 l1 l2).get? (Ii s.heap k1 k2 l1 l2).objs.size=some _:=ae _ (aD _ rfl);have r3:(G3 s.heap k1 k2 l1 l2).get? (ET s.heap k1 k2 l1 l2).objs.size=some _:=ae _ (ae _ (aD _ rfl));have r2:(G3 s.heap k1 k2 l1 l2).get? (Fz s.heap k1 l1).objs.size=some (n8 k2 l2):=ae _ (ae _ (ae _ (aD _ rfl)));have r1:(G3 s.heap k1 k2 l1 l2).get? s.heap.objs.size=some (n8 k1 l1):=ae _ (ae _ (ae _ (ae _ (aD _ rfl))));have itk:∀(kd:Bool) (hh:Heap) (it l:Addr),hh.get? it=some (n8 kd l)->ItK kd hh it l 0:=fun kd hh it l q=>by
  cases kd
  ·exact⟨_,q,rfl,rfl⟩
  ·exact⟨_,q,rfl,rfl⟩
 show _/\_;rw[y2,y3,y4] at r5;rw[y1,y2] at r3;rw[y3] at r4;rw[y1] at r2;rw[y4];exact⟨⟨_,r5,rfl⟩,h _ r5 r3 r4 (itk _ _ _ _ r1) (itk _ _ _ _ r2) fun c o x =>
  ae _ (ae _ (ae _ (ae _ (ae _ x))))⟩
end
noncomputable def Itz (K:PySem.W.Frag)(k1 k2:Bool)(a b:Addr):It :=
  ⟨fun i H=>∃xs ys x y,iM k1 K H a xs/\iM k2 K H b ys/\xs[i]?=some x/\ys[i]?=some y,
   fun i H v H'=>∃T x y,v=.ref T/\H T=none/\H'=eA H T (.tup [x,y])/\(∀xs,iM k1 K H a xs->xs[i]?=some x)/\∀ys,iM k2 K H b ys->ys[i]?=some y,
   fun i H=>∃xs ys,iM k1 K H a xs/\iM k2 K H b ys/\(xs.length=i\/(i<xs.length/\ys.length=i))⟩
theorem Bu {P:Program}{w:World}{K:PySem.W.Frag}{tes:List Expr}{tk:Nat}{tp:Pos}{k1 k2:Bool}(a b z TI TO i1 i2:Addr)(Z:Fq z TI TO i1 i2)(fa:∀c∈[z,TO,i1,i2],a≠c/\b≠c) :
  Turn P w K (.Tuple tes tk tp) (Itz K k1 k2 a b) [z,TI,TO,i1,i2] z (fun i h=>IsZip h z TI TO .none/\IsPair h TI (.ref i1) (.ref i2)/\(∃x y,IsPair h TO x y)/\ItK k1 h i1 a i/\ItK k2 h i2 b i) where
 mem:=by simp
 obj:=fun i h ⟨q1,q2,⟨x,y,q3⟩,q4,q5⟩ c hc=>by
  simp only[bq,bf,or_false] at hc;rcases hc with rfl|rfl|rfl|rfl|rfl
  ·exact⟨_,q1,fun v w'=>by cases w'⟩
  ·exact⟨_,q2,fun v w'=>by cases w'⟩
  ·exact⟨_,q3,fun v w'=>by cases w'⟩
  ·exact q4.obj
  ·exact q5.obj
 keep:=fun i h h' ⟨q1,q2,⟨x,y,q3⟩,q4,q5⟩ k=>⟨k z (by simp) _ q1,k TI (by simp) _ q2,⟨x,y,k TO (by simp) _ q3⟩,q4.at fun o q=>k i1 (by simp) o q,q5.at fun o q=>k i2 (by simp) o q⟩
 item:=by
  rintro X hP hw hK hc i pins s σ H E I hf ⟨q1,q2,⟨ox,oy,q3⟩,q4,q5⟩ ⟨xs,ys,vx,vy,sx,sy,gx,gy⟩;subst hP hw hK;obtain⟨its,rv,ob,hz⟩:=I.seqK sx;obtain⟨jts,rw',oc,hz'⟩:=I.seqK sy;obtain⟨u,hu,ru⟩:=rv.get gx;obtain⟨v,hv,rv'⟩:=rw'.get gy;have hi:i<its.toArray.size:=by rw[aE];exact (List.getElem?_eq_some_iff.mp hu).1
  have hj:i<jts.toArray.size:=by rw[aE];exact (List.getElem?_eq_some_iff.mp hv).1
  have fz:=fa z (by simp);have fTO:=fa TO (by simp);have f1:=fa i1 (by simp);have f2:=fa i2 (by simp);have D1:=draws_sq (prog:=X.prog) (w:=X.w) (A:=X.A.in1) (I.ok.hd hc) i1 a f1.1 its.toArray;have D2:=draws_sq (prog:=X.prog) (w:=X.w) (A:=X.A.in1) (I.ok.hd hc) i2 b f2.2 jts.toArray;have hT:s.TypeIs (.ref z) "zip" := ⟨_,q1,rfl⟩;have ap1:z∉[i1,a]/\TO∉[i1,a]/\i2∉[i1,a]:=⟨by simp[Z.a3.symm,fz.1.symm],by simp[Z.a8,fTO.1.symm],by simp[Z.b1.symm,f2.1.symm]⟩;have ap2:z∉[i2,b]/\TO∉[i2,b]/\i1∉[i2,b]:=⟨by simp[Z.a4.symm,fz.2.symm],by simp[Z.a9,fTO.2.symm],by simp[Z.b1,f1.2.symm]⟩;unfold pyNext;refine ab (wpAny_attempt (wpAny_callSpecial?_slot (name:=Str.ofString "__next__") hT F.slot_zip_next (wpAny_call_entry F.slot_zip_next hT F.entry_zip_next
   (zipItem Z D1 D2 ap1 ap2 q1 q2 q3 (q4.with ob) (q5.with oc) hi hj fun x y h' tk px py nz nTO n1 n2 nT hk=>aq ?_) (F.args_zip_next_1 _))))
  have ex:x=u:=by
   have:its[i]?=some x:=by simpa using px
   rw[hu] at this;exact (Option.some.inj this).symm
  have ey:y=v:=by
   have:jts[i]?=some y:=by simpa using py
   rw[hv] at this;exact (Option.some.inj this).symm
  subst ex ey;have ob':kF k1 h' a its.toArray:=ob.at fun o q=>hk a o fz.1 fTO.1 f1.1 f2.1 q;have oc':kF k2 h' b jts.toArray:=oc.at fun o q=>hk b o fz.2 fTO.2 f1.2 f2.2 q;have nTI:IsPair h' TI (.ref i1) (.ref i2):=hk TI _ Z.a1 Z.a5 Z.a6 Z.a7 q2;have lt:∀c∈[z,TI,TO,i1,i2],c<s.heap.objs.size:=fun c hc=>by
   simp only[bq,bf,or_false] at hc;rcases hc with rfl|rfl|rfl|rfl|rfl
   ·exact aB q1
   ·exact aB q2
   ·exact aB q3
   ·obtain⟨o,q,_⟩:=q4.obj;exact aB q
   ·obtain⟨o,q,_⟩:=q5.obj;exact aB q
  refine⟨_,rfl,?_⟩;have I1:cT X pins σ (eA H s.heap.objs.size (.tup [vx,vy])) { s with heap:=h',toks:=tk }:=by
   refine I.turnedLay (fp:=[z,TI,TO,i1,i2]) (fun c o hc q=>hk c o (fun w'=>hc (by simp[w'])) (fun w'=>hc (by simp[w'])) (fun w'=>hc (by simp[w'])) (fun w'=>hc (by simp[w'])) q) (fun c hc=>?_) hf (aC _) ⟨sz2',[x,y],.cons ru (.cons rv' .nil),⟨_,nT,rfl,_,rfl⟩⟩;simp only[bq,bf,or_false] at hc;rcases hc with rfl|rfl|rfl|rfl|rfl
   ·exact⟨_,nz⟩
   ·exact⟨_,nTI⟩
   ·exact⟨_,nTO⟩
   ·obtain⟨o,q,_⟩:=n1.live;exact⟨o,q⟩
   ·obtain⟨o,q,_⟩:=n2.live;exact⟨o,q⟩
  have fr:H s.heap.objs.size=none:=I.hok.fresh (aC _);have fe:=hf z (by simp);refine wpAny_letOwnedTupleGo_zip (s:={ s with heap:=h',toks:=tk }) nz fun g2 nz2 hs2=>?_;have I2:cT X pins σ (eA H s.heap.objs.size (.tup [vx,vy])) { s with heap:=g2,toks:=tk } :=
   cT.turned (s:={ s with heap:=h',toks:=tk }) (it:=z) (t':=tk) I1 (fun c o hc q=>(hs2.2 c hc).trans q) (by rw[cG (aO (lt z (by simp)))];exact fe.1) fe.2.1 fe.2.2.2.1 fe.2.2.2.2.1 fe.2.2.2.2.2
  refine⟨.ref s.heap.objs.size,_,I2,rfl,⟨_,vx,vy,rfl,fr,rfl,fun zs hy=>?_,fun zs hy=>?_⟩,⟨nz2,(hs2.2 TI Z.a1).trans nTI,⟨_,_,(hs2.2 TO Z.a2).trans nTO⟩,(ItK.of n1 ob').at fun o q=>(hs2.2 i1 Z.a3).trans q,(ItK.of n2 oc').at fun o q=>(hs2.2 i2 Z.a4).trans q⟩,fun c hc=>?_⟩
  ·rw[I.seqK_inj hy sx];exact gx
  ·rw[I.seqK_inj hy sy];exact gy
  ·rw[cG (aO (lt c hc))];exact (hf c hc).1
 done:=by
  rintro X hP hw hK hc i pins s σ H E I hf ⟨q1,q2,⟨ox,oy,q3⟩,q4,q5⟩ ⟨xs,ys,sx,sy,hl⟩;subst hP hw hK;obtain⟨its,rv,ob,hz⟩:=I.seqK sx;obtain⟨jts,rw',oc,hz'⟩:=I.seqK sy;have fz:=fa z (by simp);have fTO:=fa TO (by simp);have f1:=fa i1 (by simp);have f2:=fa i2 (by simp);have D1:=draws_sq (prog:=X.prog) (w:=X.w) (A:=X.A.in1) (I.ok.hd hc) i1 a f1.1 its.toArray;have D2:=draws_sq (prog:=X.prog) (w:=X.w) (A:=X.A.in1) (I.ok.hd hc) i2 b f2.2 jts.toArray;have hT:s.TypeIs (.ref z) "zip" := ⟨_,q1,rfl⟩;have ap1:z∉[i1,a]/\TO∉[i1,a]/\i2∉[i1,a]:=⟨by simp[Z.a3.symm,fz.1.symm],by simp[Z.a8,fTO.1.symm],by simp[Z.b1.symm,f2.1.symm]⟩;have ap2:z∉[i2,b]/\TO∉[i2,b]/\i1∉[i2,b]:=⟨by simp[Z.a4.symm,fz.2.symm],by simp[Z.a9,fTO.2.symm],by simp[Z.b1,f1.2.symm]⟩;have hend:i=its.toArray.size\/(i<its.toArray.size/\i=jts.toArray.size):=by
   rw[aE,aE,<-rv.length,<-rw'.length];rcases hl with z|⟨z1,z2⟩
   ·exact .inl z.symm
   ·exact .inr ⟨z1,z2.symm⟩
  unfold pyNext;refine ab (wpAny_attempt (wpAny_callSpecial?_slot (name:=Str.ofString "__next__") hT F.slot_zip_next (wpAny_call_entry F.slot_zip_next hT F.entry_zip_next (zipEnd Z D1 D2 ap1 ap2 q1 q2 q3 (q4.with ob) (q5.with oc) hend fun h' tk ex hk he=>?_) (F.args_zip_next_1 _))));obtain⟨o,ho,hce⟩:=he;refine ab (wpAny_isInstance (T := "StopIteration") (b:=true) ⟨o,ho,hce⟩ isSubtype_stop ?_);refine aq ⟨rfl,?_⟩;refine I.step (g':=s.gens) (d':=s.drawn) (ch:=[z,TO,i1,i2]) (fun c hc=>?_) (fun c o _ _ hc q _=>hk c o (fun w'=>hc (by simp[w'])) (fun w'=>hc (by simp[w'])) (fun w'=>hc (by simp[w'])) (fun w'=>hc (by simp[w'])) q)
   (fun c o _ _ hc q _=>⟨o.slots,hk c o (fun w'=>hc (by simp[w'])) (fun w'=>hc (by simp[w'])) (fun w'=>hc (by simp[w'])) (fun w'=>hc (by simp[w'])) q⟩) (fun _ _ _ _ n=>n)
   (fun c o hc q=>⟨o,hk c o (fun w'=>hc (by simp[w'])) (fun w'=>hc (by simp[w'])) (fun w'=>hc (by simp[w'])) (fun w'=>hc (by simp[w'])) q⟩) (fun _ _ e=>e) (fun _ _ _ e=>e) (fun b ps e=>⟨#[],by rw[e];simp⟩) (fun m hm=>?_) (fun c u e=>?_) I.bare
  ·obtain⟨_,f1,f2,f3,f4,f5⟩:=hf c (by simp only[bq,bf,or_false] at hc ⊢;rcases hc with z|z|z|z <;> simp[z]);exact⟨f3,f1,f4,f5⟩
  ·obtain⟨o,es,ep,ho',r⟩:=hm;exact⟨o,es,ep,hk _ o (fun w'=>(hf z (by simp)).2.1 w'.symm) (fun w'=>(hf TO (by simp)).2.1 w'.symm) (fun w'=>(hf i1 (by simp)).2.1 w'.symm) (fun w'=>(hf i2 (by simp)).2.1 w'.symm) ho',r⟩
  ·have nf:∀d u,H d=some u->d≠z/\d≠TO/\d≠i1/\d≠i2:=fun d u e=>⟨(fun w'=>by rw[w',(hf z (by simp)).1] at e;cases e),(fun w'=>by rw[w',(hf TO (by simp)).1] at e;cases e),(fun w'=>by rw[w',(hf i1 (by simp)).1] at e;cases e),(fun w'=>by rw[w',(hf i2 (by simp)).1] at e;cases e)⟩;refine (I.hok c u e).stay (fun d v hd q=>?_) (fun _ q=>q) fun _ _ q=>q;rcases hd with w'|w'
   ·obtain⟨m1,m2,m3,m4⟩:=nf c u e;rw[w'] at q ⊢;exact hk c v m1 m2 m3 m4 q
   ·obtain⟨m1,m2,m3,m4⟩:=nf d _ w';exact hk d v m1 m2 m3 m4 q
 self:=fun _ _ _ _ _ ⟨x,_⟩ h=>wpAny_pyIter_zip x h
section
variable {X:Cx}{e1 e2:Expr}{p pos tp:Pos}{tes:List Expr}{tk:Nat}
noncomputable def Jq (K:PySem.W.Frag)(ta:TA):TI:=fun σ H R=>ta σ H fun vs H1=>∃k1 k2 a b,vs=[.ref a,.ref b]/\(∃xs,iM k1 K H1 a xs)/\(∃ys,iM k2 K H1 b ys)/\R (Itz K k1 k2 a b) H1
theorem pi_zip {ta:TA}(hg:Gl X "zip")(hm:X.mg "zip" = none)(ha:PA X [e1,e2] ta)(hs:starEach [e1,e2] X.env=[(false,eval e1 X.env),(false,eval e2 X.env)]:=by rfl)(hs2:starEach [e2] X.env=[(false,eval e2 X.env)]:=by rfl) :
  PI X (.Tuple tes tk tp) (.Call (.Name "zip" p) [e1,e2] [] pos) (Jq X.K ta):=by
 intro pins s σ H R I h;refine Call_ (ld_blt I hg hm boot_zip (PyProof.Rows.callWith_type1 (thn (ha pos pins s σ H _ I h) fun us s1 ⟨vs,H1,I1,r1,q1⟩=>?_) (by rw[hs,hs2]) (by rw[hs2];rfl)));obtain⟨k1,k2,a,b,e,⟨xs,hx⟩,⟨ys,hy⟩,q⟩:=q1;subst e;obtain⟨u,w',rfl,ru,rw'⟩:=cY.two r1;cases ru;cases rw';obtain⟨its,rv,ob,_⟩:=I1.seqK hx;obtain⟨jts,rv2,oc,_⟩:=I1.seqK hy;refine call_zipK ob oc fun h' hz hTI hTO it1 it2 hk=>?_;have I2:cT X pins σ H1 { s1 with heap:=h' }:=I1.kept (t':=s1.toks) hk;have alt:=ob.lt;have blt:=oc.lt;generalize hn:s1.heap.objs.size=n at hz hTI hTO it1 it2 alt blt;refine wpAny_pyIter_zip hz ⟨_,_,_,_,H1,rfl,I2,Bu (k1:=k1) (k2:=k2) a b (n+4) (n+2) (n+3) n (n+1)
  ⟨by simp,by simp,by simp,by simp,by simp,by simp,by simp,by simp,by simp,by simp⟩ (fun c hc=>?_),⟨hz,hTI,⟨_,_,hTO⟩,it1,it2⟩,fun c hc=>?_,q⟩
 ·have:n<=c:=by
   simp only[bq,bf,or_false] at hc;rcases hc with z|z|z|z <;> rw[z] <;> first|exact aC _|exact bQ _ _
  exact⟨aO (aF alt this),aO (aF blt this)⟩
 ·have:s1.heap.objs.size<=c:=by
   rw[hn];simp only[bq,bf,or_false] at hc;rcases hc with z|z|z|z|z <;> rw[z] <;> first|exact aC _|exact bQ _ _
  exact I1.fpOk this (I1.hok.fresh this)
end
end L2
namespace DL
open PySem PySem.Spec PySem.SeqAt
open L2 (V Hp St HO VK TE TT TA TS TI TG Cx cT PE PT PA PS PSs PI PG jw jT dq eA cO cG cI cY dX EP TP AP SP jU It iM)
theorem wc:∀(xs ys:List D) (i:Nat) (d:D),(l5 xs ys)[i]?=some d->∃x y,xs[i]?=some x/\ys[i]?=some y/\d=.tuple [x,y]
 |[],_,i,d,h=>by simp[l5] at h
 |_::_,[],i,d,h=>by simp[l5] at h
 |x::xs,y::ys,0,d,h=>by simp[l5] at h;exact⟨x,y,rfl,rfl,h.symm⟩
 | x::xs,y::ys,i+1,d,h=>by
  obtain⟨a,b,h1,h2,h3⟩:=wc xs ys i d (by simpa [l5] using h);exact⟨a,b,by simpa using h1,by simpa using h2,h3⟩
theorem wb:∀(xs ys:List D),(l5 xs ys).length=min xs.length ys.length
 |[],_=>by simp[l5]
 |_::_,[]=>by simp[l5]
 |_::xs,_::ys=>by simp[l5,wb xs ys]
theorem Cj {K:Fg}{H:Hp}{M O:List Addr}{a b:Addr}{k1 k2:Bool}{ds es:List D}{vs us:List V}(h1:∀O' H',iZ M O H O' H'->iM k1 K H' a vs)(q1:Rs K H O ds vs)(h2:∀O' H',iZ M O H O' H'->iM k2 K H' b us)(q2:Rs K H O es us) :
  mU K (L2.Itz K k1 k2 a b) (l5 ds es) M O H:=by
 intro O2 H2 x;have g1:=h1 _ _ x;have g2:=h2 _ _ x;have p1:=q1.ext x;have p2:=q2.ext x;have l1:=p1.length;have l2:=p2.length;refine⟨fun i d e=>?_,vs,us,g1,g2,?_⟩
 ·obtain⟨dx,dy,ex,ey,rfl⟩:=wc ds es i d e;obtain⟨v,ev,rv⟩:=p1.get ex;obtain⟨u,eu,ru⟩:=p2.get ey;refine⟨⟨vs,us,v,u,g1,g2,ev,eu⟩,fun y H3 ⟨T,z1,z2,e1,hT,eH,hz1,hz2⟩=>?_⟩;subst e1 eH;have a1:=hz1 vs g1;have a2:=hz2 us g2;rw[ev] at a1;rw[eu] at a2;cases a1;cases a2;have s2:dq H2 (eA H2 T (.tup [v,u])):=fun b o e=>by rw[cG (cI e hT)];exact e
  exact⟨s2,.tuple (.inl (.inl cO)) (.cons (rv.same s2) (.cons (ru.same s2) .nil))⟩
 ·rw[wb];omega
theorem iZ.back {M O O':List Addr}{H H1 H':Hp}(s:dq H H1)(x:iZ M O H1 O' H'):iZ M O H O' H' :=
 ⟨fun b _ e=>x.tup b _ (s b _ e),fun b _ _ e=>x.frz b _ _ (s b _ e),fun b _ n e=>x.lst b _ n (s b _ e),fun b _ n e=>x.ext b _ n (s b _ e),fun b hb=>(x.new b hb).elim .inl fun z=>.inr (s.free z),x.sub⟩
section
variable {X:Cx}{e1 e2:Expr}{f g:AD}{p pos tp:Pos}{tes:List Expr}{tk:Nat}
theorem vN (hm:X.mg "zip" = none)(h1:DQ X e1 f)(h2:DQ X e2 g)(hg:L2.Gl X "zip" := by rfl)(hs:starEach [e1,e2] X.env=[(false,eval e1 X.env),(false,eval e2 X.env)]:=by rfl)(hs2:starEach [e2] X.env=[(false,eval e2 X.env)]:=by rfl) :
  DI X (.Tuple tes tk tp) (.Call (.Name "zip" p) [e1,e2] [] pos) (oZ f g):=by
 have pa:PA X [e1,e2] (L2.tCons (uQ X.K f) (L2.tCons (uQ X.K g) L2.tNil)):=L2.pa_cons h1 (L2.pa_cons h2 L2.pa_nil hs2) (by rw[hs,hs2]);refine (L2.pi_zip hg hm pa hs hs2).imp fun σ H Q zz=>?_;obtain ⟨ρ,O,M,lad,zs,hE,hf,k⟩:=zz;unfold oZ at hf;obtain⟨ds,hr,hf⟩:=Option.bind_eq_some_iff.mp hf;cases hr2:g ρ with
 |none=>rw[hr2] at hf;cases hf
 |some es =>
  rw[hr2,av] at hf;cases hf;refine⟨ρ,O,M,lad,ds,hE,hr,fun v H1 k1 s1 ⟨a,vs,ev,qs1,g1⟩=>⟨ρ,O,M,lad,es,hE.same s1,hr2,fun u H2 k2 s2 ⟨b,us,eu,qs2,g2⟩=>?_⟩⟩;subst ev eu;have i2:=iZ.id M O H2 ((hE.same s1).same s2).sub;exact⟨k1,k2,a,b,rfl,⟨vs,g1 _ _ (i2.back s2)⟩,⟨us,g2 _ _ i2⟩,k _ H2 (s1.trans s2) (Cj (fun O' H' x=>g1 O' H' (x.back s2)) (qs1.same s2) (fun O' H' x=>g2 O' H' x) qs2)⟩
end
end DL
namespace L2
open PySem PySem.Spec PyProof.Rows
abbrev fi (h:Heap)(T:Addr)(a b c:Value):Prop:=h.get? T=some { cls:=.type "tuple", data:=.seq #[a,b,c] }
structure G0 (z TI TO i1 i2 i3:Addr):Prop where
 zp:Fq z TI TO i1 i2
 c1:i3≠z
 c2:TI≠i3
 c3:TO≠i3
 c4:i1≠i3
 c5:i2≠i3
section
variable {prog:Program}{w:World}{A:Around}{E:Value->Shared->Prop}{s:Shared}
theorem mV {T:Addr}{a b c x:Value}{k:Nat}{Q:Unit->Shared->Prop}(hT:fi s.heap T a b c)
  (h:∀h',h'.get? T=some { cls:=.type "tuple", data:=.seq ((#[a,b,c]:Array Value).setIfInBounds k x) }->Heap.SameBut T s.heap h'->Q () { s with heap:=h' }) :
  wpAny (model prog w) A (updateSeq T (·.setIfInBounds k x)) Q E s:=by
 refine wpAny_updateSeq hT rfl (h _ ?_ (Heap.SameBut.update ..));rw[Heap.get?_update_self _ hT rfl];simp[Obj.mapSeq]
end
section
variable {prog:Program}{w:World}{A:Around}{E:Value->Shared->Prop}{s:Shared}{z TI TO i1 i2 i3:Addr}{n1 n2 n3 k:Nat}{fp1 fp2 fp3:List Addr}{P1 P2 P3:Nat->Value->Prop}{S1 S2 S3:Nat->Heap->Prop}
theorem Bm {a b c:Value}{Q:Value->Shared->Prop}(Z:G0 z TI TO i1 i2 i3)(D1:Draws prog w A i1 fp1 n1 P1 S1)(D2:Draws prog w A i2 fp2 n2 P2 S2)(D3:Draws prog w A i3 fp3 n3 P3 S3)
  (f1:z∉fp1/\TO∉fp1/\i2∉fp1/\i3∉fp1) (f2:z∉fp2/\TO∉fp2/\i1∉fp2/\i3∉fp2) (f3:z∉fp3/\TO∉fp3/\i1∉fp3/\i2∉fp3)
  (hz:IsZip s.heap z TI TO .none) (hTI:fi s.heap TI (.ref i1) (.ref i2) (.ref i3)) (hTO:fi s.heap TO a b c) (t1:S1 k s.heap) (t2:S2 k s.heap) (t3:S3 k s.heap) (l1:k<n1) (l2:k<n2) (l3:k<n3)
  (hQ:∀x y v h' tk,P1 k x->P2 k y->P3 k v->IsZip h' z TI TO (rawInt s.heap.objs.size)->fi h' TO x y v->S1 (k+1) h'->S2 (k+1) h'->S3 (k+1) h'->fi h' s.heap.objs.size x y v →
   (∀c o,c≠z->c≠TO->c≠i1->c≠i2->c≠i3->s.heap.get? c=some o->h'.get? c=some o)->Q (.ref s.heap.objs.size) { s with heap:=h',toks:=tk }) :
  wpAny (model prog w) A (Builtin.«zip.__next__» ⟨[.ref z],[]⟩) (fun fin s'=>∃v,fin=.done (.ret v)/\Q v s') E s:=by
 show wpAny _ _ (field (.ref z) 2>>=_) _ _ _;refine ab (aV hz rfl (x:=.bool false) rfl ?_);show wpAny _ _ (field (.ref z) 3>>=_) _ _ _;refine ab (aV hz rfl (x:=.ref TI) rfl ?_);refine ab (wpAny_seqItems hTI rfl ?_);show wpAny _ _ (Builtin.SmallTypes.ownedTupleIsFree (.ref z)>>=_) _ _ _;refine ab ?_;unfold Builtin.SmallTypes.ownedTupleIsFree;refine ab (aV hz rfl (x:=.none) rfl (aq ?_));simp only[if_true];refine ab (wpAny_rule ?_);refine ab (aV hz rfl (x:=.ref TO) rfl ?_);refine ab (aT hz (by simp) fun g1 hz1 e1=>?_);have hz1':IsZip g1 z TI TO .ellipsis:=hz1;refine ab ?_;simp only[JC,JN,bV,JB];refine ab (ab (wpAny_onRaise ?_));show wpAny _ _ (Builtin.SmallTypes.nextOf (.ref i1)>>=_) _ _ _;have t1':S1 k g1:=D1.frame _ _ _ t1 fun c hc o q=>e1.extBut c o (fun w'=>f1.1 (w'▸hc)) q;refine ab (D1.item k _ _ _ l1 t1' fun x g2 tk2 px u1 e2=>aq ?_);have hTO2:fi g2 TO a b c:=e2.extBut _ _ Z.zp.a8 (e1.extBut _ _ Z.zp.a2 hTO);refine ab (wpAny_seqItems hTO2 rfl ?_);refine ab (mV hTO2 fun g3 hTO3 e3=>?_);have hTO3':fi g3 TO x b c:=hTO3;refine ab (wpAny_letGo (aq ?_));refine ab (ab (wpAny_onRaise ?_));show wpAny _ _ (Builtin.SmallTypes.nextOf (.ref i2)>>=_) _ _ _;have t2':S2 k g3:=D2.frame _ _ _ t2 fun c hc o q=>e3.extBut c o (fun w'=>f2.2.1 (w'▸hc)) (e2.extBut c o (fun w'=>f2.2.2.1 (w'▸hc)) (e1.extBut c o (fun w'=>f2.1 (w'▸hc)) q));refine ab (D2.item k _ _ _ l2 t2' fun y g4 tk4 py u2 e4=>aq ?_);have hTO4:fi g4 TO x b c:=e4.extBut _ _ Z.zp.a9 hTO3';refine ab (wpAny_seqItems hTO4 rfl ?_);refine ab (mV hTO4 fun g5 hTO5 e5=>?_);have hTO5':fi g5 TO x y c:=hTO5;refine ab (wpAny_letGo (aq ?_));refine ab (ab (wpAny_onRaise ?_));show wpAny _ _ (Builtin.SmallTypes.nextOf (.ref i3)>>=_) _ _ _;have t3':S3 k g5:=D3.frame _ _ _ t3 fun c hc o q=>e5.extBut c o (fun w'=>f3.2.1 (w'▸hc)) (e4.extBut c o (fun w'=>f3.2.2.2 (w'▸hc)) (e3.extBut c o (fun w'=>f3.2.1 (w'▸hc)) (e2.extBut c o (fun w'=>f3.2.2.1 (w'▸hc)) (e1.extBut c o (fun w'=>f3.1 (w'▸hc)) q))));refine ab (D3.item k _ _ _ l3 t3' fun v g5a tk5 pv u3 e5a=>aq ?_);have hTO5a:fi g5a TO x y c:=e5a.extBut _ _ Z.c3 hTO5';refine ab (wpAny_seqItems hTO5a rfl ?_);refine ab (mV hTO5a fun g5b hTO5b e5b=>?_);have hTO5b':fi g5b TO x y v:=hTO5b;refine ab (wpAny_letGo (aq (aq ?_)));refine ab (wpAny_seqItems hTO5b' rfl ?_);refine ab (wpAny_newTuple ?_);have hsz:g5b.objs.size=s.heap.objs.size:=by rw[e5b.1,e5a.1,e5.1,e4.1,e3.1,e2.1,e1.1]
 have hz5:IsZip g5b z TI TO .ellipsis:=e5b.extBut _ _ Z.zp.a2.symm (e5a.extBut _ _ Z.c1.symm (e5.extBut _ _ Z.zp.a2.symm (e4.extBut _ _ Z.zp.a4.symm (e3.extBut _ _ Z.zp.a2.symm (e2.extBut _ _ Z.zp.a3.symm hz1')))));have hk5:∀c o,c≠z->c≠TO->c≠i1->c≠i2->c≠i3->s.heap.get? c=some o->g5b.get? c=some o:=fun c o c1 c2 c3 c4 c5 q =>
  e5b.extBut _ _ c2 (e5a.extBut _ _ c5 (e5.extBut _ _ c2 (e4.extBut _ _ c4 (e3.extBut _ _ c2 (e2.extBut _ _ c3 (e1.extBut _ _ c1 q))))))
 have v1:S1 (k+1) g5b:=D1.frame _ _ _ u1 fun c hc o q=>e5b.extBut c o (fun w'=>f1.2.1 (w'▸hc)) (e5a.extBut c o (fun w'=>f1.2.2.2 (w'▸hc)) (e5.extBut c o (fun w'=>f1.2.1 (w'▸hc)) (e4.extBut c o (fun w'=>f1.2.2.1 (w'▸hc)) (e3.extBut c o (fun w'=>f1.2.1 (w'▸hc)) q))));have v2:S2 (k+1) g5b:=D2.frame _ _ _ u2 fun c hc o q=>e5b.extBut c o (fun w'=>f2.2.1 (w'▸hc)) (e5a.extBut c o (fun w'=>f2.2.2.2 (w'▸hc)) (e5.extBut c o (fun w'=>f2.2.1 (w'▸hc)) q));have v3:S3 (k+1) g5b:=D3.frame _ _ _ u3 fun c hc o q=>e5b.extBut c o (fun w'=>f3.2.1 (w'▸hc)) q;have zlt:z<g5b.objs.size:=aB hz5;show wpAny _ _ (Builtin.SmallTypes.ownedTupleHandOut (.ref z) (.ref g5b.objs.size)>>=_) _ _ _;refine ab ?_;unfold Builtin.SmallTypes.ownedTupleHandOut;have hz6:IsZip (g5b.push { cls:=.type "tuple", data:=.seq #[x,y,v] }) z TI TO .ellipsis:=ae _ hz5;refine ab (aT hz6 (by simp) fun g7 hz7 e7=>?_);have hz7':IsZip g7 z TI TO (rawInt g5b.objs.size):=hz7;refine aT hz7' (by simp) fun g8 hz8 e8=>?_;have hz8':IsZip g8 z TI TO (rawInt g5b.objs.size):=hz8;have up:∀c o,c≠z->g5b.get? c=some o->g8.get? c=some o:=fun c o c1 q=>e8.extBut _ _ c1 (e7.extBut _ _ c1 (ae _ q));have hT8:fi g8 g5b.objs.size x y v:=e8.extBut _ _ (bj zlt) (e7.extBut _ _ (bj zlt) (aD _ rfl));rw[hsz] at hz8' hT8;refine aq ⟨_,rfl,?_⟩;show Q (.ref g5b.objs.size) _;rw[hsz];exact hQ x y v g8 _ px py pv hz8' (up _ _ Z.zp.a2 hTO5b') (D1.frame _ _ _ v1 fun c hc o q=>up c o (fun w'=>f1.1 (w'▸hc)) q) (D2.frame _ _ _ v2 fun c hc o q=>up c o (fun w'=>f2.1 (w'▸hc)) q) (D3.frame _ _ _ v3 fun c hc o q=>up c o (fun w'=>f3.1 (w'▸hc)) q) hT8 fun c o c1 c2 c3 c4 c5 q=>up c o c1 (hk5 c o c1 c2 c3 c4 c5 q)
theorem Dk {a b c:Value}{Q:Fin->Shared->Prop}(Z:G0 z TI TO i1 i2 i3)(D1:Draws prog w A i1 fp1 n1 P1 S1)(D2:Draws prog w A i2 fp2 n2 P2 S2)(D3:Draws prog w A i3 fp3 n3 P3 S3)
  (f1:z∉fp1/\TO∉fp1/\i2∉fp1/\i3∉fp1) (f2:z∉fp2/\TO∉fp2/\i1∉fp2/\i3∉fp2) (f3:z∉fp3/\TO∉fp3/\i1∉fp3/\i2∉fp3)
  (hz:IsZip s.heap z TI TO .none) (hTI:fi s.heap TI (.ref i1) (.ref i2) (.ref i3)) (hTO:fi s.heap TO a b c) (t1:S1 k s.heap) (t2:S2 k s.heap) (t3:S3 k s.heap) (hend:k=n1\/(k<n1/\k=n2)\/(k<n1/\k<n2/\k=n3))
  (hE:∀h' tk e,(∀c o,c≠z->c≠TO->c≠i1->c≠i2->c≠i3->s.heap.get? c=some o->h'.get? c=some o)->(∃o,h'.get? e=some o/\o.cls=.type "StopIteration")->E (.ref e) { s with heap:=h',toks:=tk }) :
  wpAny (model prog w) A (Builtin.«zip.__next__» ⟨[.ref z],[]⟩) Q E s:=by
 show wpAny _ _ (field (.ref z) 2>>=_) _ _ _;refine ab (aV hz rfl (x:=.bool false) rfl ?_);show wpAny _ _ (field (.ref z) 3>>=_) _ _ _;refine ab (aV hz rfl (x:=.ref TI) rfl ?_);refine ab (wpAny_seqItems hTI rfl ?_);show wpAny _ _ (Builtin.SmallTypes.ownedTupleIsFree (.ref z)>>=_) _ _ _;refine ab ?_;unfold Builtin.SmallTypes.ownedTupleIsFree;refine ab (aV hz rfl (x:=.none) rfl (aq ?_));simp only[if_true];refine ab (wpAny_rule ?_);refine ab (aV hz rfl (x:=.ref TO) rfl ?_);refine ab (aT hz (by simp) fun g1 hz1 e1=>?_);have hz1':IsZip g1 z TI TO .ellipsis:=hz1;refine ab ?_;simp only[JC,JN,bV,JB];refine ab (ab (wpAny_onRaise ?_));show wpAny _ _ (Builtin.SmallTypes.nextOf (.ref i1)>>=_) _ _ _;have t1':S1 k g1:=D1.frame _ _ _ t1 fun c hc o q=>e1.extBut c o (fun w'=>f1.1 (w'▸hc)) q;rcases hend with rfl|⟨l1,rfl⟩|⟨l1,l2,rfl⟩
 ·refine ab (D1.done _ _ _ t1' fun g2 ex e2 he=>?_);obtain⟨oe,hoe,hce⟩:=he;have hz2:IsZip g2 z TI TO .ellipsis:=e2 _ _ Z.zp.a3.symm hz1';have hez:ex≠z:=fun q=>by rw[q,hz2] at hoe;cases hoe;simp at hce
  exact aT hz2 (by simp) fun g3 _ e3=>hE g3 _ ex (fun c o c1 _ c3 _ _ q=>e3.extBut _ _ c1 (e2 _ _ c3 (e1.extBut _ _ c1 q))) ⟨oe,e3.extBut _ _ hez hoe,hce⟩
 ·refine ab (D1.item k _ _ _ l1 t1' fun x g2 tk2 px u1 e2=>aq ?_);have hTO2:fi g2 TO a b c:=e2.extBut _ _ Z.zp.a8 (e1.extBut _ _ Z.zp.a2 hTO);refine ab (wpAny_seqItems hTO2 rfl ?_);refine ab (mV hTO2 fun g3 hTO3 e3=>?_);refine ab (wpAny_letGo (aq ?_));refine ab (ab (wpAny_onRaise ?_));show wpAny _ _ (Builtin.SmallTypes.nextOf (.ref i2)>>=_) _ _ _;have t2':S2 k g3:=D2.frame _ _ _ t2 fun c hc o q=>e3.extBut c o (fun w'=>f2.2.1 (w'▸hc)) (e2.extBut c o (fun w'=>f2.2.2.1 (w'▸hc)) (e1.extBut c o (fun w'=>f2.1 (w'▸hc)) q));refine ab (D2.done _ _ _ t2' fun g4 ex e4 he=>?_);obtain⟨oe,hoe,hce⟩:=he;have hz4:IsZip g4 z TI TO .ellipsis:=e4 _ _ Z.zp.a4.symm (e3.extBut _ _ Z.zp.a2.symm (e2.extBut _ _ Z.zp.a3.symm hz1'));have hez:ex≠z:=fun q=>by rw[q,hz4] at hoe;cases hoe;simp at hce
  exact aT hz4 (by simp) fun g5 _ e5=>hE g5 _ ex (fun c o c1 c2 c3 c4 _ q=>e5.extBut _ _ c1 (e4 _ _ c4 (e3.extBut _ _ c2 (e2.extBut _ _ c3 (e1.extBut _ _ c1 q))))) ⟨oe,e5.extBut _ _ hez hoe,hce⟩
 ·refine ab (D1.item k _ _ _ l1 t1' fun x g2 tk2 px u1 e2=>aq ?_);have hTO2:fi g2 TO a b c:=e2.extBut _ _ Z.zp.a8 (e1.extBut _ _ Z.zp.a2 hTO);refine ab (wpAny_seqItems hTO2 rfl ?_);refine ab (mV hTO2 fun g3 hTO3 e3=>?_);have hTO3':fi g3 TO x b c:=hTO3;refine ab (wpAny_letGo (aq ?_));refine ab (ab (wpAny_onRaise ?_));show wpAny _ _ (Builtin.SmallTypes.nextOf (.ref i2)>>=_) _ _ _;have t2':S2 k g3:=D2.frame _ _ _ t2 fun c hc o q=>e3.extBut c o (fun w'=>f2.2.1 (w'▸hc)) (e2.extBut c o (fun w'=>f2.2.2.1 (w'▸hc)) (e1.extBut c o (fun w'=>f2.1 (w'▸hc)) q));refine ab (D2.item k _ _ _ l2 t2' fun y g4 tk4 py u2 e4=>aq ?_);have hTO4:fi g4 TO x b c:=e4.extBut _ _ Z.zp.a9 hTO3';refine ab (wpAny_seqItems hTO4 rfl ?_);refine ab (mV hTO4 fun g5 hTO5 e5=>?_);refine ab (wpAny_letGo (aq ?_));refine ab (ab (wpAny_onRaise ?_));show wpAny _ _ (Builtin.SmallTypes.nextOf (.ref i3)>>=_) _ _ _;have t3':S3 k g5:=D3.frame _ _ _ t3 fun c hc o q=>e5.extBut c o (fun w'=>f3.2.1 (w'▸hc)) (e4.extBut c o (fun w'=>f3.2.2.2 (w'▸hc)) (e3.extBut c o (fun w'=>f3.2.1 (w'▸hc)) (e2.extBut c o (fun w'=>f3.2.2.1 (w'▸hc)) (e1.extBut c o (fun w'=>f3.1 (w'▸hc)) q))));refine ab (D3.done _ _ _ t3' fun g6 ex e6 he=>?_);obtain⟨oe,hoe,hce⟩:=he;have hz6:IsZip g6 z TI TO .ellipsis:=e6 _ _ Z.c1.symm (e5.extBut _ _ Z.zp.a2.symm (e4.extBut _ _ Z.zp.a4.symm (e3.extBut _ _ Z.zp.a2.symm (e2.extBut _ _ Z.zp.a3.symm hz1'))));have hez:ex≠z:=fun q=>by rw[q,hz6] at hoe;cases hoe;simp at hce
  exact aT hz6 (by simp) fun g7 _ e7=>hE g7 _ ex (fun c o c1 c2 c3 c4 c5 q=>e7.extBut _ _ c1 (e6 _ _ c5 (e5.extBut _ _ c2 (e4.extBut _ _ c4 (e3.extBut _ _ c2 (e2.extBut _ _ c3 (e1.extBut _ _ c1 q))))))) ⟨oe,e7.extBut _ _ hez hoe,hce⟩
end
noncomputable abbrev Dr (h:Heap)(k1 k2 k3:Bool)(l1 l2 l3:Addr):Heap:=(ET h k1 k2 l1 l2).push (n8 k3 l3)
noncomputable abbrev Dq (h:Heap)(k1 k2 k3:Bool)(l1 l2 l3:Addr):Heap:=(Dr h k1 k2 k3 l1 l2 l3).push { cls:=.type "tuple", data:=.seq #[.ref h.objs.size,.ref (Fz h k1 l1).objs.size,.ref (ET h k1 k2 l1 l2).objs.size] }
noncomputable abbrev Dn (h:Heap)(k1 k2 k3:Bool)(l1 l2 l3:Addr):Heap:=(Dq h k1 k2 k3 l1 l2 l3).push { cls:=.type "tuple", data:=.seq #[.none,.none,.none] }
noncomputable abbrev xT (h:Heap)(k1 k2 k3:Bool)(l1 l2 l3:Addr):Heap:=(Dn h k1 k2 k3 l1 l2 l3).push { cls:=.type "zip", data:=.fields #[.none,.bool false,.bool false,.ref (Dr h k1 k2 k3 l1 l2 l3).objs.size,.ref (Dq h k1 k2 k3 l1 l2 l3).objs.size] }
set_option maxHeartbeats 4000000 in
set_option maxRecDepth 100000 in
theorem Ac (k1 k2 k3:Bool)(l1 l2 l3:Addr)(xs ys zs:Array Value) :
  Meets (Builtin.«zip.__new__» ⟨[.type "zip", .ref l1,.ref l2,.ref l3],[]⟩) (fun _ R s=>kF k1 s.heap l1 xs/\kF k2 s.heap l2 ys/\kF k3 s.heap l3 zs ∧
   R (.ok (.ret (.ref (Dn s.heap k1 k2 k3 l1 l2 l3).objs.size))) { s with heap:=xT s.heap k1 k2 k3 l1 l2 l3 }) :=
 .of_wp fun prog w A R s h=>by
  obtain⟨hp,g,d,tk,os⟩:=s;obtain⟨o1,o2,o3,h⟩:=h;have hsub:=sub_zip;have q1:kF k1 (Shared.heap ⟨hp,g,d,tk,os⟩) l1 xs:=o1;have q2:kF k2 (Shared.heap ⟨hp.push (n8 k1 l1),g,d,tk,os⟩) l2 ys:=kF.at o2 fun o e=>ae _ e;have q3:kF k3 (Shared.heap ⟨(hp.push (n8 k1 l1)).push (n8 k2 l2),g,d,tk,os⟩) l3 zs:=kF.at o3 fun o e=>ae _ (ae _ e)
  wp_walk using xm q1,xm q2,xm q3
  exact⟨_,rfl,h⟩
theorem sW (a b c:Value):checkTypeCall "zip" ⟨[a,b,c],[]⟩=pure ():=by kernel_rfl
theorem vl (a b c:Value):checkBuiltinCall "zip.__new__" ⟨[.type "zip", a,b,c],[]⟩=pure ():=by kernel_rfl
section
variable {prog:Program}{w:World}{A:Around}{E:Value->Shared->Prop}{s:Shared}
theorem yX {k1 k2 k3:Bool}{l1 l2 l3:Addr}{xs ys zs:Array Value}{Q:Value->Shared->Prop}(o1:kF k1 s.heap l1 xs)(o2:kF k2 s.heap l2 ys)(o3:kF k3 s.heap l3 zs)
  (h:∀h',IsZip h' (s.heap.objs.size+5) (s.heap.objs.size+3) (s.heap.objs.size+4) .none->fi h' (s.heap.objs.size+3) (.ref s.heap.objs.size) (.ref (s.heap.objs.size+1)) (.ref (s.heap.objs.size+2)) →
   fi h' (s.heap.objs.size+4) .none .none .none->ItK k1 h' s.heap.objs.size l1 0->ItK k2 h' (s.heap.objs.size+1) l2 0->ItK k3 h' (s.heap.objs.size+2) l3 0->(∀c o,s.heap.get? c=some o->h'.get? c=some o)->Q (.ref (s.heap.objs.size+5)) { s with heap:=h' }) :
  wpAny (model prog w) A (call (.type "zip") [.ref l1,.ref l2,.ref l3]) Q E s:=by
 refine callType_new F.called_zip (by decide) (sW _ _ _) (vl _ _ _) (fun obj=>by kernel_rfl) F.entry_zip_new (Ac k1 k2 k3 l1 l2 l3 xs ys zs) ⟨o1,o2,o3,?_⟩;have y1:(Fz s.heap k1 l1).objs.size=s.heap.objs.size+1:=bp ..;have y2:(ET s.heap k1 k2 l1 l2).objs.size=s.heap.objs.size+2:=by rw[bp,y1]
 have y3:(Dr s.heap k1 k2 k3 l1 l2 l3).objs.size=s.heap.objs.size+3:=by rw[bp,y2]
 have y4:(Dq s.heap k1 k2 k3 l1 l2 l3).objs.size=s.heap.objs.size+4:=by rw[bp,y3]
 have y5:(Dn s.heap k1 k2 k3 l1 l2 l3).objs.size=s.heap.objs.size+5:=by rw[bp,y4]
 have r6:(xT s.heap k1 k2 k3 l1 l2 l3).get? (Dn s.heap k1 k2 k3 l1 l2 l3).objs.size=some _:=aD _ rfl;have r5:(xT s.heap k1 k2 k3 l1 l2 l3).get? (Dq s.heap k1 k2 k3 l1 l2 l3).objs.size=some _:=ae _ (aD _ rfl);have r4:(xT s.heap k1 k2 k3 l1 l2 l3).get? (Dr s.heap k1 k2 k3 l1 l2 l3).objs.size=some _:=ae _ (ae _ (aD _ rfl));have r3:(xT s.heap k1 k2 k3 l1 l2 l3).get? (ET s.heap k1 k2 l1 l2).objs.size=some (n8 k3 l3):=ae _ (ae _ (ae _ (aD _ rfl)));have r2:(xT s.heap k1 k2 k3 l1 l2 l3).get? (Fz s.heap k1 l1).objs.size=some (n8 k2 l2):=ae _ (ae _ (ae _ (ae _ (aD _ rfl))));have r1:(xT s.heap k1 k2 k3 l1 l2 l3).get? s.heap.objs.size=some (n8 k1 l1):=ae _ (ae _ (ae _ (ae _ (ae _ (aD _ rfl)))));have itk:∀(kd:Bool) (hh:Heap) (it l:Addr),hh.get? it=some (n8 kd l)->ItK kd hh it l 0:=fun kd hh it l q=>by
  cases kd
  ·exact⟨_,q,rfl,rfl⟩
  ·exact⟨_,q,rfl,rfl⟩
 show _/\_;rw[y3,y4,y5] at r6;rw[y1,y2,y3] at r4;rw[y4] at r5;rw[y2] at r3;rw[y1] at r2;rw[y5];exact⟨⟨_,r6,rfl⟩,h _ r6 r4 r5 (itk _ _ _ _ r1) (itk _ _ _ _ r2) (itk _ _ _ _ r3) fun c o x =>
  ae _ (ae _ (ae _ (ae _ (ae _ (ae _ x)))))⟩
end
noncomputable def Itz3 (K:PySem.W.Frag)(k1 k2 k3:Bool)(a b c:Addr):It :=
  ⟨fun i H=>∃xs ys zs x y z,iM k1 K H a xs/\iM k2 K H b ys/\iM k3 K H c zs/\xs[i]?=some x/\ys[i]?=some y/\zs[i]?=some z,
   fun i H v H'=>∃T x y z,v=.ref T/\H T=none/\H'=eA H T (.tup [x,y,z])/\(∀xs,iM k1 K H a xs->xs[i]?=some x)/\(∀ys,iM k2 K H b ys->ys[i]?=some y)/\∀zs,iM k3 K H c zs->zs[i]?=some z,
   fun i H=>∃xs ys zs,iM k1 K H a xs/\iM k2 K H b ys/\iM k3 K H c zs/\(xs.length=i\/(i<xs.length/\ys.length=i)\/(i<xs.length/\i<ys.length/\zs.length=i))⟩
theorem ID:(3:Nat)<=sizeLine:=by decide
theorem Af {P:Program}{w:World}{K:PySem.W.Frag}{tes:List Expr}{tk:Nat}{tp:Pos}{k1 k2 k3:Bool}(a b c z TI TO i1 i2 i3:Addr)(Z:G0 z TI TO i1 i2 i3)(fa:∀d∈[z,TO,i1,i2,i3],a≠d/\b≠d/\c≠d) :
  Turn P w K (.Tuple tes tk tp) (Itz3 K k1 k2 k3 a b c) [z,TI,TO,i1,i2,i3] z (fun i h=>IsZip h z TI TO .none/\fi h TI (.ref i1) (.ref i2) (.ref i3)/\(∃x y v,fi h TO x y v)/\ItK k1 h i1 a i/\ItK k2 h i2 b i/\ItK k3 h i3 c i) where
 mem:=by simp
 obj:=fun i h ⟨q1,q2,⟨x,y,v,q3⟩,q4,q5,q6⟩ d hd=>by
  simp only[bq,bf,or_false] at hd;rcases hd with rfl|rfl|rfl|rfl|rfl|rfl
  ·exact⟨_,q1,fun v w'=>by cases w'⟩
  ·exact⟨_,q2,fun v w'=>by cases w'⟩
  ·exact⟨_,q3,fun v w'=>by cases w'⟩
  ·exact q4.obj
  ·exact q5.obj
  ·exact q6.obj
 keep:=fun i h h' ⟨q1,q2,⟨x,y,v,q3⟩,q4,q5,q6⟩ k=>⟨k z (by simp) _ q1,k TI (by simp) _ q2,⟨x,y,v,k TO (by simp) _ q3⟩,q4.at fun o q=>k i1 (by simp) o q,q5.at fun o q=>k i2 (by simp) o q,q6.at fun o q=>k i3 (by simp) o q⟩
 item:=by
  rintro X hP hw hK hc i pins s σ H E I hf ⟨q1,q2,⟨ox,oy,ov,q3⟩,q4,q5,q6⟩ ⟨xs,ys,zs,vx,vy,vz,sx,sy,sz,gx,gy,gz⟩;subst hP hw hK;obtain⟨its,rv,ob,hz⟩:=I.seqK sx;obtain⟨jts,rw',oc,hz'⟩:=I.seqK sy;obtain⟨kts,rk,od,hz''⟩:=I.seqK sz;obtain⟨u,hu,ru⟩:=rv.get gx;obtain⟨v,hv,rv'⟩:=rw'.get gy;obtain⟨t,ht,rt⟩:=rk.get gz;have hi:i<its.toArray.size:=by rw[aE];exact (List.getElem?_eq_some_iff.mp hu).1
  have hj:i<jts.toArray.size:=by rw[aE];exact (List.getElem?_eq_some_iff.mp hv).1
  have hk':i<kts.toArray.size:=by rw[aE];exact (List.getElem?_eq_some_iff.mp ht).1
  have fz:=fa z (by simp);have fTO:=fa TO (by simp);have f1:=fa i1 (by simp);have f2:=fa i2 (by simp);have f3:=fa i3 (by simp);have D1:=draws_sq (prog:=X.prog) (w:=X.w) (A:=X.A.in1) (I.ok.hd hc) i1 a f1.1 its.toArray;have D2:=draws_sq (prog:=X.prog) (w:=X.w) (A:=X.A.in1) (I.ok.hd hc) i2 b f2.2.1 jts.toArray;have D3:=draws_sq (prog:=X.prog) (w:=X.w) (A:=X.A.in1) (I.ok.hd hc) i3 c f3.2.2 kts.toArray;have hT:s.TypeIs (.ref z) "zip" := ⟨_,q1,rfl⟩;have ap1:z∉[i1,a]/\TO∉[i1,a]/\i2∉[i1,a]/\i3∉[i1,a]:=⟨by simp[Z.zp.a3.symm,fz.1.symm],by simp[Z.zp.a8,fTO.1.symm],by simp[Z.zp.b1.symm,f2.1.symm],by simp[Z.c4.symm,f3.1.symm]⟩;have ap2:z∉[i2,b]/\TO∉[i2,b]/\i1∉[i2,b]/\i3∉[i2,b]:=⟨by simp[Z.zp.a4.symm,fz.2.1.symm],by simp[Z.zp.a9,fTO.2.1.symm],by simp[Z.zp.b1,f1.2.1.symm],by simp[Z.c5.symm,f3.2.1.symm]⟩;have ap3:z∉[i3,c]/\TO∉[i3,c]/\i1∉[i3,c]/\i2∉[i3,c]:=⟨by simp[Z.c1.symm,fz.2.2.symm],by simp[Z.c3,fTO.2.2.symm],by simp[Z.c4,f1.2.2.symm],by simp[Z.c5,f2.2.2.symm]⟩;unfold pyNext;refine ab (wpAny_attempt (wpAny_callSpecial?_slot (name:=Str.ofString "__next__") hT F.slot_zip_next (wpAny_call_entry F.slot_zip_next hT F.entry_zip_next
   (Bm Z D1 D2 D3 ap1 ap2 ap3 q1 q2 q3 (q4.with ob) (q5.with oc) (q6.with od) hi hj hk' fun x y r h' tk px py pr nz nTO n1 n2 n3 nT hk=>aq ?_) (F.args_zip_next_1 _))))
  have ex:x=u:=by
   have:its[i]?=some x:=by simpa using px
   rw[hu] at this;exact (Option.some.inj this).symm
  have ey:y=v:=by
   have:jts[i]?=some y:=by simpa using py
   rw[hv] at this;exact (Option.some.inj this).symm
  have er:r=t:=by
   have:kts[i]?=some r:=by simpa using pr
   rw[ht] at this;exact (Option.some.inj this).symm
  subst ex ey er;have ob':kF k1 h' a its.toArray:=ob.at fun o q=>hk a o fz.1 fTO.1 f1.1 f2.1 f3.1 q;have oc':kF k2 h' b jts.toArray:=oc.at fun o q=>hk b o fz.2.1 fTO.2.1 f1.2.1 f2.2.1 f3.2.1 q;have od':kF k3 h' c kts.toArray:=od.at fun o q=>hk c o fz.2.2 fTO.2.2 f1.2.2 f2.2.2 f3.2.2 q;have nTI:fi h' TI (.ref i1) (.ref i2) (.ref i3):=hk TI _ Z.zp.a1 Z.zp.a5 Z.zp.a6 Z.zp.a7 Z.c2 q2;have lt:∀d∈[z,TI,TO,i1,i2,i3],d<s.heap.objs.size:=fun d hd=>by
   simp only[bq,bf,or_false] at hd;rcases hd with rfl|rfl|rfl|rfl|rfl|rfl
   ·exact aB q1
   ·exact aB q2
   ·exact aB q3
   ·obtain⟨o,q,_⟩:=q4.obj;exact aB q
   ·obtain⟨o,q,_⟩:=q5.obj;exact aB q
   ·obtain⟨o,q,_⟩:=q6.obj;exact aB q
  refine⟨_,rfl,?_⟩;have I1:cT X pins σ (eA H s.heap.objs.size (.tup [vx,vy,vz])) { s with heap:=h',toks:=tk }:=by
   refine I.turnedLay (fp:=[z,TI,TO,i1,i2,i3]) (fun d o hd q=>hk d o (fun w'=>hd (by simp[w'])) (fun w'=>hd (by simp[w'])) (fun w'=>hd (by simp[w'])) (fun w'=>hd (by simp[w'])) (fun w'=>hd (by simp[w'])) q) (fun d hd=>?_) hf (aC _) ⟨ID,[x,y,r],.cons ru (.cons rv' (.cons rt .nil)),⟨_,nT,rfl,_,rfl⟩⟩;simp only[bq,bf,or_false] at hd;rcases hd with rfl|rfl|rfl|rfl|rfl|rfl
   ·exact⟨_,nz⟩
   ·exact⟨_,nTI⟩
   ·exact⟨_,nTO⟩
   ·obtain⟨o,q,_⟩:=n1.live;exact⟨o,q⟩
   ·obtain⟨o,q,_⟩:=n2.live;exact⟨o,q⟩
   ·obtain⟨o,q,_⟩:=n3.live;exact⟨o,q⟩
  have fr:H s.heap.objs.size=none:=I.hok.fresh (aC _);have fe:=hf z (by simp);refine wpAny_letOwnedTupleGo_zip (s:={ s with heap:=h',toks:=tk }) nz fun g2 nz2 hs2=>?_;have I2:cT X pins σ (eA H s.heap.objs.size (.tup [vx,vy,vz])) { s with heap:=g2,toks:=tk } :=
   cT.turned (s:={ s with heap:=h',toks:=tk }) (it:=z) (t':=tk) I1 (fun d o hd q=>(hs2.2 d hd).trans q) (by rw[cG (aO (lt z (by simp)))];exact fe.1) fe.2.1 fe.2.2.2.1 fe.2.2.2.2.1 fe.2.2.2.2.2
  refine⟨.ref s.heap.objs.size,_,I2,rfl,⟨_,vx,vy,vz,rfl,fr,rfl,fun zs' hy=>?_,fun zs' hy=>?_,fun zs' hy=>?_⟩,⟨nz2,(hs2.2 TI Z.zp.a1).trans nTI,⟨_,_,_,(hs2.2 TO Z.zp.a2).trans nTO⟩,(ItK.of n1 ob').at fun o q=>(hs2.2 i1 Z.zp.a3).trans q,(ItK.of n2 oc').at fun o q=>(hs2.2 i2 Z.zp.a4).trans q,(ItK.of n3 od').at fun o q=>(hs2.2 i3 Z.c1).trans q⟩,fun d hd=>?_⟩
  ·rw[I.seqK_inj hy sx];exact gx
  ·rw[I.seqK_inj hy sy];exact gy
  ·rw[I.seqK_inj hy sz];exact gz
  ·rw[cG (aO (lt d hd))];exact (hf d hd).1
 done:=by
  rintro X hP hw hK hc i pins s σ H E I hf ⟨q1,q2,⟨ox,oy,ov,q3⟩,q4,q5,q6⟩ ⟨xs,ys,zs,sx,sy,sz,hl⟩;subst hP hw hK;obtain⟨its,rv,ob,hz⟩:=I.seqK sx;obtain⟨jts,rw',oc,hz'⟩:=I.seqK sy;obtain⟨kts,rk,od,hz''⟩:=I.seqK sz;have fz:=fa z (by simp);have fTO:=fa TO (by simp);have f1:=fa i1 (by simp);have f2:=fa i2 (by simp);have f3:=fa i3 (by simp);have D1:=draws_sq (prog:=X.prog) (w:=X.w) (A:=X.A.in1) (I.ok.hd hc) i1 a f1.1 its.toArray;have D2:=draws_sq (prog:=X.prog) (w:=X.w) (A:=X.A.in1) (I.ok.hd hc) i2 b f2.2.1 jts.toArray;have D3:=draws_sq (prog:=X.prog) (w:=X.w) (A:=X.A.in1) (I.ok.hd hc) i3 c f3.2.2 kts.toArray;have hT:s.TypeIs (.ref z) "zip" := ⟨_,q1,rfl⟩;have ap1:z∉[i1,a]/\TO∉[i1,a]/\i2∉[i1,a]/\i3∉[i1,a]:=⟨by simp[Z.zp.a3.symm,fz.1.symm],by simp[Z.zp.a8,fTO.1.symm],by simp[Z.zp.b1.symm,f2.1.symm],by simp[Z.c4.symm,f3.1.symm]⟩;have ap2:z∉[i2,b]/\TO∉[i2,b]/\i1∉[i2,b]/\i3∉[i2,b]:=⟨by simp[Z.zp.a4.symm,fz.2.1.symm],by simp[Z.zp.a9,fTO.2.1.symm],by simp[Z.zp.b1,f1.2.1.symm],by simp[Z.c5.symm,f3.2.1.symm]⟩;have ap3:z∉[i3,c]/\TO∉[i3,c]/\i1∉[i3,c]/\i2∉[i3,c]:=⟨by simp[Z.c1.symm,fz.2.2.symm],by simp[Z.c3,fTO.2.2.symm],by simp[Z.c4,f1.2.2.symm],by simp[Z.c5,f2.2.2.symm]⟩;have hend:i=its.toArray.size\/(i<its.toArray.size/\i=jts.toArray.size)\/(i<its.toArray.size/\i<jts.toArray.size/\i=kts.toArray.size):=by
   rw[aE,aE,aE,<-rv.length,<-rw'.length,<-rk.length];rcases hl with z|⟨z1,z2⟩|⟨z1,z2,z3⟩
   ·exact .inl z.symm
   ·exact .inr (.inl ⟨z1,z2.symm⟩)
   ·exact .inr (.inr ⟨z1,z2,z3.symm⟩)
  unfold pyNext;refine ab (wpAny_attempt (wpAny_callSpecial?_slot (name:=Str.ofString "__next__") hT F.slot_zip_next (wpAny_call_entry F.slot_zip_next hT F.entry_zip_next (Dk Z D1 D2 D3 ap1 ap2 ap3 q1 q2 q3 (q4.with ob) (q5.with oc) (q6.with od) hend fun h' tk ex hk he=>?_) (F.args_zip_next_1 _))));obtain⟨o,ho,hce⟩:=he;refine ab (wpAny_isInstance (T := "StopIteration") (b:=true) ⟨o,ho,hce⟩ isSubtype_stop ?_);refine aq ⟨rfl,?_⟩;have hk':∀d o,d∉[z,TO,i1,i2,i3]->s.heap.get? d=some o->h'.get? d=some o:=fun d o hd q=>hk d o (fun w'=>hd (by simp[w'])) (fun w'=>hd (by simp[w'])) (fun w'=>hd (by simp[w'])) (fun w'=>hd (by simp[w'])) (fun w'=>hd (by simp[w'])) q;have sub:∀d∈[z,TO,i1,i2,i3],d∈[z,TI,TO,i1,i2,i3]:=fun d hd=>by
   simp only[bq,bf,or_false] at hd ⊢;rcases hd with z|z|z|z|z <;> simp[z]
  refine I.step (g':=s.gens) (d':=s.drawn) (ch:=[z,TO,i1,i2,i3]) (fun d hd=>?_) (fun d o _ _ hd q _=>hk' d o hd q)
   (fun d o _ _ hd q _=>⟨o.slots,hk' d o hd q⟩) (fun _ _ _ _ n=>n)
   (fun d o hd q=>⟨o,hk' d o hd q⟩) (fun _ _ e=>e) (fun _ _ _ e=>e) (fun b ps e=>⟨#[],by rw[e];simp⟩) (fun m hm=>?_) (fun d u e=>?_) I.bare
  ·obtain⟨_,f1,f2,f3,f4,f5⟩:=hf d (sub d hd);exact⟨f3,f1,f4,f5⟩
  ·obtain⟨o,es,ep,ho',r⟩:=hm;exact⟨o,es,ep,hk' _ o (fun w'=>(hf _ (sub _ w')).2.1 rfl) ho',r⟩
  ·have nf:∀d u,H d=some u->d∉[z,TO,i1,i2,i3]:=fun d u e w'=>by rw[(hf d (sub d w')).1] at e;cases e
   refine (I.hok d u e).stay (fun d' v hd q=>?_) (fun _ q=>q) fun _ _ q=>q;rcases hd with w'|w'
   ·rw[w'] at q ⊢;exact hk' d v (nf d u e) q
   ·exact hk' d' v (nf d' _ w') q
 self:=fun _ _ _ _ _ ⟨x,_⟩ h=>wpAny_pyIter_zip x h
section
variable {X:Cx}{e1 e2 e3:Expr}{p pos tp:Pos}{tes:List Expr}{tk:Nat}
noncomputable def IL (K:PySem.W.Frag)(ta:TA):TI:=fun σ H R=>ta σ H fun vs H1=>∃k1 k2 k3 a b c,vs=[.ref a,.ref b,.ref c]/\(∃xs,iM k1 K H1 a xs)/\(∃ys,iM k2 K H1 b ys)/\(∃zs,iM k3 K H1 c zs)/\R (Itz3 K k1 k2 k3 a b c) H1
theorem pi_zip3 {ta:TA}(hg:Gl X "zip")(hm:X.mg "zip" = none)(ha:PA X [e1,e2,e3] ta)(hs:starEach [e1,e2,e3] X.env=[(false,eval e1 X.env),(false,eval e2 X.env),(false,eval e3 X.env)]:=by rfl)(hs2:starEach [e2,e3] X.env=[(false,eval e2 X.env),(false,eval e3 X.env)]:=by rfl) :
  PI X (.Tuple tes tk tp) (.Call (.Name "zip" p) [e1,e2,e3] [] pos) (IL X.K ta):=by
 intro pins s σ H R I h;refine Call_ (ld_blt I hg hm boot_zip (PyProof.Rows.callWith_type1 (thn (ha pos pins s σ H _ I h) fun us s1 ⟨vs,H1,I1,r1,q1⟩=>?_) (by rw[hs,hs2]) (by rw[hs2];rfl)));obtain⟨k1,k2,k3,a,b,c,e,⟨xs,hx⟩,⟨ys,hy⟩,⟨zs,hzs⟩,q⟩:=q1;subst e;cases r1 with
 |cons ru r1 =>
  obtain⟨w',v',rfl,rw',rz'⟩:=cY.two r1;cases ru;cases rw';cases rz';obtain⟨its,rv,ob,_⟩:=I1.seqK hx;obtain⟨jts,rv2,oc,_⟩:=I1.seqK hy;obtain⟨kts,rv3,od,_⟩:=I1.seqK hzs;refine yX ob oc od fun h' hz hTI hTO it1 it2 it3 hk=>?_;have I2:cT X pins σ H1 { s1 with heap:=h' }:=I1.kept (t':=s1.toks) hk;have alt:=ob.lt;have blt:=oc.lt;have clt:=od.lt;generalize hn:s1.heap.objs.size=n at hz hTI hTO it1 it2 it3 alt blt clt;refine wpAny_pyIter_zip hz ⟨_,_,_,_,H1,rfl,I2,Af (k1:=k1) (k2:=k2) (k3:=k3) a b c (n+5) (n+3) (n+4) n (n+1) (n+2)
   ⟨⟨by simp,by simp,by simp,by simp,by simp,by simp,by simp,by simp,by simp,by simp⟩,by simp,by simp,by simp,by simp,by simp⟩ (fun d hd=>?_),⟨hz,hTI,⟨_,_,_,hTO⟩,it1,it2,it3⟩,fun d hd=>?_,q⟩
  ·have:n<=d:=by
    simp only[bq,bf,or_false] at hd;rcases hd with z|z|z|z|z <;> rw[z] <;> first|exact aC _|exact bQ _ _
   exact⟨aO (aF alt this),aO (aF blt this),aO (aF clt this)⟩
  ·have:s1.heap.objs.size<=d:=by
    rw[hn];simp only[bq,bf,or_false] at hd;rcases hd with z|z|z|z|z|z <;> rw[z] <;> first|exact aC _|exact bQ _ _
   exact I1.fpOk this (I1.hok.fresh this)
end
end L2
namespace DL
open PySem PySem.Spec PySem.SeqAt
open L2 (V Hp St HO VK TE TT TA TS TI TG Cx cT PE PT PA PS PSs PI PG jw jT dq eA cO cG cI cY dX EP TP AP SP jU It iM)
theorem tO:∀(xs ys zs:List D) (i:Nat) (d:D),(jH xs ys zs)[i]?=some d->∃x y z,xs[i]?=some x/\ys[i]?=some y/\zs[i]?=some z/\d=.tuple [x,y,z]
 |[],_,_,i,d,h=>by simp[jH] at h
 |_::_,[],_,i,d,h=>by simp[jH] at h
 |_::_,_::_,[],i,d,h=>by simp[jH] at h
 |x::xs,y::ys,z::zs,0,d,h=>by simp[jH] at h;exact⟨x,y,z,rfl,rfl,rfl,h.symm⟩
 | x::xs,y::ys,z::zs,i+1,d,h=>by
  obtain⟨a,b,c,h1,h2,h3,h4⟩:=tO xs ys zs i d (by simpa [jH] using h);exact⟨a,b,c,by simpa using h1,by simpa using h2,by simpa using h3,h4⟩
theorem tN:∀(xs ys zs:List D),(jH xs ys zs).length=min xs.length (min ys.length zs.length)
 |[],_,_=>by simp[jH]
 |_::_,[],_=>by simp[jH]
 |_::_,_::_,[]=>by simp[jH]
 | _::xs,_::ys,_::zs=>by
  have:=tN xs ys zs;simp only[jH,aJ];omega
theorem AM {K:Fg}{H:Hp}{M O:List Addr}{a b c:Addr}{k1 k2 k3:Bool}{ds es fs:List D}{vs us ws:List V}(h1:∀O' H',iZ M O H O' H'->iM k1 K H' a vs)(q1:Rs K H O ds vs)(h2:∀O' H',iZ M O H O' H'->iM k2 K H' b us)(q2:Rs K H O es us)
  (h3:∀O' H',iZ M O H O' H'->iM k3 K H' c ws) (q3:Rs K H O fs ws):mU K (L2.Itz3 K k1 k2 k3 a b c) (jH ds es fs) M O H:=by
 intro O2 H2 x;have g1:=h1 _ _ x;have g2:=h2 _ _ x;have g3:=h3 _ _ x;have p1:=q1.ext x;have p2:=q2.ext x;have p3:=q3.ext x;have l1:=p1.length;have l2:=p2.length;have l3:=p3.length;refine⟨fun i d e=>?_,vs,us,ws,g1,g2,g3,?_⟩
 ·obtain⟨dx,dy,dz,ex,ey,ez,rfl⟩:=tO ds es fs i d e;obtain⟨v,ev,rv⟩:=p1.get ex;obtain⟨u,eu,ru⟩:=p2.get ey;obtain⟨t,et,rt⟩:=p3.get ez;refine⟨⟨vs,us,ws,v,u,t,g1,g2,g3,ev,eu,et⟩,fun y H3 ⟨T,z1,z2,z3,e1,hT,eH,hz1,hz2,hz3⟩=>?_⟩;subst e1 eH;have a1:=hz1 vs g1;have a2:=hz2 us g2;have a3:=hz3 ws g3;rw[ev] at a1;rw[eu] at a2;rw[et] at a3;cases a1;cases a2;cases a3;have s2:dq H2 (eA H2 T (.tup [v,u,t])):=fun b o e=>by rw[cG (cI e hT)];exact e
  exact⟨s2,.tuple (.inl (.inl cO)) (.cons (rv.same s2) (.cons (ru.same s2) (.cons (rt.same s2) .nil)))⟩
 ·rw[tN];omega
section
variable {X:Cx}{e1 e2 e3:Expr}{f g k:AD}{p pos tp:Pos}{tes:List Expr}{tk:Nat}
theorem EC (hm:X.mg "zip" = none)(h1:DQ X e1 f)(h2:DQ X e2 g)(h3:DQ X e3 k)(hg:L2.Gl X "zip" := by rfl)(hs:starEach [e1,e2,e3] X.env=[(false,eval e1 X.env),(false,eval e2 X.env),(false,eval e3 X.env)]:=by rfl)(hs2:starEach [e2,e3] X.env=[(false,eval e2 X.env),(false,eval e3 X.env)]:=by rfl)(hs3:starEach [e3] X.env=[(false,eval e3 X.env)]:=by rfl) :
  DI X (.Tuple tes tk tp) (.Call (.Name "zip" p) [e1,e2,e3] [] pos) (xp f g k):=by
 have pa:PA X [e1,e2,e3] (L2.tCons (uQ X.K f) (L2.tCons (uQ X.K g) (L2.tCons (uQ X.K k) L2.tNil))):=L2.pa_cons h1 (L2.pa_cons h2 (L2.pa_cons h3 L2.pa_nil hs3) (by rw[hs2,hs3])) (by rw[hs,hs2]);refine (L2.pi_zip3 hg hm pa hs hs2).imp fun σ H Q zz=>?_;obtain ⟨ρ,O,M,lad,zs,hE,hf,kk⟩:=zz;unfold xp at hf;obtain⟨ds,hr,hf⟩:=Option.bind_eq_some_iff.mp hf;obtain⟨es,hr2,hf⟩:=Option.bind_eq_some_iff.mp hf;cases hr3:k ρ with
 |none=>rw[hr3] at hf;cases hf
 |some fs =>
  rw[hr3,av] at hf;cases hf;refine⟨ρ,O,M,lad,ds,hE,hr,fun v H1 k1 s1 ⟨a,vs,ev,qs1,g1⟩=>⟨ρ,O,M,lad,es,hE.same s1,hr2,fun u H2 k2 s2 ⟨b,us,eu,qs2,g2⟩=>⟨ρ,O,M,lad,fs,(hE.same s1).same s2,hr3,fun t H3 k3 s3 ⟨c,ws,et,qs3,g3⟩=>?_⟩⟩⟩;subst ev eu et;have i3:=iZ.id M O H3 (((hE.same s1).same s2).same s3).sub;have s23:=s2.trans s3;exact⟨k1,k2,k3,a,b,c,rfl,⟨vs,g1 _ _ (i3.back s23)⟩,⟨us,g2 _ _ (i3.back s3)⟩,⟨ws,g3 _ _ i3⟩,kk _ H3 (s1.trans s23)
   (AM (fun O' H' x=>g1 O' H' (x.back s23)) ((qs1.same s2).same s3) (fun O' H' x=>g2 O' H' (x.back s3)) (qs2.same s3) (fun O' H' x=>g3 O' H' x) qs3)⟩
end
end DL
namespace L2.Srt
open PySem PyProof.Rows
section
variable {prog:Program}{w:World}{A:Around}{E:Value->Shared->Prop}{s:Shared}{a₀:Array Keyed}{κ:PyProof.Rows.KeyKind}{kd:SortKind}{st:SortSt}
noncomputable abbrev Ia (st:SortSt):SortSt:=SortSt.mk' oneType' (arrOf st) (pendingOf st) (gallopOf st) (failedOf st)
structure Bs (a₀:Array Keyed)(kd:SortKind)(st:SortSt):Prop where
 b:SBase a₀ (Ia st)
 k:kindOf st=kd
theorem Bs.sz (B:Bs a₀ kd st):(arrOf st).size=a₀.size:=B.b.size
theorem Bs.put (B:Bs a₀ kd st){xs:Array Keyed}(p:xs.Perm (arrOf st)):Bs a₀ kd (setArr st xs):=⟨B.b.setArr p,B.k⟩
noncomputable def Cm (prog:Program)(w:World)(A:Around)(s:Shared)(κ:PyProof.Rows.KeyKind)(kd:SortKind):Prop :=
 ∀(E:Value->Shared->Prop) (x y:Value) (a b:κ.α) (Q:Bool->Shared->Prop),κ.keyOf x=some a->κ.keyOf y=some b->Q (κ.blt a b) s->wpAny (model prog w) A (keyLt' kd x y) Q E s
noncomputable abbrev ky (κ:PyProof.Rows.KeyKind)(st:SortSt)(i:Nat):κ.α:=KK κ (arrOf st) i
theorem less (C:Cm prog w A s κ kd)(O:KeysOf κ a₀)(B:Bs a₀ kd st){i j:Nat}(hi:i<a₀.size)(hj:j<a₀.size){Q:Option Bool->SortSt->Prop}(h:Q (some (κ.blt (ky κ st i) (ky κ st j))) st) :
  wpS (model prog w) A E s (ltAt' i j) Q st:=by
 obtain⟨x,p,a,e1,ka,g1⟩:=B.b.atK O hi;obtain⟨y,q,b,e2,kb,g2⟩:=B.b.atK O hj;have e1':(arrOf st)[i]?=some (x,p):=e1;have e2':(arrOf st)[j]?=some (y,q):=e2;have g1':ky κ st i=a:=g1;have g2':ky κ st j=b:=g2;rw[g1',g2'] at h;rw[ltAt'_eq];refine wpS_bind (wpS_get (show wpS _ _ _ _ (elem' (arrOf st) i>>=fun x=>elem' (arrOf st) j>>=fun y=>lt' x y) Q st from ?_));rw[elem'_eq,elem'_eq,e1',e2'];refine wpS_bind (wpS_pure (wpS_bind (wpS_pure ?_)));rw[lt'_eq];refine wpS_bind (wpS_get ?_);rw[B.k];exact wpS_bind (wpS_lift (wpAny_attempt (C _ x y a b _ ka kb ⟨rfl,wpS_pure h⟩)))
theorem Jg {xs:Array Keyed}{x:Nat}(h:SortedToK κ xs x)(h1:1<=x)(l:κ.kle (KK κ xs (x-1)) (KK κ xs x)):SortedToK κ xs (x+1):=fun i j ij jx=>by
 rcases Nat.lt_or_ge j x with z|z
 ·exact h i j ij z
 ·cases (show j=x by omega);rcases Nat.lt_or_ge i x with z'|z'
  ·exact KeyOrd.kle_trans (h i (x-1) ⋯ ⋯) l
  ·cases (show i=x by omega);exact KeyOrd.kle_refl _
theorem HY {xs:Array Keyed}{x:Nat}(h:NonIncK κ xs x)(h1:1<=x)(l:κ.kle (KK κ xs x) (KK κ xs (x-1))):NonIncK κ xs (x+1):=fun i j ij jx=>by
 rcases Nat.lt_or_ge j x with z|z
 ·exact h i j ij z
 ·cases (show j=x by omega);rcases Nat.lt_or_ge i x with z'|z'
  ·exact KeyOrd.kle_trans l (h i (x-1) ⋯ ⋯)
  ·cases (show i=x by omega);exact KeyOrd.kle_refl _
theorem one {xs:Array Keyed}:SortedToK κ xs 1:=fun i j ij j1=>by cases (show i=j by omega);exact KeyOrd.kle_refl _
theorem CV (C:Cm prog w A s κ kd)(O:KeysOf κ a₀)(B:Bs a₀ kd st){a n:Nat}(hn:n<=a₀.size)(h1:1<=a)(an:a<=n)(hs:SortedToK κ (arrOf st) a){Q:AscSt->SortSt->Prop}
  (h:∀m,a<=m->m<=n->SortedToK κ (arrOf st) m->(m<n->κ.klt (ky κ st m) (ky κ st (m-1)))->Q (none,m) st):wpS (model prog w) A E s (ascLoop a n) Q st:=by
 unfold ascLoop;refine wpS_forRange (I:=fun x c t=>t=st/\c=(none,x)/\SortedToK κ (arrOf st) x) (fun x c t ax xn ⟨et,ec,hx⟩=>?_) (fun c t ⟨et,ec,hx⟩=>?_) ⟨rfl,rfl,hs⟩
 ·subst et ec;refine wpS_bind (less C O B ⋯ ⋯ ?_);by_cases l:κ.blt (ky κ t x) (ky κ t (x-1))=true
  ·rw[l];exact wpS_pure (h x ax ⋯ hx fun _=>l)
  ·rw[Bool.not_eq_true] at l;rw[l];exact wpS_pure ⟨rfl,rfl,Jg hx ⋯ l⟩
 ·subst et ec;rw[show max a n=n by omega] at hx ⊢;exact h n an (aC n) hx fun z=>absurd z (bt n)
abbrev IX (κ:PyProof.Rows.KeyKind)(a₀:Array Keyed)(kd:SortKind)(n:Nat)(Q:Option Nat->SortSt->Prop):Prop:=∀m t,Bs a₀ kd t->1<=m->m<=n->SortedToK κ (arrOf t) m->Q (some m) t
theorem turned (C:Cm prog w A s κ kd)(O:KeysOf κ a₀)(B:Bs a₀ kd st){m n:Nat}(hn:n<=a₀.size)(h1:1<=m)(mn:m<=n)(hs:NonIncK κ (arrOf st) m){Q:Option Nat->SortSt->Prop}(h:IX κ a₀ kd n Q) :
  wpS (model prog w) A E s (tail3 m n) Q st:=by
 have B':=B.put (mirror_perm (arrOf st) 0 m ((m-0)/2));have z:m<=(arrOf st).size:=by rw[B.sz];omega
 unfold tail3;refine wpS_bind (wpS_reverse (wpS_bind (CV C O B' hn h1 mn (fun i j ij jm=>?_) fun k k1 k2 k3 _=>wpS_pure (h k _ B' ⋯ k2 k3))));show κ.kle (KK κ (mirror (arrOf st) 0 m ((m-0)/2)) i) (KK κ (mirror (arrOf st) 0 m ((m-0)/2)) j);rw[KK_mirror z i,KK_mirror z j,if_pos ⟨bw _,by omega⟩,if_pos ⟨bw _,by omega⟩];exact hs _ _ ⋯ ⋯
structure G2 (κ:PyProof.Rows.KeyKind)(t:SortSt)(m q:Nat):Prop where
 dn:NonIncK κ (arrOf t) m
 q1:q+1<=m
 eq:∀i,m-(q+1)<=i->i<m->ky κ t i=ky κ t (m-1)
theorem HV (C:Cm prog w A s κ kd)(O:KeysOf κ a₀)(B:Bs a₀ kd st){m n:Nat}(hn:n<=a₀.size)(h1:1<=m)(mn:m<=n)(hs:NonIncK κ (arrOf st) m){Q:DescSt->SortSt->Prop}
  (h:∀k q t,Bs a₀ kd t->m<=k->k<=n->G2 κ t k q->Q (none,k,q) t):wpS (model prog w) A E s (descLoop m n) Q st:=by
 unfold descLoop;have alone:∀{t:SortSt}{k:Nat},NonIncK κ (arrOf t) k->1<=k->G2 κ t k 0:=fun {t k} d k1=>⟨d,by omega,fun i i1 i2=>by rw[show i=k-1 by omega]⟩;refine wpS_forRange (I:=fun x c t=>∃q,c=(none,x,q)/\Bs a₀ kd t/\G2 κ t x q) (fun x c t mx xn ⟨q,ec,Bt,F⟩=>?_) (fun c t ⟨q,ec,Bt,F⟩=>?_) ⟨0,rfl,B,alone hs h1⟩
 ·subst ec;have z:x<=(arrOf t).size:=by rw[Bt.sz];omega
  dsimp only;refine wpS_bind (less C O Bt ⋯ ⋯ ?_);by_cases l:κ.blt (ky κ t x) (ky κ t (x-1))=true
  ·rw[l];have same:∀i,KK κ (mirror (arrOf t) (x-(q+1)) x ((x-(x-(q+1)))/2)) i=ky κ t i:=KK_mirror_equal z F.eq;dsimp only;rw[if_pos rfl];by_cases hq:q>0
   ·rw[if_pos hq];refine wpS_bind (wpS_reverse (wpS_pure ⟨0,rfl,Bt.put (mirror_perm _ _ _ _),alone (fun i j ij jx=>?_) ⋯⟩));show κ.kle (KK κ (mirror (arrOf t) _ _ _) j) (KK κ (mirror (arrOf t) _ _ _) i);rw[same,same];exact HY F.dn ⋯ (KeyOrd.kle_of_klt l) i j ij jx
   ·rw[if_neg hq];exact wpS_pure ⟨0,rfl,Bt,alone (HY F.dn ⋯ (KeyOrd.kle_of_klt l)) ⋯⟩
  ·rw[Bool.not_eq_true] at l;rw[l];dsimp only;rw[if_neg Bool.false_ne_true];refine wpS_bind (less C O Bt ⋯ ⋯ ?_);by_cases g:κ.blt (ky κ t (x-1)) (ky κ t x)=true
   ·rw[g];exact wpS_pure (h x q t Bt mx ⋯ F)
   ·rw[Bool.not_eq_true] at g;rw[g];have ex:ky κ t x=ky κ t (x-1):=κ.total _ _ l g;refine wpS_pure ⟨q+1,rfl,Bt,⟨HY F.dn ⋯ g,by have:=F.q1;omega,fun i i1 i2=>?_⟩⟩;rw[Nat.add_sub_cancel,ex];rcases Nat.lt_or_ge i x with z1|z1
    ·exact F.eq i ⋯ z1
    ·rw[show i=x by omega,ex]
 ·subst ec;rw[show max m n=n by omega] at F ⊢;exact h n q t Bt mn (aC n) F
theorem HU (C:Cm prog w A s κ kd)(O:KeysOf κ a₀)(B:Bs a₀ kd st){m n:Nat}(hn:n<=a₀.size)(mn:m+1<=n)(hs:NonIncK κ (arrOf st) (m+1)){Q:Option Nat->SortSt->Prop}(h:IX κ a₀ kd n Q) :
  wpS (model prog w) A E s (descPart m n) Q st:=by
 unfold descPart;refine wpS_bind (wpS_lift (wpAny_rule ⟨rfl,wpS_bind (HV C O B hn ⋯ mn hs fun k q t Bt mk kn F=>?_)⟩));have z:k<=(arrOf t).size:=by rw[Bt.sz];omega
 have same:∀i,KK κ (mirror (arrOf t) (k-(q+1)) k ((k-(k-(q+1)))/2)) i=ky κ t i:=KK_mirror_equal z F.eq;dsimp only;by_cases hq:q>0
 ·rw[if_pos hq];refine wpS_bind (wpS_reverse (turned C O (Bt.put (mirror_perm _ _ _ _)) hn ⋯ kn (fun i j ij jk=>?_) h));show κ.kle (KK κ (mirror (arrOf t) _ _ _) j) (KK κ (mirror (arrOf t) _ _ _) i);rw[same,same];exact F.dn i j ij jk
 ·rw[if_neg hq];exact turned C O Bt hn ⋯ kn F.dn h
theorem GO (C:Cm prog w A s κ kd)(O:KeysOf κ a₀)(B:Bs a₀ kd st){n:Nat}(hn:n<=a₀.size)(h1:1<=n){Q:Option Nat->SortSt->Prop}(h:IX κ a₀ kd n Q):wpS (model prog w) A E s (countRun' 0 n) Q st:=by
 rw[countRun0_eq];refine wpS_bind (CV C O B hn (aC 1) h1 one fun m m1 mn hs hl=>?_);dsimp only;by_cases e:m=n
 ·rw[if_pos (beq_iff_eq.mpr e)];exact wpS_pure (h m st B m1 mn hs)
 ·have l:=hl ⋯;rw[if_neg (fun z=>e (beq_iff_eq.mp z))];by_cases m2:m>1
  ·rw[if_pos m2];refine wpS_bind (less C O B ⋯ ⋯ ?_);by_cases r:κ.blt (ky κ st 0) (ky κ st (m-1))=true
   ·rw[r];exact wpS_pure (h m st B m1 mn hs)
   ·rw[Bool.not_eq_true] at r;rw[r];have alike:∀i,0<=i->i<m->ky κ st i=ky κ st (m-1):=fun i _ im=>κ.total _ _ (KeyOrd.kle_trans r (hs 0 i (bw _) im)) (hs i (m-1) ⋯ ⋯);have z:m<=(arrOf st).size:=by rw[B.sz];omega
    have same:∀i,KK κ (mirror (arrOf st) 0 m ((m-0)/2)) i=ky κ st i:=KK_mirror_equal z alike;have low:NonIncK κ (arrOf st) m:=fun i j ij jm=>by rw[show KK κ (arrOf st) j=_ from alike j (bw _) jm,show KK κ (arrOf st) i=_ from alike i (bw _) ⋯];exact KeyOrd.kle_refl _
    refine wpS_bind (wpS_reverse (HU C O (B.put (mirror_perm _ _ _ _)) hn ⋯ (fun i j ij jm=>?_) h));show κ.kle (KK κ (mirror (arrOf st) _ _ _) j) (KK κ (mirror (arrOf st) _ _ _) i);rw[same,same];exact HY low m1 (KeyOrd.kle_of_klt l) i j ij jm
  ·rw[if_neg m2];cases (show m=1 by omega);exact HU C O B hn ⋯ (HY (fun i j ij j1=>by cases (show i=j by omega);exact KeyOrd.kle_refl _) (aC 1) (KeyOrd.kle_of_klt l)) h
end
section
variable {prog:Program}{w:World}{A:Around}{E:Value->Shared->Prop}{s:Shared}{a₀:Array Keyed}{κ:PyProof.Rows.KeyKind}{kd:SortKind}{st:SortSt}
structure IZ (κ:PyProof.Rows.KeyKind)(t:SortSt)(k l r:Nat):Prop where
 lr:l<=r
 rk:r<=k
 lo:∀i,i<l->κ.kle (ky κ t i) (ky κ t k)
 hi:∀i,r<=i->i<k->κ.klt (ky κ t k) (ky κ t i)
theorem IZ.slid {t:SortSt}{k l:Nat}(G:IZ κ t k l l)(hs:SortedToK κ (arrOf t) k)(z:k<(arrOf t).size):SortedToK κ (bubble (arrOf t) k (k-l)) (k+1):=fun i j ij jk=>by
 have lk:=G.rk;have at_:∀i,KK κ (bubble (arrOf t) k (k-l)) i=if i=l then ky κ t k else if l<i/\i<=k then ky κ t (i-1) else ky κ t i:=fun i=>by
  rw[KK_bubble z (Nat.sub_le k l) i,show k-(k-l)=l by omega]
 rw[at_ i,at_ j];by_cases i1:i=l
 ·rw[if_pos i1];by_cases j1:j=l
  ·rw[if_pos j1];exact KeyOrd.kle_refl _
  ·rw[if_neg j1,if_pos ⋯];exact KeyOrd.kle_of_klt (G.hi _ ⋯ ⋯)
 ·rw[if_neg i1];by_cases i2:l<i/\i<=k
  ·rw[if_pos i2,if_neg ⋯,if_pos ⋯];exact hs _ _ ⋯ ⋯
  ·rw[if_neg i2];by_cases j1:j=l
   ·rw[if_pos j1];exact G.lo i ⋯
   ·rw[if_neg j1];by_cases j2:l<j/\j<=k
    ·rw[if_pos j2];exact hs _ _ ⋯ ⋯
    ·rw[if_neg j2];exact hs _ _ ij ⋯
theorem Eu (C:Cm prog w A s κ kd)(O:KeysOf κ a₀)(B:Bs a₀ kd st){n ok:Nat}(hn:n<=a₀.size)(o1:1<=ok)(on:ok<=n)(hs:SortedToK κ (arrOf st) ok){Q:Bool->SortSt->Prop}
  (h:∀t,Bs a₀ kd t->SortedToK κ (arrOf t) n->Q true t):wpS (model prog w) A E s (binarySort' 0 n ok) Q st:=by
 rw[binarySort'_eq];simp only[bE];rw[show max ok 1=ok by omega];refine wpS_bind (wpS_forRange (I:=fun k c t=>c=(none,())/\Bs a₀ kd t/\SortedToK κ (arrOf t) k) (fun k c t ak kn ⟨ec,Bt,hk⟩=>?_) (fun c t ⟨ec,Bt,hk⟩=>?_) ⟨rfl,B,hs⟩)
 ·subst ec;have z:k<(arrOf t).size:=by rw[Bt.sz];omega
  refine wpS_bind (wpS_forRange (I:=fun x c t'=>t'=t/\∃l r,c=(none,l,r)/\r-l<=k-x/\IZ κ t k l r) (fun x c t' _ xk ⟨et,l,r,ec,d,G⟩=>?_) (fun c t' ⟨et,l,r,ec,d,G⟩=>?_)
   ⟨rfl,0,k,rfl,by omega,⟨by omega,by omega,fun i z=>absurd z (Nat.not_lt_zero i),fun i z1 z2=>absurd z2 ⋯⟩⟩)
  ·subst et ec;have lr:=G.lr;have rk:=G.rk;dsimp only;by_cases done:l ≥ r
   ·have e:l=r:=by omega
    subst e;rw[if_pos done];refine wpS_pure ?_;show wpS _ _ _ _ (moveDown' k l>>=fun _=>pure (ForInStep.yield (none,()))) _ t';rw[moveDown'_eq];exact wpS_bind (wpS_modify (wpS_pure ⟨rfl,Bt.put (bubble_perm _ _ _),G.slid hk z⟩))
   ·rw[if_neg done];refine wpS_bind (less C O Bt ⋯ ⋯ ?_);by_cases c:κ.blt (ky κ t' k) (ky κ t' ((l+r)/2))=true
    ·rw[c];exact wpS_pure ⟨rfl,l,(l+r)/2,rfl,by omega,⟨by omega,by omega,G.lo,fun i i1 i2=>KeyOrd.klt_of_klt_of_kle c (hk _ _ i1 i2)⟩⟩
    ·rw[Bool.not_eq_true] at c;rw[c];exact wpS_pure ⟨rfl,(l+r)/2+1,r,rfl,by omega,⟨by omega,rk,fun i i1=>KeyOrd.kle_trans (hk i ((l+r)/2) ⋯ ⋯) c,G.hi⟩⟩
  ·subst et ec;have lr:=G.lr;have e:l=r:=by omega
   subst e;show wpS _ _ _ _ (moveDown' k l>>=fun _=>pure (ForInStep.yield (none,()))) _ t';rw[moveDown'_eq];exact wpS_bind (wpS_modify (wpS_pure ⟨rfl,Bt.put (bubble_perm _ _ _),G.slid hk z⟩))
 ·subst ec;rw[show max ok n=n by omega] at hk;exact wpS_pure (h t Bt hk)
theorem IE (C:Cm prog w A s κ kd)(O:KeysOf κ a₀)(B:Bs a₀ kd st)(h2:2<=a₀.size)(h64:a₀.size<64){Q:Unit->SortSt->Prop}
  (h:∀t,(arrOf t).Perm a₀->failedOf t=none->SortedToK κ (arrOf t) a₀.size->Q () t):wpS (model prog w) A E s sortRuns' Q st:=by
 have mr:minRun' a₀.size a₀.size 0=a₀.size:=by
  rw[show a₀.size=(a₀.size-1)+1 by omega,minRun'_succ,if_pos ⋯]
 rw[sortRuns'_eq];refine wpS_bind (wpS_get ?_);dsimp only;simp only[B.sz,mr];refine wpS_bind (wpS_forRange (I:=fun x c t=>(x=0/\c=(none,0)/\Bs a₀ kd t)\/(0<x/\c=(none,a₀.size)/\(arrOf t).Perm a₀/\failedOf t=none/\pendingOf t=#[(0,a₀.size,0)]/\SortedToK κ (arrOf t) a₀.size)) (fun x c t _ xn hx=>?_) (fun c t hx=>?_) (.inl ⟨rfl,rfl,B⟩))
 ·rcases hx with ⟨ex,ec,Bt⟩|⟨x0,ec,p1,p2,p3,p4⟩
  ·subst ex ec;have fin:∀t,Bs a₀ kd t->SortedToK κ (arrOf t) a₀.size->(arrOf (setPending t ((pendingOf t).push (0,a₀.size,0)))).Perm a₀/\failedOf (setPending t ((pendingOf t).push (0,a₀.size,0)))=none/\pendingOf (setPending t ((pendingOf t).push (0,a₀.size,0)))=#[(0,a₀.size,0)] ∧
     SortedToK κ (arrOf (setPending t ((pendingOf t).push (0,a₀.size,0)))) a₀.size:=fun t Bt hs=>⟨Bt.b.perm,Bt.b.failed,(by have e:pendingOf t=#[]:=Bt.b.pend;show (pendingOf t).push _=_;rw[e];rfl),hs⟩
   dsimp only;rw[if_neg ⋯];simp only[Nat.sub_zero,Nat.min_self,bE];refine wpS_bind (GO C O Bt (aC _) ⋯ fun m t2 B2 m1 mn hs2=>?_);dsimp only;by_cases lt:m<a₀.size
   ·rw[if_pos lt];refine wpS_bind (wpS_lift (wpAny_rule ⟨rfl,wpS_bind (Eu C O B2 (aC _) m1 mn hs2 fun t3 B3 hs3=>?_)⟩));simp only[Bool.not_true,Bool.false_eq_true,if_false];refine wpS_bind (wpS_get ?_);rw[show (pendingOf t3).back?=none by rw[show pendingOf t3=#[] from B3.b.pend];rfl];exact wpS_bind (wpS_modify (wpS_pure (.inr ⟨Nat.succ_pos _,rfl,fin t3 B3 hs3⟩)))
   ·cases (show m=a₀.size by omega);rw[if_neg lt];refine wpS_bind (wpS_get ?_);rw[show (pendingOf t2).back?=none by rw[show pendingOf t2=#[] from B2.b.pend];rfl];exact wpS_bind (wpS_modify (wpS_pure (.inr ⟨Nat.succ_pos _,rfl,fin t2 B2 hs2⟩)))
  ·subst ec;dsimp only;rw[if_pos (aC _)];refine wpS_pure (wpS_bind (wpS_forRange (I:=fun _ c t'=>t'=t/\c=(none,())) (fun y c t' _ _ ⟨et,ec⟩=>?_) (fun c t' ⟨et,ec⟩=>?_) ⟨rfl,rfl⟩))
   ·subst et ec;refine wpS_bind (wpS_get ?_);rw[if_pos (by rw[p3];exact aC 1)];exact wpS_pure (wpS_pure (h _ p1 p2 p4))
   ·subst et ec;exact wpS_pure (h _ p1 p2 p4)
 ·rcases hx with ⟨ex,_⟩|⟨x0,ec,p1,p2,p3,p4⟩
  ·omega
  ·subst ec;dsimp only;refine wpS_bind (wpS_forRange (I:=fun _ c t'=>t'=t/\c=(none,())) (fun y c t' _ _ ⟨et,ec⟩=>?_) (fun c t' ⟨et,ec⟩=>?_) ⟨rfl,rfl⟩)
   ·subst et ec;refine wpS_bind (wpS_get ?_);rw[if_pos (by rw[p3];exact aC 1)];exact wpS_pure (wpS_pure (h _ p1 p2 p4))
   ·subst et ec;exact wpS_pure (h _ p1 p2 p4)
end
def lR (h:Heap)(v:Value)(p:Int×Int):Prop:=∃(c:Addr) (t u:Tok),v=.ref c/\h.IsTuple c #[.int p.1 t,.int p.2 u]
theorem lR.inj {h:Heap}{v:Value}{p q:Int×Int}(x:lR h v p)(y:lR h v q):p=q:=by
 obtain⟨c,t,u,rfl,o,e,_,n,d⟩:=x;obtain⟨c',t',u',e',o',e2,_,n',d'⟩:=y;cases e';rw[e] at e2;cases e2;rw[d] at d';cases p;cases q;simp only[Data.seq.injEq] at d';have z:=congrArg Array.toList d'.1;simp only[List.cons.injEq,Value.int.injEq] at z;rw[z.1.1,z.2.1.1]
inductive Prs (h:Heap):List Value->List (Int×Int)->Prop where
 |nil:Prs h [] []
 |cons {v:Value}{p:Int×Int}{vs:List Value}{ps:List (Int×Int)}:lR h v p->Prs h vs ps->Prs h (v::vs) (p::ps)
noncomputable def pLt (p q:Int×Int):Bool:=decide (p.1<q.1\/(p.1=q.1/\p.2<q.2))
open Classical in
@[reducible] noncomputable def prKd (h:Heap):PyProof.Rows.KeyKind where
 α:=Int×Int
 blt:=pLt
 irrefl:=fun a=>by simp[pLt]
 trans:=fun a b c x y=>by simp only[pLt,decide_eq_true_eq] at *;omega
 negTrans:=fun a b c x=>by simp only[pLt,decide_eq_true_eq] at *;omega
 total:=fun a b x y=>by
  simp only[pLt,decide_eq_false_iff_not] at *;cases a;cases b;simp only[Prod.mk.injEq] at *;omega
 keyOf:=fun v=>if e:∃p,lR h v p then some e.choose else none
 dflt:=(0,0)
open Classical in
theorem key_of {h:Heap}{v:Value}{p:Int×Int}(x:lR h v p):(prKd h).keyOf v=some p:=by
 have e:∃p,lR h v p:=⟨p,x⟩;show (if e:∃p,lR h v p then some e.choose else none)=some p;rw[dif_pos e,e.choose_spec.inj x]
open Classical in
theorem BQ {h:Heap}{v:Value}{p:Int×Int}(x:(prKd h).keyOf v=some p):lR h v p:=by
 have x':(if e:∃p,lR h v p then some e.choose else none)=some p:=x;split at x'
 ·rename_i e;cases x';exact e.choose_spec
 ·cases x'
section
variable {prog:Program}{w:World}{A:Around}{E:Value->Shared->Prop}{s:Shared}
theorem vu (f:Bool)(x y:Value):keyLt' (tuples' f) x y=(Builtin.List.listItems x>>=fun xs=>Builtin.List.listItems y>>=fun ys=>do
  for ((p,q),i) in (xs.toList.zip ys.toList).zipIdx do
   if !(<-eqBool p q) then return <-oneLt' (f&&i==0) p q
  return xs.size<ys.size):=rfl
theorem yh {a b:Int}{t u:Tok}{Q:Bool->Shared->Prop}(h:Q (decide (a<b)) s):wpAny (model prog w) A (oneLt' false (.int a t) (.int b u)) Q E s:=by
 rw[oneLt'_eq];simp only[Bool.false_eq_true,if_false];exact ab (show wpAny (model prog w) A (compareOp .Lt (.int a t) (.int b u)) _ E s from lt_int (wpAny_truthy_bool h))
theorem BO {h:Heap}(k:∀v p,lR h v p->lR s.heap v p):Cm prog w A s (prKd h) (tuples' true):=by
 intro E x y a b Q hx hy q;obtain⟨c,t,u,rfl,o,e,_,n,d⟩:=k _ _ (BQ hx);obtain⟨c',t',u',rfl,o',e',_,n',d'⟩:=k _ _ (BQ hy);rw[vu];refine ab (listItems_at e d (ab (listItems_at e' d' ?_)));simp only[JI,List.zip_nil_right,JC,JN,bV,JB];have q':Q (pLt a b) s:=q;refine ab (ab (ab (wpAny_eqBool_int ?_)));by_cases e1:a.1=b.1
 ·rw[show (a.1==b.1)=true from beq_iff_eq.mpr e1];refine aq (ab (ab (wpAny_eqBool_int ?_)));by_cases e2:a.2=b.2
  ·rw[show (a.2==b.2)=true from beq_iff_eq.mpr e2];have:pLt a b=false:=by simp only[pLt,decide_eq_false_iff_not];omega
   rw[this] at q';exact aq (aq (aq q'))
  ·rw[show (a.2==b.2)=false from beq_eq_false_iff_ne.mpr e2];have:pLt a b=decide (a.2<b.2):=by simp only[pLt,e1,true_and,Int.lt_irrefl,false_or]
   rw[this] at q';exact ab (yh (aq (aq (aq q'))))
 ·rw[show (a.1==b.1)=false from beq_eq_false_iff_ne.mpr e1];have:pLt a b=decide (a.1<b.1):=by simp only[pLt,e1,false_and,or_false]
  rw[this] at q';exact ab (oneLt_int (aq (aq (aq q'))))
theorem o8 (v:Value):firstOfTuple' v=(typeOf v>>=fun t=>if (t != .type "tuple")=true then pure none else Builtin.List.listItems v>>=fun xs=>pure xs[0]?):=rfl
theorem Cv {v:Value}{p:Int×Int}(x:lR s.heap v p){Q:Option Value->Shared->Prop}(h:∀t,Q (some (.int p.1 t)) s):wpAny (model prog w) A (firstOfTuple' v) Q E s:=by
 obtain⟨c,t,u,rfl,o,e,hc,n,d⟩:=x;rw[o8];refine ab (wpAny_typeOf (T := "tuple") ⟨o,e,hc⟩ ?_);exact ab (listItems_at e d (aq (h t)))
theorem uf:∀{vs:List Value}{ps:List (Int×Int)},Prs s.heap vs ps->∀{Q:List (Option Value)->Shared->Prop},(∀ts:List Tok,ts.length=ps.length->Q ((ps.zip ts).map fun x=>some (.int x.1.1 x.2)) s)->wpAny (model prog w) A (vs.mapM firstOfTuple') Q E s
 |_,_,.nil,Q,h=>by rw[List.mapM_nil];exact aq (h [] rfl)
 | _,_,.cons x r,Q,h=>by
  rw[List.mapM_cons];refine ab (Cv x fun t=>ab (uf r fun ts hl=>aq ?_));exact h (t::ts) (by rw[aJ,aJ,hl])
theorem tR:∀(xs:List (Int×Tok)),(xs.map fun x=>Value.int x.1 x.2).mapM typeOf=pure (xs.map fun _=>Value.type "int")
 |[]=>by simp
 | x::xs=>by
  rw[az,List.mapM_cons,tR xs];show (pure (Value.type "int")>>=fun b=>pure _>>=fun bs=>pure (b::bs))=_;simp
theorem Em {vs:List Value}{ps:List (Int×Int)}(hp:Prs s.heap vs ps)(hn:ps≠[]){Q:SortKind->Shared->Prop}(h:Q (tuples' true) s):wpAny (model prog w) A (keyKind' vs.toArray) Q E s:=by
 rw[keyKind'_eq,List.mapM_toArray,<-bind_pure_comp];refine ab (ab (uf hp fun ts hl=>aq ?_));have e1:((ps.zip ts).map fun x=>some (Value.int x.1.1 x.2)).toArray.all (fun x=>x.isSome)=true:=by simp
 have e2:(((ps.zip ts).map fun x=>some (Value.int x.1.1 x.2)).toArray.filterMap id)=(((ps.zip ts).map fun x=>(x.1.1,x.2)).map fun x=>Value.int x.1 x.2).toArray:=by simp[Function.comp_def]
 rw[if_pos e1,e2];refine ab (wpAny_rule ?_);rw[oneTypeOnly'_eq,List.mapM_toArray,tR];have hne:(ps.zip ts).map (fun x=>(x.1.1,x.2))≠[]:=by
  cases ps with
  |nil=>exact absurd rfl hn
  |cons p ps =>
   cases ts with
   |nil=>cases hl
   |cons t ts=>simp
 generalize (ps.zip ts).map (fun x=>(x.1.1,x.2))=zs at hne;cases zs with
 |nil=>exact absurd rfl hne
 |cons z zs =>
  have all:((z::zs).map fun _=>Value.type "int").toArray.all (fun t=>t==Value.type "int")=true:=by simp only[List.all_toArray,List.all_map,bH];intro _ _;rfl
  simp only[map_pure,pure_bind,az];rw[show (Value.type "int" :: zs.map fun _=>Value.type "int").toArray[0]?=some (Value.type "int") by simp];rw[az] at all;simp only[all,if_true,pure_bind];exact aq h
end
section
variable {prog:Program}{w:World}{A:Around}{E:Value->Shared->Prop}{s:Shared}
theorem yG {l:Addr}{vs:List Value}{Q:List Value->Shared->Prop}(hl:s.heap.IsTuple l vs.toArray)(hz:vs.length<=sizeLine)
  (h:Q vs { s with heap:=(s.heap.push (seqObj "list" #[] 0)).update s.heap.objs.size (Obj.mapSeq (·++vs.toArray)) }):wpAny (model prog w) A (collect (.ref l)) Q E s:=by
 obtain⟨o,ho,hc,n,hd⟩:=hl;have at0:(s.heap.push (seqObj "list" #[] 0)).get? s.heap.objs.size=some (seqObj "list" #[] 0):=aD _ rfl;have at1:(s.heap.push (seqObj "list" #[] 0)).get? l=some o:=ae _ ho;have e0:((#[]:Array Value)++vs.toArray).toList=vs:=by simp
 unfold collect;refine ab (wpAny_runValue (codeAny_builtin entry_proto_collect' ?_));show wpAny _ _ (newList []>>=fun x=>again (.builtin "list.__iadd__" ⟨[x,.ref l],[]⟩)) _ _ s;refine ab (wpAny_newList (aq ⟨Code.quiet_builtin _ (by decide +kernel),codeAny_builtin entry_list_iadd' (show wpAny _ _ (Builtin.List.listExtendWith (.ref s.heap.objs.size) (.ref l) (.ref s.heap.objs.size)) _ _ { s with heap:=s.heap.push (seqObj "list" #[] 0) } from ?_)⟩));unfold Builtin.List.listExtendWith;refine ab (wpAny_typeOf (T := "tuple") ⟨o,at1,hc⟩ ?_);rw[if_pos (by rw[show (Value.type "tuple" == Value.type "tuple")=true from rfl,Bool.or_true])];refine ab (listItems_at at1 hd (ab (listItems_at at0 rfl ?_)));rw[if_neg (by rw[show (#[]:Array Value).isEmpty=true from rfl];simp)];refine ab (listUpdate_at at0 rfl (aq ?_) (bw _) (by rw[Array.size_append,aE];simp only[aE,bO];omega));refine ab (wpAny_load (get?_update_seq at0 _) (show wpAny _ _ (pure ((#[]:Array Value)++vs.toArray).toList) Q E _ from ?_));rw[e0];exact aq h
theorem DC {a:Addr}{vs:List Value}{ps:List (Int×Int)}{n:Nat}{h₀:Heap}{P:Fin->Shared->Prop}(ho:s.heap.get? a=some (seqObj "list" vs.toArray n))(hp:Prs h₀ vs ps)(hne:∀v p,lR h₀ v p->v≠.ref a)(hk:∀b o,s.heap.get? b=some o->h₀.get? b=some o\/b=a\/True)
  (ks:∀v p,lR h₀ v p->lR s.heap v p) (h64:vs.length<64)
  (h:∀t:SortSt,(arrOf t).Perm (pairsOf vs)->SortedToK (prKd h₀) (arrOf t) (pairsOf vs).size->P (.done (.ret .none)) { s with heap:=sortedHeap s.heap a vs ((arrOf t).map (·.2)) }) :
  wpAny (model prog w) A (Builtin.«list.sort» ⟨[.ref a],[]⟩) P E s:=by
 have alt:a<s.heap.objs.size:=aB ho;have hz:vs.toArray.size=vs.length:=by simp
 obtain⟨e1,g1⟩:∃e,(s.heap.update a (Obj.mapSeq fun _=>#[])).get? a=some (seqObj "list" #[] e):=⟨_,get?_update_seq ho _⟩;have up:∀b o,b≠a->s.heap.get? b=some o->(((s.heap.update a (Obj.mapSeq fun _=>#[])).push (seqObj "tuple" vs.toArray 0)).push (seqObj "list" #[] 0)).get? b=some o:=fun b o ne e =>
  ae _ (ae _ ((Heap.get?_update_ne _ _ _ _ ne).trans e))
 have g2:(((s.heap.update a (Obj.mapSeq fun _=>#[])).push (seqObj "tuple" vs.toArray 0)).push (seqObj "list" #[] 0)).get? a=some (seqObj "list" #[] e1):=ae _ (ae _ g1);have prs:∀v p,lR h₀ v p->lR (((s.heap.update a (Obj.mapSeq fun _=>#[])).push (seqObj "tuple" vs.toArray 0)).push (seqObj "list" #[] 0)) v p:=fun v p x=>by
  obtain⟨c,t,u,e,o,q1,q2⟩:=ks v p x;have ne:c≠a:=fun z=>hne v p x (by rw[e,z]);exact⟨c,t,u,e,o,up c o ne q1,q2⟩
 rw[list_sort_plain];refine ab (listItems_at ho rfl (ab (listUpdate_at ho rfl (ab (seqEpoch_at g1 rfl (ab (wpAny_newTuple (ab (wpAny_newList (bD ?_))))))))));show wpAny (model prog w) A _ P E { s with heap:=((s.heap.update a (Obj.mapSeq fun _=>#[])).push (seqObj "tuple" vs.toArray 0)).push (seqObj "list" #[] 0) };have small:∀{xs:Array Keyed},xs.Perm (pairsOf vs)->(xs.map (·.2)).size<=sizeLine+1:=fun {xs} p=>by rw[Array.size_map,p.size_eq,pairsOf_size,sizeLine_eq];omega
 dsimp only;by_cases two:vs.toArray.size<2
 ·rw[if_pos two,if_pos two];refine ab (aq ?_);rw[StateT.run_pure];refine ab (aq (ab (seqEpoch_at g2 rfl (ab (listUpdate_at g2 rfl ?_ (hsz2:=small (Array.Perm.refl _)))))));simp only[bne_self_eq_false,Bool.false_eq_true,if_false];refine aq (h (SortSt.mk' general' (vs.toArray.zip vs.toArray) #[] 7 none) (Array.Perm.refl _) fun i j ij jn=>?_);rw[pairsOf_size] at jn;cases (show i=j by omega);exact KeyOrd.kle_refl _
 ·rw[if_neg two,if_neg two];have all:∀{us:List Value}{qs:List (Int×Int)},Prs h₀ us qs->Prs (((s.heap.update a (Obj.mapSeq fun _=>#[])).push (seqObj "tuple" vs.toArray 0)).push (seqObj "list" #[] 0)) us qs:=fun {us qs} x=>by
   induction x with
   |nil=>exact .nil
   |cons y _ ih=>exact .cons (prs _ _ y) ih
  have keys:KeysOf (prKd h₀) (pairsOf vs):=fun p hm=>by
   have:∀{us:List Value}{qs:List (Int×Int)},Prs h₀ us qs->∀v∈us,∃q,lR h₀ v q:=fun {us qs} x=>by
    induction x with
    |nil=>exact fun v z=>nomatch z
    |cons y _ ih=>exact fun v z=>(List.mem_cons.mp z).elim (fun e=>⟨_,e▸y⟩) (ih v)
   have hm':p.1∈vs:=by
    have z:p∈(vs.toArray.zip vs.toArray).toList:=hm;rw[Array.toList_zip] at z;exact (JO z).1
   obtain⟨q,x⟩:=this hp _ hm';exact⟨q,key_of x⟩
  have nn:ps≠[]:=fun z=>by subst z;cases hp;simp at two
  refine ab (Em (all hp) nn ?_);refine ab (wpAny_mono (IE (a₀:=pairsOf vs) (kd:=tuples' true) (κ:=prKd h₀) (st:=SortSt.mk' (tuples' true) (vs.toArray.zip vs.toArray) #[] 7 none) (Q:=fun _ t=>(arrOf t).Perm (pairsOf vs)/\failedOf t=none/\SortedToK (prKd h₀) (arrOf t) (pairsOf vs).size)
   (BO prs) keys ⟨⟨Array.Perm.refl _,rfl,rfl,rfl⟩,rfl⟩ (by rw[pairsOf_size];omega) (by rw[pairsOf_size];exact h64) fun t p1 p2 p3=>⟨p1,p2,p3⟩) ?_ fun _ _ z=>z)
  intro r s' hr;obtain⟨es,p1,p2,p3⟩:=hr;subst es;obtain⟨⟨⟩,t⟩:=r;dsimp only at p1 p2 p3 ⊢;refine ab (seqEpoch_at g2 rfl (ab (listUpdate_at g2 rfl ?_ (hsz2:=small p1))));rw[p2];simp only[bne_self_eq_false,Bool.false_eq_true,if_false];exact aq (h t p1 p3)
theorem sorted_pr {kd:Bool}{l:Addr}{vs:List Value}{ps:List (Int×Int)}{Q:Value->Shared->Prop}(hl:kF kd s.heap l vs.toArray)(hp:Prs s.heap vs ps)(h64:vs.length<64)
  (h:∀t:SortSt,(arrOf t).Perm (pairsOf vs)->SortedToK (prKd s.heap) (arrOf t) (pairsOf vs).size->Q (.ref (s.heap.objs.size+1)) { s with heap:=sortedAll s.heap vs ((arrOf t).map (·.2)) }) :
  wpAny (model prog w) A (call (.builtin "sorted") [.ref l]) Q E s:=by
 have hz:vs.length<=sizeLine:=by rw[sizeLine_eq];omega
 have sz:((s.heap.push (seqObj "list" #[] 0)).update s.heap.objs.size (Obj.mapSeq (·++vs.toArray))).objs.size=s.heap.objs.size+1:=by rw[Heap.size_update,size_push']
 have old:∀b o,s.heap.get? b=some o->(((s.heap.push (seqObj "list" #[] 0)).update s.heap.objs.size (Obj.mapSeq (·++vs.toArray))).push (seqObj "list" vs.toArray 0)).get? b=some o:=fun b o e =>
  ae _ ((Heap.get?_update_ne _ _ _ _ (aO (aB e))).trans (ae _ e))
 have at1:(((s.heap.push (seqObj "list" #[] 0)).update s.heap.objs.size (Obj.mapSeq (·++vs.toArray))).push (seqObj "list" vs.toArray 0)).get? (s.heap.objs.size+1)=some (seqObj "list" vs.toArray 0):=by
  have q:=aD ((s.heap.push (seqObj "list" #[] 0)).update s.heap.objs.size (Obj.mapSeq (·++vs.toArray))) (o:=seqObj "list" vs.toArray 0) rfl;rw[sz] at q;exact q
 have go:∀{A:Around}{R:List Value->Shared->Prop},R vs { s with heap:=(s.heap.push (seqObj "list" #[] 0)).update s.heap.objs.size (Obj.mapSeq (·++vs.toArray)) }->wpAny (model prog w) A (collect (.ref l)) R E s:=fun {A R} r=>by
  cases kd
  ·exact yG (show s.heap.IsTuple l vs.toArray from hl) hz r
  ·exact collect_list (show s.heap.IsList l vs.toArray from hl) r hz
 refine Calls.call_function_entry kind_sorted plain_sorted entry_sorted (args_sorted1 _) ?_;unfold Builtin.«sorted»;refine ab (m:=checkCount "sorted" 1 1 _) (aq ?_);refine ab (go ?_);refine ab (wpAny_newList ?_ (by rw[sizeLine_eq];omega));show wpAny _ _ _ _ _ { s with heap:=((s.heap.push (seqObj "list" #[] 0)).update s.heap.objs.size (Obj.mapSeq (·++vs.toArray))).push (seqObj "list" vs.toArray 0) };rw[sz];refine ab (bD (wpAny_call_entry slot_list_sort ⟨_,at1,rfl⟩ entry_list_sort (DC (h₀:=s.heap) at1 hp (fun v p x e=>?_) (fun _ _ _=>.inr (.inr trivial)) (fun v p ⟨c,t,u,e,o,q1,q2⟩=>⟨c,t,u,e,o,old c o q1,q2⟩) h64 fun t p1 p2=>⟨_,rfl,aq ⟨_,rfl,h t p1 p2⟩⟩) (args_list_sort _)));obtain⟨c,t,u,e',o,q1,_⟩:=x;rw[e] at e';cases e';exact absurd (aB q1) (Nat.not_lt.mpr (JA _))
end
end L2.Srt
namespace L2
open PySem PySem.Spec PyProof.Rows
inductive PrV (K:PySem.W.Frag)(H:Hp):List Addr->List (Int×Int)->Prop where
 |nil:PrV K H [] []
 |cons {b:Addr}{p:Int×Int}{bs:List Addr}{ps:List (Int×Int)}:jw K H b [.int p.1,.int p.2]->PrV K H bs ps->PrV K H (b::bs) (p::ps)
theorem PrV.len {K:PySem.W.Frag}{H:Hp}{bs:List Addr}{ps:List (Int×Int)}(h:PrV K H bs ps):bs.length=ps.length:=by
 induction h with
 |nil=>rfl
 |cons _ _ ih=>rw[aJ,aJ,ih]
theorem zw:∀{bs:List Addr}{us:List Value},cY (bs.map V.ref) us->us=bs.map Value.ref
 |[],us,h=>by cases h;rfl
 | b::bs,us,h=>by
  cases h with
  |cons r rs=>rw[az,zw rs,show _=Value.ref b from r]
theorem tQ:∀bs:List Addr,cY (bs.map V.ref) (bs.map Value.ref)
 |[]=>.nil
 |b::bs=>.cons rfl (tQ bs)
section
variable {X:Cx}
theorem FX {pins:List (Addr×Obj)}{σ:St}{H:Hp}{s:Shared}(I:cT X pins σ H s){bs:List Addr}{ps:List (Int×Int)}(h:PrV X.K H bs ps):Srt.Prs s.heap (bs.map Value.ref) ps:=by
 induction h with
 |nil=>exact .nil
 |@cons b p bs ps q _ ih =>
  obtain⟨its,r,⟨o,e,c,n,d⟩,_⟩:=I.tuple q;obtain⟨u,v,rfl,r1,r2⟩:=cY.two r;obtain⟨t1,rfl⟩:=(show ∃t,u=Value.int p.1 t from r1);obtain⟨t2,rfl⟩:=(show ∃t,v=Value.int p.2 t from r2);exact .cons ⟨b,t1,t2,rfl,o,e,c,n,d⟩ ih
noncomputable def zg:Value->Addr
 |.ref a=>a
 |_=>0
theorem zJ {h:Heap}:∀{bs:List Addr}{ps:List (Int×Int)},Srt.Prs h (bs.map Value.ref) ps->((bs.map Value.ref).zip (bs.map Value.ref)).map (fun x=>(zg x.2,((Srt.prKd h).keyOf x.1).getD (0,0)))=bs.zip ps
 |[],_,x=>by cases x;rfl
 | b::bs,_,x=>by
  cases x with
  |cons y ys =>
   rw[az,JI,az,JI,zJ ys,Srt.key_of y];rfl
theorem call_sortedP:CallR X (.builtin "sorted") (fun xs H Q=>∃(kd:Bool) (a:Addr) (bs:List Addr) (ps:List (Int×Int)),xs=[.ref a]/\iM kd X.K H a (bs.map V.ref)/\bs.length<64/\PrV X.K H bs ps ∧
  ∀(l:Addr) (cs:List Addr) (qs:List (Int×Int)),H l=none->(cs.zip qs).Perm (bs.zip ps)->cs.length=qs.length->qs.Pairwise (fun p q=>Srt.pLt q p=false)->Q (.ref l) (eA H l (.lst (cs.map V.ref)))):=by
 intro pins s σ H xs us Q I rx h;obtain⟨kd,a,bs,ps,rfl,hq,h64,pv,q⟩:=h;obtain⟨u,rfl,ru⟩:=cY.one rx;cases ru;obtain⟨its,rv,ob,hz⟩:=I.seqK hq;have ei:=zw rv;subst ei;have pr:=FX I pv;refine Srt.sorted_pr ob pr (by rw[af];exact h64) fun t p1 p2=>?_;have pl:(arrOf t).toList.Perm ((bs.map Value.ref).zip (bs.map Value.ref)):=by
  have:=Array.perm_iff_toList_perm.mp p1;rwa[show (pairsOf (bs.map Value.ref)).toList=(bs.map Value.ref).zip (bs.map Value.ref) by unfold pairsOf;rw[Array.toList_zip]] at this
 have isref:∀x∈(arrOf t).toList,x.2=Value.ref (zg x.2):=fun x hx=>by
  have hm:=(JO (pl.mem_iff.mp hx)).2;obtain⟨b,_,e⟩:=List.mem_map.mp hm;rw[<-e];rfl
 let g:Keyed->Addr×(Int×Int):=fun x=>(zg x.2,((Srt.prKd s.heap).keyOf x.1).getD (0,0))
 have pz:=pl.map g;rw[show ((bs.map Value.ref).zip (bs.map Value.ref)).map g=bs.zip ps from zJ pr] at pz;have zz:((arrOf t).toList.map fun x=>(g x).1).zip ((arrOf t).toList.map fun x=>(g x).2)=(arrOf t).toList.map g:=by
  generalize (arrOf t).toList=L;induction L with
  |nil=>rfl
  |cons x L ih=>rw[az,az,JI,ih];rfl
 have outs:((arrOf t).map (·.2)).toList=((arrOf t).toList.map fun x=>(g x).1).map Value.ref:=by
  rw[Array.toList_map,bg];exact List.map_congr_left fun x hx=>isref x hx
 obtain⟨e,he⟩:=sortedAll_at s.heap (bs.map Value.ref) ((arrOf t).map (·.2));have len:(arrOf t).toList.length=bs.length:=by rw[pl.length_eq,bG,af,Nat.min_self]
 have I':=I.laid (h':=sortedAll s.heap (bs.map Value.ref) ((arrOf t).map (·.2))) (t':=s.toks) (a:=s.heap.objs.size+1) (o:=.lst (((arrOf t).toList.map fun x=>(g x).1).map V.ref)) (fun b o z=>sortedAll_old z) (JA _)
  ⟨by rw[af,af,len];have:=hz;rw[af] at this;exact this,_,e,tQ _,by rw[<-outs];exact he⟩
 refine⟨.ref (s.heap.objs.size+1),_,I',rfl,q _ _ ((arrOf t).toList.map fun x=>(g x).2) (I.hok.fresh (JA _)) (by rw[zz];exact pz) (by rw[af,af]) ?_⟩;rw[List.pairwise_iff_getElem];intro i j hi hj ij;rw[af] at hi hj;have kk:∀i (h:i<(arrOf t).toList.length),KK (Srt.prKd s.heap) (arrOf t) i=(g (arrOf t).toList[i]).2:=fun i h=>by
  unfold KK;rw[show (arrOf t)[i]?=some (arrOf t).toList[i] by rw[JE (by simpa using h)];simp]
 have:=p2 i j (JQ ij) (by rw[pairsOf_size,af,<-len];exact hj);rw[kk i hi,kk j hj] at this;rw[List.getElem_map,List.getElem_map];exact this
end
end L2
namespace DL
open PySem PySem.Spec PySem.SeqAt
open L2 (V Hp St HO VK TE TT TA TS TI TG Cx cT PE PT PA PS PSs PI PG jw jT dq eA cO cG cI cY dX EP TP AP SP jU It iM)
section
variable {X:Cx}{e a b c:Expr}{es:List Expr}{f g:ED}{fb gb:BD}{t u:TD}{pos p:Pos}
theorem Au {d:D}{q:Int×Int}(h:F1 d=some q):d=Hu q:=by
 unfold F1 at h;split at h
 ·cases h;rfl
 ·cases h
theorem Ay {K:Fg}{H:Hp}{O:List Addr}:∀{ds:List D}{vs:List V}{ps:List (Int×Int)},Rs K H O ds vs->nX ds=some ps->∃bs,vs=bs.map V.ref/\L2.PrV K H bs ps:=by
 intro ds;induction ds with
 |nil=>intro vs ps q h;cases q;cases h;exact⟨[],rfl,.nil⟩
 |cons d ds ih =>
  intro vs ps q h;cases q with
  |cons q qs =>
    unfold nX at h;obtain⟨pr,hp,h⟩:=Option.bind_eq_some_iff.mp h;cases hr:nX ds with
    |none=>rw[hr] at h;cases h
    |some ps' =>
     rw[hr,av] at h;cases h;obtain⟨bs,rfl,hv⟩:=ih qs hr;rw[Au hp] at q;unfold Hu at q;cases q with
     |tuple ha hs =>
      cases hs with
      |cons h1 h2 =>
       cases h1;cases h2 with
       |cons h3 h4 =>
        cases h3;cases h4;exact⟨_::bs,rfl,.cons ha hv⟩
theorem DX (p q:Int×Int):Bg p q=true<->L2.Srt.pLt q p=false:=by
 simp only[Bg,L2.Srt.pLt,decide_eq_true_eq,decide_eq_false_iff_not];omega
theorem Bx {ps qs:List (Int×Int)}(h:qs.Perm ps)(s:qs.Pairwise (fun p q=>L2.Srt.pLt q p=false)):qs=kQ ps:=by
 refine List.Perm.eq_of_pairwise (le:=fun p q=>L2.Srt.pLt q p=false) (fun a b _ _ h1 h2=>?_) s ?_ (h.trans (List.mergeSort_perm ps Bg).symm)
 ·simp only[L2.Srt.pLt,decide_eq_false_iff_not] at h1 h2;cases a;cases b;simp only[Prod.mk.injEq] at *;omega
 ·refine (List.pairwise_mergeSort (le:=Bg) (fun a b c h1 h2=>?_) (fun a b=>?_) ps).imp fun h=>(DX _ _).mp h
  ·simp only[Bg,decide_eq_true_eq] at *;omega
  ·simp only[Bg,Bool.or_eq_true,decide_eq_true_eq];omega
theorem BC {K:Fg}{H:Hp}{O:List Addr}:∀(cs:List Addr) (qs:List (Int×Int)),cs.length=qs.length->(∀x∈cs.zip qs,jw K H x.1 [.int x.2.1,.int x.2.2])->Rs K H O (qs.map Hu) (cs.map V.ref)
 |[],[],_,_=>.nil
 |[],_::_,h,_=>by cases h
 |_::_,[],h,_=>by cases h
 |c::cs,q::qs,h,k=>.cons (.tuple (k (c,q) (by simp)) (.cons (.int _) (.cons (.int _) .nil))) (BC cs qs (by simpa using h) fun x hx=>k x (by simp[hx]))
theorem DP {K:Fg}{H:Hp}{bs:List Addr}{ps:List (Int×Int)}(h:L2.PrV K H bs ps):∀x∈bs.zip ps,jw K H x.1 [.int x.2.1,.int x.2.2]:=by
 induction h with
 |nil=>exact fun x hx=>by cases hx
 |cons q _ ih =>
  intro x hx;rw[JI] at hx;rcases List.mem_cons.mp hx with z|z
  ·subst z;exact q
  ·exact ih x z
theorem Ae:UD X (fun x H Q=>(fun xs H Q=>∃(kd:Bool) (a:Addr) (bs:List Addr) (ps:List (Int×Int)),xs=[.ref a]/\iM kd X.K H a (bs.map V.ref)/\bs.length<64/\L2.PrV X.K H bs ps ∧
  ∀(l:Addr) (cs:List Addr) (qs:List (Int×Int)),H l=none->(cs.zip qs).Perm (bs.zip ps)->cs.length=qs.length->qs.Pairwise (fun p q=>L2.Srt.pLt q p=false)->Q (.ref l) (eA H l (.lst (cs.map V.ref))):List V->Hp->VK->Prop) [x] H Q) lx:=by
 intro x vx H O r Q ne hx hf k;have go:∀{ds:List D}{vs:List V}{kd:Bool}{a:Addr},wu ds=some r->iM kd X.K H a vs->Rs X.K H O ds vs->∃(kd:Bool) (a':Addr) (bs:List Addr) (ps:List (Int×Int)),[V.ref a]=[.ref a']/\iM kd X.K H a' (bs.map V.ref)/\bs.length<64/\L2.PrV X.K H bs ps ∧
   ∀(l:Addr) (cs:List Addr) (qs:List (Int×Int)),H l=none->(cs.zip qs).Perm (bs.zip ps)->cs.length=qs.length->qs.Pairwise (fun p q=>L2.Srt.pLt q p=false)->Q (.ref l) (eA H l (.lst (cs.map V.ref))):=fun {ds vs kd a} hs ha qa=>by
  unfold wu at hs;obtain⟨ps,hp,hs⟩:=Option.bind_eq_some_iff.mp hs;split at hs
  ·rename_i h64;cases hs;obtain⟨bs,rfl,hv⟩:=Ay qa hp;refine⟨kd,a,bs,ps,rfl,ha,by rw[hv.len];exact h64,hv,fun l cs qs hl pm len st=>?_⟩;have pq:qs.Perm ps:=by
    have:=pm.map Prod.snd;rwa[List.map_snd_zip ⋯,List.map_snd_zip (by have:=hv.len;omega)] at this
   have eq:=Bx pq st;have s2:dq H (eA H l (.lst (cs.map V.ref))):=fun b o e=>by rw[cG (cI e hl)];exact e
   have rs:Rs X.K H O (qs.map Hu) (cs.map V.ref):=BC cs qs len fun x hx=>DP hv x (pm.mem_iff.mp hx);rw[<-eq] at k;exact k _ _ s2 (.inr ⟨rfl,l,_,_,rfl,rfl,hl,cO,rs.ext (iZ.fresh s2 hl)⟩)
  ·cases hs
 cases x <;> first|cases hf|skip
 ·obtain⟨a,vs,rfl,ha,qa⟩:=hx.list;exact go (kd:=true) hf ha qa
 ·obtain⟨a,vs,rfl,ha,qa⟩:=hx.tuple;exact go (kd:=false) hf ha qa
theorem A4 (hm:X.mg "sorted" = none)(ha:DB X a fb)(hg:L2.Gl X "sorted" := by rfl)(he:starEach [a] X.env=(false,eval a X.env)::starEach [] X.env:=by rfl):DE X (.Call (.Name "sorted" p) [a] [] pos) (d1 lx fb):=sA L2.call_sortedP Ae hm PyProof.Rows.boot_sorted ha hg (by decide) (by decide) he
end
end DL
namespace HT
open PySem PyProof.Rows
section
variable {prog:Program}{w:World}{A:Around}{E:Value->Shared->Prop}{s:Shared}
end
end HT
namespace L2
open PySem PySem.Spec PyProof.Rows
section
variable {X:Cx}
end
end L2
namespace DL
open PySem PySem.Spec PySem.SeqAt
open L2 (V Hp St HO VK TE TT TA TS TI TG Cx cT PE PT PA PS PSs PI PG jw jT dq eA cO cG cI cY dX EP TP AP SP jU It iM)
section
variable {X:Cx}{e a b c:Expr}{es:List Expr}{f g:ED}{fb gb:BD}{t u:TD}{pos p p2:Pos}{lo hi:Option Expr}{pl ph:PD}
mutual
theorem R.lf {K:Fg}{H:Hp}{O O':List Addr}{d:D}{v:V}:R K H O d v->oX d=true->R K H O' d v
 |.none,_=>.none
 |.bool b,_=>.bool b
 |.int i,_=>.int i
 |.str x,_=>.str x
 |.tuple h r,l=>.tuple h (Rs.lf r (by simpa [oX] using l))
 |.list _ _,l=>by simp[oX] at l
 |.dict _ _ _,l=>by simp[oX] at l
theorem Rs.lf {K:Fg}{H:Hp}{O O':List Addr}{ds:List D}{vs:List V}:Rs K H O ds vs->j7 ds=true->Rs K H O' ds vs
 |.nil,_=>.nil
 | .cons h r,l=>by
  simp only[j7,Bool.and_eq_true] at l;exact .cons (R.lf h l.1) (Rs.lf r l.2)
end
theorem Bq {s:Option Vl}{x:Vl}(h:G4 s=some x):x.2=false/\(s=some x\/(∃xs,x.1=.list xs/\(s=some (.list xs,true)\/s=some (iw xs,true)\/s=some (CJ xs,true)))\/∃kvs,x.1=.dict kvs/\s=some (nu (.dict kvs),true)):=by
 unfold G4 at h;split at h
 ·cases h;exact⟨rfl,.inl rfl⟩
 ·cases h;exact⟨rfl,.inr (.inl ⟨_,rfl,.inl rfl⟩)⟩
 ·cases h;exact⟨rfl,.inr (.inl ⟨_,rfl,.inr (.inl rfl)⟩)⟩
 ·cases h;exact⟨rfl,.inr (.inl ⟨_,rfl,.inr (.inr rfl)⟩)⟩
 ·cases h;exact⟨rfl,.inr (.inr ⟨_,rfl,rfl⟩)⟩
 ·cases h
theorem jY {ρ:Sl}{i:Nat}{x:Vl}(h:(unown ρ)[i]?=some (some x)):x.2=false/\(ρ[i]?=some (some x)\/(∃xs,x.1=.list xs/\(ρ[i]?=some (some (.list xs,true))\/ρ[i]?=some (some (iw xs,true))\/ρ[i]?=some (some (CJ xs,true))))\/∃kvs,x.1=.dict kvs/\ρ[i]?=some (some (nu (.dict kvs),true))):=by
 unfold unown at h;rw[au] at h;cases hs:ρ[i]? with
 |none=>rw[hs] at h;cases h
 |some s =>
  rw[hs,av] at h;obtain⟨h1,h2⟩:=Bq (Option.some.inj h);refine⟨h1,?_⟩;rcases h2 with z|⟨xs,z1,z2|z2|z2⟩|⟨kvs,z1,z2⟩
  ·exact .inl (by rw[z])
  ·exact .inr (.inl ⟨xs,z1,.inl (by rw[z2])⟩)
  ·exact .inr (.inl ⟨xs,z1,.inr (.inl (by rw[z2]))⟩)
  ·exact .inr (.inl ⟨xs,z1,.inr (.inr (by rw[z2]))⟩)
  ·exact .inr (.inr ⟨kvs,z1,by rw[z2]⟩)
theorem Dp.rs0 {K:Fg}{H:Hp}{O M:List Addr}{ds:List D}{bs:List Addr}(h:Dp K H O M ds bs):Rs K H [] ds (bs.map V.ref):=by
 induction h with
 |nil=>exact .nil
 |cons h1 _ h3 _ ih=>exact .cons (.list (.inl ⟨h1,fun z=>nomatch z⟩) (h3.ext (.less fun b hb=>nomatch hb))) ih
theorem ER.unown {K:Fg}{H:Hp}{O M:List Addr}{lad:Nat->Addr}{ρ:Sl}{σ:St}(h:ER K H O M lad ρ σ):ER K H [] [] lad (unown ρ) σ where
 sh:=fun i d e=>by
  have less:iZ [] O H [] H:=.less fun b hb=>nomatch hb;obtain⟨_,z|⟨xs,z1,z2|z2|z2⟩|⟨kvs,z1,z2⟩⟩:=jY e
  ·obtain⟨v,e1,q⟩:=h.sh i d z;exact⟨v,e1,q.ext less⟩
  ·obtain⟨a,vs,e1,e2,_,q⟩:=h.ow i xs z2;rw[show d=.list xs from z1];exact⟨_,e1,.list (.inl ⟨e2,fun z=>nomatch z⟩) (q.ext less)⟩
  ·obtain⟨e1,vs,e2,_,_,q⟩:=h.le i xs z2;rw[show d=.list xs from z1];exact⟨_,e1,.list (.inl ⟨e2,fun z=>nomatch z⟩) (q.ext less)⟩
  ·obtain⟨a,bs,e1,e2,_,_,q,_⟩:=h.dp.at_ i xs z2;rw[show d=.list xs from z1];exact⟨_,e1,.list (.inl ⟨e2,fun z=>nomatch z⟩) q.rs0⟩
  ·obtain⟨a,es,e1,e2,_,q,_⟩:=h.dp.dc i kvs z2;rw[show d=.dict kvs from z1];exact⟨_,e1,.dict e2 (fun z=>nomatch z) (q.ext less)⟩
 ow:=fun i d e=>by cases (jY e).1
 le:=fun i d e=>by cases (jY e).1
 ap:=fun i j d e a e1=>by cases (jY e1).1
 tr:=fun a ha=>nomatch ha
 sub:=fun a ha=>nomatch ha
 len:=by unfold DL.unown;rw[af];exact h.len
 dp:=.none_ fun i x e=>(jY e).1
theorem CB (h:DT X e t):DT X e (xY t):=h.imp fun σ H Q ⟨ρ,O,M,lad,c,hE,hf,k⟩=>⟨unown ρ,[],[],lad,c,hE.unown,hf,k⟩
end
end DL
namespace L2
open PySem PySem.Spec PyProof.Rows
section
variable {X:Cx}
end
end L2
namespace DL
open PySem PySem.Spec PySem.SeqAt
open L2 (V Hp St HO VK TE TT TA TS TI TG Cx cT PE PT PA PS PSs PI PG jw jT dq eA cO cG cI cY dX EP TP AP SP jU It iM)
section
variable {X:Cx}{e a b c:Expr}{es:List Expr}{f g:ED}{fb gb:BD}{t u:TD}{pos p p2:Pos}
end
section
variable {X:Cx}{e a b c elt tg iter:Expr}{es ifs:List Expr}{f g:ED}{t u:TD}{pos:Pos}{it:AD}{gd:GD}{scope:Scope}{own caps:List Str}{ix:List Nat}{st:Stmt}{F:SD}
end
section
variable {X:Cx}{ek ex ev:Expr}{ke kx vx:ED}{pos p1 p2 p3 p4 p5 p6 p7 p8 p9:Pos}{i s:Nat}{x y:Str}
end
open PySem
theorem yV {X:Cx}{sc1 scope:Scope}{N1 own caps:List Str}{ix:List Nat}{s₀:Shared}{H₀:Hp}{ex:List Addr}{pn:List (Addr×Obj)}(h:qS sc1 N1 scope own ix caps=true) :
  L2.CompSc (L2.compCx X sc1 N1 s₀ H₀ ex pn).env.scope (L2.compCx X sc1 N1 s₀ H₀ ex pn).N scope own ix caps:=by
 unfold qS at h;simp only[Bool.and_eq_true,decide_eq_true_eq,bH,Bool.or_eq_true,beq_iff_eq,List.any_eq_true,bne_iff_ne,ne_eq] at h;obtain⟨⟨⟨⟨⟨⟨a1,a2⟩,a3⟩,a4⟩,a5⟩,a6⟩,a7⟩:=h;refine⟨a1,a2,a3,a4,fun p hp hf=>?_,fun y hy=>?_,a7⟩
 ·have key:(L2.compCx X sc1 N1 s₀ H₀ ex pn).env.scope.names.lookup p.1=(sc1.names.lookup p.1).map fun k=>if (k==NameKind.free&&X.env.scope.kind==.function&&X.env.kindOf p.1==some .cell)=true then .cell else k:=L2.lookup_relabel (env:=X.env) (scope:=sc1);rw[key];rcases a5 p hp with (z|z)|z
  ·exact absurd hf z
  ·rw[z];exact .inl rfl
  ·rw[z,av];by_cases c:(NameKind.free==NameKind.free&&X.env.scope.kind==.function&&X.env.kindOf p.1==some .cell)=true
   ·rw[if_pos c];exact .inl rfl
   ·rw[if_neg c];exact .inr rfl
 ·obtain⟨⟨z,k⟩,hp,e1,e2⟩:=a6 y hy;simp only at e1 e2;subst e1 e2;exact hp
end DL
namespace L2
open PySem PySem.Spec PyProof.Rows
section
variable {X:Cx}
end
end L2
namespace DL
open PySem PySem.Spec PySem.SeqAt
open L2 (V Hp St HO VK TE TT TA TS TI TG Cx cT PE PT PA PS PSs PI PG jw jT dq eA cO cG cI cY dX EP TP AP SP jU It iM)
section
variable {X:Cx}
open Classical in
end
end DL
namespace L2
open PySem PySem.Spec PyProof.Rows
section
variable {prog:Program}{w:World}{A:Around}{E:Value->Shared->Prop}{s:Shared}
open AutoSeq1 (wpAny_loadPart')
set_option maxRecDepth 100000 in
end
section
variable {X:Cx}{a b:Expr}{ta:TA}{p p1 p2 pos:Pos}
theorem xU {lo:Int}{n:Nat}{acc:Array Value}(h:ItemsOf (fun i v=>∃t,v=Value.int (lo+i*1) t) acc n):cY ((ao n).map fun (i:Nat)=>V.int (lo+i)) acc.toList:=by
 obtain⟨hz,hi⟩:=h;have key:∀(l:List Value) (k:Nat),(∀j v,l[j]?=some v->∃t,v=Value.int (lo+((k+j:Nat):Int)) t)->cY ((bP k l.length).map fun (i:Nat)=>V.int (lo+i)) l:=by
  intro l;induction l with
  |nil=>exact fun _ _=>.nil
  |cons x l ih =>
   intro k h;rw[aJ,bZ,az];refine .cons (by obtain⟨t,e⟩:=h 0 x rfl;exact⟨t,by rw[e];rfl⟩) (ih (k+1) fun j v e=>?_);obtain⟨t,e'⟩:=h (j+1) v (by simpa using e);exact⟨t,by rw[e',show k+(j+1)=k+1+j by omega]⟩
 have:=key acc.toList 0 fun j v e=>by
  obtain⟨t,e'⟩:=hi j v (by simpa using e);exact⟨t,by rw[e',Int.mul_one,bE]⟩
 rw[<-bB,bY,hz] at this;exact this
end
end L2
namespace DL
open PySem PySem.Spec PySem.SeqAt
open L2 (V Hp St HO VK TE TT TA TS TI TG Cx cT PE PT PA PS PSs PI PG jw jT dq eA cO cG cI cY dX EP TP AP SP jU It iM)
section
variable {X:Cx}{a b:Expr}{f g:ED}{p p1 p2 pos:Pos}
theorem Hk {K:Fg}{H:Hp}{O:List Addr}(lo:Int)(n:Nat):Rs K H O (fv lo n) ((ao n).map fun (i:Nat)=>V.int (lo+i)):=by
 unfold fv;generalize ao n=l;induction l with
 |nil=>exact .nil
 |cons x l ih=>exact .cons (.int _) ih
end
end DL
theorem L2.Room.u200 {k}{A:PySem.Around}(r:L2.Room k A):A.units+200<PySem.cLine:=by have:=r.un;omega
namespace DL
open PySem PySem.Spec PySem.SeqAt
open L2 (V Hp St HO VK TE TT TA TS TI TG Cx cT PE PT PA PS PSs PI PG jw jT dq eA cO cG cI cY dX EP TP AP SP jU It iM)
section
variable {X:Cx}
end
theorem ua {r:Vl}{d:D}(h:yo r=some d):r=(d,false)/\oX d=true:=by
 unfold yo at h;split at h
 ·split at h
  ·rename_i l;cases h;exact⟨rfl,l⟩
  ·cases h
 ·cases h
section
variable {X:Cx}{e ek ex ev:Expr}{f ke kx vx:ED}{pos p1 p2 p3 p4:Pos}{i:Nat}{x:Str}
end
end DL
namespace L2
open PySem PySem.Spec PyProof.Rows
section
variable {X:Cx}
end
section
variable {X:Cx}{a b:Expr}{ta:TA}{p p1 p2 pos:Pos}
theorem AL {pins:List (Addr×Obj)}{σ:St}{H:Hp}{s:Shared}{Q:VK}{lo hi:Int}{t u v:Tok}{tk:Nat}(hc:X.calm=true)(I:cT X pins σ H s)(h1:-(2 ^ 62)<=lo)(h2:lo<2 ^ 62)(h3:-(2 ^ 62)<=hi)(h4:hi<2 ^ 62)(hn:(hi-lo).toNat<=1000000)
  (q:∀l,H l=none->Q (.ref l) (eA H l (.lst ((ao (hi-lo).toNat).map fun (i:Nat)=>V.int (lo+i))))) :
  wpAny (model X.prog X.w) X.A (call (.type "list") [.ref s.heap.objs.size]) (EP X pins σ Q) X.xe { s with heap:=s.heap.push { cls:=.type "range", data:=.fields #[.int lo t,.int hi u,.int 1 v] },toks:=tk }:=by
 have I1:cT X pins σ H { s with heap:=s.heap.push { cls:=.type "range", data:=.fields #[.int lo t,.int hi u,.int 1 v] },toks:=tk }:=I.kept fun b o e=>ae _ e;refine call_list_range (a:=lo) (b:=hi) (n:=(hi-lo).toNat) (I.ok.hd hc) (IsRange.new ..) (small_one h1 h2 h3 h4) (by rw[rangeSize_one];split <;> omega) ⋯ fun h' tk' acc c' hk hS hacc=>?_;generalize hl:(s.heap.push { cls:=.type "range", data:=.fields #[.int lo t,.int hi u,.int 1 v] }).objs.size=l at hS ⊢;have I3:=I1.laid (t':=tk') (h':=h') (a:=l) (o:=.lst ((ao (hi-lo).toNat).map fun (i:Nat)=>V.int (lo+i))) hk (Nat.le_of_eq hl)
  (show ObjOk X.prog X.w _ _ _ (.lst _) from ⟨by rw[af,aI,sizeLine_eq];omega,acc.toList,c',xU hacc,by simpa using hS⟩)
 exact⟨.ref l,_,I3,rfl,q _ (I1.hok.fresh (Nat.le_of_eq hl))⟩
noncomputable def IA (ta:TA):TE:=fun σ H Q=>ta σ H fun vs H1=>∃j:Int,vs=[.int j]/\-(2 ^ 62)<=j/\j<2 ^ 62/\j.toNat<=1000000/\∀l,H1 l=none->Q (.ref l) (eA H1 l (.lst ((ao j.toNat).map fun (i:Nat)=>V.int (0+i))))
theorem pe_lstR1 (hc:X.calm=true)(hgT:Gl X "list")(hmT:X.mg "list" = none)(hgR:Gl X "range")(hmR:X.mg "range" = none)(ha:PA X [a] ta)(hs:starEach [a] X.env=[(false,eval a X.env)]:=by rfl)
  (hs2:starEach [.Call (.Name "range" p1) [a] [] p2] X.env=[(false,eval (.Call (.Name "range" p1) [a] [] p2) X.env)]:=by rfl):PE X (.Call (.Name "list" p) [.Call (.Name "range" p1) [a] [] p2] [] pos) (IA ta):=by
 intro pins s σ H Q I h;refine wpAny_Call_Name_kw (ld_blt I hgT hmT boot_list (PyProof.Rows.callWith_type1 ?_ hs2 rfl));rw[hs2];refine Calls.spliced_cons (wpAny_Call_Name_kw (ld_blt I hgR hmR boot_range (PyProof.Rows.callWith_type1 (thn (ha p2 pins s σ H _ I h) fun us s1 ⟨vs,H1,I1,r1,q1⟩=>?_) hs rfl)));obtain⟨j,e,q1,q2,q3,q⟩:=q1;subst e;obtain⟨u,rfl,ru⟩:=cY.one r1;obtain⟨t,rfl⟩:=(show ∃t,u=Value.int j t from ru);refine call_range_1 (Calls.spliced_nil ?_);exact AL hc I1 ⋯ ⋯ q1 q2 (by simpa using q3) (by simpa using q)
end
end L2
namespace DL
open PySem PySem.Spec PySem.SeqAt
open L2 (V Hp St HO VK TE TT TA TS TI TG Cx cT PE PT PA PS PSs PI PG jw jT dq eA cO cG cI cY dX EP TP AP SP jU It iM)
section
variable {X:Cx}{a b:Expr}{f g:ED}{fb:BD}{p p1 p2 pos:Pos}
theorem CK (hc:X.calm=true)(hmT:X.mg "list" = none)(hmR:X.mg "range" = none)(h:DE X a f)(hgT:L2.Gl X "list" := by rfl)(hgR:L2.Gl X "range" := by rfl)(hs:starEach [a] X.env=[(false,eval a X.env)]:=by rfl)
  (hs2:starEach [.Call (.Name "range" p1) [a] [] p2] X.env=[(false,eval (.Call (.Name "range" p1) [a] [] p2) X.env)]:=by rfl):DE X (.Call (.Name "list" p) [.Call (.Name "range" p1) [a] [] p2] [] pos) (sI (cS f)) :=
 (L2.pe_lstR1 hc hgT hmT hgR hmR (b8 h cA hs) hs hs2).imp fun σ H Q zz=>by
  obtain ⟨ρ,O,M,lad,r0,hE,hf,k⟩:=zz;unfold sI cS at hf;cases hr:f ρ with
  |none=>rw[hr] at hf;cases hf
  |some r =>
   rw[hr,aa] at hf;cases hj:xQ r.1 with
   |none=>rw[hj] at hf;cases hf
   |some j =>
    rw[hj,aa] at hf;split at hf
    ·rename_i hb;rw[aa] at hf;split at hf
     ·rename_i hz;cases hf;refine⟨ρ,O,M,lad,[r.1],hE,by unfold b7;rw[hr];rfl,fun vs H1 s1 q1=>?_⟩;rw[xH hj] at q1;cases q1 with
      |cons q qn =>
       cases q;cases qn;refine⟨j,rfl,hb.1,hb.2,by unfold fv at hz;rw[af,aI] at hz;exact hz,fun l hl=>?_⟩;have s2:dq H1 (eA H1 l (.lst ((ao j.toNat).map fun (i:Nat)=>V.int (0+i)))):=fun b o e=>by rw[cG (cI e hl)];exact e
       exact k _ _ (s1.trans s2) (.inr ⟨rfl,l,_,_,rfl,rfl,s1.free hl,cO,Hk 0 j.toNat⟩)
     ·cases hf
    ·cases hf
end
mutual
noncomputable def Dj:D->Nat->Bool
 |.int _,_=>true
 | .tuple ds,n=>match n with
  |0=>false
  |n+1=>xl ds n
 |_,_=>false
noncomputable def xl:List D->Nat->Bool
 |[],_=>true
 |d::ds,n=>Dj d n&&xl ds n
end
noncomputable def gJ:D->Bool
 |.tuple ds=>xl ds 5
 |_=>false
noncomputable def gg (kvs:List (D×D)):Bool:=kvs.all fun p=>gJ p.1
noncomputable def qz (kvs:List (D×D))(k:D):Option D:=(kvs.find? fun p=>same p.1 k).map (·.2)
noncomputable def tK (kvs:List (D×D))(k v:D):List (D×D):=if (qz kvs k).isSome=true then kvs.map fun p=>if same p.1 k=true then (p.1,v) else p else kvs++[(k,v)]
noncomputable def qE:O2:=fun x y=>match x with
 |.dict kvs=>if (gg kvs&&gJ y)=true then (qz kvs y).map fun d=>(d,false) else none
 |_=>none
noncomputable def zX (i:Nat)(ρ:Sl):Option (List (D×D)):=match ρ[i]? with
 |some (some (.dict [(.dict kvs,.bool true)],true))=>some kvs
 |_=>none
noncomputable def rE (i:Nat):SD:=fun ρ=>if qc (ρ.set i none)=true/\i<ρ.length then some (.next (ρ.set i (some (nu (.dict []),true)))) else none
noncomputable def va (i:Nat)(k v:ED):SD:=fun ρ=>(zX i ρ).bind fun kvs=>(v (unown ρ)).bind fun r=>(yo r).bind fun d=>(k (unown ρ)).bind fun z=>(yo z).bind fun y =>
 if (gg kvs&&gJ y)=true/\kvs.length<sizeLine then some (.next (ρ.set i (some (nu (.dict (tK kvs y d)),true)))) else none
noncomputable def iQ:List D->Option (List Int)
 |[]=>some []
 |d::ds=>(xQ d).bind fun i=>(iQ ds).map fun is=>i::is
mutual
noncomputable def uo:D->Nat
 |.int _=>1
 |.tuple ds=>j9 ds+1
 |_=>0
noncomputable def j9:List D->Nat
 |[]=>0
 |d::ds=>uo d+j9 ds
end
theorem n9:∀xs ys:List D,iy (xs++ys)=iy xs++iy ys
 |[],_=>rfl
 |x::xs,ys=>by rw[JD,iy,iy,n9 xs ys];rfl
theorem oj:∀xs ys:List D,j9 (xs++ys)=j9 xs+j9 ys
 |[],_=>by simp[j9]
 |x::xs,ys=>by rw[JD,j9,j9,oj xs ys];omega
theorem yE {prog:Program}{w:World}:∀(n:Nat) (d:D) (A:Around) (E:Value->Shared->Prop) (s:Shared) (v:Value) (as:List Addr) (Q:Int->Shared->Prop),Kb n d->Reads s.heap v d as->A.units+n<cLine->Q (sa d) { s with toks:=s.toks+uo d }->wpAny (model prog w) A (pyHash v) Q E s:=by
 intro n;induction n with
 |zero =>
  intro d A E s v as Q kb rd hu q;cases kb;cases rd;rw[sa,uo] at q;exact wpAny_pyHash_int q
 |succ n ih =>
  intro d A E s v as Q kb rd hu q;cases kb with
  |int _ i =>
   cases rd;rw[sa,uo] at q;exact wpAny_pyHash_int q
  |@tuple _ ds kbs =>
   cases rd with
   |@tuple a o items k _ _ g1 g2 g3 g4 =>
    have tt:s.TypeIs (.ref a) "tuple" := ⟨o,g1,g2⟩;unfold pyHash pyHashByItsType;refine ab (wpAny_cRoomFor_or (.inr ⋯) (ab (wpAny_specialOf tt F.slot_tuple_hash.lookup ?_)));show wpAny _ _ (if (some (Value.builtin "tuple.__hash__")==some Value.none)=true then _ else _) _ _ s;rw[if_neg (by rw[beq_builtin_none];exact Bool.false_ne_true)];refine ab (wpAny_specialOf tt F.slot_tuple_hash.lookup ?_);show wpAny _ _ (callSpecialIfBoundUnlessNone? (.ref a) "__hash__" _>>=_) _ _ s;refine ab (wpAny_callSpecialIfBoundUnlessNone?_slot tt F.slot_tuple_hash (wpAny_call_entry F.slot_tuple_hash tt F.entry_tuple_hash ?_ (F.args_tuple_hash_1 _)));show wpAny _ _ (Builtin.Tuple.tupleItemsOf (.ref a)>>=_) _ _ s;refine ab (wpAny_tupleItemsOf g1 g3 (ab ?_));rw[<-JR];have hu1:A.in1.units=A.units+1:=rfl;refine wpAny_forIn_list _ (fun fV (b:Array Int) s'=>∃done left bs,ds=done++left/\vX n left/\ReadsAll s.heap fV left bs/\b.toList=iy done/\s'={ s with toks:=s.toks+j9 done }) _ ?_ ?_ _ _ ⟨[],ds,_,rfl,kbs,g4,rfl,rfl⟩
    ·rintro x fV b s' ⟨done,left,bs,e,kl,rl,hb,rfl⟩;cases rl with
     |@cons _ _ y left' b1 b2 r1 r2 =>
      cases kl with
      |cons k1 k2 =>
       refine ab (ih y A.in1 _ _ x b1 _ k1 r1 ⋯ ?_)
       first
        |exact aq ⟨done++[y],left',b2,by rw[e,ba];rfl,k2,r2,by rw[n9];simp[hb,iy],by rw[oj];simp[j9,Nat.add_assoc]⟩
        |exact ab (aq (aq ⟨done++[y],left',b2,by rw[e,ba];rfl,k2,r2,by rw[n9];simp[hb,iy],by rw[oj];simp[j9,Nat.add_assoc]⟩))
    ·rintro b s' ⟨done,left,bs,e,kl,rl,hb,rfl⟩;cases rl;rw[br] at e;subst e;show wpAny _ _ (retInt (Builtin.Tuple.tupleHashOf b.toList)) _ _ _;rw[hb];refine wpAny_ret_mkInt ?_;rw[sa,uo] at q;show wpAny _ _ (if (decide (-(2:Int) ^ 63<=Builtin.Tuple.tupleHashOf (iy ds))&&decide (Builtin.Tuple.tupleHashOf (iy ds)<2 ^ 63))=true then _ else _) _ _ _;unfold reduceHash at q;by_cases hr:(decide (-(2:Int) ^ 63<=Builtin.Tuple.tupleHashOf (iy ds))&&decide (Builtin.Tuple.tupleHashOf (iy ds)<2 ^ 63))=true
     ·rw[if_pos hr];rw[if_pos hr] at q;exact aq (by simpa [Nat.add_assoc] using q)
     ·rw[if_neg hr];rw[if_neg hr] at q;exact ab (wpAny_rule (aq (by simpa [Nat.add_assoc] using q)))
mutual
theorem Kb.nb {n:Nat}{d:D}:Kb n d->Nb n d
 |.int _ _=>.int _ _
 |.tuple h=>.tuple (vX.nb h)
theorem vX.nb {n:Nat}{ds:List D}:vX n ds->oG n ds
 |.nil=>.nil
 |.cons h hs=>.cons (Kb.nb h) (vX.nb hs)
end
mutual
theorem Kb.up {n:Nat}{d:D}:Kb n d->∀m,n<=m->Kb m d
 |.int _ _,_,_=>.int _ _
 | .tuple h,m,hm=>by
  obtain⟨m',rfl⟩:∃m',m=m'+1:=⟨m-1,by omega⟩;exact .tuple (vX.up h m' ⋯)
theorem vX.up {n:Nat}{ds:List D}:vX n ds->∀m,n<=m->vX m ds
 |.nil,_,_=>.nil
 |.cons h hs,m,hm=>.cons (Kb.up h m hm) (vX.up hs m hm)
end
theorem As {h:Heap}:∀(n:Nat) (x:D) (v:Value) (y:D) (as bs:List Addr),Kb n x->Kb n y->Reads h v x as->Reads h v y bs->x=y:=by
 intro n;induction n with
 |zero =>
  intro x v y as bs kx ky rx ry;cases kx;cases ky;cases rx;cases ry;rfl
 |succ n ih =>
  have all:∀(vs:List Value) (xs ys:List D) (as bs:List Addr),vX n xs->vX n ys->ReadsAll h vs xs as->ReadsAll h vs ys bs->xs=ys:=by
   intro vs;induction vs with
   |nil =>
    intro xs ys as bs _ _ rx ry;cases rx;cases ry;rfl
   |cons v vs ihv =>
    intro xs ys as bs kx ky rx ry;cases rx with
    |cons r1 r2 =>
     cases ry with
     |cons r3 r4 =>
      cases kx with
      |cons k1 k2 =>
       cases ky with
       |cons k3 k4=>rw[ih _ _ _ _ _ k1 k3 r1 r3,ihv _ _ _ _ k2 k4 r2 r4]
  intro x v y as bs kx ky rx ry;cases kx with
  |int _ i =>
   cases rx;cases ky with
   |int _ j=>cases ry;rfl
   |tuple k=>cases ry
  |tuple k1 =>
   cases rx with
   |tuple g1 g2 g3 g4 =>
    cases ky with
    |int _ j=>cases ry
    |tuple k2 =>
     cases ry with
     |tuple f1 f2 f3 f4 =>
      rw[g1] at f1;cases f1;rw[g3] at f3;cases f3;rw[all _ _ _ _ _ k1 k2 g4 f4]
theorem ye {h h':Heap}{d:Addr}{o:Obj}{es:Array DictEntry}{ep:Nat}(hd:h.get? d=some o)(ho:o.data=.dict es ep)(hs:Heap.SameBut d h h'):∀(n:Nat) (x:D) (v:Value) (as:List Addr),Kb n x->Reads h v x as->Reads h' v x as:=by
 intro n;induction n with
 |zero =>
  intro x v as kx rx;cases kx;cases rx;exact .int _ _
 |succ n ih =>
  have all:∀(vs:List Value) (xs:List D) (as:List Addr),vX n xs->ReadsAll h vs xs as->ReadsAll h' vs xs as:=by
   intro vs;induction vs with
   |nil =>
    intro xs as _ rx;cases rx;exact .nil
   |cons v vs ihv =>
    intro xs as kx rx;cases rx with
    |cons r1 r2 =>
     cases kx with
     |cons k1 k2=>exact .cons (ih _ _ _ k1 r1) (ihv _ _ k2 r2)
  intro x v as kx rx;cases kx with
  |int _ i=>cases rx;exact .int _ _
  |tuple k =>
   cases rx with
   |@tuple a o' _ _ _ _ g1 g2 g3 g4 =>
    have ne:a≠d:=fun z=>by
     subst z;rw[g1] at hd;cases hd;rw[g3] at ho;cases ho
    exact .tuple ((hs.2 a ne).trans g1) g2 g3 (all _ _ _ k g4)
theorem wG {prog:Program}{w:World}:∀(n:Nat) (x:D) (f:Nat) (A:Around) (E:Value->Shared->Prop) (s:Shared) (v:Value) (as:List Addr) (Q:Bool->Shared->Prop),Kb n x->n<=f->Reads s.heap v x as->Q true s->wpAny (model prog w) A (eqIsQuiet f v) Q E s:=by
 intro n;induction n with
 |zero =>
  intro x f A E s v as Q kx hf rx q;cases kx;cases rx;rw[eqIsQuiet_byValue _ rfl];exact aq q
 |succ n ih =>
  intro x f A E s v as Q kx hf rx q;cases kx with
  |int _ i =>
   cases rx;rw[eqIsQuiet_byValue _ rfl];exact aq q
  |@tuple _ ds k =>
   cases rx with
   |@tuple a o items m _ _ g1 g2 g3 g4 =>
    obtain⟨f',rfl⟩:∃f',f=f'+1:=⟨f-1,by omega⟩;have tt:s.TypeIs (.ref a) "tuple" := ⟨o,g1,g2⟩;unfold eqIsQuiet;refine ab (wpAny_specialOf tt F.slot_tuple_eq.lookup ?_);show wpAny _ _ (isInstance (.ref a) (.type "tuple")>>=_) _ _ s;refine ab (wpAny_isInstance tt isSubtype_tuple_tuple ?_);rw[if_neg (by decide)];refine ab (wpAny_seqItems g1 g3 (ab ?_));show wpAny _ _ (forIn items _ _) _ _ s;rw[<-JR];refine wpAny_forIn_list _ (fun fV r s'=>r.1=none/\s'=s/\∃xs bs,vX n xs/\ReadsAll s.heap fV xs bs) _ ?_ ?_ _ _ ⟨rfl,rfl,ds,_,k,g4⟩
    ·rintro y fV r s' ⟨hr,rfl,xs,bs,kk,rr⟩;cases rr with
     |cons r1 r2 =>
      cases kk with
      |cons k1 k2 =>
       refine ab (ih _ f' _ _ _ _ _ _ k1 ⋯ r1 ?_);rw[if_neg (by decide)];exact aq ⟨rfl,rfl,_,_,k2,r2⟩
    ·rintro⟨c1,c2⟩ s' ⟨hr,rfl,_⟩;cases (show c1=none from hr);exact aq q
theorem Cy {n m:Nat}{x y:D}(kx:Kb n x)(ky:Kb m y):PyData.eqv x y=true<->x=y:=by
 rw[<-same_eq_eqv x y (kx.nb.mix ky.nb)];exact⟨fun e=>kx.nb.eq ky.nb e,fun e=>by rw[e];exact same_self _⟩
noncomputable instance decD:DecidableEq D:=fun _ _=>Classical.propDecidable _
def IJ (h:Heap)(d:D)(a:Addr):Prop:=Kb 6 d/\∃as,Reads h (.ref a) d as
noncomputable def mj (prog:Program)(w:World):HeapKind prog w D where
 is:=IJ
 hash:=sa
 draws:=uo
 room:=fun A=>A.units+100<cLine
 inj:=fun⟨k1,_,r1⟩ ⟨k2,_,r2⟩=>As 6 _ _ _ _ _ k1 k2 r1 r2
 keeps:=fun⟨k1,_,r1⟩ hd ho hs=>⟨k1,_,ye hd ho hs 6 _ _ _ k1 r1⟩
 pyHash:=fun hu ⟨k1,_,r1⟩ q=>yE 6 _ _ _ _ _ _ _ k1 r1 ⋯ q
 eqBool:=fun {A E s x y a b Q} hu ⟨k1,_,r1⟩ ⟨k2,_,r2⟩ q=>by
  have e:PyData.eqv x y=decide (x=y):=by
   by_cases z:x=y
   ·rw[(Cy k1 k2).mpr z,decide_eq_true z]
   ·rw[decide_eq_false z];exact Bool.eq_false_iff.mpr fun q=>z ((Cy k1 k2).mp q)
  have dx:=k1.nb.deep;refine eqAt_reads x y A s _ _ _ _ r1 r2 k1.nb.lay k2.nb.lay ⋯ prog w _ _ ?_;rw[e];exact q
 quiet:=fun⟨k1,_,r1⟩ q=>wG 6 _ 8 _ _ _ _ _ _ k1 (by decide) r1 q
mutual
theorem HN:∀(d:D) (n:Nat),Dj d n=true->Kb n d
 |.int i,n,_=>.int n i
 |.tuple ds,0,h=>by simp[Dj] at h
 |.tuple ds,n+1,h=>.tuple (yz ds n (by simpa [Dj] using h))
 |.none,n,h=>by simp[Dj] at h
 |.bool _,n,h=>by simp[Dj] at h
 |.str _,n,h=>by simp[Dj] at h
 |.list _,n,h=>by simp[Dj] at h
 |.dict _,n,h=>by simp[Dj] at h
theorem yz:∀(ds:List D) (n:Nat),xl ds n=true->vX n ds
 |[],n,_=>.nil
 | d::ds,n,h=>by
  simp only[xl,Bool.and_eq_true] at h;exact .cons (HN d n h.1) (yz ds n h.2)
end
theorem key_of {d:D}(h:gJ d=true):Kb 6 d:=by
 cases d <;> first|exact .tuple (yz _ 5 h)|(simp[gJ] at h)
theorem vt {K:Fg}{H:Hp}{O:List Addr}{d:D}{v:V}(h:gJ d=true)(r:R K H O d v):∃b,v=.ref b:=by
 cases r <;> first|exact⟨_,rfl⟩|(simp[gJ] at h)
theorem qJ {x y:D}(hx:gJ x=true)(hy:gJ y=true):same x y=true<->x=y :=
 ⟨fun e=>(key_of hx).nb.eq (key_of hy).nb e,fun e=>by rw[e];exact same_self _⟩
noncomputable def nG (es:List En)(k:D):Option V:=(es.find? fun p=>same p.1 k).map (·.2.2)
theorem Rd.look {K:Fg}{H:Hp}{O:List Addr}{k:D}:∀{kvs:List (D×D)}{es:List En},Rd K H O kvs es->(qz kvs k=none/\nG es k=none)\/∃d v,qz kvs k=some d/\nG es k=some v/\R K H O d v
 |_,_,.nil=>.inl ⟨rfl,rfl⟩
 | (k',d)::kvs,(_,u,v)::es,.cons h g r=>by
  by_cases e:Spec.same k' k=true
  ·exact .inr ⟨d,v,by simp[qz,Jx,e],by simp[nG,Jx,e],g⟩
  ·rw[Bool.not_eq_true] at e;have:=Rd.look (k:=k) r;simpa [qz,nG,Jx,e] using this
theorem Rd.keys {K:Fg}{H:Hp}{O:List Addr}:∀{kvs:List (D×D)}{es:List En},Rd K H O kvs es->es.map (·.1)=kvs.map (·.1)
 |_,_,.nil=>rfl
 |_,_,.cons _ _ r=>by rw[az,az,Rd.keys r]
theorem Rd.keyIn {K:Fg}{H:Hp}{O:List Addr}:∀{kvs:List (D×D)}{es:List En}{p:En},Rd K H O kvs es->p∈es->R K H O p.1 p.2.1
 |_,_,_,.nil,h=>nomatch h
 | _,_,_,.cons h g r,hp=>by
  rcases List.mem_cons.mp hp with z|z
  ·subst z;exact h
  ·exact Rd.keyIn r z
theorem mv {kvs:List (D×D)}{es:List En}(e:es.map (·.1)=kvs.map (·.1))(h:gg kvs=true):∀p∈es,gJ p.1=true:=fun p hp=>by
 have:p.1∈kvs.map (·.1):=e▸List.mem_map_of_mem hp;obtain⟨q,hq,z⟩:=List.mem_map.mp this;rw[<-z];exact List.all_eq_true.mp h q hq
section
variable {X:Cx}{pins:List (Addr×Obj)}{σ:St}{H:Hp}{s:Shared}{O:List Addr}
theorem nY {α β:Type}{r:α->β->Prop}:∀{xs:List α}{ys:List β},Paired r xs ys->∀y∈ys,∃x∈xs,r x y
 |_,_,.nil,y,hy=>nomatch hy
 | _,_,.cons h hs,y,hy=>by
  rcases List.mem_cons.mp hy with z|z
  ·subst z;exact⟨_,aQ,h⟩
  ·obtain⟨x,hx,q⟩:=nY hs y z;exact⟨x,aG _ hx,q⟩
theorem CH {a:Addr}{es:Es}{kvs:List (D×D)}(I:cT X pins σ H s)(h:H a=some (nI a es))(hr:Rd X.K H O kvs es.2)(hk:gg kvs=true) :
  ∃xs,Paired qk es.2 xs/\s.heap.DictOfH (mj X.prog X.w) a xs/\es.2.length<=sizeLine/\(a==sysModules)=false:=by
 obtain⟨⟨z,y,e1,xs,p,ds,ep,e2,e3,e4,e5⟩,_,_⟩:=(show L2.ObjOk X.prog X.w H s.heap a (nI a es) from I.hok a _ h);refine⟨xs,p,⟨es.1,ds,ep,e1,e2,e3,e4,fun x hx=>?_,e5⟩,z,y⟩;obtain⟨q,hq,q1,q2,_⟩:=nY p x hx;have kq:=mv hr.keys hk q hq;have rq:=hr.keyIn hq;rw[q2] at rq;rw[q1] at kq rq;exact⟨key_of kq,R.reads I rq (key_of kq).nb.lay _ rfl⟩
theorem si {k:D}(hk:gJ k=true):∀{es:List En}{xs:List (D×Addr×Value)},Paired qk es xs->(∀p∈es,gJ p.1=true)->(nG es k=none/\atKey xs k=none)\/∃v b u,nG es k=some v/\atKey xs k=some (b,u)/\dX v u
 |_,_,.nil,_=>.inl ⟨rfl,rfl⟩
 | p::es,x::xs,.cons h hs,ok=>by
  obtain⟨h1,h2,h3⟩:=h;have kp:=ok p aQ;by_cases e:same p.1 k=true
  ·have e':x.1=k:=h1▸(qJ kp hk).mp e;exact .inr ⟨p.2.2,x.2.1,x.2.2,by simp[nG,Jx,e],by simp[atKey,Jx,e'],h3⟩
  ·have e':x.1≠k:=fun z=>e ((qJ kp hk).mpr (h1.trans z));rw[Bool.not_eq_true] at e;have:=si hk hs fun p hp=>ok p (aG _ hp);simpa [nG,atKey,Jx,e,e'] using this
noncomputable def Hs (K:Fg):L2.R2:=fun x y H Q=>∃a es kvs O k v,x=.ref a/\H a=some (nI a es)/\Rd K H O kvs es.2/\gg kvs=true/\gJ k=true/\R K H O k y/\nG es.2 k=some v/\Q v H
theorem GC (hu:X.A.units+200<cLine):L2.IxR X (Hs X.K):=by
 intro value slice pins s σ H x y v u Q I rx ry h hs;obtain⟨a,es,kvs,O,k,w,rfl,ha,hr,hk,kk,rk,hl,q⟩:=h;cases rx;obtain⟨xs,p,dm,z,nm⟩:=CH I ha hr hk;obtain⟨b,rfl⟩:=vt kk rk;cases ry;obtain⟨as,rd⟩:=R.reads I rk (key_of kk).nb.lay _ rfl;rcases si kk p (mv hr.keys hk) with ⟨e,_⟩|⟨v',b',u',e1,e2,e3⟩
 ·rw[hl] at e;cases e
 ·rw[hl] at e1;cases e1;refine PyProof.Rows.subscriptTail_builtinR (x:=u') dm.typeIs PySem.F.slot_dict_getitem.lookup
   (wpAny_getItem_heap (knd:=mj X.prog X.w) (Q:=fun r s'=>r=u'/\EP X pins σ Q r s') (show X.A.in1.units+100<cLine by have:X.A.in1.units=X.A.units+1:=rfl;omega) ⟨key_of kk,as,rd⟩ dm e2 ⟨rfl,w,H,I.tok _,e3,q⟩) hs
end
section
variable {X:Cx}{a b:Expr}{fb gb:BD}{pos p:Pos}
theorem BR.key {K:Fg}{H:Hp}{O:List Addr}{d:D}{v:V}(k:gJ d=true)(h:BR K H O d v):R K H O d v:=by
 rcases h with h|⟨a,ds,vs,e1,_⟩|⟨a,kvs',es,e1,e2,e3,q⟩
 ·exact h
 ·rw[e1] at k;cases k
 ·rw[e1] at k;cases k
theorem Gd:OD X (Hs X.K) qE:=by
 intro x y vx vy H O r Q ne hx hy hf k;unfold qE at hf;cases x <;> first|cases hf|skip
 rename_i kvs;dsimp only at hf;split at hf
 ·rename_i c;rw[Bool.and_eq_true] at c;obtain⟨a,es,rfl,ha,hr⟩:=hx.dict;rcases hr.look (k:=y) with ⟨e1,_⟩|⟨d,v,e1,e2,rv⟩
  ·rw[e1] at hf;cases hf
  ·rw[e1] at hf;cases hf;exact⟨a,es,kvs,O,y,v,rfl,ha,hr,c.1,c.2,hy.key c.2,e2,k _ H (.refl H) (.of rv)⟩
 ·cases hf
theorem yO (hu:X.A.units+200<cLine)(ha:DB X a fb)(hb:DB X b gb)(hs:L2.PlainIx b:=by exact fun _ _=>rfl):DE X (.Subscript a b pos) (d2 qE fb gb):=(L2.pe_ix (GC hu) ha hb hs).imp fun _ _ _ h=>vQ Gd h
noncomputable def pT (es:List En)(k:D)(u v:V):List En:=if (nG es k).isSome=true then es.map fun p=>if same p.1 k=true then (p.1,p.2.1,v) else p else es++[(k,u,v)]
noncomputable def Hm (K:Fg):L2.TSet:=fun o i v H Q=>∃a es kvs O k,o=.ref a/\H a=some (nI a es)/\es.2.length<sizeLine/\Rd K H O kvs es.2/\gg kvs=true/\gJ k=true/\R K H O k i/\∀ob,Q (eA H a (nI a (ob,pT es.2 k i v)))
theorem rG {k:D}{b:Addr}{v:V}{u:Value}(hk:gJ k=true)(rv:dX v u){es:List En}{xs:List (D×Addr×Value)}(h:Paired qk es xs)(ok:∀p∈es,gJ p.1=true):Paired qk (pT es k (.ref b) v) (storedH xs k b u):=by
 have lk:=si hk h ok;have go:∀{es:List En}{xs:List (D×Addr×Value)},Paired qk es xs->(∀p∈es,gJ p.1=true)->Paired qk (es.map fun p=>if same p.1 k=true then (p.1,p.2.1,v) else p) (xs.map (putAt k u)):=fun {es xs} h=>by
  induction h with
  |nil=>intro _;exact .nil
  |@cons p x es xs hp hs ih =>
   intro ok;obtain⟨h1,h2,h3⟩:=hp;have kp:=ok p aQ;refine .cons ?_ (ih fun p hp=>ok p (aG _ hp));by_cases e:same p.1 k=true
   ·have e':x.1=k:=h1▸(qJ kp hk).mp e;dsimp only;rw[if_pos e];unfold putAt;rw[if_pos e'];exact⟨h1,h2,rv⟩
   ·have e':x.1≠k:=fun z=>e ((qJ kp hk).mpr (h1.trans z));dsimp only;rw[if_neg e];unfold putAt;rw[if_neg e'];exact⟨h1,h2,h3⟩
 have app:∀{es:List En}{xs:List (D×Addr×Value)},Paired qk es xs->Paired qk (es++[(k,.ref b,v)]) (xs++[(k,b,u)]):=fun {es xs} h=>by
  induction h with
  |nil=>exact .cons ⟨rfl,rfl,rv⟩ .nil
  |cons hp _ ih=>exact .cons hp ih
 unfold pT storedH;rcases lk with ⟨e1,e2⟩|⟨v',b',u',e1,e2,e3⟩
 ·rw[e1,e2,if_neg (by simp),if_neg (by simp)];exact app h
 ·rw[e1,e2,if_pos (by rfl),if_pos (by rfl)];exact go h ok
theorem wH (es:List En)(k:D)(u v:V):(pT es k u v).length<=es.length+1:=by
 unfold pT;split
 ·rw[af];omega
 ·rw[aw];simp
theorem DF (hu:X.A.units+200<cLine):L2.PSet X (Hm X.K):=by
 intro pins s σ H o i v ov iv u Q I ro ri rv h;obtain⟨a,es,kvs,O,k,rfl,ha,hz,hr,hk,kk,rk,q⟩:=h;cases ro;obtain⟨xs,p,dm,z,nm⟩:=CH I ha hr hk;obtain⟨b,rfl⟩:=vt kk rk;cases ri;obtain⟨as,rd⟩:=R.reads I rk (key_of kk).nb.lay _ rfl;have hl:=p.length;refine wpAny_setItem_heap (knd:=mj X.prog X.w) (show X.A.in1.units+100<cLine by have:X.A.in1.units=X.A.units+1:=rfl;omega) ⟨key_of kk,as,rd⟩ dm (fun h' dm' sb=>?_) ⋯;obtain⟨o',ds,ep,e1,e2,e3,e4,_,e5⟩:=dm';have pl:=wH es.2 k (.ref b) v;have no:L2.ObjOk X.prog X.w (eA H a (nI a (o',pT es.2 k (.ref b) v))) h' a (nI a (o',pT es.2 k (.ref b) v)) :=
  CO (es:=(o',pT es.2 k (.ref b) v)) ⟨by show (pT es.2 k (.ref b) v).length<=_;omega,nm,e1,storedH xs k b u,rG kk rv p (mv hr.keys hk),ds,ep,e2,e3,e4,e5⟩
 exact⟨_,I.write (x:=a) (e:=a) (by rw[ha];trivial) (.inl rfl) (fun c o n e=>(sb.2 c n).trans e) ⟨_,e1⟩ no,q o'⟩
theorem Rd.putGo {K:Fg}{H:Hp}{O:List Addr}{k d:D}{v:V}(hv:R K H O d v):∀{kvs:List (D×D)}{es:List En},Rd K H O kvs es->Rd K H O (kvs.map fun p=>if Spec.same p.1 k=true then (p.1,d) else p) (es.map fun p=>if Spec.same p.1 k=true then (p.1,p.2.1,v) else p)
 |_,_,.nil=>.nil
 | (k',_)::_,(_,_,_)::_,.cons h1 h2 r=>by
  rw[az,az];by_cases e:Spec.same k' k=true
  ·simp only[e,if_true];exact .cons h1 hv (Rd.putGo hv r)
  ·simp only[e];exact .cons h1 h2 (Rd.putGo hv r)
theorem Rd.put {K:Fg}{H:Hp}{O:List Addr}{kvs:List (D×D)}{es:List En}{k d:D}{u v:V}(h:Rd K H O kvs es)(hk:R K H O k u)(hv:R K H O d v):Rd K H O (tK kvs k d) (pT es k u v):=by
 unfold tK pT;rcases h.look (k:=k) with ⟨e1,e2⟩|⟨d',v',e1,e2,_⟩
 ·rw[e1,e2,if_neg (by simp),if_neg (by simp)];exact h.append (.cons hk hv .nil)
 ·rw[e1,e2,if_pos (by rfl),if_pos (by rfl)];exact Rd.putGo hv h
end
section
variable {prog:Program}{w:World}{A:Around}{E:Value->Shared->Prop}{s:Shared}{d it:Addr}{od:Obj}{ds:Array DictEntry}{ep i n:Nat}
end
theorem rK {α β:Type}{r:α->β->Prop}:∀{xs:List α}{ys:List β}{i:Nat}{x:α},Paired r xs ys->xs[i]?=some x->∃y,ys[i]?=some y/\r x y
 |_,_,_,_,.nil,e=>by simp at e
 |_,_,0,_,.cons h _,e=>by simp at e;subst e;exact⟨_,rfl,h⟩
 |_,_,i+1,_,.cons _ hs,e=>by simpa using rK hs (by simpa using e)
section
variable {X:Cx}{tg e:Expr}{f:ED}
end
theorem yM {i:Nat}{ρ:Sl}{kvs:List (D×D)}(h:zX i ρ=some kvs):ρ[i]?=some (some (nu (.dict kvs),true)):=by
 unfold zX at h;split at h
 ·rename_i e;cases h;exact e
 ·cases h
section
variable {K:Fg}{H:Hp}{B M:List Addr}{lad:Nat->Addr}{ρ:Sl}{σ:St}{i:Nat}
theorem ER.mutDc {kvs kvs':List (D×D)}{a:Addr}{es es':Es}(h:ER K H (M++B) M lad ρ σ)(hr:ρ[i]?=some (some (nu (.dict kvs),true)))(e1:σ[i]?=some (some (.ref a)))(e2:H a=some (nI a es))(e3:a∈M)
  (ap:∀(j:Nat) (ys:List D) (c:Addr),ρ[j]?=some (some (.list ys,true))->σ[j]?=some (some (.ref c))->c≠a) (q:Rd K H (M++B) kvs' es'.2) :
  gZ M H M (eA H a (nI a es'))/\ER K (eA H a (nI a es')) (M++B) M lad (ρ.set i (some (nu (.dict kvs'),true))) σ:=by
 have hi:i<ρ.length:=(List.getElem?_eq_some_iff.mp hr).1;have x:gZ M H M (eA H a (nI a es')):=by
  refine⟨fun b o n e=>?_,fun b xs e=>?_,fun b o u e=>?_,fun b hb=>.inl hb,fun b hb=>?_⟩
  ·rw[cG (fun (z:b=a)=>n (by rw[z];exact e3))];exact e
  ·rw[cG (fun z=>by subst z;rw[e2] at e;cases e)];exact e
  ·rw[cG (fun z=>by subst z;rw[e2] at e;cases e)];exact e
  ·by_cases hz:b=a
   ·subst hz;rw[cO];simp
   ·rw[cG hz];exact hb
 have x':iZ M (M++B) H (M++B) (eA H a (nI a es')):=x.ext;have ne:∀{j:Nat}{y:Vl},(∀c,y≠(nu c,true))->(ρ.set i (some (nu (.dict kvs'),true)))[j]?=some (some y)->i≠j:=fun {j y} hy ej z=>by subst z;rw[ay hi] at ej;exact hy _ (Option.some.inj (Option.some.inj ej)).symm
 refine⟨x,fun j d' ej=>?_,fun j d' ej=>?_,fun j d' ej=>?_,fun j k d' e' b e5 e6 e7 e8=>?_,fun b hb=>?_,h.sub,by rw[aY];exact h.len,⟨fun j c ej=>?_,fun j k c c' e5 e6=>?_⟩⟩
 ·have nj:=ne (by intro c z;cases z) ej;rw[ai nj] at ej;obtain⟨v,e5,q5⟩:=h.sh j d' ej;exact⟨v,e5,q5.ext x'⟩
 ·have nj:=ne (by intro c z;cases z) ej;rw[ai nj] at ej;obtain⟨b,us',e6,e7,e8,q5⟩:=h.ow j d' ej;refine⟨b,us',e6,?_,e8,q5.ext x'⟩;rw[cG (ap j d' b ej e6)];exact e7
 ·have nj:=ne (by intro c z;simp[iw,nu] at z) ej;rw[ai nj] at ej;obtain⟨e6,us',e7,e8,e9,q5⟩:=h.le j d' ej;refine⟨e6,us',?_,e8,e9,q5.ext x'⟩;rw[cG (fun (z:lad j=a)=>e9 (by rw[z];exact e3))];exact e7
 ·have nj:=ne (by intro c z;cases z) e5;have nk:=ne (by intro c z;cases z) e6;rw[ai nj] at e5;rw[ai nk] at e6;exact h.ap j k d' e' b e5 e6 e7 e8
 ·by_cases z:b=a
  ·subst z;exact⟨.inr _,cO⟩
  ·obtain⟨u,e⟩:=h.tr b hb;exact⟨u,by rw[cG z];exact e⟩
 ·by_cases hj:i=j
  ·subst hj;rw[ay hi] at ej;have e5:PyData.dict kvs'=c:=by
    have:=Option.some.inj (Option.some.inj ej);simpa [nu] using this
   subst e5;refine .inr ⟨_,rfl,a,es',e1,cO,e3,q.ext x',fun k ys c z1 z2=>?_⟩;have nk:=ne (by intro c z;cases z) z1;rw[ai nk] at z1;exact ap k ys c z1 z2
  ·rw[ai hj] at ej;exact absurd (h.dp.one i j (.dict kvs) c hr ej) hj
 ·have one:∀{j:Nat}{c:D},(ρ.set i (some (nu (.dict kvs'),true)))[j]?=some (some (nu c,true))->i=j:=fun {j c} ej=>by
   by_cases hj:i=j
   ·exact hj
   ·rw[ai hj] at ej;exact h.dp.one i j (.dict kvs) c hr ej
  exact (one e5).symm.trans (one e6)
theorem AJ (h:qc ρ=true){j:Nat}{c:D}:ρ[j]?≠some (some (nu c,true)):=fun e=>by
 have:=List.all_eq_true.mp h _ (aA e);simp[nu] at this
theorem ER.newDc {p:Addr}(h:ER K H (M++B) M lad ρ σ)(hB:∀c∈M,c∉B)(hp:H p=none)(nd:qc (ρ.set i none)=true)(hi:i<ρ.length)(es:Es)(he:es.2=[]) :
  gZ M H (p::M) (eA H p (nI p es))/\(∀c∈p::M,c∉B)/\ER K (eA H p (nI p es)) ((p::M)++B) (p::M) lad (ρ.set i (some (nu (.dict []),true))) (σ.set i (some (.ref p))):=by
 have hi':i<σ.length:=by rw[<-h.len];exact hi
 have s:dq H (eA H p (nI p es)):=fun b o e=>by rw[cG (cI e hp)];exact e
 have x:iZ [] (M++B) H ((p::M)++B) (eA H p (nI p es)):=iZ.fresh s hp;have notIn:∀b,b∈M++B->b≠p:=fun b hb z=>h.ne b hb (z▸hp);have ne:∀{j:Nat}{y:Vl},(∀c,y≠(nu c,true))->(ρ.set i (some (nu (.dict []),true)))[j]?=some (some y)->i≠j:=fun {j y} hy ej z=>by subst z;rw[ay hi] at ej;exact hy _ (Option.some.inj (Option.some.inj ej)).symm
 have one:∀{j:Nat}{c:D},(ρ.set i (some (nu (.dict []),true)))[j]?=some (some (nu c,true))->i=j:=fun {j c} ej=>by
  by_cases hj:i=j
  ·exact hj
  ·rw[ai hj] at ej;exact absurd (by rw[ai hj];exact ej) (AJ nd (j:=j) (c:=c))
 refine⟨⟨fun b o _ e=>s b o e,fun b _ e=>s b _ e,fun b _ _ e=>s b _ e,fun b hb=>(List.mem_cons.mp hb).elim (fun z=>.inr (z▸hp)) .inl,(gZ.same (M:=M) s).there⟩,fun b hb=>(List.mem_cons.mp hb).elim (fun z hbB=>notIn b (aL _ hbB) z) (hB b),fun j d' ej=>?_,fun j d' ej=>?_,fun j d' ej=>?_,fun j k d' e' b e5 e6 e7 e8=>?_,fun b hb=>?_,fun b hb=>?_,by rw[aY,aY];exact h.len,⟨fun j c ej=>?_,fun j k c c' e5 e6=>(one e5).symm.trans (one e6)⟩⟩
 ·have nj:=ne (by intro c z;cases z) ej;rw[ai nj] at ej ⊢;obtain⟨v,e5,q5⟩:=h.sh j d' ej;exact⟨v,e5,q5.ext x⟩
 ·have nj:=ne (by intro c z;cases z) ej;rw[ai nj] at ej ⊢;obtain⟨b,us',e6,e7,e8,q5⟩:=h.ow j d' ej;exact⟨b,us',e6,s _ _ e7,aG _ e8,q5.ext x⟩
 ·have nj:=ne (by intro c z;simp[iw,nu] at z) ej;rw[ai nj] at ej ⊢;obtain⟨e6,us',e7,e8,e9,q5⟩:=h.le j d' ej;exact⟨e6,us',s _ _ e7,aG _ e8,fun z=>(List.mem_cons.mp z).elim (fun z=>notIn _ e8 z) e9,q5.ext x⟩
 ·have nj:=ne (by intro c z;cases z) e5;have nk:=ne (by intro c z;cases z) e6;rw[ai nj] at e5 e7;rw[ai nk] at e6 e8;exact h.ap j k d' e' b e5 e6 e7 e8
 ·rcases lB hb with z|z
  ·subst z;exact⟨.inr _,cO⟩
  ·obtain⟨u,e⟩:=h.tr b z;exact⟨u,s _ _ e⟩
 ·rcases List.mem_cons.mp hb with z|z
  ·subst z;exact aS _ aQ
  ·exact aS _ (aG _ z)
 ·have hj:=one ej;subst hj;rw[ay hi] at ej;have e5:PyData.dict []=c:=by
   have:=Option.some.inj (Option.some.inj ej);simpa [nu] using this
  subst e5;refine .inr ⟨_,rfl,p,es,ay hi',cO,aQ,by rw[he];exact .nil,fun k ys c z1 z2 z3=>?_⟩;have nk:=ne (by intro c z;cases z) z1;rw[ai nk] at z1 z2;obtain⟨b,us',e6,e7,e8,q5⟩:=h.ow k ys z1;rw[z2] at e6;cases e6;exact notIn _ (aS _ e8) z3
end
section
variable {X:Cx}{e ek ev:Expr}{f ke vx:ED}{pos p1 p2 py:Pos}{i:Nat}{x:Str}{st:Stmt}{F:SD}{sts:List Stmt}
noncomputable def FO:TE:=fun _ H Q=>∀p es,H p=none->es.2=[]->Q (.ref p) (eA H p (nI p es))
theorem BK:PE X (.Dict [] [] pos) FO:=fun pins s σ H Q I h=>by
 have no:L2.ObjOk X.prog X.w (eA H s.heap.objs.size (nI s.heap.objs.size ({ cls:=.type "dict", data:=.dict #[] },[]))) (s.heap.push { cls:=.type "dict", data:=.dict #[] }) s.heap.objs.size (nI s.heap.objs.size ({ cls:=.type "dict", data:=.dict #[] },[])) :=
  CO (es:=({ cls:=.type "dict", data:=.dict #[] },[])) ⟨bw _,beq_eq_false_iff_ne.mpr (Ne.symm (aO (Nat.lt_trans (by decide) (I.mod.glob.keeps I.bk).lt))),aD _ rfl,[],.nil,#[],0,⟨rfl,rfl,rfl⟩,rfl,rfl,List.nodup_nil⟩
 exact wpAny_Dict_empty ⟨.ref s.heap.objs.size,_,I.laid (a:=s.heap.objs.size) (t':=s.toks) (fun _ _ q=>ae _ q) (aC _) no,rfl,h _ _ (I.hok.fresh (aC _)) rfl⟩
theorem CF (hN:X.N.Nodup)(hi:X.N[i]?=some x:=by rfl)(hx:L2.Loc X.env.scope x:=by first|exact Or.inl rfl|exact Or.inr rfl)(hs:swapsWith (.Dict [] [] p1) (some (.Name x py)) pos.line X.env=pure false:=by rfl)
  (hf:X.fn x=true\/X.env.scope.names.lookup x=some .local:=by first|exact .inl rfl|exact .inr rfl|assumption):DS X (.Assign [.Name x py] (.Dict [] [] p1) pos) (rE i):=fun B H₀ M₀ lad=>(L2.ps_set hN hi hx BK hs hf).imp fun E σ H zz=>by
 obtain ⟨ρ,fl,⟨M,hx,hB,hE⟩,hf,k⟩:=zz;unfold rE at hf;split at hf
 ·rename_i c;cases hf;intro p es hp he;obtain⟨y1,y2,y3⟩:=hE.newDc hB hp c.1 c.2 es he;exact k _ _ ⟨_,hx.trans y1,y2,y3⟩
 ·cases hf
theorem CC (hu:X.A.units+200<cLine)(hk:DE X ek ke)(he:DE X ev vx)(hN:X.N[i]?=some x:=by rfl)(hv:L2.Vis X.env.scope x:=by first|exact Or.inl rfl|exact Or.inr (Or.inl rfl)|exact Or.inr (Or.inr rfl))(hd:(x==("__debug__" : Str))=false:=by decide)
  (hcd:(x==("__classdict__" : Str))=false:=by decide)
  (ha:∀v,assign (.Subscript (.Name x p1) ek p2) X.env v=(do
   let ov <-holding [v] (eval (.Name x p1) X.env)
   let iv <-holding [v,ov] (eval ek X.env)
   standAt p2
   holding [v,ov,iv] (setItem ov iv v)
   release [v,ov,iv] []):=by intro _;rfl)
  (hs:swapsWithSole [.Subscript (.Name x p1) ek p2] ev pos.line X.env=pure false:=by rfl) (hw:swappedStores [.Subscript (.Name x p1) ek p2] ev X.env=pure none:=by rfl)
  (h1:(assignEach [.Subscript (.Name x p1) ek p2] X.env).map (·.2)=[assign (.Subscript (.Name x p1) ek p2) X.env]:=by rfl) :
  DS X (.Assign [.Subscript (.Name x p1) ek p2] ev pos) (va i ke vx):=fun B H₀ M₀ lad =>
 (L2.ps_asg he (L2.pg_sub (L2.pe_var hN hv hd hcd) hk (DF hu) ha) hs hw h1).imp fun E σ H zz=>by
  obtain ⟨ρ,fl,⟨M,hx,hB,hE⟩,hf,k⟩:=zz;have ne0:∀{Hx:Hp},∀a∈([]:List Addr),Hx a≠none:=fun a ha=>nomatch ha;unfold va at hf;obtain⟨kvs,hr0,hf⟩:=Option.bind_eq_some_iff.mp hf;obtain⟨r,hr,hf⟩:=Option.bind_eq_some_iff.mp hf;obtain⟨d,ho,hf⟩:=Option.bind_eq_some_iff.mp hf;obtain⟨z,hz,hf⟩:=Option.bind_eq_some_iff.mp hf;obtain⟨y,hy,hf⟩:=Option.bind_eq_some_iff.mp hf;split at hf
  ·rename_i c;cases hf;rw[Bool.and_eq_true] at c;have hr':=yM hr0;obtain⟨a,es,e1,e2,e3,q,ap⟩:=hE.dp.dc i kvs hr';obtain⟨er,lf⟩:=ua ho;obtain⟨ey,ly⟩:=ua hy;subst er ey;refine⟨unown ρ,[],[],lad,_,hE.unown,hr,fun v H1 s1 q1=>⟨.ref a,e1,unown ρ,[],[],lad,_,hE.unown.same s1,hz,fun u H2 s2 q2=>?_⟩⟩;have S:dq H H2:=s1.trans s2;have rk:R X.K H2 (M++B) y u:=(q2.toR ne0).lf ly;have rv:R X.K H2 (M++B) d v:=((q1.toR ne0).lf lf).same s2;have rd:=q.same S;refine⟨a,es,kvs,M++B,y,rfl,S _ _ e2,by rw[<-rd.length];exact c.2,rd,c.1.1,c.1.2,rk,fun ob=>?_⟩;obtain⟨sx,E5⟩:=(hE.same S).mutDc (es':=(ob,pT es.2 y u v)) hr' e1 (S _ _ e2) e3 ap (rd.put rk rv);exact k _ _ ⟨M,(hx.trans (.same S)).trans sx,hB,E5⟩
  ·cases hf
end
open PySem
open PySem PyProof.Rows
section
variable {prog:Program}{w:World}{A:Around}{E:Value->Shared->Prop}{s:Shared}
end
end DL
set_option maxHeartbeats 3200000
namespace DL
open PySem PyProof.Rows
section
variable {prog:Program}{w:World}{A:Around}{R:Result->Shared->Prop}{I:Addr}{fp wr:List Addr}{G:Array GenState->Array GenState->Prop}{n:Nat}{P:Nat->Value->Prop}{St:Nat->Shared->Prop}{led:Bool}
end
section
variable {prog:Program}{w:World}{A:Around}{E:Value->Shared->Prop}{s:Shared}
end
section
variable {prog:Program}{w:World}{A:Around}{E:Value->Shared->Prop}{s:Shared}{a it:Addr}{o:Obj}{es:Array (Int×Value)}{ep i:Nat}{t:SetTable}{led:Bool}{σ:List Int}
variable {n slot:Nat}
end
section
variable {prog:Program}{w:World}{A:Around}{E:Value->Shared->Prop}{s:Shared}{a it:Addr}{o:Obj}{es:Array (Int×Value)}{ep n:Nat}{t:SetTable}{led:Bool}{σ:List Int}
end
section
variable {prog:Program}{w:World}{A:Around}{E:Value->Shared->Prop}{s:Shared}{a it:Addr}{o:Obj}{es:Array (Int×Value)}{ep n:Nat}{t:SetTable}{led:Bool}{σ:List Int}
end
open PySem PySem.W PySem.Calls PyProof.Rows PyProof.V PySem.Spec
section
variable {prog:Program}{w:World}{A:Around}{E:Value->Shared->Prop}{s:Shared}{a it:Addr}{o:Obj}{es:Array (Int×Value)}{ep n:Nat}{t:SetTable}{σ:List Int}
end
section
variable {prog:Program}{w:World}{A:Around}{E:Value->Shared->Prop}{s:Shared}
end
open PySem PySem.Spec PySem.SeqAt PyProof.Rows
open L2 (V Hp St HO VK TE TT TA TS TI TG Cx cT PE PT PA PS PSs PI PG jw jT dq eA cO cG cI cY dX EP TP AP SP jU It iM)
section
variable {X:Cx}
variable {a b:Expr}{fb gb:BD}{pos p p2 p3:Pos}
theorem kT {K:Fg}{H:Hp}{O:List Addr}:∀{ds:List D}{vs:List V}{is:List Int},iQ ds=some is->Rs K H O ds vs->vs=is.map V.int:=by
 intro ds;induction ds with
 |nil =>
  intro vs is h q;cases h;cases q;rfl
 |cons d ds ih =>
  intro vs is h q;unfold iQ at h;obtain⟨i,hd,h⟩:=Option.bind_eq_some_iff.mp h;cases hs:iQ ds with
  |none=>rw[hs] at h;cases h
  |some js =>
   rw[hs,av] at h;cases h;cases d <;> first|(cases hd;done)|skip
   cases hd;cases q with
   |cons r rs =>
    cases r;rw[ih hs rs];rfl
end
end DL
namespace L2
open PySem PySem.Spec PyProof.Rows
section
variable {prog:Program}{w:World}{A:Around}{E:Value->Shared->Prop}{s:Shared}
end
end L2
namespace DL
open PySem PySem.Spec PySem.SeqAt PyProof.Rows
open L2 (V Hp HO VK TE TT TA TS TI TG Cx cT PE PT PA PS PSs PI PG jw jT dq eA cO cG cI cY dX EP TP AP SP jU It iM)
section
variable {X:Cx}{a:Expr}{fb:BD}{pos p:Pos}
end
end DL
namespace L2
open PySem PySem.Spec PyProof.Rows
section
variable {X:Cx}{a b:Expr}{ta:TA}{p p1 p2 pos:Pos}
end
end L2
namespace DL
open PySem PySem.Spec PySem.SeqAt
open L2 (V Hp St HO VK TE TT TA TS TI TG Cx cT PE PT PA PS PSs PI PG jw jT dq eA cO cG cI cY dX EP TP AP SP jU It iM)
section
variable {X:Cx}{a b:Expr}{f g:ED}{p p1 p2 pos:Pos}
end
noncomputable def yC:D->Option (List D)
 |.dict kvs=>if gg kvs=true then some (kvs.map fun p=>.tuple [p.1,p.2]) else none
 |_=>none
noncomputable def vB (f:ED):AD:=fun ρ=>(f ρ).bind fun x=>yC x.1
noncomputable def fh (p:Nat)(ρ:Sl):Option (List Int):=match ρ[p]? with
 |some (some (.dict [(.list xs,.none)],true))=>iQ xs
 |_=>none
noncomputable def qN (p:Nat)(ρ:Sl):Option (List Int):=match ρ[p]? with
 |some (some (.list xs,true))=>iQ xs
 |_=>none
noncomputable def lV (ns:List Int):D:=iw (ns.map .int)
noncomputable abbrev MD:=List Int->List D->Option (D×List Int)
noncomputable def mT (i:Nat):BD:=fun ρ=>match ρ[i]? with
 |some (some (.dict [(.list xs,.none)],true))=>some (.list xs)
 |_=>none
noncomputable def qp (i:Nat)(k f:ED):SD:=fun ρ=>(f ρ).bind fun x=>(xQ x.1).bind fun n=>(k ρ).bind fun y=>(xQ y.1).bind fun j=>(fh i ρ).bind fun ns=>(vZ ns.length j).bind fun p =>
 if iP (ρ.set i none)=true then some (.next (ρ.set i (some (lV (ns.set p n),true)))) else none
noncomputable def j5 (i:Nat)(G:MD)(t:AD)(j:Nat):SD:=fun ρ=>(fh i ρ).bind fun ns=>(t ρ).bind fun ds=>(G ns ds).bind fun r =>
 if iP (ρ.set i none)=true/\i≠j then some (.next ((ρ.set i (some (lV r.2,true))).set j (some (r.1,false)))) else none
noncomputable def vb (i:Nat)(G:MD)(t:AD):SD:=fun ρ=>(qN i ρ).bind fun ns=>(t ρ).bind fun ds=>(G ns ds).bind fun r=>some (.next (ρ.set i (some (.list (r.2.map .int),true))))
noncomputable def wB (p:Nat)(it:AD)(g:GD)(b:SD):SD:=fun ρ=>if iP (ρ.set p none)=true/\(fh p ρ).isSome=true then (it (ρ.set p none)).bind fun ds=>eN g b ds ρ else none
noncomputable def sJ (G:MD)(f1 f2:ED):ED:=fun ρ=>(f1 ρ).bind fun x=>(f2 ρ).bind fun y=>(IG y).bind fun ds=>(iQ ds).bind fun ns=>(G ns [x.1]).map fun r=>(r.1,false)
noncomputable def wI (n1:Nat)(ns:List Int)(ds:List D)(m:Nat):Sl:=(ds.take n1).map (fun d=>some (d,false))++some (lV ns,true)::((ds.drop n1).map (fun d=>some (d,false))++aH m none)
noncomputable def GG (n n1 m:Nat)(b:SD)(f:ED):MD:=fun ns ds=>if ds.length+1=n/\n1<=ds.length then (b (wI n1 ns ds m)).bind fun fl=>match fl with
 |.next ρ=>(f ρ).bind fun r=>(fh n1 ρ).map fun ms=>(r.1,ms)
 |_=>none else none
noncomputable def jW:List D->List D->List (D×D)->Option (List (D×D))
 |x::xs,y::ys,kvs=>if gJ x=true then jW xs ys (tK kvs x y) else none
 |_,_,kvs=>some kvs
noncomputable def yU (f g:AD):ED:=fun ρ=>(f ρ).bind fun xs=>(g ρ).bind fun ys=>if xs.length<=sizeLine then (jW xs ys []).map fun kvs=>(.dict kvs,false) else none
section
variable {prog:Program}{w:World}{A:Around}{E:Value->Shared->Prop}{s:Shared}{d it v:Addr}{od:Obj}{ds:Array DictEntry}{ep i n:Nat}{ok ov:Value}
theorem yY {Q:Value->Shared->Prop}(hd:(d==sysModules)=false)(ho:s.heap.get? d=some od)(hc:od.ExactDict)
  (hQ:Q (.ref s.heap.objs.size) { s with heap:=s.heap.push { cls:=.type "dict_items", data:=.fields #[.ref d] } }):wpAny (model prog w) A (call (.builtin "dict.items") [.ref d]) Q E s:=by
 have hT:s.TypeIs (.ref d) "dict" := ⟨od,ho,hc.1⟩;refine wpAny_call_entry F.slot_dict_items hT F.entry_dict_items ?_ (F.args_dict_items_1 _);unfold Builtin.«dict.items»;refine ab ?_;unfold Builtin.Dict.noArgs;refine ab (wpAny_notOrdered_dict hT ?_);show wpAny _ _ (pure d) _ _ s;refine aq ?_;show wpAny _ _ (Builtin.Dict.showsAll d>>=_) _ _ s;unfold Builtin.Dict.showsAll;rw[if_neg (by rw[hd];exact Bool.false_ne_true)];refine ab (aq ?_);exact ab (bW (aq ⟨_,rfl,hQ⟩))
theorem yB {Q:Value->Shared->Prop}(hv:s.heap.IsItemsView v d)(ho:s.heap.get? d=some od)(hdat:od.data=.dict ds ep)(hn:ds.size=n)
  (hQ:Q (.ref s.heap.objs.size) { s with heap:=s.heap.push { cls:=.type "dict_itemiterator", data:=.fields #[.none,.bool false,.ref d,.int 0 0,.int n 0,.int ep 0,.none,.none] } }):wpAny (model prog w) A (pyIter (.ref v)) Q E s:=by
 obtain⟨oV,hoV,hcV,hdV⟩:=id hv;refine wpAny_pyIter_slot hv.typeIs F.slot_dict_items_iter (wpAny_call_entry F.slot_dict_items_iter hv.typeIs F.entry_dict_items_iter ?_ (F.args_dict_items_iter_1 _));unfold Builtin.«dict_items.__iter__»;refine ab (aq (ab ?_));unfold Builtin.Dict_items.dictOf;refine ab (aV hoV hdV (x:=.ref d) rfl (aq (ab ?_)));unfold Builtin.Dict_items.newIterator;refine ab (wpAny_dictEntries ho hdat (ab (wpAny_dictEpoch ho hdat ?_)));have hown:Builtin.Dict_items.ownsTuple "dict_itemiterator" = true:=by decide
 simp only[hown,if_true];refine bW (aq ⟨_,rfl, "dict_itemiterator", _,⟨_,aD _ rfl,rfl⟩,F.slot_dict_itemiterator_next.lookup,?_⟩) (by simp only[sizeOk,Builtin.Dict_items.ownedTupleFields,aE,aw,aJ,bO,sizeLine_eq];omega);simpa [rawInt,hn,Builtin.Dict_items.ownedTupleFields] using hQ
theorem yp {Q:Option Value->Shared->Prop}(lZ:IsItemIter s.heap it d i n ep ok ov)(hod:s.heap.get? d=some od)(hdd:od.data=.dict ds ep)(hn:ds.size=n)(hi:i<ds.size)
  (hQ:∀h',IsItemIterOut h' it d (i+1) n ep ds[i].key ds[i].val s.heap.objs.size->h'.get? s.heap.objs.size=some { cls:=.type "tuple", data:=.seq #[ds[i].key,ds[i].val] }->h'.objs.size=s.heap.objs.size+1 →
   (∀b o,b≠it->s.heap.get? b=some o->h'.get? b=some o)->Q (some (.ref s.heap.objs.size)) { s with heap:=h' }):wpAny (model prog w) A (pyNext (.ref it)) Q E s:=by
 obtain⟨hp,g,dr,tk,os⟩:=s;have hT:Shared.TypeIs ⟨hp,g,dr,tk,os⟩ (.ref it) "dict_itemiterator" := ⟨_,lZ,rfl⟩;unfold pyNext;refine ab (wpAny_attempt (wpAny_callSpecial?_slot (name:=Str.ofString "__next__") hT F.slot_dict_itemiterator_next (wpAny_call_entry F.slot_dict_itemiterator_next hT F.entry_dict_itemiterator_next ?_ (F.args_dict_itemiterator_next_1 _))));refine ab (aq (ab (ab ?_)));first|refine ab (wpAny_typeNameOfWhole_itemiter hT (aq ?_))|refine ab (wpAny_typeNameOf_itemiter hT (aq ?_)) <;> skip
 refine ab (wpAny_fieldsOf lZ rfl ?_);have hown:Builtin.Dict_items.ownsTuple "dict_itemiterator" = true:=by decide
 simp only[hown,if_true];show wpAny _ _ (if (Value.ref d==Value.none)=true then _ else _) _ _ _;rw[if_neg (show ¬((Value.ref d==Value.none)=true) from Bool.false_ne_true)];refine ab (aq (ab (wpAny_dictEntries hod hdd ?_)));rw[if_neg (by rw[hn];simp)];refine ab (aq (ab (wpAny_dictEpoch hod hdd ?_)));rw[if_neg (by simp)];refine aq ?_;simp only[show ¬((i:Int)<0) from by omega,if_false,aW,JE hi];refine ab ?_
 first|refine ab (wpAny_typeNameOfWhole_itemiter hT (aq ?_))|refine ab (wpAny_typeNameOf_itemiter hT (aq ?_)) <;> skip
 refine ab (wpAny_isOneOf_itemiter hT ?_);show wpAny _ _ (setField (.ref it) 3 (rawInt ((i:Int)+1))>>=_) _ _ ⟨hp,g,dr,tk,os⟩;refine ab (aT lZ (by simp) fun h1 he1 hs1=>?_)
 replace hs1:Heap.SameBut it hp h1:=hs1
 replace he1:IsItemIter h1 it d (i+1) n ep ok ov:=by
  have e:((i+1:Nat):Int)=(i:Int)+1:=by omega
  unfold IsItemIter;rw[e];simpa [rawInt] using he1
 have hT1:Shared.TypeIs ⟨h1,g,dr,tk,os⟩ (.ref it) "dict_itemiterator" := ⟨_,he1,rfl⟩;refine ab (bD (ab (wpAny_isOneOf_itemiter hT1 (ab (wpAny_isOneOf_itemiter hT1 ?_)))));show wpAny _ _ (Builtin.Dict_items.pairFromOwner (.ref it) 6 ds[i].key ds[i].val) _ _ ⟨h1,g,dr,tk,os⟩;unfold Builtin.Dict_items.pairFromOwner;refine ab (wpAny_newTuple ?_);have he2:IsItemIter (h1.push { cls:=.type "tuple", data:=.seq #[ds[i].key,ds[i].val] }) it d (i+1) n ep ok ov:=ae _ he1;generalize hh2:h1.push { cls:=.type "tuple", data:=.seq #[ds[i].key,ds[i].val] }=h2 at he2;have hz1:h1.objs.size=hp.objs.size:=hs1.1;have hil:it<hp.objs.size:=aB lZ;have ht2:h2.get? hp.objs.size=some { cls:=.type "tuple", data:=.seq #[ds[i].key,ds[i].val] }:=by rw[<-hh2,<-hz1];exact aD _ rfl
 have hz2:h2.objs.size=hp.objs.size+1:=by rw[<-hh2,bp,hz1]
 have hk2:∀b o,b≠it->hp.get? b=some o->h2.get? b=some o:=fun b o hb e=>by rw[<-hh2];exact ae _ (hs1.extBut b o hb e)
 show wpAny _ _ (Builtin.Dict_items.ownedTupleIsFree (.ref it)>>=_) _ _ ⟨h2,g,dr,tk,os⟩;rw[hz1];clear hh2 he1 hs1 hT1 hz1 h1;refine ab ?_;unfold Builtin.Dict_items.ownedTupleIsFree;refine ab (aV he2 rfl (x:=.none) rfl (aq ?_));simp only[if_true];refine ab (aV he2 rfl (x:=ok) rfl (ab (aV he2 rfl (x:=ov) rfl (ab (aT he2 (by simp) fun h3 he3 hs3=>?_)))))
 replace hs3:Heap.SameBut it h2 h3:=hs3
 replace he3:IsItemIter h3 it d (i+1) n ep ds[i].key ov:=he3
 refine ab (aT he3 (by simp) fun h4 he4 hs4=>?_)
 replace hs4:Heap.SameBut it h3 h4:=hs4
 replace he4:IsItemIter h4 it d (i+1) n ep ds[i].key ds[i].val:=he4
 refine ab (aT he4 (by simp) fun h5 he5 hs5=>?_)
 replace hs5:Heap.SameBut it h4 h5:=hs5
 replace he5:IsItemIterOut h5 it d (i+1) n ep ds[i].key ds[i].val hp.objs.size:=he5
 refine ab (aT he5 (by simp) fun h6 he6 hs6=>?_)
 replace hs6:Heap.SameBut it h5 h6:=hs6
 have st:∀b o,b≠it->h2.get? b=some o->h6.get? b=some o:=fun b o hb e=>hs6.extBut b o hb (hs5.extBut b o hb (hs4.extBut b o hb (hs3.extBut b o hb e)));refine ab (wpAny_letGo (aq (aq ⟨_,rfl,aq (hQ h6 he6 (st _ _ (bj hil) ht2) ?_ fun b o hb e=>st b o hb (hk2 b o hb e))⟩)));show h6.objs.size=hp.objs.size+1;rw[hs6.1,hs5.1,hs4.1,hs3.1,hz2]
theorem xZ {Q:Option Value->Shared->Prop}(hh:A.handled=none)(lZ:IsItemIter s.heap it d i n ep ok ov)(hod:s.heap.get? d=some od)(hdd:od.data=.dict ds ep)(hn:ds.size=n)(hi:ds.size<=i)
  (hQ:∀h',Heap.ExtBut it s.heap h'->Q none { s with heap:=h' }):wpAny (model prog w) A (pyNext (.ref it)) Q E s:=by
 have hT:s.TypeIs (.ref it) "dict_itemiterator" := ⟨_,lZ,rfl⟩;unfold pyNext;refine ab (wpAny_attempt (wpAny_callSpecial?_slot (name:=Str.ofString "__next__") hT F.slot_dict_itemiterator_next (wpAny_call_entry F.slot_dict_itemiterator_next hT F.entry_dict_itemiterator_next ?_ (F.args_dict_itemiterator_next_1 _))));refine ab (aq (ab (ab ?_)));first|refine ab (wpAny_typeNameOfWhole_itemiter hT (aq ?_))|refine ab (wpAny_typeNameOf_itemiter hT (aq ?_)) <;> skip
 refine ab (wpAny_fieldsOf lZ rfl ?_);have hown:Builtin.Dict_items.ownsTuple "dict_itemiterator" = true:=by decide
 simp only[hown,if_true];show wpAny _ _ (if (Value.ref d==Value.none)=true then _ else _) _ _ s;rw[if_neg (show ¬((Value.ref d==Value.none)=true) from Bool.false_ne_true)];refine ab (aq (ab (wpAny_dictEntries hod hdd ?_)));rw[if_neg (by rw[hn];simp)];refine ab (aq (ab (wpAny_dictEpoch hod hdd ?_)));rw[if_neg (by simp)];refine aq ?_;simp only[show ¬((i:Int)<0) from by omega,if_false,aW,Array.getElem?_eq_none hi];refine ab ?_
 first|refine ab (wpAny_typeNameOfWhole_itemiter hT (aq ?_))|refine ab (wpAny_typeNameOf_itemiter hT (aq ?_)) <;> skip
 show wpAny _ _ (setField (.ref it) 2 .none>>=_) _ _ s;refine ab (wpAny_setField lZ rfl (by simp) ?_);show wpAny _ _ (newExc (.type "StopIteration") []>>=_) _ _ _;refine ab ?_;simp only[newExc,newTuple];refine ab (bW ?_ (by size_fits));refine ab (m:=firstArgMember _ _) (wpAny_of_eq (a:=Value.none) (by first|rfl|(simp only[firstArgMember];rfl)) ?_);refine bW ?_ (by size_fits);simp only[raiseNew];refine ab (wpAny_handled ?_);rw[show A.in1.handled=none from hh];refine ab (aq (wpAny_throw ?_));refine ab (wpAny_isInstance (T := "StopIteration") (b:=true) ⟨_,aD _ rfl,rfl⟩ isSubtype_stop ?_);exact aq (hQ _ (((Heap.SameBut.update ..).extBut.push _).push _))
theorem ya:entryFor table "dict_itemiterator.__iter__" = some Builtin.«dict_keyiterator.__iter__»:=entryFor_alias (id' := "dict_keyiterator.__iter__") (by kernel_rfl) (by first|rfl|decide +kernel|(unfold String.splitOn;simp +decide [String.splitOnAux])) (by decide +kernel) (by kernel_rfl)
theorem x9 {Q:Value->Shared->Prop}(lZ:IsItemIter s.heap it d i n ep ok ov)(h:Q (.ref it) s):wpAny (model prog w) A (pyIter (.ref it)) Q E s:=by
 have hT:s.TypeIs (.ref it) "dict_itemiterator" := ⟨_,lZ,rfl⟩;refine wpAny_pyIter_slot hT F.slot_dict_itemiterator_iter (wpAny_call_entry F.slot_dict_itemiterator_iter hT ya ?_ (F.args_dict_itemiterator_iter_1 _));show wpAny _ _ (ret (.ref it)) _ _ s;exact aq ⟨_,rfl, "dict_itemiterator", _,hT,F.slot_dict_itemiterator_next.lookup,h⟩
end
noncomputable def Je (a:Addr)(es:Es):It:=⟨fun i H=>H a=some (nI a es)/\i<es.2.length,fun i H x H'=>∃T p,x=.ref T/\H T=none/\H'=eA H T (.tup [p.2.1,p.2.2])/\es.2[i]?=some p,fun i H=>H a=some (nI a es)/\es.2.length<=i⟩
theorem xW {P:Program}{w:World}{K:Fg}{tes:List Expr}{tk:Nat}{tp:Pos}(a it:Addr)(es:Es)(hai:a≠it):L2.Turn P w K (.Tuple tes tk tp) (Je a es) [it] it (fun i h=>∃ep ok ov,(∃ds,es.1.data=.dict ds ep)/\IsItemIter h it a i es.2.length ep ok ov) where
 mem:=by simp
 obj:=fun i h st b hb=>by
  have e:b=it:=by simpa using hb
  subst e;obtain⟨ep,ok,ov,_,st⟩:=st;exact⟨_,st,fun v z=>by cases z⟩
 keep:=fun i h h' st k=>by
  obtain⟨ep,ok,ov,q,st⟩:=st;exact⟨ep,ok,ov,q,k it (by simp) _ st⟩
 item:=by
  intro X hP hw hK hc i pins s σ H E I hf st hg;subst hP hw hK;obtain⟨ha,hi⟩:=hg;obtain⟨ep,ok,ov,⟨ds,hds⟩,st⟩:=st;obtain⟨⟨z,y,e1,xs,p,ds',ep',e2,e3,e4,e5⟩,_,_⟩:=(show L2.ObjOk X.prog X.w H s.heap a (nI a es) from I.hok a _ ha);rw[hds] at e3;cases e3;have fe:=hf it (by simp);have hl:=p.length;have hz:ds.size=es.2.length:=by rw[<-bY,e4,af,hl]
  have hi':i<ds.size:=by omega
  have hxi:i<xs.length:=by omega
  have ek:ds[i]=A1 xs[i]:=by
   have:ds.toList[i]?=some (A1 xs[i]):=by rw[e4,au,aj hxi];rfl
   rw[Array.getElem?_toList,JE hi'] at this;exact Option.some.inj this
  obtain⟨x,hx,pe⟩:=rK p (aj hi);rw[aj hxi] at hx;cases hx;have ilt:it<s.heap.objs.size:=aB st;have fr:H s.heap.objs.size=none:=I.hok.fresh (aC _);refine yp st e1 hds hz hi' fun h' ho hT hsz hk=>⟨_,rfl,?_⟩;have I1:cT X pins σ (eA H s.heap.objs.size (.tup [es.2[i].2.1,es.2[i].2.2])) { s with heap:=h',toks:=s.toks }:=by
   refine I.turnedLay (fp:=[it]) (fun b o hb q=>hk b o (fun z=>hb (by simp[z])) q) (fun b hb=>?_) hf (aC _) ⟨L2.sz2',[ds[i].key,ds[i].val],?_,⟨_,hT,rfl,_,rfl⟩⟩
   ·have z:b=it:=by simpa using hb
    subst z;exact⟨_,ho⟩
   ·rw[ek,pe.2.1];exact .cons rfl (.cons pe.2.2 .nil)
  refine wpAny_letOwnedTupleGo_items (s:={ s with heap:=h',toks:=s.toks }) ho fun h2 he2 hs2=>?_;have I2:cT X pins σ (eA H s.heap.objs.size (.tup [es.2[i].2.1,es.2[i].2.2])) { s with heap:=h2,toks:=s.toks } :=
   cT.turned (s:={ s with heap:=h',toks:=s.toks }) (it:=it) (t':=s.toks) I1 (fun b o hb q=>(hs2.2 b hb).trans q) (by rw[cG (aO ilt)];exact fe.1) fe.2.1 fe.2.2.2.1 fe.2.2.2.2.1 fe.2.2.2.2.2
  refine⟨.ref s.heap.objs.size,_,I2,rfl,⟨_,es.2[i],rfl,fr,rfl,aj hi⟩,⟨ep,_,_,⟨ds,hds⟩,he2⟩,fun b hb=>?_⟩;have z:b=it:=by simpa using hb
  subst z;rw[cG (aO ilt)];exact fe.1
 done:=by
  intro X hP hw hK hc i pins s σ H E I hf st hg;subst hP hw hK;obtain⟨ha,hi⟩:=hg;obtain⟨ep,ok,ov,⟨ds,hds⟩,st⟩:=st;obtain⟨⟨z,y,e1,xs,p,ds',ep',e2,e3,e4,e5⟩,_,_⟩:=(show L2.ObjOk X.prog X.w H s.heap a (nI a es) from I.hok a _ ha);rw[hds] at e3;cases e3;obtain⟨f0,f1,f2,f3,f4,f5⟩:=hf it (by simp);have hl:=p.length;have hz:ds.size=es.2.length:=by rw[<-bY,e4,af,hl]
  exact xZ (I.ok.hd hc) st e1 hds hz ⋯ fun h' eb=>⟨rfl,I.turned (t':=s.toks) (fun b o hb e=>eb b o hb e) f0 f1 f3 f4 f5⟩
 self:=fun _ _ _ _ _ st h=>by
  obtain⟨_,_,_,_,st⟩:=st;exact x9 st h
theorem vw {K:Fg}{H:Hp}{M O:List Addr}{a:Addr}{kvs:List (D×D)}{es:Es}(h:H a=some (nI a es))(n:a∉M)(q:Rd K H O kvs es.2):mU K (Je a es) (kvs.map fun p=>.tuple [p.1,p.2]) M O H:=by
 intro O2 H2 x;have h2:=x.ext _ _ n h;have q2:=q.ext x;have hl:=q.length;refine⟨fun i d e=>?_,h2,by rw[af,hl];exact aC _⟩;rw[au] at e;cases e':kvs[i]? with
 |none=>rw[e'] at e;cases e
 |some p =>
  rw[e'] at e;cases e;obtain⟨u,v,eu,r1,r2⟩:=q2.get e';have hi:=(List.getElem?_eq_some_iff.mp eu).1;refine⟨⟨h2,hi⟩,fun y H3 ⟨T,p',ey,hT,eH,hp⟩=>?_⟩;subst ey eH;rw[eu] at hp;cases hp;have s2:dq H2 (eA H2 T (.tup [u,v])):=fun b o e=>by rw[cG (cI e hT)];exact e
  exact⟨s2,.tuple (.inl (.inl cO)) (.cons (r1.same s2) (.cons (r2.same s2) .nil))⟩
section
variable {X:Cx}{e:Expr}{f:ED}{p pos tp:Pos}{tes:List Expr}{tk:Nat}
theorem CI (h:DE X e f)(hbase:attributeBase e "items" X.env (eval e X.env)=eval e X.env:=by rfl)(hline:(p.endLine==pos.line)=true:=by rfl):DI X (.Tuple tes tk tp) (.Call (.Attribute e "items" p) [] [] pos) (vB f):=by
 intro pins s σ H R I ⟨ρ,O,M,lad,ks,hE,hf,k⟩;unfold vB at hf;obtain⟨r,hr,hf⟩:=Option.bind_eq_some_iff.mp hf;refine wpAny_Call_method0_late hbase hline (L2.thn (h pins s σ H _ I ⟨ρ,O,M,lad,r,hE,hr,fun v H1 s1 q1=>(⟨s1,q1⟩:dq H H1/\v5 X.K H O H1 r v)⟩) fun v s1 zz=>?_);obtain ⟨x,H1,I1,r1,s2,q1⟩:=zz;have q:=q1.toR hE.ne;unfold yC at hf;cases e0:r.1 <;> rw[e0] at hf <;> first|cases hf|skip
 rename_i kvs;rw[e0] at q;dsimp only at hf;split at hf
 ·rename_i hk;cases hf;cases q with
  |@dict a _ es ha na hd =>
   cases (show v=Value.ref a from r1);obtain⟨⟨z,y,e1,xs,p,ds,ep,e2,e3,e4,e5⟩,_,_⟩:=(show L2.ObjOk X.prog X.w H1 s1.heap a (nI a es) from I1.hok a _ ha);have hl:=p.length;have hz:ds.size=es.2.length:=by rw[<-bY,e4,af,hl]
   have alt:a<s1.heap.objs.size:=aB e1;refine⟨"dict", "dict.items", F.plainAttrs_dict,F.slot_dict_items,F.type_dict_items,⟨_,e1,e2.1⟩,fun b eb=>by cases eb;exact⟨_,e1,e2.2.1⟩,PySem.Calls.callWith_builtin rfl (PySem.evalArgs_none (yY y e1 e2 ?_))⟩;refine yB (s:={ s1 with heap:=s1.heap.push { cls:=.type "dict_items", data:=.fields #[.ref a] } }) ⟨_,aD _ rfl,rfl,rfl⟩ (ae _ e1) e3 hz ?_;have hsz:(s1.heap.push { cls:=.type "dict_items", data:=.fields #[.ref a] }).objs.size=s1.heap.objs.size+1:=bp ..;rw[hsz];refine⟨s1.heap.objs.size+1,[s1.heap.objs.size+1],_,_,H1,rfl,I1.kept (t':=s1.toks) fun b o e=>ae _ (ae _ e),xW a _ es (aO (Nat.lt_succ_of_lt alt)),⟨ep,.none,.none,⟨ds,e3⟩,?_⟩,fun b hb=>?_,k _ H1 s2 (vw ha (fun z=>na ((hE.same s2).sub _ z)) hd)⟩
   ·have q:=aD (s1.heap.push { cls:=.type "dict_items", data:=.fields #[.ref a] }) (o:={ cls:=.type "dict_itemiterator", data:=.fields #[.none,.bool false,.ref a,.int 0 0,.int es.2.length 0,.int ep 0,.none,.none] }) rfl;rw[hsz] at q;exact q
   ·have e:b=s1.heap.objs.size+1:=by simpa using hb
    subst e;exact I1.fpOk (JA _) (I1.hok.fresh (JA _))
 ·cases hf
end
theorem kS (K:Fg)(H:Hp)(O:List Addr):∀ns:List Int,Rs K H O (ns.map .int) (ns.map V.int)
 |[]=>.nil
 |n::ns=>.cons (.int n) (kS K H O ns)
theorem r9:∀ns:List Int,iQ (ns.map .int)=some ns
 |[]=>rfl
 |n::ns=>by simp only[az,iQ,xQ,aa,r9 ns,av]
theorem gQ {p:Nat}{ρ:Sl}{ns:List Int}(h:fh p ρ=some ns):∃xs,ρ[p]?=some (some (iw xs,true))/\iQ xs=some ns:=by
 unfold fh at h;split at h
 ·rename_i xs e;exact⟨xs,e,h⟩
 ·cases h
theorem ve {p:Nat}{ρ:Sl}{ns:List Int}(h:qN p ρ=some ns):∃xs,ρ[p]?=some (some (.list xs,true))/\iQ xs=some ns:=by
 unfold qN at h;split at h
 ·rename_i xs e;exact⟨xs,e,h⟩
 ·cases h
theorem AH {ρ:Sl}{i j:Nat}{xs:List D}(no:iP (ρ.set i none)=true)(e:ρ[j]?=some (some (iw xs,true))):i=j:=by
 by_cases z:i=j
 ·exact z
 ·exact (ub no (by rw[ai z];exact e)).elim
theorem ER.mutL {K:Fg}{H:Hp}{O M:List Addr}{lad:Nat->Addr}{ρ:Sl}{σ:St}{i:Nat}{ds ds':List D}{vs':List V}(h:ER K H O M lad ρ σ)(hr:ρ[i]?=some (some (iw ds,true)))(no:iP (ρ.set i none)=true)(q:Rs K H O ds' vs') :
  ER K (eA H (lad i) (.lst vs')) O M lad (ρ.set i (some (iw ds',true))) σ:=by
 have hi:i<ρ.length:=(List.getElem?_eq_some_iff.mp hr).1;obtain⟨e1,us,e2,e3,e4,q0⟩:=h.le i _ hr;generalize ha:lad i=a at e1 e2 e3 e4;have x:iZ [a] O H O (eA H a (.lst vs')):=by
  refine⟨fun b xs e=>?_,fun b o u e=>?_,fun b xs n e=>?_,fun b φ n e=>?_,fun b hb=>.inl hb,fun b hb=>(List.mem_singleton.mp hb)▸e3⟩
  ·rw[cG (fun (z:b=a)=>by rw[z,e2] at e;cases e)];exact e
  ·rw[cG (fun (z:b=a)=>by rw[z,e2] at e;cases e)];exact e
  ·rw[cG (fun (z:b=a)=>n (by rw[z];exact List.mem_singleton.mpr rfl))];exact e
  ·rw[cG (fun (z:b=a)=>n (by rw[z];exact List.mem_singleton.mpr rfl))];exact e
 have ne:∀b∈M,b≠a:=fun b hb z=>e4 (z▸hb);refine⟨fun j d' ej=>?_,fun j d' ej=>?_,fun j d' ej=>?_,fun j k d' e' b e5 e6 e7 e8=>?_,fun b hb=>?_,h.sub,by rw[aY];exact h.len,h.dp.go x (fun j c ej=>?_) (fun b hb _=>⟨hb,fun _ e=>by rw[cG (ne b hb)];exact e⟩) fun j es c ej ec=>.inr ?_⟩
 ·have nj:i≠j:=fun z=>by subst z;rw[ay hi] at ej;cases ej
  rw[ai nj] at ej;obtain⟨v,e5,q5⟩:=h.sh j d' ej;exact⟨v,e5,q5.ext x⟩
 ·have nj:i≠j:=fun z=>by subst z;rw[ay hi] at ej;cases ej
  rw[ai nj] at ej;obtain⟨b,us',e6,e7,e8,q5⟩:=h.ow j d' ej;exact⟨b,us',e6,by rw[cG (ne b e8)];exact e7,e8,q5.ext x⟩
 ·by_cases hj:i=j
  ·subst hj;rw[ay hi] at ej;cases ej;rw[ha];exact⟨e1,vs',cO,e3,e4,q.ext x⟩
  ·rw[ai hj] at ej;exact absurd (AH no ej) hj
 ·have nj:i≠j:=fun z=>by subst z;rw[ay hi] at e5;cases e5
  have nk:i≠k:=fun z=>by subst z;rw[ay hi] at e6;cases e6
  rw[ai nj] at e5;rw[ai nk] at e6;exact h.ap j k d' e' b e5 e6 e7 e8
 ·by_cases hz:b=a
  ·subst hz;exact⟨.inl vs',cO⟩
  ·rw[cG hz];exact h.tr b hb
 ·have nj:i≠j:=fun z=>by
   subst z;rw[ay hi] at ej;have:=congrArg (fun (x:Option (Option Vl))=>match x with|some (some (.dict [(_,.none)],_))=>true|_=>false) ej;simp[iw,nu] at this
  rw[ai nj] at ej;exact⟨ej,rfl⟩
 ·have nj:i≠j:=fun z=>by subst z;rw[ay hi] at ej;cases ej
  rw[ai nj] at ej;exact⟨j,es,ej,ec⟩
theorem gZ.putL {M₀ M:List Addr}{H₀ H:Hp}{a:Addr}{us vs:List V}(x:gZ M₀ H₀ M H)(ha:a∈M₀)(e:H a=some (.lst us)):gZ M₀ H₀ M (eA H a (.lst vs)) where
 keep:=fun b o n q=>by rw[cG (fun (z:b=a)=>n (z▸ha))];exact x.keep b o n q
 tup:=fun b xs q=>by
  have:=x.tup b xs q;rw[cG (fun (z:b=a)=>by rw[z,e] at this;cases this)];exact this
 frz:=fun b o u q=>by
  have:=x.frz b o u q;rw[cG (fun (z:b=a)=>by rw[z,e] at this;cases this)];exact this
 new:=x.new
 there:=fun b hb=>by
  by_cases z:b=a
  ·subst z;rw[cO];simp
  ·rw[cG z];exact x.there b hb
def Fw (p:Nat)(X:Cx)(st:Stmt)(F:SD):Prop:=∀B H₀ M₀ lad,lad p∈M₀->PS X st (uS X.K B H₀ M₀ lad F)
def xO (p:Nat)(X:Cx)(st:List Stmt)(F:SD):Prop:=∀B H₀ M₀ lad,lad p∈M₀->PSs X st (uS X.K B H₀ M₀ lad F)
section
variable {X:Cx}{p:Nat}{e c tg iter:Expr}{es:List Expr}{f:ED}{t:TD}{pos:Pos}{st:Stmt}{fV body:List Stmt}{F G:SD}{it:AD}{gd:GD}
theorem zU (h:DS X st F):Fw p X st F:=fun B H₀ M₀ lad _=>h B H₀ M₀ lad
theorem pd (h1:Fw p X st F)(h2:xO p X fV G):xO p X (st::fV) (cH F G):=fun B H₀ M₀ lad hp=>(L2.pss_cons (h1 B H₀ M₀ lad hp) (h2 B H₀ M₀ lad hp)).imp fun E σ H zz=>by
 obtain ⟨ρ,fl,hR,hf,k⟩:=zz;unfold cH at hf;obtain⟨fl1,hx,hf⟩:=Option.bind_eq_some_iff.mp hf;refine⟨ρ,fl1,hR,hx,?_⟩;cases fl1 with
 |next ρ'=>exact fun σ' H' r=>⟨ρ',fl,r,hf,k⟩
 |ret r=>cases hf;exact k
 |brk ρ'=>cases hf;exact k
 |cont ρ'=>cases hf;exact k
theorem vM (h1:Fw p X st F):xO p X [st] F:=fun B H₀ M₀ lad hp=>L2.pss_one (h1 B H₀ M₀ lad hp)
theorem A2 (hc:DT X c t)(hb:xO p X body F)(hp:PassesOwn (model X.prog X.w) X.A X.env X.xe:=by exact PassesOwn.never):Fw p X (.While c body [] pos) (kG t F):=fun B H₀ M₀ lad hm=>(L2.ps_while hp hc (hb B H₀ M₀ lad hm)).imp fun E σ H zz=>by
 obtain ⟨ρ,fl,hR,hf,k⟩:=zz;obtain⟨n,hn⟩:=qo hf;refine⟨fun m σ' H'=>∃ρ',SR X.K B H₀ M₀ lad ρ' σ' H'/\fc t F m ρ'=some fl,⟨n,ρ,hR,hn⟩,?_⟩;rintro m σ' H' ⟨ρ',⟨M,hx,hB,hE⟩,hw⟩;cases m with
 |zero=>cases hw
 |succ m =>
  unfold fc at hw;obtain⟨c,ht,hw⟩:=Option.bind_eq_some_iff.mp hw;refine⟨ρ',_,M,lad,c,hE,ht,fun H1 s1=>?_⟩;have r1:SR X.K B H₀ M₀ lad ρ' σ' H1:=⟨M,hx.trans (.same s1),hB,hE.same s1⟩;cases c with
  |false =>
   dsimp only at hw ⊢;rw[if_neg Bool.false_ne_true] at hw ⊢;cases hw;exact k σ' H1 r1
  |true =>
   dsimp only at hw ⊢;rw[if_pos rfl] at hw ⊢;obtain⟨fl1,hF,hw⟩:=Option.bind_eq_some_iff.mp hw;refine⟨fun σ2 H2=>∃ρ2,SR X.K B H₀ M₀ lad ρ2 σ2 H2/\fc t F m ρ2=some fl,fun σ2 H2 r2=>⟨m,Nat.lt_succ_self m,r2⟩,ρ',fl1,r1,hF,?_⟩;cases fl1 with
   |next ρ2=>exact fun σ4 H4 r4=>⟨ρ2,r4,hw⟩
   |cont ρ2=>exact fun σ4 H4 r4=>⟨ρ2,r4,hw⟩
   |brk ρ2=>cases hw;exact k
   |ret r=>cases hw;exact k
theorem ER.hide {K:Fg}{H:Hp}{B M:List Addr}{lad:Nat->Addr}{ρ:Sl}{σ:St}{ds:List D}(h:ER K H (M++B) M lad ρ σ)(hr:ρ[p]?=some (some (iw ds,true)))(no:iP (ρ.set p none)=true) :
  ER K H ((lad p::M)++B) (lad p::M) lad (ρ.set p none) σ:=by
 obtain⟨e1,us,e2,e3,e4,q0⟩:=h.le p _ hr;have hi:p<ρ.length:=(List.getElem?_eq_some_iff.mp hr).1;have back:∀{j:Nat}{x:Vl},(ρ.set p none)[j]?=some (some x)->ρ[j]?=some (some x):=fun {j x} ej=>by
  by_cases z:p=j
  ·subst z;rw[ay hi] at ej;cases ej
  ·rw[ai z] at ej;exact ej
 have m:∀b∈(lad p::M)++B,b∈M++B:=fun b hb=>(lB hb).elim (fun z=>z▸e3) id;have x:iZ [] (M++B) H ((lad p::M)++B) H:=.less m;refine⟨fun j d ej=>?_,fun j d ej=>?_,fun j d ej=>(ub no ej).elim,fun j k d e a e5 e6=>h.ap j k d e a (back e5) (back e6),fun b hb=>h.tr b (m b hb),fun b hb=>aS _ hb,by rw[aY];exact h.len,h.dp.go x (fun j c ej=>⟨back ej,rfl⟩) (fun b hb _=>⟨aG _ hb,fun _ e=>e⟩) fun j es c ej ec=>.inr ⟨j,es,back ej,ec⟩⟩
 ·obtain⟨v,e5,q5⟩:=h.sh j d (back ej);exact⟨v,e5,q5.ext x⟩
 ·obtain⟨a,vs,e5,e6,e7,q5⟩:=h.ow j d (back ej);exact⟨a,vs,e5,e6,aG _ e7,q5.ext x⟩
noncomputable def Ji (K:Fg)(p:Nat)(F:SD):TS:=fun E σ H=>∃B H₀ M₀ lad,lad p∈M₀/\uS K B H₀ M₀ lad F E σ H
theorem xO.x (h:xO p X fV F):PSs X fV (Ji X.K p F):=fun pins s σ H D I ⟨B,H₀,M₀,lad,hp,q⟩=>h B H₀ M₀ lad hp pins s σ H D I q
theorem EB (hc:X.calm=true)(hi:DI X tg iter it)(hg:DG X tg gd)(hb:xO p X body F)(hp:PassesOwn (model X.prog X.w) X.A X.env X.xe:=by exact PassesOwn.never)
  (hs:∀x,foldedSetIterable iter X.env x=pure x:=by intro _;rfl):Fw p X (.For tg iter body [] pos) (wB p it gd F):=fun B H₀ M₀ lad hm=>(L2.ps_for hp hc hi hg hb.x hs).imp fun E σ H zz=>by
 obtain ⟨ρ,fl,⟨M,hx,hB,hE⟩,hf,k⟩:=zz;unfold wB at hf;split at hf
 ·rename_i hno;obtain⟨no,hpl⟩:=hno;obtain⟨ds,hd,hf⟩:=Option.bind_eq_some_iff.mp hf;obtain⟨ns0,hn0⟩:=Option.isSome_iff_exists.mp hpl;obtain⟨xs0,hr0,_⟩:=gQ hn0
  ·refine⟨ρ.set p none,_,lad p::M,lad,ds,hE.hide hr0 no,hd,fun J H1 s1 iok=>?_⟩;have x1:gZ M₀ H₀ (lad p::M) H1:=by
    have z:=hx.trans (.same s1);exact⟨z.keep,z.tup,z.frz,fun b hb=>(List.mem_cons.mp hb).elim (fun q=>.inl (q▸hm)) (z.new b),z.there⟩
   have x0:gZ (lad p::M) H1 M H1:=⟨fun _ _ _ e=>e,fun _ _ e=>e,fun _ _ _ e=>e,fun b hb=>.inl (aG _ hb),fun _ h=>h⟩;refine⟨fun i m σ' H'=>m=ds.length-i/\i<=ds.length/\∃ρ',SR X.K B H1 (lad p::M) lad ρ' σ' H'/\eN gd F (ds.drop i) ρ'=some fl,⟨ds.length,by simp,bw _,ρ,⟨M,x0,hB,hE.same s1⟩,by simpa using hf⟩,?_⟩;rintro i m σ' H' ⟨rfl,hi,ρ',hR,hl⟩;obtain⟨M',x',hB',hE'⟩:=id hR;obtain⟨go,stop⟩:=iok _ _ x'.ext;by_cases hlt:i<ds.length
   ·have ed:ds.drop i=ds[i]::ds.drop (i+1):=bU hlt;rw[ed] at hl;unfold eN at hl;obtain⟨ρ1,hg1,hl⟩:=Option.bind_eq_some_iff.mp hl;obtain⟨fl1,hF,hl⟩:=Option.bind_eq_some_iff.mp hl;obtain⟨g1,g2⟩:=go i ds[i] (by simp[hlt]);refine .inr ⟨g1,fun σ2 H2=>∃ρ2,SR X.K B H1 (lad p::M) lad ρ2 σ2 H2/\eN gd F (ds.drop (i+1)) ρ2=some fl,fun σ2 H2 ⟨ρ2,r2,l2⟩=>⟨ds.length-(i+1),by omega,rfl,hlt,ρ2,r2,l2⟩,fun x H2 hy=>?_⟩;obtain⟨s2,q2⟩:=g2 x H2 hy;refine⟨ρ',_,M',lad,ds[i],ρ1,hE'.same s2,q2,hg1,fun σ3 H3 s3 E3=>⟨B,H1,lad p::M,lad,aQ,ρ1,fl1,⟨M',(x'.trans (.same s2)).trans (.same s3),hB',E3⟩,hF,?_⟩⟩;cases fl1 with
    |next ρ2=>exact fun σ4 H4 r4=>⟨ρ2,r4,hl⟩
    |cont ρ2=>exact fun σ4 H4 r4=>⟨ρ2,r4,hl⟩
    |brk ρ2 =>
     cases hl;exact fun σ4 H4 r4=>k σ4 H4 (r4.up x1)
    |ret r =>
     cases hl;exact fun v H4 r4=>k v H4 (r4.up x1)
   ·have e:i=ds.length:=by omega
    subst e;rw[JK] at hl;cases hl;exact .inl ⟨stop,k σ' H' (hR.up x1)⟩
 ·cases hf
theorem qR (i:Nat){x:Str}(hN:X.N[i]?=some x:=by rfl)(hv:L2.Vis X.env.scope x:=by first|exact Or.inl rfl|exact Or.inr (Or.inl rfl)|exact Or.inr (Or.inr rfl))(hd:(x==("__debug__" : Str))=false:=by decide)
  (hcd:(x==("__classdict__" : Str))=false:=by decide):DB X (.Name x pos) (mT i):=(L2.pe_var hN hv hd hcd).imp fun σ H Q zz=>by
 obtain ⟨ρ,O,M,lad,d,hE,hf,k⟩:=zz;unfold mT at hf;split at hf
 ·rename_i ds hr;cases hf;obtain⟨e2,vs,e3,e4,e5,q⟩:=hE.le i _ hr;exact⟨_,e2,k _ H (.refl H) (.inr (.inl ⟨_,ds,vs,rfl,rfl,e3,q⟩))⟩
 ·cases hf
theorem GZ {d:D}{j:Int}(h:xQ d=some j):d=.int j:=by
 cases d <;> first|(cases h;rfl)|cases h
theorem v5.int {K:Fg}{H H':Hp}{O:List Addr}{r:Vl}{v:V}{j:Int}(tr:∀a∈O,H a≠none)(h:xQ r.1=some j)(q:v5 K H O H' r v):v=.int j:=by
 have:=q.toR tr;rw[GZ h] at this;cases this;rfl
theorem xb (ns:List Int)(p:Nat)(n:Int):(ns.map V.int).set p (.int n)=(ns.set p n).map V.int:=by rw[List.map_set]
theorem zT {x:Str}{p1 p2:Pos}{kx:ED}{ke:Expr}(hk:DE X ke kx)(he:DE X e f)(hN:X.N[p]?=some x:=by rfl)(hv:L2.Vis X.env.scope x:=by first|exact Or.inl rfl|exact Or.inr (Or.inl rfl)|exact Or.inr (Or.inr rfl))(hd:(x==("__debug__" : Str))=false:=by decide)
  (hcd:(x==("__classdict__" : Str))=false:=by decide)
  (ha:∀v,assign (.Subscript (.Name x p1) ke p2) X.env v=(do
   let ov <-holding [v] (eval (.Name x p1) X.env)
   let iv <-holding [v,ov] (eval ke X.env)
   standAt p2
   holding [v,ov,iv] (setItem ov iv v)
   release [v,ov,iv] []):=by intro _;rfl)
  (hs:swapsWithSole [.Subscript (.Name x p1) ke p2] e pos.line X.env=pure false:=by rfl) (hw:swappedStores [.Subscript (.Name x p1) ke p2] e X.env=pure none:=by rfl)
  (h1:(assignEach [.Subscript (.Name x p1) ke p2] X.env).map (·.2)=[assign (.Subscript (.Name x p1) ke p2) X.env]:=by rfl) :
  Fw p X (.Assign [.Subscript (.Name x p1) ke p2] e pos) (qp p kx f):=fun B H₀ M₀ lad hm =>
 (L2.ps_asg he (L2.pg_sub (L2.pe_var hN hv hd hcd) hk L2.set_list ha) hs hw h1).imp fun E σ H zz=>by
  obtain ⟨ρ,fl,⟨M,hx,hB,hE⟩,hf,k⟩:=zz;unfold qp at hf;simp only[bA] at hf;obtain⟨r,hr,n,hn,y,hy,j,hj,ns,hns,q,hq,hf⟩:=hf;split at hf
  ·rename_i no;cases hf;obtain⟨xs,hi,hint⟩:=gQ hns;obtain⟨e1,vs,e2,e3,e4,qs⟩:=hE.le p _ hi;have ev:=kT hint qs;subst ev;refine⟨ρ,_,M,lad,r,hE,hr,fun v H1 s1 q1=>⟨_,e1,ρ,_,M,lad,y,hE.same s1,hy,fun u H2 s2 q2=>?_⟩⟩;have E2:=(hE.same s1).same s2;have e2':=s2 _ _ (s1 _ _ e2);refine⟨lad p,ns.map V.int,j,q,rfl,q2.int (hE.same s1).ne hj,e2',by rw[af];exact hq,?_⟩;rw[q1.int hE.ne hn,xb];exact k _ _ ⟨M,(hx.trans (.same (s1.trans s2))).putL hm e2',hB,E2.mutL hi no (kS _ _ _ _)⟩
  ·cases hf
noncomputable def FU (K:Fg)(n1:Nat)(G:MD):L2.Sp:=fun vs H Q _=>∃us1 us2 a ns ds B r,vs=us1++.ref a::us2/\us1.length=n1/\H a=some (.lst (ns.map V.int))/\a∉B/\Rs K H (a::B) ds (us1++us2)/\(∀b∈a::B,∃u,H b=some (oW u))/\G ns ds=some r ∧
 ∀v H',(∀b o,b≠a->H b=some o->H' b=some o)->H' a=some (.lst (r.2.map V.int))->R K H' (a::B) r.1 v->Q v H'
structure qB (P:Program)(w:World)(K:Fg)(mg:Str->Option Value)(base:Heap)(k:Nat)(x:Str)(ps:List Str)(n1:Nat)(G:MD):Prop where
 ex:∃(fa:Addr) (fd:FuncData),L2.FnOk P w K mg base L2.CX0 k fa fd ps (FU K n1 G)/\mg x=some (.ref fa)/\PySem.W.keepIn K (.ref fa)=true/\L2.Binds K fd ps []
theorem dq.of_but {H H1 H':Hp}{a:Addr}{vs:List V}(k:∀b o,b≠a->H b=some o->H' b=some o)(e:H' a=some (.lst vs)):dq (eA H a (.lst vs)) H':=fun b o q=>by
 by_cases z:b=a
 ·subst z;rw[cO] at q;cases q;exact e
 ·rw[cG z] at q;exact k b o z q
theorem sk {x y:Str}{k j i:Nat}{ps:List Str}{g:MD}{t:AD}{p1 p2 p3 py:Pos}(Gf:qB X.prog X.w X.K X.mg X.base k y ps 0 g)(hr:L2.Room j X.A)(hN0:X.N.Nodup)(ha:DA X es t)(hj:k<=j:=by decide){z:Str}(hN:X.N[p]?=some x:=by rfl)(hv:L2.Vis X.env.scope x:=by first|exact Or.inl rfl|exact Or.inr (Or.inl rfl)|exact Or.inr (Or.inr rfl))(hd:(x==("__debug__" : Str))=false:=by decide)
  (hcd:(x==("__classdict__" : Str))=false:=by decide) (hg:L2.Gl X y:=by rfl) (hdb:(y==("__debug__" : Str))=false:=by decide) (he:starEach (.Name x p1::es) X.env=(false,eval (.Name x p1) X.env)::starEach es X.env:=by rfl) (hpl:(backTo p3 (starEach es X.env)).any (·.1)=false:=by rfl)
  (hi:X.N[i]?=some z:=by rfl) (hx:L2.Loc X.env.scope z:=by first|exact Or.inl rfl|exact Or.inr rfl) (hs:swapsWith (.Call (.Name y p2) (.Name x p1::es) [] p3) (some (.Name z py)) pos.line X.env=pure false:=by rfl) (hf':X.fn z=true\/X.env.scope.names.lookup z=some .local:=by first|exact .inl rfl|exact .inr rfl|assumption) :
  Fw p X (.Assign [.Name z py] (.Call (.Name y p2) (.Name x p1::es) [] p3) pos) (j5 p g t i):=by
 obtain⟨fa,fd,h1,h2,h3,h4⟩:=Gf.ex;refine fun B H₀ M₀ lad hm=>(L2.ps_set hN0 hi hx (L2.pe_call h1 (hr.mono hj) hg h2 h3 h4 (.nil:cY [] []) L2.pass0 (L2.pa_cons (L2.pe_var hN hv hd hcd) ha he) hdb he hpl) hs hf').imp fun E σ H zz=>?_;obtain ⟨ρ,fl,⟨M,hx,hB,hE⟩,hf,kk⟩:=zz;unfold j5 at hf;simp only[bA] at hf;obtain⟨ns,hns,ds,hds,r,hr,hf⟩:=hf;split at hf
 ·rename_i no;obtain⟨no,nij⟩:=no;cases hf;obtain⟨xs,hi,hint⟩:=gQ hns;obtain⟨e1,vs,e2,e3,e4,qs⟩:=hE.le p _ hi;have ev:=kT hint qs;subst ev;refine⟨_,e1,ρ,_,M,lad,ds,hE,hds,fun us H1 s1 q1=>?_⟩;have E1:=hE.same s1;have e2':=s1 _ _ e2;have sub1:∀b∈lad p::(M++B).filter (fun b=>decide (b≠lad p)),b∈M++B:=fun b hb=>(List.mem_cons.mp hb).elim (fun z=>z▸e3) fun z=>(List.mem_filter.mp z).1;have sub2:∀b∈M++B,b∈lad p::(M++B).filter (fun b=>decide (b≠lad p)):=fun b hb=>by
   by_cases z:b=lad p
   ·subst z;exact aQ
   ·exact aG _ (List.mem_filter.mpr ⟨hb,decide_eq_true z⟩)
  dsimp only;rw[br];refine⟨[],us,lad p,ns,ds,(M++B).filter (fun b=>decide (b≠lad p)),r,rfl,rfl,e2',fun z=>absurd rfl (of_decide_eq_true (List.mem_filter.mp z).2),q1.ext (.less sub1),fun b hb=>E1.tr b (sub1 b hb),hr,fun v H' kp ea rv=>?_⟩;have E2:=(E1.mutL hi no (kS X.K H1 (M++B) r.2)).same (dq.of_but (H1:=H1) kp ea);have x2:gZ M₀ H₀ M H':=((hx.trans (.same s1)).putL hm e2' (vs:=r.2.map V.int)).trans (.same (dq.of_but (H1:=H1) kp ea));obtain⟨M',x3,B3,E3⟩:=E2.set i hB (.refl _) (.of (rv.ext (.less sub2)));exact kk _ _ ⟨M',x2.trans x3,B3,E3⟩
 ·cases hf
theorem CG {x y:Str}{k j i:Nat}{ps:List Str}{g:MD}{t:AD}{p1 p2 p3:Pos}(Gf:qB X.prog X.w X.K X.mg X.base k y ps 0 g)(hr:L2.Room j X.A)(ha:DA X es t)(hj:k<=j:=by decide)(hN:X.N[i]?=some x:=by rfl)(hv:L2.Vis X.env.scope x:=by first|exact Or.inl rfl|exact Or.inr (Or.inl rfl)|exact Or.inr (Or.inr rfl))(hd:(x==("__debug__" : Str))=false:=by decide)
  (hcd:(x==("__classdict__" : Str))=false:=by decide) (hg:L2.Gl X y:=by rfl) (hdb:(y==("__debug__" : Str))=false:=by decide) (he:starEach (.Name x p1::es) X.env=(false,eval (.Name x p1) X.env)::starEach es X.env:=by rfl) (hpl:(backTo p3 (starEach es X.env)).any (·.1)=false:=by rfl)
  (hs:swapsWith (.Call (.Name y p2) (.Name x p1::es) [] p3) none pos.line X.env=pure false:=by rfl) :
  DS X (.Expr (.Call (.Name y p2) (.Name x p1::es) [] p3) pos) (vb i g t):=by
 obtain⟨fa,fd,h1,h2,h3,h4⟩:=Gf.ex;refine fun B H₀ M₀ lad=>(L2.ps_expr (L2.pe_call h1 (hr.mono hj) hg h2 h3 h4 (.nil:cY [] []) L2.pass0 (L2.pa_cons (L2.pe_var hN hv hd hcd) ha he) hdb he hpl) hs).imp fun E σ H zz=>?_;obtain ⟨ρ,fl,⟨M,hx,hB,hE⟩,hf,kk⟩:=zz;unfold vb at hf;simp only[bA] at hf;obtain⟨ns,hns,ds,hds,r,hr,hf⟩:=hf;cases hf;obtain⟨xs,hi,hint⟩:=ve hns;obtain⟨a,vs,e1,e2,e4,qs⟩:=hE.ow i _ hi;have ev:=kT hint qs;subst ev;refine⟨_,e1,ρ,_,M,lad,ds,hE,hds,fun us H1 s1 q1=>?_⟩;have E1:=hE.same s1;have e2':=s1 _ _ e2;have e3:a∈M++B:=aS _ e4;have sub1:∀b∈a::(M++B).filter (fun b=>decide (b≠a)),b∈M++B:=fun b hb=>(List.mem_cons.mp hb).elim (fun z=>z▸e3) fun z=>(List.mem_filter.mp z).1;dsimp only;rw[br];refine⟨[],us,a,ns,ds,(M++B).filter (fun b=>decide (b≠a)),r,rfl,rfl,e2',fun z=>absurd rfl (of_decide_eq_true (List.mem_filter.mp z).2),q1.ext (.less sub1),fun b hb=>E1.tr b (sub1 b hb),hr,fun v H' kp ea rv=>?_⟩;obtain⟨x2,E2⟩:=E1.mut hi e1 (kS X.K H1 (M++B) r.2);have s2:=dq.of_but (H1:=H1) kp ea;exact kk _ _ ⟨M,((hx.trans (.same s1)).trans x2).trans (.same s2),hB,E2.same s2⟩
theorem CN {y:Str}{k j:Nat}{ps:List Str}{g:MD}{f1 f2:ED}{p2 p3:Pos}{a b:Expr}(Gf:qB X.prog X.w X.K X.mg X.base k y ps 1 g)(hr:L2.Room j X.A)(ha:DE X a f1)(hb:DE X b f2)(hj:k<=j:=by decide)
  (hg:L2.Gl X y:=by rfl) (hdb:(y==("__debug__" : Str))=false:=by decide) (he:starEach (a::[b]) X.env=(false,eval a X.env)::starEach [b] X.env:=by rfl) (he2:starEach [b] X.env=(false,eval b X.env)::starEach [] X.env:=by rfl) (hpl:(backTo p3 (starEach [b] X.env)).any (·.1)=false:=by rfl) :
  DE X (.Call (.Name y p2) [a,b] [] p3) (sJ g f1 f2):=by
 obtain⟨fa,fd,h1,h2,h3,h4⟩:=Gf.ex;refine (L2.pe_call h1 (hr.mono hj) hg h2 h3 h4 (.nil:cY [] []) L2.pass0 (L2.pa_cons ha (L2.pa_cons hb L2.pa_nil he2) he) hdb he hpl).imp fun σ H Q zz=>?_;obtain ⟨ρ,O,M,lad,res,hE,hf,k⟩:=zz;unfold sJ at hf;simp only[bA,Option.map_eq_some_iff] at hf;obtain⟨x,hx,z,hz,ds,hds,ns,hns,r,hr,hf⟩:=hf;subst hf;refine⟨ρ,O,M,lad,x,hE,hx,fun v H1 s1 q1=>⟨ρ,O,M,lad,z,hE.same s1,hz,fun u H2 s2 q2=>?_⟩⟩;have R1:=(q1.toR hE.ne).same s2;obtain⟨zd,zb⟩:=z;cases zb with
 |false=>cases zd <;> cases hds
 |true =>
  rcases q2 with ⟨e0,_⟩|⟨_,c,es',ws,e1,e2,e3,e4,q⟩
  ·cases e0
  ·cases e1;cases hds;have ev:=kT hns q;subst ev e2;have nO:c∉O:=fun m=>(hE.same s1).ne c m e3;have tr2:∀b∈c::O,∃u,H2 b=some (oW u):=fun b hb=>(List.mem_cons.mp hb).elim (fun z=>⟨.inl _,z▸e4⟩) fun m=>((hE.same s1).same s2).tr b m;have R2:R X.K H2 (c::O) x.1 v:=by
    have xx:iZ [] O H1 (c::O) H2:=iZ.fresh s2 e3;exact (q1.toR hE.ne).ext xx
   refine⟨[v],[],c,ns,[x.1],O,r,rfl,rfl,e4,nO,.cons R2 .nil,tr2,hr,fun w H' kp ea rv=>k _ _ (fun b o e=>?_) (.of (rv.ext (.less fun b hb=>aG _ hb)))⟩;have eb:=s1 _ _ e;exact kp b o (fun z=>by subst z;rw[e3] at eb;cases eb) (s2 _ _ eb)
noncomputable def uR (K:Fg)(B:List Addr)(H₀:Hp)(M₀:List Addr)(lad:Nat->Addr)(F:SD)(f:ED):TS:=fun E σ H=>∃ρ ρ' r,SR K B H₀ M₀ lad ρ σ H/\F ρ=some (.next ρ')/\f ρ'=some r ∧
 ∀v σ' H' M,gZ M₀ H₀ M H'->ER K H' (M++B) M lad ρ' σ'->R K H' (M++B) r.1 v->E.rt v H'
def G8 (p:Nat)(X:Cx)(sts:List Stmt)(F:SD)(f:ED):Prop:=∀B H₀ M₀ lad,lad p∈M₀->PSs X sts (uR X.K B H₀ M₀ lad F f)
theorem zW (he:DE X e f):G8 p X [.Return (some e) pos] fk f:=fun B H₀ M₀ lad _=>(L2.pss_one (L2.ps_ret he)).imp fun E σ H zz=>by
 obtain ⟨ρ,ρ',r,⟨M,hx,hB,hE⟩,hF,hf,k⟩:=zz;cases hF;exact⟨ρ,_,M,lad,r,hE,hf,fun v H1 s1 q1=>k v σ H1 M (hx.trans (.same s1)) (hE.same s1) (q1.toR hE.ne)⟩
theorem pf (h1:Fw p X st F)(h2:G8 p X fV G f):G8 p X (st::fV) (cH F G) f:=fun B H₀ M₀ lad hp=>(L2.pss_cons (h1 B H₀ M₀ lad hp) (h2 B H₀ M₀ lad hp)).imp fun E σ H zz=>by
 obtain ⟨ρ,ρ',r,hR,hF,hf,k⟩:=zz;unfold cH at hF;obtain⟨fl1,hx,hF⟩:=Option.bind_eq_some_iff.mp hF;cases fl1 with
 |next ρ1=>exact⟨ρ,.next ρ1,hR,hx,fun σ' H' r'=>⟨ρ1,ρ',r,r',hF,hf,k⟩⟩
 |ret r=>cases hF
 |brk ρ1=>cases hF
 |cont ρ1=>cases hF
end
theorem oS {ds1 ds2:List D}{ns:List Int}{m:Nat}{i:Nat}{x:Vl}(e:(ds1.map (fun d=>some (d,false))++some (lV ns,true)::(ds2.map (fun d=>some (d,false))++aH m none):Sl)[i]?=some (some x)) :
  (i=ds1.length/\x=(lV ns,true))\/(x.2=false/\(ds1++ds2)[if i<ds1.length then i else i-1]?=some x.1/\i≠ds1.length/\i<ds1.length+ds2.length+1):=by
 rcases Nat.lt_trichotomy i ds1.length with h|h|h
 ·refine .inr ?_;rw[aR (by rw[af];exact h),au,aj h] at e;cases e;rw[if_pos h,aR h];exact⟨rfl,aj h,by omega,by omega⟩
 ·refine .inl ⟨h,?_⟩;rw[aN (by rw[af];omega),af,h,JP] at e;cases e;rfl
 ·refine .inr ?_;rw[aN (by rw[af];omega),af,show i-ds1.length=(i-ds1.length-1)+1 by omega,aK] at e;by_cases hi:i-ds1.length-1<ds2.length
  ·rw[aR (by rw[af];exact hi),au,aj hi] at e;cases e;rw[if_neg ⋯,aN ⋯,show i-1-ds1.length=i-ds1.length-1 by omega];exact⟨rfl,aj hi,by omega,by omega⟩
  ·rw[aN (by rw[af];omega),bK] at e;split at e <;> cases e
theorem BI {K:Fg}{H:Hp}{B:List Addr}{a:Addr}{m:Nat}{ds1 ds2:List D}{us1 us2:List V}{ns:List Int}(hl:ds1.length=us1.length)(q:Rs K H (a::B) (ds1++ds2) (us1++us2))(ea:H a=some (.lst (ns.map V.int)))(tr:∀b∈a::B,∃u,H b=some (oW u)) :
  ER K H ([]++(a::B)) [] (fun _=>a) (ds1.map (fun d=>some (d,false))++some (lV ns,true)::(ds2.map (fun d=>some (d,false))++aH m none)) ((us1++.ref a::us2).map some++aH m none):=by
 have lq:=q.length;rw[aw,aw] at lq;have at_:∀{i:Nat}{v:V},i≠us1.length->(us1++us2)[if i<us1.length then i else i-1]?=some v->((us1++.ref a::us2).map some++aH m none:St)[i]?=some (some v):=fun {i v} ni e=>by
  by_cases h:i<us1.length
  ·rw[if_pos h,aR h] at e;rw[aR (by simp;omega),au,aR h,e];rfl
  ·rw[if_neg h,aN ⋯] at e;have hlt:=(List.getElem?_eq_some_iff.mp e).1;rw[aR (by simp;omega),au,aN ⋯,show i-us1.length=(i-1-us1.length)+1 by omega,aK,e];rfl
 have nt:∀{i:Nat}{d:List D},(ds1.map (fun d=>some (d,false))++some (lV ns,true)::(ds2.map (fun d=>some (d,false))++aH m none):Sl)[i]?≠some (some (.list d,true)):=fun {i d} e=>by
  rcases oS e with ⟨_,z⟩|⟨z,_⟩
  ·cases z
  ·cases z
 refine⟨fun i d e=>?_,fun i d e=>(nt e).elim,fun i d e=>?_,fun i j d e b e1=>(nt e1).elim,tr,(fun b hb=>nomatch hb),by simp;omega,⟨fun i c e=>?_,fun i j c c' e=>?_⟩⟩
 ·rcases oS e with ⟨_,z⟩|⟨_,z,ni,_⟩
  ·cases z
  ·obtain⟨v,ev,rv⟩:=q.get z;rw[hl] at ev ni;exact⟨v,at_ ni ev,rv⟩
 ·rcases oS e with ⟨hi,z⟩|⟨z,_⟩
  ·have z':iw d=lV ns:=(Prod.mk.inj z).1;unfold lV iw at z';simp only[PyData.dict.injEq,List.cons.injEq,Prod.mk.injEq,PyData.list.injEq,and_true] at z';subst z';refine⟨?_,ns.map V.int,ea,aL _ aQ,(fun h=>nomatch h),kS _ _ _ _⟩;rw[hi,hl,aR (by simp),au,aN (aC _),JP];rfl
  ·cases z
 ·exfalso;rcases oS e with ⟨_,z⟩|⟨z,_⟩
  ·have z':=(Prod.mk.inj z).1;simp[lV,iw,nu] at z'
  ·cases z
 ·exfalso;rcases oS e with ⟨_,z⟩|⟨z,_⟩
  ·have z':=(Prod.mk.inj z).1;simp[lV,iw,nu] at z'
  ·cases z
theorem o4 {n n1 m:Nat}{b:SD}{f:ED}{ns:List Int}{ds:List D}{r:D×List Int}(h:GG n n1 m b f ns ds=some r):ds.length+1=n/\n1<=ds.length/\∃ρ v ms,b (wI n1 ns ds m)=some (.next ρ)/\f ρ=some v/\fh n1 ρ=some ms/\r=(v.1,ms):=by
 unfold GG at h;split at h
 ·rename_i hl;simp only[bA] at h;obtain⟨fl,hb,h⟩:=h;cases fl with
  |next ρ =>
   simp only[bA,Option.map_eq_some_iff] at h;obtain⟨v,hv,ms,hm,rfl⟩:=h;exact⟨hl.1,hl.2,ρ,v,ms,hb,hv,hm,rfl⟩
  |ret r=>cases h
  |brk ρ=>cases h
  |cont ρ=>cases h
 ·cases h
theorem wo {K:Fg}{H:Hp}{O:List Addr}{ds:List D}{us1 us2:List V}{n1:Nat}(q:Rs K H O ds (us1++us2))(hn:us1.length=n1)(hl:n1<=ds.length):(ds.take n1).length=us1.length/\Rs K H O (ds.take n1++ds.drop n1) (us1++us2):=by
 refine⟨by rw[List.length_take,JM hl,hn],by rw[List.take_append_drop];exact q⟩
theorem Ct {P:Program}{w:World}{K:Fg}{mg:Str->Option Value}{base:Heap}{x qual:Str}{st:Stmt}{f:Addr}{fd:FuncData}{N ps:List Str}{k n1:Nat}{b:SD}{fe:ED}(F:L2.Fun K x qual st f fd)(S:L2.FnScope N ps (L2.defScope st))
  (hb:∀(cdv:Value) (A:Around) (outer:List Env) (s:Shared) (H:Hp) (E:L2.XK),L2.Room k (A.deeper (PyProof.Rows.envOfC qual (L2.defScope st) s.heap.objs.size f cdv))->G8 n1 (L2.cxOf L2.CX0 P w K mg base N qual (L2.defScope st) f cdv A outer s H E).nox (L2.defBody st) b fe) :
  L2.FnOk P w K mg base L2.CX0 (k+1) f fd ps (FU K n1 (GG ps.length n1 (N.length-ps.length) b fe)):=by
 refine F.ok S (fun vs H Q E ⟨us1,us2,a,ns,ds,B,r,e,en,ea,na,q,tr,hF,_⟩=>?_) fun cdv A outer s H vs Q E hr ⟨us1,us2,a,ns,ds,B,r,e,en,ea,na,q,tr,hF,kk⟩=>?_
 ·obtain⟨h1,h2,_⟩:=o4 hF;have:=q.length;rw[e];simp at this ⊢;omega
 ·obtain⟨h1,h2,ρ,v,ms,hbd,hv,hm,rfl⟩:=o4 hF;obtain⟨l1,q1⟩:=wo q en h2;have hlen:vs.length=ps.length:=by
   have:=q.length;rw[e];simp at this ⊢;omega
  refine⟨_,hb cdv A outer s H E hr (a::B) H [a] (fun _=>a) aQ,_,ρ,v,⟨[],⟨fun _ _ _ e=>e,fun _ _ e=>e,fun _ _ _ e=>e,(fun b hb=>nomatch hb),fun _ h=>h⟩,(fun _ z=>nomatch z),?_⟩,hbd,hv,fun u σ' H' M xx E' rv=>?_⟩
  ·have z:=BI (m:=N.length-ps.length) l1 q1 ea tr;unfold L2.start;rw[hlen,e];exact z
  ·obtain⟨xs,hi,hint⟩:=gQ hm;obtain⟨_,ws,e2,_,_,qs⟩:=E'.le n1 _ hi;have ev:=kT hint qs;subst ev;exact kk u H' (fun b o nb e=>xx.keep b o (fun z=>nb (List.mem_singleton.mp z)) e) e2 (rv.ext (.less fun b hb=>aL _ hb))
theorem Ey {P:Program}{w:World}{K:Fg}{mg:Str->Option Value}{base:Heap}{x qual:Str}{st:Stmt}{f:Addr}{fd:FuncData}{N ps:List Str}{k n1:Nat}{b:SD}(F:L2.Fun K x qual st f fd)(S:L2.FnScope N ps (L2.defScope st))
  (hb:∀(cdv:Value) (A:Around) (outer:List Env) (s:Shared) (H:Hp) (E:L2.XK),L2.Room k (A.deeper (PyProof.Rows.envOfC qual (L2.defScope st) s.heap.objs.size f cdv))->xO n1 (L2.cxOf L2.CX0 P w K mg base N qual (L2.defScope st) f cdv A outer s H E).nox (L2.defBody st) b) :
  L2.FnOk P w K mg base L2.CX0 (k+1) f fd ps (FU K n1 (GG ps.length n1 (N.length-ps.length) b (dC .none))):=by
 refine F.ok S (fun vs H Q E ⟨us1,us2,a,ns,ds,B,r,e,en,ea,na,q,tr,hF,_⟩=>?_) fun cdv A outer s H vs Q E hr ⟨us1,us2,a,ns,ds,B,r,e,en,ea,na,q,tr,hF,kk⟩=>?_
 ·obtain⟨h1,h2,_⟩:=o4 hF;have:=q.length;rw[e];simp at this ⊢;omega
 ·obtain⟨h1,h2,ρ,v,ms,hbd,hv,hm,rfl⟩:=o4 hF;obtain⟨l1,q1⟩:=wo q en h2;have hlen:vs.length=ps.length:=by
   have:=q.length;rw[e];simp at this ⊢;omega
  cases hv;refine⟨_,hb cdv A outer s H E hr (a::B) H [a] (fun _=>a) aQ,_,.next ρ,⟨[],⟨fun _ _ _ e=>e,fun _ _ e=>e,fun _ _ _ e=>e,(fun b hb=>nomatch hb),fun _ h=>h⟩,(fun _ z=>nomatch z),?_⟩,hbd,fun σ' H' ⟨M,xx,_,E'⟩=>?_⟩
  ·have z:=BI (m:=N.length-ps.length) l1 q1 ea tr;unfold L2.start;rw[hlen,e];exact z
  ·obtain⟨xs,hi,hint⟩:=gQ hm;obtain⟨_,ws,e2,_,_,qs⟩:=E'.le n1 _ hi;have ev:=kT hint qs;subst ev;exact kk _ H' (fun b o nb e=>xx.keep b o (fun z=>nb (List.mem_singleton.mp z)) e) e2 .none
end DL
namespace L2
open PySem PySem.Spec PyProof.Rows
noncomputable abbrev zi (h:Heap)(z TI TO T:Addr)(b:Bool):Prop :=
 h.get? z=some { cls:=.type "zip", dict:=none,data:=.fields #[rawInt T,.bool b,.bool false,.ref TI,.ref TO],slots:=#[] }
theorem Dd {M:Model}{A:Around}{E:Value->Shared->Prop}{s:Shared}{a:Addr}{Q:Option Obj->Shared->Prop}(h:Q (s.heap.get? a) s):wpAny M A (loadIfAlive a) Q E s:=fun Γ p _=>by
 unfold loadIfAlive;rw[Sem.wp_loadIfAlive];exact h
section
variable {prog:Program}{w:World}{A:Around}{E:Value->Shared->Prop}{s:Shared}{z TI TO i1 i2 T:Addr}{n1 n2 k:Nat}{fp1 fp2:List Addr}{P1 P2:Nat->Value->Prop}{S1 S2:Nat->Heap->Prop}
theorem v9 {b:Bool}{oT:Obj}{Q:Bool->Shared->Prop}(hz:zi s.heap z TI TO T b)(hT:s.heap.get? T=some oT)(h:∀h',zi h' z TI TO T true->Heap.SameBut z s.heap h'->Q false { s with heap:=h' }) :
  wpAny (model prog w) A (Builtin.SmallTypes.ownedTupleIsFree (.ref z)) Q E s:=by
 unfold Builtin.SmallTypes.ownedTupleIsFree;refine ab (aV hz rfl (x:=rawInt T) rfl ?_);show wpAny _ _ (loadIfAlive (T:Int).toNat>>=_) _ _ _;rw[aW];refine ab (Dd ?_);rw[hT];refine ab (aV hz rfl (x:=.bool b) rfl ?_);cases b with
 |true =>
  rw[show (Value.bool true != Value.bool true)=false by decide];refine aq ?_;exact h s.heap hz ⟨rfl,fun _ _=>rfl⟩
 |false =>
  rw[show (Value.bool false != Value.bool true)=true by decide];refine ab (aT hz (by simp) fun h' hz' hs'=>aq (h h' hz' hs'))
theorem zipItem2 {b:Bool}{oT:Obj}{Q:Value->Shared->Prop}(Z:Fq z TI TO i1 i2)(D1:Draws prog w A i1 fp1 n1 P1 S1)(D2:Draws prog w A i2 fp2 n2 P2 S2)(f1:z∉fp1/\i2∉fp1)(f2:z∉fp2/\i1∉fp2)
  (hz:zi s.heap z TI TO T b) (hT:s.heap.get? T=some oT) (hTI:IsPair s.heap TI (.ref i1) (.ref i2)) (t1:S1 k s.heap) (t2:S2 k s.heap) (l1:k<n1) (l2:k<n2)
  (hQ:∀x y h' tk,P1 k x->P2 k y->zi h' z TI TO T true->S1 (k+1) h'->S2 (k+1) h'->IsPair h' s.heap.objs.size x y->(∀c o,c≠z->c≠i1->c≠i2->s.heap.get? c=some o->h'.get? c=some o)->Q (.ref s.heap.objs.size) { s with heap:=h',toks:=tk }) :
  wpAny (model prog w) A (Builtin.«zip.__next__» ⟨[.ref z],[]⟩) (fun fin s'=>∃v,fin=.done (.ret v)/\Q v s') E s:=by
 show wpAny _ _ (field (.ref z) 2>>=_) _ _ _;refine ab (aV hz rfl (x:=.bool false) rfl ?_);show wpAny _ _ (field (.ref z) 3>>=_) _ _ _;refine ab (aV hz rfl (x:=.ref TI) rfl ?_);refine ab (wpAny_seqItems hTI rfl ?_);show wpAny _ _ (Builtin.SmallTypes.ownedTupleIsFree (.ref z)>>=_) _ _ _;refine ab (v9 hz hT fun g1 hz1 e1=>?_);simp only[Bool.false_eq_true,if_false];refine ab ?_;rw[<-JR];simp only[bV,JB];refine ab (ab (bD ?_));show wpAny _ _ (Builtin.SmallTypes.nextOf (.ref i1)>>=_) _ _ _;have t1':S1 k g1:=D1.frame _ _ _ t1 fun c hc o q=>e1.extBut c o (fun w'=>f1.1 (w'▸hc)) q;refine ab (D1.item k _ _ _ l1 t1' fun x g2 tk2 px u1 e2=>aq ?_);refine aq ?_;refine ab (ab (bD ?_));show wpAny _ _ (Builtin.SmallTypes.nextOf (.ref i2)>>=_) _ _ _;have t2':S2 k g2:=D2.frame _ _ _ t2 fun c hc o q=>e2.extBut c o (fun w'=>f2.2 (w'▸hc)) (e1.extBut c o (fun w'=>f2.1 (w'▸hc)) q);refine ab (D2.item k _ _ _ l2 t2' fun y g3 tk3 py u2 e3=>aq ?_);refine aq (aq ?_);refine ab (wpAny_newTuple ?_ (show 2<=sizeLine from sz2'));have hsz:g3.objs.size=s.heap.objs.size:=by rw[e3.1,e2.1,e1.1]
 have up:∀c o,c≠z->c≠i1->c≠i2->s.heap.get? c=some o->(g3.push { cls:=.type "tuple", data:=.seq #[x,y] }).get? c=some o:=fun c o c1 c2 c3 q =>
  ae _ (e3.extBut _ _ c3 (e2.extBut _ _ c2 (e1.extBut _ _ c1 q)))
 refine aq ⟨_,rfl,?_⟩;show Q (.ref g3.objs.size) _;have hP:IsPair (g3.push { cls:=.type "tuple", data:=.seq #[x,y] }) g3.objs.size x y:=aD _ rfl;rw[hsz] at hP ⊢;refine hQ x y _ _ px py (ae _ (e3.extBut _ _ Z.a4.symm (e2.extBut _ _ Z.a3.symm hz1))) (D1.frame _ _ _ u1 fun c hc o q=>?_) (D2.frame _ _ _ u2 fun c hc o q=>ae _ q) hP up;exact ae _ (e3.extBut c o (fun w'=>f1.2 (w'▸hc)) q)
theorem zipEnd2 {b:Bool}{oT:Obj}{Q:Fin->Shared->Prop}(Z:Fq z TI TO i1 i2)(D1:Draws prog w A i1 fp1 n1 P1 S1)(D2:Draws prog w A i2 fp2 n2 P2 S2)(f1:z∉fp1/\i2∉fp1)(f2:z∉fp2/\i1∉fp2)
  (hz:zi s.heap z TI TO T b) (hT:s.heap.get? T=some oT) (hTI:IsPair s.heap TI (.ref i1) (.ref i2)) (t1:S1 k s.heap) (t2:S2 k s.heap) (hend:k=n1\/(k<n1/\k=n2))
  (hE:∀h' tk e,(∀c o,c≠z->c≠i1->c≠i2->s.heap.get? c=some o->h'.get? c=some o)->(∃o,h'.get? e=some o/\o.cls=.type "StopIteration")->E (.ref e) { s with heap:=h',toks:=tk }) :
  wpAny (model prog w) A (Builtin.«zip.__next__» ⟨[.ref z],[]⟩) Q E s:=by
 show wpAny _ _ (field (.ref z) 2>>=_) _ _ _;refine ab (aV hz rfl (x:=.bool false) rfl ?_);show wpAny _ _ (field (.ref z) 3>>=_) _ _ _;refine ab (aV hz rfl (x:=.ref TI) rfl ?_);refine ab (wpAny_seqItems hTI rfl ?_);show wpAny _ _ (Builtin.SmallTypes.ownedTupleIsFree (.ref z)>>=_) _ _ _;refine ab (v9 hz hT fun g1 hz1 e1=>?_);simp only[Bool.false_eq_true,if_false];refine ab ?_;rw[<-JR];simp only[bV,JB];refine ab (ab (bD ?_));show wpAny _ _ (Builtin.SmallTypes.nextOf (.ref i1)>>=_) _ _ _;have t1':S1 k g1:=D1.frame _ _ _ t1 fun c hc o q=>e1.extBut c o (fun w'=>f1.1 (w'▸hc)) q;rcases hend with e|⟨l1,e⟩
 ·subst e;refine ab (D1.done _ _ _ t1' fun h' e hb hx=>?_);exact hE h' _ e (fun c o c1 c2 _ q=>hb c o c2 (e1.extBut _ _ c1 q)) hx
 ·subst e;refine ab (D1.item k _ _ _ l1 t1' fun x g2 tk2 px u1 e2=>aq ?_);refine aq ?_;refine ab (ab (bD ?_));show wpAny _ _ (Builtin.SmallTypes.nextOf (.ref i2)>>=_) _ _ _;have t2':S2 k g2:=D2.frame _ _ _ t2 fun c hc o q=>e2.extBut c o (fun w'=>f2.2 (w'▸hc)) (e1.extBut c o (fun w'=>f2.1 (w'▸hc)) q);refine ab (D2.done _ _ _ t2' fun h' e hb hx=>?_);exact hE h' _ e (fun c o c1 c2 c3 q=>hb c o c3 (e2.extBut _ _ c2 (e1.extBut _ _ c1 q))) hx
end
theorem Fy:entryFor table "zip.__getattribute__" = some Builtin.«object.__getattribute__»:=entryFor_alias (id' := "object.__getattribute__") (by kernel_rfl) (by first|rfl|decide +kernel) (by decide +kernel) (by kernel_rfl)
theorem Bk:typeLookup (.type "zip") "keys" = pure none:=by rw[typeLookup_type,builtinLookup_eq_fast];kernel_rfl
theorem v8:typeLookup (.type "zip") "__getattr__" = pure none:=by rw[typeLookup_type,builtinLookup_eq_fast];kernel_rfl
theorem xS (a:Addr)(fs:Array Value)(sl:Array (Option Value))(u:Tok) :
  Meets (Builtin.«object.__getattribute__» ⟨[.ref a,.str "keys" u],[]⟩) (fun A R s=>s.heap.get? a=some { cls:=.type "zip", dict:=none,data:=.fields fs,slots:=sl }/\raisesAttr (.ref a) "keys" A R s) :=
 Meets.of_wp fun prog w A R s hs=>by
  obtain⟨hp,g,d,tk,os⟩:=s;obtain⟨hx,hs⟩:=hs;have hT:(⟨hp,g,d,tk,os⟩:Shared).TypeIs (.ref a) "zip" := ⟨_,hx,rfl⟩;have hm:=Bk;have hname : (["__module__", "__name__", "__qualname__", "__doc__", "__annotations__"] : List Str).contains (Str.ofString "keys") = false := by decide +kernel
  unfold Builtin.«object.__getattribute__»
  repeat (any_goals (first|assumption|wp_step))
  all_goals (try simp only[hname,Bool.false_eq_true,if_false])
  repeat (any_goals (first|assumption|wp_step))
  exact wpAny_raiseAttrError hs.1 hs.2 (attrMsg_fits (by decide +kernel) (by decide +kernel))
theorem zip_nokeys {prog:Program}{w:World}{A:Around}{E:Value->Shared->Prop}{s:Shared}{a:Addr}{fs:Array Value}{sl:Array (Option Value)}{Q:Option Value->Shared->Prop}(hx:s.heap.get? a=some { cls:=.type "zip", dict:=none,data:=.fields fs,slots:=sl })(hA:A.handled=none)
  (h:∀h' tk,(∀b o,s.heap.get? b=some o->h'.get? b=some o)->Q none { s with heap:=h',toks:=tk }):wpAny (model prog w) A (getAttr? (.ref a) "keys") Q E s:=by
 obtain⟨hp,g,d,tk,os⟩:=s;have hT:∀tk',(⟨hp,g,d,tk',os⟩:Shared).TypeIs (.ref a) "zip" := fun _=>⟨_,hx,rfl⟩;have f1:=sub_AttributeError;have f3:=F.slot_zip_getattribute.lookup;have f4:=F.slot_zip_getattribute.bind (.ref a);have f5:=v8;unfold getAttr? getAttrBy? getAttrBy
 repeat (any_goals (first|assumption|exact hT _|((with_reducible show wpAny _ _ (call (Value.builtin "zip.__getattribute__") _ _) _ _ _);refine call_meets F.slot_zip_getattribute (hT _) Fy (F.args_zip_getattribute_2 _ _) (xS a fs sl _) ⟨hx,hA,fun h' tk' e hx'=>?_⟩)|wp_step))
 obtain⟨t',u',he⟩:=hx'.there;show wpAny _ _ (getattributeRaised _ _ _ _ _ _ _) _ _ _;unfold getattributeRaised
 repeat (any_goals (first|assumption|wp_step))
 exact h _ _ hx'.keeps
end L2
namespace DL
open PySem PySem.Spec PySem.SeqAt
open L2 (V Hp St HO VK TE TT TA TS TI TG Cx cT PE PT PA PS PSs PI PG jw jT dq eA cO cG cI cY dX EP TP AP SP jU It iM zi Fq ItK kF)
theorem rR:mroOf (.type "dict")=pure [.type "dict", .type "object"]:=by rw[mroOf_type];kernel_rfl
theorem tF:typeLookup (.type "dict") "__new__" = pure (some (.builtin "dict.__new__")):=by rw[typeLookup_type,builtinLookup_eq_fast];kernel_rfl
theorem xF:TypeCalled "dict" "dict.__new__" "dict.__init__" := ⟨by decide +kernel,by decide +kernel,⟨_,_,rR⟩,madeBy_type rR tF (by decide +kernel),by decide +kernel,by rw[isSubtype_type];kernel_rfl,F.slot_dict_init⟩
theorem sX (a:Value):checkTypeCall "dict" ⟨[a],[]⟩=pure ():=by kernel_rfl
theorem vm (a:Value):checkBuiltinCall "dict.__new__" ⟨[.type "dict", a],[]⟩=pure ():=by kernel_rfl
theorem sg:entryFor table "dict.__new__" = some Builtin.«dict.__new__»:=entryFor_of_tree (by kernel_rfl)
theorem mh:plainId "dict.__new__" = true:=by decide +kernel
theorem uj:entryFor table "dict.update.loop" = some Builtin.«dict.update.loop»:=entryFor_of_tree (by kernel_rfl)
theorem mW:plainId "dict.update.loop" = true:=by decide +kernel
theorem td:isSubtype (.type "dict") (.type "dict")=pure true:=by rw[isSubtype_type];kernel_rfl
theorem rh:typeOf (.type "dict")=pure (.type "type"):=by kernel_rfl
noncomputable abbrev tE:Obj:={ cls:=.type "dict", dict:=none,data:=.dict #[] }
section
variable {prog:Program}{w:World}{A:Around}{E:Value->Shared->Prop}{s:Shared}
theorem vS (a:Value){Q₁:Value->Shared->Prop}(h:Q₁ (.ref s.heap.objs.size) { s with heap:=s.heap.push tE }):codeAny (model prog w) A (.call (.builtin "dict.__new__") ⟨[.type "dict", a],[]⟩) (wants Q₁ E) s:=by
 refine codeAny_of_tree ?_;show wpAny _ A.in1 (do checkBuiltinCall "dict.__new__" ⟨[.type "dict", a],[]⟩;again (.builtin "dict.__new__" ⟨[.type "dict", a],[]⟩)) _ _ s;refine ab (wpAny_of_eq (vm a) (aq ⟨plainId_quiet mh _,codeAny_builtin sg ?_⟩));rw[Around.under_plainId mh _];unfold Builtin.«dict.__new__»;have hsub:=td;have hm:=rR;have hty:=rh;obtain⟨hp,g,d,tk,os⟩:=s;dsimp only
 wp_walk
 exact h
end
def Js (h:Heap)(z TI TO i1 i2 dd:Addr):Prop:=(IsZip h z TI TO .none/\∃x y,IsPair h TO x y)\/∃T b oT,zi h z TI TO T b/\h.get? T=some oT/\T≠z/\T≠i1/\T≠i2/\T≠dd
structure G1 (X:Cx)(s0:Shared)(z TI TO i1 i2 dd:Addr)(k1 k2:Bool)(a b:Addr)(i:Nat)(zs:List (D×Addr×Value))(h:Heap):Prop where
 keep:∀c o,s0.heap.get? c=some o->h.get? c=some o
 zst:Js h z TI TO i1 i2 dd
 ti:IsPair h TI (.ref i1) (.ref i2)
 it1:ItK k1 h i1 a i
 it2:ItK k2 h i2 b i
 dic:∃od ds ep,h.get? dd=some od/\od.ExactDict/\od.data=.dict ds ep/\ds.toList=zs.map A1/\(zs.map (·.1)).Nodup
structure Io (n:Nat)(z TI TO i1 i2 dd:Addr):Prop where
 Z:Fq z TI TO i1 i2
 le:n<=z/\n<=TI/\n<=TO/\n<=i1/\n<=i2/\n<=dd
 nd:dd≠z/\dd≠TI/\dd≠TO/\dd≠i1/\dd≠i2
section
variable {X:Cx}{pins:List (Addr×Obj)}{σ:St}{H:Hp}{s0:Shared}{O:List Addr}{A:Around}{R':Result->Shared->Prop}{z TI TO i1 i2 dd a b:Addr}{k1 k2:Bool}{ds1 ds2:List D}{vs1 vs2:List V}{kvsF:List (D×D)}
theorem yy {kvs:List (D×D)}{k d:D}(h:gg kvs=true)(hk:gJ k=true):gg (tK kvs k d)=true:=by
 unfold gg tK at *;rw[bH] at *;intro p hp;split at hp
 ·obtain⟨q,hq,e⟩:=List.mem_map.mp hp;have:=h q hq;split at e <;> (subst e;exact this)
 ·rcases List.mem_append.mp hp with z|z
  ·exact h p z
  ·have z':=List.mem_singleton.mp z;subst z';exact hk
theorem Eh {i:Nat}{zs:List (D×Addr×Value)}{h:Heap}{tk:Nat}{Q:Option Value->Shared->Prop}{E:Value->Shared->Prop}{its jts:List Value}(hh:A.handled=none)(Zf:Io s0.heap.objs.size z TI TO i1 i2 dd)(L:G1 X s0 z TI TO i1 i2 dd k1 k2 a b i zs h)
  (oa:kF k1 s0.heap a its.toArray) (ob:kF k2 s0.heap b jts.toArray) {x y:Value} (hx:its[i]?=some x) (hy:jts[i]?=some y)
  (hQ:∀h' tk' T,G1 X s0 z TI TO i1 i2 dd k1 k2 a b (i+1) zs h'->IsPair h' T x y->T≠dd->Q (some (.ref T)) { s0 with heap:=h',toks:=tk' }) :
  wpAny (model X.prog X.w) A (pyNext (.ref z)) Q E { s0 with heap:=h,toks:=tk }:=by
 have alt:=oa.lt;have blt:=ob.lt;obtain⟨le1,le2,le3,le4,le5,le6⟩:=Zf.le;obtain⟨nd1,nd2,nd3,nd4,nd5⟩:=Zf.nd;have Z:=Zf.Z;have an:∀{c:Addr},s0.heap.objs.size<=c->a≠c:=fun h z=>bt _ (aF (z▸alt) h);have bn:∀{c:Addr},s0.heap.objs.size<=c->b≠c:=fun h z=>bt _ (aF (z▸blt) h);have oa':kF k1 h a its.toArray:=oa.at fun o q=>L.keep a o q;have ob':kF k2 h b jts.toArray:=ob.at fun o q=>L.keep b o q;have hi:i<its.toArray.size:=by rw[aE];exact (List.getElem?_eq_some_iff.mp hx).1
 have hj:i<jts.toArray.size:=by rw[aE];exact (List.getElem?_eq_some_iff.mp hy).1
 have hh1:A.in1.handled=none:=hh;have D1:=L2.draws_sq (prog:=X.prog) (w:=X.w) (A:=A.in1) hh1 i1 a (an le4) its.toArray;have D2:=L2.draws_sq (prog:=X.prog) (w:=X.w) (A:=A.in1) hh1 i2 b (bn le5) jts.toArray;have ap1:z∉[i1,a]/\TO∉[i1,a]/\i2∉[i1,a]:=⟨by simp[Z.a3.symm,(an le1).symm],by simp[Z.a8,(an le3).symm],by simp[Z.b1.symm,(an le5).symm]⟩;have ap2:z∉[i2,b]/\TO∉[i2,b]/\i1∉[i2,b]:=⟨by simp[Z.a4.symm,(bn le1).symm],by simp[Z.a9,(bn le3).symm],by simp[Z.b1,(bn le4).symm]⟩;have same:∀{x':Value},its.toArray[i]?=some x'->x'=x:=fun e=>by rw[List.getElem?_toArray,hx] at e;exact (Option.some.inj e).symm
 have same2:∀{x':Value},jts.toArray[i]?=some x'->x'=y:=fun e=>by rw[List.getElem?_toArray,hy] at e;exact (Option.some.inj e).symm
 have hlt:∀{c o},h.get? c=some o->c<h.objs.size:=fun e=>aB e;obtain⟨od,es,ep,ho,hc,hd,he,hn⟩:=L.dic;have apart:∀{c d:Addr},c<s0.heap.objs.size->s0.heap.objs.size<=d->c≠d:=fun h1 h2=>aO (aF h1 h2);rcases L.zst with ⟨q1,ox,oy,q3⟩|⟨T,bb,oT,q1,qT,n1,n2,n3,n4⟩
 ·have hT:Shared.TypeIs { s0 with heap:=h,toks:=tk } (.ref z) "zip" := ⟨_,q1,rfl⟩;unfold pyNext;refine ab (wpAny_attempt (wpAny_callSpecial?_slot (name:=Str.ofString "__next__") hT F.slot_zip_next (wpAny_call_entry F.slot_zip_next hT F.entry_zip_next
   (L2.zipItem (s:={ s0 with heap:=h,toks:=tk }) Z D1 D2 ap1 ap2 q1 L.ti q3 (L.it1.with oa') (L.it2.with ob') hi hj fun x' y' h' tk' px py nz nTO m1 m2 nT hk=>aq ?_) (F.args_zip_next_1 _))))
  have ex:=same px;have ey:=same2 py;subst ex ey;have kp:∀c o,c≠z->c≠TO->c≠i1->c≠i2->h.get? c=some o->h'.get? c=some o:=hk;have k0:∀c o,s0.heap.get? c=some o->h'.get? c=some o:=fun c o q=>by
   have lt:c<s0.heap.objs.size:=aB q;exact kp c o (apart lt le1) (apart lt le3) (apart lt le4) (apart lt le5) (L.keep c o q)
  refine hQ h' tk' h.objs.size ⟨k0,.inr ⟨h.objs.size,false,_,nz,nT,(bj (hlt q1)),?_,?_,(bj (hlt ho))⟩,kp TI _ Z.a1 Z.a5 Z.a6 Z.a7 L.ti,L2.ItK.of m1 (oa.at fun o q=>k0 a o q),L2.ItK.of m2 (ob.at fun o q=>k0 b o q),?_⟩ nT (bj (hlt ho))
  ·obtain⟨o,q,_⟩:=L.it1.obj;exact bj (hlt q)
  ·obtain⟨o,q,_⟩:=L.it2.obj;exact bj (hlt q)
  ·exact⟨od,es,ep,kp dd _ nd1 nd3 nd4 nd5 ho,hc,hd,he,hn⟩
 ·have hT:Shared.TypeIs { s0 with heap:=h,toks:=tk } (.ref z) "zip" := ⟨_,q1,rfl⟩;unfold pyNext;refine ab (wpAny_attempt (wpAny_callSpecial?_slot (name:=Str.ofString "__next__") hT F.slot_zip_next (wpAny_call_entry F.slot_zip_next hT F.entry_zip_next
   (L2.zipItem2 (s:={ s0 with heap:=h,toks:=tk }) Z D1 D2 ⟨ap1.1,ap1.2.2⟩ ⟨ap2.1,ap2.2.2⟩ q1 qT L.ti (L.it1.with oa') (L.it2.with ob') hi hj fun x' y' h' tk' px py nz m1 m2 nT hk=>aq ?_) (F.args_zip_next_1 _))))
  have ex:=same px;have ey:=same2 py;subst ex ey;have kp:∀c o,c≠z->c≠i1->c≠i2->h.get? c=some o->h'.get? c=some o:=hk;have k0:∀c o,s0.heap.get? c=some o->h'.get? c=some o:=fun c o q=>by
   have lt:c<s0.heap.objs.size:=aB q;exact kp c o (apart lt le1) (apart lt le4) (apart lt le5) (L.keep c o q)
  refine hQ h' tk' h.objs.size ⟨k0,.inr ⟨T,true,_,nz,kp T _ n1 n2 n3 qT,n1,n2,n3,n4⟩,kp TI _ Z.a1 Z.a6 Z.a7 L.ti,L2.ItK.of m1 (oa.at fun o q=>k0 a o q),L2.ItK.of m2 (ob.at fun o q=>k0 b o q),?_⟩ nT (bj (hlt ho));exact⟨od,es,ep,kp dd _ nd1 nd4 nd5 ho,hc,hd,he,hn⟩
theorem Eg {i:Nat}{zs:List (D×Addr×Value)}{h:Heap}{tk:Nat}{Q:Option Value->Shared->Prop}{E:Value->Shared->Prop}{its jts:List Value}(hh:A.handled=none)(Zf:Io s0.heap.objs.size z TI TO i1 i2 dd)(L:G1 X s0 z TI TO i1 i2 dd k1 k2 a b i zs h)
  (oa:kF k1 s0.heap a its.toArray) (ob:kF k2 s0.heap b jts.toArray) (hend:i=its.length\/(i<its.length/\i=jts.length))
  (hQ:∀h' tk',(∀c o,s0.heap.get? c=some o->h'.get? c=some o)->(∀o,h.get? dd=some o->h'.get? dd=some o)->Q none { s0 with heap:=h',toks:=tk' }) :
  wpAny (model X.prog X.w) A (pyNext (.ref z)) Q E { s0 with heap:=h,toks:=tk }:=by
 have alt:=oa.lt;have blt:=ob.lt;obtain⟨le1,le2,le3,le4,le5,le6⟩:=Zf.le;obtain⟨nd1,nd2,nd3,nd4,nd5⟩:=Zf.nd;have Z:=Zf.Z;have an:∀{c:Addr},s0.heap.objs.size<=c->a≠c:=fun h z=>bt _ (aF (z▸alt) h);have bn:∀{c:Addr},s0.heap.objs.size<=c->b≠c:=fun h z=>bt _ (aF (z▸blt) h);have apart:∀{c d:Addr},c<s0.heap.objs.size->s0.heap.objs.size<=d->c≠d:=fun h1 h2=>aO (aF h1 h2);have oa':kF k1 h a its.toArray:=oa.at fun o q=>L.keep a o q;have ob':kF k2 h b jts.toArray:=ob.at fun o q=>L.keep b o q;have hh1:A.in1.handled=none:=hh;have D1:=L2.draws_sq (prog:=X.prog) (w:=X.w) (A:=A.in1) hh1 i1 a (an le4) its.toArray;have D2:=L2.draws_sq (prog:=X.prog) (w:=X.w) (A:=A.in1) hh1 i2 b (bn le5) jts.toArray;have ap1:z∉[i1,a]/\TO∉[i1,a]/\i2∉[i1,a]:=⟨by simp[Z.a3.symm,(an le1).symm],by simp[Z.a8,(an le3).symm],by simp[Z.b1.symm,(an le5).symm]⟩;have ap2:z∉[i2,b]/\TO∉[i2,b]/\i1∉[i2,b]:=⟨by simp[Z.a4.symm,(bn le1).symm],by simp[Z.a9,(bn le3).symm],by simp[Z.b1,(bn le4).symm]⟩;have hend':i=its.toArray.size\/(i<its.toArray.size/\i=jts.toArray.size):=by rw[aE,aE];exact hend
 have fin:∀(h':Heap) (tk':Nat) (e:Addr),(∀c o,c≠z->c≠TO->c≠i1->c≠i2->h.get? c=some o->h'.get? c=some o)->(∃o,h'.get? e=some o/\o.cls=.type "StopIteration") →
   wpAny (model X.prog X.w) A (do if <-isInstance (.ref e) (.type "StopIteration") then pure none else throw (.ref e):Sem (Option Value)) Q E { s0 with heap:=h',toks:=tk' }:=fun h' tk' e hk he=>by
  obtain⟨o,ho,hce⟩:=he;refine ab (wpAny_isInstance (s:={ s0 with heap:=h',toks:=tk' }) (T := "StopIteration") (b:=true) ⟨o,ho,hce⟩ isSubtype_stop ?_);exact aq (hQ h' tk' (fun c o q=>have lt:c<s0.heap.objs.size:=aB q;hk c o (apart lt le1) (apart lt le3) (apart lt le4) (apart lt le5) (L.keep c o q)) fun o q=>hk dd o nd1 nd3 nd4 nd5 q)
 rcases L.zst with ⟨q1,ox,oy,q3⟩|⟨T,bb,oT,q1,qT,n1,n2,n3,n4⟩
 ·have hT:Shared.TypeIs { s0 with heap:=h,toks:=tk } (.ref z) "zip" := ⟨_,q1,rfl⟩;unfold pyNext;exact ab (wpAny_attempt (wpAny_callSpecial?_slot (name:=Str.ofString "__next__") hT F.slot_zip_next (wpAny_call_entry F.slot_zip_next hT F.entry_zip_next (L2.zipEnd (s:={ s0 with heap:=h,toks:=tk }) Z D1 D2 ap1 ap2 q1 L.ti q3 (L.it1.with oa') (L.it2.with ob') hend' fun h' tk' ex hk he=>fin h' tk' ex hk he) (F.args_zip_next_1 _))))
 ·have hT:Shared.TypeIs { s0 with heap:=h,toks:=tk } (.ref z) "zip" := ⟨_,q1,rfl⟩;unfold pyNext;exact ab (wpAny_attempt (wpAny_callSpecial?_slot (name:=Str.ofString "__next__") hT F.slot_zip_next (wpAny_call_entry F.slot_zip_next hT F.entry_zip_next (L2.zipEnd2 (s:={ s0 with heap:=h,toks:=tk }) Z D1 D2 ⟨ap1.1,ap1.2.2⟩ ⟨ap2.1,ap2.2.2⟩ q1 qT L.ti (L.it1.with oa') (L.it2.with ob') hend' fun h' tk' ex hk he=>fin h' tk' ex (fun c o c1 _ c3 c4 q=>hk c o c1 c3 c4 q) he) (F.args_zip_next_1 _))))
theorem Bl (I:cT X pins σ H s0)(hh:A.handled=none)(hu:A.units+120<cLine)(Zf:Io s0.heap.objs.size z TI TO i1 i2 dd)(sx:iM k1 X.K H a vs1)(sy:iM k2 X.K H b vs2)(q1:Rs X.K H O ds1 vs1)(q2:Rs X.K H O ds2 vs2)(hlen:ds1.length<=sizeLine) :
  ∀(m i:Nat) (h:Heap) (tk:Nat) (kvs:List (D×D)) (es:List En) (zs:List (D×Addr×Value)),ds1.length-i=m->i<=ds1.length->i<=ds2.length->es.length<=i->gg kvs=true->Rd X.K H O kvs es->Paired qk es zs->jW (ds1.drop i) (ds2.drop i) kvs=some kvsF →
   G1 X s0 z TI TO i1 i2 dd k1 k2 a b i zs h →
   (∀h' tk' esF zsF,Rd X.K H O kvsF esF->Paired qk esF zsF->esF.length<=ds1.length->(∀c o,s0.heap.get? c=some o->h'.get? c=some o)->(∃od ds ep,h'.get? dd=some od/\od.ExactDict/\od.data=.dict ds ep/\ds.toList=zsF.map A1/\(zsF.map (·.1)).Nodup)->R' (.ok (.ret .none)) { s0 with heap:=h',toks:=tk' }) →
   codeAny (model X.prog X.w) A (.builtin "dict.update.loop" ⟨[.ref dd,.ref z,rawInt i,.none],[]⟩) R' { s0 with heap:=h,toks:=tk }:=by
 obtain⟨its,r1,oa,_⟩:=I.seqK sx;obtain⟨jts,r2,ob,_⟩:=I.seqK sy;have ln1:ds1.length=its.length:=q1.length.trans r1.length;have ln2:ds2.length=jts.length:=q2.length.trans r2.length;have hh1:A.in1.handled=none:=hh;have stop:∀(i:Nat) (h:Heap) (tk:Nat) (es:List En) (zs:List (D×Addr×Value)),(i=its.length\/(i<its.length/\i=jts.length))->es.length<=ds1.length->Rd X.K H O kvsF es->Paired qk es zs->G1 X s0 z TI TO i1 i2 dd k1 k2 a b i zs h →
   (∀h' tk' esF zsF,Rd X.K H O kvsF esF->Paired qk esF zsF->esF.length<=ds1.length->(∀c o,s0.heap.get? c=some o->h'.get? c=some o)->(∃od ds ep,h'.get? dd=some od/\od.ExactDict/\od.data=.dict ds ep/\ds.toList=zsF.map A1/\(zsF.map (·.1)).Nodup)->R' (.ok (.ret .none)) { s0 with heap:=h',toks:=tk' }) →
   codeAny (model X.prog X.w) A (.builtin "dict.update.loop" ⟨[.ref dd,.ref z,rawInt i,.none],[]⟩) R' { s0 with heap:=h,toks:=tk }:=by
  intro i h tk es zs hend he hr hp L hR;refine codeAny_builtin uj ?_;rw[Around.under_plainId mW _];show wpAny _ A.in1 (pyNext (.ref z)>>=_) _ _ _;refine ab (Eg hh1 Zf L oa ob hend fun h' tk' k0 kd=>?_);obtain⟨od,ds,ep,d1,d2,d3,d4,d5⟩:=L.dic;exact aq (hR h' tk' es zs hr hp he k0 ⟨od,ds,ep,kd _ d1,d2,d3,d4,d5⟩)
 intro m;induction m with
 |zero =>
  intro i h tk kvs es zs hm hi hj hl hk hr hp hz L hR;have e:i=ds1.length:=by omega
  have ed:ds1.drop i=[]:=by rw[e,JK]
  rw[ed] at hz;unfold jW at hz;cases hz;exact stop i h tk es zs (.inl (e.trans ln1)) ⋯ hr hp L hR
 |succ m ih =>
  intro i h tk kvs es zs hm hi hj hl hk hr hp hz L hR;have hlt:i<ds1.length:=by omega
  have ed:ds1.drop i=ds1[i]::ds1.drop (i+1):=bU hlt;by_cases hlt2:i<ds2.length
  ·have ed2:ds2.drop i=ds2[i]::ds2.drop (i+1):=bU hlt2;rw[ed,ed2] at hz;unfold jW at hz;split at hz
   ·rename_i kk;obtain⟨v1,e1,rk⟩:=q1.get (aj hlt);obtain⟨v2,e2,rv⟩:=q2.get (aj hlt2);obtain⟨x,hx,rx⟩:=r1.get e1;obtain⟨y,hy,ry⟩:=r2.get e2;obtain⟨kb,rfl⟩:=vt kk rk;cases (show x=Value.ref kb from rx);refine codeAny_builtin uj ?_;rw[Around.under_plainId mW _];show wpAny _ A.in1 (pyNext (.ref z)>>=_) _ _ _;refine ab (Eh hh1 Zf L oa ob hx hy fun h' tk' T L' hT nT=>?_);refine ab (bD ?_);refine ab (wpAny_tryCatch ?_);unfold Builtin.Dict.pairItems;refine ab (wpAny_typeOf (s:={ s0 with heap:=h',toks:=tk' }) ⟨_,hT,rfl⟩ ?_);rw[show (Value.type "tuple" == Value.type "list" || Value.type "tuple" == Value.type "tuple")=true by decide];rw[if_pos rfl];refine ab (wpAny_seqItems (s:={ s0 with heap:=h',toks:=tk' }) hT rfl (aq ?_));show wpAny _ _ (holding [Value.ref kb,y] (dictSet dd (.ref kb) y)) _ _ _;refine bD ?_;have I':cT X pins σ H { s0 with heap:=h',toks:=tk' }:=I.kept (t':=tk') L'.keep;obtain⟨as,rd⟩:=R.reads I' rk (key_of kk).nb.lay _ rfl;obtain⟨od,dss,ep,d1,d2,d3,d4,d5⟩:=L'.dic;have dm:Heap.DictOfH (mj X.prog X.w) h' dd zs:=⟨od,dss,ep,d1,d2,d3,d4,fun x hx=>by
     obtain⟨q,hq,p1,p2,_⟩:=nY hp x hx;have kq:=mv hr.keys hk q hq;have rq:=hr.keyIn hq;rw[p2] at rq;rw[p1] at kq rq;exact⟨key_of kq,R.reads I' rq (key_of kq).nb.lay _ rfl⟩,d5⟩
    have pl:=hp.length;refine wpAny_dictSet_heap (s:={ s0 with heap:=h',toks:=tk' }) (knd:=mj X.prog X.w) (show A.in1.units+100<cLine by have:A.in1.units=A.units+1:=rfl;omega) ⟨key_of kk,as,rd⟩ dm (fun h2 dm2 sb=>?_) ⋯;obtain⟨le1,le2,le3,le4,le5,le6⟩:=Zf.le;obtain⟨nd1,nd2,nd3,nd4,nd5⟩:=Zf.nd;have kp:∀c o,c≠dd->h'.get? c=some o->h2.get? c=some o:=fun c o n e=>(sb.2 c n).trans e;obtain⟨o',ds',ep',g1,g2,g3,g4,_,g5⟩:=dm2;have L2':G1 X s0 z TI TO i1 i2 dd k1 k2 a b (i+1) (storedH zs ds1[i] kb y) h2:=by
     refine⟨fun c o e=>kp c o (aO (aF (aB e) le6)) (L'.keep c o e),?_,kp TI _ nd2.symm L'.ti,L'.it1.at fun o e=>kp i1 o nd4.symm e,L'.it2.at fun o e=>kp i2 o nd5.symm e,⟨o',ds',ep',g1,g2,g3,g4,g5⟩⟩;rcases L'.zst with ⟨w1,x',y',w3⟩|⟨T',bb,oT,w1,wT,n1,n2,n3,n4⟩
     ·exact .inl ⟨kp z _ nd1.symm w1,x',y',kp TO _ nd3.symm w3⟩
     ·exact .inr ⟨T',bb,oT,kp z _ nd1.symm w1,kp T' _ n4 wT,n1,n2,n3,n4⟩
    refine aq ⟨plainId_quiet mW _,?_⟩;have ec:(Value.int ((i:Int)+1) 0)=rawInt ((i+1:Nat):Int):=by unfold rawInt;rw[Int.natCast_add];rfl
    show codeAny _ A (.builtin "dict.update.loop" ⟨[.ref dd,.ref z,Value.int ((i:Int)+1) 0,.none],[]⟩) R' _;rw[ec];have pz:=wH es ds1[i] (.ref kb) v2;exact ih (i+1) h2 _ (tK kvs ds1[i] ds2[i]) (pT es ds1[i] (.ref kb) v2) _ ⋯ hlt hlt2 ⋯ (yy hk kk) (hr.put rk rv) (rG kk ry hp (mv hr.keys hk)) hz L2' hR
   ·cases hz
  ·have e2:i=ds2.length:=by omega
   have ed2:ds2.drop i=[]:=by rw[e2,JK]
   rw[ed,ed2] at hz;unfold jW at hz;cases hz;exact stop i h tk es zs (.inr ⟨by omega,by omega⟩) ⋯ hr hp L hR
end
section
variable {X:Cx}{pins:List (Addr×Obj)}{σ:St}{H:Hp}{s0:Shared}{O:List Addr}{A:Around}{a b:Addr}{k1 k2:Bool}{ds1 ds2:List D}{vs1 vs2:List V}{kvsF:List (D×D)}
theorem y6 {h:Heap}{tk:Nat}{Q:Value->Shared->Prop}{E:Value->Shared->Prop}{n:Nat}(hn:s0.heap.objs.size=n)(I:cT X pins σ H s0)(hh:A.handled=none)(hu:A.units+130<cLine)(sx:iM k1 X.K H a vs1)(sy:iM k2 X.K H b vs2)(q1:Rs X.K H O ds1 vs1)(q2:Rs X.K H O ds2 vs2)(hlen:ds1.length<=sizeLine)(hput:jW ds1 ds2 []=some kvsF)
  (hz:IsZip h (n+4) (n+2) (n+3) .none) (hTI:IsPair h (n+2) (.ref n) (.ref (n+1))) (hTO:IsPair h (n+3) .none .none) (it1:ItK k1 h n a 0) (it2:ItK k2 h (n+1) b 0) (hk:∀c o,s0.heap.get? c=some o->h.get? c=some o)
  (hQ:∀(h':Heap) (tk':Nat) (dd:Addr) (es:Es),n<=dd->Rd X.K H O kvsF es.2->(∀c o,s0.heap.get? c=some o->h'.get? c=some o)->qC dd es.1 es.2 h'->Q (.ref dd) { s0 with heap:=h',toks:=tk' }) :
  wpAny (model X.prog X.w) A (call (.type "dict") [.ref (n+4)]) Q E { s0 with heap:=h,toks:=tk }:=by
 have zlt:n+4<h.objs.size:=aB hz;refine callType_codes xF (sX _) F.entry_dict_init (vS (s:={ s0 with heap:=h,toks:=tk }) _ (Q₁:=fun obj s₁=>obj=.ref h.objs.size/\s₁={ s0 with heap:=h.push tE,toks:=tk }) ⟨rfl,rfl⟩) fun obj s₁ zz=>?_;obtain ⟨e1,e2⟩:=zz;subst e1 e2;have hD:(h.push tE).get? h.objs.size=some tE:=aD _ rfl;have hTd:Shared.TypeIs { s0 with heap:=h.push tE,toks:=tk } (.ref h.objs.size) "dict" := ⟨_,hD,rfl⟩;refine⟨hTd,F.args_dict_init_2 _ _,?_⟩;have hz':IsZip (h.push tE) (n+4) (n+2) (n+3) .none:=ae _ hz;have hTz:Shared.TypeIs { s0 with heap:=h.push tE,toks:=tk } (.ref (n+4)) "zip" := ⟨_,hz',rfl⟩;unfold Builtin.«dict.__init__»;refine ab ?_;unfold Builtin.Dict.selfAndRest;refine ab (wpAny_notOrdered_dict hTd ?_);show wpAny _ _ (pure (h.objs.size,[Value.ref (n+4)])) _ _ _;refine aq ?_;show wpAny _ _ (Builtin.Dict.updateFrom "dict.__init__" h.objs.size (.ref (n+4)) [] .none) _ _ _;unfold Builtin.Dict.updateFrom;refine ab (wpAny_typeOf hTz ?_);rw[show (Value.type "zip" != Value.type "dict")=true by decide];rw[if_pos rfl];refine ab (L2.zip_nokeys (s:={ s0 with heap:=h.push tE,toks:=tk }) hz' hh fun h2 tk2 kp=>?_);rw[show (Option.isNone (none:Option Value))=true from rfl,if_pos rfl];refine ab (wpAny_rule ?_);have kp':∀c o,(h.push tE).get? c=some o->h2.get? c=some o:=kp;refine ab (wpAny_pyIter_zip (s:={ s0 with heap:=h2,toks:=tk2 }) (kp' _ _ hz') ?_);have up:∀c o,h.get? c=some o->h2.get? c=some o:=fun c o e=>kp' c o (ae _ e);refine aq ⟨plainId_quiet mW _,?_⟩;have Zf:Io s0.heap.objs.size (n+4) (n+2) (n+3) n (n+1) h.objs.size:=by
  rw[hn];have t1:n+3<h.objs.size:=aB hTO;refine⟨⟨by simp,by simp,by simp,by simp,by simp,by simp,by simp,by simp,by simp,by simp⟩,⟨bQ _ _,bQ _ _,bQ _ _,aC _,bQ _ _,by omega⟩,bj zlt,bj (show n+2<h.objs.size by omega),bj t1,bj (show n<h.objs.size by omega),bj (show n+1<h.objs.size by omega)⟩
 have L:G1 X s0 (n+4) (n+2) (n+3) n (n+1) h.objs.size k1 k2 a b 0 [] h2:=⟨fun c o e=>up c o (hk c o e),.inl ⟨up _ _ hz,_,_,up _ _ hTO⟩,up _ _ hTI,it1.at fun o e=>up n o e,it2.at fun o e=>up (n+1) o e,⟨tE,#[],0,kp' _ _ hD,⟨rfl,rfl,rfl⟩,rfl,rfl,List.nodup_nil⟩⟩;refine Bl (A:=A.in1) I hh (show A.in1.units+120<cLine by have:A.in1.units=A.units+1:=rfl;omega) Zf sx sy q1 q2 hlen ds1.length 0 h2 tk2 [] [] [] ⋯ (bw _) (bw _) (bw _) rfl .nil .nil (by rw[List.drop_zero,List.drop_zero];exact hput) L fun h' tk' esF zsF rd pr le k0 dc=>?_;obtain⟨od,ds,ep,g1,g2,g3,g4,g5⟩:=dc;refine⟨rfl,hQ h' tk' h.objs.size (od,esF) ⋯ rd k0 ⟨bo le hlen,?_,g1,zsF,pr,ds,ep,g2,g3,g4,g5⟩⟩;exact beq_eq_false_iff_ne.mpr (Ne.symm (aO (aF (Nat.lt_trans (by decide) (I.mod.glob.keeps I.bk).lt) ⋯)))
end
section
variable {X:Cx}{e1 e2:Expr}{ta:TA}{p p1 p2 pos:Pos}{f g:AD}
noncomputable def Jk (K:Fg)(ta:TA):TE:=fun σ H Q=>ta σ H fun vs H1=>∃(k1 k2:Bool) (a b:Addr) (vs1 vs2:List V) (ds1 ds2:List D) (O:List Addr) (kvs:List (D×D)),vs=[.ref a,.ref b]/\iM k1 K H1 a vs1/\iM k2 K H1 b vs2/\Rs K H1 O ds1 vs1/\Rs K H1 O ds2 vs2/\ds1.length<=sizeLine/\jW ds1 ds2 []=some kvs ∧
 ∀(l:Addr) (es:Es),H1 l=none->Rd K H1 O kvs es.2->Q (.ref l) (eA H1 l (nI l es))
theorem BL (hu:X.A.units+200<cLine)(hc:X.calm=true)(hgD:L2.Gl X "dict")(hmD:X.mg "dict" = none)(hgZ:L2.Gl X "zip")(hmZ:X.mg "zip" = none)(ha:PA X [e1,e2] ta)(hs:starEach [e1,e2] X.env=[(false,eval e1 X.env),(false,eval e2 X.env)]:=by rfl)(hs1:starEach [e2] X.env=[(false,eval e2 X.env)]:=by rfl)
  (hs2:starEach [.Call (.Name "zip" p1) [e1,e2] [] p2] X.env=[(false,eval (.Call (.Name "zip" p1) [e1,e2] [] p2) X.env)]:=by rfl):PE X (.Call (.Name "dict" p) [.Call (.Name "zip" p1) [e1,e2] [] p2] [] pos) (Jk X.K ta):=by
 intro pins s σ H Q I h;refine wpAny_Call_Name_kw (L2.ld_blt I hgD hmD PyProof.Rows.boot_dict (PyProof.Rows.callWith_type1 ?_ hs2 rfl));rw[hs2];refine Calls.spliced_cons (wpAny_Call_Name_kw (L2.ld_blt I hgZ hmZ PyProof.Rows.boot_zip (PyProof.Rows.callWith_type1 (L2.thn (ha p2 pins s σ H _ I h) fun us s1 z=>?_) (by rw[hs,hs1]) (by rw[hs1];rfl))));obtain⟨vs,H1,I1,r1,k1,k2,a,b,vs1,vs2,ds1,ds2,O,kvs,e,sx,sy,q1,q2,hl,hp,q⟩:=z;subst e;obtain⟨u,v,rfl,ru,rv⟩:=cY.two r1;cases ru;cases rv;obtain⟨its,_,oa,_⟩:=I1.seqK sx;obtain⟨jts,_,ob,_⟩:=I1.seqK sy;refine L2.call_zipK oa ob fun h' hz hTI hTO it1 it2 hk=>Calls.spliced_nil ?_;refine y6 (s0:=s1) (h:=h') (tk:=s1.toks) rfl I1 (I1.ok.hd hc) ⋯ sx sy q1 q2 hl hp hz hTI hTO it1 it2 hk fun h2 tk2 dd es le rd k0 di=>?_;have fr:H1 dd=none:=I1.hok.fresh le;exact⟨.ref dd,_,I1.laid (t':=tk2) k0 le (CO di),rfl,q dd es fr rd⟩
theorem CL (hu:X.A.units+200<cLine)(hc:X.calm=true)(hmD:X.mg "dict" = none)(hmZ:X.mg "zip" = none)(h1:DQ X e1 f)(h2:DQ X e2 g)(hgD:L2.Gl X "dict" := by rfl)(hgZ:L2.Gl X "zip" := by rfl)(hs:starEach [e1,e2] X.env=[(false,eval e1 X.env),(false,eval e2 X.env)]:=by rfl)(hs1:starEach [e2] X.env=[(false,eval e2 X.env)]:=by rfl)
  (hs2:starEach [.Call (.Name "zip" p1) [e1,e2] [] p2] X.env=[(false,eval (.Call (.Name "zip" p1) [e1,e2] [] p2) X.env)]:=by rfl):DE X (.Call (.Name "dict" p) [.Call (.Name "zip" p1) [e1,e2] [] p2] [] pos) (yU f g) :=
 (BL hu hc hgD hmD hgZ hmZ (L2.pa_cons h1 (L2.pa_cons h2 L2.pa_nil (by rw[hs1];rfl)) (by rw[hs,hs1])) hs hs1 hs2).imp fun σ H Q zz=>by
  obtain ⟨ρ,O,M,lad,res,hE,hf,k⟩:=zz;unfold yU at hf;simp only[bA] at hf;obtain⟨xs,hx,ys,hy,hf⟩:=hf;split at hf
  ·rename_i hl;rw[Option.map_eq_some_iff] at hf;obtain⟨kvs,hz,rfl⟩:=hf;refine⟨ρ,O,M,lad,xs,hE,hx,fun v H1 k1 s1 ⟨a,vs,ev,qs1,g1⟩=>⟨ρ,O,M,lad,ys,hE.same s1,hy,fun u H2 k2 s2 ⟨b,us,eu,qs2,g2⟩=>?_⟩⟩;subst ev eu;have i2:=iZ.id M O H2 ((hE.same s1).same s2).sub;refine⟨k1,k2,a,b,vs,us,xs,ys,O,kvs,rfl,g1 _ _ (i2.back s2),g2 _ _ i2,qs1.same s2,qs2,hl,hz,fun l es hl' rd=>?_⟩;have s3:dq H2 (eA H2 l (nI l es)):=fun c o e=>by rw[cG (cI e hl')];exact e
   have nO:l∉O:=fun z=>((hE.same s1).same s2).ne l z hl';exact k _ _ ((s1.trans s2).trans s3) (.of (.dict cO nO (rd.same s3)))
  ·cases hf
theorem A3 {q:Nat}{sts:List Stmt}{F:SD}{fe:ED}(i:Nat)(h:G8 q X sts F fe):G8 q X sts (kH i F) fe:=fun B H₀ M₀ lad hp=>(h B H₀ M₀ lad hp).imp fun E σ H ⟨ρ,ρ',r,hR,hF,hf,k⟩=>⟨_,ρ',r,hR.share i,hF,hf,k⟩
end
open PySem
def FH (K:Fg)(x:Str)(st:Stmt):Prop:=∃(f:Addr) (oc:Value) (od:Option Addr) (kV dc pm:Value) (an:Option Addr) (cd ct:Value) (sl:Array (Option Value)),PySem.W.nsIn K mainGlobals x=some (some (.ref f)) ∧
 K.lookup f=some ⟨oc,od,.func (PySem.W.fnOf x x (L2.defArgs st) (L2.defBody st) (L2.defScope st) .none kV dc pm an cd ct),sl⟩/\PySem.W.codeIn K cd x=true/\PySem.W.keepIn K (.ref f)=true
def Fx (x:Str)(st:Stmt)(ps:List Str):Prop:=∀(kV doc pm:Value) (an:Option Addr) (cdv ct:Value) (us:List Value),us.length=ps.length->bindArgs (PySem.W.fnOf x x (L2.defArgs st) (L2.defBody st) (L2.defScope st) .none kV doc pm an cdv ct) ⟨us,[]⟩=pure (ps.zip us)
section
variable {K:Fg}{mg:Str->Option Value}{h:Heap}{x:Str}{st:Stmt}{ps:List Str}{k n1:Nat}{F:FD}{G':MD}
theorem gP (P:Program)(w:World)(base:Heap)(X:K.In h)(G:h.Ns mainGlobals mg)(H:FH K x st)(hb:Fx x st ps)(ok:∀f fd,L2.Fun K x x st f fd->L2.FnOk P w K mg base L2.CX0 k f fd ps (spD K F)):fo P w K mg base k x ps F:=by
 obtain⟨f,oc,od,kV,dc,pm,an,cd,ct,sl,a,l,c,kp⟩:=H;have Fu:=L2.fun_mk (st:=st) l c kp;exact⟨_,_,ok _ _ Fu,PySem.W.mg_of X G a,kp,Fu.binds (ps:=ps) hb⟩
theorem Ca (P:Program)(w:World)(base:Heap)(X:K.In h)(G:h.Ns mainGlobals mg)(H:FH K x st)(hb:Fx x st ps)(ok:∀f fd,L2.Fun K x x st f fd->L2.FnOk P w K mg base L2.CX0 k f fd ps (FU K n1 G')):qB P w K mg base k x ps n1 G':=by
 obtain⟨f,oc,od,kV,dc,pm,an,cd,ct,sl,a,l,c,kp⟩:=H;have Fu:=L2.fun_mk (st:=st) l c kp;exact⟨_,_,ok _ _ Fu,PySem.W.mg_of X G a,kp,Fu.binds (ps:=ps) hb⟩
end
end DL
local macro_rules | `(tactic| trivial) => `(tactic| first | (intro _ _ _ _ _ _ us hl; first | (obtain ⟨_, e⟩ := DL.len1 hl; subst e; rfl) | (obtain ⟨_, _, e⟩ := DL.len2 hl; subst e; rfl) | (obtain ⟨_, _, _, e⟩ := DL.len3 hl; subst e; rfl) | (obtain ⟨_, _, _, _, e⟩ := DL.len4 hl; subst e; rfl) | (obtain ⟨_, _, _, _, _, e⟩ := DL.len5 hl; subst e; rfl) | (obtain ⟨_, _, _, _, _, _, e⟩ := DL.len6 hl; subst e; rfl)) | fail)
local macro_rules | `(tactic| trivial) => `(tactic| first | exact ⟨_, _, _, _, _, _, _, _, _, _, by k_is, by k_is, by k_is, by k_is⟩ | fail)
namespace DL
noncomputable def xG:C2
 |.none,.none=>some true
 |.tuple _,.none=>some false
 |_,_=>none
noncomputable def uz:C2
 |.none,.none=>some false
 |.tuple _,.none=>some true
 |_,_=>none
open PySem PySem.Spec PySem.SeqAt PyProof.Rows
open L2 (V Hp HO VK TE TT TA TS TI TG Cx cT PE PT PA PS PSs PI PG jw jT dq eA cO cG cI cY dX EP TP AP SP jU It iM)
section
variable {X:Cx}
theorem BR.non {K:Fg}{H:Hp}{O:List Addr}{v:V}(h:BR K H O .none v):v=.non:=by
 rcases h with h|⟨a,ds,vs,e,_⟩|⟨a,ds,vs,e,_⟩
 ·cases h;rfl
 ·cases e
 ·cases e
theorem EH {x y:D}{k:Bool}(h:xG x y=some k):y=.none/\(x=.none/\k=true\/(∃ds,x=.tuple ds)/\k=false):=by
 unfold xG at h;split at h
 ·cases h;exact⟨rfl,.inl ⟨rfl,rfl⟩⟩
 ·cases h;exact⟨rfl,.inr ⟨⟨_,rfl⟩,rfl⟩⟩
 ·cases h
theorem C0 {x y:D}{k:Bool}(h:uz x y=some k):y=.none/\(x=.none/\k=false\/(∃ds,x=.tuple ds)/\k=true):=by
 unfold uz at h;split at h
 ·cases h;exact⟨rfl,.inl ⟨rfl,rfl⟩⟩
 ·cases h;exact⟨rfl,.inr ⟨⟨_,rfl⟩,rfl⟩⟩
 ·cases h
theorem CZ:CD X (fun x y H Q=>y=.non/\Q (.bl (decide (x=.non))) H) xG:=by
 intro x y vx vy H O k Q hx hy hf q;obtain⟨rfl,⟨rfl,rfl⟩|⟨⟨ds,rfl⟩,rfl⟩⟩:=EH hf
 ·cases hy.non;cases hx.non;exact⟨rfl,q⟩
 ·cases hy.non;obtain⟨a,vs,rfl,_⟩:=hx.tuple;exact⟨rfl,q⟩
theorem EG:CD X (fun x y H Q=>y=.non/\Q (.bl (!decide (x=.non))) H) uz:=by
 intro x y vx vy H O k Q hx hy hf q;obtain⟨rfl,⟨rfl,rfl⟩|⟨⟨ds,rfl⟩,rfl⟩⟩:=C0 hf
 ·cases hy.non;cases hx.non;exact⟨rfl,q⟩
 ·cases hy.non;obtain⟨a,vs,rfl,_⟩:=hx.tuple;exact⟨rfl,q⟩
end
end DL
namespace Lw
open PySem DL
noncomputable section
noncomputable def mP:SD :=
 (cH (cJ 3 (d2 nv (cC (d2 eZ (cC (d2 nZ (cc 0) (cc 2))) (cC (dC (.int 7919))))) (cC (dC (.int 2147483647)))))
  (cH (cJ 3 (d2 nv (cC (d2 nZ (cC (d2 nv (cC (d2 nZ (cc 3) (cc 3))) (cC (dC (.int 2147483647))))) (cC (dC (.int 40692))))) (cC (dC (.int 2147483399)))))
  (cJ 1 (d2 eZ (cC (d2 nZ (cc 1) (cC (d2 BU (cC (dC (.int 10))) (cC (dC (.int 9))))))) (cC (d2 yn (cc 3) (cC (dC (.int 7)))))))))
noncomputable def sE:SD :=
 (cH (cJ 1 (dC (.int 0)))
  (cH (eh (da (fF (df (b7 (dC (.int 48271)) (b7 (dC (.int 69621)) (b7 (dC (.int 39373)) (b7 (dC (.int 44488)) cy))))))) (gN 2) mP)
  (dw (cj 1))))
noncomputable def iV:FD:=ki 1 3 sE
noncomputable def oB:SD :=
 (cH (il (de (cc 1) [(G6,(cC (d1 fK (cc 0))))]) (dw (cB iV (b7 (d2 cN (cc 0) (cc 1)) cy))) fk)
  (dw (cB iV (b7 (dC (.int 0)) cy))))
noncomputable def cK:FD:=ki 2 0 oB
noncomputable def mR:SD :=
 (cJ 3 (d2 nv (cC (d2 nZ (cc 3) (cC (dC (.int 48271))))) (cC (dC (.int 2147483647)))))
noncomputable def sF:SD :=
 (cH (cJ 3 (d2 nv (cC (d2 eZ (cC (d2 eZ (cC (d2 nv (cc 0) (cC (dC (.int 2147483629))))) (cC (dC (.int 1))))) (cC (d2 nZ (cc 1) (cC (dC (.int 1000003))))))) (cC (dC (.int 2147483647)))))
  (cH (eh (cS (dC (.int 3))) (gN 4) mR)
  (dw (d2 nv (cC (d2 yn (cc 3) (cC (dC (.int 97))))) (cc 2)))))
noncomputable def dk:FD:=ki 3 2 sF
noncomputable def kE:SD :=
 (cH (cJ 7 (cB dk (b7 (cB cK (b7 (cj 0) (b7 (d2 eZ (cc 1) (cC (dC (.int 1)))) cy))) (b7 (cj 6) (b7 (d2 BS (cc 4) (cC (dC (.int 1)))) cy)))))
  (cH (cJ 8 (d2 eZ (cC (d2 eZ (cc 7) (cC (dC (.int 1))))) (cC (cB dk (b7 (cB cK (b7 (cj 0) (b7 (d2 eZ (cc 1) (cC (dC (.int 2)))) cy))) (b7 (cj 6) (b7 (d2 BS (cC (d2 BS (cc 4) (cC (dC (.int 1))))) (cc 7)) cy)))))))
  (ik 5 (eK (b7 (cj 7) (b7 (cj 8) cy))))))
noncomputable def oz:SD :=
 (cH (cJ 4 (d2 eZ (cC (dC (.int 1))) (cC (d2 nv (cC (cB cK (b7 (cj 0) (b7 (cj 1) cy)))) (cc 2)))))
  (cH (cJ 5 (df cy))
  (cH (il (de (cc 4) [(A7,(cC (dC (.int 1))))]) (eh (cS (d2 nv (cC (d2 yn (cC (cB cK (b7 (cj 0) (b7 (cj 1) cy)))) (cc 2))) (cC (d2 eZ (cc 3) (cC (dC (.int 1))))))) (gN 6) kE) fk)
  (dw (eK (b7 (cj 4) (b7 (d1 dg (cc 5)) cy)))))))
noncomputable def fj:FD:=ki 4 5 oz
noncomputable def iH:SD :=
 (il (de (cC (d2 cN (cc 9) (cC (dC (.int 0))))) [(nA,(cc 7))]) (ik 5 (eK (b7 (d2 eZ (cc 6) (cC (eK (b7 (cj 8) cy)))) (b7 (d2 cN (cc 9) (cC (dC (.int 1)))) cy)))) fk)
noncomputable def jS:SD :=
 (cH (il (de (cc 7) [(nA,(cc 2))]) (ik 3 (cj 6)) fk)
  (eh (fO (fF (d2 cN (cc 0) (cC (dC (.int 1)))))) (gT [(gN 8),(gN 9)]) iH))
noncomputable def jR:SD :=
 (cH (cJ 5 (df cy))
  (cH (eh (da (dY 4)) (gT [(gN 6),(gN 7)]) jS)
  (kH 5 (cJ 4 (cj 5)))))
noncomputable def jI:TD :=
 (de (cc 4) [(uC,(cC (df cy)))])
noncomputable def mM:SD :=
 (cH (cJ 3 (df cy))
  (cH (gf 4 (cJ 4 (df (b7 (eK (b7 (eK cy) (b7 (cj 1) cy))) cy))))
  (cH (kG jI jR)
  (lT 3))))
noncomputable def fR:FD:=ki 3 7 mM
noncomputable def ie:SD :=
 (il (qD (de (cc 6) [(nA,(cc 3))]) (de (cC (cB fR (b7 (cj 0) (b7 (d2 cN (cc 1) (cc 5)) (b7 (cj 4) cy))))) [(nA,(cC (df cy)))])) (dw (dC (.bool false))) fk)
noncomputable def oA:SD :=
 (cH (eh (da (dY 2)) (gT [(gN 5),(gN 6)]) ie)
  (dw (dC (.bool true))))
noncomputable def fI:FD:=ki 5 2 oA
noncomputable def iG:SD :=
 (il (xY (gv (lX (cB fI (b7 (cj 3) (b7 (cj 4) (b7 (d2 cN (cc 2) (cC (dC (.int 1)))) (b7 (cj 5) (b7 (cj 6) cy))))))))) (cJ 6 (d2 nv (cC (d2 eZ (cc 6) (cC (dC (.int 1))))) (cC (d2 cN (cc 3) (cC (dC (.int 0))))))) fk)
noncomputable def iF:SD :=
 (cH (cJ 6 (cB dk (b7 (cB cK (b7 (cj 0) (b7 (cj 1) cy))) (b7 (cj 5) (b7 (d2 cN (cc 3) (cC (dC (.int 0)))) cy)))))
  (cH (eh (cS (d2 cN (cc 3) (cC (dC (.int 0))))) (gN 7) iG)
  (cH (il (xY (gv (lX (cB fI (b7 (cj 3) (b7 (cj 4) (b7 (d2 cN (cc 2) (cC (dC (.int 1)))) (b7 (cj 5) (b7 (cj 6) cy))))))))) (dw (eK (b7 (d1 dg (cC (qx (Fd (df (b7 (cj 6) cy))) (cC (d2 cN (cc 2) (cC (dC (.int 0)))))))) (b7 (d1 dg (cC (qx (Fd (df (b7 (eK cy) cy))) (cC (d1 fK (cC (d2 cN (cc 2) (cC (dC (.int 1)))))))))) cy)))) fk)
  (ik 4 (cj 6)))))
noncomputable def jQ:SD :=
 (cH (gf 11 (cJ 11 (cB fR (b7 (cj 3) (b7 (d2 cN (cc 4) (cC (d2 cN (cc 10) (cC (dC (.int 0)))))) (b7 (d2 cN (cc 4) (cC (d2 cN (cc 10) (cC (dC (.int 1)))))) cy))))))
  (ik 8 (d2 cN (cc 11) (cC (cB dk (b7 (cB cK (b7 (cj 0) (b7 (d2 eZ (cc 1) (cC (dC (.int 1)))) cy))) (b7 (cj 9) (b7 (d1 fK (cc 11)) cy))))))))
noncomputable def mL:SD :=
 (cH (cJ 4 (df cy))
  (cH (eh (cS (d2 cN (cc 2) (cC (dC (.int 0))))) (gN 5) iF)
  (cH (cJ 8 (df cy))
  (cH (eh (fO (fF (d2 cN (cc 2) (cC (dC (.int 1)))))) (gT [(gN 9),(gN 10)]) jQ)
  (dw (eK (b7 (d1 dg (cc 4)) (b7 (d1 dg (cc 8)) cy))))))))
noncomputable def gu:FD:=ki 4 8 mL
noncomputable def qw:SD :=
 (dw (tL (d1 (jA "int") (cc 0)) (EF (d1 (jA "bool") (cc 0)))))
noncomputable def gq:FD:=ki 1 0 qw
noncomputable def gX:SD :=
 (il (sY (gv (lX (cB gq (b7 (cj 5) cy)))) (gv (de (cC (dC (.int 0))) [(Im,(cc 5)),(G6,(cC (d2 cN (cC (d2 cN (cc 2) (cC (dC (.int 0))))) (cc 4))))]))) (dw (dC (.bool false))) fk)
noncomputable def gW:SD :=
 (cH (il (sY (gv (lX (d1 (jA "tuple") (cC (d2 cN (cc 3) (cc 4)))))) (de (cC (d1 fK (cC (d2 cN (cc 3) (cc 4))))) [(uC,(cC (d2 cN (cC (d2 cN (cc 1) (cC (dC (.int 0))))) (cc 4))))])) (dw (dC (.bool false))) fk)
  (eh (da (fF (d2 cN (cc 3) (cc 4)))) (gN 5) gX))
noncomputable def gU:SD :=
 (cH (cJ 8 (d2 cN (cC (d2 cN (cc 3) (cC (d2 cN (cc 7) (cC (dC (.int 1))))))) (cC (d2 cN (cC (d2 cN (cC (d2 cN (cc 1) (cC (dC (.int 1))))) (cc 6))) (cc 5)))))
  (cH (cJ 9 (d2 cN (cC (d2 cN (cc 3) (cC (d2 cN (cc 7) (cC (dC (.int 0))))))) (cc 5)))
  (il (de (cc 8) [(uC,(cC (d2 cN (cC (d2 cN (cC (d2 cN (cc 2) (cC (dC (.int 1))))) (cc 6))) (cc 9))))]) (dw (dC (.bool false))) fk)))
noncomputable def gS:SD :=
 (eh (cS (d2 cN (cC (d2 cN (cc 1) (cC (dC (.int 0))))) (cC (d2 cN (cc 7) (cC (dC (.int 0))))))) (gN 5) gU)
noncomputable def lN:SD :=
 (cH (il (sY (gv (lX (d1 (jA "tuple") (cc 3)))) (de (cC (d1 fK (cc 3))) [(uC,(cC (d2 cN (cc 0) (cC (dC (.int 0))))))])) (dw (dC (.bool false))) fk)
  (cH (eh (cS (d2 cN (cc 0) (cC (dC (.int 0))))) (gN 4) gW)
  (cH (eh (fO (fF (d2 cN (cc 0) (cC (dC (.int 1)))))) (gT [(gN 6),(gN 7)]) gS)
  (dw (dC (.bool true))))))
noncomputable def gH:FD:=ki 4 6 lN
noncomputable def jd:ED :=
 (d2 eZ (cc 1) (cC (eK (b7 (cj 0) cy))))
noncomputable def kN:SD :=
 (pS 4 (dD (cS (cj 1)) 1 [5] (gN 0) fU jd))
noncomputable def jg:SD :=
 (cH (cJ 4 (df cy))
  (cH (eh (da (dY 2)) (gN 5) kN)
  (kH 4 (cJ 2 (cj 4)))))
noncomputable def lL:SD :=
 (cH (gf 2 (cJ 2 (df (b7 (eK cy) cy))))
  (cH (eh (cS (cj 0)) (gN 3) jg)
  (dw (cj 2))))
noncomputable def gG:FD:=ki 2 4 lL
noncomputable def ku:ED :=
 (d2 eZ (cc 1) (cC (eK (b7 (cj 0) cy))))
noncomputable def mQ:SD :=
 (pS 5 (dD (da (fF (cB gG (b7 (d2 cN (cC (d2 cN (cc 1) (cC (dC (.int 0))))) (cc 4)) (b7 (d2 cN (cC (d2 cN (cc 2) (cC (dC (.int 0))))) (cc 4)) cy))))) 1 [6] (gN 0) fU ku))
noncomputable def kD:SD :=
 (cH (cJ 5 (df cy))
  (cH (eh (da (dY 3)) (gN 6) mQ)
  (kH 5 (cJ 3 (cj 5)))))
noncomputable def qv:ED :=
 (cj 0)
noncomputable def ou:SD :=
 (cH (gf 3 (cJ 3 (df (b7 (eK cy) cy))))
  (cH (eh (cS (d2 cN (cc 0) (cC (dC (.int 0))))) (gN 4) kD)
  (dw (dD (da (dY 3)) 1 [0,1,2] (gN 0) (lX (cB gH (b7 (cj 1) (b7 (cj 2) (b7 (cj 3) (b7 (cj 0) cy)))))) qv))))
noncomputable def iX:FD:=ki 3 4 ou
noncomputable def jP:SD :=
 (cJ 3 (d2 nZ (cc 3) (cC (d2 cN (cC (d2 cN (cc 2) (cC (dC (.int 0))))) (cc 4)))))
noncomputable def jO:SD :=
 (eh (cS (d2 cN (cC (d2 cN (cc 1) (cC (dC (.int 0))))) (cc 4))) (gN 5) jP)
noncomputable def mK:SD :=
 (cH (cJ 3 (dC (.int 1)))
  (cH (eh (cS (d2 cN (cc 0) (cC (dC (.int 0))))) (gN 4) jO)
  (dw (cj 3))))
noncomputable def ig:FD:=ki 3 3 mK
noncomputable def lM:SD :=
 (cH (il (de (cC (cB ig (b7 (cj 0) (b7 (cj 1) (b7 (cj 2) cy))))) [(A7,(cC (dC (.int 200))))]) (dw (dC .none)) fk)
  (cH (gf 4 (cJ 4 (cB iX (b7 (cj 0) (b7 (cj 1) (b7 (cj 2) cy))))))
  (cH (il (de (cc 4) [(nA,(cC (df cy)))]) (dw (dC .none)) fk)
  (dw (d2 cN (cc 4) (cC (d2 nv (cc 3) (cC (d1 fK (cc 4))))))))))
noncomputable def dB:FD:=ki 4 1 lM
noncomputable def iS:ED :=
 (eK (b7 (cj 1) (b7 (cj 2) (b7 (cj 0) cy))))
noncomputable def gE:SD :=
 (pS 2 (dD (cS (d2 cN (cC (d2 cN (cc 1) (cC (dC (.int 0))))) (cc 3))) 1 [3,5] (gN 0) fU iS))
noncomputable def gD:SD :=
 (eh (da (dY 4)) (gN 5) gE)
noncomputable def jE:SD :=
 (cH (cJ 2 (df cy))
  (cH (eh (fO (dY 0)) (gT [(gN 3),(gN 4)]) gD)
  (lT 2)))
noncomputable def eR:FD:=ki 2 4 jE
noncomputable def sG:SD :=
 (cH (il (de (cC (d1 fK (cc 2))) [(nA,(cC (dC (.int 0))))]) (dw (cj 1)) fk)
  (cH (cJ 3 (d2 cN (cC (d2 cN (cc 0) (cC (dC (.int 1))))) (cC (d2 cN (cc 2) (cC (d1 Gg (cC (dC (.int 1)))))))))
  (dw (d2 cN (cc 3) (cC (dC (.int 1)))))))
noncomputable def fX:FD:=ki 3 1 sG
noncomputable def gR:ED :=
 (d2 eZ (cc 2) (cC (eK (b7 (cj 0) cy))))
noncomputable def gc:SD :=
 (cH (cJ 5 (cB fX (b7 (cj 0) (b7 (cj 1) (b7 (cj 4) cy)))))
  (pS 3 (dD (fO (fF (d2 cN (cc 0) (cC (dC (.int 1)))))) 2 [4,5] (gT [(gN 0),(gN 1)]) (de (cC (d2 cN (cc 1) (cC (dC (.int 0))))) [(nA,(cc 3))]) gR)))
noncomputable def lK:SD :=
 (cH (cJ 3 (df cy))
  (cH (eh (da (dY 2)) (gN 4) gc)
  (lT 3)))
noncomputable def iL:FD:=ki 3 3 lK
noncomputable def kX:ED :=
 (cj 0)
noncomputable def pI:SD :=
 (cH (pS 3 (dD (da (dY 4)) 1 [2,0,1] (gN 0) (de (cC (cB fX (b7 (cj 2) (b7 (cj 3) (b7 (cj 0) cy))))) [(nA,(cc 1))]) kX))
  (gf 4 (cJ 4 (cB iL (b7 (cj 0) (b7 (cj 1) (b7 (cj 4) cy)))))))
noncomputable def oJ:TD :=
 (de (cC (d1 fK (cc 4))) [(A7,(cC (dC (.int 0))))])
noncomputable def vP:SD :=
 (cH (cJ 3 (df cy))
  (cH (gf 4 (cJ 4 (df (b7 (eK cy) cy))))
  (cH (kG oJ pI)
  (lT 3))))
noncomputable def nr:FD:=ki 3 2 vP
noncomputable def kf:SD :=
 (cH (qp 0 (cj 1) (d2 cN (mT 0) (cC (d2 cN (mT 0) (cc 1)))))
  (cJ 1 (d2 cN (mT 0) (cc 1))))
noncomputable def jZ:TD :=
 (de (cC (d2 cN (mT 0) (cc 1))) [(uC,(cc 1))])
noncomputable def qg:SD :=
 (cH (kG jZ kf)
  fk)
noncomputable def pK:ED:=(cj 1)
noncomputable def eP:MD:=GG 2 0 0 qg pK
noncomputable def jt:SD :=
 (cH (j5 1 eP (b7 (cj 4) cy) 5)
  (il (de (cc 5) [(nA,(cc 4))]) (cH (ik 2 (cj 3))
  (cJ 3 (d2 eZ (cc 3) (cC (dC (.int 1)))))) (ik 2 (d2 cN (cc 2) (cc 5)))))
noncomputable def om:SD :=
 (cH (cJ 2 (df cy))
  (cH (cJ 3 (dC (.int 0)))
  (cH (wB 1 (cS (d1 fK (cc 0))) (gN 4) jt)
  (kH 2 fk))))
noncomputable def k7:ED:=(yU (dY 0) (dY 2))
noncomputable def g9:MD:=GG 2 1 4 om k7
noncomputable def CP:SD :=
 (cH (j5 0 eP (b7 (cj 1) cy) 3)
  (cH (j5 0 eP (b7 (cj 2) cy) 4)
  (qp 0 (d2 ym (cc 3) (cc 4)) (d2 yl (cc 3) (cc 4)))))
noncomputable def EX:ED:=(dC .none)
noncomputable def uO:MD:=GG 3 0 2 CP EX
noncomputable def pH:SD :=
 (va 5 (cj 7) (cj 6))
noncomputable def qZ:SD :=
 (vb 8 uO (b7 (d2 qE (cc 5) (cC (eK (b7 (d2 cN (cc 9) (cC (dC (.int 0)))) (b7 (d2 eZ (cc 10) (cc 12)) (b7 (cj 13) cy)))))) (b7 (d2 qE (cc 5) (cC (eK (b7 (d2 cN (cc 9) (cC (dC (.int 1)))) (b7 (cj 12) (b7 (cj 14) cy)))))) cy)))
noncomputable def qY:SD :=
 (eh (fO (dY 11)) (gT [(gN 13),(gN 14)]) qZ)
noncomputable def qX:SD :=
 (eh (da (fF (d2 cN (cc 3) (cC (d2 cN (cc 9) (cC (dC (.int 1)))))))) (gN 12) qY)
noncomputable def yR:SD :=
 (cH (rE 5)
  (cH (eh (fO (dY 4)) (gT [(gN 6),(gN 7)]) pH)
  (cH (cJ 8 (sI (cS (d1 fK (cc 4)))))
  (cH (eh (xp (fF (d2 cN (cc 0) (cC (dC (.int 1))))) (fF (d2 cN (cc 1) (cC (dC (.int 1))))) (fF (d2 cN (cc 2) (cC (dC (.int 1)))))) (gT [(gN 9),(gN 10),(gN 11)]) qX)
  (lT 8)))))
noncomputable def oF:FD:=ki 5 10 yR
noncomputable def jc:ED :=
 (cB nr (b7 (cj 1) (b7 (cj 0) (b7 (cj 2) cy))))
noncomputable def jf:SD :=
 (cH (gf 6 (cJ 6 (dD (da (fF (d2 cN (cc 2) (cC (dC (.int 0)))))) 1 [1,5] (gN 0) fU jc)))
  (cH (gf 7 (cJ 7 (cB eR (b7 (cj 6) (b7 (cj 3) cy)))))
  (ik 4 (sJ g9 (cj 7) (cB oF (b7 (cj 0) (b7 (cj 2) (b7 (cj 3) (b7 (cj 6) (b7 (cj 7) cy))))))))))
noncomputable def lJ:SD :=
 (cH (cJ 4 (df cy))
  (cH (eh (cS (d2 cN (cc 1) (cC (dC (.int 0))))) (gN 5) jf)
  (lT 4)))
noncomputable def dF:FD:=ki 4 4 lJ
noncomputable def qW:SD :=
 (cJ 2 (d2 cN (cC (d2 cN (cC (d2 cN (cc 0) (cC (dC (.int 1))))) (cc 3))) (cc 2)))
noncomputable def yQ:SD :=
 (cH (eh (da (dY 1)) (gN 3) qW)
  (dw (cj 2)))
noncomputable def oE:FD:=ki 3 1 yQ
noncomputable def gF:SD :=
 (il (de (cc 3) [(nA,(cC (d1 fK (cc 1))))]) (ik 1 (cj 2)) fk)
noncomputable def jF:SD :=
 (cH (cJ 1 (df cy))
  (cH (eh (vB (cj 0)) (gT [(gN 2),(gN 3)]) gF)
  (lT 1)))
noncomputable def cW:FD:=ki 1 3 jF
noncomputable def mZ:ED :=
 (cB oE (b7 (cj 3) (b7 (cj 1) (b7 (d2 cN (cC (d2 cN (cc 4) (cc 0))) (cc 2)) cy))))
noncomputable def nh:SD :=
 (ik 6 (d1 dg (cC (dD (da (fF (cB cW (b7 (cj 7) cy)))) 3 [4,5] (gT [(gN 0),(gN 1),(gN 2)]) fU mZ))))
noncomputable def sC:SD :=
 (cH (cJ 6 (df cy))
  (cH (eh (da (fF (cB dF (b7 (cj 0) (b7 (cj 1) (b7 (cj 2) (b7 (cj 3) cy))))))) (gN 7) nh)
  (dw (d1 dg (cc 6)))))
noncomputable def fM:FD:=ki 6 2 sC
noncomputable def m5:ED :=
 (d2 qE (cc 3) (cC (eK (b7 (cj 0) (b7 (cj 1) (b7 (d2 cN (cC (d2 cN (cc 4) (cc 0))) (cc 2)) cy))))))
noncomputable def nq:SD :=
 (ik 6 (d1 dg (cC (dD (da (fF (cB cW (b7 (cj 8) cy)))) 3 [9,5] (gT [(gN 0),(gN 1),(gN 2)]) fU m5))))
noncomputable def sD:SD :=
 (cH (cJ 6 (df cy))
  (cH (gf 7 (cJ 7 (cB dF (b7 (cj 0) (b7 (cj 1) (b7 (cj 2) (b7 (cj 3) cy)))))))
  (cH (eh (oZ (dY 7) (fF (cB dF (b7 (cj 0) (b7 (cj 1) (b7 (cj 2) (b7 (cj 4) cy))))))) (gT [(gN 8),(gN 9)]) nq)
  (dw (d1 dg (cc 6))))))
noncomputable def jy:FD:=ki 6 4 sD
noncomputable def gk:ED :=
 (cB gq (b7 (cj 0) cy))
noncomputable def kK:SD :=
 (dw (tL (d1 (jA "tuple") (cc 0)) (d1 pZ (cC (dD (da (dY 0)) 1 [] (gN 0) fU gk)))))
noncomputable def eM:FD:=ki 1 0 kK
noncomputable def iB:ED :=
 (cB eM (b7 (cj 0) cy))
noncomputable def mN:SD :=
 (dw (tL (d1 (jA "tuple") (cc 0)) (tL (d1 pZ (cC (dD (da (dY 0)) 1 [] (gN 0) fU iB))) (sH (de (cc 0) [(nA,(cc 1))])))))
noncomputable def eo:FD:=ki 2 0 mN
noncomputable def jr:ED :=
 (cB dk (b7 (cB cK (b7 (cj 1) (b7 (cj 2) cy))) (b7 (cj 0) (b7 (d2 eZ (cc 3) (cC (dC (.int 1)))) cy))))
noncomputable def gm:SD :=
 (il (qD (de (cC (d2 cN (cc 4) (cc 5))) [(A7,(cC (dC (.int 0))))]) (de (cC (d2 cN (cc 4) (cc 6))) [(nA,(cC (dC (.int 0))))])) (DK 4 (cj 6) (dC (.int 1))) fk)
noncomputable def kv:ED :=
 (cB dk (b7 (cj 1) (b7 (d2 eZ (cC (d2 nZ (cC (dC (.int 61))) (cc 3))) (cc 0)) (b7 (d2 cN (cc 2) (cC (d2 cN (cc 4) (cC (dC (.int 1)))))) cy))))
noncomputable def ju:SD :=
 (cH (cJ 10 (cB cK (b7 (cj 0) (b7 (d2 eZ (cc 1) (cC (dC (.int 1)))) cy))))
  (ik 7 (d1 dg (cC (dD (cS (d2 cN (cc 4) (cC (d2 cN (cc 9) (cC (dC (.int 0))))))) 1 [10,4,8,9] (gN 0) fU kv)))))
noncomputable def oC:SD :=
 (cH (cJ 4 (dD (cS (d2 cN (cc 2) (cC (dC (.int 0))))) 1 [0,1,3] (gN 0) fU jr))
  (cH (eh (da (fF (d1 lx (cC (d2 cN (cc 2) (cC (dC (.int 1)))))))) (gT [(gN 5),(gN 6)]) gm)
  (cH (cJ 7 (df cy))
  (cH (eh (fO (fF (d2 cN (cc 2) (cC (dC (.int 1)))))) (gT [(gN 8),(gN 9)]) ju)
  (dw (eK (b7 (d1 dg (cc 4)) (b7 (d1 dg (cc 7)) cy))))))))
noncomputable def dM:FD:=ki 4 7 oC
noncomputable def jb:ED :=
 (d2 cN (cC (d2 cN (cc 1) (cC (dC (.int 0))))) (cc 0))
noncomputable def kJ:ED :=
 (cB oE (b7 (cj 1) (b7 (cj 2) (b7 (cj 0) cy))))
noncomputable def kM:SD :=
 (ik 4 (d1 dg (cC (dD (cS (d2 cN (cc 3) (cC (d2 cN (cc 5) (cC (dC (.int 0))))))) 1 [2,6] (gN 0) fU kJ))))
noncomputable def lI:SD :=
 (cH (cJ 3 (d1 dg (cC (dD (da (fF (d2 cN (cc 1) (cC (dC (.int 0)))))) 1 [2] (gN 0) fU jb))))
  (cH (cJ 4 (df cy))
  (cH (eh (oZ (fF (d2 cN (cc 0) (cC (dC (.int 1))))) (fF (d2 cN (cc 1) (cC (dC (.int 1)))))) (gT [(gN 5),(gN 6)]) kM)
  (dw (eK (b7 (cj 3) (b7 (d1 dg (cc 4)) cy)))))))
noncomputable def fT:FD:=ki 3 4 lI
noncomputable def ic:ED :=
 (cB eM (b7 (cj 0) cy))
noncomputable def ot:SD :=
 (cH (il (sY (gv (lX (d1 (jA "tuple") (cc 0)))) (sY (de (cC (d1 fK (cc 0))) [(uC,(cC (dC (.int 2))))]) (gv (lX (cB eM (b7 (d2 cN (cc 0) (cC (dC (.int 0)))) cy)))))) (dw (dC (.bool false))) fk)
  (cH (il (sY (gv (lX (d1 (jA "tuple") (cC (d2 cN (cc 0) (cC (dC (.int 1)))))))) (gv (lX (d1 pZ (cC (dD (da (fF (d2 cN (cc 0) (cC (dC (.int 1)))))) 1 [] (gN 0) fU ic)))))) (dw (dC (.bool false))) fk)
  (dw (sH (de (cc 0) [(nA,(cc 1))])))))
noncomputable def iW:FD:=ki 2 0 ot
noncomputable def vJ:ED :=
 (d2 cN (cc 1) (cc 0))
noncomputable def vI:ED :=
 (d1 dg (cC (dD (da (dY 0)) 1 [1] (gN 0) fU vJ)))
noncomputable def yS:SD :=
 (dw (d1 dg (cC (dD (oZ (dY 0) (dY 1)) 2 [] (gT [(gN 0),(gN 1)]) fU vI))))
noncomputable def fC:FD:=ki 2 0 yS
noncomputable def kC:SD :=
 (cJ 2 (d2 cN (cC (d2 cN (cC (d2 cN (cc 0) (cC (dC (.int 1))))) (cc 3))) (cc 2)))
noncomputable def oq:SD :=
 (cH (eh (da (dY 1)) (gN 3) kC)
  (dw (cj 2)))
noncomputable def kh:FD:=ki 3 1 oq
noncomputable def kA:ED :=
 (d2 cN (cC (d2 cN (cc 1) (cC (dC (.int 0))))) (cc 0))
noncomputable def kz:ED :=
 (cB kh (b7 (cj 1) (b7 (cj 2) (b7 (cj 0) cy))))
noncomputable def mS:SD :=
 (ik 4 (d1 dg (cC (dD (cS (d2 cN (cc 3) (cC (d2 cN (cc 5) (cC (dC (.int 0))))))) 1 [2,6] (gN 0) fU kz))))
noncomputable def oD:SD :=
 (cH (cJ 3 (d1 dg (cC (dD (da (fF (d2 cN (cc 1) (cC (dC (.int 0)))))) 1 [2] (gN 0) fU kA))))
  (cH (cJ 4 (df cy))
  (cH (eh (oZ (fF (d2 cN (cc 0) (cC (dC (.int 1))))) (fF (d2 cN (cc 1) (cC (dC (.int 1)))))) (gT [(gN 5),(gN 6)]) mS)
  (dw (eK (b7 (cj 3) (b7 (d1 dg (cc 4)) cy)))))))
noncomputable def iY:FD:=ki 3 4 oD
noncomputable def mH:ED :=
 (d2 cN (cc 1) (cc 0))
noncomputable def oo:SD :=
 (dw (d1 dg (cC (dD (da (fF (d2 cN (cc 0) (cC (dC (.int 0)))))) 1 [1] (gN 0) fU mH))))
noncomputable def gp:FD:=ki 2 0 oo
noncomputable def vK:ED :=
 (cB fT (b7 (cj 1) (b7 (cj 2) (b7 (cj 0) cy))))
noncomputable def zZ:SD :=
 (cH (cJ 1 (cB fj (b7 (cj 0) (b7 (dC (.int 0)) (b7 (dC (.int 2)) (b7 (dC (.int 2)) cy))))))
  (cH (cJ 2 (cB fj (b7 (cj 0) (b7 (dC (.int 3)) (b7 (dC (.int 3)) (b7 (dC (.int 2)) cy))))))
  (cH (cJ 3 (cB gu (b7 (cj 0) (b7 (dC (.int 6)) (b7 (cj 1) (b7 (cj 2) cy))))))
  (cH (gf 4 (cJ 4 (df (b7 (cB dM (b7 (cj 0) (b7 (dC (.int 8)) (b7 (cj 1) (b7 (dC (.int 2)) cy))))) (b7 (cB dM (b7 (cj 0) (b7 (dC (.int 10)) (b7 (cj 1) (b7 (dC (.int 2)) cy))))) cy)))))
  (cH (gf 5 (cJ 5 (df (b7 (cB dM (b7 (cj 0) (b7 (dC (.int 12)) (b7 (cj 2) (b7 (dC (.int 2)) cy))))) (b7 (cB dM (b7 (cj 0) (b7 (dC (.int 14)) (b7 (cj 2) (b7 (dC (.int 2)) cy))))) cy)))))
  (cH (gf 6 (cJ 6 (dD (da (dY 5)) 1 [1,3] (gN 0) fU vK)))
  (cH (il (gv (lX (cB iW (b7 (d2 cN (cc 6) (cC (dC (.int 0)))) (b7 (cB iY (b7 (cj 1) (b7 (cj 3) (b7 (d2 cN (cc 5) (cC (dC (.int 0)))) cy)))) cy))))) (dw (dC (.bool false))) fk)
  (cH (cJ 7 (cB dB (b7 (cj 1) (b7 (d2 cN (cc 4) (cC (dC (.int 0)))) (b7 (d2 cN (cc 6) (cC (dC (.int 0)))) (b7 (cB cK (b7 (cj 0) (b7 (dC (.int 16)) cy))) cy))))))
  (cH (il (de (cc 7) [(xG,(cC (dC .none)))]) (dw (dC (.bool true))) fk)
  (cH (cJ 8 (cB fM (b7 (cj 1) (b7 (cj 2) (b7 (cj 3) (b7 (d2 cN (cc 4) (cC (dC (.int 0)))) (b7 (d2 cN (cc 5) (cC (dC (.int 0)))) (b7 (cj 7) cy))))))))
  (cH (cJ 9 (cB dB (b7 (cj 2) (b7 (d2 cN (cc 5) (cC (dC (.int 0)))) (b7 (d2 cN (cc 5) (cC (dC (.int 1)))) (b7 (cB cK (b7 (cj 0) (b7 (dC (.int 17)) cy))) cy))))))
  (cH (il (de (cc 9) [(uz,(cC (dC .none)))]) (cH (cJ 10 (cB fM (b7 (cj 1) (b7 (cj 2) (b7 (cj 3) (b7 (d2 cN (cc 4) (cC (dC (.int 0)))) (b7 (d2 cN (cc 5) (cC (dC (.int 1)))) (b7 (cB fC (b7 (cj 7) (b7 (cB gp (b7 (cj 3) (b7 (cj 9) cy))) cy))) cy))))))))
  (il (gv (lX (cB eo (b7 (cB fC (b7 (cj 8) (b7 (cj 9) cy))) (b7 (cj 10) cy))))) (dw (dC (.bool false))) fk)) fk)
  (cH (cJ 11 (cB dB (b7 (cj 1) (b7 (d2 cN (cc 4) (cC (dC (.int 1)))) (b7 (d2 cN (cc 4) (cC (dC (.int 0)))) (b7 (cB cK (b7 (cj 0) (b7 (dC (.int 18)) cy))) cy))))))
  (cH (il (de (cc 11) [(xG,(cC (dC .none)))]) (dw (dC (.bool true))) fk)
  (cH (cJ 12 (cB jy (b7 (cj 1) (b7 (cj 2) (b7 (cj 3) (b7 (d2 cN (cc 4) (cC (dC (.int 1)))) (b7 (d2 cN (cc 4) (cC (dC (.int 0)))) (b7 (cj 11) cy))))))))
  (cH (cJ 10 (cB fM (b7 (cj 1) (b7 (cj 2) (b7 (cj 3) (b7 (d2 cN (cc 4) (cC (dC (.int 1)))) (b7 (d2 cN (cc 5) (cC (dC (.int 0)))) (b7 (cB fC (b7 (cj 11) (b7 (cj 7) cy))) cy))))))))
  (dw (cB eo (b7 (cB fC (b7 (cj 12) (b7 (cj 8) cy))) (b7 (cj 10) cy))))))))))))))))))))
noncomputable def F_law:FD:=ki 1 12 zZ
end
noncomputable def G5 (c f found:Int):Int :=
 found*1000000000+(((c*f+7919)%2147483647*((c*f+7919)%2147483647))%2147483647*40692%2147483399)/7
noncomputable def FQ (c:Int):Int:=G5 c 44488 (G5 c 39373 (G5 c 69621 (G5 c 48271 0)))
theorem wm {c f found:Int}{x:Option Vl}(hf:-(2 ^ 64)<f)(hf2:f<2 ^ 64):mP [some (.int c,false),some (.int found,false),some (.int f,false),x] =
  some (.next [some (.int c,false),some (.int (G5 c f found),false),some (.int f,false),some (.int ((((c*f+7919)%2147483647*((c*f+7919)%2147483647))%2147483647*40692%2147483399)),false)]):=by
 have b1:0<=(c*f+7919)%2147483647:=JH _ (by decide);have b2:(c*f+7919)%2147483647<2147483647:=Jw _ (by decide);simp[mP,cH,cJ,d2,cC,cc,dC,rO hf hf2,eZ,jq,rP,Ge,BV (i:=(c*f+7919)%2147483647) (j:=(c*f+7919)%2147483647) ⋯ ⋯,rO,G5]
theorem zm (c:Int):iV [.int c]=some (.int (FQ c),false):=by
 simp[iV,ki,eD,sE,cH,cJ,eh,da,df,b7,cy,dC,Jm,dS,fF,eN,gN,wm,dw,cj,FQ]
noncomputable def cell (ns:List Int)(k:Nat):Int:=FQ (ns.getD k 0)
theorem vv {n k:Nat}(h:k<n):vZ n (k:Int)=some k:=by
 unfold vZ;rw[if_pos ⋯,if_pos ⋯];simp
theorem vW {xs:List D}{k:Nat}{d:D}(h:xs[k]?=some d):sV xs (k:Int)=some d:=by
 unfold sV;have:k<xs.length:=(List.getElem?_eq_some_iff.mp h).1;rw[vv this,aa,h]
theorem je (ns:List Int)(k:Nat):cK [.list (ns.map .int),.int (k:Int)]=some (.int (cell ns k),false):=by
 by_cases h:k<ns.length
 ·have h':(k:Int)<(ns.length:Int):=by omega
  have e:sV (ns.map PyData.int) (k:Int)=some (.int (ns.getD k 0)):=vW (by rw[au,aj h,ag,aj h];rfl);simp[cK,ki,eD,oB,cH,il,de,tChain,cc,cC,d1,fK,G6,h',dw,cB,b7,cy,d2,cN,e,zm,cell]
 ·have h':¬(k:Int)<(ns.length:Int):=by omega
  have e:ns[k]?=none:=aU ⋯;simp[cK,ki,eD,oB,cH,il,de,tChain,cc,cC,d1,fK,G6,h',fk,dw,cB,b7,cy,dC,zm,cell,e]
noncomputable def HX (s:Int):Int:=s*48271%2147483647
noncomputable def pg (c k b:Int):Int:=HX (HX (HX ((c%2147483629+1+k*1000003)%2147483647)))/97%b
theorem xy {s c k b:Int}{x:Option Vl}:mR [some (.int c,false),some (.int k,false),some (.int b,false),some (.int s,false),x] =
  some (.next [some (.int c,false),some (.int k,false),some (.int b,false),some (.int (HX s),false),x]):=by
 simp[mR,cJ,d2,cC,cc,dC,rO,jq,HX]
theorem m8 {c k b:Int}(hb:0<b):dk [.int c,.int k,.int b]=some (.int (pg c k b),false):=by
 simp[dk,ki,eD,sF,cH,cJ,d2,cC,cc,dC,jq,eZ,rO,eh,cS,xQ,fv,ao,List.range.loop,eN,gN,xy,dw,rP,jq hb,pg]
theorem m6 {c k b:Int}(hb:0<b):0<=pg c k b:=JH _ ⋯
theorem m7 {c k b:Int}(hb:0<b):pg c k b<b:=Jw _ hb
noncomputable def cM (p:Int×Int):D:=.tuple [.int p.1,.int p.2]
noncomputable def cg (k:Int)(ar:List (Int×Int)):D:=.tuple [.int k,.tuple (ar.map cM)]
structure Wf (k:Int)(ar:List (Int×Int)):Prop where
 lo:1<=k
 ok:∀p∈ar,0<=p.1/\p.1<p.2/\p.2<k
theorem xo (n:Nat):fv 0 n=(ao n).map fun (k:Nat)=>.int (k:Int):=by
 unfold fv;simp
theorem xt {ns:List Int}{first i most many kinds a b:Int}{ca cb:Int}{ar:List (Int×Int)}{y z:Option Vl}(c1:cK [.list (ns.map .int),.int (first+1)]=some (.int ca,false))(c2:cK [.list (ns.map .int),.int (first+2)]=some (.int cb,false))
  (d1':dk [.int ca,.int i,.int (kinds-1)]=some (.int a,false)) (d2':dk [.int cb,.int i,.int (kinds-1-a)]=some (.int b,false)) (hz:ar.length<sizeLine) :
  kE [some (.list (ns.map .int),false),some (.int first,false),some (.int most,false),some (.int many,false),some (.int kinds,false),some (.list (ar.map cM),true),some (.int i,false),y,z] =
   some (.next [some (.list (ns.map .int),false),some (.int first,false),some (.int most,false),some (.int many,false),some (.int kinds,false),some (.list ((ar++[(a,a+1+b)]).map cM),true),some (.int i,false),some (.int a,false),some (.int (a+1+b),false)]):=by
 simp[kE,cH,cJ,cB,b7,cy,cj,d2,cC,cc,dC,eZ,BS,c1,c2,d1',d2',ik,eK,lY,hz,Bf,cM]
theorem Cs {ns:List Int}{first:Nat}{most many kinds:Int}(hk:1<kinds)(n:Nat):∀(i:Nat) (ar:List (Int×Int)) (x y z:Option Vl),Wf kinds ar->ar.length+n<=1000->∃ar' x' y' z',Wf kinds ar'/\ar'.length=ar.length+n ∧
  eN (gN 6) kE ((bP i n).map fun (k:Nat)=>.int (k:Int)) [some (.list (ns.map .int),false),some (.int (first:Int),false),some (.int most,false),some (.int many,false),some (.int kinds,false),some (.list (ar.map cM),true),x,y,z] =
   some (.next [some (.list (ns.map .int),false),some (.int (first:Int),false),some (.int most,false),some (.int many,false),some (.int kinds,false),some (.list (ar'.map cM),true),x',y',z']):=by
 induction n with
 |zero=>exact fun i ar x y z w _=>⟨ar,x,y,z,w,rfl,rfl⟩
 |succ n ih =>
  intro i ar x y z w hn;have c1:=je ns (first+1);have c2:=je ns (first+2);rw[show (((first+1:Nat)):Int)=(first:Int)+1 by omega] at c1;rw[show (((first+2:Nat)):Int)=(first:Int)+2 by omega] at c2;generalize cell ns (first+1)=ca at c1;generalize cell ns (first+2)=cb at c2;have hb1:0<kinds-1:=by omega
  have a0:=m6 (c:=ca) (k:=(i:Int)) hb1;have a1:=m7 (c:=ca) (k:=(i:Int)) hb1;have d1':=m8 (c:=ca) (k:=(i:Int)) hb1;generalize pg ca (i:Int) (kinds-1)=a at a0 a1 d1';have hb2:0<kinds-1-a:=by omega
  have b0:=m6 (c:=cb) (k:=(i:Int)) hb2;have b1:=m7 (c:=cb) (k:=(i:Int)) hb2;have d2':=m8 (c:=cb) (k:=(i:Int)) hb2;generalize pg cb (i:Int) (kinds-1-a)=b at b0 b1 d2';have w':Wf kinds (ar++[(a,a+1+b)]):=⟨w.lo,fun p hp=>by
   rcases List.mem_append.mp hp with h|h
   ·exact w.ok p h
   ·cases List.mem_singleton.mp h;dsimp only;omega⟩
  have hz:ar.length<sizeLine:=zk ⋯;obtain⟨ar',x',y',z',w2,l2,e2⟩:=ih (i+1) (ar++[(a,a+1+b)]) (some (.int (i:Int),false)) (some (.int a,false)) (some (.int (a+1+b),false)) w' (by rw[aw,aP];omega);refine⟨ar',x',y',z',w2,by rw[l2,aw,aP];omega,?_⟩;rw[bZ,az,eN];simp only[gN,bT,aa];rw[xt c1 c2 d1' d2' hz,aa];exact e2
theorem zN (ns:List Int)(first:Nat){most many:Int}(hm:0<most)(hm2:most<1073741824)(hy:0<=many)(hy2:many<1000):∃k ar,fj [.list (ns.map .int),.int (first:Int),.int most,.int many]=some (cg k ar,false)/\Wf k ar/\k<=most/\(ar.length:Int)<=many:=by
 have c0:=je ns first
 have k0:0<=cell ns first%most:=JH _ ⋯
 have k1:cell ns first%most<most:=Jw _ hm
 have n0:0<=cell ns first/most%(many+1):=JH _ ⋯
 have n1:cell ns first/most%(many+1)<many+1:=Jw _ ⋯
 have hmod:=jq (i:=cell ns first/most) (j:=many+1) ⋯;by_cases hk:1<1+cell ns first%most
 ·obtain⟨ar,x,y,z,w,l,e⟩:=Cs (ns:=ns) (first:=first) (most:=most) (many:=many) (kinds:=1+cell ns first%most) hk (cell ns first/most%(many+1)).toNat 0 [] none none none ⟨by omega,fun p hp=>by cases hp⟩ (by simp;omega);refine⟨1+cell ns first%most,ar,?_,w,by omega,by rw[l];simp;omega⟩;have hbd:-4611686018427387904<=cell ns first/most%(many+1)/\cell ns first/most%(many+1)<4611686018427387904:=by omega
  rw[bI,<-bB] at e;have ei:=xo (cell ns first/most%(many+1)).toNat;simp[fj,ki,eD,oz,cH,cJ,cB,b7,cy,cj,d2,cC,cc,dC,eZ,c0,jq hm,rP hm hm2,hmod,df,il,de,tChain,A7,hk,eh,cS,xQ,hbd,ei,e,dw,eK,d1,dg,Bf,cg]
 ·refine⟨1+cell ns first%most,[],?_,⟨by omega,fun p hp=>by cases hp⟩,by omega,by simpa using hy⟩;simp[fj,ki,eD,oz,cH,cJ,cB,b7,cy,cj,d2,cC,cc,dC,eZ,c0,jq hm,df,il,de,tChain,A7,hk,fk,dw,eK,d1,dg,Bf,cg]
noncomputable abbrev Ar:=List (Int×Int)
noncomputable def my (n:Nat):D:=.int (n:Int)
noncomputable def cu (p:List Nat):D:=.tuple (p.map my)
noncomputable def dH (ar:Ar)(kind:Int)(p:List Nat):Int:=match p.getLast? with
 |none=>kind
 |some i=>(ar.getD i (0,0)).2
def iK (ar:Ar)(p:List Nat):Prop:=∀i∈p,i<ar.length
theorem vn (p:List Nat):Nb 1 (cu p):=.tuple (jM (f:=my) (fun n=>.int 0 _) p)
theorem B8 (ps:List (List Nat)):Nb 2 (.list (ps.map cu)):=.list (jM vn ps)
theorem mz (k:Int)(ar:Ar):cN (cg k ar) (.int 0)=some (.int k,false):=by simp[cg,cN,sV,vZ]
theorem kr (k:Int)(ar:Ar):cN (cg k ar) (.int 1)=some (.tuple (ar.map cM),false):=by simp[cg,cN,sV,vZ]
theorem lU (p:Int×Int):cN (cM p) (.int 0)=some (.int p.1,false):=by simp[cM,cN,sV,vZ]
theorem qq (p:Int×Int):cN (cM p) (.int 1)=some (.int p.2,false):=by simp[cM,cN,sV,vZ]
theorem pb (ar:Ar)(kind:Int):dH ar kind []=kind:=rfl
theorem qf (ar:Ar)(kind:Int)(p:List Nat)(i:Nat):dH ar kind (p++[i])=(ar.getD i (0,0)).2:=by
 unfold dH;rw[List.getLast?_concat]
theorem Ib {ar:Ar}{i:Nat}(h:i<ar.length):sV (ar.map cM) (i:Int)=some (cM (ar.getD i (0,0))) :=
 vW (by rw[au,aj h,ag,aj h];rfl)
theorem EL (xs:List D)(d:D):sV (xs++[d]) (-1)=some d:=by
 unfold sV vZ;rw[if_neg ⋯,if_pos (by rw[aw,aP];omega),aw,aP,aa,show ((-1:Int)+((xs.length+1:Nat):Int)).toNat=xs.length by omega];simp
noncomputable def iN (e:Int)(p:List Nat)(s:Nat):Ar->List (List Nat)
 |[]=>[]
 |a::r=>if a.1=e then (p++[s])::iN e p (s+1) r else iN e p (s+1) r
theorem mG (e:Int)(p:List Nat):∀(r:Ar) (s:Nat),(iN e p s r).length<=r.length
 |[],s=>by simp[iN]
 | a::r,s=>by
  have:=mG e p r (s+1);unfold iN;split <;> simp <;> omega
theorem mF {e:Int}{p q:List Nat}:∀{r:Ar}{s:Nat},q∈iN e p s r->∃i a,q=p++[s+i]/\r[i]?=some a/\a.1=e
 |[],s,h=>by simp[iN] at h
 | a::r,s,h=>by
  unfold iN at h;split at h
  ·rename_i ha;rcases List.mem_cons.mp h with z|z
   ·exact⟨0,a,z,rfl,ha⟩
   ·obtain⟨i,b,e1,e2,e3⟩:=mF z;exact⟨i+1,b,by rw[e1,show s+1+i=s+(i+1) by omega],by simpa using e2,e3⟩
  ·obtain⟨i,b,e1,e2,e3⟩:=mF h;exact⟨i+1,b,by rw[e1,show s+1+i=s+(i+1) by omega],by simpa using e2,e3⟩
noncomputable def step (ar:Ar)(kind:Int)(r:List (List Nat)):List (List Nat):=r.flatMap fun p=>iN (dH ar kind p) p 0 ar
theorem rA (ar:Ar)(kind:Int):∀r:List (List Nat),(step ar kind r).length<=ar.length*r.length
 |[]=>by simp[step]
 | p::r=>by
  have h1:=rA ar kind r;have h2:=mG (dH ar kind p) p ar 0;unfold step at h1 ⊢;rw[bM,aw,aJ,Nat.mul_succ];omega
theorem kP {ar:Ar}{kind:Int}{r:List (List Nat)}{q:List Nat}(h:q∈step ar kind r):∃p i a,p∈r/\q=p++[i]/\ar[i]?=some a/\a.1=dH ar kind p/\dH ar kind q=a.2:=by
 obtain⟨p,hp,hq⟩:=List.mem_flatMap.mp h;obtain⟨i,a,e1,e2,e3⟩:=mF hq;rw[bE] at e1;refine⟨p,i,a,hp,e1,e2,e3,?_⟩;rw[e1,qf,ag,e2];rfl
theorem zo {ar:Ar}{kind:Int}{r:List (List Nat)}(h:∀p∈r,iK ar p):∀q∈step ar kind r,iK ar q:=fun q hq i hi=>by
 obtain⟨p,j,a,hp,e1,e2,_⟩:=kP hq;subst e1;rcases List.mem_append.mp hi with z|z
 ·exact h p hp i z
 ·cases List.mem_singleton.mp z;exact (List.getElem?_eq_some_iff.mp e2).1
theorem rz {ar:Ar}{kind:Int}{r:List (List Nat)}{b:Nat}(h:∀p∈r,p.length+1<=b):∀q∈step ar kind r,q.length<=b:=fun q hq=>by
 obtain⟨p,j,a,hp,e1,_⟩:=kP hq;have:=h p hp;rw[e1,aw,aP];exact this
noncomputable def lay (ar:Ar)(kind:Int):Nat->List (List Nat)->List (List Nat)
 |0,r=>r
 |m+1,r=>lay ar kind m (step ar kind r)
theorem vo {k:Int}{ar:Ar}{kind:Int}(w:Wf k ar):∀(m:Nat) (r:List (List Nat)),(∀p∈r,k-m<=dH ar kind p/\dH ar kind p<k)->lay ar kind m r=[]
 | 0,r,h=>by
  cases r with
  |nil=>rfl
  |cons p r =>
   have:=h p (by simp);omega
 | m+1,r,h=>by
  refine vo w m (step ar kind r) fun q hq=>?_;obtain⟨p,i,a,hp,e1,e2,e3,e4⟩:=kP hq;have h1:=h p hp;have h2:=w.ok a (aA e2);rw[e4];omega
noncomputable def lZ (ar:Ar)(kind other:Int)(r:List (List Nat)):List (List Nat):=r.filter fun p=>decide (dH ar kind p=other)
noncomputable def run (ar:Ar)(kind other:Int):Nat->List (List Nat)->List (List Nat)->List (List Nat)
 |0,_,f=>f
 |m+1,r,f=>run ar kind other m (step ar kind r) (f++lZ ar kind other r)
theorem vc (ar:Ar)(kind other:Int):∀(m:Nat) (f:List (List Nat)),run ar kind other m [] f=f
 |0,f=>rfl
 | m+1,f=>by
  show run ar kind other m [] (f++[])=f;rw[br];exact vc ar kind other m f
theorem o9:∀(ds:List D) (s:Nat),(fJ s ds).length=ds.length
 |[],_=>rfl
 |d::ds,s=>by rw[fJ,aJ,aJ,o9 ds]
theorem qO (ar:Ar)(kind other:Int)(r:List (List Nat)):(lZ ar kind other r).length<=r.length:=List.length_filter_le _ _
theorem tT {k kind:Int}{ar:Ar}(hk:0<=kind)(hk2:kind<k):∀p∈([[]]:List (List Nat)),k-(k.toNat:Int)<=dH ar kind p/\dH ar kind p<k:=fun p hp=>by
 cases List.mem_singleton.mp hp;rw[pb];omega
noncomputable def gn (k:Int)(ar:Ar)(kind other:Int):List (List Nat):=run ar kind other k.toNat [[]] []
theorem tY {m:Nat}(h:m<=4):6 ^ m<=1296:=Nat.pow_le_pow_right (by decide) h
theorem zt {ar:Ar}{kind other:Int}{b:Nat}:∀(m:Nat) (r f:List (List Nat)),(∀q∈r,iK ar q/\q.length+m<=b)->(∀q∈f,dH ar kind q=other/\iK ar q/\q.length<=b)->∀p∈run ar kind other m r f,dH ar kind p=other/\iK ar p/\p.length<=b
 |0,r,f,_,hf,p,hp=>hf p hp
 | m+1,r,f,hr,hf,p,hp=>by
  refine zt m (step ar kind r) (f++lZ ar kind other r) (fun q hq=>⟨zo (fun p hp=>(hr p hp).1) q hq,?_⟩) (fun q hq=>?_) p hp
  ·obtain⟨p',_,_,hp',e1,_⟩:=kP hq;have:=(hr p' hp').2;rw[e1,aw,aP];omega
  ·rcases List.mem_append.mp hq with z|z
   ·exact hf q z
   ·obtain⟨z1,z2⟩:=List.mem_filter.mp z;have:=(hr q z1).2;exact⟨of_decide_eq_true z2,(hr q z1).1,by omega⟩
theorem Dc {k:Int}{ar:Ar}{kind other:Int}(h4:k<=4):∀p∈gn k ar kind other,dH ar kind p=other/\iK ar p/\p.length<=4 :=
 zt _ _ _ (fun q hq=>by cases List.mem_singleton.mp hq;exact⟨fun i hi=>(by cases hi),(by simp;omega)⟩) (fun q hq=>by cases hq)
noncomputable def ff (ar:Ar)(kind:Int)(p:List Nat):D:=.tuple [cu p,.int (dH ar kind p)]
theorem Ea (ar:Ar)(kind:Int)(p:List Nat):Nb 2 (ff ar kind p):=.tuple (.cons (vn p) (.cons (.int 1 _) .nil))
theorem Ei {s0 s1 s2 s3 s4:Option Vl}{G:List D}{p:List Nat}{e:Int}{s:Nat}{a:Int×Int}(hp:p.length+1<=1000000)(hG:G.length<1000000) :
  iH [s0,s1,s2,s3,s4,some (.list G,true),some (cu p,false),some (.int e,false),some (.int (s:Int),false),some (cM a,false)] =
   some (.next [s0,s1,s2,s3,s4,some (.list (if a.1=e then G++[.tuple [cu (p++[s]),.int a.2]] else G),true),some (cu p,false),some (.int e,false),some (.int (s:Int),false),some (cM a,false)]):=by
 have hz:p.length+1<=sizeLine:=sZ hp;have hz2:G.length<sizeLine:=zk hG;have ho:eZ (cu p) (.tuple [.int (s:Int)])=some (cu (p++[s]),false):=by simp[cu,eZ,hz,my]
 by_cases h:a.1=e
 ·simp[iH,il,de,tChain,cC,d2,cc,dC,lU,qq,fE,h,ik,eK,b7,cy,cj,ho,Dh,Bf,lY,hz2]
 ·simp[iH,il,de,tChain,cC,d2,cc,dC,lU,fE,h,fk]
theorem rT {s0 s1 s2 s3 s4:Option Vl}{ar:Ar}{kind e:Int}{p:List Nat}(hp:p.length+1<=1000000):∀(r:Ar) (s:Nat) (g:List (List Nat)) (x y:Option Vl),ar.drop s=r->g.length+r.length<=1000000->∃x' y',
  eN (gT [gN 8,gN 9]) iH (fJ s (r.map cM)) [s0,s1,s2,s3,s4,some (.list (g.map (ff ar kind)),true),some (cu p,false),some (.int e,false),x,y] =
   some (.next [s0,s1,s2,s3,s4,some (.list ((g++iN e p s r).map (ff ar kind)),true),some (cu p,false),some (.int e,false),x',y'])
 |[],s,g,x,y,_,_=>⟨x,y,by simp[fJ,eN,iN]⟩
 | a::r,s,g,x,y,hd,hz=>by
  rw[aJ] at hz;have hat:ar[s]?=some a:=by
   have:=congrArg (fun l=>l[0]?) hd;simpa using this
  have hd2:ar.drop (s+1)=r:=by
   rw[<-List.drop_drop,hd];rfl
  have hn:ff ar kind (p++[s])=.tuple [cu (p++[s]),.int a.2]:=by
   unfold ff;rw[qf,ag,hat];rfl
  have hb:=Ei (s0:=s0) (s1:=s1) (s2:=s2) (s3:=s3) (s4:=s4) (G:=g.map (ff ar kind)) (p:=p) (e:=e) (s:=s) (a:=a) hp (by rw[af];omega);rw[az,fJ,eN];simp only[gT,og,gN,bT,aa];rw[hb,aa];by_cases h:a.1=e
  ·obtain⟨x',y',q⟩:=rT (s0:=s0) (s1:=s1) (s2:=s2) (s3:=s3) (s4:=s4) (kind:=kind) (e:=e) hp r (s+1) (g++[p++[s]]) (some (.int (s:Int),false)) (some (cM a,false)) hd2 (by rw[aw,aP];omega);refine⟨x',y',?_⟩;rw[aX,az,bI,hn] at q;rw[if_pos h];dsimp only;refine Eq.trans q ?_;rw[iN,if_pos h,ba];rfl
  ·obtain⟨x',y',q⟩:=rT (s0:=s0) (s1:=s1) (s2:=s2) (s3:=s3) (s4:=s4) (kind:=kind) (e:=e) hp r (s+1) g (some (.int (s:Int),false)) (some (cM a,false)) hd2 ⋯;refine⟨x',y',?_⟩;rw[if_neg h];dsimp only;refine Eq.trans q ?_;rw[iN,if_neg h]
theorem Gv {k kind other:Int}{ar:Ar}{s1 s4 x y:Option Vl}{f g:List (List Nat)}{p:List Nat}(hp:p.length+1<=1000000)(hf:f.length<1000000)(hg:g.length+ar.length<=1000000):∃x' y',
  jS [some (cg k ar,false),s1,some (.int other,false),some (.list (f.map cu),true),s4,some (.list (g.map (ff ar kind)),true),some (cu p,false),some (.int (dH ar kind p),false),x,y] =
   some (.next [some (cg k ar,false),s1,some (.int other,false),some (.list ((f++lZ ar kind other [p]).map cu),true),s4,some (.list ((g++iN (dH ar kind p) p 0 ar).map (ff ar kind)),true),some (cu p,false),some (.int (dH ar kind p),false),x',y']):=by
 have hz:(f.map cu).length<sizeLine:=zk (by rw[af];exact hf);obtain⟨x',y',q⟩:=rT (s0:=some (cg k ar,false)) (s1:=s1) (s2:=some (.int other,false)) (s3:=some (.list ((f++lZ ar kind other [p]).map cu),true)) (s4:=s4) (kind:=kind) (e:=dH ar kind p) hp ar 0 g x y rfl hg;refine⟨x',y',?_⟩;have s1':(il (de (cc 7) [(nA,(cc 2))]) (ik 3 (cj 6)) fk) [some (cg k ar,false),s1,some (.int other,false),some (.list (f.map cu),true),s4,some (.list (g.map (ff ar kind)),true),some (cu p,false),some (.int (dH ar kind p),false),x,y] =
   some (.next [some (cg k ar,false),s1,some (.int other,false),some (.list ((f++lZ ar kind other [p]).map cu),true),s4,some (.list (g.map (ff ar kind)),true),some (cu p,false),some (.int (dH ar kind p),false),x,y]):=by
  rw[af] at hz;by_cases h:dH ar kind p=other
  ·simp[il,de,tChain,cc,fE,h,ik,cj,lY,hz,lZ]
  ·simp[il,de,tChain,cc,fE,h,fk,lZ]
 rw[jS,cH,s1',aa];dsimp only;rw[eh];have hi:∀ρ:Sl,(fO (fF (d2 cN (cc 0) (cC (dC (.int 1)))))) (some (cg k ar,false)::ρ)=some (fJ 0 (ar.map cM)):=fun ρ=>by
  simp[fO,fF,d2,cc,cC,dC,kr,dS]
 rw[hi,aa,q]
theorem Co (ar:Ar)(kind other:Int)(p:List Nat)(r:List (List Nat)):lZ ar kind other (p::r)=lZ ar kind other [p]++lZ ar kind other r:=by
 unfold lZ;rw[<-Jv];rfl
theorem Ak (ar:Ar)(kind:Int)(p:List Nat)(r:List (List Nat)):step ar kind (p::r)=iN (dH ar kind p) p 0 ar++step ar kind r:=by
 unfold step;rw[bM]
theorem Cc {k kind other:Int}{ar:Ar}{s1 s4:Option Vl}:∀(r f g:List (List Nat)) (a b x y:Option Vl),(∀p∈r,p.length+1<=1000000)->f.length+r.length<=1000000->g.length+ar.length*r.length<=1000000->∃a' b' x' y',
  eN (gT [gN 6,gN 7]) jS (r.map (ff ar kind)) [some (cg k ar,false),s1,some (.int other,false),some (.list (f.map cu),true),s4,some (.list (g.map (ff ar kind)),true),a,b,x,y] =
   some (.next [some (cg k ar,false),s1,some (.int other,false),some (.list ((f++lZ ar kind other r).map cu),true),s4,some (.list ((g++step ar kind r).map (ff ar kind)),true),a',b',x',y'])
 |[],f,g,a,b,x,y,_,_,_=>⟨a,b,x,y,by simp[eN,lZ,step]⟩
 | p::r,f,g,a,b,x,y,hl,hf,hg=>by
  rw[aJ,Nat.mul_succ] at hg;rw[aJ] at hf;have hx:=mG (dH ar kind p) p ar 0;have hh:=qO ar kind other [p];rw[aP] at hh;obtain⟨x1,y1,q1⟩:=Gv (k:=k) (kind:=kind) (other:=other) (ar:=ar) (s1:=s1) (s4:=s4) (x:=x) (y:=y) (f:=f) (g:=g) (p:=p) (hl p (by simp)) ⋯ ⋯;obtain⟨a',b',x',y',q2⟩:=Cc (k:=k) (kind:=kind) (other:=other) (ar:=ar) (s1:=s1) (s4:=s4) r (f++lZ ar kind other [p]) (g++iN (dH ar kind p) p 0 ar) (some (cu p,false)) (some (.int (dH ar kind p),false)) x1 y1 (fun q hq=>hl q (by simp[hq])) (by rw[aw];omega) (by rw[aw];omega);refine⟨a',b',x',y',?_⟩;rw[az,eN];have ht:gT [gN 6,gN 7] (ff ar kind p) [some (cg k ar,false),s1,some (.int other,false),some (.list (f.map cu),true),s4,some (.list (g.map (ff ar kind)),true),a,b,x,y] =
    some [some (cg k ar,false),s1,some (.int other,false),some (.list (f.map cu),true),s4,some (.list (g.map (ff ar kind)),true),some (cu p,false),some (.int (dH ar kind p),false),x,y]:=by
   simp[ff,gT,og,gN]
  rw[ht,aa,q1,aa];dsimp only;rw[q2,Co ar kind other p r,Ak ar kind p r,ba f,ba g]
theorem Gu {k kind other:Int}{ar:Ar}{s1 b5 a b x y:Option Vl}{r f:List (List Nat)}(hl:∀p∈r,p.length+1<=1000000)(hf:f.length+r.length<=1000000)(hg:ar.length*r.length<=1000000):∃b5' a' b' x' y',
  jR [some (cg k ar,false),s1,some (.int other,false),some (.list (f.map cu),true),some (.list (r.map (ff ar kind)),false),b5,a,b,x,y] =
   some (.next [some (cg k ar,false),s1,some (.int other,false),some (.list ((f++lZ ar kind other r).map cu),true),some (.list ((step ar kind r).map (ff ar kind)),false),b5',a',b',x',y']):=by
 obtain⟨a',b',x',y',q⟩:=Cc (k:=k) (kind:=kind) (other:=other) (ar:=ar) (s1:=s1) (s4:=some (.list (r.map (ff ar kind)),false)) r f [] a b x y hl hf (by simpa using hg);rw[bI] at q;refine⟨some (.list ((step ar kind r).map (ff ar kind)),false),a',b',x',y',?_⟩;have e1:(cJ 5 (df cy)) [some (cg k ar,false),s1,some (.int other,false),some (.list (f.map cu),true),some (.list (r.map (ff ar kind)),false),b5,a,b,x,y] =
   some (.next [some (cg k ar,false),s1,some (.int other,false),some (.list (f.map cu),true),some (.list (r.map (ff ar kind)),false),some (.list [],true),a,b,x,y]):=by simp[cJ,df,cy]
 have e2:(da (dY 4)) [some (cg k ar,false),s1,some (.int other,false),some (.list (f.map cu),true),some (.list (r.map (ff ar kind)),false),some (.list [],true),a,b,x,y]=some (r.map (ff ar kind)):=by simp[da,dY]
 rw[jR,cH,e1,aa];dsimp only;rw[cH,eh,e2,aa,q,aa];simp[kH,share,cJ,cj]
theorem zG {k kind other:Int}{ar:Ar}{s1:Option Vl}(ha:ar.length<=5):∀(m:Nat) (r f:List (List Nat)) (b5 a b x y:Option Vl),lay ar kind m r=[]->(∀p∈r,p.length+m<=1000)->r.length*6 ^ m+f.length<=100000->∃b5' a' b' x' y',
  fc jI jR (m+1) [some (cg k ar,false),s1,some (.int other,false),some (.list (f.map cu),true),some (.list (r.map (ff ar kind)),false),b5,a,b,x,y] =
   some (.next [some (cg k ar,false),s1,some (.int other,false),some (.list ((run ar kind other m r f).map cu),true),some (.list [],false),b5',a',b',x',y'])
 | m,r,f,b5,a,b,x,y,hl,hs,hz=>by
  have nb:Nb 3 (.list (r.map (ff ar kind))):=.list (jM (Ea ar kind) r);have nb0:Nb 3 (.list []):=.list .nil;have ht:jI [some (cg k ar,false),s1,some (.int other,false),some (.list (f.map cu),true),some (.list (r.map (ff ar kind)),false),b5,a,b,x,y]=some (decide (r≠[])):=by
   have:uC (.list (r.map (ff ar kind))) (.list [])=some (decide (r≠[])):=by
    by_cases hr:r=[]
    ·subst hr;exact C1 nb0
    ·rw[GQ nb nb0 (by simpa using hr),decide_eq_true hr]
   simp only[jI,de,tChain,cC,cc,df,cy,aK,aM,aa,bO,FP,if_true,av,this]
  by_cases hr:r=[]
  ·subst hr;refine⟨b5,a,b,x,y,?_⟩;rw[fc,ht,aa,if_neg (by simp),vc];rfl
  ·have h0:0<r.length:=List.length_pos_iff.mpr hr;cases m with
   |zero=>exact absurd hl hr
   |succ m =>
    obtain⟨p0,hp0⟩:=JT r hr;have hs0:=hs p0 hp0;have hst:=rA ar kind r;have hh:=qO ar kind other r;have hp:1<=6 ^ m:=Nat.one_le_pow _ _ (by decide);have q1:r.length<=r.length*6 ^ m:=Nat.le_mul_of_pos_right _ ⋯;have q2:ar.length*r.length<=5*r.length:=JL _ ha;have q3:(step ar kind r).length*6 ^ m<=(5*r.length)*6 ^ m:=JL _ ⋯;rw[Nat.pow_succ,<-Nat.mul_assoc] at hz;have q4:5*r.length*6 ^ m=5*(r.length*6 ^ m):=Nat.mul_assoc ..;obtain⟨c5,c6,c7,c8,c9,e1⟩:=Gu (k:=k) (kind:=kind) (other:=other) (ar:=ar) (s1:=s1) (b5:=b5) (a:=a) (b:=b) (x:=x) (y:=y) (r:=r) (f:=f) (fun p hp=>by have:=hs p hp;omega) ⋯ ⋯;obtain⟨d5,d6,d7,d8,d9,e2⟩:=zG (k:=k) (kind:=kind) (other:=other) (s1:=s1) ha m (step ar kind r) (f++lZ ar kind other r) c5 c6 c7 c8 c9 hl (fun q hq=>by have:=rz (b:=1000-m) (fun p hp=>by have:=hs p hp;omega) q hq;omega) (by rw[aw];omega);refine⟨d5,d6,d7,d8,d9,?_⟩;rw[fc,ht,aa,if_pos (decide_eq_true hr),e1,aa];exact e2
theorem oY {k kind other:Int}{ar:Ar}(w:Wf k ar)(h4:k<=4)(ha:ar.length<=5)(hk:0<=kind)(hk2:kind<k):fR [cg k ar,.int kind,.int other]=some (.list ((gn k ar kind other).map cu),true):=by
 have hp:=tY (m:=k.toNat) ⋯;obtain⟨c5,c6,c7,c8,c9,e⟩:=zG (k:=k) (kind:=kind) (other:=other) (s1:=some (.int kind,false)) ha k.toNat [[]] [] none none none none none (vo w _ _ (tT hk hk2)) (fun p hp=>by cases List.mem_singleton.mp hp;simp;omega) (by simp;omega);have rn:fR [cg k ar,.int kind,.int other]=(mM [some (cg k ar,false),some (.int kind,false),some (.int other,false),none,none,none,none,none,none,none]).bind eD:=rfl;rw[rn];unfold mM;have s1:(cJ 3 (df cy)) [some (cg k ar,false),some (.int kind,false),some (.int other,false),none,none,none,none,none,none,none]=some (.next [some (cg k ar,false),some (.int kind,false),some (.int other,false),some (.list [],true),none,none,none,none,none,none]):=by
  simp[cJ,df,cy]
 have s2:(gf 4 (cJ 4 (df (b7 (eK (b7 (eK cy) (b7 (cj 1) cy))) cy)))) [some (cg k ar,false),some (.int kind,false),some (.int other,false),some (.list [],true),none,none,none,none,none,none] =
   some (.next [some (cg k ar,false),some (.int kind,false),some (.int other,false),some (.list [],true),some (.list ([[]].map (ff ar kind)),false),none,none,none,none,none]):=by
  simp[gf,cJ,df,b7,eK,cy,cj,Dh,Bf,share,cu,ff,dH]
 rw[bI] at e;rw[cH,s1,aa];dsimp only;rw[cH,s2,aa];dsimp only;rw[cH,pQ e,aa];simp[lT,eD,gn]
noncomputable def cR (xs:List Int):D:=.tuple (xs.map .int)
noncomputable def cp (rows:List Int)(steps:List (List Int)):D:=.tuple [cR rows,.tuple (steps.map cR)]
noncomputable def gI (xs:List Int)(i:Int):Int:=xs.getD i.toNat 0
theorem nK (rows:List Int)(steps:List (List Int)):cN (cp rows steps) (.int 0)=some (cR rows,false):=by simp[cp,cN,sV,vZ]
theorem sO (rows:List Int)(steps:List (List Int)):cN (cp rows steps) (.int 1)=some (.tuple (steps.map cR),false):=by simp[cp,cN,sV,vZ]
theorem mX {xs:List Int}{i:Int}(h0:0<=i)(h1:i<xs.length):xs[i.toNat]?=some (gI xs i):=by
 have hl:i.toNat<xs.length:=by omega
 unfold gI;rw[ag,aj hl];rfl
theorem gK {xs:List Int}{i:Int}(h0:0<=i)(h1:i<xs.length):cN (cR xs) (.int i)=some (.int (gI xs i),false):=by
 unfold cR cN;dsimp only;rw[qt h0 (d:=.int (gI xs i)) (by rw[au,mX h0 h1];rfl)];rfl
theorem rS {xs:List Int}{i:Int}(h0:0<=i)(h1:i<xs.length):cN (.list (xs.map .int)) (.int i)=some (.int (gI xs i),false):=by
 unfold cN;dsimp only;rw[qt h0 (d:=.int (gI xs i)) (by rw[au,mX h0 h1];rfl)];rfl
theorem tU {ss:List (List Int)}{i:Nat}{s:List Int}(h:ss[i]?=some s):cN (.tuple (ss.map cR)) (.int (i:Int))=some (cR s,false):=by
 unfold cN;dsimp only;rw[qt ⋯ (d:=cR s) (by rw[aW,au,h];rfl)];rfl
theorem B7 (xs:List Int):Nb 1 (cR xs):=.tuple (jM (f:=PyData.int) (fun n=>.int 0 _) xs)
theorem Eb (rows:List Int)(steps:List (List Int)):Nb 3 (cp rows steps):=.tuple (.cons (.tuple (jM (f:=PyData.int) (fun n=>.int 1 _) rows)) (.cons (.tuple (jM B7 steps)) .nil))
theorem GF {xs:List Int}{i j v:Int}(hi:0<=i)(hj:0<=j)(hl:i<xs.length):gI (xs.set i.toNat v) j=if j=i then v else gI xs j:=by
 unfold gI;rw[ag,ag];by_cases h:j=i
 ·subst h;rw[ay ⋯,if_pos rfl];rfl
 ·rw[ai ⋯,if_neg h]
theorem iz {xs:List Int}(h:∀r∈xs,0<=r)(i:Int):0<=gI xs i:=by
 unfold gI;rw[ag];cases e:xs[i.toNat]? with
 |none=>exact Int.le_refl 0
 |some r=>exact h r (aA e)
theorem j8 {xs:List Int}{m:Int}(hm:0<=m)(h:∀r∈xs,r<=m)(i:Int):gI xs i<=m:=by
 unfold gI;rw[ag];cases e:xs[i.toNat]? with
 |none=>exact hm
 |some r=>exact h r (aA e)
structure cV (k:Int)(ar:Ar)(rows:List Int)(steps:List (List Int)):Prop where
 len:(rows.length:Int)=k
 nn:∀r∈rows,0<=r
 sl:steps.length=ar.length
 st:∀(i:Nat) (a:Int×Int) (s:List Int),ar[i]?=some a->steps[i]?=some s->(s.length:Int)=gI rows a.1/\∀x∈s,0<=x/\x<gI rows a.2
theorem FR (xs:List Int):fK (cR xs)=some (.int (xs.length:Int),false):=by simp[cR,fK]
theorem FJ (xs:List D):fK (.tuple xs)=some (.int (xs.length:Int),false):=rfl
noncomputable def nF (c:Int)(k most:Int):List Int:=(ao k.toNat).map fun (i:Nat)=>pg c (i:Int) (most+1)
noncomputable def lF (rows:List Int)(p:Int×Int):List Int:=if 0<gI rows p.1/\gI rows p.2=0 then rows.set p.2.toNat 1 else rows
structure iJ (k most:Int)(rows:List Int):Prop where
 len:(rows.length:Int)=k
 nn:∀r∈rows,0<=r
 le:∀r∈rows,r<=most
theorem o6 {k most:Int}{rows:List Int}{p:Int×Int}(h:iJ k most rows)(hm:1<=most):iJ k most (lF rows p):=by
 unfold lF;split
 ·refine⟨by rw[aY];exact h.len,fun r hr=>?_,fun r hr=>?_⟩
  ·rcases List.mem_or_eq_of_mem_set hr with z|z
   ·exact h.nn r z
   ·omega
  ·rcases List.mem_or_eq_of_mem_set hr with z|z
   ·exact h.le r z
   ·omega
 ·exact h
theorem zP {k most:Int}(hm:1<=most):∀(l:List (Int×Int)) (rows:List Int),iJ k most rows->iJ k most (l.foldl lF rows)
 |[],_,h=>h
 |p::l,rows,h=>zP hm l (lF rows p) (o6 h hm)
theorem qQ {k most:Int}{rows:List Int}{p:Int×Int}(h:iJ k most rows)(hp:0<=p.2/\p.2<k){j:Int}(hj:0<=j):gI (lF rows p) j=if j=p.2/\0<gI rows p.1/\gI rows p.2=0 then 1 else gI rows j:=by
 have hl:=h.len;unfold lF;by_cases c:0<gI rows p.1/\gI rows p.2=0
 ·rw[if_pos c,GF hp.1 hj ⋯];by_cases e:j=p.2
  ·rw[if_pos e,if_pos ⟨e,c⟩]
  ·rw[if_neg e,if_neg fun z=>e z.1]
 ·rw[if_neg c,if_neg fun z=>c z.2]
theorem Ez {k most:Int}{rows:List Int}{p:Int×Int}(h:iJ k most rows)(hp:0<=p.2/\p.2<k){j:Int}(hj:0<=j)(c:0<gI rows j):0<gI (lF rows p) j:=by
 rw[qQ h hp hj];split
 ·decide
 ·exact c
theorem zO {k most:Int}(hm:1<=most):∀(l:List (Int×Int)) (rows:List Int),iJ k most rows->(∀p∈l,0<=p.2/\p.2<k)->∀{j:Int},0<=j->0<gI rows j->0<gI (l.foldl lF rows) j
 |[],_,_,_,_,_,c=>c
 |p::l,rows,h,hp,j,hj,c=>zO hm l (lF rows p) (o6 h hm) (fun q hq=>hp q (by simp[hq])) hj (Ez h (hp p (by simp)) hj c)
theorem ud {k most:Int}(hm:1<=most):∀(l:List (Int×Int)) (rows:List Int),iJ k most rows->(∀p∈l,0<=p.2/\p.2<k)->∀{j:Int},0<=j->(∀p∈l,p.2≠j)->gI (l.foldl lF rows) j=gI rows j
 |[],_,_,_,_,_,_=>rfl
 | p::l,rows,h,hp,j,hj,c=>by
  rw[List.foldl_cons,ud hm l (lF rows p) (o6 h hm) (fun q hq=>hp q (by simp[hq])) hj fun q hq=>c q (by simp[hq]),qQ h (hp p (by simp)) hj,if_neg fun z=>c p (by simp) z.1.symm]
theorem ue {k most:Int}(hm:1<=most):∀(l:List (Int×Int)) (rows:List Int),iJ k most rows->(∀p∈l,0<=p.1/\p.1<p.2/\p.2<k)->l.Pairwise (fun p q=>p.1<=q.1)->∀p∈l,0<gI (l.foldl lF rows) p.1->0<gI (l.foldl lF rows) p.2
 |[],_,_,_,_,p,hp,_=>by cases hp
 | q::l,rows,h,hl,hs,p,hp,c=>by
  obtain⟨s1,s2⟩:=List.pairwise_cons.mp hs;have h':=o6 (p:=q) h hm;have hl':∀p∈l,0<=p.1/\p.1<p.2/\p.2<k:=fun p hp=>hl p (by simp[hp]);have hb:∀p∈l,0<=p.2/\p.2<k:=fun p hp=>by have:=hl' p hp;omega
  rw[List.foldl_cons] at c ⊢;rcases List.mem_cons.mp hp with z|z
  ·subst z;obtain⟨a0,a1,a2⟩:=hl p (by simp);rw[ud hm l _ h' hb a0 fun q hq=>by have:=hl' q hq;have:=s1 q hq;omega] at c;rw[qQ h ⟨by omega,a2⟩ a0,if_neg fun z=>by omega] at c;refine zO hm l _ h' hb ⋯ ?_;rw[qQ h ⟨by omega,a2⟩ ⋯];have nn:=iz h.nn p.2;by_cases e:gI rows p.2=0
   ·rw[if_pos ⟨rfl,c,e⟩];decide
   ·rw[if_neg fun z=>e z.2.2];omega
  ·exact ue hm l _ h' hl' s2 p z c
theorem wJ:∀ar:Ar,nX (ar.map cM)=some ar
 |[]=>rfl
 | p::ar=>by
  rw[az,nX,wJ ar];rfl
theorem DD {ar:Ar}(h:ar.length<64):lx (.tuple (ar.map cM))=some (.list ((kQ ar).map cM),true):=by
 unfold lx wu;dsimp only;rw[wJ,aa,if_pos h];rfl
theorem wt {ar:Ar}{p:Int×Int}:p∈kQ ar<->p∈ar:=(List.mergeSort_perm ar Bg).mem_iff
theorem Dz (ar:Ar):(kQ ar).Pairwise (fun p q=>p.1<=q.1):=by
 refine (List.pairwise_mergeSort (le:=Bg) (fun a b c h1 h2=>?_) (fun a b=>?_) ar).imp fun h=>?_
 ·simp only[Bg,decide_eq_true_eq] at *;omega
 ·simp only[Bg,Bool.or_eq_true,decide_eq_true_eq];omega
 ·simp only[Bg,decide_eq_true_eq] at h;omega
noncomputable def pN (c:Int)(i:Nat)(n m:Int):List Int:=(ao n.toNat).map fun (x:Nat)=>pg c (61*(i:Int)+(x:Int)) m
noncomputable def uU (c:Int)(rows:List Int)(ar:Ar):List (List Int):=(ar.zipIdx).map fun p=>pN c p.2 (gI rows p.1.1) (gI rows p.1.2)
theorem GW {scr:D}{first c x most y:Int}(hc:cK [scr,.int first]=some (.int c,false))(hf:dk [.int c,.int x,.int (most+1)]=some (.int y,false)):jr [some (.int x,false),some (scr,false),some (.int first,false),some (.int most,false)]=some (.int y,false):=by
 simp[jr,cB,b7,cy,cj,hc,d2,cc,cC,dC,eZ,hf]
theorem GV {c x i y:Int}{rows:List Int}{a:Int×Int}(i2:cN (.list (rows.map .int)) (.int a.2)=some (.int (gI rows a.2),false))(hf:dk [.int c,.int (61*i+x),.int (gI rows a.2)]=some (.int y,false)):kv [some (.int x,false),some (.int c,false),some (.list (rows.map .int),true),some (.int i,false),some (cM a,false)]=some (.int y,false):=by
 have hm:nZ (.int 61) (.int i)=some (.int (61*i),false):=BV (by decide) (by decide);simp[kv,cB,b7,cy,cj,d2,cc,cC,dC,eZ,hm,qq,i2,hf]
noncomputable def rF (f:Nat->Int)(k:Int):List Int:=(ao k.toNat).map f
theorem A9 {scr:D}{first c k most:Int}{ar:Ar}{f:Nat->Int}(hc:cK [scr,.int first]=some (.int c,false))(hf:∀x:Nat,dk [.int c,.int (x:Int),.int (most+1)]=some (.int (f x),false))(hk:0<=k)(hk2:k<1000) :
  (cJ 4 (dD (cS (d2 cN (cc 2) (cC (dC (.int 0))))) 1 [0,1,3] (gN 0) fU jr)) [some (scr,false),some (.int first,false),some (cg k ar,false),some (.int most,false),none,none,none,none,none,none,none] =
   some (.next [some (scr,false),some (.int first,false),some (cg k ar,false),some (.int most,false),some (.list ((rF f k).map .int),true),none,none,none,none,none,none]):=by
 have hi:(cS (d2 cN (cc 2) (cC (dC (.int 0))))) [some (scr,false),some (.int first,false),some (cg k ar,false),some (.int most,false),none,none,none,none,none,none,none]=some (fv 0 k.toNat):=by
  exact dI (o:=false) (by simp[d2,cc,cC,dC,mz]) hk ⋯
 have hz:(fv 0 k.toNat).length<=sizeLine:=sZ (by rw[dA,af,aI];omega);have hcp:eT 1 [0,1,3] [some (scr,false),some (.int first,false),some (cg k ar,false),some (.int most,false),none,none,none,none,none,none,none]=[none,some (scr,false),some (.int first,false),some (.int most,false)]:=by simp[eT]
 have hcm:iD (gN 0) fU jr [none,some (scr,false),some (.int first,false),some (.int most,false)] (fv 0 k.toNat)=some ((rF f k).map .int):=by
  rw[dA,rF,bg];exact kZ (ao k.toNat) fun x _=>⟨_,false,rfl,GW hc (hf x)⟩
 rw[cJ,dD,hi,aa,if_pos hz,hcp,hcm];rfl
theorem BE {c k most:Int}(hk:0<=k)(hm:0<=most):iJ k most (nF c k most):=by
 refine⟨by rw[nF,af,aI];omega,fun r hr=>?_,fun r hr=>?_⟩
 ·obtain⟨x,_,rfl⟩:=List.mem_map.mp hr;exact m6 ⋯
 ·obtain⟨x,_,rfl⟩:=List.mem_map.mp hr;have:=m7 (c:=c) (k:=(x:Int)) (b:=most+1) ⋯;omega
theorem C5 {k most:Int}{rows:List Int}{s0 s1 s2 s3 s7 s8 s9 s10:Option Vl}{p:Int×Int}(h:iJ k most rows)(hp:0<=p.1/\p.1<p.2/\p.2<k) :
  gm [s0,s1,s2,s3,some (.list (rows.map .int),true),some (.int p.1,false),some (.int p.2,false),s7,s8,s9,s10]=some (.next [s0,s1,s2,s3,some (.list ((lF rows p).map .int),true),some (.int p.1,false),some (.int p.2,false),s7,s8,s9,s10]):=by
 have hl:=h.len;have i1:=rS (xs:=rows) (i:=p.1) hp.1 ⋯;have i2:=rS (xs:=rows) (i:=p.2) ⋯ ⋯;have hx:vZ (rows.map PyData.int).length p.2=some p.2.toNat:=by
  unfold vZ;rw[if_pos ⋯,if_pos (by rw[af];omega)]
 rw[af] at hx;unfold lF;by_cases c1:0<gI rows p.1
 ·by_cases c2:gI rows p.2=0
  ·rw[if_pos ⟨c1,c2⟩];simp[gm,il,qD,de,tChain,cC,d2,cc,dC,i1,i2,A7,c1,fE,c2,DK,cj,xQ,lY,hx,List.map_set]
  ·rw[if_neg fun z=>c2 z.2];simp[gm,il,qD,de,tChain,cC,d2,cc,dC,i1,i2,A7,c1,fE,c2,fk]
 ·rw[if_neg fun z=>c1 z.1];simp[gm,il,qD,de,tChain,cC,d2,cc,dC,i1,A7,c1,fk]
theorem A8 {k most c:Int}{rows:List Int}{scr:D}{first:Int}{s2 s3 s5 s6 s10:Option Vl}{a:Int×Int}{i:Nat}{g:List (List Int)}{f:Nat->Int}(hc:cK [scr,.int (first+1)]=some (.int c,false))(hf:0<gI rows a.1->∀x:Nat,dk [.int c,.int (61*(i:Int)+(x:Int)),.int (gI rows a.2)]=some (.int (f x),false))(h:iJ k most rows)(hm:most<1000)(ha:0<=a.1/\a.1<a.2/\a.2<k)(hg:g.length<1000000) :
  ju [some (scr,false),some (.int first,false),s2,s3,some (.list (rows.map .int),true),s5,s6,some (.list (g.map cR),true),some (.int (i:Int),false),some (cM a,false),s10] =
   some (.next [some (scr,false),some (.int first,false),s2,s3,some (.list (rows.map .int),true),s5,s6,some (.list ((g++[rF f (gI rows a.1)]).map cR),true),some (.int (i:Int),false),some (cM a,false),some (.int c,false)]):=by
 have hl:=h.len;have i1:=rS (xs:=rows) (i:=a.1) ha.1 ⋯;have i2:=rS (xs:=rows) (i:=a.2) ⋯ ⋯;have n0:=iz h.nn a.1;have n1:=j8 (m:=most) (by have:=iz h.nn a.1;have:=h.le;by_cases e:rows=[];(subst e;simp at hl;omega);obtain⟨r,hr⟩:=JT rows e;have:=h.le r hr;have:=h.nn r hr;omega) h.le a.1;have e1:(cJ 10 (cB cK (b7 (cj 0) (b7 (d2 eZ (cc 1) (cC (dC (.int 1)))) cy)))) [some (scr,false),some (.int first,false),s2,s3,some (.list (rows.map .int),true),s5,s6,some (.list (g.map cR),true),some (.int (i:Int),false),some (cM a,false),s10] =
   some (.next [some (scr,false),some (.int first,false),s2,s3,some (.list (rows.map .int),true),s5,s6,some (.list (g.map cR),true),some (.int (i:Int),false),some (cM a,false),some (.int c,false)]):=by
  simp[cJ,cB,b7,cy,cj,d2,cc,cC,dC,eZ,hc]
 have hi:(cS (d2 cN (cc 4) (cC (d2 cN (cc 9) (cC (dC (.int 0))))))) [some (scr,false),some (.int first,false),s2,s3,some (.list (rows.map .int),true),s5,s6,some (.list (g.map cR),true),some (.int (i:Int),false),some (cM a,false),some (.int c,false)]=some (fv 0 (gI rows a.1).toNat):=by
  exact dI (o:=false) (by simp[d2,cc,cC,dC,lU,i1]) n0 ⋯
 have hz:(fv 0 (gI rows a.1).toNat).length<=sizeLine:=sZ (by rw[dA,af,aI];omega);have hcp:eT 1 [10,4,8,9] [some (scr,false),some (.int first,false),s2,s3,some (.list (rows.map .int),true),s5,s6,some (.list (g.map cR),true),some (.int (i:Int),false),some (cM a,false),some (.int c,false)] =
   [none,some (.int c,false),some (.list (rows.map .int),true),some (.int (i:Int),false),some (cM a,false)]:=by simp[eT]
 have hcm:iD (gN 0) fU kv [none,some (.int c,false),some (.list (rows.map .int),true),some (.int (i:Int),false),some (cM a,false)] (fv 0 (gI rows a.1).toNat)=some ((rF f (gI rows a.1)).map .int):=by
  rw[dA,rF,bg];refine kZ (ao (gI rows a.1).toNat) fun x hx=>⟨_,false,rfl,GV i2 (hf ?_ x)⟩;rw[aZ] at hx;omega
 have hap:(g.map cR).length<sizeLine:=zk (by rw[af];exact hg);rw[ju,cH,e1,aa];dsimp only;rw[ik,d1,cC,dD,hi,aa,if_pos hz,hcp,hcm];simp only[av,aa,dg,lY,aK,aM,hap,if_true,bT,aX,az,bI,cR]
theorem Al {c n m:Int}{i:Nat}(hn:0<=n)(go:0<n->0<m):((pN c i n m).length:Int)=n/\∀x∈pN c i n m,0<=x/\x<m:=by
 refine⟨by rw[pN,af,aI];omega,fun x hx=>?_⟩;obtain⟨y,hy,rfl⟩:=List.mem_map.mp hx;rw[aZ] at hy;have hm:=go ⋯;exact⟨m6 hm,m7 hm⟩
theorem sN {k most c:Int}{rows:List Int}{scr:D}{first:Int}{s2 s3 s5 s6:Option Vl}(hc:cK [scr,.int (first+1)]=some (.int c,false))(h:iJ k most rows)(hm:most<1000):∀(l:List ((Int×Int)×Nat)) (g:List (List Int)) (x y z:Option Vl),(∀p∈l,(0<=p.1.1/\p.1.1<p.1.2/\p.1.2<k)/\(0<gI rows p.1.1->0<gI rows p.1.2))->g.length+l.length<=1000->∃x' y' z',
  eN (gT [gN 8,gN 9]) ju (l.map fun p=>.tuple [.int (p.2:Int),cM p.1]) [some (scr,false),some (.int first,false),s2,s3,some (.list (rows.map .int),true),s5,s6,some (.list (g.map cR),true),x,y,z] =
   some (.next [some (scr,false),some (.int first,false),s2,s3,some (.list (rows.map .int),true),s5,s6,some (.list ((g++l.map fun p=>pN c p.2 (gI rows p.1.1) (gI rows p.1.2)).map cR),true),x',y',z'])
 |[],g,x,y,z,_,_=>⟨x,y,z,by simp[eN]⟩
 | p::l,g,x,y,z,hp,hg=>by
  rw[aJ] at hg;obtain⟨x',y',z',e⟩:=sN (s2:=s2) (s3:=s3) (s5:=s5) (s6:=s6) hc h hm l (g++[pN c p.2 (gI rows p.1.1) (gI rows p.1.2)]) (some (.int (p.2:Int),false)) (some (cM p.1,false)) (some (.int c,false)) (fun q hq=>hp q (by simp[hq])) (by rw[aw,aP];omega);refine⟨x',y',z',?_⟩;rw[az,eN];simp only[gT,og,gN,bT,aa];rw[A8 (f:=fun x=>pg c (61*(p.2:Int)+(x:Int)) (gI rows p.1.2)) hc (fun z x=>m8 ((hp p (by simp)).2 z)) h hm (hp p (by simp)).1 ⋯,aa];dsimp only;refine Eq.trans e ?_;rw[ba];rfl
theorem qV (ns:List Int)(first:Nat){k most:Int}{ar:Ar}(w:Wf k ar)(hk2:k<1000)(ha:ar.length<64)(hm:1<=most)(hm2:most<1000):∃rows steps,dM [.list (ns.map .int),.int (first:Int),cg k ar,.int most]=some (cp rows steps,false)/\cV k ar rows steps/\(∀r∈rows,r<=most):=by
 have c1:=je ns first
 have c2:=je ns (first+1);rw[show (((first+1:Nat)):Int)=(first:Int)+1 by omega] at c2;generalize cell ns first=c at c1
 generalize cell ns (first+1)=c' at c2;generalize PyData.list (ns.map .int)=scr at c1 c2;have k0:0<=k:=by have:=w.lo;omega
 have t1:=A9 (ar:=ar) (most:=most) (f:=fun (i:Nat)=>pg c (i:Int) (most+1)) c1 (fun x=>m8 ⋯) k0 hk2;rw[show rF (fun (i:Nat)=>pg c (i:Int) (most+1)) k=nF c k most from rfl] at t1;have r0:=BE (c:=c) (most:=most) k0 ⋯;have mem:∀p∈kQ ar,0<=p.1/\p.1<p.2/\p.2<k:=fun p hp=>w.ok p (wt.mp hp);have r1:=zP (k:=k) hm (kQ ar) (nF c k most) r0;have go:∀p∈ar,0<gI ((kQ ar).foldl lF (nF c k most)) p.1->0<gI ((kQ ar).foldl lF (nF c k most)) p.2:=fun p hp=>ue hm (kQ ar) _ r0 mem (Dz ar) p (wt.mpr hp);obtain⟨ρ1,l1,⟨x5,x6,e1⟩,_⟩:=mD (g:=gT [gN 5,gN 6]) (b:=gm) (d:=cM) (f:=lF) (P:=fun rows ρ=>(∃x y,ρ=[some (scr,false),some (.int (first:Int),false),some (cg k ar,false),some (.int most,false),some (.list (rows.map .int),true),x,y,none,none,none,none])/\iJ k most rows) (kQ ar) (nF c k most) _ ⟨⟨none,none,rfl⟩,r0⟩ (fun p hp rows ρ zz=>by
  obtain ⟨⟨x,y,e⟩,ro⟩:=zz;subst e;exact⟨_,_,rfl,C5 ro (mem p hp),⟨_,_,rfl⟩,o6 ro hm⟩)
 generalize (kQ ar).foldl lF (nF c k most)=rows at r1 go e1;subst e1;have mem2:∀p∈ar.zipIdx,p.1∈ar:=fun p hp=>by
  obtain⟨q,j⟩:=p;exact (List.mem_zipIdx hp).2.2▸List.getElem_mem _
 obtain⟨y8,y9,y10,l2⟩:=sN (s2:=some (cg k ar,false)) (s3:=some (.int most,false)) (s5:=x5) (s6:=x6) c2 r1 hm2 ar.zipIdx [] none none none (fun p hp=>⟨w.ok _ (mem2 p hp),go _ (mem2 p hp)⟩) (by rw[b6];simp;omega);rw[<-kW] at l2;have t2:(eh (da (fF (d1 lx (cC (d2 cN (cc 2) (cC (dC (.int 1)))))))) (gT [(gN 5),(gN 6)]) gm) [some (scr,false),some (.int (first:Int),false),some (cg k ar,false),some (.int most,false),some (.list ((nF c k most).map .int),true),none,none,none,none,none,none] =
   some (.next [some (scr,false),some (.int (first:Int),false),some (cg k ar,false),some (.int most,false),some (.list (rows.map .int),true),x5,x6,none,none,none,none]):=by
  have hi:(da (fF (d1 lx (cC (d2 cN (cc 2) (cC (dC (.int 1)))))))) [some (scr,false),some (.int (first:Int),false),some (cg k ar,false),some (.int most,false),some (.list ((nF c k most).map .int),true),none,none,none,none,none,none]=some ((kQ ar).map cM):=by
   simp[da,fF,d1,cC,d2,cc,dC,kr,DD ha,dS]
  rw[eh,hi,aa,l1]
 have t3:(cJ 7 (df cy)) [some (scr,false),some (.int (first:Int),false),some (cg k ar,false),some (.int most,false),some (.list (rows.map .int),true),x5,x6,none,none,none,none] =
   some (.next [some (scr,false),some (.int (first:Int),false),some (cg k ar,false),some (.int most,false),some (.list (rows.map .int),true),x5,x6,some (.list ([].map cR),true),none,none,none]):=by simp[cJ,df,cy]
 have t4:(eh (fO (fF (d2 cN (cc 2) (cC (dC (.int 1)))))) (gT [(gN 8),(gN 9)]) ju) [some (scr,false),some (.int (first:Int),false),some (cg k ar,false),some (.int most,false),some (.list (rows.map .int),true),x5,x6,some (.list ([].map cR),true),none,none,none] =
   some (.next [some (scr,false),some (.int (first:Int),false),some (cg k ar,false),some (.int most,false),some (.list (rows.map .int),true),x5,x6,some (.list ((uU c' rows ar).map cR),true),y8,y9,y10]):=by
  have hi:(fO (fF (d2 cN (cc 2) (cC (dC (.int 1)))))) [some (scr,false),some (.int (first:Int),false),some (cg k ar,false),some (.int most,false),some (.list (rows.map .int),true),x5,x6,some (.list ([].map cR),true),none,none,none]=some (fJ 0 (ar.map cM)):=by
   simp[fO,fF,d2,cC,cc,dC,kr,dS]
  rw[eh,hi,aa,l2];rfl
 refine⟨rows,uU c' rows ar,?_,⟨r1.len,r1.nn,by rw[uU,af,b6],fun i a s e1 e2=>?_⟩,r1.le⟩
 ·have run:dM [scr,.int (first:Int),cg k ar,.int most]=(oC [some (scr,false),some (.int (first:Int),false),some (cg k ar,false),some (.int most,false),none,none,none,none,none,none,none]).bind eD:=rfl;rw[run,oC,cH,t1,aa];dsimp only;rw[cH,t2,aa];dsimp only;rw[cH,t3,aa];dsimp only;rw[cH,t4,aa];simp[dw,eK,b7,cy,d1,cc,dg,Bf,eD,cp,cR]
 ·unfold uU at e2;rw[au,bJ,e1] at e2;simp only[av,Option.some.injEq] at e2;subst e2;have hp:a∈ar:=aA e1;exact Al (iz r1.nn _) (go a hp)
theorem rg (i:Int):gq [.int i]=some (.bool true,false):=by
 simp[gq,ki,eD,qw,dw,tL,d1,jA,zL,cc,tM,EF]
theorem BW (x:Int):gk [some (.int x,false)]=some (.bool true,false):=by
 simp[gk,cB,b7,cy,cj,rg]
theorem qj {α:Type}(xs:List α):pZ (.list (xs.map fun _=>.bool true))=some (.bool true,false):=by
 rw[pZ,uD (fun _=>true) xs];simp
theorem n5 {xs:List Int}(h:xs.length<=1000000):eM [cR xs]=some (.bool true,false):=by
 have hz:(xs.map PyData.int).length<=sizeLine:=sZ (by rw[af];exact h);have hc:(dD (da (dY 0)) 1 [] (gN 0) fU gk) [some (cR xs,false)]=some (.list (xs.map fun _=>.bool true),true):=by
  have hi:(da (dY 0)) [some (cR xs,false)]=some (xs.map .int):=by simp[da,dY,cR]
  have hcp:eT 1 [] [some (cR xs,false)]=[none]:=by simp[eT]
  rw[dD,hi,aa,if_pos hz,hcp,kZ xs fun x _=>⟨_,false,rfl,BW x⟩];rfl
 have run:eM [cR xs]=(kK [some (cR xs,false)]).bind eD:=rfl;have h1:(d1 (jA "tuple") (cc 0)) [some (cR xs,false)]=some (.bool true,false):=by simp[d1,cc,cR,jA,zL]
 have h2:(d1 pZ (cC (dD (da (dY 0)) 1 [] (gN 0) fU gk))) [some (cR xs,false)]=some (.bool true,false):=by
  rw[d1,cC,hc,av,aa,qj]
 rw[run,kK,dw,tL,h1,aa];simp[tM,h2,eD]
theorem Hy {xs:List Int}(h:xs.length<=1000000):ic [some (cR xs,false)]=some (.bool true,false):=by
 simp[ic,cB,b7,cy,cj,n5 h]
theorem DV {rows:List Int}{steps:List (List Int)}(hr:rows.length<=1000000)(hl:steps.length<=1000000)(hs:∀s∈steps,s.length<=1000000):iW [cp rows steps,cp rows steps]=some (.bool true,false):=by
 have run:iW [cp rows steps,cp rows steps]=(ot [some (cp rows steps,false),some (cp rows steps,false)]).bind eD:=rfl;have l2:fK (cp rows steps)=some (.int 2,false):=by simp[cp,fK]
 have a1:jA "tuple" (cp rows steps)=some (.bool true,false):=by simp[cp,jA,zL]
 have a2:jA "tuple" (.tuple (steps.map cR))=some (.bool true,false):=by simp[jA,zL]
 have t1:(sY (gv (lX (d1 (jA "tuple") (cc 0)))) (sY (de (cC (d1 fK (cc 0))) [(uC,(cC (dC (.int 2))))]) (gv (lX (cB eM (b7 (d2 cN (cc 0) (cC (dC (.int 0)))) cy)))))) [some (cp rows steps,false),some (cp rows steps,false)]=some false:=by
  simp[sY,gv,lX,d1,cc,a1,tM,de,tChain,cC,l2,dC,pE,cB,b7,cy,d2,nK,n5 hr]
 have hi:(da (fF (d2 cN (cc 0) (cC (dC (.int 1)))))) [some (cp rows steps,false),some (cp rows steps,false)]=some (steps.map cR):=by simp[da,fF,d2,cc,cC,dC,sO,dS]
 have hz:(steps.map cR).length<=sizeLine:=sZ (by rw[af];exact hl);have hcp:eT 1 [] [some (cp rows steps,false),some (cp rows steps,false)]=[none]:=by simp[eT]
 have hc:(dD (da (fF (d2 cN (cc 0) (cC (dC (.int 1)))))) 1 [] (gN 0) fU ic) [some (cp rows steps,false),some (cp rows steps,false)]=some (.list (steps.map fun _=>.bool true),true):=by
  rw[dD,hi,aa,if_pos hz,hcp,kZ (β:=fun _=>.bool true) steps fun x hx=>⟨_,false,rfl,Hy (hs x hx)⟩];rfl
 have h2:(lX (d1 pZ (cC (dD (da (fF (d2 cN (cc 0) (cC (dC (.int 1)))))) 1 [] (gN 0) fU ic)))) [some (cp rows steps,false),some (cp rows steps,false)]=some true:=by
  rw[lX,d1,cC,hc,av,aa,qj];rfl
 have t2:(sY (gv (lX (d1 (jA "tuple") (cC (d2 cN (cc 0) (cC (dC (.int 1)))))))) (gv (lX (d1 pZ (cC (dD (da (fF (d2 cN (cc 0) (cC (dC (.int 1)))))) 1 [] (gN 0) fU ic)))))) [some (cp rows steps,false),some (cp rows steps,false)]=some false:=by
  have h3:(lX (d1 (jA "tuple") (cC (d2 cN (cc 0) (cC (dC (.int 1))))))) [some (cp rows steps,false),some (cp rows steps,false)]=some true:=by simp[lX,d1,cC,d2,cc,dC,sO,a2,tM]
  simp only[sY,gv,h3,h2,aa,Bool.not_true,Bool.false_eq_true,if_false]
 have e3:=pF (Eb rows steps);rw[run,ot,cH,il,t1,aa,if_neg Bool.false_ne_true,fk,aa];dsimp only;rw[cH,il,t2,aa,if_neg Bool.false_ne_true,fk,aa];simp[dw,sH,de,tChain,cc,e3,eD]
noncomputable def dP (ar:Ar):Int->List Nat->Prop
 |_,[]=>True
 |kd,i::p=>∃a,ar[i]?=some a/\a.1=kd/\dP ar a.2 p
theorem fZ {ar:Ar}{kd:Int}{i:Nat}{p:List Nat}{a:Int×Int}(h:ar[i]?=some a):dH ar kd (i::p)=dH ar a.2 p:=by
 have e:(ar.getD i (0,0))=a:=by rw[ag,h];rfl
 cases p with
 |nil =>
  show (ar.getD i (0,0)).2=a.2;rw[e]
 |cons j p =>
  unfold dH;rw[List.getLast?_cons_cons];cases hq:(j::p).getLast? with
  |none=>simp at hq
  |some q=>rfl
theorem dP.snoc {ar:Ar}:∀{p:List Nat}{kd:Int}{i:Nat}{a:Int×Int},dP ar kd p->ar[i]?=some a->a.1=dH ar kd p->dP ar kd (p++[i])
 |[],kd,i,a,_,h1,h2=>⟨a,h1,h2,trivial⟩
 |j::p,kd,i,a,⟨b,g1,g2,g3⟩,h1,h2=>⟨b,g1,g2,dP.snoc g3 h1 (by rw[h2,fZ g1])⟩
theorem tX {ar:Ar}{kind other:Int}:∀(m:Nat) (r f:List (List Nat)),(∀q∈r,dP ar kind q)->(∀q∈f,dP ar kind q)->∀p∈run ar kind other m r f,dP ar kind p
 |0,r,f,_,hf,p,hp=>hf p hp
 | m+1,r,f,hr,hf,p,hp=>by
  refine tX m (step ar kind r) (f++lZ ar kind other r) (fun q hq=>?_) (fun q hq=>?_) p hp
  ·obtain⟨p',i,a,hp',e1,e2,e3,_⟩:=kP hq;rw[e1];exact (hr p' hp').snoc e2 e3
  ·rcases List.mem_append.mp hq with z|z
   ·exact hf q z
   ·exact hr q (List.mem_filter.mp z).1
theorem zf {k:Int}{ar:Ar}{kind other:Int}:∀p∈gn k ar kind other,dP ar kind p:=tX _ _ _ (fun q hq=>by cases List.mem_singleton.mp hq;trivial) (fun q hq=>by cases hq)
noncomputable def ny (steps:List (List Int)):List Nat->Int->Int
 |[],x=>x
 |i::p,x=>ny steps p (gI (steps.getD i []) x)
theorem i7 {k:Int}{ar:Ar}{rows:List Int}{steps:List (List Int)}(b:cV k ar rows steps){i:Nat}{a:Int×Int}(h:ar[i]?=some a):∃s,steps[i]?=some s/\steps.getD i []=s/\(s.length:Int)=gI rows a.1/\∀x∈s,0<=x/\x<gI rows a.2:=by
 have hi:i<ar.length:=(List.getElem?_eq_some_iff.mp h).1;have hi2:i<steps.length:=by rw[b.sl];exact hi
 have e:=aj hi2;obtain⟨h1,h2⟩:=b.st i a _ h e;exact⟨_,e,by rw[ag,e];rfl,h1,h2⟩
theorem iA {xs:List Int}{i:Int}(h0:0<=i)(h1:i<xs.length):gI xs i∈xs:=aA (mX h0 h1)
theorem yF {k:Int}{ar:Ar}{rows:List Int}{steps:List (List Int)}(b:cV k ar rows steps):∀(p:List Nat) (kd x:Int),dP ar kd p->0<=x->x<gI rows kd->0<=ny steps p x/\ny steps p x<gI rows (dH ar kd p)
 |[],kd,x,_,h0,h1=>⟨h0,h1⟩
 | i::p,kd,x,⟨a,g1,g2,g3⟩,h0,h1=>by
  obtain⟨s,_,e,l,m⟩:=i7 b g1;rw[fZ g1,ny,e];have:=m _ (iA h0 (by rw[l,g2];exact h1));exact yF b p a.2 _ g3 this.1 this.2
open PySem.SeqAt (shaped noMix)
open PySem.Spec (same same_self)
theorem zR {e:Int}{p:List Nat}:∀{r:Ar}{s i:Nat}{a:Int×Int},r[i]?=some a->a.1=e->p++[s+i]∈iN e p s r
 |[],s,i,a,h,_=>by simp at h
 | b::r,s,0,a,h,he=>by
  rw[aM,Option.some.injEq] at h;subst h;unfold iN;rw[if_pos he];simp
 | b::r,s,i+1,a,h,he=>by
  have q:=zR (p:=p) (s:=s+1) (r:=r) (i:=i) (a:=a) (by simpa using h) he;rw[show s+1+i=s+(i+1) by omega] at q;unfold iN;split
  ·exact aG _ q
  ·exact q
theorem Dy {ar:Ar}{kind:Int}{r:List (List Nat)}{p:List Nat}{i:Nat}{a:Int×Int}(hp:p∈r)(hi:ar[i]?=some a)(ha:a.1=dH ar kind p):p++[i]∈step ar kind r:=by
 refine List.mem_flatMap.mpr ⟨p,hp,?_⟩;have:=zR (p:=p) (s:=0) hi ha;rwa[bE] at this
theorem xg {ar:Ar}{kind:Int}:∀(n:Nat) (r:List (List Nat)),lay ar kind (n+1) r=step ar kind (lay ar kind n r)
 |0,r=>rfl
 |n+1,r=>xg n (step ar kind r)
theorem zr {ar:Ar}{kind other:Int}{p:List Nat}:∀(m:Nat) (r f:List (List Nat)),p∈f->p∈run ar kind other m r f
 |0,_,_,h=>h
 |m+1,r,f,h=>zr m _ _ (aS _ h)
theorem zu {ar:Ar}{kind other:Int}{p:List Nat}:∀(m:Nat) (r f:List (List Nat)) (j:Nat),j<m->p∈lay ar kind j r->dH ar kind p=other->p∈run ar kind other m r f
 |0,_,_,_,h,_,_=>by omega
 |m+1,r,f,0,_,hp,he=>zr m _ _ (aL _ (List.mem_filter.mpr ⟨hp,decide_eq_true he⟩))
 |m+1,r,f,j+1,h,hp,he=>zu m (step ar kind r) _ j ⋯ hp he
theorem dP.unsnoc {ar:Ar}:∀{p:List Nat}{kd:Int}{i:Nat},dP ar kd (p++[i])->dP ar kd p/\∃a,ar[i]?=some a/\a.1=dH ar kd p
 |[],kd,i,⟨a,h1,h2,_⟩=>⟨trivial,a,h1,h2⟩
 | j::p,kd,i,⟨b,g1,g2,g3⟩=>by
  obtain⟨h1,a,h2,h3⟩:=dP.unsnoc (p:=p) g3;exact⟨⟨b,g1,g2,h1⟩,a,h2,by rw[h3,fZ g1]⟩
theorem uw {ar:Ar}{kind:Int}:∀(n:Nat) (p:List Nat),p.length=n->dP ar kind p->p∈lay ar kind n [[]]
 | 0,p,hl,_=>by
  rw[List.length_eq_zero_iff] at hl;subst hl;exact List.mem_singleton.mpr rfl
 | n+1,p,hl,h=>by
  have hne:p≠[]:=fun e=>by rw[e] at hl;simp at hl
  have e:=List.dropLast_concat_getLast hne;generalize p.dropLast=q at e;generalize p.getLast hne=i at e;subst e;obtain⟨h1,a,h2,h3⟩:=h.unsnoc;rw[xg];exact Dy (uw n q (by simpa using hl) h1) h2 h3
theorem pC {k:Int}{ar:Ar}(w:Wf k ar):∀(p:List Nat) (kd:Int),dP ar kd p->kd+p.length<=dH ar kd p
 |[],kd,_=>by rw[pb];simp
 | i::p,kd,⟨a,g1,g2,g3⟩=>by
  have h1:=pC w p a.2 g3;have h2:=w.ok a (aA g1);rw[fZ g1,aJ];omega
theorem pD {k:Int}{ar:Ar}(w:Wf k ar):∀(p:List Nat) (kd:Int),dP ar kd p->kd<k->dH ar kd p<k
 |[],kd,_,h=>h
 | i::p,kd,⟨a,g1,g2,g3⟩,h=>by
  rw[fZ g1];exact pD w p a.2 g3 (w.ok a (aA g1)).2.2
theorem EM {k:Int}{ar:Ar}(w:Wf k ar){kind other:Int}(h0:0<=kind)(h1:kind<k){p:List Nat}(hc:dP ar kind p)(he:dH ar kind p=other):p∈gn k ar kind other:=by
 have a:=pC w p kind hc;have b:=pD w p kind hc h1;exact zu _ _ _ p.length ⋯ (uw p.length p rfl hc) he
theorem jv {k:Int}{ar:Ar}(w:Wf k ar)(h4:k<=4){kind other:Int}(h0:0<=kind)(h1:kind<k){p:List Nat}:p∈gn k ar kind other<->dP ar kind p/\dH ar kind p=other :=
 ⟨fun h=>⟨zf p h,(Dc h4 p h).1⟩,fun h=>EM w h0 h1 h.1 h.2⟩
theorem qu {ar:Ar}:∀(p q:List Nat) (kd:Int),dP ar kd p->dH ar kd (p++q)=dH ar (dH ar kd p) q
 |[],q,kd,_=>rfl
 | i::p,q,kd,⟨a,g1,g2,g3⟩=>by
  rw[JD,fZ g1,fZ g1];exact qu p q a.2 g3
theorem dP.append {ar:Ar}:∀{p q:List Nat}{kd:Int},dP ar kd p->dP ar (dH ar kd p) q->dP ar kd (p++q)
 |[],q,kd,_,h=>h
 |i::p,q,kd,⟨a,g1,g2,g3⟩,h=>⟨a,g1,g2,dP.append g3 (by rw[fZ g1] at h;exact h)⟩
theorem dP.ok {ar:Ar}:∀{p:List Nat}{kd:Int},dP ar kd p->iK ar p
 |[],_,_,j,hj=>by cases hj
 | i::p,kd,⟨a,g1,g2,g3⟩,j,hj=>by
  rcases List.mem_cons.mp hj with z|z
  ·subst z;exact (List.getElem?_eq_some_iff.mp g1).1
  ·exact dP.ok g3 j z
theorem qh {k:Int}{ar:Ar}(w:Wf k ar){kd:Int}(h0:0<=kd)(h1:kd<k){p:List Nat}(h:dP ar kd p):(p.length:Int)<k:=by
 have a:=pC w p kd h;have b:=pD w p kd h h1;omega
theorem sd (steps:List (List Int)):∀(p q:List Nat) (x:Int),ny steps (p++q) x=ny steps q (ny steps p x)
 |[],q,x=>rfl
 |i::p,q,x=>sd steps p q _
theorem Ax {p q:List Nat}(h:cu p=cu q):p=q:=by
 unfold cu at h;injection h with h
 have hi:Function.Injective my:=fun a b e=>by
  unfold my at e;injection e with e
  omega
 exact (List.map_inj_right hi).mp h
structure lQ (k:Int)(ar:Ar)(k2:Int)(ar2:Ar)(pl:List Int)(ws:List (List Nat)):Prop where
 len:(pl.length:Int)=k
 nn:∀x∈pl,0<=x/\x<k2
 wl:ws.length=ar.length
 way:∀(i:Nat) (a:Int×Int) (p:List Nat),ar[i]?=some a->ws[i]?=some p->dP ar2 (gI pl a.1) p/\dH ar2 (gI pl a.1) p=gI pl a.2
noncomputable def tP (ws:List (List Nat)):D:=.tuple (ws.map cu)
noncomputable def dE (pl:List Int)(ws:List (List Nat)):D:=.tuple [cR pl,tP ws]
theorem uV (pl:List Int)(ws:List (List Nat)):cN (dE pl ws) (.int 0)=some (cR pl,false):=by simp[dE,cN,sV,vZ]
theorem x8 (pl:List Int)(ws:List (List Nat)):cN (dE pl ws) (.int 1)=some (tP ws,false):=by simp[dE,cN,sV,vZ]
theorem HQ {k:Int}{xs:List Int}(hl:(xs.length:Int)=k){P:Int->Prop}(h:∀x∈xs,P x){i:Int}(h0:0<=i)(h1:i<k):P (gI xs i):=h _ (iA h0 ⋯)
noncomputable def Cu (k2:Int)(ar2:Ar)(pl:List Int)(kind spot:Int)(a:Int×Int):Bool:=!(decide (a.2=kind)&&decide (gn k2 ar2 (gI pl a.1) spot=[]))
noncomputable def o7 (k2:Int)(ar2:Ar)(pl:List Int)(ar:Ar)(kind spot:Int):Bool:=ar.all (Cu k2 ar2 pl kind spot)
theorem EJ {ps:List (List Nat)}:nA (.list (ps.map cu)) (.list [])=some (decide (ps=[])):=by
 have nb0:Nb 2 (.list []):=.list .nil;by_cases h:ps=[]
 ·subst h;rw[decide_eq_true rfl];exact pF nb0
 ·rw[C3 (B8 ps) nb0 (by simpa using h),decide_eq_false h]
theorem AZ {k2 kind spot:Int}{ar2:Ar}{pl:List Int}{s2:Option Vl}{a:Int×Int}(w2:Wf k2 ar2)(h4:k2<=4)(ha2:ar2.length<=5)(hpl:∀x∈pl,0<=x/\x<k2)(ha:a.2=kind->0<=a.1/\a.1<pl.length) :
  ie [some (cg k2 ar2,false),some (.list (pl.map .int),false),s2,some (.int kind,false),some (.int spot,false),some (.int a.1,false),some (.int a.2,false)] =
   if Cu k2 ar2 pl kind spot a=true then some (.next [some (cg k2 ar2,false),some (.list (pl.map .int),false),s2,some (.int kind,false),some (.int spot,false),some (.int a.1,false),some (.int a.2,false)]) else some (.ret (.bool false,false)):=by
 unfold Cu;by_cases h:a.2=kind
 ·obtain⟨h0,h1⟩:=ha h;have i1:=rS (xs:=pl) h0 h1;have hp:=hpl _ (iA h0 h1);have e:=oY (other:=spot) w2 h4 ha2 hp.1 hp.2;have c:=EJ (ps:=gn k2 ar2 (gI pl a.1) spot);by_cases hq:gn k2 ar2 (gI pl a.1) spot=[]
  ·rw[decide_eq_true hq] at c ⊢;simp[ie,il,qD,de,tChain,cc,fE,h,cC,cB,b7,cy,cj,d2,i1,e,df,c,dw,dC]
  ·rw[decide_eq_false hq] at c ⊢;simp[ie,il,qD,de,tChain,cc,fE,h,cC,cB,b7,cy,cj,d2,i1,e,df,c,fk]
 ·simp[ie,il,qD,de,tChain,cc,fE,h,fk]
theorem EA {k2 kind spot:Int}{ar2 ar:Ar}{pl:List Int}(w2:Wf k2 ar2)(h4:k2<=4)(ha2:ar2.length<=5)(hpl:∀x∈pl,0<=x/\x<k2)(ha:∀a∈ar,a.2=kind->0<=a.1/\a.1<pl.length) :
  fI [cg k2 ar2,.list (pl.map .int),.tuple (ar.map cM),.int kind,.int spot]=some (.bool (o7 k2 ar2 pl ar kind spot),false):=by
 have l:=jV (g:=gT [gN 5,gN 6]) (b:=ie) (d:=cM) (ok:=Cu k2 ar2 pl kind spot) (r:=(.bool false,false))
  (P:=fun ρ=>∃x y,ρ=[some (cg k2 ar2,false),some (.list (pl.map .int),false),some (.tuple (ar.map cM),false),some (.int kind,false),some (.int spot,false),x,y]) ar _ ⟨none,none,rfl⟩
  (fun a ha' ρ ⟨x,y,e⟩=>⟨[some (cg k2 ar2,false),some (.list (pl.map .int),false),some (.tuple (ar.map cM),false),some (.int kind,false),some (.int spot,false),some (.int a.1,false),some (.int a.2,false)],by rw[e];rfl,by
   rw[AZ w2 h4 ha2 hpl (ha a ha')];split
   ·exact⟨_,rfl,_,_,rfl⟩
   ·rfl⟩)
 have run:fI [cg k2 ar2,.list (pl.map .int),.tuple (ar.map cM),.int kind,.int spot]=(oA [some (cg k2 ar2,false),some (.list (pl.map .int),false),some (.tuple (ar.map cM),false),some (.int kind,false),some (.int spot,false),none,none]).bind eD:=rfl;have hi:(da (dY 2)) [some (cg k2 ar2,false),some (.list (pl.map .int),false),some (.tuple (ar.map cM),false),some (.int kind,false),some (.int spot,false),none,none]=some (ar.map cM):=by simp[da,dY]
 rw[run,oA,cH,eh,hi,aa];unfold o7;split at l
 ·rename_i hl;obtain⟨ρ',l,_⟩:=l;rw[l,hl];simp[dw,dC,eD]
 ·rename_i hl;rw[l,Bool.eq_false_iff.mpr hl];rfl
structure xN (k2:Int)(ar2 ar:Ar)(pl:List Int):Prop where
 nn:∀x∈pl,0<=x/\x<k2
 go:∀a∈ar,a.2<pl.length->gn k2 ar2 (gI pl a.1) (gI pl a.2)≠[]
theorem qd {xs:List Int}{x i:Int}(h1:i<xs.length)(hp:0<xs.length):gI (xs++[x]) i=gI xs i:=by
 unfold gI;rw[ag,ag,aR ⋯]
theorem AX {xs:List Int}{x:Int}:gI (xs++[x]) (xs.length:Int)=x:=by
 unfold gI;rw[ag,aW];simp
theorem xN.snoc {k k2:Int}{ar2 ar:Ar}{pl:List Int}{spot:Int}(w:Wf k ar)(h:xN k2 ar2 ar pl)(h0:0<=spot)(h1:spot<k2)(hf:o7 k2 ar2 pl ar (pl.length:Int) spot=true):xN k2 ar2 ar (pl++[spot]):=by
 refine⟨fun x hx=>?_,fun a ha hl=>?_⟩
 ·rcases List.mem_append.mp hx with z|z
  ·exact h.nn x z
  ·cases List.mem_singleton.mp z;exact⟨h0,h1⟩
 ·rw[aw,aP] at hl;have wa:=w.ok a ha;by_cases c:a.2=(pl.length:Int)
  ·have hq:=List.all_eq_true.mp hf a ha;unfold Cu at hq;rw[c,decide_eq_true rfl,Bool.true_and,Bool.not_eq_true',decide_eq_false_iff_not] at hq;rw[c,AX,qd ⋯ ⋯];exact hq
  ·rw[qd ⋯ ⋯,qd ⋯ ⋯];exact h.go a ha ⋯
theorem Ai {k k2 kind spot:Int}{ar2 ar:Ar}{pl:List Int}{s0 s1 s7 s8 s9 s10 s11:Option Vl}{b:Bool}(h2:0<k2)(hf:fI [cg k2 ar2,.list (pl.map .int),.tuple (ar.map cM),.int kind,.int spot]=some (.bool b,false)) :
  iG [s0,s1,some (cg k ar,false),some (cg k2 ar2,false),some (.list (pl.map .int),true),some (.int kind,false),some (.int spot,false),s7,s8,s9,s10,s11] =
   some (.next [s0,s1,some (cg k ar,false),some (cg k2 ar2,false),some (.list (pl.map .int),true),some (.int kind,false),some (.int (if b=true then spot else (spot+1)%k2),false),s7,s8,s9,s10,s11]):=by
 cases b <;> simp[iG,il,xY,unown,G4,gv,lX,cB,b7,cy,cj,d2,cc,cC,dC,kr,mz,hf,tM,cJ,eZ,jq h2,fk]
theorem Ag {k k2 kind:Int}{ar2 ar:Ar}{pl:List Int}{s0 s1 s8 s9 s10 s11:Option Vl}(h2:0<k2)(hf:∀spot,fI [cg k2 ar2,.list (pl.map .int),.tuple (ar.map cM),.int kind,.int spot]=some (.bool (o7 k2 ar2 pl ar kind spot),false))(n:Nat){spot:Int}(q0:0<=spot)(q1:spot<k2)(s7:Option Vl):∃spot' s7',0<=spot'/\spot'<k2 ∧
  eN (gN 7) iG (fv 0 n) [s0,s1,some (cg k ar,false),some (cg k2 ar2,false),some (.list (pl.map .int),true),some (.int kind,false),some (.int spot,false),s7,s8,s9,s10,s11] =
   some (.next [s0,s1,some (cg k ar,false),some (cg k2 ar2,false),some (.list (pl.map .int),true),some (.int kind,false),some (.int spot',false),s7',s8,s9,s10,s11]):=by
 rw[dA];obtain⟨ρ',l,⟨t,e⟩,g⟩:=mD (g:=gN 7) (b:=iG) (d:=fun (i:Nat)=>.int (i:Int)) (f:=fun (st:Int) (_:Nat)=>if o7 k2 ar2 pl ar kind st=true then st else (st+1)%k2)
  (P:=fun st ρ=>(∃t,ρ=[s0,s1,some (cg k ar,false),some (cg k2 ar2,false),some (.list (pl.map .int),true),some (.int kind,false),some (.int st,false),t,s8,s9,s10,s11])/\0<=st/\st<k2) (ao n) spot _ ⟨⟨s7,rfl⟩,q0,q1⟩
  (fun i _ st ρ zz=>by
   obtain ⟨⟨t,e⟩,g⟩:=zz;subst e;refine⟨_,_,rfl,Ai h2 (hf st),⟨_,rfl⟩,?_⟩;split
   ·exact g
   ·exact⟨JH _ ⋯,Jw _ h2⟩)
 exact⟨_,t,g.1,g.2,by rw[l,e]⟩
theorem D8 (n:Nat):(aH n [PyData.tuple []]).flatten=(aH n ([]:List Nat)).map cu:=by
 rw[List.map_replicate];show _=aH n (PyData.tuple []);induction n with
 |zero=>rfl
 |succ n ih=>rw[bz,bL,ih];rfl
theorem Et (n:Nat)(i:Int):(aH n [PyData.int i]).flatten=(aH n i).map PyData.int:=by
 rw[List.map_replicate];induction n with
 |zero=>rfl
 |succ n ih=>rw[bz,bL,ih];rfl
theorem Aq {k spot:Int}{ar:Ar}{ρ:Sl}(k0:0<=k)(k1:k<=100)(hρ:ρ[2]?=some (some (cg k ar,false)))(h6:ρ[6]?=some (some (.int spot,false))):qx (Fd (df (b7 (cj 6) cy))) (cC (d2 cN (cc 2) (cC (dC (.int 0))))) ρ=some (.list ((aH k.toNat spot).map .int),true):=by
 have n1:((k.toNat:Nat):Int)=k:=by omega
 rw[<-Et];refine uq (xs:=[.int spot]) (n:=k.toNat) (by simp[Fd,df,b7,cy,cj,h6,Dh]) ?_ ⋯ (sZ (by rw[aP];omega));rw[n1];simp[d2,cc,cC,dC,mz,hρ]
theorem BG {k:Int}{ar:Ar}{ρ:Sl}(h:ar.length<=100)(hρ:ρ[2]?=some (some (cg k ar,false))):qx (Fd (df (b7 (eK cy) cy))) (cC (d1 fK (cC (d2 cN (cc 2) (cC (dC (.int 1))))))) ρ=some (.list ((aH ar.length []).map cu),true):=by
 rw[<-D8];exact uq (xs:=[.tuple []]) (n:=ar.length) (by simp[Fd,df,b7,eK,cy,Dh]) (by simp[d2,d1,fK,cc,cC,dC,kr,hρ]) ⋯ (sZ (by rw[aP];omega))
theorem yf {ns:List Int}{first:Nat}{k k2 c:Int}{ar2 ar:Ar}{pl:List Int}{s6 s7 s8 s9 s10 s11:Option Vl}(w:Wf k ar)(hk4:k<=4)(hal:ar.length<=5)(w2:Wf k2 ar2)(h4:k2<=4)(ha2:ar2.length<=5)(hc:cK [.list (ns.map .int),.int (first:Int)]=some (.int c,false))(ok:xN k2 ar2 ar pl)(hl:pl.length<4):∃spot t,0<=spot/\spot<k2 ∧
  iF [some (.list (ns.map .int),false),some (.int (first:Int),false),some (cg k ar,false),some (cg k2 ar2,false),some (.list (pl.map .int),true),some (.int (pl.length:Int),false),s6,s7,s8,s9,s10,s11] =
   if o7 k2 ar2 pl ar (pl.length:Int) spot=true then some (.next [some (.list (ns.map .int),false),some (.int (first:Int),false),some (cg k ar,false),some (cg k2 ar2,false),some (.list ((pl++[spot]).map .int),true),some (.int (pl.length:Int),false),some (.int spot,false),t,s8,s9,s10,s11])
   else some (.ret (dE (aH k.toNat spot) (aH ar.length []),false)):=by
 have h2:0<k2:=by have:=w2.lo;omega
 have h1:0<k:=by have:=w.lo;omega
 have hf:∀spot,fI [cg k2 ar2,.list (pl.map .int),.tuple (ar.map cM),.int (pl.length:Int),.int spot]=some (.bool (o7 k2 ar2 pl ar (pl.length:Int) spot),false):=fun spot=>EA w2 h4 ha2 ok.nn fun a ha e=>by have:=w.ok a ha;omega
 have dr:=m8 (c:=c) (k:=(pl.length:Int)) h2;obtain⟨spot,t,q0,q1,l⟩:=Ag (k:=k) (s0:=some (.list (ns.map .int),false)) (s1:=some (.int (first:Int),false)) (s8:=s8) (s9:=s9) (s10:=s10) (s11:=s11) h2 hf k2.toNat (m6 (c:=c) (k:=(pl.length:Int)) h2) (m7 (c:=c) (k:=(pl.length:Int)) h2) s7;refine⟨spot,t,q0,q1,?_⟩;have e1:(cJ 6 (cB dk (b7 (cB cK (b7 (cj 0) (b7 (cj 1) cy))) (b7 (cj 5) (b7 (d2 cN (cc 3) (cC (dC (.int 0)))) cy))))) [some (.list (ns.map .int),false),some (.int (first:Int),false),some (cg k ar,false),some (cg k2 ar2,false),some (.list (pl.map .int),true),some (.int (pl.length:Int),false),s6,s7,s8,s9,s10,s11] =
   some (.next [some (.list (ns.map .int),false),some (.int (first:Int),false),some (cg k ar,false),some (cg k2 ar2,false),some (.list (pl.map .int),true),some (.int (pl.length:Int),false),some (.int (pg c (pl.length:Int) k2),false),s7,s8,s9,s10,s11]):=by
  have u3:(cB cK (b7 (cj 0) (b7 (cj 1) cy))) [some (.list (ns.map .int),false),some (.int (first:Int),false),some (cg k ar,false),some (cg k2 ar2,false),some (.list (pl.map .int),true),some (.int (pl.length:Int),false),s6,s7,s8,s9,s10,s11]=some (.int c,false):=by
   simp only[cB,b7,cj,aK,aM,aa,cy,hc]
  have u8:(b7 (cB cK (b7 (cj 0) (b7 (cj 1) cy))) (b7 (cj 5) (b7 (d2 cN (cc 3) (cC (dC (.int 0)))) cy))) [some (.list (ns.map .int),false),some (.int (first:Int),false),some (cg k ar,false),some (cg k2 ar2,false),some (.list (pl.map .int),true),some (.int (pl.length:Int),false),s6,s7,s8,s9,s10,s11]=some [.int c,.int (pl.length:Int),.int k2]:=by
   have u2:(d2 cN (cc 3) (cC (dC (.int 0)))) [some (.list (ns.map .int),false),some (.int (first:Int),false),some (cg k ar,false),some (cg k2 ar2,false),some (.list (pl.map .int),true),some (.int (pl.length:Int),false),s6,s7,s8,s9,s10,s11]=some (.int k2,false):=by
    simp only[d2,cc,cC,dC,aK,aM,aa,av,mz]
   have u9:(b7 (cj 5) (b7 (d2 cN (cc 3) (cC (dC (.int 0)))) cy)) [some (.list (ns.map .int),false),some (.int (first:Int),false),some (cg k ar,false),some (cg k2 ar2,false),some (.list (pl.map .int),true),some (.int (pl.length:Int),false),s6,s7,s8,s9,s10,s11]=some [.int (pl.length:Int),.int k2]:=by
    rw[b7,b7,u2];simp only[cj,aK,aM,aa,cy]
   rw[b7,u3,aa,u9,aa]
  rw[cJ,cB,u8,aa,dr,aa];rfl
 have e2:(cS (d2 cN (cc 3) (cC (dC (.int 0))))) [some (.list (ns.map .int),false),some (.int (first:Int),false),some (cg k ar,false),some (cg k2 ar2,false),some (.list (pl.map .int),true),some (.int (pl.length:Int),false),some (.int (pg c (pl.length:Int) k2),false),s7,s8,s9,s10,s11]=some (fv 0 k2.toNat) :=
  dI (o:=false) (by simp[d2,cc,cC,dC,mz]) ⋯ ⋯
 have hf':=hf spot;rw[iF,cL e1];rw[cH,eh,e2,aa,l,aa];dsimp only;cases b:o7 k2 ar2 pl ar (pl.length:Int) spot with
 |true =>
  rw[b] at hf';have hz:pl.length<sizeLine:=zk ⋯;simp[cH,il,xY,unown,G4,gv,lX,cB,b7,cy,cj,d2,cc,cC,dC,kr,hf',tM,fk,ik,lY,hz]
 |false =>
  rw[b] at hf';have e3:(xY (gv (lX (cB fI (b7 (cj 3) (b7 (cj 4) (b7 (d2 cN (cc 2) (cC (dC (.int 1)))) (b7 (cj 5) (b7 (cj 6) cy))))))))) [some (.list (ns.map .int),false),some (.int (first:Int),false),some (cg k ar,false),some (cg k2 ar2,false),some (.list (pl.map .int),true),some (.int (pl.length:Int),false),some (.int spot,false),t,s8,s9,s10,s11]=some true:=by
   simp[xY,unown,G4,gv,lX,cB,b7,cy,cj,d2,cc,cC,dC,kr,hf',tM]
  rw[cH,il,e3,aa,if_pos rfl,dw,eK,b7,d1,cC,Aq (ar:=ar) ⋯ ⋯ rfl rfl,av,aa,dg,aa,b7,d1,cC,BG (k:=k) ⋯ rfl,av,aa,dg];simp[cy,Bf,dE,cR,tP]
theorem rH {ns:List Int}{first:Nat}{k k2 c:Int}{ar2 ar:Ar}{s8 s9 s10 s11:Option Vl}(w:Wf k ar)(hk4:k<=4)(hal:ar.length<=5)(w2:Wf k2 ar2)(h4:k2<=4)(ha2:ar2.length<=5)(hc:cK [.list (ns.map .int),.int (first:Int)]=some (.int c,false)):∀(n:Nat) (pl:List Int) (s5 s6 s7:Option Vl),xN k2 ar2 ar pl->pl.length+n<=4 →
  (∃pl' t5 t6 t7,xN k2 ar2 ar pl'/\pl'.length=pl.length+n/\eN (gN 5) iF ((bP pl.length n).map fun (i:Nat)=>.int (i:Int)) [some (.list (ns.map .int),false),some (.int (first:Int),false),some (cg k ar,false),some (cg k2 ar2,false),some (.list (pl.map .int),true),s5,s6,s7,s8,s9,s10,s11] =
   some (.next [some (.list (ns.map .int),false),some (.int (first:Int),false),some (cg k ar,false),some (cg k2 ar2,false),some (.list (pl'.map .int),true),t5,t6,t7,s8,s9,s10,s11])) ∨
  (∃spot,0<=spot/\spot<k2/\eN (gN 5) iF ((bP pl.length n).map fun (i:Nat)=>.int (i:Int)) [some (.list (ns.map .int),false),some (.int (first:Int),false),some (cg k ar,false),some (cg k2 ar2,false),some (.list (pl.map .int),true),s5,s6,s7,s8,s9,s10,s11] =
   some (.ret (dE (aH k.toNat spot) (aH ar.length []),false)))
 |0,pl,s5,s6,s7,ok,_=>.inl ⟨pl,s5,s6,s7,ok,rfl,rfl⟩
 | n+1,pl,s5,s6,s7,ok,hl=>by
  obtain⟨spot,t,q0,q1,e⟩:=yf (s6:=s6) (s7:=s7) (s8:=s8) (s9:=s9) (s10:=s10) (s11:=s11) w hk4 hal w2 h4 ha2 hc ok ⋯;rw[bZ,az,eN];simp only[gN,bT,aa];cases b:o7 k2 ar2 pl ar (pl.length:Int) spot with
  |false =>
   rw[b,if_neg Bool.false_ne_true] at e;exact .inr ⟨spot,q0,q1,by rw[e];rfl⟩
  |true =>
   rw[b,if_pos rfl] at e;have ok':=ok.snoc w q0 q1 b;have ih:=rH (s8:=s8) (s9:=s9) (s10:=s10) (s11:=s11) w hk4 hal w2 h4 ha2 hc n (pl++[spot]) (some (.int (pl.length:Int),false)) (some (.int spot,false)) t ok' (by rw[aw,aP];omega);rw[show (pl++[spot]).length=pl.length+1 by simp] at ih;rw[e,aa];rcases ih with ⟨pl',t5,t6,t7,i1,i2,i3⟩|⟨sp,i1,i2,i3⟩
   ·exact .inl ⟨pl',t5,t6,t7,i1,by omega,i3⟩
   ·exact .inr ⟨sp,i1,i2,i3⟩
theorem FW {ps:List (List Nat)}{i:Int}{p:List Nat}(h0:0<=i)(h:ps[i.toNat]?=some p):cN (.list (ps.map cu)) (.int i)=some (cu p,false):=by
 unfold cN;dsimp only;rw[qt h0 (d:=cu p) (by rw[au,h];rfl)];rfl
theorem Bp {ns:List Int}{first:Nat}{k k2 c:Int}{ar2 ar:Ar}{pl:List Int}{s5 s6 s7 s11:Option Vl}{ws:List (List Nat)}{i:Nat}{a:Int×Int}(w:Wf k ar)(hpk:(pl.length:Int)=k)(w2:Wf k2 ar2)(h4:k2<=4)(ha2:ar2.length<=5)(hc:cK [.list (ns.map .int),.int ((first:Int)+1)]=some (.int c,false))(ok:xN k2 ar2 ar pl)(ha:a∈ar)(hw:ws.length<1000):∃p t,dP ar2 (gI pl a.1) p/\dH ar2 (gI pl a.1) p=gI pl a.2 ∧
  jQ [some (.list (ns.map .int),false),some (.int (first:Int),false),some (cg k ar,false),some (cg k2 ar2,false),some (.list (pl.map .int),true),s5,s6,s7,some (.list (ws.map cu),true),some (.int (i:Int),false),some (cM a,false),s11] =
   some (.next [some (.list (ns.map .int),false),some (.int (first:Int),false),some (cg k ar,false),some (cg k2 ar2,false),some (.list (pl.map .int),true),s5,s6,s7,some (.list ((ws++[p]).map cu),true),some (.int (i:Int),false),some (cM a,false),t]):=by
 have wa:=w.ok a ha;have i1:=rS (xs:=pl) (i:=a.1) wa.1 ⋯;have i2:=rS (xs:=pl) (i:=a.2) ⋯ ⋯;have hp:=ok.nn _ (iA (xs:=pl) (i:=a.1) wa.1 ⋯);have e:=oY (other:=gI pl a.2) w2 h4 ha2 hp.1 hp.2;have hne:=ok.go a ha ⋯;have hm:∀p,p∈gn k2 ar2 (gI pl a.1) (gI pl a.2)<->_:=fun p=>jv (p:=p) (other:=gI pl a.2) w2 h4 hp.1 hp.2;generalize gn k2 ar2 (gI pl a.1) (gI pl a.2)=ps at e hne hm;have hpos:(0:Int)<(ps.length:Int):=by
  have:=List.length_pos_iff.mpr hne;omega
 have dr:=m8 (c:=c) (k:=(i:Int)) hpos;have d0:=m6 (c:=c) (k:=(i:Int)) hpos;have d1':=m7 (c:=c) (k:=(i:Int)) hpos;generalize pg c (i:Int) (ps.length:Int)=j at dr d0 d1';have hj:j.toNat<ps.length:=by omega
 have g:=FW (ps:=ps) d0 (aj hj);have hmj:=(hm _).mp (List.getElem_mem hj);refine⟨ps[j.toNat],some (.list (ps.map cu),false),hmj.1,hmj.2,?_⟩;have hz:(ws.map cu).length<sizeLine:=zk (by rw[af];omega);have t1:(gf 11 (cJ 11 (cB fR (b7 (cj 3) (b7 (d2 cN (cc 4) (cC (d2 cN (cc 10) (cC (dC (.int 0)))))) (b7 (d2 cN (cc 4) (cC (d2 cN (cc 10) (cC (dC (.int 1)))))) cy)))))) [some (.list (ns.map .int),false),some (.int (first:Int),false),some (cg k ar,false),some (cg k2 ar2,false),some (.list (pl.map .int),true),s5,s6,s7,some (.list (ws.map cu),true),some (.int (i:Int),false),some (cM a,false),s11] =
   some (.next [some (.list (ns.map .int),false),some (.int (first:Int),false),some (cg k ar,false),some (cg k2 ar2,false),some (.list (pl.map .int),true),s5,s6,s7,some (.list (ws.map cu),true),some (.int (i:Int),false),some (cM a,false),some (.list (ps.map cu),false)]):=by
  simp only[gf,cJ,cB,b7,cy,cj,d2,cc,cC,dC,aK,aM,aa,av,lU,qq,i1,i2,e,bT,share]
 have u3:(cB cK (b7 (cj 0) (b7 (d2 eZ (cc 1) (cC (dC (.int 1)))) cy))) [some (.list (ns.map .int),false),some (.int (first:Int),false),some (cg k ar,false),some (cg k2 ar2,false),some (.list (pl.map .int),true),s5,s6,s7,some (.list (ws.map cu),true),some (.int (i:Int),false),some (cM a,false),some (.list (ps.map cu),false)]=some (.int c,false):=by
  have u1:(d2 eZ (cc 1) (cC (dC (.int 1)))) [some (.list (ns.map .int),false),some (.int (first:Int),false),some (cg k ar,false),some (cg k2 ar2,false),some (.list (pl.map .int),true),s5,s6,s7,some (.list (ws.map cu),true),some (.int (i:Int),false),some (cM a,false),some (.list (ps.map cu),false)]=some (.int ((first:Int)+1),false):=by
   simp only[d2,cc,cC,dC,aK,aM,aa,av,eZ]
  simp only[cB,b7,u1,cj,aK,aM,aa,cy,hc]
 have u8:(b7 (cB cK (b7 (cj 0) (b7 (d2 eZ (cc 1) (cC (dC (.int 1)))) cy))) (b7 (cj 9) (b7 (d1 fK (cc 11)) cy))) [some (.list (ns.map .int),false),some (.int (first:Int),false),some (cg k ar,false),some (cg k2 ar2,false),some (.list (pl.map .int),true),s5,s6,s7,some (.list (ws.map cu),true),some (.int (i:Int),false),some (cM a,false),some (.list (ps.map cu),false)]=some [.int c,.int (i:Int),.int (ps.length:Int)]:=by
  have u2:(d1 fK (cc 11)) [some (.list (ns.map .int),false),some (.int (first:Int),false),some (cg k ar,false),some (cg k2 ar2,false),some (.list (pl.map .int),true),s5,s6,s7,some (.list (ws.map cu),true),some (.int (i:Int),false),some (cM a,false),some (.list (ps.map cu),false)]=some (.int (ps.length:Int),false):=by
   simp only[d1,cc,aK,aM,aa,av,fK,af]
  have u9:(b7 (cj 9) (b7 (d1 fK (cc 11)) cy)) [some (.list (ns.map .int),false),some (.int (first:Int),false),some (cg k ar,false),some (cg k2 ar2,false),some (.list (pl.map .int),true),s5,s6,s7,some (.list (ws.map cu),true),some (.int (i:Int),false),some (cM a,false),some (.list (ps.map cu),false)]=some [.int (i:Int),.int (ps.length:Int)]:=by
   rw[b7,b7,u2];simp only[cj,aK,aM,aa,cy]
  rw[b7,u3,aa,u9,aa]
 have t2:(d2 cN (cc 11) (cC (cB dk (b7 (cB cK (b7 (cj 0) (b7 (d2 eZ (cc 1) (cC (dC (.int 1)))) cy))) (b7 (cj 9) (b7 (d1 fK (cc 11)) cy)))))) [some (.list (ns.map .int),false),some (.int (first:Int),false),some (cg k ar,false),some (cg k2 ar2,false),some (.list (pl.map .int),true),s5,s6,s7,some (.list (ws.map cu),true),some (.int (i:Int),false),some (cM a,false),some (.list (ps.map cu),false)]=some (cu ps[j.toNat],false):=by
  have u5:(cc 11) [some (.list (ns.map .int),false),some (.int (first:Int),false),some (cg k ar,false),some (cg k2 ar2,false),some (.list (pl.map .int),true),s5,s6,s7,some (.list (ws.map cu),true),some (.int (i:Int),false),some (cM a,false),some (.list (ps.map cu),false)]=some (.list (ps.map cu)):=by
   simp only[cc,aK,aM]
  rw[d2,u5,aa,cC,cB,u8,aa,dr,av,aa,g]
 rw[jQ,cL t1,ik,t2,aa,lY];simp only[aK,aM,if_pos hz,av,bT,aX,az,bI]
theorem wg {ns:List Int}{first:Nat}{k k2 c:Int}{ar2 ar:Ar}{pl:List Int}{s5 s6 s7:Option Vl}(w:Wf k ar)(hpk:(pl.length:Int)=k)(w2:Wf k2 ar2)(h4:k2<=4)(ha2:ar2.length<=5)(hc:cK [.list (ns.map .int),.int ((first:Int)+1)]=some (.int c,false))(ok:xN k2 ar2 ar pl)(hal:ar.length<=5):∀(r:Ar) (s:Nat) (ws:List (List Nat)) (x y z:Option Vl),ar.drop s=r->ws.length=s->(∀(i:Nat) (a:Int×Int) (p:List Nat),ar[i]?=some a->ws[i]?=some p->dP ar2 (gI pl a.1) p/\dH ar2 (gI pl a.1) p=gI pl a.2)->∃(ws':List (List Nat)) (x' y' z':Option Vl),ws'.length=s+r.length/\(∀(i:Nat) (a:Int×Int) (p:List Nat),ar[i]?=some a->ws'[i]?=some p->dP ar2 (gI pl a.1) p/\dH ar2 (gI pl a.1) p=gI pl a.2) ∧
  eN (gT [gN 9,gN 10]) jQ (fJ s (r.map cM)) [some (.list (ns.map .int),false),some (.int (first:Int),false),some (cg k ar,false),some (cg k2 ar2,false),some (.list (pl.map .int),true),s5,s6,s7,some (.list (ws.map cu),true),x,y,z] =
   some (.next [some (.list (ns.map .int),false),some (.int (first:Int),false),some (cg k ar,false),some (cg k2 ar2,false),some (.list (pl.map .int),true),s5,s6,s7,some (.list (ws'.map cu),true),x',y',z'])
 |[],s,ws,x,y,z,_,hw,h=>⟨ws,x,y,z,by simpa using hw,h,rfl⟩
 | a::r,s,ws,x,y,z,hd,hw,h=>by
  have hat:ar[s]?=some a:=by
   have:=congrArg (fun l=>l[0]?) hd;simpa using this
  have hd2:ar.drop (s+1)=r:=by
   rw[<-List.drop_drop,hd];rfl
  have hs:s<ar.length:=(List.getElem?_eq_some_iff.mp hat).1;obtain⟨p,t,c1,c2,e⟩:=Bp (s5:=s5) (s6:=s6) (s7:=s7) (s11:=z) (ws:=ws) (i:=s) w hpk w2 h4 ha2 hc ok (aA hat) ⋯;obtain⟨ws',x',y',z',l1,l2,l3⟩:=wg (s5:=s5) (s6:=s6) (s7:=s7) w hpk w2 h4 ha2 hc ok hal r (s+1) (ws++[p]) (some (.int (s:Int),false)) (some (cM a,false)) t hd2 (by simp[hw]) (fun i b q hi hq=>by
   by_cases hlt:i<ws.length
   ·rw[aR hlt] at hq;exact h i b q hi hq
   ·have hi2:i<(ws++[p]).length:=(List.getElem?_eq_some_iff.mp hq).1;rw[aw,aP] at hi2;have:i=s:=by omega
    subst this;rw[hat] at hi;cases hi;rw[<-hw,List.getElem?_concat_length] at hq;cases hq;exact⟨c1,c2⟩)
  refine⟨ws',x',y',z',by rw[l1,aJ];omega,l2,?_⟩;rw[az,fJ,eN];simp only[gT,og,gN,bT,aa];rw[e,aa];exact l3
theorem vd {k k2 spot:Int}{ar ar2:Ar}(w:Wf k ar)(h0:0<=spot)(h1:spot<k2):lQ k ar k2 ar2 (aH k.toNat spot) (aH ar.length []):=by
 have k0:=w.lo;have g:∀i:Int,0<=i->i<k->gI (aH k.toNat spot) i=spot:=fun i i0 i1=>by
  unfold gI;rw[ag,bK,if_pos ⋯];rfl
 refine⟨by rw[bc];omega,fun x hx=>by cases (List.mem_replicate.mp hx).2;exact⟨h0,h1⟩,by rw[bc],fun i a p hi hp=>?_⟩;have wa:=w.ok a (aA hi);have:p=[]:=(List.mem_replicate.mp (aA hp)).2;subst this;rw[g a.1 wa.1 ⋯,g a.2 ⋯ wa.2.2];exact⟨trivial,rfl⟩
theorem vq (ns:List Int)(first:Nat){k k2:Int}{ar2 ar:Ar}(w:Wf k ar)(hk4:k<=4)(hal:ar.length<=5)(w2:Wf k2 ar2)(h4:k2<=4)(ha2:ar2.length<=5):∃pl ws,gu [.list (ns.map .int),.int (first:Int),cg k ar,cg k2 ar2]=some (dE pl ws,false)/\lQ k ar k2 ar2 pl ws:=by
 have c1:=je ns first
 have c2:=je ns (first+1);rw[show (((first+1:Nat)):Int)=(first:Int)+1 by omega] at c2;have run:gu [.list (ns.map .int),.int (first:Int),cg k ar,cg k2 ar2]=(mL [some (.list (ns.map .int),false),some (.int (first:Int),false),some (cg k ar,false),some (cg k2 ar2,false),none,none,none,none,none,none,none,none]).bind eD:=rfl;have k0:=w.lo;have e1:(cJ 4 (df cy)) [some (.list (ns.map .int),false),some (.int (first:Int),false),some (cg k ar,false),some (cg k2 ar2,false),none,none,none,none,none,none,none,none] =
   some (.next [some (.list (ns.map .int),false),some (.int (first:Int),false),some (cg k ar,false),some (cg k2 ar2,false),some (.list (([]:List Int).map .int),true),none,none,none,none,none,none,none]):=by simp[cJ,df,cy]
 have e2:(cS (d2 cN (cc 2) (cC (dC (.int 0))))) [some (.list (ns.map .int),false),some (.int (first:Int),false),some (cg k ar,false),some (cg k2 ar2,false),some (.list (([]:List Int).map .int),true),none,none,none,none,none,none,none]=some (fv 0 k.toNat) :=
  dI (o:=false) (by simp[d2,cc,cC,dC,mz]) ⋯ ⋯
 have l:=rH (s8:=none) (s9:=none) (s10:=none) (s11:=none) w hk4 hal w2 h4 ha2 c1 k.toNat [] none none none ⟨fun x hx=>(by cases hx),fun a ha hl=>by have:=w.ok a ha;simp at hl;omega⟩ (by simp;omega);rw[show ([]:List Int).length=0 from rfl,<-bB,<-dA] at l;rw[run,mL,cL e1,cH,eh,e2,aa];rcases l with ⟨pl,t5,t6,t7,ok,hl,l⟩|⟨spot,q0,q1,l⟩
 ·rw[l,aa];dsimp only;have hpk:(pl.length:Int)=k:=by rw[hl];omega
  obtain⟨ws,x,y,z,m1,m2,m3⟩:=wg (s5:=t5) (s6:=t6) (s7:=t7) w hpk w2 h4 ha2 c2 ok hal ar 0 [] none none none rfl rfl (fun i a p _ h=>by simp at h);rw[bE] at m1;have e3:(cJ 8 (df cy)) [some (.list (ns.map .int),false),some (.int (first:Int),false),some (cg k ar,false),some (cg k2 ar2,false),some (.list (pl.map .int),true),t5,t6,t7,none,none,none,none] =
    some (.next [some (.list (ns.map .int),false),some (.int (first:Int),false),some (cg k ar,false),some (cg k2 ar2,false),some (.list (pl.map .int),true),t5,t6,t7,some (.list (([]:List (List Nat)).map cu),true),none,none,none]):=by simp[cJ,df,cy]
  have e4:(fO (fF (d2 cN (cc 2) (cC (dC (.int 1)))))) [some (.list (ns.map .int),false),some (.int (first:Int),false),some (cg k ar,false),some (cg k2 ar2,false),some (.list (pl.map .int),true),t5,t6,t7,some (.list (([]:List (List Nat)).map cu),true),none,none,none]=some (fJ 0 (ar.map cM)):=by
   simp[fO,fF,d2,cc,cC,dC,kr,dS]
  refine⟨pl,ws,?_,hpk,ok.nn,m1,m2⟩;rw[cL e3,cH,eh,e4,aa,m3,aa];simp[dw,eK,b7,cy,d1,cc,dg,Bf,eD,dE,tP,cR]
 ·refine⟨_,_,?_,vd w q0 q1⟩;rw[l];rfl
noncomputable def up (p:List Nat):List Int:=p.map fun (n:Nat)=>(n:Int)
theorem vF {xs:List Int}{f:Int->Int}{i:Int}(h0:0<=i)(h1:i<xs.length):gI (xs.map f) i=f (gI xs i):=by
 have e:=mX h0 h1;unfold gI;rw[ag,au,e];rfl
noncomputable def gC (ch:List (List Int))(i:Int):List Int:=ch.getD i.toNat []
theorem mY {ch:List (List Int)}{i:Int}(h0:0<=i)(h1:i<ch.length):ch[i.toNat]?=some (gC ch i):=by
 have hl:i.toNat<ch.length:=by omega
 unfold gC;rw[ag,aj hl];rfl
theorem z7 {ch:List (List Int)}{i:Int}(h0:0<=i)(h1:i<ch.length):cN (.tuple (ch.map cR)) (.int i)=some (cR (gC ch i),false):=by
 unfold cN;dsimp only;rw[qt h0 (d:=cR (gC ch i)) (by rw[au,mY h0 h1];rfl)];rfl
noncomputable def ft (pl rows:List Int):List Int:=pl.map (gI rows)
noncomputable def lP (pl rows:List Int)(steps:List (List Int))(q:(Int×Int)×List Nat):List Int:=(ao (gI rows (gI pl q.1.1)).toNat).map fun (x:Nat)=>ny steps q.2 (x:Int)
noncomputable def pG (ar:Ar)(pl:List Int)(ws:List (List Nat))(rows:List Int)(steps:List (List Int)):List (List Int):=(ar.zip ws).map (lP pl rows steps)
theorem uP {k k2:Int}{ar ar2:Ar}{pl:List Int}{ws:List (List Nat)}(s:lQ k ar k2 ar2 pl ws){q:(Int×Int)×List Nat}(hq:q∈ar.zip ws):q.1∈ar/\q.2∈ws/\dP ar2 (gI pl q.1.1) q.2/\dH ar2 (gI pl q.1.1) q.2=gI pl q.1.2:=by
 obtain⟨i,hi⟩:=bX hq;rw[JS] at hi;have:=s.way i q.1 q.2 hi.1 hi.2;exact⟨aA hi.1,aA hi.2,this.1,this.2⟩
theorem EK {k k2:Int}{ar ar2:Ar}{pl:List Int}{ws:List (List Nat)}{rows:List Int}{steps:List (List Int)}(w:Wf k ar)(s:lQ k ar k2 ar2 pl ws)(b:cV k2 ar2 rows steps):cV k ar (ft pl rows) (pG ar pl ws rows steps):=by
 have hl:=s.len;have hw:=s.wl;have gr:∀i:Int,0<=i->i<k->gI (ft pl rows) i=gI rows (gI pl i):=fun i h0 h1=>vF h0 ⋯;refine⟨by unfold ft;rw[af];exact s.len,fun r hr=>?_,by unfold pG;rw[af,bG];omega,fun i a st e1 e2=>?_⟩
 ·obtain⟨x,hx,rfl⟩:=List.mem_map.mp hr;have:=s.nn x hx;exact iz b.nn _
 ·have wa:=w.ok a (aA e1);unfold pG at e2;rw[au] at e2;cases e:(ar.zip ws)[i]? with
  |none=>rw[e] at e2;cases e2
  |some q =>
   rw[e] at e2;have hq:=uP s (aA e);rw[JS,e1] at e;have:a=q.1:=by simpa using e.1
   subst this;cases e2;rw[gr _ wa.1 ⋯,gr _ ⋯ wa.2.2];have n0:=iz b.nn (gI pl q.1.1);unfold lP;refine⟨by rw[af,aI];omega,fun x hx=>?_⟩;obtain⟨n,hn,rfl⟩:=List.mem_map.mp hx;rw[aZ] at hn;rw[<-hq.2.2.2];exact yF b q.2 _ _ hq.2.2.1 ⋯ ⋯
noncomputable def An (m x:Int):Bool:=decide (0<=x)&&decide (x<m)
noncomputable def rZ (r1 r2:List Int)(ch:List (List Int))(i:Nat):Bool:=decide (((gC ch (i:Int)).length:Int)=gI r1 (i:Int))&&(gC ch (i:Int)).all (An (gI r2 (i:Int)))
noncomputable def Bv (s1 s2 ch:List (List Int))(p:(Int×Int)×Nat)(x:Nat):Bool:=decide (gI (gC ch p.1.2) (gI (s1.getD p.2 []) (x:Int))=gI (s2.getD p.2 []) (gI (gC ch p.1.1) (x:Int)))
noncomputable def qi (r1:List Int)(s1 s2 ch:List (List Int))(p:(Int×Int)×Nat):Bool:=(ao (gI r1 p.1.1).toNat).all (Bv s1 s2 ch p)
noncomputable def mw (k:Int)(ar:Ar)(r1:List Int)(s1:List (List Int))(r2:List Int)(s2 ch:List (List Int)):Bool :=
 decide ((ch.length:Int)=k)&&((ao k.toNat).all (rZ r1 r2 ch)&&ar.zipIdx.all (qi r1 s1 s2 ch))
theorem FT (xs:List Int):jA "tuple" (cR xs)=some (.bool true,false):=rfl
theorem Gr {s0 s1 s3 s6 s7 s8 s9:Option Vl}{r2:List Int}{s2:List (List Int)}{i x:Int}(h0:0<=i)(h1:i<r2.length) :
  gX [s0,s1,some (cp r2 s2,false),s3,some (.int i,false),some (.int x,false),s6,s7,s8,s9] =
   if An (gI r2 i) x=true then some (.next [s0,s1,some (cp r2 s2,false),s3,some (.int i,false),some (.int x,false),s6,s7,s8,s9]) else some (.ret (.bool false,false)):=by
 have e:=gK h0 h1;unfold An;by_cases a:0<=x
 ·by_cases b:x<gI r2 i <;> simp[gX,il,sY,gv,lX,cB,b7,cy,cj,rg,tM,de,tChain,cC,dC,cc,Im,G6,d2,nK,e,a,b,fk,dw]
 ·simp[gX,il,sY,gv,lX,cB,b7,cy,cj,rg,tM,de,tChain,cC,dC,cc,Im,a,dw]
theorem Gq {s0 s5 s6 s7 s8 s9:Option Vl}{r1 r2:List Int}{s1 s2 ch:List (List Int)}{i:Nat}(hc:(i:Int)<ch.length)(h1:(i:Int)<r1.length)(h2:(i:Int)<r2.length) :
  if rZ r1 r2 ch i=true then ∃x,gW [s0,some (cp r1 s1,false),some (cp r2 s2,false),some (.tuple (ch.map cR),false),some (.int (i:Int),false),s5,s6,s7,s8,s9]=some (.next [s0,some (cp r1 s1,false),some (cp r2 s2,false),some (.tuple (ch.map cR),false),some (.int (i:Int),false),x,s6,s7,s8,s9])
  else gW [s0,some (cp r1 s1,false),some (cp r2 s2,false),some (.tuple (ch.map cR),false),some (.int (i:Int),false),s5,s6,s7,s8,s9]=some (.ret (.bool false,false)):=by
 have e1:=z7 (ch:=ch) (i:=(i:Int)) ⋯ hc;have e2:=gK (xs:=r1) (i:=(i:Int)) ⋯ h1;have t:(sY (gv (lX (d1 (jA "tuple") (cC (d2 cN (cc 3) (cc 4)))))) (de (cC (d1 fK (cC (d2 cN (cc 3) (cc 4))))) [(uC,(cC (d2 cN (cC (d2 cN (cc 1) (cC (dC (.int 0))))) (cc 4))))])) [s0,some (cp r1 s1,false),some (cp r2 s2,false),some (.tuple (ch.map cR),false),some (.int (i:Int),false),s5,s6,s7,s8,s9] =
   some (!decide (((gC ch (i:Int)).length:Int)=gI r1 (i:Int))):=by
  simp[sY,gv,lX,d1,d2,cC,cc,e1,FT,tM,de,tChain,FR,dC,nK,e2,pE]
 have q:(da (fF (d2 cN (cc 3) (cc 4)))) [s0,some (cp r1 s1,false),some (cp r2 s2,false),some (.tuple (ch.map cR),false),some (.int (i:Int),false),s5,s6,s7,s8,s9]=some ((gC ch (i:Int)).map .int):=by
  simp[da,fF,d2,cc,e1,cR,dS]
 have l:=jV (g:=gN 5) (b:=gX) (d:=PyData.int) (ok:=An (gI r2 (i:Int))) (r:=(.bool false,false))
  (P:=fun ρ=>∃x,ρ=[s0,some (cp r1 s1,false),some (cp r2 s2,false),some (.tuple (ch.map cR),false),some (.int (i:Int),false),x,s6,s7,s8,s9]) (gC ch (i:Int)) _ ⟨s5,rfl⟩
  (fun x _ ρ ⟨y,e⟩=>⟨[s0,some (cp r1 s1,false),some (cp r2 s2,false),some (.tuple (ch.map cR),false),some (.int (i:Int),false),some (.int x,false),s6,s7,s8,s9],by rw[e];rfl,by
   rw[Gr ⋯ h2];split
   ·exact⟨_,rfl,_,rfl⟩
   ·rfl⟩)
 unfold rZ;rw[gW];cases b:decide (((gC ch (i:Int)).length:Int)=gI r1 (i:Int)) with
 |false =>
  rw[b] at t;rw[Bool.false_and,if_neg Bool.false_ne_true,iR t rfl]
 |true =>
  rw[b] at t;rw[Bool.true_and,ib t,eB q];cases c:(gC ch (i:Int)).all (An (gI r2 (i:Int))) with
  |false =>
   rw[c,if_neg Bool.false_ne_true] at l;rw[if_neg Bool.false_ne_true];exact l
  |true =>
   rw[c,if_pos rfl] at l;obtain⟨ρ',l,x,e⟩:=l;rw[if_pos rfl];exact⟨x,by rw[l,e]⟩
structure cZ (k:Int)(r1 r2:List Int)(ch:List (List Int)):Prop where
 len:(ch.length:Int)=k
 row:∀i:Int,0<=i->i<k->((gC ch i).length:Int)=gI r1 i/\∀x∈gC ch i,0<=x/\x<gI r2 i
theorem xD {k:Int}{r1 r2:List Int}{ch:List (List Int)}(h1:(ch.length:Int)=k)(h2:(ao k.toNat).all (rZ r1 r2 ch)=true):cZ k r1 r2 ch:=by
 refine⟨h1,fun i i0 i1=>?_⟩;have:=List.all_eq_true.mp h2 i.toNat (List.mem_range.mpr ⋯);unfold rZ at this;rw[Bool.and_eq_true,decide_eq_true_eq,show ((i.toNat:Nat):Int)=i by omega,bH] at this;refine⟨this.1,fun x hx=>?_⟩;have:=this.2 x hx;unfold An at this;rwa[Bool.and_eq_true,decide_eq_true_eq,decide_eq_true_eq] at this
theorem Gp {k:Int}{ar:Ar}{s0 s4 s8 s9:Option Vl}{r1 r2:List Int}{s1 s2 ch:List (List Int)}{a:Int×Int}{i x:Nat}(w:Wf k ar)(b1:cV k ar r1 s1)(b2:cV k ar r2 s2)(c:cZ k r1 r2 ch)(ha:ar[i]?=some a)(hx:(x:Int)<gI r1 a.1):∃y z,
  gU [s0,some (cp r1 s1,false),some (cp r2 s2,false),some (.tuple (ch.map cR),false),s4,some (.int (x:Int),false),some (.int (i:Int),false),some (cM a,false),s8,s9] =
   if Bv s1 s2 ch (a,i) x=true then some (.next [s0,some (cp r1 s1,false),some (cp r2 s2,false),some (.tuple (ch.map cR),false),s4,some (.int (x:Int),false),some (.int (i:Int),false),some (cM a,false),y,z]) else some (.ret (.bool false,false)):=by
 have wa:=w.ok a (aA ha);have hl:=c.len;obtain⟨t1,e1,g1,l1,m1⟩:=i7 b1 ha;obtain⟨t2,e2,g2,l2,m2⟩:=i7 b2 ha;obtain⟨c1,d1'⟩:=c.row a.1 wa.1 ⋯;obtain⟨c2,_⟩:=c.row a.2 ⋯ wa.2.2;have x0:(0:Int)<=(x:Int):=by omega
 have q1:=m1 _ (iA (xs:=t1) x0 ⋯);have q2:=d1' _ (iA (xs:=gC ch a.1) x0 ⋯);have i1:=z7 (ch:=ch) (i:=a.1) wa.1 ⋯;have i2:=z7 (ch:=ch) (i:=a.2) ⋯ ⋯;have i3:=gK (xs:=t1) x0 ⋯;have i4:=gK (xs:=gC ch a.2) q1.1 ⋯;have i5:=gK (xs:=gC ch a.1) x0 ⋯;have i6:=gK (xs:=t2) q2.1 ⋯;refine⟨some (.int (gI (gC ch a.2) (gI t1 (x:Int))),false),some (.int (gI (gC ch a.1) (x:Int)),false),?_⟩;unfold Bv;dsimp only;rw[g1,g2];by_cases h:gI (gC ch a.2) (gI t1 (x:Int))=gI t2 (gI (gC ch a.1) (x:Int))
 ·simp[gU,cH,cJ,d2,cC,cc,dC,lU,qq,i1,i2,sO,tU e1,tU e2,i3,i4,i5,i6,il,de,tChain,pE,h,fk]
 ·simp[gU,cH,cJ,d2,cC,cc,dC,lU,qq,i1,i2,sO,tU e1,tU e2,i3,i4,i5,i6,il,de,tChain,pE,h,dw]
theorem Gn {k m:Int}{ar:Ar}{s4 s5 s8 s9:Option Vl}{s0:Option Vl}{r1 r2:List Int}{s1 s2 ch:List (List Int)}{a:Int×Int}{i:Nat}(w:Wf k ar)(b1:cV k ar r1 s1)(b2:cV k ar r2 s2)(c:cZ k r1 r2 ch)(ha:ar[i]?=some a)(hm:∀r∈r1,r<=1000000) :
  if qi r1 s1 s2 ch (a,i)=true then ∃x y z,gS [s0,some (cp r1 s1,false),some (cp r2 s2,false),some (.tuple (ch.map cR),false),s4,s5,some (.int (i:Int),false),some (cM a,false),s8,s9]=some (.next [s0,some (cp r1 s1,false),some (cp r2 s2,false),some (.tuple (ch.map cR),false),s4,x,some (.int (i:Int),false),some (cM a,false),y,z])
  else gS [s0,some (cp r1 s1,false),some (cp r2 s2,false),some (.tuple (ch.map cR),false),s4,s5,some (.int (i:Int),false),some (cM a,false),s8,s9]=some (.ret (.bool false,false)):=by
 have wa:=w.ok a (aA ha);have hl:=b1.len;have e1:=gK (xs:=r1) (i:=a.1) wa.1 ⋯;have n0:=iz b1.nn a.1;have n1:=j8 (m:=1000000) ⋯ hm a.1;have q:(cS (d2 cN (cC (d2 cN (cc 1) (cC (dC (.int 0))))) (cC (d2 cN (cc 7) (cC (dC (.int 0))))))) [s0,some (cp r1 s1,false),some (cp r2 s2,false),some (.tuple (ch.map cR),false),s4,s5,some (.int (i:Int),false),some (cM a,false),s8,s9]=some ((ao (gI r1 a.1).toNat).map fun (x:Nat)=>.int (x:Int)):=by
  rw[<-dA];exact dI (o:=false) (by simp[d2,cc,cC,dC,nK,lU,e1]) n0 n1
 have l:=jV (g:=gN 5) (b:=gU) (d:=fun (x:Nat)=>.int (x:Int)) (ok:=Bv s1 s2 ch (a,i)) (r:=(.bool false,false))
  (P:=fun ρ=>∃x y z,ρ=[s0,some (cp r1 s1,false),some (cp r2 s2,false),some (.tuple (ch.map cR),false),s4,x,some (.int (i:Int),false),some (cM a,false),y,z]) (ao (gI r1 a.1).toNat) _ ⟨s5,s8,s9,rfl⟩
  (fun x hx ρ ⟨u,v,v',e⟩=>⟨[s0,some (cp r1 s1,false),some (cp r2 s2,false),some (.tuple (ch.map cR),false),s4,some (.int (x:Int),false),some (.int (i:Int),false),some (cM a,false),v,v'],by rw[e];rfl,by
   rw[aZ] at hx;obtain⟨y,z,e3⟩:=Gp (s0:=s0) (s4:=s4) (s8:=v) (s9:=v') w b1 b2 c ha (x:=x) ⋯;rw[e3];split
   ·exact⟨_,rfl,_,_,_,rfl⟩
   ·rfl⟩)
 unfold qi;rw[gS,eB q];split at l
 ·rename_i hq;rw[if_pos hq];obtain⟨ρ',l,x,y,z,e⟩:=l;exact⟨x,y,z,by rw[l,e]⟩
 ·rename_i hq;rw[if_neg hq];exact l
theorem tI {k:Int}{ar:Ar}{r1 r2:List Int}{s1 s2 ch:List (List Int)}(w:Wf k ar)(hk:k<=1000000)(b1:cV k ar r1 s1)(b2:cV k ar r2 s2)(hm:∀r∈r1,r<=1000000) :
  gH [cg k ar,cp r1 s1,cp r2 s2,.tuple (ch.map cR)]=some (.bool (mw k ar r1 s1 r2 s2 ch),false):=by
 have k0:=w.lo;have hl1:=b1.len;have hl2:=b2.len;have run:gH [cg k ar,cp r1 s1,cp r2 s2,.tuple (ch.map cR)]=(lN [some (cg k ar,false),some (cp r1 s1,false),some (cp r2 s2,false),some (.tuple (ch.map cR),false),none,none,none,none,none,none]).bind eD:=rfl;have t:(sY (gv (lX (d1 (jA "tuple") (cc 3)))) (de (cC (d1 fK (cc 3))) [(uC,(cC (d2 cN (cc 0) (cC (dC (.int 0))))))])) [some (cg k ar,false),some (cp r1 s1,false),some (cp r2 s2,false),some (.tuple (ch.map cR),false),none,none,none,none,none,none] =
   some (!decide ((ch.length:Int)=k)):=by
  have a1:jA "tuple" (.tuple (ch.map cR))=some (.bool true,false):=rfl;simp[sY,gv,lX,d1,d2,cC,cc,a1,tM,de,tChain,FJ,dC,mz,pE]
 rw[run,lN];unfold mw;cases h1:decide ((ch.length:Int)=k) with
 |false =>
  rw[h1] at t;rw[iR t rfl];rfl
 |true =>
  rw[h1] at t;rw[ib t,Bool.true_and];rw[decide_eq_true_eq] at h1;have q1:(cS (d2 cN (cc 0) (cC (dC (.int 0))))) [some (cg k ar,false),some (cp r1 s1,false),some (cp r2 s2,false),some (.tuple (ch.map cR),false),none,none,none,none,none,none]=some ((ao k.toNat).map fun (x:Nat)=>.int (x:Int)):=by
   rw[<-dA];exact dI (o:=false) (by simp[d2,cc,cC,dC,mz]) ⋯ hk
  have l:=jV (g:=gN 4) (b:=gW) (d:=fun (x:Nat)=>.int (x:Int)) (ok:=rZ r1 r2 ch) (r:=(.bool false,false))
   (P:=fun ρ=>∃x y,ρ=[some (cg k ar,false),some (cp r1 s1,false),some (cp r2 s2,false),some (.tuple (ch.map cR),false),x,y,none,none,none,none]) (ao k.toNat) _ ⟨none,none,rfl⟩
   (fun i hi ρ ⟨x,y,e⟩=>⟨[some (cg k ar,false),some (cp r1 s1,false),some (cp r2 s2,false),some (.tuple (ch.map cR),false),some (.int (i:Int),false),y,none,none,none,none],by rw[e];rfl,by
    rw[aZ] at hi;have:=Gq (s0:=some (cg k ar,false)) (s1:=s1) (s2:=s2) (s5:=y) (s6:=none) (s7:=none) (s8:=none) (s9:=none) (r1:=r1) (r2:=r2) (ch:=ch) (i:=i) ⋯ ⋯ ⋯;split at this
    ·rename_i hq;rw[if_pos hq];obtain⟨x,e2⟩:=this;exact⟨_,e2,_,_,rfl⟩
    ·rename_i hq;rw[if_neg hq];exact this⟩)
  rw[cH,eB q1];cases h2:(ao k.toNat).all (rZ r1 r2 ch) with
  |false =>
   rw[h2,if_neg Bool.false_ne_true] at l;rw[l];rfl
  |true =>
   rw[h2,if_pos rfl] at l;obtain⟨ρ1,l,x,y,e⟩:=l;subst e;have c:=xD h1 h2;rw[l,aa,Bool.true_and];dsimp only;have q2:(fO (fF (d2 cN (cc 0) (cC (dC (.int 1)))))) [some (cg k ar,false),some (cp r1 s1,false),some (cp r2 s2,false),some (.tuple (ch.map cR),false),x,y,none,none,none,none]=some (ar.zipIdx.map fun p=>.tuple [.int (p.2:Int),cM p.1]):=by
    rw[<-kW];simp[fO,fF,d2,cc,cC,dC,kr,dS]
   have l2:=jV (g:=gT [gN 6,gN 7]) (b:=gS) (d:=fun p:(Int×Int)×Nat=>.tuple [.int (p.2:Int),cM p.1]) (ok:=qi r1 s1 s2 ch) (r:=(.bool false,false))
    (P:=fun ρ=>∃a b c d e,ρ=[some (cg k ar,false),some (cp r1 s1,false),some (cp r2 s2,false),some (.tuple (ch.map cR),false),x,a,b,c,d,e]) ar.zipIdx _ ⟨y,none,none,none,none,rfl⟩
    (fun p hp ρ ⟨a,b,c',d,e',e⟩=>⟨[some (cg k ar,false),some (cp r1 s1,false),some (cp r2 s2,false),some (.tuple (ch.map cR),false),x,a,some (.int (p.2:Int),false),some (cM p.1,false),d,e'],by rw[e];rfl,by
     have hp':ar[p.2]?=some p.1:=by
      obtain⟨q,j⟩:=p;have:=List.mem_zipIdx hp;rw[List.getElem?_eq_some_iff];refine⟨by simpa using this.2.1,?_⟩;have h3:=this.2.2;simpa using h3.symm
     have:=Gn (s0:=some (cg k ar,false)) (s4:=x) (s5:=a) (s8:=d) (s9:=e') w b1 b2 c hp' hm (m:=0);split at this
     ·rename_i hq;rw[if_pos hq];obtain⟨x',y',z',e2⟩:=this;exact⟨_,e2,_,_,_,_,_,rfl⟩
     ·rename_i hq;rw[if_neg hq];exact this⟩)
   rw[cH,eB q2];cases h3:ar.zipIdx.all (qi r1 s1 s2 ch) with
   |false =>
    rw[h3,if_neg Bool.false_ne_true] at l2;rw[l2];rfl
   |true =>
    rw[h3,if_pos rfl] at l2;obtain⟨ρ2,l2,_⟩:=l2;rw[l2];rfl
noncomputable def xu (m:Nat)(r:List Int):List (List Int):=(ao m).map fun (x:Nat)=>r++[(x:Int)]
noncomputable def dQ (m:Nat):Nat->List (List Int)
 |0=>[[]]
 |n+1=>(dQ m n).flatMap (xu m)
theorem mE {α β:Type}{f:α->List β}{c:Nat}(h:∀x,(f x).length=c):∀l:List α,(l.flatMap f).length=l.length*c
 |[]=>by simp
 | x::l=>by
  rw[bM,aw,h,mE h l,aJ,Nat.succ_mul];omega
theorem kj (m:Nat):∀n,(dQ m n).length=m ^ n
 |0=>rfl
 | n+1=>by
  rw[dQ,mE (c:=m) (fun r=>by simp[xu]),kj m n,Nat.pow_succ]
theorem k8 {m:Nat}:∀{n:Nat}{r:List Int},r∈dQ m n->r.length=n/\∀x∈r,0<=x/\x<(m:Int)
 | 0,r,h=>by
  cases List.mem_singleton.mp h;exact⟨rfl,fun x hx=>by cases hx⟩
 | n+1,r,h=>by
  obtain⟨q,hq,hr⟩:=List.mem_flatMap.mp h;obtain⟨x,hx,rfl⟩:=List.mem_map.mp hr;obtain⟨h1,h2⟩:=k8 hq;rw[aZ] at hx;refine⟨by rw[aw,aP,h1],fun y hy=>?_⟩;rcases List.mem_append.mp hy with z|z
  ·exact h2 y z
  ·cases List.mem_singleton.mp z;omega
theorem Aj {r:List Int}{x:Int}(h:r.length+1<=1000000):jd [some (.int x,false),some (cR r,false)]=some (cR (r++[x]),false):=by
 have hz:r.length+1<=sizeLine:=sZ h;simp[jd,d2,cc,cC,eK,b7,cy,cj,Dh,cR,eZ,hz]
theorem tH {n m:Nat}(hn:n<=1000)(hm:m<=1000000)(hb:∀j≤n,m ^ j<=1000000):gG [.int (n:Int),.int (m:Int)]=some (.list ((dQ m n).map cR),false):=by
 have run:gG [.int (n:Int),.int (m:Int)]=(lL [some (.int (n:Int),false),some (.int (m:Int),false),none,none,none,none]).bind eD:=rfl;have q1:(gf 2 (cJ 2 (df (b7 (eK cy) cy)))) [some (.int (n:Int),false),some (.int (m:Int),false),none,none,none,none]=some (.next [some (.int (n:Int),false),some (.int (m:Int),false),some (.list ((dQ m 0).map cR),false),none,none,none]):=by
  simp[gf,cJ,df,b7,eK,cy,Dh,share,dQ,cR]
 have q2:(cS (cj 0)) [some (.int (n:Int),false),some (.int (m:Int),false),some (.list ((dQ m 0).map cR),false),none,none,none]=some ((ao n).map fun (x:Nat)=>.int (x:Int)):=by
  rw[<-dA];exact dI (j:=(n:Int)) (o:=false) (by simp[cj]) ⋯ ⋯
 have turn:∀(j:Nat) (s3 s4 s5:Option Vl),j<n->∃t4 t5,jg [some (.int (n:Int),false),some (.int (m:Int),false),some (.list ((dQ m j).map cR),false),s3,s4,s5]=some (.next [some (.int (n:Int),false),some (.int (m:Int),false),some (.list ((dQ m (j+1)).map cR),false),s3,t4,t5]):=by
  intro j s3 s4 s5 hj;have e1:(cJ 4 (df cy)) [some (.int (n:Int),false),some (.int (m:Int),false),some (.list ((dQ m j).map cR),false),s3,s4,s5]=some (.next [some (.int (n:Int),false),some (.int (m:Int),false),some (.list ((dQ m j).map cR),false),s3,some (.list (([]:List (List Int)).map cR),true),s5]):=by simp[cJ,df,cy]
  have e2:(da (dY 2)) [some (.int (n:Int),false),some (.int (m:Int),false),some (.list ((dQ m j).map cR),false),s3,some (.list (([]:List (List Int)).map cR),true),s5]=some ((dQ m j).map cR):=by simp[da,dY]
  obtain⟨ρ',l,u,e⟩:=lD (g:=gN 5) (b:=kN) (d:=cR) (f:=xu m)
   (P:=fun acc ρ=>∃u,ρ=[some (.int (n:Int),false),some (.int (m:Int),false),some (.list ((dQ m j).map cR),false),s3,some (.list (acc.map cR),true),u]) 1000000 (dQ m j) [] _ ⟨s5,rfl⟩
   (by have:=kj m (j+1);rw[dQ] at this;rw[this];simpa using hb (j+1) ⋯)
   (fun r hr acc ρ ⟨u,e⟩ ha=>by
    subst e;refine⟨_,_,rfl,?_,some (cR r,false),rfl⟩;have hl:=(k8 hr).1;have c:=eG (it:=cS (cj 1)) (n:=1) (ix:=[5]) (g:=gN 0) (e:=jd) (ρ:=[some (.int (n:Int),false),some (.int (m:Int),false),some (.list ((dQ m j).map cR),false),s3,some (.list (acc.map cR),true),some (cR r,false)]) (d:=fun (x:Nat)=>.int (x:Int)) (β:=fun (x:Nat)=>cR (r++[(x:Int)])) (ao m)
     (by rw[<-dA];exact dI (j:=(m:Int)) (o:=false) (by simp[cj]) ⋯ ⋯) (by rw[aI];exact hm)
     (fun x _=>⟨_,false,rfl,Aj ⋯⟩)
    have hz:acc.length+m<=sizeLine:=sZ (by simpa [xu] using ha);rw[kN,pS];simp only[bT];rw[c];simp[lY,hz,xu,bg])
  rw[bN] at e;subst e;refine⟨some (.list ((dQ m (j+1)).map cR),false),u,?_⟩;rw[jg,cL e1,cH,eB e2,l,aa];simp[kH,share,cJ,cj,dQ]
 have l:∀(c j:Nat) (s3 s4 s5:Option Vl),j+c=n->∃t3 t4 t5,eN (gN 3) jg ((bP j c).map fun (x:Nat)=>.int (x:Int)) [some (.int (n:Int),false),some (.int (m:Int),false),some (.list ((dQ m j).map cR),false),s3,s4,s5]=some (.next [some (.int (n:Int),false),some (.int (m:Int),false),some (.list ((dQ m n).map cR),false),t3,t4,t5]):=by
  intro c;induction c with
  |zero =>
   intro j s3 s4 s5 h;have:j=n:=by omega
   subst this;exact⟨s3,s4,s5,rfl⟩
  |succ c ih =>
   intro j s3 s4 s5 h;obtain⟨t4,t5,e⟩:=turn j (some (.int (j:Int),false)) s4 s5 ⋯;obtain⟨u3,u4,u5,e2⟩:=ih (j+1) (some (.int (j:Int),false)) t4 t5 ⋯;refine⟨u3,u4,u5,?_⟩;rw[bZ,az,mB rfl e];exact e2
 obtain⟨t3,t4,t5,l⟩:=l n 0 none none none ⋯;rw[<-bB] at l;rw[run,lL,cL q1,cH,eB q2,l,aa];simp[dw,cj,eD]
noncomputable def rN (r:List Int)(j:Nat):Nat:=(gI r (j:Int)).toNat
noncomputable def xv (r1 r2:List Int)(j:Nat)(ch:List (List Int)):List (List (List Int)):=(dQ (rN r2 j) (rN r1 j)).map fun r=>ch++[r]
noncomputable def dU (r1 r2:List Int):Nat->List (List (List Int))
 |0=>[[]]
 |j+1=>(dU r1 r2 j).flatMap (xv r1 r2 j)
noncomputable def jX (r1 r2:List Int):Nat->Nat
 |0=>1
 |j+1=>jX r1 r2 j*rN r2 j ^ rN r1 j
theorem mO (r1 r2:List Int):∀j,(dU r1 r2 j).length=jX r1 r2 j
 |0=>rfl
 | j+1=>by
  rw[dU,mE (c:=rN r2 j ^ rN r1 j) (fun ch=>by rw[xv,af,kj]),mO r1 r2 j,jX]
theorem pB {r1 r2:List Int}:∀{j:Nat}{ch:List (List Int)},ch∈dU r1 r2 j->ch.length=j/\∀i<j,((ch.getD i []).length=rN r1 i/\∀x∈ch.getD i [],0<=x/\x<(rN r2 i:Int))
 | 0,ch,h=>by
  cases List.mem_singleton.mp h;exact⟨rfl,fun i hi=>by omega⟩
 | j+1,ch,h=>by
  obtain⟨q,hq,hr⟩:=List.mem_flatMap.mp h;obtain⟨r,hr',rfl⟩:=List.mem_map.mp hr;obtain⟨h1,h2⟩:=pB hq;refine⟨by rw[aw,aP,h1],fun i hi=>?_⟩;by_cases c:i<j
  ·rw[ag,aR ⋯,<-ag];exact h2 i c
  ·have:i=q.length:=by omega
   subst this;rw[ag,List.getElem?_concat_length,h1];exact k8 hr'
theorem Ef {ch:List (List Int)}{r:List Int}(h:ch.length+1<=1000000):ku [some (cR r,false),some (.tuple (ch.map cR),false)]=some (.tuple ((ch++[r]).map cR),false):=by
 have hz:ch.length+1<=sizeLine:=sZ h;simp[ku,d2,cc,cC,eK,b7,cy,cj,Dh,eZ,hz]
noncomputable def kc (ch:List (List Int)):D:=.tuple (ch.map cR)
theorem xi {k:Int}{ar:Ar}{r1 r2:List Int}{s1 s2:List (List Int)}(w:Wf k ar)(hk:k<=1000)(b1:cV k ar r1 s1)(b2:cV k ar r2 s2)(hm1:∀r∈r1,r<=1000)(hm2:∀r∈r2,r<=1000000)(hb1:∀i<k.toNat,∀j≤rN r1 i,rN r2 i ^ j<=1000000)(hb2:∀j≤k.toNat,jX r1 r2 j<=1000000) :
  iX [cg k ar,cp r1 s1,cp r2 s2]=some (.list (((dU r1 r2 k.toNat).filter (mw k ar r1 s1 r2 s2)).map kc),true):=by
 have k0:=w.lo;have hl1:=b1.len;have hl2:=b2.len;have run:iX [cg k ar,cp r1 s1,cp r2 s2]=(ou [some (cg k ar,false),some (cp r1 s1,false),some (cp r2 s2,false),none,none,none,none]).bind eD:=rfl;have q1:(gf 3 (cJ 3 (df (b7 (eK cy) cy)))) [some (cg k ar,false),some (cp r1 s1,false),some (cp r2 s2,false),none,none,none,none]=some (.next [some (cg k ar,false),some (cp r1 s1,false),some (cp r2 s2,false),some (.list ((dU r1 r2 0).map kc),false),none,none,none]):=by
  simp[gf,cJ,df,b7,eK,cy,Dh,share,dU,kc]
 have q2:(cS (d2 cN (cc 0) (cC (dC (.int 0))))) [some (cg k ar,false),some (cp r1 s1,false),some (cp r2 s2,false),some (.list ((dU r1 r2 0).map kc),false),none,none,none]=some ((ao k.toNat).map fun (x:Nat)=>.int (x:Int)):=by
  rw[<-dA];exact dI (o:=false) (by simp[d2,cc,cC,dC,mz]) ⋯ ⋯
 have turn:∀(j:Nat) (s5 s6:Option Vl),j<k.toNat->∃t5 t6,kD [some (cg k ar,false),some (cp r1 s1,false),some (cp r2 s2,false),some (.list ((dU r1 r2 j).map kc),false),some (.int (j:Int),false),s5,s6]=some (.next [some (cg k ar,false),some (cp r1 s1,false),some (cp r2 s2,false),some (.list ((dU r1 r2 (j+1)).map kc),false),some (.int (j:Int),false),t5,t6]):=by
  intro j s5 s6 hj;have e1:(cJ 5 (df cy)) [some (cg k ar,false),some (cp r1 s1,false),some (cp r2 s2,false),some (.list ((dU r1 r2 j).map kc),false),some (.int (j:Int),false),s5,s6]=some (.next [some (cg k ar,false),some (cp r1 s1,false),some (cp r2 s2,false),some (.list ((dU r1 r2 j).map kc),false),some (.int (j:Int),false),some (.list (([]:List (List (List Int))).map kc),true),s6]):=by simp[cJ,df,cy]
  have e2:(da (dY 3)) [some (cg k ar,false),some (cp r1 s1,false),some (cp r2 s2,false),some (.list ((dU r1 r2 j).map kc),false),some (.int (j:Int),false),some (.list (([]:List (List (List Int))).map kc),true),s6]=some ((dU r1 r2 j).map kc):=by simp[da,dY]
  have i1:=gK (xs:=r1) (i:=(j:Int)) ⋯ ⋯;have i2:=gK (xs:=r2) (i:=(j:Int)) ⋯ ⋯;have n1:=iz b1.nn (j:Int);have n2:=iz b2.nn (j:Int);have m1:=j8 (m:=1000) ⋯ hm1 (j:Int);have m2:=j8 (m:=1000000) ⋯ hm2 (j:Int);have c1:((rN r1 j:Nat):Int)=gI r1 (j:Int):=by unfold rN;omega
  have c2:((rN r2 j:Nat):Int)=gI r2 (j:Int):=by unfold rN;omega
  have tu:=tH (n:=rN r1 j) (m:=rN r2 j) ⋯ ⋯ (hb1 j hj);rw[c1,c2] at tu;have hw:=hb2 (j+1) ⋯;obtain⟨ρ',l,u,e⟩:=lD (g:=gN 6) (b:=mQ) (d:=kc) (f:=xv r1 r2 j)
   (P:=fun acc ρ=>∃u,ρ=[some (cg k ar,false),some (cp r1 s1,false),some (cp r2 s2,false),some (.list ((dU r1 r2 j).map kc),false),some (.int (j:Int),false),some (.list (acc.map kc),true),u]) 1000000 (dU r1 r2 j) [] _ ⟨s6,rfl⟩
   (by have:=mO r1 r2 (j+1);rw[dU] at this;rw[this];simpa using hw)
   (fun ch hch acc ρ ⟨u,e⟩ ha=>by
    subst e;refine⟨_,_,rfl,?_,some (kc ch,false),rfl⟩;have hl:=(pB hch).1;have c:=eG (it:=da (fF (cB gG (b7 (d2 cN (cC (d2 cN (cc 1) (cC (dC (.int 0))))) (cc 4)) (b7 (d2 cN (cC (d2 cN (cc 2) (cC (dC (.int 0))))) (cc 4)) cy))))) (n:=1) (ix:=[6]) (g:=gN 0) (e:=ku) (ρ:=[some (cg k ar,false),some (cp r1 s1,false),some (cp r2 s2,false),some (.list ((dU r1 r2 j).map kc),false),some (.int (j:Int),false),some (.list (acc.map kc),true),some (kc ch,false)]) (d:=cR) (β:=fun r=>kc (ch++[r])) (dQ (rN r2 j) (rN r1 j))
     (by simp[da,fF,cB,b7,cy,d2,cC,cc,dC,nK,i1,i2,tu,dS]) (by rw[kj];exact hb1 j hj _ (aC _))
     (fun r _=>⟨_,false,rfl,Ef ⋯⟩)
    have hz:acc.length+(dQ (rN r2 j) (rN r1 j)).length<=sizeLine:=sZ (by simpa [xv] using ha);rw[mQ,pS];simp only[bT];rw[c];simp[lY,hz,xv,bg])
  rw[bN] at e;subst e;refine⟨some (.list ((dU r1 r2 (j+1)).map kc),false),u,?_⟩;rw[kD,cL e1,cH,eB e2,l,aa];simp[kH,share,cJ,cj,dU]
 have l:∀(c j:Nat) (s4 s5 s6:Option Vl),j+c=k.toNat->∃t4 t5 t6,eN (gN 4) kD ((bP j c).map fun (x:Nat)=>.int (x:Int)) [some (cg k ar,false),some (cp r1 s1,false),some (cp r2 s2,false),some (.list ((dU r1 r2 j).map kc),false),s4,s5,s6]=some (.next [some (cg k ar,false),some (cp r1 s1,false),some (cp r2 s2,false),some (.list ((dU r1 r2 k.toNat).map kc),false),t4,t5,t6]):=by
  intro c;induction c with
  |zero =>
   intro j s4 s5 s6 h;have:j=k.toNat:=by omega
   subst this;exact⟨s4,s5,s6,rfl⟩
  |succ c ih =>
   intro j s4 s5 s6 h;obtain⟨t5,t6,e⟩:=turn j s5 s6 ⋯;obtain⟨u4,u5,u6,e2⟩:=ih (j+1) (some (.int (j:Int),false)) t5 t6 ⋯;refine⟨u4,u5,u6,?_⟩;rw[bZ,az,mB rfl e];exact e2
 obtain⟨t4,t5,t6,l⟩:=l k.toNat 0 none none none ⋯;rw[<-bB] at l;have c:=CQ (it:=da (dY 3)) (n:=1) (ix:=[0,1,2]) (g:=gN 0) (t:=lX (cB gH (b7 (cj 1) (b7 (cj 2) (b7 (cj 3) (b7 (cj 0) cy)))))) (e:=qv) (ρ:=[some (cg k ar,false),some (cp r1 s1,false),some (cp r2 s2,false),some (.list ((dU r1 r2 k.toNat).map kc),false),t4,t5,t6]) (d:=kc) (β:=kc) (c:=mw k ar r1 s1 r2 s2) (dU r1 r2 k.toNat)
  (by simp[da,dY]) (by rw[mO];exact hb2 _ (aC _))
  (fun ch _=>⟨_,rfl,by
   have:=tI (ch:=ch) w ⋯ b1 b2 (fun r hr=>by have:=hm1 r hr;omega);simp[lX,cB,b7,cy,cj,eT,kc,this,tM],fun _=>⟨false,rfl⟩⟩)
 rw[run,ou,cL q1,cH,eB q2,l,aa];dsimp only;rw[dw,c];rfl
theorem Bn {k:Int}{ar:Ar}{r1 r2:List Int}{s1 s2:List (List Int)}{s0 s5:Option Vl}{W:Nat}{j:Nat}(b1:cV k ar r1 s1)(b2:cV k ar r2 s2)(hj:(j:Int)<k)(hm1:∀r∈r1,r<=1000)(hm2:∀r∈r2,r<=1000):∃x,
  jO [s0,some (cp r1 s1,false),some (cp r2 s2,false),some (.int (W:Int),false),some (.int (j:Int),false),s5]=some (.next [s0,some (cp r1 s1,false),some (cp r2 s2,false),some (.int ((W*rN r2 j ^ rN r1 j:Nat):Int),false),some (.int (j:Int),false),x]):=by
 have hl1:=b1.len;have hl2:=b2.len;have i1:=gK (xs:=r1) (i:=(j:Int)) ⋯ ⋯;have i2:=gK (xs:=r2) (i:=(j:Int)) ⋯ ⋯;have n1:=iz b1.nn (j:Int);have n2:=iz b2.nn (j:Int);have m1:=j8 (m:=1000) ⋯ hm1 (j:Int);have m2:=j8 (m:=1000) ⋯ hm2 (j:Int);have c2:((rN r2 j:Nat):Int)=gI r2 (j:Int):=by unfold rN;omega
 have q:(cS (d2 cN (cC (d2 cN (cc 1) (cC (dC (.int 0))))) (cc 4))) [s0,some (cp r1 s1,false),some (cp r2 s2,false),some (.int (W:Int),false),some (.int (j:Int),false),s5]=some ((ao (rN r1 j)).map fun (x:Nat)=>.int (x:Int)):=by
  rw[<-dA];exact dI (o:=false) (by simp[d2,cc,cC,dC,nK,i1]) n1 ⋯
 obtain⟨ρ',l,u,e⟩:=mD (g:=gN 5) (b:=jP) (d:=fun (x:Nat)=>.int (x:Int)) (f:=fun (W:Nat) (_:Nat)=>W*rN r2 j)
  (P:=fun (W:Nat) ρ=>∃u,ρ=[s0,some (cp r1 s1,false),some (cp r2 s2,false),some (.int (W:Int),false),some (.int (j:Int),false),u]) (ao (rN r1 j)) W _ ⟨s5,rfl⟩
  (fun x _ W ρ zz=>by
   obtain ⟨u,e⟩:=zz;subst e;refine⟨_,_,rfl,?_,some (.int (x:Int),false),rfl⟩;have hmul:=rO (i:=(W:Int)) (j:=gI r2 (j:Int)) ⋯ ⋯;rw[Int.natCast_mul,c2];have u1:(cC (d2 cN (cC (d2 cN (cc 2) (cC (dC (.int 0))))) (cc 4))) [s0,some (cp r1 s1,false),some (cp r2 s2,false),some (.int (W:Int),false),some (.int (j:Int),false),some (.int (x:Int),false)]=some (.int (gI r2 (j:Int))):=by
    simp only[d2,cc,cC,dC,aK,aM,aa,av,nK,i2]
   have u2:(cc 3) [s0,some (cp r1 s1,false),some (cp r2 s2,false),some (.int (W:Int),false),some (.int (j:Int),false),some (.int (x:Int),false)]=some (.int (W:Int)):=by
    simp only[cc,aK,aM]
   show jP [s0,some (cp r1 s1,false),some (cp r2 s2,false),some (.int (W:Int),false),some (.int (j:Int),false),some (.int (x:Int),false)]=_;rw[jP,cJ,d2,u2,aa,u1,aa,hmul,aa];rfl)
 have pw:∀(l:List Nat) (W:Nat),l.foldl (fun (W:Nat) (_:Nat)=>W*rN r2 j) W=W*rN r2 j ^ l.length:=by
  intro l;induction l with
  |nil=>intro W;simp
  |cons a l ih=>intro W;rw[List.foldl_cons,ih,aJ,Nat.pow_succ,Nat.mul_assoc,Nat.mul_comm (rN r2 j)]
 rw[pw,aI] at e;exact⟨u,by rw[jO,eB q,l,e]⟩
theorem vp {k:Int}{ar:Ar}{r1 r2:List Int}{s1 s2:List (List Int)}(w:Wf k ar)(hk:k<=1000)(b1:cV k ar r1 s1)(b2:cV k ar r2 s2)(hm1:∀r∈r1,r<=1000)(hm2:∀r∈r2,r<=1000) :
  ig [cg k ar,cp r1 s1,cp r2 s2]=some (.int (jX r1 r2 k.toNat:Int),false):=by
 have k0:=w.lo;have run:ig [cg k ar,cp r1 s1,cp r2 s2]=(mK [some (cg k ar,false),some (cp r1 s1,false),some (cp r2 s2,false),none,none,none]).bind eD:=rfl;have q1:(cJ 3 (dC (.int 1))) [some (cg k ar,false),some (cp r1 s1,false),some (cp r2 s2,false),none,none,none]=some (.next [some (cg k ar,false),some (cp r1 s1,false),some (cp r2 s2,false),some (.int ((1:Nat):Int),false),none,none]):=by simp[cJ,dC]
 have q2:(cS (d2 cN (cc 0) (cC (dC (.int 0))))) [some (cg k ar,false),some (cp r1 s1,false),some (cp r2 s2,false),some (.int ((1:Nat):Int),false),none,none]=some ((ao k.toNat).map fun (x:Nat)=>.int (x:Int)):=by
  rw[<-dA];exact dI (o:=false) (by simp[d2,cc,cC,dC,mz]) ⋯ ⋯
 obtain⟨ρ',l,u,v,e⟩:=mD (g:=gN 4) (b:=jO) (d:=fun (x:Nat)=>.int (x:Int)) (f:=fun (W:Nat) (j:Nat)=>W*rN r2 j ^ rN r1 j)
  (P:=fun (W:Nat) ρ=>∃u v,ρ=[some (cg k ar,false),some (cp r1 s1,false),some (cp r2 s2,false),some (.int (W:Int),false),u,v]) (ao k.toNat) 1 _ ⟨none,none,rfl⟩
  (fun j hj W ρ zz=>by
   obtain ⟨u,v,e⟩:=zz;subst e;rw[aZ] at hj;obtain⟨x,e⟩:=Bn (s0:=some (cg k ar,false)) (s5:=v) (W:=W) (j:=j) b1 b2 ⋯ hm1 hm2;exact⟨_,_,rfl,e,_,_,rfl⟩)
 have fw:∀n,(ao n).foldl (fun (W:Nat) (j:Nat)=>W*rN r2 j ^ rN r1 j) 1=jX r1 r2 n:=by
  intro n;induction n with
  |zero=>rfl
  |succ n ih=>rw[JG,List.foldl_append,ih];rfl
 rw[fw] at e;subst e;rw[run,mK,cL q1,cH,eB q2,l,aa];simp[dw,cj,eD]
theorem lz {α β:Type}{f:α->List β}(g:β->α):∀{l:List α},l.Nodup->(∀a∈l,(f a).Nodup)->(∀a∈l,∀b∈f a,g b=a)->(l.flatMap f).Nodup
 |[],_,_,_=>by simp
 | a::l,nd,h1,h2=>by
  rw[bM,List.nodup_append];rw[List.nodup_cons] at nd;refine⟨h1 a (by simp),lz g nd.2 (fun b hb=>h1 b (by simp[hb])) (fun b hb=>h2 b (by simp[hb])),fun x hx y hy z=>?_⟩;subst z;obtain⟨b,hb,hxb⟩:=List.mem_flatMap.mp hy;have e1:=h2 a (by simp) x hx;have e2:=h2 b (by simp[hb]) x hxb;exact nd.1 (by rw[<-e1,e2];exact hb)
theorem oi {e:Int}{p:List Nat}:∀{r:Ar}{s:Nat},(iN e p s r).Nodup
 |[],s=>List.nodup_nil
 | a::r,s=>by
  unfold iN;split
  ·refine List.nodup_cons.mpr ⟨fun h=>?_,oi⟩;obtain⟨i,_,e1,_⟩:=mF h;have:=List.append_cancel_left e1;simp at this;omega
  ·exact oi
theorem x4 {ar:Ar}{kind:Int}{r:List (List Nat)}(h:r.Nodup):(step ar kind r).Nodup:=by
 unfold step;refine lz List.dropLast h (fun _ _=>oi) fun p _ q hq=>?_;obtain⟨i,_,rfl,_⟩:=mF hq;rw[List.dropLast_concat]
theorem tW {ar:Ar}{kind other:Int}:∀(m n:Nat) (r f:List (List Nat)),r.Nodup->f.Nodup->(∀p∈r,p.length=n)->(∀p∈f,p.length<n)->(run ar kind other m r f).Nodup
 |0,_,_,_,_,hf,_,_=>hf
 | m+1,n,r,f,hr,hf,lr,lf=>by
  refine tW m (n+1) _ _ (x4 hr) (List.nodup_append.mpr ⟨hf,hr.sublist List.filter_sublist,fun x hx y hy z=>?_⟩) (fun q hq=>?_) fun q hq=>?_
  ·have a:=lf x hx;have b:=lr y (List.mem_filter.mp hy).1;rw[z] at a;omega
  ·obtain⟨p,i,_,hp,e,_⟩:=kP hq;rw[e,aw,aP,lr p hp]
  ·rcases List.mem_append.mp hq with z|z
   ·have:=lf q z;omega
   ·have:=lr q (List.mem_filter.mp z).1;omega
theorem sP {k:Int}{ar:Ar}{kind other:Int}:(gn k ar kind other).Nodup:=tW _ 0 _ _ (by simp) List.nodup_nil (fun p hp=>by cases List.mem_singleton.mp hp;rfl) fun p hp=>nomatch hp
end Lw
namespace Td
inductive Cn {α:Type}(r:α->α->Prop):α->α->Prop where
 |refl (i:α):Cn r i i
 |tie {i j k:α}:r i j->Cn r j k->Cn r i k
 |eit {i j k:α}:r j i->Cn r j k->Cn r i k
section
variable {α β:Type}{r:α->α->Prop}
theorem Cn.trans {i j k:α}(h:Cn r i j)(g:Cn r j k):Cn r i k:=by
 induction h with
 |refl=>exact g
 |tie t _ ih=>exact .tie t (ih g)
 |eit t _ ih=>exact .eit t (ih g)
theorem Cn.one {i j:α}(h:r i j):Cn r i j:=.tie h (.refl _)
theorem Cn.symm {i j:α}(h:Cn r i j):Cn r j i:=by
 induction h with
 |refl=>exact .refl _
 |tie t _ ih=>exact ih.trans (.eit t (.refl _))
 |eit t _ ih=>exact ih.trans (.tie t (.refl _))
theorem Cn.map {s:β->β->Prop}(f:α->β)(h:∀i j,r i j->Cn s (f i) (f j)){i j:α}(c:Cn r i j):Cn s (f i) (f j):=by
 induction c with
 |refl=>exact .refl _
 |tie t _ ih=>exact (h _ _ t).trans ih
 |eit t _ ih=>exact (h _ _ t).symm.trans ih
theorem Cn.eq (f:α->β)(h:∀i j,r i j->f i=f j){i j:α}(c:Cn r i j):f i=f j:=by
 induction c with
 |refl=>rfl
 |tie t _ ih=>exact (h _ _ t).trans ih
 |eit t _ ih=>exact (h _ _ t).symm.trans ih
end
section
variable {α:Type}[DecidableEq α]
open Classical in
noncomputable def fy (ts:List α)(r:α->α->Prop)(t:α):Bool:=decide (∀u∈ts,Cn r u t->ts.idxOf t<=ts.idxOf u)
noncomputable def eV (ts:List α)(r:α->α->Prop):List α:=ts.filter (fy ts r)
open Classical in
noncomputable def tD (ts:List α)(r:α->α->Prop)(t:α):Nat:=(eV ts r).findIdx fun u=>decide (Cn r u t)
variable {ts:List α}{r:α->α->Prop}
open Classical in
theorem oh {t:α}:fy ts r t=true<->∀u∈ts,Cn r u t->ts.idxOf t<=ts.idxOf u:=by
 unfold fy;exact decide_eq_true_iff (p:=∀u∈ts,Cn r u t->ts.idxOf t<=ts.idxOf u)
theorem mem_firsts {t:α}:t∈eV ts r<->t∈ts/\∀u∈ts,Cn r u t->ts.idxOf t<=ts.idxOf u:=by
 unfold eV;rw[List.mem_filter,oh]
theorem AW:∀(n:Nat) (t:α),t∈ts->ts.idxOf t<=n->∃u∈eV ts r,Cn r u t:=by
 intro n;induction n with
 |zero =>
  intro t ht hn;exact⟨t,mem_firsts.mpr ⟨ht,fun u _ _=>by omega⟩,.refl t⟩
 |succ n ih =>
  intro t ht hn;by_cases h:∀u∈ts,Cn r u t->ts.idxOf t<=ts.idxOf u
  ·exact⟨t,mem_firsts.mpr ⟨ht,h⟩,.refl t⟩
  ·simp only[Classical.not_forall] at h;obtain⟨u,hu,c,l⟩:=h;obtain⟨v,hv,d⟩:=ih u hu ⋯;exact⟨v,hv,d.trans c⟩
theorem zC {t:α}(ht:t∈ts):tD ts r t<(eV ts r).length:=by
 obtain⟨u,hu,c⟩:=AW (r:=r) _ t ht (aC _);exact List.findIdx_lt_length_of_exists ⟨u,hu,@decide_eq_true _ (Classical.propDecidable _) c⟩
theorem oU {t:α}(ht:t∈ts):∃u,(eV ts r)[tD ts r t]?=some u/\u∈ts/\Cn r u t:=by
 have h:=zC (r:=r) ht;refine⟨_,aj h,(mem_firsts.mp (List.getElem_mem h)).1,?_⟩;have:=List.findIdx_getElem (w:=h);exact @of_decide_eq_true _ (Classical.propDecidable _) this
theorem yJ {t u:α}(ht:t∈eV ts r)(hu:u∈eV ts r)(c:Cn r t u):t=u:=by
 obtain⟨h1,h2⟩:=mem_firsts.mp ht;obtain⟨g1,g2⟩:=mem_firsts.mp hu;have a:=h2 u g1 c.symm;have b:=g2 t h1 c;have e:ts.idxOf t=ts.idxOf u:=by omega
 have x1:=bx (List.idxOf_lt_length_iff.mpr h1);have x2:=bx (List.idxOf_lt_length_iff.mpr g1);rw[<-x1,<-x2];simp only[e]
theorem zD {t u:α}(ht:t∈ts)(hu:u∈ts):tD ts r t=tD ts r u<->Cn r t u:=by
 refine⟨fun e=>?_,fun c=>?_⟩
 ·obtain⟨v,h1,_,h2⟩:=oU (r:=r) ht;obtain⟨w,g1,_,g2⟩:=oU (r:=r) hu;rw[e,g1] at h1;cases h1;exact h2.symm.trans g2
 ·unfold tD;congr 1;funext v;exact (@decide_eq_decide _ _ (Classical.propDecidable _) (Classical.propDecidable _)).mpr ⟨fun d=>d.trans c,fun d=>d.trans c.symm⟩
theorem qe (nd:ts.Nodup){i:Nat}{u:α}(h:(eV ts r)[i]?=some u):u∈ts/\tD ts r u=i:=by
 have hm:=aA h;have ht:=(mem_firsts.mp hm).1;refine⟨ht,?_⟩;obtain⟨v,h1,_,h2⟩:=oU (r:=r) ht;have e:=yJ (aA h1) hm h2;subst e;have nf:(eV ts r).Nodup:=List.Nodup.sublist List.filter_sublist nd;have hi:=(List.getElem?_eq_some_iff.mp h).1;have hj:=(List.getElem?_eq_some_iff.mp h1).1;have e1:=(List.getElem?_eq_some_iff.mp h).2;have e2:=(List.getElem?_eq_some_iff.mp h1).2;exact (JJ nf).mp (e2.trans e1.symm)
theorem GY {γ:Type}{f:α->γ}(hf:∀t∈ts,∀u∈ts,Cn r t u->f t=f u){t:α}(ht:t∈ts):((eV ts r).map f)[tD ts r t]?=some (f t):=by
 obtain⟨u,h1,h2,h3⟩:=oU (r:=r) ht;rw[au,h1,av,hf u h2 t ht h3]
end
end Td
namespace Lw
open Td
noncomputable abbrev Tr:=Int×List Nat×Int
structure Sb where
 k1:Int
 ar1:Ar
 k2:Int
 ar2:Ar
 pl:List Int
 ws:List (List Nat)
 rows:List Int
 steps:List (List Int)
structure eC (e:Sb):Prop where
 w1:Wf e.k1 e.ar1
 w2:Wf e.k2 e.ar2
 h4:e.k2<=4
 s:lQ e.k1 e.ar1 e.k2 e.ar2 e.pl e.ws
 b:cV e.k1 e.ar1 e.rows e.steps
structure sR (e:Sb)(d:Int)(t:Tr):Prop where
 c0:0<=t.1
 c1:t.1<e.k1
 ch:dP e.ar2 (gI e.pl t.1) t.2.1
 en:dH e.ar2 (gI e.pl t.1) t.2.1=d
 x0:0<=t.2.2
 x1:t.2.2<gI e.rows t.1
noncomputable def cv (e:Sb)(d:Int):List Tr:=(ao e.k1.toNat).flatMap fun (c:Nat)=>(gn e.k2 e.ar2 (gI e.pl (c:Int)) d).flatMap fun p=>(ao (gI e.rows (c:Int)).toNat).map fun (x:Nat)=>((c:Int),p,(x:Int))
structure IV (e:Sb)(d:Int)(t u:Tr)(i:Nat)(a:Int×Int)(w q:List Nat)(s:List Int)(x:Int):Prop where
 ha:e.ar1[i]?=some a
 hw:e.ws[i]?=some w
 hs:e.steps[i]?=some s
 ch:dP e.ar2 (gI e.pl a.2) q
 en:dH e.ar2 (gI e.pl a.2) q=d
 x0:0<=x
 x1:x<gI e.rows a.1
 et:t=(a.1,w++q,x)
 eu:u=(a.2,q,gI s x)
def jj (e:Sb)(d:Int)(t u:Tr):Prop:=∃i a w q s x,IV e d t u i a w q s x
noncomputable def fs (e:Sb)(d:Int):List Tr:=eV (cv e d) (jj e d)
noncomputable def kU (e:Sb)(d:Int)(t:Tr):Int:=(tD (cv e d) (jj e d) t:Int)
section
variable {e:Sb}{d:Int}{t u:Tr}
theorem gi (ok:eC e){c:Int}(h0:0<=c)(h1:c<e.k1):0<=gI e.pl c/\gI e.pl c<e.k2:=HQ ok.s.len (P:=fun x=>0<=x/\x<e.k2) ok.s.nn h0 h1
theorem eE (ok:eC e):t∈cv e d<->sR e d t:=by
 obtain⟨c,p,x⟩:=t;unfold cv;simp only[List.mem_flatMap,aZ,List.mem_map,Prod.mk.injEq];constructor
 ·rintro⟨c',hc,p',hp,x',hx,rfl,rfl,rfl⟩;have pk:=gi ok (c:=(c':Int)) ⋯ ⋯;have:=(jv ok.w2 ok.h4 pk.1 pk.2).mp hp;exact⟨by show (0:Int)<=c';omega,by show (c':Int)<_;omega,this.1,this.2,by show (0:Int)<=x';omega,by show (x':Int)<gI e.rows (c':Int);omega⟩
 ·rintro⟨c0,c1,ch,en,x0,x1⟩;dsimp only at c0 c1 ch en x0 x1;have pk:=gi ok c0 c1;have ec:((c.toNat:Nat):Int)=c:=by omega
  refine⟨c.toNat,by omega,p,?_,x.toNat,?_,ec,rfl,by omega⟩
  ·rw[ec];exact (jv ok.w2 ok.h4 pk.1 pk.2).mpr ⟨ch,en⟩
  ·rw[ec];omega
theorem ji (e:Sb)(d:Int):(cv e d).Nodup:=by
 unfold cv;refine lz (fun t=>t.1.toNat) List.nodup_range (fun c _=>?_) fun c _ t ht=>?_
 ·refine lz (fun t=>t.2.1) sP (fun p _=>?_) fun p _ t ht=>?_
  ·refine List.Pairwise.map _ (fun x y h z=>?_) List.nodup_range;simp only[Prod.mk.injEq,true_and] at z;omega
  ·obtain⟨x,_,rfl⟩:=List.mem_map.mp ht;rfl
 ·obtain⟨p,_,hp⟩:=List.mem_flatMap.mp ht;obtain⟨x,_,rfl⟩:=List.mem_map.mp hp;simp
theorem pL (ok:eC e)(h:jj e d t u):sR e d t/\sR e d u:=by
 obtain⟨i,a,w,q,s,x,ha,hw,hs,ch,en,x0,x1,rfl,rfl⟩:=h;have wa:=ok.w1.ok a (aA ha);obtain⟨c1,c2⟩:=ok.s.way i a w ha hw;obtain⟨l,m⟩:=ok.b.st i a s ha hs;have mx:=m _ (iA x0 ⋯);exact⟨⟨wa.1,by show a.1<_;omega,c1.append (by rw[c2];exact ch),by show dH _ _ (w++q)=d;rw[qu _ _ _ c1,c2];exact en,x0,x1⟩,⟨by show 0<=a.2;omega,wa.2.2,ch,en,mx.1,mx.2⟩⟩
theorem HH (ok:eC e)(h:sR e d t):0<=kU e d t/\kU e d t<(fs e d).length:=by
 have:=zC (r:=jj e d) ((eE ok).mpr h);unfold kU fs;omega
theorem HI (ok:eC e)(h:sR e d t)(g:sR e d u):kU e d t=kU e d u<->Cn (jj e d) t u:=by
 rw[<-zD ((eE ok).mpr h) ((eE ok).mpr g)];unfold kU;omega
theorem Ff (ok:eC e){i:Nat}(h:(fs e d)[i]?=some t):sR e d t/\kU e d t=i:=by
 obtain⟨h1,h2⟩:=qe (ji e d) h;exact⟨(eE ok).mp h1,by unfold kU;rw[h2]⟩
theorem vG (ok:eC e)(h:t∈fs e d):sR e d t:=by
 obtain⟨i,hi⟩:=bX h;exact (Ff ok hi).1
theorem HG (ok:eC e){n:Int}(h0:0<=n)(h1:n<(fs e d).length):∃t,sR e d t/\kU e d t=n:=by
 have hl:n.toNat<(fs e d).length:=by omega
 obtain⟨h2,h3⟩:=Ff ok (aj hl);exact⟨_,h2,by rw[h3];omega⟩
theorem Fp (ok:eC e){f:Tr->Int}(hf:∀t u,sR e d t->sR e d u->jj e d t u->f t=f u)(h:sR e d t):gI ((fs e d).map f) (kU e d t)=f t:=by
 have g:∀t u,Cn (jj e d) t u->f t=f u:=fun t u c=>c.eq f fun i j r=>hf i j (pL ok r).1 (pL ok r).2 r;have:=GY (r:=jj e d) (f:=f) (fun t _ u _ c=>g t u c) ((eE ok).mpr h);unfold gI kU;rw[aW,ag];unfold fs;rw[this];rfl
end
noncomputable def vT (e:Sb):List Int:=(ao e.k2.toNat).map fun (d:Nat)=>((fs e (d:Int)).length:Int)
section
variable {e:Sb}{d:Int}{t u:Tr}
theorem Cr {n:Int}(f:Nat->Int){i:Int}(h0:0<=i)(h1:i<n):gI ((ao n.toNat).map f) i=f i.toNat:=by
 unfold gI;rw[ag,au,bh ⋯];rfl
theorem yH {n:Int}(f:Nat->List Int){i:Int}(h0:0<=i)(h1:i<n):gC ((ao n.toNat).map f) i=f i.toNat:=by
 unfold gC;rw[ag,au,bh ⋯];rfl
theorem qU (h0:0<=d)(h1:d<e.k2):gI (vT e) d=((fs e d).length:Int):=by
 unfold vT;rw[Cr _ h0 h1,show ((d.toNat:Nat):Int)=d by omega]
end
section
variable {e:Sb}{d:Int}{t u:Tr}
end
structure fQ (k:Int)(ar:Ar)(r1:List Int)(s1:List (List Int))(r2:List Int)(s2 ch:List (List Int)):Prop where
 c:cZ k r1 r2 ch
 t:∀(i:Nat) (a:Int×Int),ar[i]?=some a->∀x:Int,0<=x->x<gI r1 a.1->gI (gC ch a.2) (gI (s1.getD i []) x)=gI (s2.getD i []) (gI (gC ch a.1) x)
theorem cZ.at_ {k:Int}{r1 r2:List Int}{ch:List (List Int)}(h:cZ k r1 r2 ch){c x:Int}(c0:0<=c)(c1:c<k)(x0:0<=x)(x1:x<gI r1 c):0<=gI (gC ch c) x/\gI (gC ch c) x<gI r2 c:=by
 obtain⟨l,m⟩:=h.row c c0 c1;exact m _ (iA x0 ⋯)
theorem xf {xs ys:List Int}(hl:xs.length=ys.length)(h:∀x:Int,0<=x->x<xs.length->gI xs x=gI ys x):xs=ys:=by
 refine bF fun i=>?_;by_cases hi:i<xs.length
 ·have:=h (i:Int) ⋯ ⋯;unfold gI at this;rw[aW,ag,ag] at this;rw[aj hi,aj ⋯] at this ⊢;exact congrArg some this
 ·rw[aU ⋯,aU ⋯]
theorem uv {k:Int}{r1 r2 r3:List Int}{c1 c2:List (List Int)}(h1:cZ k r1 r2 c1)(h2:cZ k r1 r3 c2)(h:∀c:Int,0<=c->c<k->∀x:Int,0<=x->x<gI r1 c->gI (gC c1 c) x=gI (gC c2 c) x):c1=c2:=by
 refine bF fun i=>?_;have l1:=h1.len;have l2:=h2.len;by_cases hi:i<c1.length
 ·have e:gC c1 (i:Int)=gC c2 (i:Int):=by
   obtain⟨m1,_⟩:=h1.row (i:Int) ⋯ ⋯;obtain⟨m2,_⟩:=h2.row (i:Int) ⋯ ⋯;exact xf ⋯ fun x x0 x1=>h (i:Int) ⋯ ⋯ x x0 ⋯
  have g1:=mY (ch:=c1) (i:=(i:Int)) ⋯ ⋯;have g2:=mY (ch:=c2) (i:=(i:Int)) ⋯ ⋯;rw[aW] at g1 g2;rw[g1,g2,e]
 ·rw[aU ⋯,aU ⋯]
theorem yv {k:Int}{ar:Ar}{r1:List Int}{s1:List (List Int)}{r2:List Int}{s2 ch:List (List Int)}(w:Wf k ar)(b:cV k ar r1 s1)(m:fQ k ar r1 s1 r2 s2 ch):∀(p:List Nat) (c x:Int),dP ar c p->0<=x->x<gI r1 c->gI (gC ch (dH ar c p)) (ny s1 p x)=ny s2 p (gI (gC ch c) x)
 |[],c,x,_,_,_=>by rw[pb];rfl
 | i::p,c,x,⟨a,g1,g2,g3⟩,x0,x1=>by
  subst g2;obtain⟨s,_,e2,l,mm⟩:=i7 b g1;have q:=mm (gI s x) (iA x0 ⋯);rw[fZ g1,ny,ny,<-m.t i a g1 x x0 x1,e2];exact yv w b m p a.2 _ g3 q.1 q.2
theorem DH {k:Int}{ar:Ar}{r1 r2 r3:List Int}{s1 s2 s3 c1 c2 c3:List (List Int)}(w:Wf k ar)(m1:fQ k ar r1 s1 r2 s2 c1)(m2:fQ k ar r2 s2 r3 s3 c2)(b1:cV k ar r1 s1)(h:cZ k r1 r3 c3)(e:∀c:Int,0<=c->c<k->∀x:Int,0<=x->x<gI r1 c->gI (gC c3 c) x=gI (gC c2 c) (gI (gC c1 c) x)):fQ k ar r1 s1 r3 s3 c3:=by
 refine⟨h,fun i a ha x x0 x1=>?_⟩;have wa:=w.ok a (aA ha);obtain⟨s,_,e2,l,mm⟩:=i7 b1 ha;have q:=mm (gI s x) (iA x0 ⋯);have p:=m1.c.at_ wa.1 ⋯ x0 x1;rw[e2,e a.2 ⋯ wa.2.2 _ q.1 q.2,e a.1 wa.1 ⋯ x x0 x1,<-m2.t i a ha _ p.1 p.2,<-m1.t i a ha x x0 x1,e2]
noncomputable def Sb.bk (e:Sb)(r:List Int)(s:List (List Int)):Sb:=⟨e.k1,e.ar1,e.k2,e.ar2,e.pl,e.ws,r,s⟩
noncomputable def ql (ch:List (List Int))(t:Tr):Tr:=(t.1,t.2.1,gI (gC ch t.1) t.2.2)
section
variable {e:Sb}{d:Int}{t u:Tr}{r:List Int}{s ch:List (List Int)}
theorem eC.bk (ok:eC e)(b:cV e.k1 e.ar1 r s):eC (e.bk r s):=⟨ok.w1,ok.w2,ok.h4,ok.s,b⟩
theorem oO (m:cZ e.k1 e.rows r ch)(h:sR e d t):sR (e.bk r s) d (ql ch t):=by
 obtain⟨c0,c1,ch',en,x0,x1⟩:=h;have:=m.at_ c0 c1 x0 x1;exact⟨c0,c1,ch',en,this.1,this.2⟩
theorem By (ok:eC e)(b:cV e.k1 e.ar1 r s)(m:fQ e.k1 e.ar1 e.rows e.steps r s ch)(h:jj e d t u):jj (e.bk r s) d (ql ch t) (ql ch u):=by
 obtain⟨i,a,w,q,st,x,ha,hw,hs,c,en,x0,x1,rfl,rfl⟩:=h;have wa:=ok.w1.ok a (aA ha);obtain⟨st',h1,h2,_,_⟩:=i7 b ha;have mx:=m.c.at_ wa.1 ⋯ x0 x1;refine⟨i,a,w,q,st',gI (gC ch a.1) x,ha,hw,h1,c,en,mx.1,mx.2,rfl,?_⟩;have:=m.t i a ha x x0 x1;rw[h2,ag,hs] at this;show (a.2,q,gI (gC ch a.2) (gI st x))=_;rw[<-this];rfl
end
noncomputable def mq (e:Sb)(r:List Int)(s ch:List (List Int)):List (List Int):=(ao e.k2.toNat).map fun (d:Nat)=>(fs e (d:Int)).map fun t=>kU (e.bk r s) (d:Int) (ql ch t)
section
variable {e:Sb}{d:Int}{t u:Tr}{r:List Int}{s ch:List (List Int)}
theorem HC (ok:eC e)(b:cV e.k1 e.ar1 r s)(m:fQ e.k1 e.ar1 e.rows e.steps r s ch)(d0:0<=d)(d1:d<e.k2)(h:sR e d t):gI (gC (mq e r s ch) d) (kU e d t)=kU (e.bk r s) d (ql ch t):=by
 unfold mq;rw[yH _ d0 d1,show ((d.toNat:Nat):Int)=d by omega];exact Fp ok (fun t u ht hu c=>(HI (ok.bk b) (oO m.c ht) (oO m.c hu)).mpr (.one (By ok b m c))) h
theorem zB {k:Int}{r1 r2:List Int}(k0:0<=k)(f:Nat->List Int)(h:∀d:Nat,(d:Int)<k->((f d).length:Int)=gI r1 (d:Int)/\∀x∈f d,0<=x/\x<gI r2 (d:Int)):cZ k r1 r2 ((ao k.toNat).map f):=by
 refine⟨by rw[af,aI];omega,fun i i0 i1=>?_⟩;rw[yH _ i0 i1];have:=h i.toNat ⋯;rwa[show ((i.toNat:Nat):Int)=i by omega] at this
theorem rL (ok:eC e)(b:cV e.k1 e.ar1 r s)(m:cZ e.k1 e.rows r ch):cZ e.k2 (vT e) (vT (e.bk r s)) (mq e r s ch):=by
 have:=ok.w2.lo;refine zB ⋯ _ fun d hd=>?_;rw[qU ⋯ hd,qU (e:=e.bk r s) ⋯ hd];refine⟨by rw[af],fun x hx=>?_⟩;obtain⟨t,ht,rfl⟩:=List.mem_map.mp hx;exact HH (ok.bk b) (oO m (vG ok ht))
theorem Fo (ok:eC e)(d0:0<=d)(d1:d<e.k2){x:Int}(x0:0<=x)(x1:x<gI (vT e) d):∃t,sR e d t/\kU e d t=x:=by
 rw[qU d0 d1] at x1;exact HG ok x0 x1
end
noncomputable def lu (e:Sb)(s2 ch:List (List Int)):List (List Int):=(ao e.k2.toNat).map fun (d:Nat)=>(fs e (d:Int)).map fun t=>ny s2 t.2.1 (gI (gC ch t.1) t.2.2)
noncomputable abbrev bR (e:Sb)(r2:List Int):List Int:=ft e.pl r2
noncomputable abbrev bS (e:Sb)(r2:List Int)(s2:List (List Int)):List (List Int):=pG e.ar1 e.pl e.ws r2 s2
section
variable {e:Sb}{d:Int}{t u:Tr}{r2:List Int}{s2 ch:List (List Int)}
theorem qA (ok:eC e){c:Int}(c0:0<=c)(c1:c<e.k1):gI (bR e r2) c=gI r2 (gI e.pl c):=by
 have hl:=ok.s.len;have h:=mX (xs:=e.pl) c0 ⋯;show (e.pl.map (gI r2)).getD c.toNat 0=_;rw[ag,au,h];rfl
theorem C6 (ok:eC e){i:Nat}{a:Int×Int}{w:List Nat}(ha:e.ar1[i]?=some a)(hw:e.ws[i]?=some w){x:Int}(x0:0<=x)(x1:x<gI r2 (gI e.pl a.1)):gI ((bS e r2 s2).getD i []) x=ny s2 w x:=by
 have h:(e.ar1.zip e.ws)[i]?=some (a,w):=List.getElem?_zip_eq_some.mpr ⟨ha,hw⟩;show gI (((e.ar1.zip e.ws).map (lP e.pl r2 s2)).getD i []) x=_;rw[ag,au,h];show gI (lP e.pl r2 s2 (a,w)) x=_;unfold lP;rw[Cr _ x0 x1,show ((x.toNat:Nat):Int)=x by omega]
theorem DY (ok:eC e)(m:fQ e.k1 e.ar1 e.rows e.steps (bR e r2) (bS e r2 s2) ch)(h:jj e d t u):ny s2 t.2.1 (gI (gC ch t.1) t.2.2)=ny s2 u.2.1 (gI (gC ch u.1) u.2.2):=by
 obtain⟨i,a,w,q,st,x,ha,hw,hs,c,en,x0,x1,rfl,rfl⟩:=h;have wa:=ok.w1.ok a (aA ha);have mx:=m.c.at_ wa.1 ⋯ x0 x1;rw[qA ok wa.1 ⋯] at mx;have:=m.t i a ha x x0 x1;rw[C6 ok ha hw mx.1 mx.2,ag,hs] at this;show ny s2 (w++q) (gI (gC ch a.1) x)=ny s2 q (gI (gC ch a.2) (gI st x));rw[sd,<-this];rfl
theorem F2 (ok:eC e)(b2:cV e.k2 e.ar2 r2 s2)(m:cZ e.k1 e.rows (bR e r2) ch)(h:sR e d t):0<=ny s2 t.2.1 (gI (gC ch t.1) t.2.2)/\ny s2 t.2.1 (gI (gC ch t.1) t.2.2)<gI r2 d:=by
 obtain⟨c0,c1,c,en,x0,x1⟩:=h;have:=m.at_ c0 c1 x0 x1;rw[qA ok c0 c1] at this;have:=yF b2 _ _ _ c this.1 this.2;rwa[en] at this
theorem vf (ok:eC e)(m:fQ e.k1 e.ar1 e.rows e.steps (bR e r2) (bS e r2 s2) ch)(d0:0<=d)(d1:d<e.k2)(h:sR e d t):gI (gC (lu e s2 ch) d) (kU e d t)=ny s2 t.2.1 (gI (gC ch t.1) t.2.2):=by
 unfold lu;rw[yH _ d0 d1,show ((d.toNat:Nat):Int)=d by omega];exact Fp ok (f:=fun t=>ny s2 t.2.1 (gI (gC ch t.1) t.2.2)) (fun t u _ _ c=>DY ok m c) h
theorem gA (ok:eC e)(b2:cV e.k2 e.ar2 r2 s2)(m:cZ e.k1 e.rows (bR e r2) ch):cZ e.k2 (vT e) r2 (lu e s2 ch):=by
 have:=ok.w2.lo;refine zB ⋯ _ fun d hd=>?_;rw[qU ⋯ hd];refine⟨by rw[af],fun x hx=>?_⟩;obtain⟨t,ht,rfl⟩:=List.mem_map.mp hx;exact F2 ok b2 m (vG ok ht)
end
section
variable {e:Sb}{d:Int}{t u:Tr}{r2:List Int}{s2 ch:List (List Int)}
end
section
variable {e:Sb}{d:Int}{t u:Tr}{r2 r3:List Int}{s2 s3 ch al ch':List (List Int)}
theorem C8 (ok:eC e)(b2:cV e.k2 e.ar2 r2 s2)(m:fQ e.k1 e.ar1 e.rows e.steps (bR e r2) (bS e r2 s2) ch)(ma:fQ e.k2 e.ar2 r2 s2 r3 s3 al)(hc:cZ e.k1 e.rows (bR e r3) ch')(hp:∀c:Int,0<=c->c<e.k1->∀x:Int,0<=x->x<gI e.rows c->gI (gC ch' c) x=gI (gC al (gI e.pl c)) (gI (gC ch c) x)):fQ e.k1 e.ar1 e.rows e.steps (bR e r3) (bS e r3 s3) ch':=by
 refine⟨hc,fun i a ha x x0 x1=>?_⟩;have wa:=ok.w1.ok a (aA ha);have hl:i<e.ws.length:=by rw[ok.s.wl];exact (List.getElem?_eq_some_iff.mp ha).1
 have hw:=aj hl;obtain⟨c1,c2⟩:=ok.s.way i a _ ha hw;obtain⟨st,h1,h2,l,mm⟩:=i7 ok.b ha;have q:=mm (gI st x) (iA x0 ⋯);have mx:=m.c.at_ wa.1 ⋯ x0 x1;rw[qA ok wa.1 ⋯] at mx;have nx:=hc.at_ wa.1 ⋯ x0 x1;rw[qA ok wa.1 ⋯] at nx;have g:=yv ok.w2 b2 ma _ _ _ c1 mx.1 mx.2;rw[c2] at g;have mt:=m.t i a ha x x0 x1;rw[C6 ok ha hw mx.1 mx.2,h2] at mt;rw[h2,hp a.2 ⋯ wa.2.2 _ q.1 q.2,C6 ok ha hw nx.1 nx.2,hp a.1 wa.1 ⋯ x x0 x1,mt,g]
theorem Az (ok:eC e)(b2:cV e.k2 e.ar2 r2 s2)(m:fQ e.k1 e.ar1 e.rows e.steps (bR e r2) (bS e r2 s2) ch)(ma:fQ e.k2 e.ar2 r2 s2 r3 s3 al)(hc:cZ e.k1 e.rows (bR e r3) ch')(hp:∀c:Int,0<=c->c<e.k1->∀x:Int,0<=x->x<gI e.rows c->gI (gC ch' c) x=gI (gC al (gI e.pl c)) (gI (gC ch c) x))
  (d0:0<=d) (d1:d<e.k2) (h:sR e d t):gI (gC (lu e s3 ch') d) (kU e d t)=gI (gC al d) (gI (gC (lu e s2 ch) d) (kU e d t)):=by
 rw[vf ok (C8 ok b2 m ma hc hp) d0 d1 h,vf ok m d0 d1 h,hp _ h.c0 h.c1 _ h.x0 h.x1];have mx:=m.c.at_ h.c0 h.c1 h.x0 h.x1;rw[qA ok h.c0 h.c1] at mx;have g:=yv ok.w2 b2 ma _ _ _ h.ch mx.1 mx.2;rw[h.en] at g;exact g.symm
theorem F5 (ok:eC e){r:List Int}{s ah:List (List Int)}(b:cV e.k1 e.ar1 r s)(ma:fQ e.k1 e.ar1 e.rows e.steps r s ah)(m:fQ e.k1 e.ar1 r s (bR e r2) (bS e r2 s2) ch)(m':fQ e.k1 e.ar1 e.rows e.steps (bR e r2) (bS e r2 s2) ch')(hp:∀c:Int,0<=c->c<e.k1->∀x:Int,0<=x->x<gI e.rows c->gI (gC ch' c) x=gI (gC ch c) (gI (gC ah c) x))
  (d0:0<=d) (d1:d<e.k2) (h:sR e d t):gI (gC (lu e s2 ch') d) (kU e d t)=gI (gC (lu (e.bk r s) s2 ch) d) (gI (gC (mq e r s ah) d) (kU e d t)):=by
 rw[vf ok m' d0 d1 h,HC ok b ma d0 d1 h,vf (e:=e.bk r s) (ok.bk b) m d0 d1 (oO ma.c h),hp _ h.c0 h.c1 _ h.x0 h.x1];rfl
end
theorem BJ:∀(n:Nat) (l:List Nat),l.Nodup->(∀x∈l,x<n)->l.length<=n
 | 0,l,_,h=>by
  cases l with
  |nil=>simp
  |cons a l=>have:=h a (by simp);omega
 | n+1,l,nd,h=>by
  have h1:(l.filter (·≠n)).length<=n:=BJ n _ (nd.sublist List.filter_sublist) fun x hx=>by
   obtain⟨q1,q2⟩:=List.mem_filter.mp hx;have:=h x q1;have:x≠n:=of_decide_eq_true q2;omega
  have h2:l.length<=(l.filter (·≠n)).length+1:=by
   clear h1 h;induction l with
   |nil=>simp
   |cons a l ih =>
    rw[List.nodup_cons] at nd;by_cases e:a=n
    ·subst e;have:l.filter (·≠a)=l:=List.filter_eq_self.mpr fun x hx=>decide_eq_true fun z=>nd.1 (z▸hx);rw[List.filter_cons_of_neg (by simp),this];simp
    ·rw[List.filter_cons_of_pos (by simpa using e),aJ,aJ];have:=ih nd.2;omega
  omega
theorem zA {n:Nat}{m:Int}{f:Int->Int}(hm:0<=m)(hf:∀x:Int,0<=x->x<n->0<=f x/\f x<m)(inj:∀x y:Int,0<=x->x<n->0<=y->y<n->f x=f y->x=y):(n:Int)<=m:=by
 have nd:((ao n).map fun (i:Nat)=>(f (i:Int)).toNat).Nodup:=by
  refine List.pairwise_map.mpr ((List.nodup_range (n:=n)).imp_of_mem fun {a b} ha hb ne z=>ne ?_);rw[aZ] at ha hb;have h1:=hf (a:Int) ⋯ ⋯;have h2:=hf (b:Int) ⋯ ⋯;have:=inj (a:Int) (b:Int) ⋯ ⋯ ⋯ ⋯ ⋯;omega
 have:=BJ m.toNat _ nd fun x hx=>by
  obtain⟨i,hi,rfl⟩:=List.mem_map.mp hx;rw[aZ] at hi;have:=hf (i:Int) ⋯ ⋯;omega
 rw[af,aI] at this;omega
structure Fs (k:Int)(r1 r2:List Int)(ch:List (List Int)):Prop where
 inj:∀c:Int,0<=c->c<k->∀x y:Int,0<=x->x<gI r1 c->0<=y->y<gI r1 c->gI (gC ch c) x=gI (gC ch c) y->x=y
 on:∀c:Int,0<=c->c<k->∀y:Int,0<=y->y<gI r2 c->∃x:Int,0<=x/\x<gI r1 c/\gI (gC ch c) x=y
theorem Fs.rows {k:Int}{r1 r2:List Int}{ch:List (List Int)}(h:Fs k r1 r2 ch)(m:cZ k r1 r2 ch)(l1:(r1.length:Int)=k)(l2:(r2.length:Int)=k)(n1:∀r∈r1,0<=r)(n2:∀r∈r2,0<=r):r1=r2:=by
 refine xf ⋯ fun c c0 c1=>?_;have a1:=iz n1 c;have a2:=iz n2 c;have le1:gI r1 c<=gI r2 c:=by
  have:=zA (n:=(gI r1 c).toNat) (m:=gI r2 c) (f:=fun x=>gI (gC ch c) x) a2 (fun x x0 x1=>m.at_ c0 ⋯ x0 ⋯) fun x y x0 x1 y0 y1 e=>h.inj c c0 ⋯ x y x0 ⋯ y0 ⋯ e;omega
 have le2:gI r2 c<=gI r1 c:=by
  have ex:∀y:Int,∃x:Int,0<=y->y<gI r2 c->0<=x/\x<gI r1 c/\gI (gC ch c) x=y:=fun y=>by
   by_cases hy:0<=y/\y<gI r2 c
   ·obtain⟨x,hx⟩:=h.on c c0 ⋯ y hy.1 hy.2;exact⟨x,fun _ _=>hx⟩
   ·exact⟨0,fun y0 y1=>absurd ⟨y0,y1⟩ hy⟩
  have:=zA (n:=(gI r2 c).toNat) (m:=gI r1 c) (f:=fun y=>(ex y).choose) a1 (fun y y0 y1=>by
   have:=(ex y).choose_spec y0 ⋯;exact⟨this.1,this.2.1⟩) fun x y x0 x1 y0 y1 e=>by
   have h1:=((ex x).choose_spec x0 ⋯).2.2;have h2:=((ex y).choose_spec y0 ⋯).2.2;rw[<-h1,<-h2];exact congrArg _ e
  omega
 omega
section
variable {e:Sb}{d:Int}{t u:Tr}
end
section
variable {e:Sb}{k3:Int}{ar3:Ar}{pl2:List Int}{ws2:List (List Nat)}{d:Int}{t u:Tr}
end
end Lw
namespace Td
noncomputable abbrev kg:=List (Nat×Nat)
inductive jG (ts:kg):Nat->Nat->Prop where
 |refl (i:Nat):jG ts i i
 |tie {i j k:Nat}:(i,j)∈ts->jG ts j k->jG ts i k
 |eit {i j k:Nat}:(j,i)∈ts->jG ts j k->jG ts i k
theorem jG.trans {ts:kg}{i j k:Nat}(h:jG ts i j)(g:jG ts j k):jG ts i k:=by
 induction h with
 |refl=>exact g
 |tie t _ ih=>exact .tie t (ih g)
 |eit t _ ih=>exact .eit t (ih g)
theorem jG.symm {ts:kg}{i j:Nat}(h:jG ts i j):jG ts j i:=by
 induction h with
 |refl=>exact .refl _
 |tie t _ ih=>exact ih.trans (.eit t (.refl _))
 |eit t _ ih=>exact ih.trans (.tie t (.refl _))
theorem jG.one {ts:kg}{i j:Nat}(h:(i,j)∈ts):jG ts i j:=.tie h (.refl _)
noncomputable def mark (m:List Nat)(i:Nat):Nat:=m.getD i 0
theorem gj {m:List Nat}{i j v:Nat}(hi:i<m.length):mark (m.set i v) j=if j=i then v else mark m j:=by
 unfold mark;rw[ag,ag];by_cases h:j=i
 ·subst h;rw[ay hi,if_pos rfl];rfl
 ·rw[ai (Ne.symm h),if_neg h]
structure xK (ts:kg)(n:Nat)(m:List Nat):Prop where
 len:m.length=n
 in_:∀i<n,jG ts i (mark m i)
 le:∀i<n,mark m i<=i
def iI (ts:kg)(m:List Nat):Prop:=∀p∈ts,mark m p.1=mark m p.2
theorem xK.least {ts:kg}{n:Nat}{m:List Nat}(h:xK ts n m)(s:iI ts m){i:Nat}(hi:i<n):jG ts i (mark m i)/\∀j<n,jG ts i j->mark m i<=j:=by
 have same:∀{i j:Nat},jG ts i j->mark m i=mark m j:=fun {i j} c=>by
  induction c with
  |refl=>rfl
  |tie t _ ih=>exact (s _ t).trans ih
  |eit t _ ih=>exact (s _ t).symm.trans ih
 exact⟨h.in_ i hi,fun j hj c=>by rw[same c];exact h.le j hj⟩
noncomputable def lW (m:List Nat)(i:Nat):Bool:=mark m i==i
noncomputable def lG (m:List Nat):List Nat:=(ao m.length).filter (lW m)
noncomputable def l4 (m:List Nat)(i:Nat):Nat:=(lG m).idxOf (mark m i)
theorem vH (m:List Nat){i:Nat}(h:i<=m.length):lG m=(ao i).filter (lW m)++(bP i (m.length-i)).filter (lW m):=by
 unfold lG;have a:=List.range'_append_1 (s:=0) (m:=i) (n:=m.length-i);rw[bE,show i+(m.length-i)=m.length by omega] at a;rw[<-Jv,bB,bB,a]
theorem xK.mark_mark {ts:kg}{n:Nat}{m:List Nat}(h:xK ts n m)(s:iI ts m){i:Nat}(hi:i<n):mark m (mark m i)=mark m i:=by
 have l:=h.le i hi;have a:=h.least s hi;have b:=h.least s (i:=mark m i) ⋯;have l2:=h.le (mark m i) ⋯;exact Nat.le_antisymm l2 (a.2 _ ⋯ (a.1.trans b.1))
theorem xK.mem_firsts {ts:kg}{n:Nat}{m:List Nat}(h:xK ts n m)(s:iI ts m){i:Nat}(hi:i<n):mark m i∈lG m:=by
 have l:=h.le i hi;refine List.mem_filter.mpr ⟨List.mem_range.mpr (by rw[h.len];omega),?_⟩;unfold lW;rw[beq_iff_eq];exact h.mark_mark s hi
theorem xK.num_first {ts:kg}{n:Nat}{m:List Nat}(h:xK ts n m)(s:iI ts m){i:Nat}(hi:i<n):(l4 m i==((ao i).filter (lW m)).length)=lW m i:=by
 have l:=h.le i hi;have hl:i<m.length:=by rw[h.len];exact hi
 unfold l4;rw[vH m (JQ hl)];cases e:lW m i with
 |true =>
  have e':mark m i=i:=by unfold lW at e;exact beq_iff_eq.mp e
  have ni:i∉(ao i).filter (lW m):=fun z=>by
   have:=List.mem_range.mp (List.mem_filter.mp z).1;omega
  have hr:bP i (m.length-i)=i::bP (i+1) (m.length-i-1):=by
   rw[show m.length-i=(m.length-i-1)+1 by omega,bZ];rfl
  rw[e',Jz,if_neg ni,hr,bC,if_pos e,List.idxOf_cons_self];simp
 |false =>
  have ne:mark m i≠i:=fun z=>by unfold lW at e;rw[z] at e;simp at e
  have mem:mark m i∈(ao i).filter (lW m):=by
   refine List.mem_filter.mpr ⟨List.mem_range.mpr ⋯,?_⟩;unfold lW;rw[beq_iff_eq];exact h.mark_mark s hi
  rw[Jz,if_pos mem];have:=List.idxOf_lt_length_iff.mpr mem;exact beq_eq_false_iff_ne.mpr ⋯
theorem xK.num_lt {ts:kg}{n:Nat}{m:List Nat}(h:xK ts n m)(s:iI ts m){i:Nat}(hi:i<n):l4 m i<(lG m).length:=List.idxOf_lt_length_iff.mpr (h.mem_firsts s hi)
theorem xK.num_eq {ts:kg}{n:Nat}{m:List Nat}(h:xK ts n m)(s:iI ts m){i j:Nat}(hi:i<n)(hj:j<n):l4 m i=l4 m j<->jG ts i j:=by
 have e:mark m i=mark m j<->jG ts i j:=by
  have same:∀{i j:Nat},jG ts i j->mark m i=mark m j:=fun {i j} c=>by
   induction c with
   |refl=>rfl
   |tie t _ ih=>exact (s _ t).trans ih
   |eit t _ ih=>exact (s _ t).symm.trans ih
  exact⟨fun e=>(h.in_ i hi).trans (e▸(h.in_ j hj).symm),same⟩
 rw[<-e];refine⟨fun q=>?_,fun q=>by unfold l4;rw[q]⟩;have a:=h.mem_firsts s hi;have b:=h.mem_firsts s hj;have ga:=bx (List.idxOf_lt_length_iff.mpr a);have gb:=bx (List.idxOf_lt_length_iff.mpr b);unfold l4 at q;rw[<-ga,<-gb];simp only[q]
structure sQ {α:Type}(ts:List α)(r:α->α->Prop)(its:kg):Prop where
 nd:ts.Nodup
 inn:∀p∈its,p.1<ts.length/\p.2<ts.length
 to:∀p∈its,∀t u,ts[p.1]?=some t->ts[p.2]?=some u->r t u
 fro:∀t u,r t u->∃p∈its,ts[p.1]?=some t/\ts[p.2]?=some u
section
variable {α:Type}{ts:List α}{r:α->α->Prop}{its:kg}
theorem vU (nd:ts.Nodup){i j:Nat}{t:α}(hi:ts[i]?=some t)(hj:ts[j]?=some t):i=j:=by
 obtain⟨a,ea⟩:=List.getElem?_eq_some_iff.mp hi;obtain⟨b,eb⟩:=List.getElem?_eq_some_iff.mp hj;exact (JJ nd).mp (ea.trans eb.symm)
theorem sQ.conn (h:sQ ts r its){i j:Nat}(c:jG its i j):∀t u,ts[i]?=some t->ts[j]?=some u->Cn r t u:=by
 induction c with
 |refl i =>
  intro t u ht hu;rw[ht] at hu;cases hu;exact .refl _
 |@tie i j k p _ ih =>
  intro t u ht hu;have e:=aj (h.inn _ p).2;exact .tie (h.to _ p _ _ ht e) (ih _ _ e hu)
 |@eit i j k p _ ih =>
  intro t u ht hu;have e:=aj (h.inn _ p).1;exact .eit (h.to _ p _ _ e ht) (ih _ _ e hu)
theorem sQ.cn (h:sQ ts r its){t u:α}(c:Cn r t u):∀i j,ts[i]?=some t->ts[j]?=some u->jG its i j:=by
 induction c with
 |refl t =>
  intro i j hi hj;rw[vU h.nd hi hj];exact .refl _
 |@tie t v u q _ ih =>
  intro i j hi hj;obtain⟨p,hp,h1,h2⟩:=h.fro _ _ q;rw[vU h.nd hi h1];exact .tie hp (ih _ _ h2 hj)
 |@eit t v u q _ ih =>
  intro i j hi hj;obtain⟨p,hp,h1,h2⟩:=h.fro _ _ q;rw[vU h.nd hi h2];exact .eit hp (ih _ _ h1 hj)
variable [DecidableEq α]
theorem vA (nd:ts.Nodup){i:Nat}{t:α}(h:ts[i]?=some t):ts.idxOf t=i:=by
 have hm:=aA h;have hl:=List.idxOf_lt_length_iff.mpr hm;have:=bx hl;exact vU nd (by rw[aj hl,this]) h
theorem sQ.first (h:sQ ts r its){m:List Nat}(w:xK its ts.length m)(s:iI its m){i:Nat}{t:α}(hi:ts[i]?=some t):fy ts r t=lW m i:=by
 have hl:=(List.getElem?_eq_some_iff.mp hi).1;have le:=w.le i hl;have ls:=w.least s hl;rw[Bool.eq_iff_iff,oh,lW,beq_iff_eq];constructor
 ·intro q;have e:=aj (show mark m i<ts.length by omega);have:=q _ (aA e) (h.conn ls.1.symm _ _ e hi);rw[vA h.nd hi,vA h.nd e] at this;omega
 ·intro q u hu c;obtain⟨j,hj⟩:=bX hu;have jl:=(List.getElem?_eq_some_iff.mp hj).1;rw[vA h.nd hi,vA h.nd hj];have:=ls.2 j jl (h.cn c.symm _ _ hi hj);omega
theorem ug {f:α->Bool}{g:Nat->Bool}:∀(l:List α) (n:Nat),(∀(i:Nat) (t:α),l[i]?=some t->f t=g (n+i))->(l.filter f).map some=((bP n l.length).filter g).map fun i=>l[i-n]?
 |[],n,_=>rfl
 | a::l,n,h=>by
  have h0:=h 0 a rfl;have ih:=ug (f:=f) (g:=g) l (n+1) fun i t e=>by
   have:=h (i+1) t (by simpa using e);rw[this];congr 1;omega
  have tail:((bP (n+1) l.length).filter g).map (fun i=>l[i-(n+1)]?)=((bP (n+1) l.length).filter g).map fun i=>(a::l)[i-n]?:=by
   refine List.map_congr_left fun i hi=>?_;have:=(List.mem_range'_1.mp (List.mem_filter.mp hi).1).1;rw[show i-n=(i-(n+1))+1 by omega,aK]
  rw[aJ,bZ,bC,bC,h0,Nat.add_zero];cases g n with
  |true =>
   rw[if_pos rfl,if_pos rfl,az,az,ih,tail];simp
  |false =>
   rw[if_neg Bool.false_ne_true,if_neg Bool.false_ne_true,ih,tail]
theorem sQ.firsts_eq (h:sQ ts r its){m:List Nat}(w:xK its ts.length m)(s:iI its m):(eV ts r).map some=(lG m).map fun i=>ts[i]?:=by
 have:=ug (f:=fy ts r) (g:=lW m) ts 0 fun i t e=>by rw[bE];exact h.first w s e
 unfold eV lG;rw[this,w.len,bB];rfl
theorem sQ.num_eq (h:sQ ts r its){m:List Nat}(w:xK its ts.length m)(s:iI its m){i:Nat}{t:α}(hi:ts[i]?=some t):tD ts r t=l4 m i:=by
 have hl:=(List.getElem?_eq_some_iff.mp hi).1;have le:=w.le i hl;have ls:=w.least s hl;have e:=aj (show mark m i<ts.length by omega);have hf:=h.firsts_eq w s;have nl:=w.num_lt s hl;have g:(lG m)[l4 m i]?=some (mark m i):=by
  have:=bx nl;exact (aj nl).trans (congrArg some this)
 have g2:(eV ts r)[l4 m i]?=some ts[mark m i]:=by
  have x:((eV ts r).map some)[l4 m i]?=((lG m).map fun i=>ts[i]?)[l4 m i]?:=by rw[hf]
  rw[au,au,g,av,e] at x;cases y:(eV ts r)[l4 m i]? with
  |none=>rw[y] at x;cases x
  |some z=>rw[y] at x;cases x;rfl
 have f:=qe h.nd g2;rw[<-f.2];exact (zD (aA hi) f.1).mpr (h.conn ls.1 _ _ hi e)
end
end Td
namespace Lw
open PySem DL Td
open PySem.Spec (same same_self)
noncomputable def cX (t:Tr):D:=.tuple [.int t.1,cu t.2.1,.int t.2.2]
theorem Cg (p:List Nat)(n:Nat):xl (p.map my) n=true:=by
 induction p with
 |nil=>rfl
 |cons a p ih=>rw[az,xl,ih];rfl
theorem oI (t:Tr):gJ (cX t)=true:=by
 simp[gJ,cX,xl,Dj,cu,Cg]
theorem B6 (t:Tr):Nb 2 (cX t):=.tuple (.cons (.int 1 _) (.cons (vn t.2.1) (.cons (.int 1 _) .nil)))
theorem Du {t u:Tr}(h:cX t=cX u):t=u:=by
 obtain⟨c,p,x⟩:=t;obtain⟨c',p',x'⟩:=u;unfold cX at h;simp only[PyData.tuple.injEq,List.cons.injEq,PyData.int.injEq,and_true] at h;obtain⟨h1,h2,h3⟩:=h;rw[h1,Ax h2,h3]
theorem Bz (t u:Tr):same (cX t) (cX u)=decide (t=u):=by
 by_cases h:t=u
 ·rw[h,decide_eq_true rfl];exact same_self _
 ·rw[decide_eq_false h];exact Bool.eq_false_iff.mpr fun q=>h (Du ((B6 t).eq (B6 u) q))
noncomputable def mI (ts:List Tr)(f:Tr->D):List (D×D):=ts.map fun t=>(cX t,f t)
theorem m9 (ts:List Tr)(f:Tr->D):gg (mI ts f)=true:=by
 unfold gg mI;rw[List.all_map,bH];exact fun t _=>oI t
theorem rV {ts:List Tr}{f:Tr->D}{t:Tr}:qz (mI ts f) (cX t)=if t∈ts then some (f t) else none:=by
 unfold mI qz;induction ts with
 |nil=>rfl
 |cons u ts ih =>
  rw[az,Jx];dsimp only;rw[Bz];by_cases h:u=t
  ·subst h;simp
  ·rw[decide_eq_false h];dsimp only;rw[ih];have:t∈u::ts<->t∈ts:=by simp[Ne.symm h]
   simp only[this]
theorem zy {ts:List Tr}{f:Tr->D}{t:Tr}{v:D}(h:t∉ts):tK (mI ts f) (cX t) v=mI ts f++[(cX t,v)]:=by
 unfold tK;rw[rV,if_neg h,if_neg (by simp)]
noncomputable def nB (e:Sb)(d:Int):List (Tr×Tr):=e.ar1.zipIdx.flatMap fun p=>(gn e.k2 e.ar2 (gI e.pl p.1.2) d).flatMap fun q=>(ao (gI e.rows p.1.1).toNat).map fun (x:Nat)=>((p.1.1,e.ws.getD p.2 []++q,(x:Int)),(p.1.2,q,gI (e.steps.getD p.2 []) (x:Int)))
theorem ml {e:Sb}{d:Int}(ok:eC e){t u:Tr}:(t,u)∈nB e d<->jj e d t u:=by
 unfold nB;simp only[List.mem_flatMap,List.mem_map,aZ,Prod.mk.injEq];constructor
 ·rintro⟨⟨a,i⟩,hp,q,hq,x,hx,e1,e2⟩;have ha:e.ar1[i]?=some a:=List.mem_zipIdx_iff_getElem?.mp hp;have wa:=ok.w1.ok a (aA ha);have pk:=gi ok (show 0<=a.2 by omega) wa.2.2;have hl:i<e.ws.length:=by rw[ok.s.wl];exact (List.getElem?_eq_some_iff.mp ha).1
  have hw:=aj hl;obtain⟨s,h1,h2,_,_⟩:=i7 ok.b ha;have:=(jv ok.w2 ok.h4 pk.1 pk.2).mp hq;have n0:=iz ok.b.nn a.1;dsimp only at hx e1 e2;refine⟨i,a,_,q,s,(x:Int),ha,hw,h1,this.1,this.2,by omega,by omega,?_,?_⟩
  ·rw[<-e1,ag,hw];rfl
  ·rw[<-e2,h2]
 ·rintro⟨i,a,w,q,s,x,ha,hw,hs,ch,en,x0,x1,rfl,rfl⟩;have wa:=ok.w1.ok a (aA ha);have pk:=gi ok (show 0<=a.2 by omega) wa.2.2;have ex:((x.toNat:Nat):Int)=x:=by omega
  refine⟨(a,i),List.mem_zipIdx_iff_getElem?.mpr ha,q,(jv ok.w2 ok.h4 pk.1 pk.2).mpr ⟨ch,en⟩,x.toNat,by dsimp only;omega,?_,?_⟩
  ·rw[ex,ag,hw];rfl
  ·rw[ex,ag,hs];rfl
theorem BN {p q:List Nat}(h:p.length+q.length<=1000000):eZ (cu p) (cu q)=some (cu (p++q),false):=by
 have hz:(p.map my).length+(q.map my).length<=sizeLine:=sZ (by rw[af,af];exact h);unfold cu eZ;dsimp only;rw[if_pos hz,<-aX]
structure pJ (e:Sb):Prop where
 k1:e.k1<=4
 a1:e.ar1.length<=5
 a2:e.ar2.length<=5
 rw:∀r∈e.rows,r<=1000
theorem z0 {f g h:ED}{x y z:D}{o o' o'':Bool}{ρ:Sl}(h1:f ρ=some (x,o))(h2:g ρ=some (y,o'))(h3:h ρ=some (z,o'')):eK (b7 f (b7 g (b7 h cy))) ρ=some (.tuple [x,y,z],false):=by
 simp[eK,b7,cy,h1,h2,h3,Jn]
section
variable {e:Sb}{d:Int}
noncomputable abbrev oK (e:Sb):D:=cg e.k1 e.ar1
noncomputable abbrev sU (e:Sb):D:=cg e.k2 e.ar2
noncomputable abbrev nD (e:Sb):D:=dE e.pl e.ws
noncomputable abbrev ng (e:Sb):D:=cp e.rows e.steps
noncomputable def lS (e:Sb)(p:(Int×Int)×Nat)(q:List Nat)(x:Nat):Tr×Tr:=((p.1.1,e.ws.getD p.2 []++q,(x:Int)),(p.1.2,q,gI (e.steps.getD p.2 []) (x:Int)))
end
theorem qP {α:Type}{g:GD}{b:SD}{d:α->D}{P:List α->Sl->Prop}(whole:List α):∀(l pre:List α) (ρ:Sl),pre++l=whole->P pre ρ->(∀pre x post ρ,pre++x::post=whole->P pre ρ->∃ρ1 ρ2,g (d x) ρ=some ρ1/\b ρ1=some (.next ρ2)/\P (pre++[x]) ρ2)->∃ρ',eN g b (l.map d) ρ=some (.next ρ')/\P whole ρ'
 |[],pre,ρ,e,h,_=>⟨ρ,rfl,by rw[br] at e;rw[<-e];exact h⟩
 | x::l,pre,ρ,e,h,k=>by
  obtain⟨ρ1,ρ2,h1,h2,h3⟩:=k pre x l ρ e h;obtain⟨ρ',h4,h5⟩:=qP (g:=g) (b:=b) whole l (pre++[x]) ρ2 (by rw[ba];exact e) h3 k;exact⟨ρ',by rw[az,mB h1 h2];exact h4,h5⟩
noncomputable def dW (acc:List Tr):List (D×D):=mI acc fun t=>.int (acc.idxOf t:Int)
theorem yt (acc:List Tr):(dW acc).length=acc.length:=by unfold dW mI;rw[af]
theorem xa {acc:List Tr}{t:Tr}(h:t∉acc):tK (dW acc) (cX t) (.int (acc.length:Int))=dW (acc++[t]):=by
 unfold dW;rw[zy h];unfold mI;rw[aX,List.map_singleton];congr 1
 ·refine List.map_congr_left fun u hu=>?_;dsimp only;rw[Jz,if_pos hu]
 ·dsimp only;rw[Jz,if_neg h,List.idxOf_cons_self,bE]
theorem FI (t:Tr):oX (cX t)=true:=by
 have:j7 (t.2.1.map my)=true:=by
  induction t.2.1 with
  |nil=>rfl
  |cons a p ih=>rw[az,j7,ih];rfl
 simp[cX,oX,j7,cu,this]
def Pl (s:Option Vl):Prop:=∀c,s≠some (nu c,true)
theorem DR:Pl none:=fun c h=>by cases h
theorem Hw {x:D}:Pl (some (x,false)):=fun c h=>by cases h
theorem AI {ρ:Sl}(h:∀s∈ρ,Pl s):qc ρ=true:=by
 unfold qc;rw[bH];intro s hs;split
 ·exact absurd rfl (h _ hs _)
 ·rfl
section
variable {e:Sb}{d:Int}
noncomputable abbrev IH (kvs:List (D×D)):Option Vl:=some (nu (.dict kvs),true)
end
theorem ja {ts:List Tr}{t:Tr}(h:t∈ts):ts.idxOf t<ts.length:=List.idxOf_lt_length_iff.mpr h
theorem Ed (a b:Nat):yl (.int (a:Int)) (.int (b:Int))=some (.int ((min a b:Nat):Int),false):=by
 unfold yl;dsimp only;by_cases h:(b:Int)<(a:Int)
 ·rw[if_pos h,Nat.min_eq_right ⋯]
 ·rw[if_neg h,JM ⋯]
section
variable {e:Sb}{d:Int}
noncomputable def n6 (e:Sb)(d:Int):kg:=(nB e d).map fun p=>((cv e d).idxOf p.1,(cv e d).idxOf p.2)
theorem Ci (ok:eC e):∀p∈n6 e d,p.1<(cv e d).length/\p.2<(cv e d).length:=fun p hp=>by
 obtain⟨q,hq,rfl⟩:=List.mem_map.mp hp;have:=pL ok ((ml ok).mp hq);exact⟨ja ((eE ok).mpr this.1),ja ((eE ok).mpr this.2)⟩
theorem Dv (ok:eC e):sQ (cv e d) (jj e d) (n6 e d):=by
 refine⟨ji e d,Ci ok,fun p hp t u ht hu=>?_,fun t u r=>?_⟩
 ·obtain⟨q,hq,rfl⟩:=List.mem_map.mp hp;have ti:=pL ok ((ml ok).mp hq);have m1:=(eE ok).mpr ti.1;have m2:=(eE ok).mpr ti.2;have e1:t=q.1:=by
   have:=bx (ja m1);rw[aj (ja m1),this] at ht;exact (Option.some.inj ht).symm
  have e2:u=q.2:=by
   have:=bx (ja m2);rw[aj (ja m2),this] at hu;exact (Option.some.inj hu).symm
  rw[e1,e2];exact (ml ok).mp hq
 ·have ti:=pL ok r;have m1:=(eE ok).mpr ti.1;have m2:=(eE ok).mpr ti.2;refine⟨_,List.mem_map_of_mem ((ml ok).mpr r),?_,?_⟩
  ·rw[aj (ja m1)];exact congrArg some (bx (ja m1))
  ·rw[aj (ja m2)];exact congrArg some (bx (ja m2))
end
section
variable {e:Sb}{d:Int}
noncomputable def eJ (e:Sb)(d:Int):List (D×D):=mI (cv e d) fun t=>.int (kU e d t)
end
end Lw
namespace Td
section
variable {α:Type}[DecidableEq α]{ts:List α}{r:α->α->Prop}
theorem yK (nd:ts.Nodup){pre post:List α}{t:α}(hw:pre++t::post=ts):tD ts r t=(pre.filter (fy ts r)).length<->fy ts r t=true:=by
 have ht:t∈ts:=hw▸by simp
 have sp:eV ts r=pre.filter (fy ts r)++(t::post).filter (fy ts r):=by
  unfold eV;rw[<-Jv,hw]
 constructor
 ·intro h;obtain⟨u,h1,h2,h3⟩:=oU (r:=r) ht;rw[sp,h,aN (aC _),JP] at h1;have hu:u∈(t::post).filter (fy ts r):=aA h1;obtain⟨hu1,hu2⟩:=List.mem_filter.mp hu;have le:=oh.mp hu2 t ht h3.symm;have np:∀x∈t::post,x∉pre:=fun x hx z=>(List.nodup_append.mp (hw▸nd:(pre++t::post).Nodup)).2.2 x z x hx rfl;have i1:ts.idxOf t=pre.length:=by rw[<-hw,Jz,if_neg (np t (by simp)),List.idxOf_cons_self,bE]
  have i2:ts.idxOf u=(t::post).idxOf u+pre.length:=by rw[<-hw,Jz,if_neg (np u hu1)]
  have:(t::post).idxOf u=0:=by omega
  rw[List.idxOf_cons] at this;cases e:t==u with
  |true=>rw[eq_of_beq e];exact hu2
  |false=>rw[e] at this;simp at this
 ·intro h;refine (qe nd (i:=(pre.filter (fy ts r)).length) ?_).2;rw[sp,aN (aC _),JP,bC,if_pos h];rfl
end
end Td
namespace Lw
open PySem DL Td
section
variable {e:Sb}{d:Int}
def nN (e:Sb):Prop:=∀d:Int,0<=d->d<e.k2->(cv e d).length<64/\(nB e d).length<=1000000
noncomputable def xA (e:Sb):D:=.list ((ao e.k2.toNat).map fun (d:Nat)=>.dict (eJ e (d:Int)))
theorem IK {t:Tr}(ok:eC e)(h:sR e d t):qE (.dict (eJ e d)) (cX t)=some (.int (kU e d t),false):=by
 unfold qE;dsimp only;rw[show gg (eJ e d)=true from m9 _ _,oI,if_pos (by rfl)];unfold eJ;rw[rV,if_pos ((eE ok).mpr h)];rfl
end
section
variable {e:Sb}{d:Int}
theorem yI (e:Sb)(d:Int):(fs e d).length<=(cv e d).length:=List.length_filter_le _ _
theorem xX (ok:eC e){t:Tr}(h:sR e d t):t.2.1.length<=4:=by
 have pk:=gi ok h.c0 h.c1;have:=qh ok.w2 pk.1 pk.2 h.ch;have:=ok.h4;omega
end
end Lw
namespace Td
structure Uf (n:Nat)(h:List Nat):Prop where
 len:h.length=n
 le:∀i<n,mark h i<=i
inductive Rt (h:List Nat):Nat->Nat->Prop where
 |here {i:Nat}:mark h i=i->Rt h i i
 |up {i r:Nat}:mark h i≠i->Rt h (mark h i) r->Rt h i r
theorem Rt.one {h:List Nat}{i r s:Nat}(a:Rt h i r)(b:Rt h i s):r=s:=by
 induction a with
 |here e =>
  cases b with
  |here _=>rfl
  |up ne _=>exact absurd e ne
 |up ne _ ih =>
  cases b with
  |here e=>exact absurd e ne
  |up _ b=>exact ih b
theorem Rt.fix {h:List Nat}{i r:Nat}(a:Rt h i r):mark h r=r:=by
 induction a with
 |here e=>exact e
 |up _ _ ih=>exact ih
section
variable {n:Nat}{h:List Nat}
theorem Uf.has (u:Uf n h):∀i<n,∃r,Rt h i r/\r<=i:=by
 intro i;induction i using Nat.strongRecOn with
 |_ i ih =>
  intro hi;by_cases e:mark h i=i
  ·exact⟨i,.here e,aC _⟩
  ·have l:=u.le i hi;obtain⟨r,a,b⟩:=ih (mark h i) ⋯ ⋯;exact⟨r,.up e a,by omega⟩
theorem Uf.le_of (u:Uf n h){i r:Nat}(hi:i<n)(a:Rt h i r):r<=i:=by
 obtain⟨s,b,l⟩:=u.has i hi;rw[a.one b];exact l
theorem Uf.range (n:Nat):Uf n (ao n):=⟨aI,fun i hi=>by
 unfold mark;rw[ag,bh hi];exact aC _⟩
theorem Uf.half (u:Uf n h){s:Nat}(hs:s<n)(ne:mark h s≠s):Uf n (h.set s (mark h (mark h s)))/\∀i r,Rt h i r->Rt (h.set s (mark h (mark h s))) i r:=by
 have l:=u.le s hs;have l2:=u.le (mark h s) ⋯;have hl:s<h.length:=by rw[u.len];exact hs
 refine⟨⟨by rw[aY];exact u.len,fun i hi=>?_⟩,fun i r a=>?_⟩
 ·rw[gj hl];split
  ·omega
  ·exact u.le i hi
 ·induction a with
  |@here i e =>
   refine .here ?_;rw[gj hl,if_neg (fun z=>ne (by rw[<-z];exact e))];exact e
  |@up i r ne' a ih =>
   by_cases z:i=s
   ·subst z;have e:mark (h.set i (mark h (mark h i))) i=mark h (mark h i):=by rw[gj hl,if_pos rfl]
    have ep:mark (h.set i (mark h (mark h i))) (mark h i)=mark h (mark h i):=by rw[gj hl,if_neg ne]
    refine .up (by rw[e];omega) ?_;rw[e];generalize hg:mark h (mark h i)=g at *;cases ih with
    |here q=>rw[ep] at q;subst q;exact .here ep
    |up _ b=>rw[ep] at b;exact b
   ·have e:mark (h.set s (mark h (mark h s))) i=mark h i:=by rw[gj hl,if_neg z]
    exact .up (by rw[e];exact ne') (by rw[e];exact ih)
theorem Uf.tie (u:Uf n h){p q:Nat}(hp:p<n)(hq:q<n)(fp:mark h p=p)(fq:mark h q=q):Uf n (h.set (max p q) (min p q))/\∀i r,Rt h i r->Rt (h.set (max p q) (min p q)) i (if r=max p q then min p q else r):=by
 have hm:max p q<h.length:=by rw[u.len];omega
 have fm:mark h (max p q)=max p q:=by rcases Nat.le_total p q with z|z <;> simp[z,fp,fq]
 have fn:mark h (min p q)=min p q:=by rcases Nat.le_total p q with z|z <;> simp[z,fp,fq]
 refine⟨⟨by rw[aY];exact u.len,fun i hi=>?_⟩,fun i r a=>?_⟩
 ·rw[gj hm];split
  ·omega
  ·exact u.le i hi
 ·induction a with
  |@here i e =>
   by_cases z:i=max p q
   ·rw[if_pos z];have e2:mark (h.set (max p q) (min p q)) i=min p q:=by rw[gj hm,if_pos z]
    by_cases y:min p q=max p q
    ·have:i=min p q:=by omega
     rw[this] at e2 ⊢;exact .here e2
    ·refine .up (by rw[e2];omega) ?_;rw[e2];refine .here ?_;rw[gj hm,if_neg y];exact fn
   ·rw[if_neg z];refine .here ?_;rw[gj hm,if_neg z];exact e
  |@up i r ne a ih =>
   have z:i≠max p q:=fun z=>ne (by rw[z];exact fm);have e:mark (h.set (max p q) (min p q)) i=mark h i:=by rw[gj hm,if_neg z]
   exact .up (by rw[e];exact ne) (by rw[e];exact ih)
end
structure uN (its done:kg)(n:Nat)(h:List Nat):Prop where
 u:Uf n h
 cn:∀i<n,∀r,Rt h i r->jG its i r
 dn:∀p∈done,∃r,Rt h p.1 r/\Rt h p.2 r
theorem uN.start (its:kg)(n:Nat):uN its [] n (ao n):=by
 refine⟨.range n,fun i hi r a=>?_,fun p hp=>nomatch hp⟩;have e:mark (ao n) i=i:=by
  unfold mark;rw[ag,bh hi];rfl
 cases a with
 |here _=>exact .refl _
 |up ne _=>exact absurd e ne
theorem uN.same {its done:kg}{n:Nat}{h h':List Nat}(t:uN its done n h)(inn:∀p∈done,p.1<n/\p.2<n)(u:Uf n h')(k:∀i r,Rt h i r->Rt h' i r):uN its done n h':=by
 refine⟨u,fun i hi r a=>?_,fun p hp=>?_⟩
 ·obtain⟨s,b,_⟩:=t.u.has i hi;rw[a.one (k i s b)];exact t.cn i hi s b
 ·obtain⟨r,a,b⟩:=t.dn p hp;exact⟨r,k _ _ a,k _ _ b⟩
theorem uN.tie {its done:kg}{n:Nat}{h:List Nat}(t:uN its done n h){a b p q:Nat}(hm:(a,b)∈its)(ha:a<n)(hb:b<n)(ra:Rt h a p)(rb:Rt h b q):uN its (done++[(a,b)]) n (h.set (max p q) (min p q)):=by
 have lp:=t.u.le_of ha ra;have lq:=t.u.le_of hb rb;obtain⟨u',k⟩:=t.u.tie (p:=p) (q:=q) ⋯ ⋯ ra.fix rb.fix;refine⟨u',fun i hi r c=>?_,fun x hx=>?_⟩
 ·obtain⟨s,d,_⟩:=t.u.has i hi;rw[c.one (k i s d)];have cs:=t.cn i hi s d;split
  ·rename_i z;subst z;have cpq:jG its p q:=((t.cn a ha p ra).symm.trans (.one hm)).trans (t.cn b hb q rb);rcases Nat.le_total p q with z|z
   ·rw[Nat.max_eq_right z] at cs;rw[JM z];exact cs.trans cpq.symm
   ·rw[Nat.max_eq_left z] at cs;rw[Nat.min_eq_right z];exact cs.trans cpq
  ·exact cs
 ·rcases List.mem_append.mp hx with z|z
  ·obtain⟨r,c,d⟩:=t.dn x z;exact⟨_,k _ _ c,k _ _ d⟩
  ·have z':=List.mem_singleton.mp z;subst z';refine⟨min p q,?_,?_⟩
   ·have:=k _ _ ra;split at this
    ·exact this
    ·rename_i y;rcases Nat.le_total p q with w|w
     ·have e:=JM w;generalize min p q=x at *;subst e;exact this
     ·exact absurd (Nat.max_eq_left w).symm y
   ·have:=k _ _ rb;split at this
    ·exact this
    ·rename_i y;rcases Nat.le_total p q with w|w
     ·exact absurd (Nat.max_eq_right w).symm y
     ·have e:=Nat.min_eq_right w;generalize min p q=x at *;subst e;exact this
noncomputable def wD:Nat->List Nat->Nat->Nat
 |0,_,i=>i
 |f+1,h,i=>if mark h i=i then i else wD f h (mark h i)
theorem wC {n:Nat}{h:List Nat}(u:Uf n h):∀(f i:Nat),i<n->i<f->Rt h i (wD f h i)
 |0,_,_,hf=>by omega
 | f+1,i,hi,hf=>by
  unfold wD;split
  ·rename_i e;exact .here e
  ·rename_i ne;have l:=u.le i hi;exact .up ne (wC u f (mark h i) ⋯ ⋯)
noncomputable def fu (n:Nat)(h:List Nat):List Nat:=(ao n).map fun i=>wD n h i
theorem Ap {n:Nat}(h:List Nat){i:Nat}(hi:i<n):mark (fu n h) i=wD n h i:=by
 unfold mark fu;rw[ag,au,bh hi];rfl
theorem Rt.mark {n:Nat}{h:List Nat}(u:Uf n h){i r:Nat}(hi:i<n)(a:Rt h i r):Td.mark (fu n h) i=r:=by
 rw[Ap h hi];exact (wC u n i hi hi).one a
theorem uN.way {its:kg}{n:Nat}{h:List Nat}(t:uN its its n h)(inn:∀p∈its,p.1<n/\p.2<n):xK its n (fu n h)/\iI its (fu n h):=by
 refine⟨⟨by unfold fu;rw[af,aI],fun i hi=>?_,fun i hi=>?_⟩,fun p hp=>?_⟩
 ·obtain⟨r,a,_⟩:=t.u.has i hi;rw[a.mark t.u hi];exact t.cn i hi r a
 ·obtain⟨r,a,l⟩:=t.u.has i hi;rw[a.mark t.u hi];exact l
 ·obtain⟨r,a,b⟩:=t.dn p hp;rw[a.mark t.u (inn p hp).1,b.mark t.u (inn p hp).2]
end Td
namespace Lw
open PySem DL
theorem uk {k kind:Int}{ar:Ar}{p:List Nat}(h:iK ar p):fX [cg k ar,.int kind,cu p]=some (.int (dH ar kind p),false):=by
 rcases List.eq_nil_or_concat p with rfl|⟨q,i,rfl⟩
 ·simp[fX,ki,eD,sG,cH,il,de,tChain,cC,cc,d1,fK,cu,dC,fE,dw,cj,dH]
 ·have hi:i<ar.length:=h i (by simp);have e1:fK (cu (q++[i]))=some (.int ((q.length+1:Nat):Int),false):=by simp[fK,cu]
  have e2:cN (cu (q++[i])) (.int (-1))=some (.int (i:Int),false):=by
   simp only[cu,cN,aX,az,bI,EL];rfl
  have e3:cN (.tuple (ar.map cM)) (.int (i:Int))=some (cM (ar.getD i (0,0)),false):=by
   simp only[cN,Ib hi];rfl
  have n0:¬((q.length+1:Nat):Int)=0:=by omega
  have neg1:Gg (.int 1)=some (.int (-1),false):=rfl;rw[List.concat_eq_append,qf];simp only[fX,ki,aJ,bO,if_true,az,bI,aH,JD,bN,sG,cH,il,de,tChain,cC,cc,d1,d2,dC,aM,aK,aa,av,e1,fE,n0,decide_false,Bool.false_eq_true,if_false,fk,cJ,kr,neg1,e2,e3,bT,dw,qq,eD]
theorem zI {p:List Nat}{e:Int}(hp:p.length+1<=1000000):∀(r:Ar) (s:Nat) , iD (gT [gN 0,gN 1]) (de (cC (d2 cN (cc 1) (cC (dC (.int 0))))) [(nA,cc 3)]) gR [none,none,some (cu p,false),some (.int e,false)] (fJ s (r.map cM))=some ((iN e p s r).map cu)
 |[],s=>rfl
 | a::r,s=>by
  have ih:=zI (e:=e) hp r (s+1);have hz:(p.map my).length+1<=sizeLine:=sZ (by rw[af];exact hp);have el:gR [some (.int (s:Int),false),some (cM a,false),some (cu p,false),some (.int e,false)]=some (cu (p++[s]),false):=by
   simp only[af] at hz;simp[gR,d2,cc,cC,eK,b7,cy,cj,Dh,cu,eZ,hz,my]
  rw[az,fJ,iD,ih];by_cases h:a.1=e
  ·simp[gT,og,gN,de,tChain,cC,d2,cc,dC,lU,fE,h,el,iN]
  ·simp[gT,og,gN,de,tChain,cC,d2,cc,dC,lU,fE,h,iN]
theorem Ek {k kind:Int}{ar:Ar}{rs:D}{p:List Nat}{g:List (List Nat)}{y:Option Vl}(hp:iK ar p)(hl:p.length+1<=1000000)(ha:ar.length<=1000)(hg:g.length+ar.length<=1000000) :
  gc [some (cg k ar,false),some (.int kind,false),some (rs,false),some (.list (g.map cu),true),some (cu p,false),y] =
   some (.next [some (cg k ar,false),some (.int kind,false),some (rs,false),some (.list ((g++iN (dH ar kind p) p 0 ar).map cu),true),some (cu p,false),some (.int (dH ar kind p),false)]):=by
 have e1:=uk (k:=k) (kind:=kind) hp;have e2:=zI (p:=p) (e:=dH ar kind p) hl ar 0;have hz:(fJ 0 (ar.map cM)).length<=sizeLine:=sZ (by rw[o9,af];omega);have hx:=mG (dH ar kind p) p ar 0;have hz2:(g.map cu).length+((iN (dH ar kind p) p 0 ar).map cu).length<=sizeLine:=sZ (by rw[af,af];omega);have hc:(dD (fO (fF (d2 cN (cc 0) (cC (dC (.int 1)))))) 2 [4,5] (gT [gN 0,gN 1]) (de (cC (d2 cN (cc 1) (cC (dC (.int 0))))) [(nA,cc 3)]) gR)
   [some (cg k ar,false),some (.int kind,false),some (rs,false),some (.list (g.map cu),true),some (cu p,false),some (.int (dH ar kind p),false)]=some (.list ((iN (dH ar kind p) p 0 ar).map cu),true):=by
  have hi:(fO (fF (d2 cN (cc 0) (cC (dC (.int 1)))))) [some (cg k ar,false),some (.int kind,false),some (rs,false),some (.list (g.map cu),true),some (cu p,false),some (.int (dH ar kind p),false)]=some (fJ 0 (ar.map cM)):=by
   simp[fO,fF,d2,cc,cC,dC,kr,dS]
  rw[dD,hi,aa,if_pos hz];have hcp:eT 2 [4,5] [some (cg k ar,false),some (.int kind,false),some (rs,false),some (.list (g.map cu),true),some (cu p,false),some (.int (dH ar kind p),false)]=[none,none,some (cu p,false),some (.int (dH ar kind p),false)]:=by simp[eT]
  rw[hcp,e2];rfl
 have s1:(cJ 5 (cB fX (b7 (cj 0) (b7 (cj 1) (b7 (cj 4) cy))))) [some (cg k ar,false),some (.int kind,false),some (rs,false),some (.list (g.map cu),true),some (cu p,false),y] =
   some (.next [some (cg k ar,false),some (.int kind,false),some (rs,false),some (.list (g.map cu),true),some (cu p,false),some (.int (dH ar kind p),false)]):=by
  simp[cJ,cB,b7,cy,cj,e1]
 rw[gc,cH,s1,aa];dsimp only;rw[pS,hc,aa];dsimp only;simp only[lY,aK,aM,hz2,if_true,av,bT,aX]
theorem zH {k kind:Int}{ar:Ar}{rs:D}(ha:ar.length<=1000):∀(r g:List (List Nat)) (x y:Option Vl),(∀p∈r,iK ar p)->(∀p∈r,p.length+1<=1000000)->g.length+ar.length*r.length<=1000000->∃x' y',
  eN (gN 4) gc (r.map cu) [some (cg k ar,false),some (.int kind,false),some (rs,false),some (.list (g.map cu),true),x,y] =
   some (.next [some (cg k ar,false),some (.int kind,false),some (rs,false),some (.list ((g++step ar kind r).map cu),true),x',y'])
 |[],g,x,y,_,_,_=>⟨x,y,by simp[eN,step]⟩
 | p::r,g,x,y,hok,hl,hz=>by
  rw[aJ,Nat.mul_succ] at hz;have hx:=mG (dH ar kind p) p ar 0;obtain⟨x',y',e⟩:=zH (rs:=rs) (k:=k) (kind:=kind) ha r (g++iN (dH ar kind p) p 0 ar) (some (cu p,false)) (some (.int (dH ar kind p),false)) (fun q hq=>hok q (by simp[hq])) (fun q hq=>hl q (by simp[hq])) (by rw[aw];omega);refine⟨x',y',?_⟩;rw[az,eN];simp only[gN,bT,aa];rw[Ek (hok p (by simp)) (hl p (by simp)) ha ⋯,aa];dsimp only;rw[e,ba];rfl
theorem tG {k kind:Int}{ar:Ar}{r:List (List Nat)}(ha:ar.length<=1000)(hok:∀p∈r,iK ar p)(hl:∀p∈r,p.length+1<=1000000)(hz:ar.length*r.length<=1000000) :
  iL [cg k ar,.int kind,.list (r.map cu)]=some (.list ((step ar kind r).map cu),true):=by
 obtain⟨x,y,e⟩:=zH (rs:=.list (r.map cu)) (k:=k) (kind:=kind) ha r [] none none hok hl (by simpa using hz);have run:iL [cg k ar,.int kind,.list (r.map cu)]=(lK [some (cg k ar,false),some (.int kind,false),some (.list (r.map cu),false),none,none,none]).bind eD:=rfl;rw[run];unfold lK;have s1:(cJ 3 (df cy)) [some (cg k ar,false),some (.int kind,false),some (.list (r.map cu),false),none,none,none]=some (.next [some (cg k ar,false),some (.int kind,false),some (.list (r.map cu),false),some (.list [],true),none,none]):=by
  simp[cJ,df,cy]
 rw[cH,s1,aa];dsimp only;have s2:(eh (da (dY 2)) (gN 4) gc) [some (cg k ar,false),some (.int kind,false),some (.list (r.map cu),false),some (.list [],true),none,none]=eN (gN 4) gc (r.map cu) [some (cg k ar,false),some (.int kind,false),some (.list (r.map cu),false),some (.list [],true),none,none]:=by
  simp[eh,da,dY]
 rw[cH,s2];rw[bI] at e;rw[e,aa];simp[lT,eD]
theorem zM {k kind other:Int}{ar:Ar}:∀r:List (List Nat),(∀p∈r,iK ar p)->iD (gN 0) (de (cC (cB fX (b7 (cj 2) (b7 (cj 3) (b7 (cj 0) cy))))) [(nA,(cc 1))]) kX [none,some (.int other,false),some (cg k ar,false),some (.int kind,false)] (r.map cu)=some ((lZ ar kind other r).map cu)
 |[],_=>rfl
 | p::r,h=>by
  have ih:=zM (k:=k) (kind:=kind) (other:=other) r fun q hq=>h q (by simp[hq]);have e1:=uk (k:=k) (kind:=kind) (h p (by simp));rw[az,iD,ih];by_cases he:dH ar kind p=other
  ·simp[gN,de,tChain,cC,cB,b7,cy,cj,cc,e1,fE,he,kX,lZ]
  ·simp[gN,de,tChain,cC,cB,b7,cy,cj,cc,e1,fE,he,kX,lZ]
theorem Aw {k kind other:Int}{ar:Ar}{r f:List (List Nat)}(ha:ar.length<=1000)(hok:∀p∈r,iK ar p)(hl:∀p∈r,p.length+1<=1000000)(hz:ar.length*r.length<=1000000)(hr:r.length+f.length<=1000000) :
  pI [some (cg k ar,false),some (.int kind,false),some (.int other,false),some (.list (f.map cu),true),some (.list (r.map cu),false)] =
   some (.next [some (cg k ar,false),some (.int kind,false),some (.int other,false),some (.list ((f++lZ ar kind other r).map cu),true),some (.list ((step ar kind r).map cu),false)]):=by
 have e1:=zM (k:=k) (kind:=kind) (other:=other) r hok;have e2:=tG (k:=k) (kind:=kind) ha hok hl hz;have hh:=qO ar kind other r;have hz1:(r.map cu).length<=sizeLine:=sZ (by rw[af];omega);have hz2:(f.map cu).length+((lZ ar kind other r).map cu).length<=sizeLine:=sZ (by rw[af,af];omega);have hc:(dD (da (dY 4)) 1 [2,0,1] (gN 0) (de (cC (cB fX (b7 (cj 2) (b7 (cj 3) (b7 (cj 0) cy))))) [(nA,(cc 1))]) kX)
   [some (cg k ar,false),some (.int kind,false),some (.int other,false),some (.list (f.map cu),true),some (.list (r.map cu),false)]=some (.list ((lZ ar kind other r).map cu),true):=by
  have hi:(da (dY 4)) [some (cg k ar,false),some (.int kind,false),some (.int other,false),some (.list (f.map cu),true),some (.list (r.map cu),false)]=some (r.map cu):=by simp[da,dY]
  rw[dD,hi,aa,if_pos hz1];have hcp:eT 1 [2,0,1] [some (cg k ar,false),some (.int kind,false),some (.int other,false),some (.list (f.map cu),true),some (.list (r.map cu),false)]=[none,some (.int other,false),some (cg k ar,false),some (.int kind,false)]:=by simp[eT]
  rw[hcp,e1];rfl
 have s1:(pS 3 (dD (da (dY 4)) 1 [2,0,1] (gN 0) (de (cC (cB fX (b7 (cj 2) (b7 (cj 3) (b7 (cj 0) cy))))) [(nA,(cc 1))]) kX))
   [some (cg k ar,false),some (.int kind,false),some (.int other,false),some (.list (f.map cu),true),some (.list (r.map cu),false)] =
   some (.next [some (cg k ar,false),some (.int kind,false),some (.int other,false),some (.list ((f++lZ ar kind other r).map cu),true),some (.list (r.map cu),false)]):=by
  rw[pS,hc,aa];dsimp only;simp only[lY,aK,aM,hz2,if_true,av,bT,aX]
 rw[pI,cH,s1,aa];dsimp only;simp[gf,cJ,cB,b7,cy,cj,e2,share]
theorem tZ {k kind other:Int}{ar:Ar}(ha:ar.length<=5):∀(m:Nat) (r f:List (List Nat)),lay ar kind m r=[]->(∀p∈r,iK ar p)->(∀p∈r,p.length+m<=1000)->r.length*6 ^ m+f.length<=100000 →
  fc oJ pI (m+1) [some (cg k ar,false),some (.int kind,false),some (.int other,false),some (.list (f.map cu),true),some (.list (r.map cu),false)] =
   some (.next [some (cg k ar,false),some (.int kind,false),some (.int other,false),some (.list ((run ar kind other m r f).map cu),true),some (.list [],false)])
 | m,r,f,hl,hok,hs,hz=>by
  have ht:oJ [some (cg k ar,false),some (.int kind,false),some (.int other,false),some (.list (f.map cu),true),some (.list (r.map cu),false)]=some (decide (0<r.length)):=by
   have:(0<(r.length:Int))<->0<r.length:=by omega
   simp only[oJ,de,tChain,cC,d1,cc,aK,aM,aa,fK,av,dC,A7,af,this]
  rw[fc,ht,aa];by_cases hr:r=[]
  ·subst hr;rw[if_neg (by simp),vc];rfl
  ·have h0:0<r.length:=List.length_pos_iff.mpr hr;rw[if_pos (decide_eq_true h0)];cases m with
   |zero=>exact absurd hl hr
   |succ m =>
    obtain⟨p0,hp0⟩:=JT r hr;have hs0:=hs p0 hp0;have hst:=rA ar kind r;have hh:=qO ar kind other r;have hp:1<=6 ^ m:=Nat.one_le_pow _ _ (by decide);have q1:r.length<=r.length*6 ^ m:=Nat.le_mul_of_pos_right _ ⋯;have q2:ar.length*r.length<=5*r.length:=JL _ ha;have q3:(step ar kind r).length*6 ^ m<=(5*r.length)*6 ^ m:=JL _ ⋯;rw[Nat.pow_succ,<-Nat.mul_assoc] at hz;have q4:5*r.length*6 ^ m=5*(r.length*6 ^ m):=Nat.mul_assoc ..;rw[Aw ⋯ hok (fun p hp=>by have:=hs p hp;omega) ⋯ ⋯,aa];exact tZ ha m (step ar kind r) (f++lZ ar kind other r) hl (zo hok) (fun q hq=>by have:=rz (b:=1000-m) (fun p hp=>by have:=hs p hp;omega) q hq;omega) (by rw[aw];omega)
theorem BM {k kind other:Int}{ar:Ar}(w:Wf k ar)(h4:k<=4)(ha:ar.length<=5)(hk:0<=kind)(hk2:kind<k):nr [cg k ar,.int kind,.int other]=some (.list ((gn k ar kind other).map cu),true):=by
 have hp:=tY (m:=k.toNat) ⋯;have e:=tZ (k:=k) (kind:=kind) (other:=other) ha k.toNat [[]] [] (vo w _ _ (tT hk hk2)) (fun p hp i hi=>by cases List.mem_singleton.mp hp;cases hi) (fun p hp=>by cases List.mem_singleton.mp hp;simp;omega) (by simp;omega);have rn:nr [cg k ar,.int kind,.int other]=(vP [some (cg k ar,false),some (.int kind,false),some (.int other,false),none,none]).bind eD:=rfl;rw[rn];unfold vP;have s1:(cJ 3 (df cy)) [some (cg k ar,false),some (.int kind,false),some (.int other,false),none,none]=some (.next [some (cg k ar,false),some (.int kind,false),some (.int other,false),some (.list [],true),none]):=by
  simp[cJ,df,cy]
 have s2:(gf 4 (cJ 4 (df (b7 (eK cy) cy)))) [some (cg k ar,false),some (.int kind,false),some (.int other,false),some (.list [],true),none]=some (.next [some (cg k ar,false),some (.int kind,false),some (.int other,false),some (.list [],true),some (.list ([[]].map cu),false)]):=by
  simp[gf,cJ,df,b7,eK,cy,Dh,share,cu]
 rw[bI] at e;rw[cH,s1,aa];dsimp only;rw[cH,s2,aa];dsimp only;rw[cH,pQ e,aa];simp[lT,eD,gn]
open PySem DL Td
noncomputable def fg (h:List Nat):List Int:=h.map fun (n:Nat)=>(n:Int)
noncomputable def Cd (h:List Nat):Option Vl:=some (lV (fg h),true)
theorem w8 (h:List Nat)(i v:Nat):(fg h).set i (v:Int)=fg (h.set i v):=by unfold fg;rw[List.map_set]
theorem rQ (h:List Nat):(fg h).length=h.length:=by unfold fg;rw[af]
theorem yr {h:List Nat}{s:Nat}(hs:s<h.length):cN (.list ((fg h).map .int)) (.int (s:Int))=some (.int (mark h s:Int),false):=by
 unfold cN;dsimp only;rw[vW (k:=s) (d:=.int (mark h s:Int)) (by
  unfold fg mark;rw[bg,au,aj hs,ag,aj hs];rfl)]
 rfl
theorem Gk (a b:Int):uC (.int a) (.int b)=some (!decide (a=b)):=by
 have h:∀x:Int,SeqAt.shaped (.int x)=true:=fun x=>by simp[SeqAt.shaped,PyData.canLay0,PyData.depth]
 unfold uC;rw[h,h];simp[SeqAt.noMix,Spec.same];by_cases e:a=b <;> simp[e]
theorem r8 (h:List Nat):iQ ((fg h).map .int)=some (fg h):=r9 _
theorem jN {h:List Nat}{p:Nat}{ρ:Sl}(e:ρ[p]?=some (Cd h)):fh p ρ=some (fg h):=by
 unfold fh;rw[e];exact r8 h
noncomputable def xq (h:List Nat)(s:Nat):Sl:=[Cd h,some (.int (s:Int),false)]
theorem vC {h:List Nat}{s:Nat}(hs:s<h.length):(d2 cN (mT 0) (cc 1)) (xq h s)=some (.int (mark h s:Int),false):=by
 show (cN (.list ((fg h).map .int)) (.int (s:Int)))=_;exact yr hs
theorem Ew {h:List Nat}{s:Nat}(hs:s<h.length):jZ (xq h s)=some (!decide (mark h s=s)):=by
 rw[jZ,de,cC,vC hs];show uC (.int (mark h s:Int)) (.int (s:Int))=_;rw[Gk];congr 2;exact decide_eq_decide.mpr ⋯
theorem Ex {h:List Nat}{s:Nat}(hs:s<h.length)(h2:mark h s<h.length):kf (xq h s)=some (.next (xq (h.set s (mark h (mark h s))) (mark (h.set s (mark h (mark h s))) s))):=by
 have q1:(d2 cN (mT 0) (cC (d2 cN (mT 0) (cc 1)))) (xq h s)=some (.int (mark h (mark h s):Int),false):=by
  rw[d2,cC,vC hs];show (cN (.list ((fg h).map .int)) (.int (mark h s:Int)))=_;exact yr h2
 have q2:qp 0 (cj 1) (d2 cN (mT 0) (cC (d2 cN (mT 0) (cc 1)))) (xq h s)=some (.next (xq (h.set s (mark h (mark h s))) s)):=by
  have dv:cj 1 (xq h s)=some (.int (s:Int),false):=rfl;have no:iP ((xq h s).set 0 none)=true:=rfl;simp only[qp,q1,dv,xQ,aa,jN (h:=h) (p:=0) (ρ:=xq h s) rfl,vv (show s<(fg h).length by rw[rQ];exact hs),no,if_true,w8];rfl
 rw[kf,cL q2,cJ,vC (by rw[aY];exact hs)];rfl
theorem AV {n:Nat}:∀(s:Nat) (h:List Nat),Uf n h->s<n->∃(h':List Nat) (r:Nat),fc jZ kf (s+1) (xq h s)=some (.next (xq h' r))/\Uf n h'/\Rt h s r/\∀i r,Rt h i r->Rt h' i r:=by
 intro s;induction s using Nat.strongRecOn with
 |_ s ih =>
  intro h u hs;have hl:s<h.length:=by rw[u.len];exact hs
  have l:=u.le s hs;unfold fc;rw[Ew hl,aa];by_cases e:mark h s=s
  ·rw[decide_eq_true e];exact⟨h,s,rfl,u,.here e,fun _ _ a=>a⟩
  ·rw[decide_eq_false e];obtain⟨u1,k1⟩:=u.half hs e;have e1:mark (h.set s (mark h (mark h s))) s=mark h (mark h s):=by rw[gj hl,if_pos rfl]
   have l2:=u.le (mark h s) ⋯;obtain⟨h',r,w,u',rt,k2⟩:=ih (mark h (mark h s)) ⋯ _ u1 ⋯;refine⟨h',r,?_,u',?_,fun i r a=>k2 i r (k1 i r a)⟩
   ·rw[show (!false)=true from rfl,if_pos rfl,Ex hl ⋯,aa];dsimp only;rw[e1];have:=jh w (s-(mark h (mark h s)+1));rwa[show mark h (mark h s)+1+(s-(mark h (mark h s)+1))=s by omega] at this
   ·obtain⟨r',a,_⟩:=u.has s hs;have b:=k1 s r' a;cases b with
    |here q=>exact absurd (e1.symm.trans q) ⋯
    |up _ b =>
     rw[e1] at b;rw[rt.one b];exact a
theorem vE {n:Nat}{h:List Nat}{s:Nat}(u:Uf n h)(hs:s<n):∃(h':List Nat) (r:Nat),eP (fg h) [.int (s:Int)]=some (.int (r:Int),fg h')/\Uf n h'/\Rt h s r/\∀i r,Rt h i r->Rt h' i r:=by
 obtain⟨h',r,w,u',rt,k⟩:=AV s h u hs;refine⟨h',r,?_,u',rt,k⟩;have e:kG jZ kf (xq h s)=some (.next (xq h' r)):=pQ w;have run:eP (fg h) [.int (s:Int)]=(qg (xq h s)).bind fun fl=>match fl with
  |.next ρ=>(pK ρ).bind fun r=>(fh 0 ρ).map fun ms=>(r.1,ms)
  |_=>none:=rfl
 rw[run,qg,cL e];show ((pK (xq h' r)).bind fun x=>(fh 0 (xq h' r)).map fun ms=>(x.1,ms))=_;rw[jN (h:=h') rfl];rfl
noncomputable def Bd (h:List Nat)(a b:Nat)(s3 s4:Option Vl):Sl:=[Cd h,some (.int (a:Int),false),some (.int (b:Int),false),s3,s4]
theorem Ee (a b:Nat):ym (.int (a:Int)) (.int (b:Int))=some (.int ((max a b:Nat):Int),false):=by
 unfold ym;dsimp only;congr 3;split <;> omega
theorem FK {its done:kg}{n:Nat}{h:List Nat}{a b:Nat}(t:uN its done n h)(inn:∀p∈done,p.1<n/\p.2<n)(hm:(a,b)∈its)(ha:a<n)(hb:b<n):∃(h':List Nat),uO (fg h) [.int (a:Int),.int (b:Int)]=some (.none,fg h')/\uN its (done++[(a,b)]) n h':=by
 obtain⟨h1,p,e1,u1,r1,k1⟩:=vE t.u ha;have t1:=t.same inn u1 k1;obtain⟨h2,q,e2,u2,r2,k2⟩:=vE u1 hb;have t2:=t1.same inn u2 k2;have rp:=k2 _ _ (k1 _ _ r1);have rq:=k2 _ _ r2;have lp:=u2.le_of ha rp;have lq:=u2.le_of hb rq;refine⟨h2.set (max p q) (min p q),?_,t2.tie hm ha hb rp rq⟩;have q1:j5 0 eP (b7 (cj 1) cy) 3 (Bd h a b none none)=some (.next (Bd h1 a b (some (.int (p:Int),false)) none)):=by
  rw[j5,jN (h:=h) rfl,aa];show ((eP (fg h) [.int (a:Int)]).bind _)=_;rw[e1];rfl
 have q2:j5 0 eP (b7 (cj 2) cy) 4 (Bd h1 a b (some (.int (p:Int),false)) none)=some (.next (Bd h2 a b (some (.int (p:Int),false)) (some (.int (q:Int),false)))):=by
  rw[j5,jN (h:=h1) rfl,aa];show ((eP (fg h1) [.int (b:Int)]).bind _)=_;rw[e2];rfl
 have q3:qp 0 (d2 ym (cc 3) (cc 4)) (d2 yl (cc 3) (cc 4)) (Bd h2 a b (some (.int (p:Int),false)) (some (.int (q:Int),false)))=some (.next (Bd (h2.set (max p q) (min p q)) a b (some (.int (p:Int),false)) (some (.int (q:Int),false)))):=by
  have m1:(d2 yl (cc 3) (cc 4)) (Bd h2 a b (some (.int (p:Int),false)) (some (.int (q:Int),false)))=some (.int ((min p q:Nat):Int),false):=Ed p q;have m2:(d2 ym (cc 3) (cc 4)) (Bd h2 a b (some (.int (p:Int),false)) (some (.int (q:Int),false)))=some (.int ((max p q:Nat):Int),false):=Ee p q;have no:iP ((Bd h2 a b (some (.int (p:Int),false)) (some (.int (q:Int),false))).set 0 none)=true:=rfl;simp only[qp,m1,m2,xQ,aa,jN (h:=h2) (p:=0) (ρ:=Bd h2 a b (some (.int (p:Int),false)) (some (.int (q:Int),false))) rfl,vv (show max p q<(fg h2).length by rw[rQ,u2.len];omega),no,if_true,w8];rfl
 have run:uO (fg h) [.int (a:Int),.int (b:Int)]=(CP (Bd h a b none none)).bind fun fl=>match fl with
  |.next ρ=>(EX ρ).bind fun r=>(fh 0 ρ).map fun ms=>(r.1,ms)
  |_=>none:=rfl
 rw[run,CP,cL q1,cL q2,q3];show ((some ((PyData.none,false):Vl)).bind fun x=>(fh 0 (Bd (h2.set (max p q) (min p q)) a b (some (.int (p:Int),false)) (some (.int (q:Int),false)))).map fun ms=>(x.1,ms))=_;rw[jN (h:=h2.set (max p q) (min p q)) rfl];rfl
theorem wF {n:Nat}{pre post:List Nat}{x:Nat}(h:pre++x::post=ao n):pre=ao x/\x<n:=by
 have hl:pre.length<n:=by
  have:=congrArg List.length h;rw[aw,aJ,aI] at this;omega
 have hx:x=pre.length:=by
  have:=congrArg (fun l=>l[pre.length]?) h;rw[aN (aC _),JP,aM,bh hl] at this;exact Option.some.inj this
 refine⟨?_,by omega⟩;have:=congrArg (fun l=>l.take pre.length) h;rw[List.take_append_of_le_length (aC _),List.take_length,List.take_range,JM (JQ hl)] at this;rw[hx];exact this
theorem rf {f:Tr->D}:∀(l pre:List Tr),(pre++l).Nodup->jW (l.map cX) (l.map f) (mI pre f)=some (mI (pre++l) f)
 |[],pre,_=>by rw[br];rfl
 | t::l,pre,nd=>by
  have nt:t∉pre:=fun z=>(List.nodup_append.mp nd).2.2 t z t (by simp) rfl;rw[az,az,jW,if_pos (oI t),zy nt];have e:mI pre f++[(cX t,f t)]=mI (pre++[t]) f:=by unfold mI;rw[aX];rfl
  rw[e,rf l (pre++[t]) (by rw[ba];exact nd),ba];rfl
def NL (s:Option Vl):Prop:=∀c,s≠some (.dict [(c,.none)],true)
theorem AG {ρ:Sl}(h:∀s∈ρ,NL s):iP ρ=true:=by
 unfold iP;rw[bH];intro s hs;split
 ·exact absurd rfl (h _ hs _)
 ·rfl
theorem zE:NL none:=fun c h=>by cases h
theorem BZ {x:D}:NL (some (x,false)):=fun c h=>by cases h
theorem Gj {xs:List D}:NL (some (.list xs,true)):=fun c h=>by cases h
noncomputable def pv (s:Option D):Option Vl:=s.map fun d=>(d,false)
noncomputable def xP (ts:List Tr)(h:List Nat)(rows:List Nat)(height:Nat)(s4 s5:Option D):Sl:=[some (.list (ts.map cX),false),Cd h,some (.list ((fg rows).map .int),true),some (.int (height:Int),false),pv s4,pv s5]
theorem Fb (s:Option D):NL (pv s):=by
 cases s with
 |none=>exact zE
 |some d=>exact BZ
theorem E7 {ts:List Tr}{h rows:List Nat}{c:Nat}{s4 s5:Option D}:iP ((xP ts h rows c s4 s5).set 1 none)=true:=by
 refine AG fun s hs=>?_;have hs':s∈[some (.list (ts.map cX),false),none,some (.list ((fg rows).map .int),true),some (.int (c:Int),false),pv s4,pv s5]:=hs;simp only[bq,bf,or_false] at hs';rcases hs' with rfl|rfl|rfl|rfl|rfl|rfl
 ·exact BZ
 ·exact zE
 ·exact Gj
 ·exact BZ
 ·exact Fb _
 ·exact Fb _
theorem BX {its:kg}{n:Nat}{m:List Nat}(w:xK its n m)(s:iI its m){i:Nat}(hi:i<n):l4 m (mark m i)=l4 m i:=by
 unfold l4;rw[w.mark_mark s hi]
theorem yu {m:Nat->Nat}{x r:Nat}(h:r<x):mark ((ao x).map m) r=m r:=by
 unfold mark;rw[ag,au,bh h];rfl
theorem BY {its:kg}{n:Nat}{h h':List Nat}{ts:List Tr}{x:Nat}{s5:Option D}(t:uN its its n h)(inn:∀p∈its,p.1<n/\p.2<n)(u:Uf n h')(k:∀i r,Rt h i r->Rt h' i r)(hx:x<n)(hn:n<1000000) :
  ∃(h2:List Nat) (t5:Option D),Uf n h2/\(∀i r,Rt h i r->Rt h2 i r)/\jt (xP ts h' ((ao x).map (l4 (fu n h))) ((ao x).filter (lW (fu n h))).length (some (.int (x:Int))) s5) =
   some (.next (xP ts h2 ((ao (x+1)).map (l4 (fu n h))) ((ao (x+1)).filter (lW (fu n h))).length (some (.int (x:Int))) t5)):=by
 obtain⟨w,st⟩:=t.way inn;obtain⟨h2,r,e1,u2,r1,k2⟩:=vE u hx;obtain⟨r0,a0,l0⟩:=t.u.has x hx;have er:r=r0:=r1.one (k _ _ a0);subst er;have em:mark (fu n h) x=r:=a0.mark t.u hx;refine⟨h2,some (.int (r:Int)),u2,fun i r a=>k2 _ _ (k _ _ a),?_⟩;generalize hm:fu n h=m at *;have q1:j5 1 eP (b7 (cj 4) cy) 5 (xP ts h' ((ao x).map (l4 m)) ((ao x).filter (lW m)).length (some (.int (x:Int))) s5)=some (.next (xP ts h2 ((ao x).map (l4 m)) ((ao x).filter (lW m)).length (some (.int (x:Int))) (some (.int (r:Int))))):=by
  rw[j5,jN (h:=h') rfl,aa];show ((eP (fg h') [.int (x:Int)]).bind _)=_;rw[e1,aa,if_pos ⟨E7,by decide⟩];rfl
 have tst:(de (cc 5) [(nA,(cc 4))]) (xP ts h2 ((ao x).map (l4 m)) ((ao x).filter (lW m)).length (some (.int (x:Int))) (some (.int (r:Int))))=some (decide (r=x)):=by
  show nA (.int (r:Int)) (.int (x:Int))=_;rw[fE];exact congrArg some (decide_eq_decide.mpr ⋯)
 have hz:((fg ((ao x).map (l4 m))).map PyData.int).length<sizeLine:=zk (by rw[af,rQ,af,aI];omega);have nat_app:∀(l:List Nat) (v:Nat),(fg l).map PyData.int++[.int (v:Int)]=(fg (l++[v])).map .int:=fun l v=>by unfold fg;rw[aX,aX];rfl
 rw[jt,cL q1,il,tst,aa];by_cases e:r=x
 ·rw[decide_eq_true e,if_pos rfl];have isf:lW m x=true:=by unfold lW;rw[em,e];exact beq_self_eq_true _
  have nf:=w.num_first st hx;rw[isf,beq_iff_eq] at nf;have a1:ik 2 (cj 3) (xP ts h2 ((ao x).map (l4 m)) ((ao x).filter (lW m)).length (some (.int (x:Int))) (some (.int (r:Int))))=some (.next (xP ts h2 ((ao (x+1)).map (l4 m)) ((ao x).filter (lW m)).length (some (.int (x:Int))) (some (.int (r:Int))))):=by
   rw[JG,aX,List.map_singleton,nf];show ((if ((fg ((ao x).map (l4 m))).map PyData.int).length<sizeLine then some ((fg ((ao x).map (l4 m))).map PyData.int++[.int (((ao x).filter (lW m)).length:Int)]) else none).map fun ys=>Fl.next _)=_;rw[if_pos hz,nat_app];rfl
  rw[cL a1];have e2:((ao (x+1)).filter (lW m)).length=((ao x).filter (lW m)).length+1:=by rw[JG,Jv,aw,bC,isf];rfl
  rw[e2];rfl
 ·rw[decide_eq_false e,if_neg Bool.false_ne_true];have isf:lW m x=false:=by unfold lW;rw[em];exact beq_eq_false_iff_ne.mpr e
  have e2:((ao (x+1)).filter (lW m)).length=((ao x).filter (lW m)).length:=by rw[JG,Jv,aw,bC,isf];rfl
  rw[e2];have rx:(d2 cN (cc 2) (cc 5)) (xP ts h2 ((ao x).map (l4 m)) ((ao x).filter (lW m)).length (some (.int (x:Int))) (some (.int (r:Int))))=some (.int (l4 m x:Int),false):=by
   show cN (.list ((fg ((ao x).map (l4 m))).map .int)) (.int (r:Int))=_;rw[yr (by rw[af,aI];omega),yu ⋯,<-em,BX w st hx]
  rw[ik,rx,aa,JG,aX,List.map_singleton];show ((if ((fg ((ao x).map (l4 m))).map PyData.int).length<sizeLine then some ((fg ((ao x).map (l4 m))).map PyData.int++[.int (l4 m x:Int)]) else none).map fun ys=>Fl.next _)=_;rw[if_pos hz,nat_app];rfl
section
variable {e:Sb}{d:Int}
theorem wZ (ok:eC e){h:List Nat}(t:uN (n6 e d) (n6 e d) (cv e d).length h)(hz:(cv e d).length<1000000):∃ms,g9 (fg h) [.list ((cv e d).map cX)]=some (.dict (eJ e d),ms):=by
 have inn:=Ci (d:=d) ok;obtain⟨w,st⟩:=t.way inn;have h0:(cJ 2 (df cy)) [some (.list ((cv e d).map cX),false),Cd h,none,none,none,none]=some (.next [some (.list ((cv e d).map cX),false),Cd h,some (.list [],true),none,none,none]):=by simp[cJ,df,cy,FP]
 have h1:(cJ 3 (dC (.int 0))) [some (.list ((cv e d).map cX),false),Cd h,some (.list [],true),none,none,none]=some (.next (xP (cv e d) h [] 0 none none)):=rfl;have hr:(cS (d1 fK (cc 0))) ((xP (cv e d) h [] 0 none none).set 1 none)=some ((ao (cv e d).length).map fun (x:Nat)=>.int (x:Int)):=by
  rw[<-dA];have hl:(d1 fK (cc 0)) ((xP (cv e d) h [] 0 none none).set 1 none)=some (.int ((cv e d).length:Int),false):=by
   show some ((PyData.int (((cv e d).map cX).length:Int),false):Vl)=_;rw[af]
  have:=dI (o:=false) hl ⋯ ⋯;rwa[aW] at this
 obtain⟨ρ',f1,h',s4,s5,u',k',eq⟩:=qP (g:=gN 4) (b:=jt) (d:=fun (x:Nat)=>.int (x:Int)) (P:=fun pre ρ=>∃h' s4 s5,Uf (cv e d).length h'/\(∀i r,Rt h i r->Rt h' i r)/\ρ=xP (cv e d) h' (pre.map (l4 (fu (cv e d).length h))) (pre.filter (lW (fu (cv e d).length h))).length s4 s5) (ao (cv e d).length) (ao (cv e d).length) [] _ rfl ⟨h,none,none,t.u,fun _ _ a=>a,rfl⟩
  (fun pre x post ρ hw zz=>by
   obtain ⟨h',s4,s5,u',k',eq⟩:=zz;obtain⟨ep,hx⟩:=wF hw;obtain⟨h2,t5,u2,k2,hb⟩:=BY (ts:=cv e d) (s5:=s5) t inn u' k' hx hz;refine⟨xP (cv e d) h' ((ao x).map (l4 (fu (cv e d).length h))) ((ao x).filter (lW (fu (cv e d).length h))).length (some (.int (x:Int))) s5,_,by rw[eq,ep];rfl,hb,h2,some (.int (x:Int)),t5,u2,k2,?_⟩;rw[ep,<-JG])
 have f2:wB 1 (cS (d1 fK (cc 0))) (gN 4) jt (xP (cv e d) h [] 0 none none)=some (.next ρ'):=by
  rw[wB,jN (h:=h) rfl,if_pos ⟨E7,rfl⟩,hr,aa];exact f1
 have rows:(fg ((ao (cv e d).length).map (l4 (fu (cv e d).length h)))).map PyData.int=(cv e d).map fun t=>.int (kU e d t):=by
  unfold fg;rw[bg,bg];refine bF fun i=>?_;rw[au,au];by_cases hi:i<(cv e d).length
  ·rw[bh hi,aj hi];have:=(Dv (d:=d) ok).num_eq w st (aj hi);unfold kU;rw[av,av,this];rfl
  ·rw[aU (by rw[aI];omega),aU ⋯];rfl
 have zp:=rf (f:=fun t=>.int (kU e d t)) (cv e d) [] (ji e d);have sh:(kH 2 fk) (xP (cv e d) h' ((ao (cv e d).length).map (l4 (fu (cv e d).length h))) ((ao (cv e d).length).filter (lW (fu (cv e d).length h))).length s4 s5)=some (.next [some (.list ((cv e d).map cX),false),Cd h',some (.list ((cv e d).map fun t=>.int (kU e d t)),false),some (.int (((ao (cv e d).length).filter (lW (fu (cv e d).length h))).length:Int),false),pv s4,pv s5]):=by
  rw[<-rows];rfl
 have v:k7 [some (.list ((cv e d).map cX),false),Cd h',some (.list ((cv e d).map fun t=>.int (kU e d t)),false),some (.int (((ao (cv e d).length).filter (lW (fu (cv e d).length h))).length:Int),false),pv s4,pv s5]=some (.dict (eJ e d),false):=by
  show (if ((cv e d).map cX).length<=sizeLine then (jW ((cv e d).map cX) ((cv e d).map fun t=>.int (kU e d t)) []).map fun kvs=>((.dict kvs,false):Vl) else none)=_;rw[if_pos (sZ (by rw[af];omega)),show ([]:List (D×D))=mI [] (fun t=>.int (kU e d t)) from rfl,zp];rfl
 refine⟨fg h',?_⟩;have run:g9 (fg h) [.list ((cv e d).map cX)]=(om [some (.list ((cv e d).map cX),false),Cd h,none,none,none,none]).bind fun fl=>match fl with
  |.next ρ=>(k7 ρ).bind fun r=>(fh 1 ρ).map fun ms=>(r.1,ms)
  |_=>none:=rfl
 rw[run,om,cL h0,cL h1,cL f2,eq,sh];show ((k7 _).bind fun r=>(fh 1 [some (.list ((cv e d).map cX),false),Cd h',some (.list ((cv e d).map fun t=>.int (kU e d t)),false),some (.int (((ao (cv e d).length).filter (lW (fu (cv e d).length h))).length:Int),false),pv s4,pv s5]).map fun ms=>(r.1,ms))=_;rw[v,jN (h:=h') rfl];rfl
end
theorem sf (n:Nat)(f:Nat->D):fJ 0 ((ao n).map f)=(ao n).map fun (c:Nat)=>.tuple [.int (c:Int),f c]:=by
 rw[kW];refine bF fun i=>?_;rw[au,au,bJ];by_cases h:i<n
 ·rw[bh h];simp
 ·rw[aU (by rw[aI];omega)];rfl
theorem se {α:Type}(l:List α):l.zipIdx.map (·.1)=l:=by
 refine bF fun i=>?_;rw[au,bJ];cases l[i]? <;> rfl
theorem we {α β γ:Type}(f:α->D)(g:β->D)(h:γ->D):∀(xs:List α) (ys:List β) (zs:List γ),jH (xs.map f) (ys.map g) (zs.map h)=(xs.zip (ys.zip zs)).map fun p=>.tuple [f p.1,g p.2.1,h p.2.2]
 |[],_,_=>rfl
 |_::_,[],_=>rfl
 |_::_,_::_,[]=>rfl
 |x::xs,y::ys,z::zs=>by rw[az,az,az,jH,we f g h xs ys zs];rfl
section
variable {e:Sb}{d:Int}
noncomputable def mf (e:Sb)(c:Nat)(p:List Nat):List Tr:=(ao (gI e.rows (c:Int)).toNat).map fun (x:Nat)=>((c:Int),p,(x:Int))
noncomputable def ll (e:Sb)(d:Int)(c:Nat):D:=.list ((gn e.k2 e.ar2 (gI e.pl (c:Int)) d).map cu)
noncomputable def dR (e:Sb)(d:Int):D:=.list ((ao e.k1.toNat).map (ll e d))
noncomputable def Be (e:Sb)(d:Int)(acc:List Tr)(s3 s4 s5:Option Vl):Sl:=[some (dR e d,false),some (ng e,false),some (.list (acc.map cX),true),s3,s4,s5]
theorem Hd (ok:eC e)(sm:pJ e){acc:List Tr}{c:Nat}{p:List Nat}{s4:Option Vl}(hc:(c:Int)<e.k1)(hn:acc.length+(mf e c p).length<=1000000) :
  gE (Be e d acc (some (.int (c:Int),false)) s4 (some (cu p,false)))=some (.next (Be e d (acc++mf e c p) (some (.int (c:Int),false)) s4 (some (cu p,false)))):=by
 have lb:=ok.b.len;have n0:=iz ok.b.nn (c:Int);have n1:=j8 (m:=1000) ⋯ sm.rw (c:Int);have ix:=gK (xs:=e.rows) (i:=(c:Int)) ⋯ ⋯;have hr:(cS (d2 cN (cC (d2 cN (cc 1) (cC (dC (.int 0))))) (cc 3))) (Be e d acc (some (.int (c:Int),false)) s4 (some (cu p,false)))=some ((ao (gI e.rows (c:Int)).toNat).map fun (x:Nat)=>.int (x:Int)):=by
  rw[<-dA];exact dI (o:=false) (by simp[Be,d2,cc,cC,dC,nK,ix]) n0 ⋯
 have cm:=eG (it:=cS (d2 cN (cC (d2 cN (cc 1) (cC (dC (.int 0))))) (cc 3))) (n:=1) (ix:=[3,5]) (g:=gN 0) (e:=iS) (ρ:=Be e d acc (some (.int (c:Int),false)) s4 (some (cu p,false))) (d:=fun (x:Nat)=>.int (x:Int)) (β:=fun (x:Nat)=>cX ((c:Int),p,(x:Int))) (ao (gI e.rows (c:Int)).toNat) hr (by rw[aI];omega) (fun x hx=>⟨_,false,rfl,by
  show iS [some (.int (x:Int),false),some (.int (c:Int),false),some (cu p,false)]=_;exact z0 (o:=false) (o':=false) (o'':=false) (by simp[cj]) (by simp[cj]) (by simp[cj])⟩)
 have er:(ao (gI e.rows (c:Int)).toNat).map (fun (x:Nat)=>cX ((c:Int),p,(x:Int)))=(mf e c p).map cX:=by unfold mf;rw[bg];rfl
 rw[er] at cm;have hz:(acc.map cX).length+((mf e c p).map cX).length<=sizeLine:=sZ (by rw[af,af];exact hn);rw[gE,pS,cm,aa];show ((if (acc.map cX).length+((mf e c p).map cX).length<=sizeLine then some (acc.map cX++(mf e c p).map cX) else none).map fun ys=>Fl.next _)=_;rw[if_pos hz,<-aX];rfl
theorem Hc (ok:eC e)(sm:pJ e){acc:List Tr}{c:Nat}{s5:Option Vl}(hc:(c:Int)<e.k1)(hn:acc.length+((gn e.k2 e.ar2 (gI e.pl (c:Int)) d).flatMap (mf e c)).length<=1000000):∃t5,
  gD (Be e d acc (some (.int (c:Int),false)) (some (ll e d c,false)) s5)=some (.next (Be e d (acc++(gn e.k2 e.ar2 (gI e.pl (c:Int)) d).flatMap (mf e c)) (some (.int (c:Int),false)) (some (ll e d c,false)) t5)):=by
 obtain⟨ρ',h1,t5,h2⟩:=lD (g:=gN 5) (b:=gE) (d:=cu) (f:=mf e c) (P:=fun acc ρ=>∃s5,ρ=Be e d acc (some (.int (c:Int),false)) (some (ll e d c,false)) s5) 1000000 (gn e.k2 e.ar2 (gI e.pl (c:Int)) d) acc _ ⟨s5,rfl⟩ hn
  (fun p _ acc' ρ ⟨u5,eq⟩ hl=>⟨_,_,by rw[eq];rfl,Hd ok sm hc hl,_,rfl⟩)
 refine⟨t5,?_⟩;rw[gD,eB (ds:=(gn e.k2 e.ar2 (gI e.pl (c:Int)) d).map cu) rfl,h1,h2]
theorem C9 (ok:eC e)(sm:pJ e)(hz:(cv e d).length<=1000000):eR [dR e d,ng e]=some (.list ((cv e d).map cX),true):=by
 have k0:=ok.w1.lo;have k1:=sm.k1;have h0:(cJ 2 (df cy)) [some (dR e d,false),some (ng e,false),none,none,none,none]=some (.next (Be e d [] none none none)):=by simp[cJ,df,cy,FP,Be]
 have hr:(fO (dY 0)) (Be e d [] none none none)=some ((ao e.k1.toNat).map fun (c:Nat)=>.tuple [.int (c:Int),ll e d c]):=by
  rw[<-sf];rfl
 obtain⟨ρ',h1,t3,t4,t5,h2⟩:=lD (g:=gT [gN 3,gN 4]) (b:=gD) (d:=fun (c:Nat)=>.tuple [.int (c:Int),ll e d c]) (f:=fun c=>(gn e.k2 e.ar2 (gI e.pl (c:Int)) d).flatMap (mf e c)) (P:=fun acc ρ=>∃s3 s4 s5,ρ=Be e d acc s3 s4 s5) 1000000 (ao e.k1.toNat) [] _ ⟨none,none,none,rfl⟩ (by rw[bO,bE];exact hz)
  (fun c hc acc ρ ⟨u3,u4,u5,eq⟩ hl=>by
   rw[aZ] at hc;obtain⟨t5,hb⟩:=Hc (d:=d) (s5:=u5) ok sm (c:=c) ⋯ hl;exact⟨_,_,by rw[eq];rfl,hb,_,_,t5,rfl⟩)
 have run:eR [dR e d,ng e]=(jE [some (dR e d,false),some (ng e,false),none,none,none,none]).bind eD:=rfl;rw[run,jE,cL h0,cH,eB hr,h1,aa,h2,bN];rfl
noncomputable def rj (e:Sb)(d:Int)(kvs:List (D×D))(s6 s7 s8 s9 s10 s11 s12 s13 s14:Option Vl):Sl:=[some (oK e,false),some (nD e,false),some (ng e,false),some (dR e d,false),some (.list ((cv e d).map cX),false),IH kvs,s6,s7,s8,s9,s10,s11,s12,s13,s14]
noncomputable def Bh (h:List Nat):Option Vl:=some (.list ((fg h).map .int),true)
theorem Dx {acc:List Tr}{t:Tr}{s8 s9 s10 s11 s12 s13 s14:Option Vl}(hn:acc.length<1000000)(h:t∉acc) :
  pH (rj e d (dW acc) (some (.int (acc.length:Int),false)) (some (cX t,false)) s8 s9 s10 s11 s12 s13 s14)=some (.next (rj e d (dW (acc++[t])) (some (.int (acc.length:Int),false)) (some (cX t,false)) s8 s9 s10 s11 s12 s13 s14)):=by
 have h1:zX 5 (rj e d (dW acc) (some (.int (acc.length:Int),false)) (some (cX t,false)) s8 s9 s10 s11 s12 s13 s14)=some (dW acc):=rfl;have h2:yo ((PyData.int (acc.length:Int),false):Vl)=some (.int (acc.length:Int)):=rfl;have h3:yo ((cX t,false):Vl)=some (cX t):=by simp[yo,FI]
 have hv:(cj 6) (unown (rj e d (dW acc) (some (.int (acc.length:Int),false)) (some (cX t,false)) s8 s9 s10 s11 s12 s13 s14))=some (.int (acc.length:Int),false):=rfl;have hk:(cj 7) (unown (rj e d (dW acc) (some (.int (acc.length:Int),false)) (some (cX t,false)) s8 s9 s10 s11 s12 s13 s14))=some (cX t,false):=rfl;rw[pH,va,h1,aa,hv,aa,h2,aa,hk,aa,h3,aa,show gg (dW acc)=true from m9 _ _,oI,if_pos ⟨rfl,zk (by rw[yt];exact hn)⟩,xa h];rfl
theorem Bw (hz:(cv e d).length<1000000):∃s6 s7,(eh (fO (dY 4)) (gT [(gN 6),(gN 7)]) pH) (rj e d [] none none none none none none none none none)=some (.next (rj e d (dW (cv e d)) s6 s7 none none none none none none none)):=by
 have hr:(fO (dY 4)) (rj e d [] none none none none none none none none none)=some ((cv e d).zipIdx.map fun p=>.tuple [.int (p.2:Int),cX p.1]):=by
  rw[<-kW];rfl
 obtain⟨ρ',h1,s6,s7,h2⟩:=qP (g:=gT [gN 6,gN 7]) (b:=pH) (d:=fun (p:Tr×Nat)=>.tuple [.int (p.2:Int),cX p.1]) (P:=fun pre ρ=>∃s6 s7,ρ=rj e d (dW (pre.map (·.1))) s6 s7 none none none none none none none) (cv e d).zipIdx (cv e d).zipIdx [] _ rfl ⟨none,none,rfl⟩
  (fun pre p post ρ hw zz=>by
   obtain ⟨u6,u7,eq⟩:=zz;have hi:(cv e d).zipIdx[pre.length]?=some p:=by rw[<-hw,aN (aC _),JP];rfl
   have hl:pre.length<(cv e d).length:=by
    have:=congrArg List.length hw;rw[aw,aJ,b6] at this;omega
   rw[bJ,aj hl,av,bE] at hi;have ep:=(Option.some.inj hi).symm;have nt:p.1∉pre.map (·.1):=by
    have nd:=ji e d;have e1:pre.map (·.1)++p.1::post.map (·.1)=cv e d:=by
     have:=congrArg (List.map (·.1)) hw;rw[aX,az,se] at this;exact this
    rw[<-e1] at nd;exact fun z=>(List.nodup_append.mp nd).2.2 _ z _ (by simp) rfl
   have e2:(p.2:Int)=((pre.map (·.1)).length:Int):=by rw[af,ep]
   have hb:=Dx (e:=e) (d:=d) (acc:=pre.map (·.1)) (t:=p.1) (s8:=none) (s9:=none) (s10:=none) (s11:=none) (s12:=none) (s13:=none) (s14:=none) (by rw[af];omega) nt;refine⟨_,_,?_,hb,_,_,by rw[aX];rfl⟩;rw[eq,e2];rfl)
 refine⟨s6,s7,?_⟩;rw[se] at h2;rw[eB hr];exact h1.trans (by rw[h2])
noncomputable def tJ (e:Sb)(d:Int)(p:Tr×Tr):Nat×Nat:=((cv e d).idxOf p.1,(cv e d).idxOf p.2)
theorem Fc (ok:eC e){t:Tr}(h:sR e d t):qE (.dict (dW (cv e d))) (cX t)=some (.int ((cv e d).idxOf t:Int),false):=by
 unfold qE;dsimp only;rw[show gg (dW (cv e d))=true from m9 _ _,oI,if_pos (by rfl)];unfold dW;rw[rV,if_pos ((eE ok).mpr h)];rfl
def G7 (e:Sb)(d:Int)(s6 s7 s9 s10 s11 s12:Option Vl)(done:List (Nat×Nat))(ρ:Sl):Prop:=∃h s13 s14,uN (n6 e d) done (cv e d).length h/\(∀p∈done,p.1<(cv e d).length/\p.2<(cv e d).length)/\ρ=rj e d (dW (cv e d)) s6 s7 (Bh h) s9 s10 s11 s12 s13 s14
theorem FL (ok:eC e){a:Int×Int}{i x:Nat}{q:List Nat}{w:List Nat}{s:List Int}{h:List Nat}{done:List (Nat×Nat)}{s6 s7:Option Vl}(ha:e.ar1[i]?=some a)(hw:e.ws[i]?=some w)(hs:e.steps[i]?=some s)(hq:q∈gn e.k2 e.ar2 (gI e.pl a.2) d)(hx:x<s.length)
  (t:uN (n6 e d) done (cv e d).length h) (inn:∀p∈done,p.1<(cv e d).length/\p.2<(cv e d).length):∃h',uN (n6 e d) (done++[tJ e d (lS e (a,i) q x)]) (cv e d).length h'/\(∀p∈done++[tJ e d (lS e (a,i) q x)],p.1<(cv e d).length/\p.2<(cv e d).length) ∧
   qZ (rj e d (dW (cv e d)) s6 s7 (Bh h) (some (cM a,false)) (some (cu w,false)) (some (cR s,false)) (some (cu q,false)) (some (.int (x:Int),false)) (some (.int (gI s (x:Int)),false))) =
    some (.next (rj e d (dW (cv e d)) s6 s7 (Bh h') (some (cM a,false)) (some (cu w,false)) (some (cR s,false)) (some (cu q,false)) (some (.int (x:Int),false)) (some (.int (gI s (x:Int)),false)))):=by
 have wa:=ok.w1.ok a (aA ha);have pk:=gi ok (show 0<=a.2 by omega) wa.2.2;have cq:=(jv ok.w2 ok.h4 pk.1 pk.2).mp hq;obtain⟨ls,ms⟩:=ok.b.st i a s ha hs;have n0:=iz ok.b.nn a.1;have r:jj e d (a.1,w++q,(x:Int)) (a.2,q,gI s (x:Int)):=⟨i,a,w,q,s,(x:Int),ha,hw,hs,cq.1,cq.2,by omega,by omega,rfl,rfl⟩;obtain⟨i1,i2⟩:=pL ok r;have et:lS e (a,i) q x=((a.1,w++q,(x:Int)),(a.2,q,gI s (x:Int))):=by
  unfold lS;rw[ag,hw,ag,hs];rfl
 have m1:=List.idxOf_lt_length_iff.mpr ((eE ok).mpr i1);have m2:=List.idxOf_lt_length_iff.mpr ((eE ok).mpr i2);have hm:tJ e d (lS e (a,i) q x)∈n6 e d:=by
  rw[et];exact List.mem_map.mpr ⟨((a.1,w++q,(x:Int)),(a.2,q,gI s (x:Int))),(ml ok).mpr r,rfl⟩
 rw[et] at hm ⊢;obtain⟨h',e1,t'⟩:=FK t inn hm m1 m2;refine⟨h',t',fun p hp=>?_,?_⟩
 ·rcases List.mem_append.mp hp with z|z
  ·exact inn p z
  ·rw[List.mem_singleton.mp z];exact⟨m1,m2⟩
 ·have sq:=xX ok i2;have pk1:=gi ok wa.1 (show a.1<e.k1 by omega);have cw:=qh ok.w2 pk1.1 pk1.2 (ok.s.way i a w ha hw).1;have h4:=ok.h4;have pa:=BN (p:=w) (q:=q) (by dsimp only at sq;omega);generalize hρ:rj e d (dW (cv e d)) s6 s7 (Bh h) (some (cM a,false)) (some (cu w,false)) (some (cR s,false)) (some (cu q,false)) (some (.int (x:Int),false)) (some (.int (gI s (x:Int)),false))=ρ;have b9:cc 9 ρ=some (cM a):=by rw[<-hρ];rfl
  have k1:(eK (b7 (d2 cN (cc 9) (cC (dC (.int 0)))) (b7 (d2 eZ (cc 10) (cc 12)) (b7 (cj 13) cy)))) ρ=some (cX (a.1,w++q,(x:Int)),false) :=
   z0 (o:=false) (o':=false) (o'':=false) (by rw[d2,b9];exact lU a) (by rw[d2,<-hρ];exact pa) (by rw[<-hρ];rfl)
  have k2:(eK (b7 (d2 cN (cc 9) (cC (dC (.int 1)))) (b7 (cj 12) (b7 (cj 14) cy)))) ρ=some (cX (a.2,q,gI s (x:Int)),false) :=
   z0 (o:=false) (o':=false) (o'':=false) (by rw[d2,b9];exact qq a) (by rw[<-hρ];rfl) (by rw[<-hρ];rfl)
  have b5:cc 5 ρ=some (.dict (dW (cv e d))):=by rw[<-hρ];rfl
  have l1:(d2 qE (cc 5) (cC (eK (b7 (d2 cN (cc 9) (cC (dC (.int 0)))) (b7 (d2 eZ (cc 10) (cc 12)) (b7 (cj 13) cy)))))) ρ=some (.int ((cv e d).idxOf (a.1,w++q,(x:Int)):Int),false):=by
   rw[d2,b5,cC,k1];exact Fc ok i1
  have l2:(d2 qE (cc 5) (cC (eK (b7 (d2 cN (cc 9) (cC (dC (.int 1)))) (b7 (cj 12) (b7 (cj 14) cy)))))) ρ=some (.int ((cv e d).idxOf (a.2,q,gI s (x:Int)):Int),false):=by
   rw[d2,b5,cC,k2];exact Fc ok i2
  have ow:qN 8 ρ=some (fg h):=by rw[<-hρ];exact r8 h
  rw[qZ,vb,ow,aa,b7,l1,b7,l2];show ((uO (fg h) [.int ((cv e d).idxOf (a.1,w++q,(x:Int)):Int),.int ((cv e d).idxOf (a.2,q,gI s (x:Int)):Int)]).bind _)=_;rw[e1,<-hρ];rfl
theorem Hb (ok:eC e){a:Int×Int}{i:Nat}{q:List Nat}{w:List Nat}{s:List Int}{done:List (Nat×Nat)}{ρ:Sl}{s6 s7:Option Vl}(ha:e.ar1[i]?=some a)(hw:e.ws[i]?=some w)(hs:e.steps[i]?=some s)(hq:q∈gn e.k2 e.ar2 (gI e.pl a.2) d)
  (hn:done.length+(gI e.rows a.1).toNat<=1000000) (hP:G7 e d s6 s7 (some (cM a,false)) (some (cu w,false)) (some (cR s,false)) (some (cu q,false)) done ρ) :
  ∃ρ',qY ρ=some (.next ρ')/\G7 e d s6 s7 (some (cM a,false)) (some (cu w,false)) (some (cR s,false)) (some (cu q,false)) (done++(ao (gI e.rows a.1).toNat).map fun x=>tJ e d (lS e (a,i) q x)) ρ':=by
 obtain⟨ls,ms⟩:=ok.b.st i a s ha hs;have n0:=iz ok.b.nn a.1;have hr:(fO (dY 11)) ρ=some ((ao (gI e.rows a.1).toNat).map fun (x:Nat)=>.tuple [.int (x:Int),.int (gI s (x:Int))]):=by
  rw[<-sf];obtain⟨h,s13,s14,_,_,eq⟩:=hP;rw[eq];show some (fJ 0 (s.map .int))=_;congr 2;refine bF fun j=>?_;rw[au,au];by_cases hj:j<s.length
  ·rw[aj hj,bh ⋯];unfold gI;rw[av,av,aW,ag,aj hj];rfl
  ·rw[aU ⋯,aU (by rw[aI];omega)];rfl
 obtain⟨ρ',h1,h2⟩:=lE (g:=gT [gN 13,gN 14]) (b:=qZ) (d:=fun (x:Nat)=>.tuple [.int (x:Int),.int (gI s (x:Int))]) (f:=fun x=>tJ e d (lS e (a,i) q x)) (P:=G7 e d s6 s7 (some (cM a,false)) (some (cu w,false)) (some (cR s,false)) (some (cu q,false))) 1000000 (ao (gI e.rows a.1).toNat) done ρ hP (by rw[aI];exact hn)
  (fun x hx acc ρ ⟨h,u13,u14,t,inn,eq⟩ _=>by
   rw[aZ] at hx;obtain⟨h',t',inn',hb⟩:=FL (s6:=s6) (s7:=s7) ok ha hw hs hq (x:=x) ⋯ t inn;exact⟨_,_,by rw[eq];rfl,hb,h',_,_,t',inn',rfl⟩)
 exact⟨ρ',by rw[qY,eB hr,h1],h2⟩
theorem BF (ok:eC e){c:Int}(h0:0<=c)(h1:c<e.k1):cN (dR e d) (.int c)=some (.list ((gn e.k2 e.ar2 (gI e.pl c) d).map cu),false):=by
 unfold dR cN;dsimp only;rw[qt h0 (d:=ll e d c.toNat) (by rw[au,bh ⋯,av])];unfold ll;rw[show ((c.toNat:Nat):Int)=c by omega];rfl
theorem Ha (ok:eC e){a:Int×Int}{i:Nat}{w:List Nat}{s:List Int}{done:List (Nat×Nat)}{h:List Nat}{s6 s7 s12 s13 s14:Option Vl}(ha:e.ar1[i]?=some a)(hw:e.ws[i]?=some w)(hs:e.steps[i]?=some s)
  (hn:done.length+((gn e.k2 e.ar2 (gI e.pl a.2) d).flatMap fun q=>(ao (gI e.rows a.1).toNat).map fun x=>tJ e d (lS e (a,i) q x)).length<=1000000)
  (t:uN (n6 e d) done (cv e d).length h) (inn:∀p∈done,p.1<(cv e d).length/\p.2<(cv e d).length) :
  ∃ρ' t12,qX (rj e d (dW (cv e d)) s6 s7 (Bh h) (some (cM a,false)) (some (cu w,false)) (some (cR s,false)) s12 s13 s14)=some (.next ρ')/\G7 e d s6 s7 (some (cM a,false)) (some (cu w,false)) (some (cR s,false)) t12 (done++(gn e.k2 e.ar2 (gI e.pl a.2) d).flatMap fun q=>(ao (gI e.rows a.1).toNat).map fun x=>tJ e d (lS e (a,i) q x)) ρ':=by
 have wa:=ok.w1.ok a (aA ha);have rx:=BF (d:=d) ok (c:=a.2) ⋯ wa.2.2;have hr:(da (fF (d2 cN (cc 3) (cC (d2 cN (cc 9) (cC (dC (.int 1)))))))) (rj e d (dW (cv e d)) s6 s7 (Bh h) (some (cM a,false)) (some (cu w,false)) (some (cR s,false)) s12 s13 s14)=some ((gn e.k2 e.ar2 (gI e.pl a.2) d).map cu):=by
  show ((((cN (cM a) (.int 1)).map (·.1)).bind fun y=>cN (dR e d) y).bind fun x=>dS x.1)=_;rw[qq];show ((cN (dR e d) (.int a.2)).bind fun x=>dS x.1)=_;rw[rx];rfl
 obtain⟨ρ',h1,t12,h2⟩:=lD (g:=gN 12) (b:=qY) (d:=cu) (f:=fun q=>(ao (gI e.rows a.1).toNat).map fun x=>tJ e d (lS e (a,i) q x)) (P:=fun done ρ=>∃s12,G7 e d s6 s7 (some (cM a,false)) (some (cu w,false)) (some (cR s,false)) s12 done ρ) 1000000 (gn e.k2 e.ar2 (gI e.pl a.2) d) done _ ⟨s12,h,s13,s14,t,inn,rfl⟩ hn
  (fun q hq acc ρ ⟨u12,h',u13,u14,t',inn',eq⟩ hl=>by
   rw[af,aI] at hl;obtain⟨ρ2,hb,hP⟩:=Hb (s6:=s6) (s7:=s7) ok ha hw hs hq hl ⟨h',u13,u14,t',inn',rfl⟩;exact⟨_,ρ2,by rw[eq];rfl,hb,_,hP⟩)
 exact⟨ρ',t12,by rw[qX,eB hr,h1],h2⟩
theorem Dm (ok:eC e):e.ar1.zip (e.ws.zip e.steps)=e.ar1.zipIdx.map fun p=>(p.1,e.ws.getD p.2 [],e.steps.getD p.2 []):=by
 have l1:=ok.s.wl;have l2:=ok.b.sl;refine bF fun i=>?_;rw[au,bJ];by_cases hi:i<e.ar1.length
 ·rw[aj (by rw[bG,bG];omega),List.getElem_zip,List.getElem_zip,aj hi];simp[ag,show i<e.ws.length by omega,show i<e.steps.length by omega]
 ·rw[aU (by rw[bG,bG];omega),aU ⋯];rfl
theorem Dw (ok:eC e)(sm:pJ e)(hz:(cv e d).length<1000000)(hn:(nB e d).length<=1000000):∃h,oF [oK e,nD e,ng e,dR e d,.list ((cv e d).map cX)]=some (.list ((fg h).map .int),true)/\uN (n6 e d) (n6 e d) (cv e d).length h:=by
 have run:oF [oK e,nD e,ng e,dR e d,.list ((cv e d).map cX)]=(yR [some (oK e,false),some (nD e,false),some (ng e,false),some (dR e d,false),some (.list ((cv e d).map cX),false),none,none,none,none,none,none,none,none,none,none]).bind eD:=rfl;have h0:rE 5 [some (oK e,false),some (nD e,false),some (ng e,false),some (dR e d,false),some (.list ((cv e d).map cX),false),none,none,none,none,none,none,none,none,none,none]=some (.next (rj e d [] none none none none none none none none none)):=by
  have nd:qc (([some (oK e,false),some (nD e,false),some (ng e,false),some (dR e d,false),some (.list ((cv e d).map cX),false),none,none,none,none,none,none,none,none,none,none]:Sl).set 5 none)=true:=AI fun s hs=>by
   have hs':s∈[some (oK e,false),some (nD e,false),some (ng e,false),some (dR e d,false),some (.list ((cv e d).map cX),false),none,none,none,none,none,none,none,none,none,none]:=hs;simp only[bq,bf,or_false] at hs';rcases hs' with rfl|rfl|rfl|rfl|rfl|rfl|rfl|rfl|rfl|rfl|rfl|rfl|rfl|rfl|rfl <;> first|exact Hw|exact DR
  rw[rE,if_pos ⟨nd,by simp⟩];rfl
 obtain⟨s6,s7,h1⟩:=Bw (e:=e) (d:=d) hz;have h2:cJ 8 (sI (cS (d1 fK (cc 4)))) (rj e d (dW (cv e d)) s6 s7 none none none none none none none)=some (.next (rj e d (dW (cv e d)) s6 s7 (Bh (ao (cv e d).length)) none none none none none none)):=by
  have hl:(d1 fK (cc 4)) (rj e d (dW (cv e d)) s6 s7 none none none none none none none)=some (.int ((cv e d).length:Int),false):=by
   show some ((PyData.int (((cv e d).map cX).length:Int),false):Vl)=_;rw[af]
  have hr:=dI (o:=false) hl ⋯ ⋯;rw[aW,dA] at hr;rw[cJ,sI,hr,aa,if_pos (by rw[af,aI];omega)];show some (Fl.next _)=_;unfold Bh fg;rw[bg];rfl
 have hr:(xp (fF (d2 cN (cc 0) (cC (dC (.int 1))))) (fF (d2 cN (cc 1) (cC (dC (.int 1))))) (fF (d2 cN (cc 2) (cC (dC (.int 1)))))) (rj e d (dW (cv e d)) s6 s7 (Bh (ao (cv e d).length)) none none none none none none)=some (e.ar1.zipIdx.map fun p=>.tuple [cM p.1,cu (e.ws.getD p.2 []),cR (e.steps.getD p.2 [])]):=by
  have z:=we cM cu cR e.ar1 e.ws e.steps;rw[Dm ok,bg] at z;have q1:(fF (d2 cN (cc 0) (cC (dC (.int 1))))) (rj e d (dW (cv e d)) s6 s7 (Bh (ao (cv e d).length)) none none none none none none)=some (e.ar1.map cM):=by
   show ((cN (oK e) (.int 1)).bind fun x=>dS x.1)=_;rw[kr];rfl
  have q2:(fF (d2 cN (cc 1) (cC (dC (.int 1))))) (rj e d (dW (cv e d)) s6 s7 (Bh (ao (cv e d).length)) none none none none none none)=some (e.ws.map cu):=by
   show ((cN (nD e) (.int 1)).bind fun x=>dS x.1)=_;rw[x8];rfl
  have q3:(fF (d2 cN (cc 2) (cC (dC (.int 1))))) (rj e d (dW (cv e d)) s6 s7 (Bh (ao (cv e d).length)) none none none none none none)=some (e.steps.map cR):=by
   show ((cN (ng e) (.int 1)).bind fun x=>dS x.1)=_;rw[sO];rfl
  rw[xp,q1,aa,q2,aa,q3,av];rw[z];rfl
 have ef:(e.ar1.zipIdx.flatMap fun p=>(gn e.k2 e.ar2 (gI e.pl p.1.2) d).flatMap fun q=>(ao (gI e.rows p.1.1).toNat).map fun x=>tJ e d (lS e p q x))=n6 e d:=by
  unfold n6 nB;simp only[List.map_flatMap,bg];rfl
 have hl:(n6 e d).length=(nB e d).length:=by unfold n6;rw[af]
 obtain⟨ρ',f1,s9,s10,s11,s12,h,s13,s14,t,_,eq⟩:=lD (g:=gT [gN 9,gN 10,gN 11]) (b:=qX) (d:=fun (p:(Int×Int)×Nat)=>.tuple [cM p.1,cu (e.ws.getD p.2 []),cR (e.steps.getD p.2 [])]) (f:=fun p=>(gn e.k2 e.ar2 (gI e.pl p.1.2) d).flatMap fun q=>(ao (gI e.rows p.1.1).toNat).map fun x=>tJ e d (lS e p q x)) (P:=fun done ρ=>∃s9 s10 s11 s12,G7 e d s6 s7 s9 s10 s11 s12 done ρ) 1000000 e.ar1.zipIdx [] _ ⟨none,none,none,none,ao (cv e d).length,none,none,uN.start _ _,(fun p hp=>nomatch hp),rfl⟩ (by rw[ef,hl,bO];omega)
  (fun p hp acc ρ ⟨u9,u10,u11,u12,h,u13,u14,t,inn,eq⟩ hl=>by
   have ha:e.ar1[p.2]?=some p.1:=List.mem_zipIdx_iff_getElem?.mp hp;have lt:=(List.getElem?_eq_some_iff.mp ha).1;have l1:=ok.s.wl;have l2:=ok.b.sl;have hw:e.ws[p.2]?=some (e.ws.getD p.2 []):=by rw[ag,aj (show p.2<e.ws.length by omega)];rfl
   have hs:e.steps[p.2]?=some (e.steps.getD p.2 []):=by rw[ag,aj (show p.2<e.steps.length by omega)];rfl
   obtain⟨ρ2,t12,hb,hP⟩:=Ha (d:=d) (s6:=s6) (s7:=s7) (s12:=u12) (s13:=u13) (s14:=u14) ok ha hw hs hl t inn;exact⟨_,ρ2,by rw[eq];rfl,hb,_,_,_,t12,hP⟩)
 rw[ef,bN] at t;refine⟨h,?_,t⟩;rw[run,yR,cL h0,cL h1,cL h2,cH,eB hr,f1,aa,eq];rfl
noncomputable def vY (e:Sb)(acc:List D)(s5 s6 s7:Option Vl):Sl:=[some (oK e,false),some (sU e,false),some (nD e,false),some (ng e,false),some (.list acc,true),s5,s6,s7]
theorem Ao (ok:eC e)(sm:pJ e){acc:List D}{s6 s7:Option Vl}:(dD (da (fF (d2 cN (cc 2) (cC (dC (.int 0)))))) 1 [1,5] (gN 0) fU jc) (vY e acc (some (.int d,false)) s6 s7)=some (dR e d,true):=by
 have l:=ok.s.len;have k1:=sm.k1;have hr:(da (fF (d2 cN (cc 2) (cC (dC (.int 0)))))) (vY e acc (some (.int d,false)) s6 s7)=some ((ao e.k1.toNat).map fun (c:Nat)=>.int (gI e.pl (c:Int))):=by
  show ((cN (nD e) (.int 0)).bind fun x=>dS x.1)=_;rw[uV];show some (e.pl.map PyData.int)=_;congr 1;refine bF fun i=>?_;rw[au,au];by_cases hi:i<e.pl.length
  ·rw[aj hi,bh ⋯];unfold gI;rw[av,av,aW,ag,aj hi];rfl
  ·rw[aU ⋯,aU (by rw[aI];omega)];rfl
 have cm:=eG (it:=da (fF (d2 cN (cc 2) (cC (dC (.int 0)))))) (n:=1) (ix:=[1,5]) (g:=gN 0) (e:=jc) (ρ:=vY e acc (some (.int d,false)) s6 s7) (d:=fun (c:Nat)=>.int (gI e.pl (c:Int))) (β:=ll e d) (ao e.k1.toNat) hr (by rw[aI];omega) (fun c hc=>by
  rw[aZ] at hc;have pk:=gi ok (c:=(c:Int)) ⋯ ⋯;exact⟨_,true,rfl,(show _=nr [sU e,.int (gI e.pl (c:Int)),.int d] from rfl).trans (BM ok.w2 ok.h4 sm.a2 pk.1 pk.2)⟩)
 exact cm
theorem DM (ok:eC e)(sm:pJ e){acc:List D}{s6 s7:Option Vl}(hl:acc.length<1000000)(hz:(cv e d).length<1000000)(hn:(nB e d).length<=1000000):∃t6 t7,
  jf (vY e acc (some (.int d,false)) s6 s7)=some (.next (vY e (acc++[.dict (eJ e d)]) (some (.int d,false)) t6 t7)):=by
 obtain⟨h,e1,t⟩:=Dw (d:=d) ok sm hz hn;obtain⟨ms,e2⟩:=wZ ok t hz;refine⟨some (dR e d,false),some (.list ((cv e d).map cX),false),?_⟩;have q1:(gf 6 (cJ 6 (dD (da (fF (d2 cN (cc 2) (cC (dC (.int 0)))))) 1 [1,5] (gN 0) fU jc))) (vY e acc (some (.int d,false)) s6 s7)=some (.next (vY e acc (some (.int d,false)) (some (dR e d,false)) s7)):=by
  rw[gf,cJ,Ao ok sm,aa];rfl
 have q2:(gf 7 (cJ 7 (cB eR (b7 (cj 6) (b7 (cj 3) cy))))) (vY e acc (some (.int d,false)) (some (dR e d,false)) s7)=some (.next (vY e acc (some (.int d,false)) (some (dR e d,false)) (some (.list ((cv e d).map cX),false)))):=by
  have c:(cB eR (b7 (cj 6) (b7 (cj 3) cy))) (vY e acc (some (.int d,false)) (some (dR e d,false)) s7)=some (.list ((cv e d).map cX),true):=C9 ok sm ⋯;rw[gf,cJ,c,aa];rfl
 have q3:(sJ g9 (cj 7) (cB oF (b7 (cj 0) (b7 (cj 2) (b7 (cj 3) (b7 (cj 6) (b7 (cj 7) cy))))))) (vY e acc (some (.int d,false)) (some (dR e d,false)) (some (.list ((cv e d).map cX),false)))=some (.dict (eJ e d),false):=by
  have c:(cB oF (b7 (cj 0) (b7 (cj 2) (b7 (cj 3) (b7 (cj 6) (b7 (cj 7) cy)))))) (vY e acc (some (.int d,false)) (some (dR e d,false)) (some (.list ((cv e d).map cX),false)))=some (.list ((fg h).map .int),true):=e1;have v:cj 7 (vY e acc (some (.int d,false)) (some (dR e d,false)) (some (.list ((cv e d).map cX),false)))=some (.list ((cv e d).map cX),false):=rfl;rw[sJ,v,aa,c,aa];show ((iQ ((fg h).map .int)).bind fun ns=>(g9 ns [.list ((cv e d).map cX)]).map fun r=>((r.1,false):Vl))=_;rw[r8,aa,e2];rfl
 rw[jf,cL q1,cL q2,ik,q3,aa];show ((if acc.length<sizeLine then some (acc++[.dict (eJ e d)]) else none).map fun ys=>Fl.next _)=_;rw[if_pos (zk hl)];rfl
theorem pM (ok:eC e)(sm:pJ e)(fw:nN e):dF [oK e,sU e,nD e,ng e]=some (xA e,true):=by
 have k0:=ok.w2.lo;have k4:=ok.h4;have run:dF [oK e,sU e,nD e,ng e]=(lJ [some (oK e,false),some (sU e,false),some (nD e,false),some (ng e,false),none,none,none,none]).bind eD:=rfl;have h0:(cJ 4 (df cy)) [some (oK e,false),some (sU e,false),some (nD e,false),some (ng e,false),none,none,none,none]=some (.next (vY e [] none none none)):=by simp[cJ,df,cy,FP,vY]
 have hr:(cS (d2 cN (cc 1) (cC (dC (.int 0))))) (vY e [] none none none)=some ((ao e.k2.toNat).map fun (x:Nat)=>.int (x:Int)):=by
  rw[<-dA];exact dI (o:=false) (by simp[vY,d2,cc,cC,dC,mz]) ⋯ ⋯
 obtain⟨ρ',h1,s5,s6,s7,h2⟩:=lE (g:=gN 5) (b:=jf) (d:=fun (x:Nat)=>.int (x:Int)) (f:=fun (d:Nat)=>(.dict (eJ e (d:Int)):D)) (P:=fun acc ρ=>∃s5 s6 s7,ρ=vY e acc s5 s6 s7) 1000000 (ao e.k2.toNat) [] _ ⟨none,none,none,rfl⟩ (by rw[aI,bO];omega)
  (fun x hx acc ρ ⟨u5,u6,u7,eq⟩ hl=>by
   rw[aZ] at hx;have f:=fw (x:Int) ⋯ ⋯;obtain⟨t6,t7,hb⟩:=DM (d:=(x:Int)) (s6:=u6) (s7:=u7) ok sm hl ⋯ f.2;exact⟨_,_,by rw[eq];rfl,hb,_,t6,t7,rfl⟩)
 rw[run,lJ,cL h0,cH,eB hr,h1,aa,h2,bN];rfl
end
section
variable {e:Sb}{d:Int}
theorem Er (e:Sb)(d:Int):yC (.dict (eJ e d))=some ((cv e d).map fun t=>.tuple [cX t,.int (kU e d t)]):=by
 show (if gg (eJ e d)=true then some ((eJ e d).map fun p=>PyData.tuple [p.1,p.2]) else none)=_;rw[show gg (eJ e d)=true from m9 _ _,if_pos rfl];unfold eJ mI;rw[bg];rfl
theorem o8 (ok:eC e)(hz:(cv e d).length<1000000):cW [.dict (eJ e d)]=some (.list ((fs e d).map cX),true):=by
 have hr:(vB (cj 0)) [some (.dict (eJ e d),false),some (.list [],true),none,none]=some ((cv e d).map fun t=>.tuple [cX t,.int (kU e d t)]):=Er e d;obtain⟨ρ',h1,s2,s3,h2⟩:=qP (g:=gT [gN 2,gN 3]) (b:=gF) (d:=fun t=>.tuple [cX t,.int (kU e d t)]) (P:=fun pre ρ=>∃s2 s3,ρ=[some (.dict (eJ e d),false),some (.list ((pre.filter (fy (cv e d) (jj e d))).map cX),true),s2,s3]) (cv e d) (cv e d) [] _ rfl ⟨none,none,rfl⟩
  (fun pre t post ρ hw zz=>by
   obtain ⟨u2,u3,eq⟩:=zz;have ht:t∈cv e d:=hw▸by simp
   have hl:(pre++t::post).length=(cv e d).length:=by rw[hw]
   rw[aw,aJ] at hl;have fl:(pre.filter (fy (cv e d) (jj e d))).length<=pre.length:=List.length_filter_le _ _;have fst:=yK (r:=jj e d) (ji e d) hw;have tst:(de (cc 3) [(nA,(cC (d1 fK (cc 1))))]) [some (.dict (eJ e d),false),some (.list ((pre.filter (fy (cv e d) (jj e d))).map cX),true),some (cX t,false),some (.int (kU e d t),false)]=some (fy (cv e d) (jj e d) t):=by
    show nA (.int (kU e d t)) (.int ((((pre.filter (fy (cv e d) (jj e d))).map cX).length:Nat):Int))=_;rw[fE,af];congr 1;rw[Bool.eq_iff_iff,decide_eq_true_eq,<-fst];unfold kU;omega
   refine⟨[some (.dict (eJ e d),false),some (.list ((pre.filter (fy (cv e d) (jj e d))).map cX),true),some (cX t,false),some (.int (kU e d t),false)],[some (.dict (eJ e d),false),some (.list (((pre++[t]).filter (fy (cv e d) (jj e d))).map cX),true),some (cX t,false),some (.int (kU e d t),false)],by rw[eq];rfl,?_,_,_,rfl⟩;rw[gF,Jv];cases hb:fy (cv e d) (jj e d) t with
   |true =>
    rw[hb] at tst;have hz':((pre.filter (fy (cv e d) (jj e d))).map cX).length<sizeLine:=zk (by rw[af];omega);rw[yD tst];show ((if ((pre.filter (fy (cv e d) (jj e d))).map cX).length<sizeLine then some ((pre.filter (fy (cv e d) (jj e d))).map cX++[cX t]) else none).map fun ys=>Fl.next _)=_;rw[if_pos hz',bC,hb,if_pos rfl,List.filter_nil,aX];rfl
   |false =>
    rw[hb] at tst;rw[Ck tst,bC,hb,if_neg Bool.false_ne_true,List.filter_nil,br];rfl)
 have run:cW [.dict (eJ e d)]=(jF [some (.dict (eJ e d),false),none,none,none]).bind eD:=rfl;have h0:(cJ 1 (df cy)) [some (.dict (eJ e d),false),none,none,none]=some (.next [some (.dict (eJ e d),false),some (.list [],true),none,none]):=by simp[cJ,df,cy,FP]
 rw[run,jF,cL h0,cH,eB hr,show eN (gT [gN 2,gN 3]) gF ((cv e d).map fun t=>PyData.tuple [cX t,.int (kU e d t)]) [some (.dict (eJ e d),false),some (.list [],true),none,none]=_ from h1,aa,h2];rfl
end
theorem v7 {α:Type}(f g:α->D):∀(xs:List α),l5 (xs.map f) (xs.map g)=xs.map fun x=>.tuple [f x,g x]
 |[]=>rfl
 |x::xs=>by rw[az,az,l5,v7 f g xs];rfl
theorem CW {ch:List (List Int)}{c:Int}(h0:0<=c)(h1:c<ch.length):cN (.tuple (ch.map cR)) (.int c)=some (cR (gC ch c),false):=by
 unfold cN;dsimp only;rw[qt h0 (d:=cR (gC ch c)) (by rw[au,mY h0 h1];rfl)];rfl
section
variable {e:Sb}{r:List Int}{s ch:List (List Int)}
noncomputable def Ec (e:Sb)(r:List Int)(s ch:List (List Int))(s6 s8 s9:Option Vl):Sl:=[some (oK e,false),some (sU e,false),some (nD e,false),some (ng e,false),some (cp r s,false),some (.tuple (ch.map cR),false),s6,some (xA e,false),s8,s9]
noncomputable def HD (e:Sb)(r:List Int)(s ch:List (List Int))(d:Nat):List Int:=(fs e (d:Int)).map fun t=>kU (e.bk r s) (d:Int) (ql ch t)
theorem HM (ok:eC e)(b:cV e.k1 e.ar1 r s)(m:cZ e.k1 e.rows r ch){d:Nat}{acc:List (List Int)}(hz:(cv e (d:Int)).length<1000000)(hn:acc.length<1000000) :
  nq (Ec e r s ch (some (.list (acc.map cR),true)) (some (.dict (eJ e (d:Int)),false)) (some (.dict (eJ (e.bk r s) (d:Int)),false)))=some (.next (Ec e r s ch (some (.list ((acc++[HD e r s ch d]).map cR),true)) (some (.dict (eJ e (d:Int)),false)) (some (.dict (eJ (e.bk r s) (d:Int)),false)))):=by
 have fl:=yI e (d:Int);have hr:(da (fF (cB cW (b7 (cj 8) cy)))) (Ec e r s ch (some (.list (acc.map cR),true)) (some (.dict (eJ e (d:Int)),false)) (some (.dict (eJ (e.bk r s) (d:Int)),false)))=some ((fs e (d:Int)).map cX):=by
  show ((cW [.dict (eJ e (d:Int))]).bind fun x=>dS x.1)=_;rw[o8 ok hz];rfl
 have c:=eG (it:=da (fF (cB cW (b7 (cj 8) cy)))) (n:=3) (ix:=[9,5]) (g:=gT [gN 0,gN 1,gN 2]) (e:=m5) (ρ:=Ec e r s ch (some (.list (acc.map cR),true)) (some (.dict (eJ e (d:Int)),false)) (some (.dict (eJ (e.bk r s) (d:Int)),false))) (d:=cX) (β:=fun t=>.int (kU (e.bk r s) (d:Int) (ql ch t))) (fs e (d:Int)) hr ⋯ (fun t ht=>by
  have it:=vG ok ht;have hl:=m.len;obtain⟨rl,rm⟩:=m.row t.1 it.c0 it.c1;have i1:=CW (ch:=ch) it.c0 (by have:=it.c1;omega);have i2:=gK (xs:=gC ch t.1) (i:=t.2.2) it.x0 (by have:=it.x1;omega);have x2:=IK (ok.bk b) (oO m it);refine⟨[some (.int t.1,false),some (cu t.2.1,false),some (.int t.2.2,false),some (.dict (eJ (e.bk r s) (d:Int)),false),some (.tuple (ch.map cR),false)],false,rfl,?_⟩;have q1:(d2 cN (cC (d2 cN (cc 4) (cc 0))) (cc 2)) [some (.int t.1,false),some (cu t.2.1,false),some (.int t.2.2,false),some (.dict (eJ (e.bk r s) (d:Int)),false),some (.tuple (ch.map cR),false)]=some (.int (gI (gC ch t.1) t.2.2),false):=by
   show ((((cN (.tuple (ch.map cR)) (.int t.1)).map (·.1))).bind fun x=>cN x (.int t.2.2))=_;rw[i1];exact i2
  have q2:(eK (b7 (cj 0) (b7 (cj 1) (b7 (d2 cN (cC (d2 cN (cc 4) (cc 0))) (cc 2)) cy)))) [some (.int t.1,false),some (cu t.2.1,false),some (.int t.2.2,false),some (.dict (eJ (e.bk r s) (d:Int)),false),some (.tuple (ch.map cR),false)]=some (cX (ql ch t),false):=z0 (o:=false) (o':=false) (o'':=false) rfl rfl q1;rw[m5,d2,cC,q2];exact x2)
 have q:(d1 dg (cC (dD (da (fF (cB cW (b7 (cj 8) cy)))) 3 [9,5] (gT [(gN 0),(gN 1),(gN 2)]) fU m5))) (Ec e r s ch (some (.list (acc.map cR),true)) (some (.dict (eJ e (d:Int)),false)) (some (.dict (eJ (e.bk r s) (d:Int)),false)))=some (cR (HD e r s ch d),false):=by
  rw[d1,cC,c,av,aa];unfold HD cR;rw[bg];rfl
 have hz':(acc.map cR).length<sizeLine:=zk (by rw[af];exact hn);rw[nq,ik,q,aa];show ((if (acc.map cR).length<sizeLine then some (acc.map cR++[cR (HD e r s ch d)]) else none).map fun ys=>Fl.next _)=_;rw[if_pos hz',aX];rfl
theorem AK (ok:eC e)(sm:pJ e)(fw:nN e)(b:cV e.k1 e.ar1 r s)(sm2:pJ (e.bk r s))(fw2:nN (e.bk r s))(m:cZ e.k1 e.rows r ch):jy [oK e,sU e,nD e,ng e,cp r s,.tuple (ch.map cR)]=some (.tuple ((mq e r s ch).map cR),false):=by
 have k0:=ok.w2.lo;have k4:=ok.h4;have run:jy [oK e,sU e,nD e,ng e,cp r s,.tuple (ch.map cR)]=(sD [some (oK e,false),some (sU e,false),some (nD e,false),some (ng e,false),some (cp r s,false),some (.tuple (ch.map cR),false),none,none,none,none]).bind eD:=rfl;have h0:(cJ 6 (df cy)) [some (oK e,false),some (sU e,false),some (nD e,false),some (ng e,false),some (cp r s,false),some (.tuple (ch.map cR),false),none,none,none,none]=some (.next [some (oK e,false),some (sU e,false),some (nD e,false),some (ng e,false),some (cp r s,false),some (.tuple (ch.map cR),false),some (.list (([]:List (List Int)).map cR),true),none,none,none]):=by simp[cJ,df,cy,FP]
 have q0:(gf 7 (cJ 7 (cB dF (b7 (cj 0) (b7 (cj 1) (b7 (cj 2) (b7 (cj 3) cy))))))) [some (oK e,false),some (sU e,false),some (nD e,false),some (ng e,false),some (cp r s,false),some (.tuple (ch.map cR),false),some (.list (([]:List (List Int)).map cR),true),none,none,none]=some (.next (Ec e r s ch (some (.list (([]:List (List Int)).map cR),true)) none none)):=by
  have c:(cB dF (b7 (cj 0) (b7 (cj 1) (b7 (cj 2) (b7 (cj 3) cy))))) [some (oK e,false),some (sU e,false),some (nD e,false),some (ng e,false),some (cp r s,false),some (.tuple (ch.map cR),false),some (.list (([]:List (List Int)).map cR),true),none,none,none]=some (xA e,true):=pM ok sm fw;rw[gf,cJ,c,aa];rfl
 have hr:(oZ (dY 7) (fF (cB dF (b7 (cj 0) (b7 (cj 1) (b7 (cj 2) (b7 (cj 4) cy))))))) (Ec e r s ch (some (.list (([]:List (List Int)).map cR),true)) none none)=some ((ao e.k2.toNat).map fun (d:Nat)=>.tuple [.dict (eJ e (d:Int)),.dict (eJ (e.bk r s) (d:Int))]):=by
  have c:(cB dF (b7 (cj 0) (b7 (cj 1) (b7 (cj 2) (b7 (cj 4) cy))))) (Ec e r s ch (some (.list (([]:List (List Int)).map cR),true)) none none)=some (xA (e.bk r s),true):=pM (e:=e.bk r s) (ok.bk b) sm2 fw2;rw[oZ,fF,c];show some (l5 ((ao e.k2.toNat).map fun (d:Nat)=>.dict (eJ e (d:Int))) ((ao e.k2.toNat).map fun (d:Nat)=>.dict (eJ (e.bk r s) (d:Int))))=_;rw[v7]
 obtain⟨ρ',h1,t8,t9,h2⟩:=lE (g:=gT [gN 8,gN 9]) (b:=nq) (d:=fun (d:Nat)=>.tuple [.dict (eJ e (d:Int)),.dict (eJ (e.bk r s) (d:Int))]) (f:=HD e r s ch) (P:=fun acc ρ=>∃s8 s9,ρ=Ec e r s ch (some (.list (acc.map cR),true)) s8 s9) 1000000 (ao e.k2.toNat) [] _ ⟨none,none,rfl⟩ (by rw[aI,bO];omega)
  (fun d hd acc ρ ⟨u8,u9,eq⟩ hl=>by
   rw[aZ] at hd;have f:=(fw (d:Int) ⋯ ⋯).1;exact⟨_,_,by rw[eq];rfl,HM ok b m ⋯ hl,_,_,rfl⟩)
 rw[run,sD,cL h0,cL q0,cH,eB hr,h1,aa,h2,bN];rfl
end
noncomputable def CU (ar:Ar):Nat->Int->Int->Nat
 |0,_,_=>0
 |n+1,a,b=>(if a=b then 1 else 0)+(ar.map fun p=>if p.1=a then CU ar n p.2 b else 0).sum
noncomputable def FZ:Ar:=[(0,1),(0,2),(0,3),(1,2),(1,3),(2,3)]
noncomputable def Ba:Nat->List Ar
 |0=>[[]]
 |n+1=>[]::(Ba n).flatMap fun r=>FZ.map fun p=>p::r
noncomputable def Il:List Int:=[0,1,2,3]
noncomputable def HE:Bool:=(Ba 4).all fun ar=>Il.all fun a=>Il.all fun b=>decide (CU ar 4 a b<=4)
theorem F8:HE=true:=by decide +kernel
theorem FY {p:Int×Int}(h0:0<=p.1)(h1:p.1<p.2)(h2:p.2<4):p∈FZ:=by
 obtain⟨a,b⟩:=p;dsimp only at h0 h1 h2;have:(a=0/\b=1)\/(a=0/\b=2)\/(a=0/\b=3)\/(a=1/\b=2)\/(a=1/\b=3)\/(a=2/\b=3):=by omega
 rcases this with ⟨rfl,rfl⟩|⟨rfl,rfl⟩|⟨rfl,rfl⟩|⟨rfl,rfl⟩|⟨rfl,rfl⟩|⟨rfl,rfl⟩ <;> simp[FZ]
theorem C7:∀(n:Nat) (ar:Ar),ar.length<=n->(∀p∈ar,0<=p.1/\p.1<p.2/\p.2<4)->ar∈Ba n
 |0,[],_,_=>by simp[Ba]
 |0,p::ar,h,_=>by simp at h
 |n+1,[],_,_=>by simp[Ba]
 | n+1,p::ar,h,w=>by
  rw[Ba,bq];have wp:=w p (by simp);exact .inr (List.mem_flatMap.mpr ⟨ar,C7 n ar (by simpa using h) fun q hq=>w q (by simp[hq]),List.mem_map.mpr ⟨p,FY wp.1 wp.2.1 wp.2.2,rfl⟩⟩)
noncomputable def Fm (ar:Ar):Nat->Int->Int->List (List Nat)
 |0,_,_=>[]
 |n+1,a,b=>(if a=b then [[]] else [])++ar.zipIdx.flatMap fun p=>if p.1.1=a then (Fm ar n p.1.2 b).map fun q=>p.2::q else []
theorem z8 (ar:Ar):∀(n:Nat) (a b:Int),(Fm ar n a b).length=CU ar n a b
 |0,_,_=>rfl
 | n+1,a,b=>by
  have go:∀(l:Ar) (s:Nat),((l.zipIdx s).flatMap fun p=>if p.1.1=a then (Fm ar n p.1.2 b).map fun q=>p.2::q else []).length=(l.map fun p=>if p.1=a then CU ar n p.2 b else 0).sum:=fun l=>by
   induction l with
   |nil=>intro s;rfl
   |cons p l ih =>
    intro s;rw[JC,bM,aw,ih,az,List.sum_cons];congr 1;dsimp only;split
    ·rw[af,z8 ar n]
    ·rfl
  rw[Fm,CU,aw,go];congr 1;split <;> rfl
theorem Fj {ar:Ar}:∀(n:Nat) (p:List Nat) (a b:Int),p.length<n->dP ar a p->dH ar a p=b->p∈Fm ar n a b
 |0,_,_,_,h,_,_=>by omega
 | n+1,[],a,b,_,_,e=>by
  rw[pb] at e;subst e;rw[Fm,if_pos rfl];simp
 | n+1,i::p,a,b,h,⟨c,g1,g2,g3⟩,e=>by
  rw[fZ g1] at e;rw[Fm,List.mem_append];refine .inr (List.mem_flatMap.mpr ⟨(c,i),List.mem_zipIdx_iff_getElem?.mpr g1,?_⟩);dsimp only;rw[if_pos g2];exact List.mem_map.mpr ⟨p,Fj n p c.2 b (by simpa using h) g3 e,rfl⟩
theorem zl {α:Type}[DecidableEq α]:∀{l l':List α},l.Nodup->(∀x∈l,x∈l')->l.length<=l'.length
 |[],_,_,_=>bw _
 | a::l,l',n,h=>by
  rw[List.nodup_cons] at n;have ha:=h a (by simp);have:=zl (l:=l) (l':=l'.erase a) n.2 fun x hx=>(List.mem_erase_of_ne (fun (z:x=a)=>n.1 (z▸hx))).mpr (h x (by simp[hx]));rw[List.length_erase_of_mem ha] at this;have:=List.length_pos_of_mem ha;rw[aJ];omega
theorem xJ {k:Int}{ar:Ar}(w:Wf k ar)(h4:k<=4)(ha:ar.length<=4){kind other:Int}(h0:0<=kind)(h1:kind<k):(gn k ar kind other).length<=4:=by
 by_cases ho:0<=other/\other<4
 ·have l:=zl (l:=gn k ar kind other) (l':=Fm ar 4 kind other) sP fun p hp=>by
   obtain⟨c,e⟩:=(jv w h4 h0 h1).mp hp;have:=qh w h0 h1 c;exact Fj 4 p kind other ⋯ c e
  rw[z8] at l;have m:=C7 4 ar ha fun p hp=>by
   have:=w.ok p hp;omega
  have q:=List.all_eq_true.mp F8 ar m;have kin:∀{x:Int},0<=x->x<4->x∈Il:=fun {x} x0 x1=>by
   have:x=0\/x=1\/x=2\/x=3:=by omega
   rcases this with rfl|rfl|rfl|rfl <;> simp[Il]
  have q:=List.all_eq_true.mp (List.all_eq_true.mp q kind (kin h0 ⋯)) other (kin ho.1 ho.2);have:=of_decide_eq_true q;omega
 ·have:gn k ar kind other=[]:=by
   refine List.eq_nil_iff_forall_not_mem.mpr fun p hp=>ho ?_;obtain⟨c,e⟩:=(jv w h4 h0 h1).mp hp;have a:=pC w p kind c;have b:=pD w p kind c h1;omega
  rw[this];exact bw _
theorem o5 {α β:Type}{f:α->List β}{m:Nat}:∀{l:List α},(∀x∈l,(f x).length<=m)->(l.flatMap f).length<=l.length*m
 |[],_=>by simp
 | x::l,h=>by
  have a:=h x (by simp);have b:=o5 (l:=l) (f:=f) (m:=m) fun y hy=>h y (by simp[hy]);rw[bM,aw,aJ,Nat.succ_mul];omega
theorem GH {e:Sb}(ok:eC e)(k3:e.k1<=3)(a1:e.ar1.length<=5)(a2:e.ar2.length<=4)(r4:∀r∈e.rows,r<=4):nN e:=by
 intro d d0 d1;have rl:∀c:Int,(gI e.rows c).toNat<=4:=fun c=>by
  have:=j8 (m:=4) ⋯ r4 c;omega
 constructor
 ·have h:(cv e d).length<=(ao e.k1.toNat).length*16:=by
   unfold cv;refine o5 fun c hc=>?_;rw[aZ] at hc;have pk:=gi ok (c:=(c:Int)) ⋯ ⋯;refine bo (o5 (m:=4) fun p _=>?_) ?_
   ·rw[af,aI];exact rl _
   ·have:=xJ ok.w2 ok.h4 a2 (other:=d) pk.1 pk.2;omega
  rw[aI] at h;omega
 ·have h:(nB e d).length<=e.ar1.zipIdx.length*16:=by
   unfold nB;refine o5 fun p hp=>?_;have ha:=List.mem_zipIdx_iff_getElem?.mp hp;have wa:=ok.w1.ok p.1 (aA ha);have pk:=gi ok (c:=p.1.2) ⋯ wa.2.2;refine bo (o5 (m:=4) fun q _=>?_) ?_
   ·rw[af,aI];exact rl _
   ·have:=xJ ok.w2 ok.h4 a2 (other:=d) pk.1 pk.2;omega
  rw[b6] at h;omega
theorem Gs {rows:List Int}{steps:List (List Int)}{s1:Option Vl}{i:Nat}{x:Int}{s:List Int}(hs:steps[i]?=some s)(h0:0<=x)(h1:x<s.length) :
  kC [some (cp rows steps,false),s1,some (.int x,false),some (.int (i:Int),false)]=some (.next [some (cp rows steps,false),s1,some (.int (gI s x),false),some (.int (i:Int),false)]):=by
 simp[kC,cJ,d2,cC,cc,dC,sO,tU hs,gK h0 h1]
theorem Cb {k:Int}{ar:Ar}{rows:List Int}{steps:List (List Int)}{s1:Option Vl}(b:cV k ar rows steps):∀(p:List Nat) (kd x:Int) (z:Option Vl),dP ar kd p->0<=x->x<gI rows kd->∃z',
  eN (gN 3) kC (p.map my) [some (cp rows steps,false),s1,some (.int x,false),z]=some (.next [some (cp rows steps,false),s1,some (.int (ny steps p x),false),z'])
 |[],kd,x,z,_,_,_=>⟨z,rfl⟩
 | i::p,kd,x,z,⟨a,g1,g2,g3⟩,h0,h1=>by
  obtain⟨s,e1,e,l,m⟩:=i7 b g1;have h1':x<s.length:=by rw[l,g2];exact h1
  have:=m _ (iA h0 h1');obtain⟨z',q⟩:=Cb (s1:=s1) b p a.2 (gI s x) (some (.int (i:Int),false)) g3 this.1 this.2;refine⟨z',?_⟩;rw[az,eN];simp only[gN,bT,aa,my];rw[Gs e1 h0 h1',aa];dsimp only;rw[ny,e];exact q
theorem xh {k:Int}{ar:Ar}{rows:List Int}{steps:List (List Int)}(b:cV k ar rows steps){p:List Nat}{kd x:Int}(hp:dP ar kd p)(h0:0<=x)(h1:x<gI rows kd):kh [cp rows steps,cu p,.int x]=some (.int (ny steps p x),false):=by
 obtain⟨z,q⟩:=Cb (s1:=some (cu p,false)) b p kd x none hp h0 h1;have run:kh [cp rows steps,cu p,.int x]=(oq [some (cp rows steps,false),some (cu p,false),some (.int x,false),none]).bind eD:=rfl;have hi:(da (dY 1)) [some (cp rows steps,false),some (cu p,false),some (.int x,false),none]=some (p.map my):=by simp[da,dY,cu]
 rw[run,oq,cH,eh,hi,aa,q,aa];simp[dw,cj,eD]
theorem Ce {k2:Int}{ar2:Ar}{rows:List Int}{steps:List (List Int)}(b:cV k2 ar2 rows steps){p:List Nat}{kd:Int}(hc:dP ar2 kd p){n:Nat}(hn:n<(gI rows kd).toNat):kz [some (.int (n:Int),false),some (cp rows steps,false),some (cu p,false)]=some (.int (ny steps p (n:Int)),false):=by
 have:=xh b hc (x:=(n:Int)) ⋯ ⋯;simp[kz,cB,b7,cy,cj,this]
theorem xj {k k2 m:Int}{ar ar2:Ar}{pl:List Int}{ws:List (List Nat)}{rows:List Int}{steps:List (List Int)}(w:Wf k ar)(hk:k<=1000)(ha:ar.length<=1000)(s:lQ k ar k2 ar2 pl ws)(b:cV k2 ar2 rows steps)(hm0:0<=m)(hm:m<=1000000)(hr:∀r∈rows,r<=m) :
  iY [cg k ar,dE pl ws,cp rows steps]=some (cp (ft pl rows) (pG ar pl ws rows steps),false):=by
 have hl:=s.len;have run:iY [cg k ar,dE pl ws,cp rows steps]=(oD [some (cg k ar,false),some (dE pl ws,false),some (cp rows steps,false),none,none,none,none]).bind eD:=rfl;have q1:=eG (it:=da (fF (d2 cN (cc 1) (cC (dC (.int 0)))))) (n:=1) (ix:=[2]) (g:=gN 0) (e:=kA) (ρ:=[some (cg k ar,false),some (dE pl ws,false),some (cp rows steps,false),none,none,none,none]) (d:=PyData.int) (β:=fun x=>.int (gI rows x)) pl (by simp[da,fF,d2,cc,cC,dC,uV,cR,dS]) ⋯
  (fun v hv=>⟨_,false,rfl,by
   have hv':=s.nn v hv;have hb:=b.len;have:=gK (xs:=rows) hv'.1 ⋯;simp[kA,d2,cC,cc,dC,nK,eT,this]⟩)
 have q2:(cJ 3 (d1 dg (cC (dD (da (fF (d2 cN (cc 1) (cC (dC (.int 0)))))) 1 [2] (gN 0) fU kA)))) [some (cg k ar,false),some (dE pl ws,false),some (cp rows steps,false),none,none,none,none]=some (.next [some (cg k ar,false),some (dE pl ws,false),some (cp rows steps,false),some (cR (ft pl rows),false),none,none,none]):=by
  rw[cJ,d1,cC,q1];simp[dg,cR,ft,bg]
 have q3:(cJ 4 (df cy)) [some (cg k ar,false),some (dE pl ws,false),some (cp rows steps,false),some (cR (ft pl rows),false),none,none,none]=some (.next [some (cg k ar,false),some (dE pl ws,false),some (cp rows steps,false),some (cR (ft pl rows),false),some (.list (([]:List (List Int)).map cR),true),none,none]):=by simp[cJ,df,cy]
 have q4:(oZ (fF (d2 cN (cc 0) (cC (dC (.int 1))))) (fF (d2 cN (cc 1) (cC (dC (.int 1)))))) [some (cg k ar,false),some (dE pl ws,false),some (cp rows steps,false),some (cR (ft pl rows),false),some (.list (([]:List (List Int)).map cR),true),none,none]=some ((ar.zip ws).map fun q=>.tuple [cM q.1,cu q.2]):=by
  rw[<-oH];simp[oZ,fF,d2,cc,cC,dC,x8,kr,tP,dS]
 have hz:=s.wl;obtain⟨ρ',l,u,v,e⟩:=lE (g:=gT [gN 5,gN 6]) (b:=mS) (d:=fun q:(Int×Int)×List Nat=>.tuple [cM q.1,cu q.2]) (f:=lP pl rows steps)
  (P:=fun acc ρ=>∃u v,ρ=[some (cg k ar,false),some (dE pl ws,false),some (cp rows steps,false),some (cR (ft pl rows),false),some (.list (acc.map cR),true),u,v]) 1000 (ar.zip ws) [] _ ⟨none,none,rfl⟩ (by rw[bG];simp;omega)
  (fun q hq acc ρ ⟨u,v,e⟩ ha=>by
   subst e;refine⟨_,_,rfl,?_,some (cM q.1,false),some (cu q.2,false),rfl⟩;obtain⟨hq1,hq2,hc,_⟩:=uP s hq;have wa:=w.ok _ hq1;have g0:gI (ft pl rows) q.1.1=gI rows (gI pl q.1.1):=vF wa.1 ⋯;have n0:=iz b.nn (gI pl q.1.1);have n1:=j8 hm0 hr (gI pl q.1.1);have i1:=gK (xs:=ft pl rows) (i:=q.1.1) wa.1 (by unfold ft;rw[af];omega);rw[g0] at i1;have c:=eG (it:=cS (d2 cN (cc 3) (cC (d2 cN (cc 5) (cC (dC (.int 0))))))) (n:=1) (ix:=[2,6]) (g:=gN 0) (e:=kz) (ρ:=[some (cg k ar,false),some (dE pl ws,false),some (cp rows steps,false),some (cR (ft pl rows),false),some (.list (acc.map cR),true),some (cM q.1,false),some (cu q.2,false)]) (d:=fun (n:Nat)=>.int (n:Int)) (β:=fun (n:Nat)=>.int (ny steps q.2 (n:Int))) (ao (gI rows (gI pl q.1.1)).toNat)
    (by rw[<-dA];exact dI (o:=false) (by simp[d2,cc,cC,dC,lU,i1]) n0 ⋯) (by rw[aI];omega)
    (fun n hn=>⟨_,false,rfl,Ce b hc (List.mem_range.mp hn)⟩)
   have hs:acc.length<sizeLine:=zk ⋯;rw[mS,ik,d1,cC];simp only[og,gN,bT];rw[c];simp[dg,lY,hs,lP,cR])
 subst e;rw[run,oD,cL q2,cL q3,cH,eB q4,l,aa];simp[dw,eK,b7,cy,cj,d1,cc,dg,Bf,eD,cp,pG]
theorem G9 {rows:List Int}{steps:List (List Int)}{s1:Option Vl}{i:Nat}{x:Int}{s:List Int}(hs:steps[i]?=some s)(h0:0<=x)(h1:x<s.length) :
  qW [some (cp rows steps,false),s1,some (.int x,false),some (.int (i:Int),false)]=some (.next [some (cp rows steps,false),s1,some (.int (gI s x),false),some (.int (i:Int),false)]):=by
 simp[qW,cJ,d2,cC,cc,dC,sO,tU hs,gK h0 h1]
theorem EU {k:Int}{ar:Ar}{rows:List Int}{steps:List (List Int)}{s1:Option Vl}(b:cV k ar rows steps):∀(p:List Nat) (kd x:Int) (z:Option Vl),dP ar kd p->0<=x->x<gI rows kd->∃z',
  eN (gN 3) qW (p.map my) [some (cp rows steps,false),s1,some (.int x,false),z]=some (.next [some (cp rows steps,false),s1,some (.int (ny steps p x),false),z'])
 |[],kd,x,z,_,_,_=>⟨z,rfl⟩
 | i::p,kd,x,z,⟨a,g1,g2,g3⟩,h0,h1=>by
  obtain⟨s,e1,e,l,m⟩:=i7 b g1;have h1':x<s.length:=by rw[l,g2];exact h1
  have:=m _ (iA h0 h1');obtain⟨z',q⟩:=EU (s1:=s1) b p a.2 (gI s x) (some (.int (i:Int),false)) g3 this.1 this.2;refine⟨z',?_⟩;rw[az,eN];simp only[gN,bT,aa,my];rw[G9 e1 h0 h1',aa];dsimp only;rw[ny,e];exact q
theorem zj {k:Int}{ar:Ar}{rows:List Int}{steps:List (List Int)}(b:cV k ar rows steps){p:List Nat}{kd x:Int}(hp:dP ar kd p)(h0:0<=x)(h1:x<gI rows kd):oE [cp rows steps,cu p,.int x]=some (.int (ny steps p x),false):=by
 obtain⟨z,q⟩:=EU (s1:=some (cu p,false)) b p kd x none hp h0 h1;have run:oE [cp rows steps,cu p,.int x]=(yQ [some (cp rows steps,false),some (cu p,false),some (.int x,false),none]).bind eD:=rfl;have hi:(da (dY 1)) [some (cp rows steps,false),some (cu p,false),some (.int x,false),none]=some (p.map my):=by simp[da,dY,cu]
 rw[run,yQ,cH,eh,hi,aa,q,aa];simp[dw,cj,eD]
noncomputable def fH (ch:List (List Int)):D:=.tuple (ch.map cR)
theorem B9 (ch:List (List Int)):Nb 2 (fH ch):=.tuple (jM B7 ch)
theorem GP {xs:List Int}(h:xs.length<=1000000):iB [some (cR xs,false)]=some (.bool true,false):=by
 simp[iB,cB,b7,cy,cj,n5 h]
theorem CY {ch:List (List Int)}(hl:ch.length<=1000000)(hs:∀s∈ch,s.length<=1000000):eo [fH ch,fH ch]=some (.bool true,false):=by
 have run:eo [fH ch,fH ch]=(mN [some (fH ch,false),some (fH ch,false)]).bind eD:=rfl;have a1:jA "tuple" (fH ch)=some (.bool true,false):=rfl;have c:=eG (it:=da (dY 0)) (n:=1) (ix:=[]) (g:=gN 0) (e:=iB) (ρ:=[some (fH ch,false),some (fH ch,false)]) (d:=cR) (β:=fun _=>.bool true) ch (by simp[da,dY,fH]) hl
  (fun x hx=>⟨_,false,rfl,GP (hs x hx)⟩)
 have e3:=pF (B9 ch);have a2:(d1 pZ (cC (dD (da (dY 0)) 1 [] (gN 0) fU iB))) [some (fH ch,false),some (fH ch,false)]=some (.bool true,false):=by
  rw[d1,cC,c,av,aa,qj]
 rw[run,mN,dw,tL,d1,cc];simp[a1,tM,tL,a2,sH,de,tChain,cc,e3,eD]
theorem xc {pl:List Int}{ws:List (List Nat)}{ch:List (List Int)}(hl:pl.length<=1000)(hp:∀x∈pl,0<=x/\x<ch.length):gp [dE pl ws,fH ch]=some (fH (pl.map (gC ch)),false):=by
 have run:gp [dE pl ws,fH ch]=(oo [some (dE pl ws,false),some (fH ch,false)]).bind eD:=rfl;have c:=eG (it:=da (fF (d2 cN (cc 0) (cC (dC (.int 0)))))) (n:=1) (ix:=[1]) (g:=gN 0) (e:=mH) (ρ:=[some (dE pl ws,false),some (fH ch,false)]) (d:=PyData.int) (β:=fun x=>cR (gC ch x)) pl (by simp[da,fF,d2,cc,cC,dC,uV,cR,dS]) ⋯
  (fun v hv=>⟨[some (.int v,false),some (fH ch,false)],false,rfl,by
   have:=z7 (hp v hv).1 (hp v hv).2;have e:cN (fH ch) (.int v)=some (cR (gC ch v),false):=this;simp[mH,d2,cc,e]⟩)
 rw[run,oo,dw,d1,cC,c];simp[dg,eD,fH,bg]
theorem nC {k k2:Int}{ar ar2:Ar}{pl:List Int}{ws:List (List Nat)}{rows:List Int}{steps:List (List Int)}(w:Wf k ar)(hk:k<=4)(ha:ar.length<=5)(s:lQ k ar k2 ar2 pl ws)(b:cV k2 ar2 rows steps)(hr:∀r∈rows,r<=200) :
  fT [cg k ar,dE pl ws,cp rows steps]=some (cp (ft pl rows) (pG ar pl ws rows steps),false):=by
 have run:fT [cg k ar,dE pl ws,cp rows steps]=(lI [some (cg k ar,false),some (dE pl ws,false),some (cp rows steps,false),none,none,none,none]).bind eD:=rfl;have hl:=s.len;have hbl:=b.len;have c1:=eG (it:=da (fF (d2 cN (cc 1) (cC (dC (.int 0)))))) (n:=1) (ix:=[2]) (g:=gN 0) (e:=jb) (ρ:=[some (cg k ar,false),some (dE pl ws,false),some (cp rows steps,false),none,none,none,none]) (d:=PyData.int) (β:=fun x=>.int (gI rows x)) pl (by simp[da,fF,d2,cc,cC,dC,uV,cR,dS]) ⋯
  (fun v hv=>⟨[some (.int v,false),some (cp rows steps,false)],false,rfl,by
   have:=s.nn v hv;have:=gK (xs:=rows) this.1 ⋯;simp[jb,d2,cC,cc,dC,nK,this]⟩)
 have q1:(cJ 3 (d1 dg (cC (dD (da (fF (d2 cN (cc 1) (cC (dC (.int 0)))))) 1 [2] (gN 0) fU jb)))) [some (cg k ar,false),some (dE pl ws,false),some (cp rows steps,false),none,none,none,none]=some (.next [some (cg k ar,false),some (dE pl ws,false),some (cp rows steps,false),some (cR (ft pl rows),false),none,none,none]):=by
  rw[cJ,d1,cC,c1];simp[dg,cR,ft,bg]
 have q2:(cJ 4 (df cy)) [some (cg k ar,false),some (dE pl ws,false),some (cp rows steps,false),some (cR (ft pl rows),false),none,none,none]=some (.next [some (cg k ar,false),some (dE pl ws,false),some (cp rows steps,false),some (cR (ft pl rows),false),some (.list (([]:List (List Int)).map cR),true),none,none]):=by simp[cJ,df,cy]
 have q3:(oZ (fF (d2 cN (cc 0) (cC (dC (.int 1))))) (fF (d2 cN (cc 1) (cC (dC (.int 1)))))) [some (cg k ar,false),some (dE pl ws,false),some (cp rows steps,false),some (cR (ft pl rows),false),some (.list (([]:List (List Int)).map cR),true),none,none]=some ((ar.zip ws).map fun p=>.tuple [cM p.1,cu p.2]):=by
  rw[<-oH];simp[oZ,fF,d2,cc,cC,dC,kr,x8,tP,dS]
 obtain⟨ρ',e,x,y,e'⟩:=lE (g:=gT [(gN 5),(gN 6)]) (b:=kM) (d:=fun (p:(Int×Int)×List Nat)=>.tuple [cM p.1,cu p.2]) (f:=lP pl rows steps) (P:=fun acc ρ=>∃x y,ρ=[some (cg k ar,false),some (dE pl ws,false),some (cp rows steps,false),some (cR (ft pl rows),false),some (.list (acc.map cR),true),x,y]) 1000 (ar.zip ws) [] _ ⟨none,none,rfl⟩ (by rw[bG];simp;omega)
  (fun q hq acc ρ ⟨x,y,e⟩ hn=>⟨[some (cg k ar,false),some (dE pl ws,false),some (cp rows steps,false),some (cR (ft pl rows),false),some (.list (acc.map cR),true),some (cM q.1,false),some (cu q.2,false)],_,by rw[e];rfl,by
   obtain⟨h1,h2,h3,h4⟩:=uP s hq;have wa:=w.ok _ h1;have i1:=gK (xs:=ft pl rows) (i:=q.1.1) wa.1 (by unfold ft;rw[af];omega);have g1:gI (ft pl rows) q.1.1=gI rows (gI pl q.1.1):=vF wa.1 ⋯;have n0:=iz b.nn (gI pl q.1.1);have n1:=j8 (m:=200) (by decide) hr (gI pl q.1.1);rw[g1] at i1;have c:=eG (it:=cS (d2 cN (cc 3) (cC (d2 cN (cc 5) (cC (dC (.int 0))))))) (n:=1) (ix:=[2,6]) (g:=gN 0) (e:=kJ) (ρ:=[some (cg k ar,false),some (dE pl ws,false),some (cp rows steps,false),some (cR (ft pl rows),false),some (.list (acc.map cR),true),some (cM q.1,false),some (cu q.2,false)]) (d:=fun (x:Nat)=>.int (x:Int)) (β:=fun (x:Nat)=>.int (ny steps q.2 (x:Int))) (ao (gI rows (gI pl q.1.1)).toNat)
    (by rw[<-dA];exact dI (o:=false) (by simp[d2,cc,cC,dC,lU,i1]) n0 ⋯) (by rw[aI];omega)
    (fun x hx=>⟨[some (.int (x:Int),false),some (cp rows steps,false),some (cu q.2,false)],false,rfl,by
     rw[aZ] at hx;have:=zj b h3 (x:=(x:Int)) ⋯ ⋯;simp[kJ,cB,b7,cy,cj,this]⟩)
   have hz:acc.length<sizeLine:=zk ⋯;rw[kM,ik,d1,cC,c];simp[dg,lY,hz];rfl,some (cM q.1,false),some (cu q.2,false),by simp[lP,cR]⟩)
 rw[run,lI,cL q1,cL q2,cH,eB q3,e,aa,e'];simp[dw,eK,b7,cy,cj,d1,cc,dg,Bf,eD,cp,pG]
section
variable {e:Sb}{r2:List Int}{s2 ch:List (List Int)}
noncomputable def Di (e:Sb)(r2:List Int)(s2 ch:List (List Int))(s6 s7:Option Vl):Sl:=[some (oK e,false),some (sU e,false),some (nD e,false),some (ng e,false),some (cp r2 s2,false),some (.tuple (ch.map cR),false),s6,s7]
noncomputable def HA (e:Sb)(s2 ch:List (List Int))(d:Nat):List Int:=(fs e (d:Int)).map fun t=>ny s2 t.2.1 (gI (gC ch t.1) t.2.2)
theorem Hz (ok:eC e)(b2:cV e.k2 e.ar2 r2 s2)(m:cZ e.k1 e.rows (bR e r2) ch){d:Nat}{acc:List (List Int)}(hz:(cv e (d:Int)).length<1000000)(hn:acc.length<1000000) :
  nh (Di e r2 s2 ch (some (.list (acc.map cR),true)) (some (.dict (eJ e (d:Int)),false)))=some (.next (Di e r2 s2 ch (some (.list ((acc++[HA e s2 ch d]).map cR),true)) (some (.dict (eJ e (d:Int)),false)))):=by
 have fl:=yI e (d:Int);have hr:(da (fF (cB cW (b7 (cj 7) cy)))) (Di e r2 s2 ch (some (.list (acc.map cR),true)) (some (.dict (eJ e (d:Int)),false)))=some ((fs e (d:Int)).map cX):=by
  show ((cW [.dict (eJ e (d:Int))]).bind fun x=>dS x.1)=_;rw[o8 ok hz];rfl
 have c:=eG (it:=da (fF (cB cW (b7 (cj 7) cy)))) (n:=3) (ix:=[4,5]) (g:=gT [gN 0,gN 1,gN 2]) (e:=mZ) (ρ:=Di e r2 s2 ch (some (.list (acc.map cR),true)) (some (.dict (eJ e (d:Int)),false))) (d:=cX) (β:=fun t=>.int (ny s2 t.2.1 (gI (gC ch t.1) t.2.2))) (fs e (d:Int)) hr ⋯ (fun t ht=>by
  have it:=vG ok ht;have hl:=m.len;obtain⟨rl,rm⟩:=m.row t.1 it.c0 it.c1;have i1:=CW (ch:=ch) it.c0 (by have:=it.c1;omega);have i2:=gK (xs:=gC ch t.1) (i:=t.2.2) it.x0 (by have:=it.x1;omega);have mx:=m.at_ it.c0 it.c1 it.x0 it.x1;rw[qA ok it.c0 it.c1] at mx;have wq:=zj b2 it.ch mx.1 mx.2;refine⟨[some (.int t.1,false),some (cu t.2.1,false),some (.int t.2.2,false),some (cp r2 s2,false),some (.tuple (ch.map cR),false)],false,rfl,?_⟩;have q1:(d2 cN (cC (d2 cN (cc 4) (cc 0))) (cc 2)) [some (.int t.1,false),some (cu t.2.1,false),some (.int t.2.2,false),some (cp r2 s2,false),some (.tuple (ch.map cR),false)]=some (.int (gI (gC ch t.1) t.2.2),false):=by
   show ((((cN (.tuple (ch.map cR)) (.int t.1)).map (·.1))).bind fun x=>cN x (.int t.2.2))=_;rw[i1];exact i2
  rw[mZ,cB,b7,b7,b7,q1];exact wq)
 have q:(d1 dg (cC (dD (da (fF (cB cW (b7 (cj 7) cy)))) 3 [4,5] (gT [(gN 0),(gN 1),(gN 2)]) fU mZ))) (Di e r2 s2 ch (some (.list (acc.map cR),true)) (some (.dict (eJ e (d:Int)),false)))=some (cR (HA e s2 ch d),false):=by
  rw[d1,cC,c,av,aa];unfold HA cR;rw[bg];rfl
 have hz':(acc.map cR).length<sizeLine:=zk (by rw[af];exact hn);rw[nh,ik,q,aa];show ((if (acc.map cR).length<sizeLine then some (acc.map cR++[cR (HA e s2 ch d)]) else none).map fun ys=>Fl.next _)=_;rw[if_pos hz',aX];rfl
theorem pU (ok:eC e)(sm:pJ e)(fw:nN e)(b2:cV e.k2 e.ar2 r2 s2)(m:cZ e.k1 e.rows (bR e r2) ch):fM [oK e,sU e,nD e,ng e,cp r2 s2,.tuple (ch.map cR)]=some (.tuple ((lu e s2 ch).map cR),false):=by
 have k0:=ok.w2.lo;have k4:=ok.h4;have run:fM [oK e,sU e,nD e,ng e,cp r2 s2,.tuple (ch.map cR)]=(sC [some (oK e,false),some (sU e,false),some (nD e,false),some (ng e,false),some (cp r2 s2,false),some (.tuple (ch.map cR),false),none,none]).bind eD:=rfl;have h0:(cJ 6 (df cy)) [some (oK e,false),some (sU e,false),some (nD e,false),some (ng e,false),some (cp r2 s2,false),some (.tuple (ch.map cR),false),none,none]=some (.next (Di e r2 s2 ch (some (.list (([]:List (List Int)).map cR),true)) none)):=by simp[cJ,df,cy,FP,Di]
 have hr:(da (fF (cB dF (b7 (cj 0) (b7 (cj 1) (b7 (cj 2) (b7 (cj 3) cy))))))) (Di e r2 s2 ch (some (.list (([]:List (List Int)).map cR),true)) none)=some ((ao e.k2.toNat).map fun (d:Nat)=>.dict (eJ e (d:Int))):=by
  have c:(cB dF (b7 (cj 0) (b7 (cj 1) (b7 (cj 2) (b7 (cj 3) cy))))) (Di e r2 s2 ch (some (.list (([]:List (List Int)).map cR),true)) none)=some (xA e,true):=pM ok sm fw;rw[da,fF,c];rfl
 obtain⟨ρ',h1,t8,h2⟩:=lE (g:=gN 7) (b:=nh) (d:=fun (d:Nat)=>.dict (eJ e (d:Int))) (f:=HA e s2 ch) (P:=fun acc ρ=>∃s7,ρ=Di e r2 s2 ch (some (.list (acc.map cR),true)) s7) 1000000 (ao e.k2.toNat) [] _ ⟨none,rfl⟩ (by rw[aI,bO];omega)
  (fun d hd acc ρ ⟨u8,eq⟩ hl=>by
   rw[aZ] at hd;have f:=(fw (d:Int) ⋯ ⋯).1;exact⟨_,_,by rw[eq];rfl,Hz ok b2 m ⋯ hl,_,rfl⟩)
 rw[run,sC,cL h0,cH,eB hr,h1,aa,h2,bN];rfl
end
noncomputable def hJ (there back:List (List Int)):List (List Int):=there.zipIdx.map fun p=>p.1.map (gI (gC back (p.2:Int)))
def Ie (there back:List (List Int)):Prop:=there.length=back.length/\∀(i:Nat) (row:List Int),there[i]?=some row->∀x∈row,0<=x/\x<((gC back (i:Int)).length:Int)
structure Sm (N:Nat)(ch:List (List Int)):Prop where
 len:ch.length<=N
 row:∀s∈ch,s.length<=N
theorem IT {α:Type}{xs:List α}{i:Nat}{d x:α}(h:xs[i]?=some x):xs.getD i d=x:=by rw[ag,h];rfl
theorem qH {there back:List (List Int)}(f:Ie there back)(h1:Sm 1000 there)(h2:Sm 1000 back):fC [kc there,kc back]=some (kc (hJ there back),false):=by
 have run:fC [kc there,kc back]=(yS [some (kc there,false),some (kc back,false)]).bind eD:=rfl;have fl:=f.1;have tl:=h1.len;have c:=eG (it:=oZ (dY 0) (dY 1)) (n:=2) (ix:=[]) (g:=gT [(gN 0),(gN 1)]) (e:=vI) (ρ:=[some (kc there,false),some (kc back,false)]) (d:=fun (p:List Int×List Int)=>.tuple [cR p.1,cR p.2]) (β:=fun p=>cR (p.1.map (gI p.2))) (there.zip back)
  (by rw[<-oH];simp[oZ,dY,kc]) (by rw[bG];omega)
  (fun p hp=>⟨[some (cR p.1,false),some (cR p.2,false)],false,rfl,by
   obtain⟨i,hi⟩:=bX hp;rw[JS] at hi;have gb:gC back (i:Int)=p.2:=by
    unfold gC;rw[aW];exact IT hi.2
   have fx:=f.2 i p.1 hi.1;rw[gb] at fx;have hr:=h1.row _ (aA hi.1);have c:=eG (it:=da (dY 0)) (n:=1) (ix:=[1]) (g:=gN 0) (e:=vJ) (ρ:=[some (cR p.1,false),some (cR p.2,false)]) (d:=PyData.int) (β:=fun x=>.int (gI p.2 x)) p.1 rfl ⋯
    (fun x hx=>⟨[some (.int x,false),some (cR p.2,false)],false,rfl,by
     have:=gK (fx x hx).1 (fx x hx).2;simp[vJ,d2,cc,this]⟩)
   rw[vI,d1,cC,c];simp[dg,cR,bg]⟩)
 have e:(there.zip back).map (fun p=>p.1.map (gI p.2))=hJ there back:=by
  unfold hJ;refine bF fun i=>?_;rw[au,au];by_cases hi:i<there.length
  ·have e1:=aj hi;have e2:=aj (show i<back.length by omega);have e3:=mY (ch:=back) (i:=(i:Int)) ⋯ ⋯;rw[aW] at e3;rw[show (there.zip back)[i]?=some (there[i],gC back (i:Int)) from List.getElem?_zip_eq_some.mpr ⟨e1,e3⟩,bJ,e1];simp
  ·rw[aU (by rw[bG];omega),aU (by rw[b6];omega)];rfl
 rw[run,yS,dw,d1,cC,c,<-e];simp[dg,eD,kc,bg]
section
variable {k:Int}{r1 r2 r3:List Int}{a b:List (List Int)}
theorem wx {c:Int}(c0:0<=c)(c1:c<a.length):gC (hJ a b) c=(gC a c).map (gI (gC b c)):=by
 have h:=mY (ch:=a) c0 c1;unfold hJ
 conv=>lhs;unfold gC
 rw[ag,au,bJ,h,bE];show (gC a c).map (gI (gC b ((c.toNat:Nat):Int)))=_;rw[show ((c.toNat:Nat):Int)=c by omega]
theorem qI (h1:cZ k r1 r2 a){c x:Int}(c0:0<=c)(c1:c<k)(x0:0<=x)(x1:x<gI r1 c):gI (gC (hJ a b) c) x=gI (gC b c) (gI (gC a c) x):=by
 have l:=h1.len;have q:=(h1.row c c0 c1).1;rw[wx c0 ⋯];exact vF x0 ⋯
theorem k9 (h1:cZ k r1 r2 a)(h2:cZ k r2 r3 b):cZ k r1 r3 (hJ a b):=by
 have l:=h1.len;refine⟨by unfold hJ;rw[af,b6];exact l,fun i i0 i1=>?_⟩;rw[wx i0 ⋯,af];obtain⟨q1,q2⟩:=h1.row i i0 i1;obtain⟨p1,p2⟩:=h2.row i i0 i1;refine⟨q1,fun x hx=>?_⟩;obtain⟨y,hy,rfl⟩:=List.mem_map.mp hx;have:=q2 y hy;exact p2 _ (iA this.1 ⋯)
theorem oM (h1:cZ k r1 r2 a)(h2:cZ k r2 r3 b):Ie a b:=by
 have l1:=h1.len;have l2:=h2.len;refine⟨by omega,fun i row h x hx=>?_⟩;have hi:=(List.getElem?_eq_some_iff.mp h).1;have e:gC a (i:Int)=row:=by unfold gC;rw[aW,ag,h];rfl
 have q:=(h1.row (i:Int) ⋯ ⋯).2;have p:=(h2.row (i:Int) ⋯ ⋯).1;rw[e] at q;have:=q x hx;omega
theorem iE (h:cZ k r1 r2 a)(hk:k<=4)(hr:∀r∈r1,r<=1000):Sm 1000 a:=by
 have l:=h.len;refine⟨by omega,fun s hs=>?_⟩;obtain⟨i,hi⟩:=bX hs;have hl:=(List.getElem?_eq_some_iff.mp hi).1;have e:gC a (i:Int)=s:=by unfold gC;rw[aW,ag,hi];rfl
 have q:=(h.row (i:Int) ⋯ ⋯).1;have:=j8 (m:=1000) ⋯ hr (i:Int);rw[e] at q;omega
end
section
variable {e:Sb}{r3 r4 r:List Int}{t3 t4 t ch al ah:List (List Int)}
theorem w9 (ok:eC e)(ma:cZ e.k2 r3 r4 al):cZ e.k1 (bR e r3) (bR e r4) (e.pl.map (gC al))/\∀c:Int,0<=c->c<e.k1->gC (e.pl.map (gC al)) c=gC al (gI e.pl c):=by
 have hl:=ok.s.len;have g:∀c:Int,0<=c->c<e.k1->gC (e.pl.map (gC al)) c=gC al (gI e.pl c):=fun c c0 c1=>by
  have h:=mX (xs:=e.pl) c0 ⋯;show (e.pl.map (gC al)).getD c.toNat []=_;rw[ag,au,h];rfl
 refine⟨⟨by rw[af];exact hl,fun c c0 c1=>?_⟩,g⟩;have pk:=gi ok c0 c1;rw[g c c0 c1,qA ok c0 c1,qA ok c0 c1];exact ma.row _ pk.1 pk.2
theorem HL (ok:eC e)(b3:cV e.k2 e.ar2 r3 t3)(b4:cV e.k2 e.ar2 r4 t4)(m:fQ e.k1 e.ar1 e.rows e.steps (bR e r3) (bS e r3 t3) ch)(ma:fQ e.k2 e.ar2 r3 t3 r4 t4 al) :
  cZ e.k1 e.rows (bR e r4) (hJ ch (e.pl.map (gC al)))/\hJ (lu e t3 ch) al=lu e t4 (hJ ch (e.pl.map (gC al))):=by
 obtain⟨mb,mg⟩:=w9 ok ma.c;have hc:=k9 m.c mb;have hp:∀c:Int,0<=c->c<e.k1->∀x:Int,0<=x->x<gI e.rows c->gI (gC (hJ ch (e.pl.map (gC al))) c) x=gI (gC al (gI e.pl c)) (gI (gC ch c) x):=fun c c0 c1 x x0 x1=>by
  rw[qI m.c c0 c1 x0 x1,mg c c0 c1]
 refine⟨hc,uv (k9 (gA ok b3 m.c) ma.c) (gA ok b4 hc) fun d d0 d1 x x0 x1=>?_⟩;obtain⟨u,hu,rfl⟩:=Fo ok d0 d1 x0 x1;rw[qI (gA ok b3 m.c) d0 d1 x0 x1,Az ok b3 m ma hc hp d0 d1 hu]
theorem HK (ok:eC e)(b:cV e.k1 e.ar1 r t)(b3:cV e.k2 e.ar2 r3 t3)(ma:fQ e.k1 e.ar1 e.rows e.steps r t ah)(m:fQ e.k1 e.ar1 r t (bR e r3) (bS e r3 t3) ch) :
  cZ e.k1 e.rows (bR e r3) (hJ ah ch)/\hJ (mq e r t ah) (lu (e.bk r t) t3 ch)=lu e t3 (hJ ah ch):=by
 have hc:=k9 ma.c m.c;have hp:∀c:Int,0<=c->c<e.k1->∀x:Int,0<=x->x<gI e.rows c->gI (gC (hJ ah ch) c) x=gI (gC ch c) (gI (gC ah c) x):=fun c c0 c1 x x0 x1=>qI ma.c c0 c1 x0 x1;have m':=DH ok.w1 ma m ok.b hc hp;have oc:=gA (e:=e.bk r t) (ok.bk b) b3 m.c;refine⟨hc,uv (k9 (rL ok b ma.c) oc) (gA ok b3 hc) fun d d0 d1 x x0 x1=>?_⟩;obtain⟨u,hu,rfl⟩:=Fo ok d0 d1 x0 x1;rw[qI (rL ok b ma.c) d0 d1 x0 x1,F5 ok b ma m m' hp d0 d1 hu]
end
theorem rX (x y:D):cN (.list [x,y]) (.int 0)=some (x,false):=rfl
theorem yx (x y:D):cN (.list [x,y]) (.int 1)=some (y,false):=rfl
theorem E8 (xs:List D):xG (.tuple xs) .none=some false:=rfl
theorem Gh (xs:List D):uz (.tuple xs) .none=some true:=rfl
theorem E9:xG .none .none=some true:=rfl
theorem Gi:uz .none .none=some false:=rfl
theorem Eo {scr S T Sh B1 B2 O1 O2 K1 K2:D}{x16 x17 x18:Int}(f1:fj [scr,.int 0,.int 2,.int 2]=some (S,false))(f2:fj [scr,.int 3,.int 3,.int 2]=some (T,false))(f3:gu [scr,.int 6,S,T]=some (Sh,false))
  (f4:dM [scr,.int 8,S,.int 2]=some (B1,false)) (f5:dM [scr,.int 10,S,.int 2]=some (B2,false)) (f6:dM [scr,.int 12,T,.int 2]=some (O1,false)) (f7:dM [scr,.int 14,T,.int 2]=some (O2,false))
  (g1:fT [S,Sh,O1]=some (K1,false)) (g2:fT [S,Sh,O2]=some (K2,false)) (p1:iY [S,Sh,O1]=some (K1,false)) (p2:iW [K1,K1]=some (.bool true,false))
  (c16:cK [scr,.int 16]=some (.int x16,false)) (c17:cK [scr,.int 17]=some (.int x17,false)) (c18:cK [scr,.int 18]=some (.int x18,false))
  (h:dB [S,B1,K1,.int x16]=some (.none,false)\/∃ch Ou,dB [S,B1,K1,.int x16]=some (.tuple ch,false)/\fM [S,T,Sh,B1,O1,.tuple ch]=some (Ou,false) ∧
   (dB [T,O1,O2,.int x17]=some (.none,false)\/∃al mb sb du,dB [T,O1,O2,.int x17]=some (.tuple al,false)/\gp [Sh,.tuple al]=some (mb,false)/\fC [.tuple ch,mb]=some (sb,false)/\fM [S,T,Sh,B1,O2,sb]=some (du,false)/\fC [Ou,.tuple al]=some (du,false)/\eo [du,du]=some (.bool true,false)) ∧
   (dB [S,B2,B1,.int x18]=some (.none,false)\/∃ah on sb du,dB [S,B2,B1,.int x18]=some (.tuple ah,false)/\jy [S,T,Sh,B2,B1,.tuple ah]=some (on,false)/\fC [.tuple ah,.tuple ch]=some (sb,false)/\fM [S,T,Sh,B2,O1,sb]=some (du,false)/\fC [on,Ou]=some (du,false)/\eo [du,du]=some (.bool true,false))) :
  F_law [scr]=some (.bool true,false):=by
 suffices q:zZ [some (scr,false),none,none,none,none,none,none,none,none,none,none,none,none]=some (.ret (.bool true,false)) by
  have run:F_law [scr]=(zZ [some (scr,false),none,none,none,none,none,none,none,none,none,none,none,none]).bind eD:=rfl;rw[run,q];rfl
 unfold zZ;refine (cL (ρ':=[some (scr,false),some (S,false),none,none,none,none,none,none,none,none,none,none,none]) (by simp[cJ,cB,b7,cy,cj,dC,f1])).trans ?_;refine (cL (ρ':=[some (scr,false),some (S,false),some (T,false),none,none,none,none,none,none,none,none,none,none]) (by simp[cJ,cB,b7,cy,cj,dC,f2])).trans ?_;refine (cL (ρ':=[some (scr,false),some (S,false),some (T,false),some (Sh,false),none,none,none,none,none,none,none,none,none]) (by simp[cJ,cB,b7,cy,cj,dC,f3])).trans ?_;refine (cL (ρ':=[some (scr,false),some (S,false),some (T,false),some (Sh,false),some (.list [B1,B2],false),none,none,none,none,none,none,none,none]) (by simp[gf,cJ,df,cB,b7,cy,cj,dC,f4,f5,Bf,share])).trans ?_;refine (cL (ρ':=[some (scr,false),some (S,false),some (T,false),some (Sh,false),some (.list [B1,B2],false),some (.list [O1,O2],false),none,none,none,none,none,none,none]) (by simp[gf,cJ,df,cB,b7,cy,cj,dC,f6,f7,Bf,share])).trans ?_;have cb:=eG (it:=da (dY 5)) (n:=1) (ix:=[1,3]) (g:=gN 0) (e:=vK) (ρ:=[some (scr,false),some (S,false),some (T,false),some (Sh,false),some (.list [B1,B2],false),some (.list [O1,O2],false),none,none,none,none,none,none,none]) (d:=fun (p:D×D)=>p.1) (β:=fun p=>p.2) [(O1,K1),(O2,K2)] rfl (by simp)
  (fun p hp=>by
   rcases List.mem_cons.mp hp with rfl|hp
   ·exact⟨[some (O1,false),some (S,false),some (Sh,false)],false,rfl,by simp[vK,cB,b7,cy,cj,g1]⟩
   ·cases List.mem_singleton.mp hp;exact⟨[some (O2,false),some (S,false),some (Sh,false)],false,rfl,by simp[vK,cB,b7,cy,cj,g2]⟩)
 refine (cL (ρ':=[some (scr,false),some (S,false),some (T,false),some (Sh,false),some (.list [B1,B2],false),some (.list [O1,O2],false),some (.list [K1,K2],false),none,none,none,none,none,none]) (by rw[gf,cJ,cb];rfl)).trans ?_;refine (ib (by simp[gv,lX,cB,b7,cy,cj,d2,cc,cC,dC,rX,p1,p2,tM])).trans ?_;rcases h with h|⟨ch,Ou,h,ho,hA,hB⟩
 ·refine (cL (ρ':=[some (scr,false),some (S,false),some (T,false),some (Sh,false),some (.list [B1,B2],false),some (.list [O1,O2],false),some (.list [K1,K2],false),some (.none,false),none,none,none,none,none]) (by simp[cJ,cB,b7,cy,cj,d2,cc,cC,dC,rX,c16,h])).trans ?_;exact iR (by simp[de,tChain,cc,cC,dC,E9]) rfl
 ·refine (cL (ρ':=[some (scr,false),some (S,false),some (T,false),some (Sh,false),some (.list [B1,B2],false),some (.list [O1,O2],false),some (.list [K1,K2],false),some (.tuple ch,false),none,none,none,none,none]) (by simp[cJ,cB,b7,cy,cj,d2,cc,cC,dC,rX,c16,h])).trans ?_;refine (ib (by simp[de,tChain,cc,cC,dC,E8])).trans ?_;refine (cL (ρ':=[some (scr,false),some (S,false),some (T,false),some (Sh,false),some (.list [B1,B2],false),some (.list [O1,O2],false),some (.list [K1,K2],false),some (.tuple ch,false),some (Ou,false),none,none,none,none]) (by simp[cJ,cB,b7,cy,cj,d2,cc,cC,dC,rX,ho])).trans ?_;have fin:∀s9 s10:Option Vl,(cH (cJ 11 (cB dB (b7 (cj 1) (b7 (d2 cN (cc 4) (cC (dC (.int 1)))) (b7 (d2 cN (cc 4) (cC (dC (.int 0)))) (b7 (cB cK (b7 (cj 0) (b7 (dC (.int 18)) cy))) cy))))))
    (cH (il (de (cc 11) [(xG,(cC (dC .none)))]) (dw (dC (.bool true))) fk)
    (cH (cJ 12 (cB jy (b7 (cj 1) (b7 (cj 2) (b7 (cj 3) (b7 (d2 cN (cc 4) (cC (dC (.int 1)))) (b7 (d2 cN (cc 4) (cC (dC (.int 0)))) (b7 (cj 11) cy))))))))
    (cH (cJ 10 (cB fM (b7 (cj 1) (b7 (cj 2) (b7 (cj 3) (b7 (d2 cN (cc 4) (cC (dC (.int 1)))) (b7 (d2 cN (cc 5) (cC (dC (.int 0)))) (b7 (cB fC (b7 (cj 11) (b7 (cj 7) cy))) cy))))))))
    (dw (cB eo (b7 (cB fC (b7 (cj 12) (b7 (cj 8) cy))) (b7 (cj 10) cy)))))))) [some (scr,false),some (S,false),some (T,false),some (Sh,false),some (.list [B1,B2],false),some (.list [O1,O2],false),some (.list [K1,K2],false),some (.tuple ch,false),some (Ou,false),s9,s10,none,none]=some (.ret (.bool true,false)):=fun s9 s10=>by
   rcases hB with hB|⟨ah,on,sb,du,h1,h2,h3,h4,h5,h6⟩
   ·refine (cL (ρ':=[some (scr,false),some (S,false),some (T,false),some (Sh,false),some (.list [B1,B2],false),some (.list [O1,O2],false),some (.list [K1,K2],false),some (.tuple ch,false),some (Ou,false),s9,s10,some (.none,false),none]) (by simp[cJ,cB,b7,cy,cj,d2,cc,cC,dC,rX,yx,c18,hB])).trans ?_;exact iR (by simp[de,tChain,cc,cC,dC,E9]) rfl
   ·refine (cL (ρ':=[some (scr,false),some (S,false),some (T,false),some (Sh,false),some (.list [B1,B2],false),some (.list [O1,O2],false),some (.list [K1,K2],false),some (.tuple ch,false),some (Ou,false),s9,s10,some (.tuple ah,false),none]) (by simp[cJ,cB,b7,cy,cj,d2,cc,cC,dC,rX,yx,c18,h1])).trans ?_;refine (ib (by simp[de,tChain,cc,cC,dC,E8])).trans ?_;refine (cL (ρ':=[some (scr,false),some (S,false),some (T,false),some (Sh,false),some (.list [B1,B2],false),some (.list [O1,O2],false),some (.list [K1,K2],false),some (.tuple ch,false),some (Ou,false),s9,s10,some (.tuple ah,false),some (on,false)]) (by simp[cJ,cB,b7,cy,cj,d2,cc,cC,dC,rX,yx,h2])).trans ?_;refine (cL (ρ':=[some (scr,false),some (S,false),some (T,false),some (Sh,false),some (.list [B1,B2],false),some (.list [O1,O2],false),some (.list [K1,K2],false),some (.tuple ch,false),some (Ou,false),s9,some (du,false),some (.tuple ah,false),some (on,false)]) (by simp[cJ,cB,b7,cy,cj,d2,cc,cC,dC,rX,yx,h3,h4])).trans ?_;simp[dw,cB,b7,cy,cj,h5,h6]
  rcases hA with hA|⟨al,mb,sb,du,h1,h2,h3,h4,h5,h6⟩
  ·refine (cL (ρ':=[some (scr,false),some (S,false),some (T,false),some (Sh,false),some (.list [B1,B2],false),some (.list [O1,O2],false),some (.list [K1,K2],false),some (.tuple ch,false),some (Ou,false),some (.none,false),none,none,none]) (by simp[cJ,cB,b7,cy,cj,d2,cc,cC,dC,rX,yx,c17,hA])).trans ?_;exact (ib (by simp[de,tChain,cc,cC,dC,Gi])).trans (fin _ _)
  ·refine (cL (ρ':=[some (scr,false),some (S,false),some (T,false),some (Sh,false),some (.list [B1,B2],false),some (.list [O1,O2],false),some (.list [K1,K2],false),some (.tuple ch,false),some (Ou,false),some (.tuple al,false),none,none,none]) (by simp[cJ,cB,b7,cy,cj,d2,cc,cC,dC,rX,yx,c17,h1])).trans ?_;refine (cL (ρ':=[some (scr,false),some (S,false),some (T,false),some (Sh,false),some (.list [B1,B2],false),some (.list [O1,O2],false),some (.list [K1,K2],false),some (.tuple ch,false),some (Ou,false),some (.tuple al,false),some (du,false),none,none]) ?_).trans (fin _ _);refine (yD (by simp[de,tChain,cc,cC,dC,Gh])).trans ?_;refine (cL (ρ':=[some (scr,false),some (S,false),some (T,false),some (Sh,false),some (.list [B1,B2],false),some (.list [O1,O2],false),some (.list [K1,K2],false),some (.tuple ch,false),some (Ou,false),some (.tuple al,false),some (du,false),none,none]) (by simp[cJ,cB,b7,cy,cj,d2,cc,cC,dC,rX,yx,h2,h3,h4])).trans ?_;exact (Ck (by simp[gv,lX,cB,b7,cy,cj,h5,h6,tM])).trans rfl
theorem Gm {k:Int}{ar:Ar}{r1 r2:List Int}{s1 s2 ch:List (List Int)}(h:mw k ar r1 s1 r2 s2 ch=true):fQ k ar r1 s1 r2 s2 ch:=by
 unfold mw at h;rw[Bool.and_eq_true,Bool.and_eq_true,decide_eq_true_eq] at h;refine⟨xD h.1 h.2.1,fun i a ha x x0 x1=>?_⟩;have:=List.all_eq_true.mp h.2.2 (a,i) (List.mem_zipIdx_iff_getElem?.mpr ha);unfold qi at this;have:=List.all_eq_true.mp this x.toNat (List.mem_range.mpr (by show x.toNat<(gI r1 a.1).toNat;omega));unfold Bv at this;have:=of_decide_eq_true this;rwa[show ((x.toNat:Nat):Int)=x by omega] at this
theorem HJ (ch:List (List Int)):Nb 2 (kc ch):=.tuple (jM B7 ch)
theorem zx {r:List Int}{i m:Nat}(h:∀x∈r,x<=(m:Int)):rN r i<=m:=by
 unfold rN;have:=j8 (m:=(m:Int)) ⋯ h (i:Int);omega
theorem Hv {a j:Nat}(ha:a<=2)(hj:j<=2):a ^ j<=4:=bo (Nat.pow_le_pow_left ha j) (bo (Nat.pow_le_pow_right (by decide) hj) (by decide))
theorem Bo {r1 r2:List Int}(h1:∀x∈r1,x<=2)(h2:∀x∈r2,x<=2):∀j,jX r1 r2 j<=4 ^ j
 |0=>aC 1
 | j+1=>by
  rw[jX,Nat.pow_succ];exact Nat.mul_le_mul (Bo h1 h2 j) (Hv (zx (m:=2) h2) (zx (m:=2) h1))
theorem Ds {r1 r2:List Int}(h1:∀x∈r1,x<=2)(h2:∀x∈r2,x<=2){j:Nat}(hj:j<=3):jX r1 r2 j<=1000000 :=
 bo (Bo h1 h2 j) (bo (Nat.pow_le_pow_right (by decide) hj) (by decide))
theorem pW {k:Int}{ar:Ar}{r1 r2:List Int}{s1 s2:List (List Int)}(w:Wf k ar)(hk:k<=3)(b1:cV k ar r1 s1)(b2:cV k ar r2 s2)(h1:∀r∈r1,r<=2)(h2:∀r∈r2,r<=2)(c:Int) :
  dB [cg k ar,cp r1 s1,cp r2 s2,.int c]=some (.none,false)\/∃ch,dB [cg k ar,cp r1 s1,cp r2 s2,.int c]=some (kc ch,false)/\fQ k ar r1 s1 r2 s2 ch:=by
 have run:dB [cg k ar,cp r1 s1,cp r2 s2,.int c]=(lM [some (cg k ar,false),some (cp r1 s1,false),some (cp r2 s2,false),some (.int c,false),none]).bind eD:=rfl;have k0:=w.lo;have wd:=vp w ⋯ b1 b2 (fun r hr=>by have:=h1 r hr;omega) (fun r hr=>by have:=h2 r hr;omega);have ms:=xi w ⋯ b1 b2 (fun r hr=>by have:=h1 r hr;omega) (fun r hr=>by have:=h2 r hr;omega)
  (fun i _ j hj=>bo (Hv (zx (m:=2) h2) (bo hj (zx (m:=2) h1))) (by decide)) (fun j hj=>Ds h1 h2 ⋯)
 have t1:(de (cC (cB ig (b7 (cj 0) (b7 (cj 1) (b7 (cj 2) cy))))) [(A7,(cC (dC (.int 200))))]) [some (cg k ar,false),some (cp r1 s1,false),some (cp r2 s2,false),some (.int c,false),none]=some (decide (200<(jX r1 r2 k.toNat:Int))):=by
  simp[de,tChain,cC,cB,b7,cy,cj,wd,dC,A7]
 rw[run,lM];by_cases hw:200<(jX r1 r2 k.toNat:Int)
 ·left;rw[iR (by rw[t1,decide_eq_true hw]) rfl];rfl
 ·rw[ib (by rw[t1,decide_eq_false hw])];generalize hM:(dU r1 r2 k.toNat).filter (mw k ar r1 s1 r2 s2)=M at ms;have q:(gf 4 (cJ 4 (cB iX (b7 (cj 0) (b7 (cj 1) (b7 (cj 2) cy)))))) [some (cg k ar,false),some (cp r1 s1,false),some (cp r2 s2,false),some (.int c,false),none]=some (.next [some (cg k ar,false),some (cp r1 s1,false),some (cp r2 s2,false),some (.int c,false),some (.list (M.map kc),false)]):=by
   simp[gf,cJ,cB,b7,cy,cj,ms,share]
  rw[cL q];have nb0:Nb 3 (.list []):=.list .nil;have nbM:Nb 3 (.list (M.map kc)):=.list (jM HJ M);have t2:(de (cc 4) [(nA,(cC (df cy)))]) [some (cg k ar,false),some (cp r1 s1,false),some (cp r2 s2,false),some (.int c,false),some (.list (M.map kc),false)]=some (decide (M=[])):=by
   have cq:nA (.list (M.map kc)) (.list [])=some (decide (M=[])):=by
    by_cases h:M=[]
    ·subst h;rw[decide_eq_true rfl];exact pF nb0
    ·rw[C3 nbM nb0 (by simpa using h),decide_eq_false h]
   simp[de,tChain,cC,cc,df,cy,cq]
  by_cases h:M=[]
  ·left;rw[iR (by rw[t2,decide_eq_true h]) rfl];rfl
  ·right;rw[ib (by rw[t2,decide_eq_false h])];have mm:∀x∈M,mw k ar r1 s1 r2 s2 x=true:=fun x hx=>by
    rw[<-hM] at hx;exact (List.mem_filter.mp hx).2
   have lp:0<M.length:=List.length_pos_iff.mpr h;have n0:=JH c (show (M.length:Int)≠0 by omega);have n1:=Jw c (show (0:Int)<M.length by omega);have hi:(c%(M.length:Int)).toNat<M.length:=by omega
   have e:=aj hi;refine⟨M[(c%(M.length:Int)).toNat],?_,Gm ?_⟩
   ·have ix:cN (.list (M.map kc)) (.int (c%(M.length:Int)))=some (kc M[(c%(M.length:Int)).toNat],false):=by
     unfold cN;dsimp only;rw[qt n0 (d:=kc M[(c%(M.length:Int)).toNat]) (by rw[au,e];rfl)];rfl
    have lm:nv (.int c) (.int (M.length:Int))=some (.int (c%(M.length:Int)),false):=by
     show (if (0:Int)<(M.length:Int) then some (PyData.int (c%(M.length:Int)),false) else none)=_;rw[if_pos ⋯]
    simp[dw,d2,cc,cC,d1,fK,lm,ix,eD]
   ·exact mm _ (List.getElem_mem hi)
theorem sM {e:Sb}(fw:nN e):∀x∈vT e,x<=1000:=fun x hx=>by
 unfold vT at hx;obtain⟨d,hd,rfl⟩:=List.mem_map.mp hx;rw[aZ] at hd;have:=(fw (d:Int) ⋯ ⋯).1;have:=yI e (d:Int);omega
theorem Jb {k:Int}{ra rb:List Int}{c:List (List Int)}(h:cZ k ra rb c)(hk:k<=4)(hr:∀r∈ra,r<=1000):eo [.tuple (c.map cR),.tuple (c.map cR)]=some (.bool true,false):=by
 have q:=iE h hk hr;exact CY (by have:=q.len;omega) (fun st hst=>by have:=q.row st hst;omega)
section
variable {e:Sb}{r3 r4 r:List Int}{t3 t4 t ch al ah:List (List Int)}
theorem Jp (ok:eC e)(sm:pJ e)(fw:nN e)(b3:cV e.k2 e.ar2 r3 t3)(b4:cV e.k2 e.ar2 r4 t4)(h3:∀x∈r3,x<=1000)(m:fQ e.k1 e.ar1 e.rows e.steps (bR e r3) (bS e r3 t3) ch)(ma:fQ e.k2 e.ar2 r3 t3 r4 t4 al) :
  ∃mb sb du,gp [nD e,.tuple (al.map cR)]=some (mb,false)/\fC [.tuple (ch.map cR),mb]=some (sb,false)/\fM [oK e,sU e,nD e,ng e,cp r4 t4,sb]=some (du,false)/\fC [.tuple ((lu e t3 ch).map cR),.tuple (al.map cR)]=some (du,false)/\eo [du,du]=some (.bool true,false):=by
 obtain⟨hc,he⟩:=HL ok b3 b4 m ma;obtain⟨mb,_⟩:=w9 ok ma.c;have al_l:=ma.c.len;have k4:=ok.h4;have k1:=sm.k1;have sl:=ok.s.len;have oc:=gA ok b3 m.c;have bm:∀x∈bR e r3,x<=1000:=fun x hx=>by
  obtain⟨y,_,rfl⟩:=List.mem_map.mp hx;exact j8 (by decide) h3 y
 have q1:gp [nD e,.tuple (al.map cR)]=some (.tuple ((e.pl.map (gC al)).map cR),false):=xc ⋯ (fun x hx=>by have:=ok.s.nn x hx;omega);have q2:fC [.tuple (ch.map cR),.tuple ((e.pl.map (gC al)).map cR)]=some (.tuple ((hJ ch (e.pl.map (gC al))).map cR),false):=qH (oM m.c mb) (iE m.c ⋯ sm.rw) (iE mb ⋯ bm);have q3:=pU ok sm fw b4 hc;have q4:fC [.tuple ((lu e t3 ch).map cR),.tuple (al.map cR)]=some (.tuple ((hJ (lu e t3 ch) al).map cR),false):=qH (oM oc ma.c) (iE oc ⋯ (sM fw)) (iE ma.c ⋯ h3);rw[he] at q4;exact⟨_,_,_,q1,q2,q3,q4,Jb (gA ok b4 hc) ⋯ (sM fw)⟩
theorem Jo (ok:eC e)(sm:pJ e)(fw:nN e)(b:cV e.k1 e.ar1 r t)(sm2:pJ (e.bk r t))(fw2:nN (e.bk r t))(b3:cV e.k2 e.ar2 r3 t3)(ma:fQ e.k1 e.ar1 e.rows e.steps r t ah)(m:fQ e.k1 e.ar1 r t (bR e r3) (bS e r3 t3) ch) :
  ∃on sb du,jy [oK e,sU e,nD e,ng e,cp r t,.tuple (ah.map cR)]=some (on,false)/\fC [.tuple (ah.map cR),.tuple (ch.map cR)]=some (sb,false)/\fM [oK e,sU e,nD e,ng e,cp r3 t3,sb]=some (du,false)/\fC [on,.tuple ((lu (e.bk r t) t3 ch).map cR)]=some (du,false)/\eo [du,du]=some (.bool true,false):=by
 obtain⟨hc,he⟩:=HK ok b b3 ma m;have onc:=rL ok b ma.c;have oc:cZ e.k2 (vT (e.bk r t)) r3 (lu (e.bk r t) t3 ch):=gA (e:=e.bk r t) (ok.bk b) b3 m.c;have k4:=ok.h4;have k1:=sm.k1;have q1:=AK ok sm fw b sm2 fw2 ma.c;have q2:fC [.tuple (ah.map cR),.tuple (ch.map cR)]=some (.tuple ((hJ ah ch).map cR),false):=qH (oM ma.c m.c) (iE ma.c ⋯ sm.rw) (iE m.c ⋯ sm2.rw);have q3:=pU ok sm fw b3 hc;have q4:fC [.tuple ((mq e r t ah).map cR),.tuple ((lu (e.bk r t) t3 ch).map cR)]=some (.tuple ((hJ (mq e r t ah) (lu (e.bk r t) t3 ch)).map cR),false):=qH (oM onc oc) (iE onc ⋯ (sM fw)) (iE oc ⋯ (sM fw2));rw[he] at q4;exact⟨_,_,_,q1,q2,q3,q4,Jb (gA ok b3 hc) ⋯ (sM fw)⟩
end
theorem law_true (ns:List Int)(_:ns.length<=63):F_law [.list (ns.map .int)]=some (.bool true,false):=by
 obtain⟨k1,a1,e1,w1,hk1,ha1⟩:=zN ns 0 (most:=2) (many:=2) (by decide) (by decide) (by decide) (by decide);obtain⟨k2,a2,e2,w2,hk2,ha2⟩:=zN ns 3 (most:=3) (many:=2) (by decide) (by decide) (by decide) (by decide);obtain⟨pl,ws,es,s⟩:=vq ns 6 w1 ⋯ ⋯ w2 ⋯ ⋯;obtain⟨r1,t1,eb1,b1,m1⟩:=qV ns 8 w1 ⋯ ⋯ (most:=2) (by decide) (by decide);obtain⟨r2,t2,eb2,b2,m2⟩:=qV ns 10 w1 ⋯ ⋯ (most:=2) (by decide) (by decide);obtain⟨r3,t3,eb3,b3,m3⟩:=qV ns 12 w2 ⋯ ⋯ (most:=2) (by decide) (by decide);obtain⟨r4,t4,eb4,b4,m4⟩:=qV ns 14 w2 ⋯ ⋯ (most:=2) (by decide) (by decide);have m1':∀x∈r1,x<=2:=fun x hx=>by have:=m1 x hx;omega
 have m2':∀x∈r2,x<=2:=fun x hx=>by have:=m2 x hx;omega
 have m3':∀x∈r3,x<=2:=fun x hx=>by have:=m3 x hx;omega
 have m4':∀x∈r4,x<=2:=fun x hx=>by have:=m4 x hx;omega
 have g1:=nC w1 ⋯ ⋯ s b3 (fun r hr=>by have:=m3' r hr;omega);have g2:=nC w1 ⋯ ⋯ s b4 (fun r hr=>by have:=m4' r hr;omega);have p1:=xj (m:=2) w1 ⋯ ⋯ s b3 (by decide) (by decide) m3';have bk:=EK w1 s b3;have bm:∀x∈ft pl r3,x<=2:=fun x hx=>by
  unfold ft at hx;obtain⟨y,_,rfl⟩:=List.mem_map.mp hx;exact j8 (by decide) m3' y
 have bl:=bk.len;have bs:=bk.sl;have k10:=w1.lo;have k20:=w2.lo;have p2:=DV (rows:=ft pl r3) (steps:=pG a1 pl ws r3 t3) ⋯ ⋯ (fun st hst=>by
  obtain⟨i,hi⟩:=bX hst;have hl:=(List.getElem?_eq_some_iff.mp hi).1;have q:=(bk.st i _ _ (aj (show i<a1.length by omega)) hi).1;have:=j8 (m:=2) (by decide) bm (a1[i]'⋯).1;omega)
 have sm:∀r t,(∀x∈r,x<=2)->pJ ⟨k1,a1,k2,a2,pl,ws,r,t⟩:=fun r t h=>⟨by show k1<=4;omega,by show a1.length<=5;omega,by show a2.length<=5;omega,fun x hx=>by have:=h x hx;omega⟩;have ok:∀r t,cV k1 a1 r t->eC ⟨k1,a1,k2,a2,pl,ws,r,t⟩:=fun r t b=>⟨w1,w2,by show k2<=4;omega,s,b⟩;have fw:∀r t,cV k1 a1 r t->(∀x∈r,x<=2)->nN ⟨k1,a1,k2,a2,pl,ws,r,t⟩:=fun r t b h=>GH (ok r t b) (by show k1<=3;omega) (by show a1.length<=5;omega) (by show a2.length<=4;omega) (fun x hx=>by have:=h x hx;omega);have ok1:=ok r1 t1 b1;have ok2:=ok r2 t2 b2;have i2:∀{r:List Int},(∀x∈r,x<=2)->∀x∈r,x<=1000:=fun h x hx=>by have:=h x hx;omega
 have e1':fj [.list (ns.map .int),.int 0,.int 2,.int 2]=some (cg k1 a1,false):=e1;have e2':fj [.list (ns.map .int),.int 3,.int 3,.int 2]=some (cg k2 a2,false):=e2;have es':gu [.list (ns.map .int),.int 6,cg k1 a1,cg k2 a2]=some (dE pl ws,false):=es;have eb1':dM [.list (ns.map .int),.int 8,cg k1 a1,.int 2]=some (cp r1 t1,false):=eb1;have eb2':dM [.list (ns.map .int),.int 10,cg k1 a1,.int 2]=some (cp r2 t2,false):=eb2;have eb3':dM [.list (ns.map .int),.int 12,cg k2 a2,.int 2]=some (cp r3 t3,false):=eb3;have eb4':dM [.list (ns.map .int),.int 14,cg k2 a2,.int 2]=some (cp r4 t4,false):=eb4;have c16:cK [.list (ns.map .int),.int 16]=some (.int (cell ns 16),false):=je ns 16;have c17:cK [.list (ns.map .int),.int 17]=some (.int (cell ns 17),false):=je ns 17;have c18:cK [.list (ns.map .int),.int 18]=some (.int (cell ns 18),false):=je ns 18;refine Eo e1' e2' es' eb1' eb2' eb3' eb4' g1 g2 p1 p2 c16 c17 c18 ?_;rcases pW w1 ⋯ b1 bk m1' bm (cell ns 16) with h|⟨ch,h,mc⟩
 ·exact .inl h
 ·have o1:=pU ok1 (sm r1 t1 m1') (fw r1 t1 b1 m1') b3 mc.c;refine .inr ⟨ch.map cR,_,h,o1,?_,?_⟩
  ·rcases pW w2 ⋯ b3 b4 m3' m4' (cell ns 17) with h|⟨al,h,ma⟩
   ·exact .inl h
   ·obtain⟨mb,sb,du,q1,q2,q3,q4,q5⟩:=Jp ok1 (sm r1 t1 m1') (fw r1 t1 b1 m1') b3 b4 (i2 m3') mc ma;exact .inr ⟨al.map cR,mb,sb,du,h,q1,q2,q3,q4,q5⟩
  ·rcases pW w1 ⋯ b2 b1 m2' m1' (cell ns 18) with h|⟨ah,h,ma⟩
   ·exact .inl h
   ·obtain⟨on,sb,du,q1,q2,q3,q4,q5⟩:=Jo ok2 (sm r2 t2 m2') (fw r2 t2 b2 m2') b1 (sm r1 t1 m1') (fw r1 t1 b1 m1') b3 ma mc;exact .inr ⟨ah.map cR,on,sb,du,h,q1,q2,q3,q4,q5⟩
end Lw
set_option maxHeartbeats 4000000
namespace Lw
open PySem DL
noncomputable def top (i:Nat):Stmt:=PySem.Challenge.pw_formshift_k11_whole_natural.main.body.getD i (.Pass ⟨0,0,0,0⟩)
noncomputable abbrev nR:Stmt:=top 24
noncomputable abbrev nW:Stmt:=top 25
noncomputable abbrev nV:Stmt:=top 27
noncomputable abbrev nS:Stmt:=top 28
noncomputable abbrev me:Stmt:=top 29
noncomputable abbrev nU:Stmt:=top 32
noncomputable abbrev md:Stmt:=top 33
noncomputable abbrev l9:Stmt:=top 26
noncomputable abbrev lj:Stmt:=top 35
noncomputable abbrev jL:Stmt:=top 37
noncomputable abbrev j0:Stmt:=top 38
noncomputable abbrev l8:Stmt:=top 36
noncomputable abbrev lh:Stmt:=top 42
noncomputable abbrev gY:Stmt:=top 13
noncomputable abbrev rD:Stmt:=top 8
noncomputable abbrev jK:Stmt:=top 10
noncomputable abbrev qK:Stmt:=top 9
noncomputable abbrev pP:Stmt:=top 16
noncomputable abbrev nP:Stmt:=top 17
noncomputable abbrev BA:Stmt:=top 15
noncomputable abbrev yd:Stmt:=top 14
noncomputable abbrev jJ:Stmt:=top 12
noncomputable abbrev yc:Stmt:=top 1
noncomputable abbrev jz:Stmt:=top 18
noncomputable abbrev oQ:Stmt:=top 22
noncomputable abbrev oR:Stmt:=top 20
noncomputable abbrev i9:Stmt:=top 39
noncomputable abbrev ko:Stmt:=top 41
noncomputable abbrev j3:Stmt:=top 30
noncomputable abbrev iu:Stmt:=top 3
noncomputable abbrev lg:Stmt:=top 40
noncomputable abbrev u0:Stmt:=top 6
noncomputable abbrev nQ:Stmt:=top 31
noncomputable abbrev j4:Stmt:=top 34
noncomputable abbrev la:Stmt:=top 4
noncomputable abbrev qm:Stmt:=top 43
structure Txt (mg:Str->Option Value):Prop where
 b_all:mg "all" = none
 b_bool:mg "bool" = none
 b_dict:mg "dict" = none
 b_enumerate:mg "enumerate" = none
 b_int:mg "int" = none
 b_isinstance:mg "isinstance" = none
 b_len:mg "len" = none
 b_list:mg "list" = none
 b_max:mg "max" = none
 b_min:mg "min" = none
 b_range:mg "range" = none
 b_sorted:mg "sorted" = none
 b_tuple:mg "tuple" = none
 b_zip:mg "zip" = none
section
variable {P:Program}{w:World}{K:PySem.W.Frag}{mg:Str->Option Value}{base:Heap}
theorem hV:L2.FnScope ["cell", "found", "factor", "mixed"] ["cell"] (L2.defScope nR):=⟨rfl,rfl,rfl,by decide +kernel,rfl,by decide +kernel,by decide +kernel⟩
theorem wN {f:Addr}{fd:FuncData}(T:Txt mg)  (Fu:L2.Fun K "_law_stir" "_law_stir" nR f fd):L2.FnOk P w K mg base L2.CX0 1 f fd ["cell"] (spD K iV) :=
 eS Fu hV fun cdv A outer s H E hr =>
  (cx (cP (i:=1) hV.nd cz)
  (cx (dG rfl (eF (fP (dZ (b8 cz (b8 cz (b8 cz (b8 cz cA))))))) (cE (i:=2) hV.nd) (cx (cP (i:=3) hV.nd (dJ L2.op_mod j6 (DE.bb (dJ L2.op_addA fG (DE.bb (dJ L2.op_mul mi (cf 0) (cf 2))) (DE.bb cz))) (DE.bb cz)))
  (cx (cP (i:=3) hV.nd (dJ L2.op_mod j6 (DE.bb (dJ L2.op_mul mi (DE.bb (dJ L2.op_mod j6 (DE.bb (dJ L2.op_mul mi (cf 3) (cf 3))) (DE.bb cz))) (DE.bb cz))) (DE.bb cz)))
  (cD (cP (i:=1) hV.nd (dJ L2.op_addA fG (DE.bb (dJ L2.op_mul mi (cf 1) (DE.bb (dJ L2.op_pow F9 (DE.bb cz) (DE.bb cz))))) (DE.bb (dJ L2.op_fdiv yk (cf 3) (DE.bb cz)))))))))
  (cD (dj (ck 1)))))
theorem wA:L2.FnScope ["script", "k"] ["script", "k"] (L2.defScope nW):=⟨rfl,rfl,rfl,by decide +kernel,rfl,by decide +kernel,by decide +kernel⟩
theorem wW {f:Addr}{fd:FuncData}(T:Txt mg)(c_law_stir:fo P w K mg base 1 "_law_stir" ["cell"] iV)(Fu:L2.Fun K "_law_cell" "_law_cell" nW f fd):L2.FnOk P w K mg base L2.CX0 2 f fd ["script", "k"] (spD K cK) :=
 eS Fu wA fun cdv A outer s H E hr =>
  (cx (gh (fW L2.op_lt Fn (cf 1) (DE.bb (jD T.b_len (cf 0)))) (cD (dj (cU c_law_stir hr (b8 (cF (cf 0) (cf 1)) cA)))) eg)
  (cD (dj (cU c_law_stir hr (b8 cz cA)))))
theorem km:L2.FnScope ["cell", "k", "bound", "stir", "turn"] ["cell", "k", "bound"] (L2.defScope nV):=⟨rfl,rfl,rfl,by decide +kernel,rfl,by decide +kernel,by decide +kernel⟩
theorem wV {f:Addr}{fd:FuncData}(T:Txt mg)  (Fu:L2.Fun K "_law_draw" "_law_draw" nV f fd):L2.FnOk P w K mg base L2.CX0 1 f fd ["cell", "k", "bound"] (spD K dk) :=
 eS Fu km fun cdv A outer s H E hr =>
  (cx (cP (i:=3) km.nd (dJ L2.op_mod j6 (DE.bb (dJ L2.op_addA fG (DE.bb (dJ L2.op_addA fG (DE.bb (dJ L2.op_mod j6 (cf 0) (DE.bb cz))) (DE.bb cz))) (DE.bb (dJ L2.op_mul mi (cf 1) (DE.bb cz))))) (DE.bb cz)))
  (cx (dG rfl (dN T.b_range cz) (cE (i:=4) km.nd) (cD (cP (i:=3) km.nd (dJ L2.op_mod j6 (DE.bb (dJ L2.op_mul mi (cf 3) (DE.bb cz))) (DE.bb cz)))))
  (cD (dj (dJ L2.op_mod j6 (DE.bb (dJ L2.op_fdiv yk (cf 3) (DE.bb cz))) (cf 2))))))
theorem ia:L2.FnScope ["script", "first", "most", "many", "kinds", "arrows", "k", "a", "b"] ["script", "first", "most", "many"] (L2.defScope nS):=⟨rfl,rfl,rfl,by decide +kernel,rfl,by decide +kernel,by decide +kernel⟩
theorem wR {f:Addr}{fd:FuncData}(T:Txt mg)(c_law_cell:fo P w K mg base 2 "_law_cell" ["script", "k"] cK)(c_law_draw:fo P w K mg base 1 "_law_draw" ["cell", "k", "bound"] dk)(Fu:L2.Fun K "_law_form" "_law_form" nS f fd):L2.FnOk P w K mg base L2.CX0 3 f fd ["script", "first", "most", "many"] (spD K fj) :=
 eS Fu ia fun cdv A outer s H E hr =>
  (cx (cP (i:=4) ia.nd (dJ L2.op_addA fG (DE.bb cz) (DE.bb (dJ L2.op_mod j6 (DE.bb (cU c_law_cell hr (b8 (ck 0) (b8 (ck 1) cA)))) (cf 2)))))
  (cx (cP (i:=5) ia.nd (dZ cA))
  (cx (gh (fW L2.op_gt z9 (cf 4) (DE.bb cz)) (cD (dG rfl (dN T.b_range (dJ L2.op_mod j6 (DE.bb (dJ L2.op_fdiv yk (DE.bb (cU c_law_cell hr (b8 (ck 0) (b8 (ck 1) cA)))) (cf 2))) (DE.bb (dJ L2.op_addA fG (cf 3) (DE.bb cz))))) (cE (i:=6) ia.nd) (cx (cP (i:=7) ia.nd (cU c_law_draw hr (b8 (cU c_law_cell hr (b8 (ck 0) (b8 (dJ L2.op_addA fG (cf 1) (DE.bb cz)) cA))) (b8 (ck 6) (b8 (dJ L2.op_sub yj (cf 4) (DE.bb cz)) cA)))))
  (cx (cP (i:=8) ia.nd (dJ L2.op_addA fG (DE.bb (dJ L2.op_addA fG (cf 7) (DE.bb cz))) (DE.bb (cU c_law_draw hr (b8 (cU c_law_cell hr (b8 (ck 0) (b8 (dJ L2.op_addA fG (cf 1) (DE.bb cz)) cA))) (b8 (ck 6) (b8 (dJ L2.op_sub yj (DE.bb (dJ L2.op_sub yj (cf 4) (DE.bb cz))) (cf 7)) cA)))))))
  (cD (iC (i:=5) (fB (b8 (ck 7) (b8 (ck 8) cA))))))))) eg)
  (cD (dj (fB (b8 (ck 4) (b8 (dO T.b_tuple (cf 5)) cA))))))))
theorem eU:L2.FnScope ["form", "kind", "other", "found", "layer", "more", "path", "at", "k", "arrow"] ["form", "kind", "other"] (L2.defScope me):=⟨rfl,rfl,rfl,by decide +kernel,rfl,by decide +kernel,by decide +kernel⟩
theorem vj {f:Addr}{fd:FuncData}(T:Txt mg)  (Fu:L2.Fun K "_law_paths" "_law_paths" me f fd):L2.FnOk P w K mg base L2.CX0 1 f fd ["form", "kind", "other"] (spD K fR) :=
 eS Fu eU fun cdv A outer s H E hr =>
  (cx (cP (i:=3) eU.nd (dZ cA))
  (cx (iT 4 (cP (i:=4) eU.nd (dZ (b8 (fB (b8 (fB cA) (b8 (ck 1) cA))) cA))))
  (cx (xw (fW (pV hr.units) ux (cf 4) (DE.bb (dZ cA))) (cx (cP (i:=5) eU.nd (dZ cA))
  (cx (dG rfl (eF (fA 4)) (fS rfl (cQ (cE (i:=6) eU.nd) (cQ (cE (i:=7) eU.nd) eX))) (cx (gh (fW (iO hr.units) k6 (cf 7) (cf 2)) (cD (iC (i:=3) (ck 6))) eg)
  (cD (dG rfl (kB T.b_enumerate (fP (cF (cf 0) (DE.bb cz)))) (fS rfl (cQ (cE (i:=8) eU.nd) (cQ (cE (i:=9) eU.nd) eX))) (cD (gh (fW (iO hr.units) k6 (DE.bb (cF (cf 9) (DE.bb cz))) (cf 7)) (cD (iC (i:=5) (fB (b8 (dJ L2.op_addA fG (cf 6) (DE.bb (fB (b8 (ck 8) cA)))) (b8 (cF (cf 9) (DE.bb cz)) cA))))) eg))))))
  (cD (sr 5 (cP (i:=4) eU.nd (ck 5)))))))
  (cD (lH 3)))))
theorem l7:L2.FnScope ["target", "places", "arrows", "kind", "spot", "a", "b"] ["target", "places", "arrows", "kind", "spot"] (L2.defScope nU):=⟨rfl,rfl,rfl,by decide +kernel,rfl,by decide +kernel,by decide +kernel⟩
theorem wU {f:Addr}{fd:FuncData}(T:Txt mg)(c_law_paths:fo P w K mg base 1 "_law_paths" ["form", "kind", "other"] fR)(Fu:L2.Fun K "_law_fits" "_law_fits" nU f fd):L2.FnOk P w K mg base L2.CX0 2 f fd ["target", "places", "arrows", "kind", "spot"] (spD K fI) :=
 eS Fu l7 fun cdv A outer s H E hr =>
  (cx (dG rfl (eF (fA 2)) (fS rfl (cQ (cE (i:=5) l7.nd) (cQ (cE (i:=6) l7.nd) eX))) (cD (gh (DW.tt (CA (fW (iO hr.units) k6 (cf 6) (cf 3)) (zS (fW (iO hr.units) k6 (DE.bb (cU c_law_paths hr (b8 (ck 0) (b8 (cF (cf 1) (cf 5)) (b8 (ck 4) cA))))) (DE.bb (dZ cA)))))) (cD (dj kY)) eg)))
  (cD (dj kY)))
theorem eI:L2.FnScope ["script", "first", "source", "target", "places", "kind", "spot", "turn", "ways", "k", "arrow", "some"] ["script", "first", "source", "target"] (L2.defScope md):=⟨rfl,rfl,rfl,by decide +kernel,rfl,by decide +kernel,by decide +kernel⟩
theorem vi {f:Addr}{fd:FuncData}(T:Txt mg)(c_law_draw:fo P w K mg base 1 "_law_draw" ["cell", "k", "bound"] dk)(c_law_cell:fo P w K mg base 2 "_law_cell" ["script", "k"] cK)(c_law_fits:fo P w K mg base 2 "_law_fits" ["target", "places", "arrows", "kind", "spot"] fI)(c_law_paths:fo P w K mg base 1 "_law_paths" ["form", "kind", "other"] fR)(Fu:L2.Fun K "_law_shift" "_law_shift" md f fd):L2.FnOk P w K mg base L2.CX0 3 f fd ["script", "first", "source", "target"] (spD K gu) :=
 eS Fu eI fun cdv A outer s H E hr =>
  (cx (cP (i:=4) eI.nd (dZ cA))
  (cx (dG rfl (dN T.b_range (cF (cf 2) (DE.bb cz))) (cE (i:=5) eI.nd) (cx (cP (i:=6) eI.nd (cU c_law_draw hr (b8 (cU c_law_cell hr (b8 (ck 0) (b8 (ck 1) cA))) (b8 (ck 5) (b8 (cF (cf 3) (DE.bb cz)) cA)))))
  (cx (dG rfl (dN T.b_range (cF (cf 3) (DE.bb cz))) (cE (i:=7) eI.nd) (cD (gh (CB (jC (jB (cU c_law_fits hr (b8 (ck 3) (b8 (ck 4) (b8 (cF (cf 2) (DE.bb cz)) (b8 (ck 5) (b8 (ck 6) cA))))))))) (cD (cP (i:=6) eI.nd (dJ L2.op_mod j6 (DE.bb (dJ L2.op_addA fG (cf 6) (DE.bb cz))) (DE.bb (cF (cf 3) (DE.bb cz)))))) eg)))
  (cx (gh (CB (jC (jB (cU c_law_fits hr (b8 (ck 3) (b8 (ck 4) (b8 (cF (cf 2) (DE.bb cz)) (b8 (ck 5) (b8 (ck 6) cA))))))))) (cD (dj (fB (b8 (dO T.b_tuple (DE.bb (zY (Fh (dZ (b8 (ck 6) cA))) (DE.bb (cF (cf 2) (DE.bb cz)))))) (b8 (dO T.b_tuple (DE.bb (zY (Fh (dZ (b8 (fB cA) cA))) (DE.bb (jD T.b_len (DE.bb (cF (cf 2) (DE.bb cz)))))))) cA))))) eg)
  (cD (iC (i:=4) (ck 6)))))))
  (cx (cP (i:=8) eI.nd (dZ cA))
  (cx (dG rfl (kB T.b_enumerate (fP (cF (cf 2) (DE.bb cz)))) (fS rfl (cQ (cE (i:=9) eI.nd) (cQ (cE (i:=10) eI.nd) eX))) (cx (iT 11 (cP (i:=11) eI.nd (cU c_law_paths hr (b8 (ck 3) (b8 (cF (cf 4) (DE.bb (cF (cf 10) (DE.bb cz)))) (b8 (cF (cf 4) (DE.bb (cF (cf 10) (DE.bb cz)))) cA))))))
  (cD (iC (i:=8) (cF (cf 11) (DE.bb (cU c_law_draw hr (b8 (cU c_law_cell hr (b8 (ck 0) (b8 (dJ L2.op_addA fG (cf 1) (DE.bb cz)) cA))) (b8 (ck 9) (b8 (jD T.b_len (cf 11)) cA))))))))))
  (cD (dj (fB (b8 (dO T.b_tuple (cf 4)) (b8 (dO T.b_tuple (cf 8)) cA)))))))))
theorem uY:L2.FnScope ["found"] ["found"] (L2.defScope l9):=⟨rfl,rfl,rfl,by decide +kernel,rfl,by decide +kernel,by decide +kernel⟩
theorem vh {f:Addr}{fd:FuncData}(T:Txt mg)  (Fu:L2.Fun K "_law_whole" "_law_whole" l9 f fd):L2.FnOk P w K mg base L2.CX0 1 f fd ["found"] (spD K gq) :=
 eS Fu uY fun cdv A outer s H E hr =>
  (cD (dj (vO (mJ T.b_isinstance T.b_int PyProof.Rows.boot_int (cf 0)) (yN (GJ (mJ T.b_isinstance T.b_bool PyProof.Rows.boot_bool (cf 0)))))))
theorem eY:L2.FnScope ["form", "one", "other", "chart", "kind", "row", "k", "arrow", "comes", "goes"] ["form", "one", "other", "chart"] (L2.defScope lj):=⟨rfl,rfl,rfl,by decide +kernel,rfl,by decide +kernel,by decide +kernel⟩
theorem tx {f:Addr}{fd:FuncData}(T:Txt mg)(c_law_whole:fo P w K mg base 1 "_law_whole" ["found"] gq)(Fu:L2.Fun K "_law_is_map" "_law_is_map" lj f fd):L2.FnOk P w K mg base L2.CX0 2 f fd ["form", "one", "other", "chart"] (spD K gH) :=
 eS Fu eY fun cdv A outer s H E hr =>
  (cx (gh (DW.tt (um (jC (jB (mJ T.b_isinstance T.b_tuple PyProof.Rows.boot_tuple (cf 3)))) (sj (fW (pV hr.units) ux (DE.bb (jD T.b_len (cf 3))) (DE.bb (cF (cf 0) (DE.bb cz))))))) (cD (dj kY)) eg)
  (cx (dG rfl (dN T.b_range (cF (cf 0) (DE.bb cz))) (cE (i:=4) eY.nd) (cx (gh (DW.tt (um (jC (jB (mJ T.b_isinstance T.b_tuple PyProof.Rows.boot_tuple (DE.bb (cF (cf 3) (cf 4)))))) (sj (fW (pV hr.units) ux (DE.bb (jD T.b_len (DE.bb (cF (cf 3) (cf 4))))) (DE.bb (cF (DE.bb (cF (cf 1) (DE.bb cz))) (cf 4))))))) (cD (dj kY)) eg)
  (cD (dG rfl (eF (fP (cF (cf 3) (cf 4)))) (cE (i:=5) eY.nd) (cD (gh (DW.tt (um (jC (jB (cU c_law_whole hr (b8 (ck 5) cA)))) (sj (jC (HW L2.op_le H0 L2.op_lt Fn (DE.bb cz) (cf 5) (DE.bb (cF (DE.bb (cF (cf 2) (DE.bb cz))) (cf 4)))))))) (cD (dj kY)) eg))))))
  (cx (dG rfl (kB T.b_enumerate (fP (cF (cf 0) (DE.bb cz)))) (fS rfl (cQ (cE (i:=6) eY.nd) (cQ (cE (i:=7) eY.nd) eX))) (cD (dG rfl (dN T.b_range (cF (DE.bb (cF (cf 1) (DE.bb cz))) (DE.bb (cF (cf 7) (DE.bb cz))))) (cE (i:=5) eY.nd) (cx (cP (i:=8) eY.nd (cF (DE.bb (cF (cf 3) (DE.bb (cF (cf 7) (DE.bb cz))))) (DE.bb (cF (DE.bb (cF (DE.bb (cF (cf 1) (DE.bb cz))) (cf 6))) (cf 5)))))
  (cx (cP (i:=9) eY.nd (cF (DE.bb (cF (cf 3) (DE.bb (cF (cf 7) (DE.bb cz))))) (cf 5)))
  (cD (gh (fW (pV hr.units) ux (cf 8) (DE.bb (cF (DE.bb (cF (DE.bb (cF (cf 2) (DE.bb cz))) (cf 6))) (cf 9)))) (cD (dj kY)) eg)))))))
  (cD (dj kY)))))
theorem fY:L2.FnScope ["many", "most", "found", "k", "more", "row"] ["many", "most"] (L2.defScope jL):=⟨rfl,rfl,rfl,by decide +kernel,rfl,by decide +kernel,by decide +kernel⟩
theorem tq {f:Addr}{fd:FuncData}(T:Txt mg)  (Fu:L2.Fun K "_law_tuples" "_law_tuples" jL f fd):L2.FnOk P w K mg base L2.CX0 1 f fd ["many", "most"] (spD K gG) :=
 eS Fu fY fun cdv A outer s H E hr =>
  (cx (iT 2 (cP (i:=2) fY.nd (dZ (b8 (fB cA) cA))))
  (cx (dG rfl (dN T.b_range (ck 0)) (cE (i:=3) fY.nd) (cx (cP (i:=4) fY.nd (dZ cA))
  (cx (dG rfl (eF (fA 2)) (cE (i:=5) fY.nd) (cD (su (i:=4) (eO (own:=["x"]) (ix:=[5]) (caps:=["row"]) (eL (osc:=L2.defScope jL) (oN:=["many", "most", "found", "k", "more", "row"]) rfl rfl (by decide +kernel)) rfl (by decide) dh (dN T.b_range (ck 1)) (fun _ _ _ _=>(cE (i:=0) (show (["x", "row"]:List Str).Nodup by decide +kernel))) (fun _ _ _ _=>eW) (fun _ _ _ _=>(dJ L2.op_addA fG (cf 1) (DE.bb (fB (b8 (ck 0) cA)))))))))
  (cD (sr 4 (cP (i:=2) fY.nd (ck 4)))))))
  (cD (dj (ck 2)))))
theorem hZ:L2.FnScope ["form", "one", "other", "found", "kind", "more", "chart"] ["form", "one", "other"] (L2.defScope j0):=⟨rfl,rfl,rfl,by decide +kernel,rfl,by decide +kernel,by decide +kernel⟩
theorem wQ {f:Addr}{fd:FuncData}(T:Txt mg)(c_law_tuples:fo P w K mg base 1 "_law_tuples" ["many", "most"] gG)(c_law_is_map:fo P w K mg base 2 "_law_is_map" ["form", "one", "other", "chart"] gH)(Fu:L2.Fun K "_law_maps" "_law_maps" j0 f fd):L2.FnOk P w K mg base L2.CX0 3 f fd ["form", "one", "other"] (spD K iX) :=
 eS Fu hZ fun cdv A outer s H E hr =>
  (cx (iT 3 (cP (i:=3) hZ.nd (dZ (b8 (fB cA) cA))))
  (cx (dG rfl (dN T.b_range (cF (cf 0) (DE.bb cz))) (cE (i:=4) hZ.nd) (cx (cP (i:=5) hZ.nd (dZ cA))
  (cx (dG rfl (eF (fA 3)) (cE (i:=6) hZ.nd) (cD (su (i:=5) (eO (own:=["row"]) (ix:=[6]) (caps:=["chart"]) (eL (osc:=L2.defScope j0) (oN:=["form", "one", "other", "found", "kind", "more", "chart"]) rfl rfl (by decide +kernel)) rfl (by decide) dh (eF (fP (cU c_law_tuples hr (b8 (cF (DE.bb (cF (cf 1) (DE.bb cz))) (cf 4)) (b8 (cF (DE.bb (cF (cf 2) (DE.bb cz))) (cf 4)) cA))))) (fun _ _ _ _=>(cE (i:=0) (show (["row", "chart"]:List Str).Nodup by decide +kernel))) (fun _ _ _ _=>eW) (fun _ _ _ _=>(dJ L2.op_addA fG (cf 1) (DE.bb (fB (b8 (ck 0) cA)))))))))
  (cD (sr 5 (cP (i:=3) hZ.nd (ck 5)))))))
  (cD (dj (eO (own:=["chart"]) (ix:=[0,1,2]) (caps:=["form", "one", "other"]) (eL (osc:=L2.defScope j0) (oN:=["form", "one", "other", "found", "kind", "more", "chart"]) rfl rfl (by decide +kernel)) rfl (by decide) dh (eF (fA 3)) (fun _ _ _ _=>(cE (i:=0) (show (["chart", "form", "one", "other"]:List Str).Nodup by decide +kernel))) (fun _ _ _ _=>vL (jB (cU c_law_is_map hr (b8 (ck 1) (b8 (ck 2) (b8 (ck 3) (b8 (ck 0) cA))))))) (fun _ _ _ _=>(ck 0)))))))
theorem iq:L2.FnScope ["form", "one", "other", "many", "kind", "k"] ["form", "one", "other"] (L2.defScope l8):=⟨rfl,rfl,rfl,by decide +kernel,rfl,by decide +kernel,by decide +kernel⟩
theorem vg {f:Addr}{fd:FuncData}(T:Txt mg)  (Fu:L2.Fun K "_law_width" "_law_width" l8 f fd):L2.FnOk P w K mg base L2.CX0 1 f fd ["form", "one", "other"] (spD K ig) :=
 eS Fu iq fun cdv A outer s H E hr =>
  (cx (cP (i:=3) iq.nd cz)
  (cx (dG rfl (dN T.b_range (cF (cf 0) (DE.bb cz))) (cE (i:=4) iq.nd) (cD (dG rfl (dN T.b_range (cF (DE.bb (cF (cf 1) (DE.bb cz))) (cf 4))) (cE (i:=5) iq.nd) (cD (cP (i:=3) iq.nd (dJ L2.op_mul mi (cf 3) (DE.bb (cF (DE.bb (cF (cf 2) (DE.bb cz))) (cf 4)))))))))
  (cD (dj (ck 3)))))
theorem nE:L2.FnScope ["form", "one", "other", "cell", "some"] ["form", "one", "other", "cell"] (L2.defScope lh):=⟨rfl,rfl,rfl,by decide +kernel,rfl,by decide +kernel,by decide +kernel⟩
theorem tw {f:Addr}{fd:FuncData}(T:Txt mg)(c_law_width:fo P w K mg base 1 "_law_width" ["form", "one", "other"] ig)(c_law_maps:fo P w K mg base 3 "_law_maps" ["form", "one", "other"] iX)(Fu:L2.Fun K "_law_one_of" "_law_one_of" lh f fd):L2.FnOk P w K mg base L2.CX0 4 f fd ["form", "one", "other", "cell"] (spD K dB) :=
 eS Fu nE fun cdv A outer s H E hr =>
  (cx (gh (fW L2.op_gt z9 (DE.bb (cU c_law_width hr (b8 (ck 0) (b8 (ck 1) (b8 (ck 2) cA))))) (DE.bb cz)) (cD (dj sv)) eg)
  (cx (iT 4 (cP (i:=4) nE.nd (cU c_law_maps hr (b8 (ck 0) (b8 (ck 1) (b8 (ck 2) cA))))))
  (cx (gh (fW (iO hr.units) k6 (cf 4) (DE.bb (dZ cA))) (cD (dj sv)) eg)
  (cD (dj (cF (cf 4) (DE.bb (dJ L2.op_mod j6 (cf 3) (DE.bb (jD T.b_len (cf 4)))))))))))
theorem fL:L2.FnScope ["routes", "book", "triples", "kind", "route", "path"] ["routes", "book"] (L2.defScope gY):=⟨rfl,rfl,rfl,by decide +kernel,rfl,by decide +kernel,by decide +kernel⟩
theorem pX {f:Addr}{fd:FuncData}(T:Txt mg)  (Fu:L2.Fun K "triples_along" "triples_along" gY f fd):L2.FnOk P w K mg base L2.CX0 1 f fd ["routes", "book"] (spD K eR) :=
 eS Fu fL fun cdv A outer s H E hr =>
  (cx (cP (i:=2) fL.nd (dZ cA))
  (cx (dG rfl (kB T.b_enumerate (fA 0)) (fS rfl (cQ (cE (i:=3) fL.nd) (cQ (cE (i:=4) fL.nd) eX))) (cD (dG rfl (eF (fA 4)) (cE (i:=5) fL.nd) (cD (su (i:=2) (eO (own:=["row"]) (ix:=[3,5]) (caps:=["kind", "path"]) (eL (osc:=L2.defScope gY) (oN:=["routes", "book", "triples", "kind", "route", "path"]) rfl rfl (by decide +kernel)) rfl (by decide) dh (dN T.b_range (cF (DE.bb (cF (cf 1) (DE.bb cz))) (cf 3))) (fun _ _ _ _=>(cE (i:=0) (show (["row", "kind", "path"]:List Str).Nodup by decide +kernel))) (fun _ _ _ _=>eW) (fun _ _ _ _=>(fB (b8 (ck 1) (b8 (ck 2) (b8 (ck 0) cA)))))))))))
  (cD (lH 2))))
theorem tV:L2.FnScope ["form", "kind", "path", "last"] ["form", "kind", "path"] (L2.defScope rD):=⟨rfl,rfl,rfl,by decide +kernel,rfl,by decide +kernel,by decide +kernel⟩
theorem AE {f:Addr}{fd:FuncData}(T:Txt mg)  (Fu:L2.Fun K "end_of" "end_of" rD f fd):L2.FnOk P w K mg base L2.CX0 1 f fd ["form", "kind", "path"] (spD K fX) :=
 eS Fu tV fun cdv A outer s H E hr =>
  (cx (gh (fW (iO hr.units) k6 (DE.bb (jD T.b_len (cf 2))) (DE.bb cz)) (cD (dj (ck 1))) eg)
  (cx (cP (i:=3) tV.nd (cF (DE.bb (cF (cf 0) (DE.bb cz))) (DE.bb (cF (cf 2) (DE.bb (HZ L2.un_neg FA (DE.bb cz)))))))
  (cD (dj (cF (cf 3) (DE.bb cz))))))
theorem i8:L2.FnScope ["form", "kind", "reached", "longer", "path", "end"] ["form", "kind", "reached"] (L2.defScope jK):=⟨rfl,rfl,rfl,by decide +kernel,rfl,by decide +kernel,by decide +kernel⟩
theorem tm {f:Addr}{fd:FuncData}(T:Txt mg)(c_end_of:fo P w K mg base 1 "end_of" ["form", "kind", "path"] fX)(Fu:L2.Fun K "lengthened" "lengthened" jK f fd):L2.FnOk P w K mg base L2.CX0 2 f fd ["form", "kind", "reached"] (spD K iL) :=
 eS Fu i8 fun cdv A outer s H E hr =>
  (cx (cP (i:=3) i8.nd (dZ cA))
  (cx (dG rfl (eF (fA 2)) (cE (i:=4) i8.nd) (cx (cP (i:=5) i8.nd (cU c_end_of hr (b8 (ck 0) (b8 (ck 1) (b8 (ck 4) cA)))))
  (cD (su (i:=3) (eO (own:=["number", "arrow"]) (ix:=[4,5]) (caps:=["path", "end"]) (eL (osc:=L2.defScope jK) (oN:=["form", "kind", "reached", "longer", "path", "end"]) rfl rfl (by decide +kernel)) rfl (by decide) (qL (gO dh (gO dh qM))) (kB T.b_enumerate (fP (cF (cf 0) (DE.bb cz)))) (fun _ _ _ _=>(fS rfl (cQ (cE (i:=0) (show (["number", "arrow", "path", "end"]:List Str).Nodup by decide +kernel)) (cQ (cE (i:=1) (show (["number", "arrow", "path", "end"]:List Str).Nodup by decide +kernel)) eX)))) (fun _ _ _ _=>vL (fW (iO hr.units) k6 (DE.bb (cF (cf 1) (DE.bb cz))) (cf 3))) (fun _ _ _ _=>(dJ L2.op_addA fG (cf 2) (DE.bb (fB (b8 (ck 0) cA))))))))))
  (cD (lH 3))))
theorem oP:L2.FnScope ["form", "kind", "other", "found", "reached"] ["form", "kind", "other"] (L2.defScope qK):=⟨rfl,rfl,rfl,by decide +kernel,rfl,by decide +kernel,by decide +kernel⟩
theorem BP {f:Addr}{fd:FuncData}(T:Txt mg)(c_end_of:fo P w K mg base 1 "end_of" ["form", "kind", "path"] fX)(c_lengthened:fo P w K mg base 2 "lengthened" ["form", "kind", "reached"] iL)(Fu:L2.Fun K "paths" "paths" qK f fd):L2.FnOk P w K mg base L2.CX0 3 f fd ["form", "kind", "other"] (spD K nr) :=
 eS Fu oP fun cdv A outer s H E hr =>
  (cx (cP (i:=3) oP.nd (dZ cA))
  (cx (iT 4 (cP (i:=4) oP.nd (dZ (b8 (fB cA) cA))))
  (cx (xw (fW L2.op_gt z9 (DE.bb (jD T.b_len (cf 4))) (DE.bb cz)) (cx (su (i:=3) (eO (own:=["path"]) (ix:=[2,0,1]) (caps:=["other", "form", "kind"]) (eL (osc:=L2.defScope qK) (oN:=["form", "kind", "other", "found", "reached"]) rfl rfl (by decide +kernel)) rfl (by decide) dh (eF (fA 4)) (fun _ _ _ _=>(cE (i:=0) (show (["path", "other", "form", "kind"]:List Str).Nodup by decide +kernel))) (fun _ _ _ _=>vL (fW (iO hr.units) k6 (DE.bb (cU c_end_of hr (b8 (ck 2) (b8 (ck 3) (b8 (ck 0) cA))))) (cf 1))) (fun _ _ _ _=>(ck 0))))
  (cD (iT 4 (cP (i:=4) oP.nd (cU c_lengthened hr (b8 (ck 0) (b8 (ck 1) (b8 (ck 4) cA)))))))))
  (cD (lH 3)))))
theorem rC:L2.FnScope ["heads", "spot"] ["heads", "spot"] (L2.defScope pP):=⟨rfl,rfl,rfl,by decide +kernel,rfl,by decide +kernel,by decide +kernel⟩
theorem yi {f:Addr}{fd:FuncData}(T:Txt mg)  (Fu:L2.Fun K "head_of" "head_of" pP f fd):L2.FnOk P w K mg base L2.CX0 1 f fd ["heads", "spot"] (FU K 0 eP) :=
 Ct Fu rC fun cdv A outer s H E hr =>
  (pf (A2 (p:=0) (fW (pV hr.units) ux (DE.bb (cF (qR 0) (cf 1))) (cf 1)) (pd (zT (p:=0) (ck 1) (cF (qR 0) (DE.bb (cF (qR 0) (cf 1)))))
  (vM (zU (cP (i:=1) rC.nd (cF (qR 0) (cf 1)))))))
  (zW (ck 1)))
theorem hU:L2.FnScope ["triples", "heads", "rows", "height", "spot", "head"] ["triples", "heads"] (L2.defScope nP):=⟨rfl,rfl,rfl,by decide +kernel,rfl,by decide +kernel,by decide +kernel⟩
theorem wK {f:Addr}{fd:FuncData}(T:Txt mg)(c_head_of:qB P w K mg base 1 "head_of" ["heads", "spot"] 0 eP)(Fu:L2.Fun K "numbered" "numbered" nP f fd):L2.FnOk P w K mg base L2.CX0 2 f fd ["triples", "heads"] (FU K 1 g9) :=
 Ct Fu hU fun cdv A outer s H E hr =>
  (pf (zU (cP (i:=2) hU.nd (dZ cA)))
  (pf (zU (cP (i:=3) hU.nd cz))
  (pf (EB (p:=1) rfl (dN T.b_range (jD T.b_len (cf 0))) (cE (i:=4) hU.nd) (pd (sk (p:=1) (i:=5) c_head_of hr hU.nd (b8 (ck 4) cA))
  (vM (zU (gh (fW (iO hr.units) k6 (cf 5) (cf 4)) (cx (iC (i:=2) (ck 3))
  (cD (cP (i:=3) hU.nd (dJ L2.op_addA fG (cf 3) (DE.bb cz))))) (cD (iC (i:=2) (cF (cf 2) (cf 5)))))))))
  (A3 2 (zW (CL hr.u200 rfl T.b_dict T.b_zip (fA 0) (fA 2)))))))
theorem yb:L2.FnScope ["heads", "one", "other", "first", "second"] ["heads", "one", "other"] (L2.defScope BA):=⟨rfl,rfl,rfl,by decide +kernel,rfl,by decide +kernel,by decide +kernel⟩
theorem F6 {f:Addr}{fd:FuncData}(T:Txt mg)(c_head_of:qB P w K mg base 1 "head_of" ["heads", "spot"] 0 eP)(Fu:L2.Fun K "tie" "tie" BA f fd):L2.FnOk P w K mg base L2.CX0 2 f fd ["heads", "one", "other"] (FU K 0 uO) :=
 Ey Fu yb fun cdv A outer s H E hr =>
  (pd (sk (p:=0) (i:=3) c_head_of hr yb.nd (b8 (ck 1) cA))
  (pd (sk (p:=0) (i:=4) c_head_of hr yb.nd (b8 (ck 2) cA))
  (vM (zT (p:=0) (GL rfl T.b_max (cf 3) (cf 4)) (GK rfl T.b_min (cf 3) (cf 4))))))
theorem ip:L2.FnScope ["source", "shift", "book", "routes", "triples", "spots", "spot", "triple", "heads", "arrow", "way", "step", "path", "row", "reached"] ["source", "shift", "book", "routes", "triples"] (L2.defScope yd):=⟨rfl,rfl,rfl,by decide +kernel,rfl,by decide +kernel,by decide +kernel⟩
theorem D5 {f:Addr}{fd:FuncData}(T:Txt mg)(c_tie:qB P w K mg base 2 "tie" ["heads", "one", "other"] 0 uO)(Fu:L2.Fun K "tied" "tied" yd f fd):L2.FnOk P w K mg base L2.CX0 3 f fd ["source", "shift", "book", "routes", "triples"] (spD K oF) :=
 eS Fu ip fun cdv A outer s H E hr =>
  (cx (CF (i:=5) ip.nd)
  (cx (dG rfl (kB T.b_enumerate (fA 4)) (fS rfl (cQ (cE (i:=6) ip.nd) (cQ (cE (i:=7) ip.nd) eX))) (cD (CC (i:=5) hr.u200 (ck 7) (ck 6))))
  (cx (cP (i:=8) ip.nd (CK rfl T.b_list T.b_range (jD T.b_len (cf 4))))
  (cx (dG rfl (EC T.b_zip (fP (cF (cf 0) (DE.bb cz))) (fP (cF (cf 1) (DE.bb cz))) (fP (cF (cf 2) (DE.bb cz)))) (fS rfl (cQ (cE (i:=9) ip.nd) (cQ (cE (i:=10) ip.nd) (cQ (cE (i:=11) ip.nd) eX)))) (cD (dG rfl (eF (fP (cF (cf 3) (DE.bb (cF (cf 9) (DE.bb cz)))))) (cE (i:=12) ip.nd) (cD (dG rfl (kB T.b_enumerate (fA 11)) (fS rfl (cQ (cE (i:=13) ip.nd) (cQ (cE (i:=14) ip.nd) eX))) (cD (CG (i:=8) c_tie hr (b8 (yO hr.u200 (cf 5) (DE.bb (fB (b8 (cF (cf 9) (DE.bb cz)) (b8 (dJ L2.op_addA fG (cf 10) (cf 12)) (b8 (ck 13) cA)))))) (b8 (yO hr.u200 (cf 5) (DE.bb (fB (b8 (cF (cf 9) (DE.bb cz)) (b8 (ck 12) (b8 (ck 14) cA)))))) cA)))))))))
  (cD (lH 8))))))
theorem gM:L2.FnScope ["source", "target", "shift", "book", "tables", "kind", "routes", "triples"] ["source", "target", "shift", "book"] (L2.defScope jJ):=⟨rfl,rfl,rfl,by decide +kernel,rfl,by decide +kernel,by decide +kernel⟩
theorem tj {f:Addr}{fd:FuncData}(T:Txt mg)(c_paths:fo P w K mg base 3 "paths" ["form", "kind", "other"] nr)(c_triples_along:fo P w K mg base 1 "triples_along" ["routes", "book"] eR)(c_numbered:qB P w K mg base 2 "numbered" ["triples", "heads"] 1 g9)(c_tied:fo P w K mg base 3 "tied" ["source", "shift", "book", "routes", "triples"] oF)(Fu:L2.Fun K "row_tables" "row_tables" jJ f fd):L2.FnOk P w K mg base L2.CX0 4 f fd ["source", "target", "shift", "book"] (spD K dF) :=
 eS Fu gM fun cdv A outer s H E hr =>
  (cx (cP (i:=4) gM.nd (dZ cA))
  (cx (dG rfl (dN T.b_range (cF (cf 1) (DE.bb cz))) (cE (i:=5) gM.nd) (cx (iT 6 (zV (i:=6) gM.nd (own:=["place"]) (ix:=[1,5]) (caps:=["target", "kind"]) (eL (osc:=L2.defScope jJ) (oN:=["source", "target", "shift", "book", "tables", "kind", "routes", "triples"]) rfl rfl (by decide +kernel)) rfl (by decide) dh (eF (fP (cF (cf 2) (DE.bb cz)))) (fun _ _ _ _=>(cE (i:=0) (show (["place", "target", "kind"]:List Str).Nodup by decide +kernel))) (fun _ _ _ _=>eW) (fun _ _ _ _=>(cU c_paths hr (b8 (ck 1) (b8 (ck 0) (b8 (ck 2) cA)))))))
  (cx (iT 7 (cP (i:=7) gM.nd (cU c_triples_along hr (b8 (ck 6) (b8 (ck 3) cA)))))
  (cD (iC (i:=4) (CN c_numbered hr (ck 7) (cU c_tied hr (b8 (ck 0) (b8 (ck 2) (b8 (ck 3) (b8 (ck 6) (b8 (ck 7) cA))))))))))))
  (cD (lH 4))))
theorem uW:L2.FnScope ["book", "path", "row", "arrow"] ["book", "path", "row"] (L2.defScope yc):=⟨rfl,rfl,rfl,by decide +kernel,rfl,by decide +kernel,by decide +kernel⟩
theorem D4 {f:Addr}{fd:FuncData}(T:Txt mg)  (Fu:L2.Fun K "went" "went" yc f fd):L2.FnOk P w K mg base L2.CX0 1 f fd ["book", "path", "row"] (spD K oE) :=
 eS Fu uW fun cdv A outer s H E hr =>
  (cx (dG rfl (eF (fA 1)) (cE (i:=3) uW.nd) (cD (cP (i:=2) uW.nd (cF (DE.bb (cF (DE.bb (cF (cf 0) (DE.bb cz))) (cf 3))) (cf 2)))))
  (cD (dj (ck 2))))
theorem gw:L2.FnScope ["table", "firsts", "triple", "row"] ["table"] (L2.defScope jz):=⟨rfl,rfl,rfl,by decide +kernel,rfl,by decide +kernel,by decide +kernel⟩
theorem pY {f:Addr}{fd:FuncData}(T:Txt mg)  (Fu:L2.Fun K "first_triples" "first_triples" jz f fd):L2.FnOk P w K mg base L2.CX0 1 f fd ["table"] (spD K cW) :=
 eS Fu gw fun cdv A outer s H E hr =>
  (cx (cP (i:=1) gw.nd (dZ cA))
  (cx (dG rfl (CI (ck 0)) (fS rfl (cQ (cE (i:=2) gw.nd) (cQ (cE (i:=3) gw.nd) eX))) (cD (gh (fW (iO hr.units) k6 (cf 3) (DE.bb (jD T.b_len (cf 1)))) (cD (iC (i:=1) (ck 2))) eg)))
  (cD (lH 1))))
theorem pO:L2.FnScope ["source", "target", "shift", "book", "other", "chart", "columns", "table"] ["source", "target", "shift", "book", "other", "chart"] (L2.defScope oQ):=⟨rfl,rfl,rfl,by decide +kernel,rfl,by decide +kernel,by decide +kernel⟩
theorem AA {f:Addr}{fd:FuncData}(T:Txt mg)(c_row_tables:fo P w K mg base 4 "row_tables" ["source", "target", "shift", "book"] dF)(c_first_triples:fo P w K mg base 1 "first_triples" ["table"] cW)(c_went:fo P w K mg base 1 "went" ["book", "path", "row"] oE)(Fu:L2.Fun K "out_of" "out_of" oQ f fd):L2.FnOk P w K mg base L2.CX0 5 f fd ["source", "target", "shift", "book", "other", "chart"] (spD K fM) :=
 eS Fu pO fun cdv A outer s H E hr =>
  (cx (cP (i:=6) pO.nd (dZ cA))
  (cx (dG rfl (eF (fP (cU c_row_tables hr (b8 (ck 0) (b8 (ck 1) (b8 (ck 2) (b8 (ck 3) cA))))))) (cE (i:=7) pO.nd) (cD (iC (i:=6) (dO T.b_tuple (DE.bb (eO (own:=["kind", "path", "row"]) (ix:=[4,5]) (caps:=["other", "chart"]) (eL (osc:=L2.defScope oQ) (oN:=["source", "target", "shift", "book", "other", "chart", "columns", "table"]) rfl rfl (by decide +kernel)) rfl (by decide) (qL (gO dh (gO dh (gO dh qM)))) (eF (fP (cU c_first_triples hr (b8 (ck 7) cA)))) (fun _ _ _ _=>(fS rfl (cQ (cE (i:=0) (show (["kind", "path", "row", "other", "chart"]:List Str).Nodup by decide +kernel)) (cQ (cE (i:=1) (show (["kind", "path", "row", "other", "chart"]:List Str).Nodup by decide +kernel)) (cQ (cE (i:=2) (show (["kind", "path", "row", "other", "chart"]:List Str).Nodup by decide +kernel)) eX))))) (fun _ _ _ _=>eW) (fun _ _ _ _=>(cU c_went hr (b8 (ck 3) (b8 (ck 1) (b8 (cF (DE.bb (cF (cf 4) (cf 0))) (cf 2)) cA)))))))))))
  (cD (dj (dO T.b_tuple (cf 6))))))
theorem kR:L2.FnScope ["source", "target", "shift", "one", "other", "chart", "columns", "tables", "table", "onward"] ["source", "target", "shift", "one", "other", "chart"] (L2.defScope oR):=⟨rfl,rfl,rfl,by decide +kernel,rfl,by decide +kernel,by decide +kernel⟩
theorem AB {f:Addr}{fd:FuncData}(T:Txt mg)(c_row_tables:fo P w K mg base 4 "row_tables" ["source", "target", "shift", "book"] dF)(c_first_triples:fo P w K mg base 1 "first_triples" ["table"] cW)(Fu:L2.Fun K "map_on" "map_on" oR f fd):L2.FnOk P w K mg base L2.CX0 5 f fd ["source", "target", "shift", "one", "other", "chart"] (spD K jy) :=
 eS Fu kR fun cdv A outer s H E hr =>
  (cx (cP (i:=6) kR.nd (dZ cA))
  (cx (iT 7 (cP (i:=7) kR.nd (cU c_row_tables hr (b8 (ck 0) (b8 (ck 1) (b8 (ck 2) (b8 (ck 3) cA)))))))
  (cx (dG rfl (vN T.b_zip (fA 7) (fP (cU c_row_tables hr (b8 (ck 0) (b8 (ck 1) (b8 (ck 2) (b8 (ck 4) cA))))))) (fS rfl (cQ (cE (i:=8) kR.nd) (cQ (cE (i:=9) kR.nd) eX))) (cD (iC (i:=6) (dO T.b_tuple (DE.bb (eO (own:=["kind", "path", "row"]) (ix:=[9,5]) (caps:=["onward", "chart"]) (eL (osc:=L2.defScope oR) (oN:=["source", "target", "shift", "one", "other", "chart", "columns", "tables", "table", "onward"]) rfl rfl (by decide +kernel)) rfl (by decide) (qL (gO dh (gO dh (gO dh qM)))) (eF (fP (cU c_first_triples hr (b8 (ck 8) cA)))) (fun _ _ _ _=>(fS rfl (cQ (cE (i:=0) (show (["kind", "path", "row", "onward", "chart"]:List Str).Nodup by decide +kernel)) (cQ (cE (i:=1) (show (["kind", "path", "row", "onward", "chart"]:List Str).Nodup by decide +kernel)) (cQ (cE (i:=2) (show (["kind", "path", "row", "onward", "chart"]:List Str).Nodup by decide +kernel)) eX))))) (fun _ _ _ _=>eW) (fun _ _ _ _=>(yO hr.u200 (cf 3) (DE.bb (fB (b8 (ck 0) (b8 (ck 1) (b8 (cF (DE.bb (cF (cf 4) (cf 0))) (cf 2)) cA)))))))))))))
  (cD (dj (dO T.b_tuple (cf 6)))))))
theorem rB:L2.FnScope ["found"] ["found"] (L2.defScope i9):=⟨rfl,rfl,rfl,by decide +kernel,rfl,by decide +kernel,by decide +kernel⟩
theorem rM {f:Addr}{fd:FuncData}(T:Txt mg)(c_law_whole:fo P w K mg base 1 "_law_whole" ["found"] gq)(Fu:L2.Fun K "_law_numbers" "_law_numbers" i9 f fd):L2.FnOk P w K mg base L2.CX0 2 f fd ["found"] (spD K eM) :=
 eS Fu rB fun cdv A outer s H E hr =>
  (cD (dj (vO (mJ T.b_isinstance T.b_tuple PyProof.Rows.boot_tuple (cf 0)) (yN (yP rfl T.b_all (DE.bb (eO (own:=["x"]) (ix:=[]) (caps:=[]) (eL (osc:=L2.defScope i9) (oN:=["found"]) rfl rfl (by decide +kernel)) rfl (by decide) dh (eF (fA 0)) (fun _ _ _ _=>(cE (i:=0) (show (["x"]:List Str).Nodup by decide +kernel))) (fun _ _ _ _=>eW) (fun _ _ _ _=>(cU c_law_whole hr (b8 (ck 0) cA))))))))))
theorem uZ:L2.FnScope ["found", "due"] ["found", "due"] (L2.defScope ko):=⟨rfl,rfl,rfl,by decide +kernel,rfl,by decide +kernel,by decide +kernel⟩
theorem vk {f:Addr}{fd:FuncData}(T:Txt mg)(c_law_numbers:fo P w K mg base 2 "_law_numbers" ["found"] eM)(Fu:L2.Fun K "_law_chart" "_law_chart" ko f fd):L2.FnOk P w K mg base L2.CX0 3 f fd ["found", "due"] (spD K eo) :=
 eS Fu uZ fun cdv A outer s H E hr =>
  (cD (dj (vO (mJ T.b_isinstance T.b_tuple PyProof.Rows.boot_tuple (cf 0)) (vO (yP rfl T.b_all (DE.bb (eO (own:=["row"]) (ix:=[]) (caps:=[]) (eL (osc:=L2.defScope ko) (oN:=["found", "due"]) rfl rfl (by decide +kernel)) rfl (by decide) dh (eF (fA 0)) (fun _ _ _ _=>(cE (i:=0) (show (["row"]:List Str).Nodup by decide +kernel))) (fun _ _ _ _=>eW) (fun _ _ _ _=>(cU c_law_numbers hr (b8 (ck 0) cA)))))) (yN (Fi (iO hr.units) k6 (cf 0) (cf 1)))))))
theorem fN:L2.FnScope ["script", "first", "form", "most", "rows", "a", "b", "steps", "k", "arrow", "cell"] ["script", "first", "form", "most"] (L2.defScope j3):=⟨rfl,rfl,rfl,by decide +kernel,rfl,by decide +kernel,by decide +kernel⟩
theorem wX {f:Addr}{fd:FuncData}(T:Txt mg)(c_law_draw:fo P w K mg base 1 "_law_draw" ["cell", "k", "bound"] dk)(c_law_cell:fo P w K mg base 2 "_law_cell" ["script", "k"] cK)(Fu:L2.Fun K "_law_book" "_law_book" j3 f fd):L2.FnOk P w K mg base L2.CX0 3 f fd ["script", "first", "form", "most"] (spD K dM) :=
 eS Fu fN fun cdv A outer s H E hr =>
  (cx (cP (i:=4) fN.nd (eO (own:=["kind"]) (ix:=[0,1,3]) (caps:=["script", "first", "most"]) (eL (osc:=L2.defScope j3) (oN:=["script", "first", "form", "most", "rows", "a", "b", "steps", "k", "arrow", "cell"]) rfl rfl (by decide +kernel)) rfl (by decide) dh (dN T.b_range (cF (cf 2) (DE.bb cz))) (fun _ _ _ _=>(cE (i:=0) (show (["kind", "script", "first", "most"]:List Str).Nodup by decide +kernel))) (fun _ _ _ _=>eW) (fun _ _ _ _=>(cU c_law_draw hr (b8 (cU c_law_cell hr (b8 (ck 1) (b8 (ck 2) cA))) (b8 (ck 0) (b8 (dJ L2.op_addA fG (cf 3) (DE.bb cz)) cA)))))))
  (cx (dG rfl (eF (fP (A4 T.b_sorted (DE.bb (cF (cf 2) (DE.bb cz)))))) (fS rfl (cQ (cE (i:=5) fN.nd) (cQ (cE (i:=6) fN.nd) eX))) (cD (gh (DW.tt (CA (fW L2.op_gt z9 (DE.bb (cF (cf 4) (cf 5))) (DE.bb cz)) (zS (fW (iO hr.units) k6 (DE.bb (cF (cf 4) (cf 6))) (DE.bb cz))))) (cD (GI (i:=4) (ck 6) cz)) eg)))
  (cx (cP (i:=7) fN.nd (dZ cA))
  (cx (dG rfl (kB T.b_enumerate (fP (cF (cf 2) (DE.bb cz)))) (fS rfl (cQ (cE (i:=8) fN.nd) (cQ (cE (i:=9) fN.nd) eX))) (cx (cP (i:=10) fN.nd (cU c_law_cell hr (b8 (ck 0) (b8 (dJ L2.op_addA fG (cf 1) (DE.bb cz)) cA))))
  (cD (iC (i:=7) (dO T.b_tuple (DE.bb (eO (own:=["x"]) (ix:=[10,4,8,9]) (caps:=["cell", "rows", "k", "arrow"]) (eL (osc:=L2.defScope j3) (oN:=["script", "first", "form", "most", "rows", "a", "b", "steps", "k", "arrow", "cell"]) rfl rfl (by decide +kernel)) rfl (by decide) dh (dN T.b_range (cF (cf 4) (DE.bb (cF (cf 9) (DE.bb cz))))) (fun _ _ _ _=>(cE (i:=0) (show (["x", "cell", "rows", "k", "arrow"]:List Str).Nodup by decide +kernel))) (fun _ _ _ _=>eW) (fun _ _ _ _=>(cU c_law_draw hr (b8 (ck 1) (b8 (dJ L2.op_addA fG (DE.bb (dJ L2.op_mul mi (DE.bb cz) (cf 3))) (cf 0)) (b8 (cF (cf 2) (DE.bb (cF (cf 4) (DE.bb cz)))) cA))))))))))))
  (cD (dj (fB (b8 (dO T.b_tuple (cf 4)) (b8 (dO T.b_tuple (cf 7)) cA)))))))))
theorem gL:L2.FnScope ["source", "shift", "book", "rows", "steps", "arrow", "way"] ["source", "shift", "book"] (L2.defScope iu):=⟨rfl,rfl,rfl,by decide +kernel,rfl,by decide +kernel,by decide +kernel⟩
theorem tf {f:Addr}{fd:FuncData}(T:Txt mg)(c_went:fo P w K mg base 1 "went" ["book", "path", "row"] oE)(Fu:L2.Fun K "taken_back" "taken_back" iu f fd):L2.FnOk P w K mg base L2.CX0 2 f fd ["source", "shift", "book"] (spD K fT) :=
 eS Fu gL fun cdv A outer s H E hr =>
  (cx (cP (i:=3) gL.nd (dO T.b_tuple (DE.bb (eO (own:=["place"]) (ix:=[2]) (caps:=["book"]) (eL (osc:=L2.defScope iu) (oN:=["source", "shift", "book", "rows", "steps", "arrow", "way"]) rfl rfl (by decide +kernel)) rfl (by decide) dh (eF (fP (cF (cf 1) (DE.bb cz)))) (fun _ _ _ _=>(cE (i:=0) (show (["place", "book"]:List Str).Nodup by decide +kernel))) (fun _ _ _ _=>eW) (fun _ _ _ _=>(cF (DE.bb (cF (cf 1) (DE.bb cz))) (cf 0)))))))
  (cx (cP (i:=4) gL.nd (dZ cA))
  (cx (dG rfl (vN T.b_zip (fP (cF (cf 0) (DE.bb cz))) (fP (cF (cf 1) (DE.bb cz)))) (fS rfl (cQ (cE (i:=5) gL.nd) (cQ (cE (i:=6) gL.nd) eX))) (cD (iC (i:=4) (dO T.b_tuple (DE.bb (eO (own:=["row"]) (ix:=[2,6]) (caps:=["book", "way"]) (eL (osc:=L2.defScope iu) (oN:=["source", "shift", "book", "rows", "steps", "arrow", "way"]) rfl rfl (by decide +kernel)) rfl (by decide) dh (dN T.b_range (cF (cf 3) (DE.bb (cF (cf 5) (DE.bb cz))))) (fun _ _ _ _=>(cE (i:=0) (show (["row", "book", "way"]:List Str).Nodup by decide +kernel))) (fun _ _ _ _=>eW) (fun _ _ _ _=>(cU c_went hr (b8 (ck 1) (b8 (ck 2) (b8 (ck 0) cA)))))))))))
  (cD (dj (fB (b8 (ck 3) (b8 (dO T.b_tuple (cf 4)) cA))))))))
theorem wz:L2.FnScope ["found", "due"] ["found", "due"] (L2.defScope lg):=⟨rfl,rfl,rfl,by decide +kernel,rfl,by decide +kernel,by decide +kernel⟩
theorem wO {f:Addr}{fd:FuncData}(T:Txt mg)(c_law_numbers:fo P w K mg base 2 "_law_numbers" ["found"] eM)(Fu:L2.Fun K "_law_pair" "_law_pair" lg f fd):L2.FnOk P w K mg base L2.CX0 3 f fd ["found", "due"] (spD K iW) :=
 eS Fu wz fun cdv A outer s H E hr =>
  (cx (gh (DW.tt (um (jC (jB (mJ T.b_isinstance T.b_tuple PyProof.Rows.boot_tuple (cf 0)))) (um (fW (pV hr.units) ux (DE.bb (jD T.b_len (cf 0))) (DE.bb cz)) (sj (jC (jB (cU c_law_numbers hr (b8 (cF (cf 0) (DE.bb cz)) cA)))))))) (cD (dj kY)) eg)
  (cx (gh (DW.tt (um (jC (jB (mJ T.b_isinstance T.b_tuple PyProof.Rows.boot_tuple (DE.bb (cF (cf 0) (DE.bb cz)))))) (sj (jC (jB (yP rfl T.b_all (DE.bb (eO (own:=["step"]) (ix:=[]) (caps:=[]) (eL (osc:=L2.defScope lg) (oN:=["found", "due"]) rfl rfl (by decide +kernel)) rfl (by decide) dh (eF (fP (cF (cf 0) (DE.bb cz)))) (fun _ _ _ _=>(cE (i:=0) (show (["step"]:List Str).Nodup by decide +kernel))) (fun _ _ _ _=>eW) (fun _ _ _ _=>(cU c_law_numbers hr (b8 (ck 0) cA))))))))))) (cD (dj kY)) eg)
  (cD (dj (Fi (iO hr.units) k6 (cf 0) (cf 1))))))
theorem DJ:L2.FnScope ["chart", "more"] ["chart", "more"] (L2.defScope u0):=⟨rfl,rfl,rfl,by decide +kernel,rfl,by decide +kernel,by decide +kernel⟩
theorem D6 {f:Addr}{fd:FuncData}(T:Txt mg)  (Fu:L2.Fun K "sent" "sent" u0 f fd):L2.FnOk P w K mg base L2.CX0 1 f fd ["chart", "more"] (spD K fC) :=
 eS Fu DJ fun cdv A outer s H E hr =>
  (cD (dj (dO T.b_tuple (DE.bb (eO (own:=["column", "onward"]) (ix:=[]) (caps:=[]) (eL (osc:=L2.defScope u0) (oN:=["chart", "more"]) rfl rfl (by decide +kernel)) rfl (by decide) (qL (gO dh (gO dh qM))) (vN T.b_zip (fA 0) (fA 1)) (fun _ _ _ _=>(fS rfl (cQ (cE (i:=0) (show (["column", "onward"]:List Str).Nodup by decide +kernel)) (cQ (cE (i:=1) (show (["column", "onward"]:List Str).Nodup by decide +kernel)) eX)))) (fun _ _ _ _=>eW) (fun _ _ _ _=>(dO T.b_tuple (DE.bb (eO (own:=["row"]) (ix:=[1]) (caps:=["onward"]) (yV (by decide +kernel)) rfl (by decide) dh (eF (fA 0)) (fun _ _ _ _=>(cE (i:=0) (show (["row", "onward"]:List Str).Nodup by decide +kernel))) (fun _ _ _ _=>eW) (fun _ _ _ _=>(cF (cf 1) (cf 0))))))))))))
theorem l6:L2.FnScope ["book", "path", "row", "arrow"] ["book", "path", "row"] (L2.defScope nQ):=⟨rfl,rfl,rfl,by decide +kernel,rfl,by decide +kernel,by decide +kernel⟩
theorem wM {f:Addr}{fd:FuncData}(T:Txt mg)  (Fu:L2.Fun K "_law_went" "_law_went" nQ f fd):L2.FnOk P w K mg base L2.CX0 1 f fd ["book", "path", "row"] (spD K kh) :=
 eS Fu l6 fun cdv A outer s H E hr =>
  (cx (dG rfl (eF (fA 1)) (cE (i:=3) l6.nd) (cD (cP (i:=2) l6.nd (cF (DE.bb (cF (DE.bb (cF (cf 0) (DE.bb cz))) (cf 3))) (cf 2)))))
  (cD (dj (ck 2))))
theorem jo:L2.FnScope ["source", "shift", "book", "rows", "steps", "arrow", "way"] ["source", "shift", "book"] (L2.defScope j4):=⟨rfl,rfl,rfl,by decide +kernel,rfl,by decide +kernel,by decide +kernel⟩
theorem wY {f:Addr}{fd:FuncData}(T:Txt mg)(c_law_went:fo P w K mg base 1 "_law_went" ["book", "path", "row"] kh)(Fu:L2.Fun K "_law_back" "_law_back" j4 f fd):L2.FnOk P w K mg base L2.CX0 2 f fd ["source", "shift", "book"] (spD K iY) :=
 eS Fu jo fun cdv A outer s H E hr =>
  (cx (cP (i:=3) jo.nd (dO T.b_tuple (DE.bb (eO (own:=["place"]) (ix:=[2]) (caps:=["book"]) (eL (osc:=L2.defScope j4) (oN:=["source", "shift", "book", "rows", "steps", "arrow", "way"]) rfl rfl (by decide +kernel)) rfl (by decide) dh (eF (fP (cF (cf 1) (DE.bb cz)))) (fun _ _ _ _=>(cE (i:=0) (show (["place", "book"]:List Str).Nodup by decide +kernel))) (fun _ _ _ _=>eW) (fun _ _ _ _=>(cF (DE.bb (cF (cf 1) (DE.bb cz))) (cf 0)))))))
  (cx (cP (i:=4) jo.nd (dZ cA))
  (cx (dG rfl (vN T.b_zip (fP (cF (cf 0) (DE.bb cz))) (fP (cF (cf 1) (DE.bb cz)))) (fS rfl (cQ (cE (i:=5) jo.nd) (cQ (cE (i:=6) jo.nd) eX))) (cD (iC (i:=4) (dO T.b_tuple (DE.bb (eO (own:=["row"]) (ix:=[2,6]) (caps:=["book", "way"]) (eL (osc:=L2.defScope j4) (oN:=["source", "shift", "book", "rows", "steps", "arrow", "way"]) rfl rfl (by decide +kernel)) rfl (by decide) dh (dN T.b_range (cF (cf 3) (DE.bb (cF (cf 5) (DE.bb cz))))) (fun _ _ _ _=>(cE (i:=0) (show (["row", "book", "way"]:List Str).Nodup by decide +kernel))) (fun _ _ _ _=>eW) (fun _ _ _ _=>(cU c_law_went hr (b8 (ck 1) (b8 (ck 2) (b8 (ck 0) cA)))))))))))
  (cD (dj (fB (b8 (ck 3) (b8 (dO T.b_tuple (cf 4)) cA))))))))
theorem wy:L2.FnScope ["shift", "chart"] ["shift", "chart"] (L2.defScope la):=⟨rfl,rfl,rfl,by decide +kernel,rfl,by decide +kernel,by decide +kernel⟩
theorem wL {f:Addr}{fd:FuncData}(T:Txt mg)  (Fu:L2.Fun K "map_back" "map_back" la f fd):L2.FnOk P w K mg base L2.CX0 1 f fd ["shift", "chart"] (spD K gp) :=
 eS Fu wy fun cdv A outer s H E hr =>
  (cD (dj (dO T.b_tuple (DE.bb (eO (own:=["place"]) (ix:=[1]) (caps:=["chart"]) (eL (osc:=L2.defScope la) (oN:=["shift", "chart"]) rfl rfl (by decide +kernel)) rfl (by decide) dh (eF (fP (cF (cf 0) (DE.bb cz)))) (fun _ _ _ _=>(cE (i:=0) (show (["place", "chart"]:List Str).Nodup by decide +kernel))) (fun _ _ _ _=>eW) (fun _ _ _ _=>(cF (cf 1) (cf 0))))))))
theorem ir:L2.FnScope ["script", "source", "target", "shift", "books", "others", "backs", "chart", "out", "along", "due", "ahead", "on"] ["script"] (L2.defScope qm):=⟨rfl,rfl,rfl,by decide +kernel,rfl,by decide +kernel,by decide +kernel⟩
theorem F7 {f:Addr}{fd:FuncData}(T:Txt mg)(c_law_form:fo P w K mg base 3 "_law_form" ["script", "first", "most", "many"] fj)(c_law_shift:fo P w K mg base 3 "_law_shift" ["script", "first", "source", "target"] gu)(c_law_book:fo P w K mg base 3 "_law_book" ["script", "first", "form", "most"] dM)(c_taken_back:fo P w K mg base 2 "taken_back" ["source", "shift", "book"] fT)(c_law_pair:fo P w K mg base 3 "_law_pair" ["found", "due"] iW)(c_law_back:fo P w K mg base 2 "_law_back" ["source", "shift", "book"] iY)(c_law_one_of:fo P w K mg base 4 "_law_one_of" ["form", "one", "other", "cell"] dB)(c_law_cell:fo P w K mg base 2 "_law_cell" ["script", "k"] cK)(c_out_of:fo P w K mg base 5 "out_of" ["source", "target", "shift", "book", "other", "chart"] fM)(c_sent:fo P w K mg base 1 "sent" ["chart", "more"] fC)(c_map_back:fo P w K mg base 1 "map_back" ["shift", "chart"] gp)(c_law_chart:fo P w K mg base 3 "_law_chart" ["found", "due"] eo)(c_map_on:fo P w K mg base 5 "map_on" ["source", "target", "shift", "one", "other", "chart"] jy)(Fu:L2.Fun K "law" "law" qm f fd):L2.FnOk P w K mg base L2.CX0 6 f fd ["script"] (spD K F_law) :=
 eS Fu ir fun cdv A outer s H E hr =>
  (cx (cP (i:=1) ir.nd (cU c_law_form hr (b8 (ck 0) (b8 cz (b8 cz (b8 cz cA))))))
  (cx (cP (i:=2) ir.nd (cU c_law_form hr (b8 (ck 0) (b8 cz (b8 cz (b8 cz cA))))))
  (cx (cP (i:=3) ir.nd (cU c_law_shift hr (b8 (ck 0) (b8 cz (b8 (ck 1) (b8 (ck 2) cA))))))
  (cx (iT 4 (cP (i:=4) ir.nd (dZ (b8 (cU c_law_book hr (b8 (ck 0) (b8 cz (b8 (ck 1) (b8 cz cA))))) (b8 (cU c_law_book hr (b8 (ck 0) (b8 cz (b8 (ck 1) (b8 cz cA))))) cA)))))
  (cx (iT 5 (cP (i:=5) ir.nd (dZ (b8 (cU c_law_book hr (b8 (ck 0) (b8 cz (b8 (ck 2) (b8 cz cA))))) (b8 (cU c_law_book hr (b8 (ck 0) (b8 cz (b8 (ck 2) (b8 cz cA))))) cA)))))
  (cx (iT 6 (zV (i:=6) ir.nd (own:=["other"]) (ix:=[1,3]) (caps:=["source", "shift"]) (eL (osc:=L2.defScope qm) (oN:=["script", "source", "target", "shift", "books", "others", "backs", "chart", "out", "along", "due", "ahead", "on"]) rfl rfl (by decide +kernel)) rfl (by decide) dh (eF (fA 5)) (fun _ _ _ _=>(cE (i:=0) (show (["other", "source", "shift"]:List Str).Nodup by decide +kernel))) (fun _ _ _ _=>eW) (fun _ _ _ _=>(cU c_taken_back hr (b8 (ck 1) (b8 (ck 2) (b8 (ck 0) cA)))))))
  (cx (gh (jC (jB (cU c_law_pair hr (b8 (cF (cf 6) (DE.bb cz)) (b8 (cU c_law_back hr (b8 (ck 1) (b8 (ck 3) (b8 (cF (cf 5) (DE.bb cz)) cA)))) cA))))) (cD (dj kY)) eg)
  (cx (cP (i:=7) ir.nd (cU c_law_one_of hr (b8 (ck 1) (b8 (cF (cf 4) (DE.bb cz)) (b8 (cF (cf 6) (DE.bb cz)) (b8 (cU c_law_cell hr (b8 (ck 0) (b8 cz cA))) cA))))))
  (cx (gh (fW L2.op_isN CZ (cf 7) (DE.bb sv)) (cD (dj kY)) eg)
  (cx (cP (i:=8) ir.nd (cU c_out_of hr (b8 (ck 1) (b8 (ck 2) (b8 (ck 3) (b8 (cF (cf 4) (DE.bb cz)) (b8 (cF (cf 5) (DE.bb cz)) (b8 (ck 7) cA))))))))
  (cx (cP (i:=9) ir.nd (cU c_law_one_of hr (b8 (ck 2) (b8 (cF (cf 5) (DE.bb cz)) (b8 (cF (cf 5) (DE.bb cz)) (b8 (cU c_law_cell hr (b8 (ck 0) (b8 cz cA))) cA))))))
  (cx (gh (fW L2.op_notN EG (cf 9) (DE.bb sv)) (cx (cP (i:=10) ir.nd (cU c_out_of hr (b8 (ck 1) (b8 (ck 2) (b8 (ck 3) (b8 (cF (cf 4) (DE.bb cz)) (b8 (cF (cf 5) (DE.bb cz)) (b8 (cU c_sent hr (b8 (ck 7) (b8 (cU c_map_back hr (b8 (ck 3) (b8 (ck 9) cA))) cA))) cA))))))))
  (cD (gh (jC (jB (cU c_law_chart hr (b8 (cU c_sent hr (b8 (ck 8) (b8 (ck 9) cA))) (b8 (ck 10) cA))))) (cD (dj kY)) eg))) eg)
  (cx (cP (i:=11) ir.nd (cU c_law_one_of hr (b8 (ck 1) (b8 (cF (cf 4) (DE.bb cz)) (b8 (cF (cf 4) (DE.bb cz)) (b8 (cU c_law_cell hr (b8 (ck 0) (b8 cz cA))) cA))))))
  (cx (gh (fW L2.op_isN CZ (cf 11) (DE.bb sv)) (cD (dj kY)) eg)
  (cx (cP (i:=12) ir.nd (cU c_map_on hr (b8 (ck 1) (b8 (ck 2) (b8 (ck 3) (b8 (cF (cf 4) (DE.bb cz)) (b8 (cF (cf 4) (DE.bb cz)) (b8 (ck 11) cA))))))))
  (cx (cP (i:=10) ir.nd (cU c_out_of hr (b8 (ck 1) (b8 (ck 2) (b8 (ck 3) (b8 (cF (cf 4) (DE.bb cz)) (b8 (cF (cf 5) (DE.bb cz)) (b8 (cU c_sent hr (b8 (ck 11) (b8 (ck 7) cA))) cA))))))))
  (cD (dj (cU c_law_chart hr (b8 (cU c_sent hr (b8 (ck 12) (b8 (ck 8) cA))) (b8 (ck 10) cA)))))))))))))))))))))
end
theorem all_mk {l:PySem.W.OpenLaw}{w:World}{K:PySem.W.Frag}{h:Heap}{mg:Str->Option Value}{fa:Addr}(X:K.In h)(G:h.Ns mainGlobals mg)(hfa:mg "law" = some (.ref fa))
  (h1:FH K "_law_stir" nR)
  (h2:FH K "_law_cell" nW)
  (h3:FH K "_law_draw" nV)
  (h4:FH K "_law_form" nS)
  (h5:FH K "_law_paths" me)
  (h6:FH K "_law_fits" nU)
  (h7:FH K "_law_shift" md)
  (h8:FH K "_law_whole" l9)
  (h9:FH K "_law_is_map" lj)
  (h10:FH K "_law_tuples" jL)
  (h11:FH K "_law_maps" j0)
  (h12:FH K "_law_width" l8)
  (h13:FH K "_law_one_of" lh)
  (h14:FH K "triples_along" gY)
  (h15:FH K "end_of" rD)
  (h16:FH K "lengthened" jK)
  (h17:FH K "paths" qK)
  (h18:FH K "head_of" pP)
  (h19:FH K "numbered" nP)
  (h20:FH K "tie" BA)
  (h21:FH K "tied" yd)
  (h22:FH K "row_tables" jJ)
  (h23:FH K "went" yc)
  (h24:FH K "first_triples" jz)
  (h25:FH K "out_of" oQ)
  (h26:FH K "map_on" oR)
  (h27:FH K "_law_numbers" i9)
  (h28:FH K "_law_chart" ko)
  (h29:FH K "_law_book" j3)
  (h30:FH K "taken_back" iu)
  (h31:FH K "_law_pair" lg)
  (h32:FH K "sent" u0)
  (h33:FH K "_law_went" nQ)
  (h34:FH K "_law_back" j4)
  (h35:FH K "map_back" la)
  (h36:FH K "law" qm)
  (z_all:PySem.W.nsIn K mainGlobals "all" = some none)
  (z_bool:PySem.W.nsIn K mainGlobals "bool" = some none)
  (z_dict:PySem.W.nsIn K mainGlobals "dict" = some none)
  (z_enumerate:PySem.W.nsIn K mainGlobals "enumerate" = some none)
  (z_int:PySem.W.nsIn K mainGlobals "int" = some none)
  (z_isinstance:PySem.W.nsIn K mainGlobals "isinstance" = some none)
  (z_len:PySem.W.nsIn K mainGlobals "len" = some none)
  (z_list:PySem.W.nsIn K mainGlobals "list" = some none)
  (z_max:PySem.W.nsIn K mainGlobals "max" = some none)
  (z_min:PySem.W.nsIn K mainGlobals "min" = some none)
  (z_range:PySem.W.nsIn K mainGlobals "range" = some none)
  (z_sorted:PySem.W.nsIn K mainGlobals "sorted" = some none)
  (z_tuple:PySem.W.nsIn K mainGlobals "tuple" = some none)
  (z_zip:PySem.W.nsIn K mainGlobals "zip" = some none) :
  ∃fd:FuncData,(∀(s:Shared) (v:Value),BindsTo s fd ⟨[v],[]⟩ [("script", v)])/\∀base:Heap,K.In base->base.Ns mainGlobals mg->L2.FnOk l.prog w K mg base L2.CX0 6 fa fd ["script"] (spD K F_law):=by
 obtain⟨f0,oc,od,kV,dc,pm,an,cd,ct,sl,a0,l0,c0,k0⟩:=h36;have e:=hfa.symm.trans (PySem.W.mg_of X G a0);cases e;have T:Txt mg:=⟨PySem.W.mg_none_of X G z_all,PySem.W.mg_none_of X G z_bool,PySem.W.mg_none_of X G z_dict,PySem.W.mg_none_of X G z_enumerate,PySem.W.mg_none_of X G z_int,PySem.W.mg_none_of X G z_isinstance,PySem.W.mg_none_of X G z_len,PySem.W.mg_none_of X G z_list,PySem.W.mg_none_of X G z_max,PySem.W.mg_none_of X G z_min,PySem.W.mg_none_of X G z_range,PySem.W.mg_none_of X G z_sorted,PySem.W.mg_none_of X G z_tuple,PySem.W.mg_none_of X G z_zip⟩;have F0:=L2.fun_mk (st:=qm) l0 c0 k0;refine⟨PySem.W.fnOf "law" "law" (L2.defArgs qm) (L2.defBody qm) (L2.defScope qm) .none kV dc pm an cd ct,fun s v=>.of_eq rfl,fun base _ _=>?_⟩;have G_law_stir:=gP l.prog w base X G h1 (by trivial) fun _ _ Fu=>wN T  Fu;have G_law_cell:=gP l.prog w base X G h2 (by trivial) fun _ _ Fu=>wW T G_law_stir Fu;have G_law_draw:=gP l.prog w base X G h3 (by trivial) fun _ _ Fu=>wV T  Fu;have G_law_form:=gP l.prog w base X G h4 (by trivial) fun _ _ Fu=>wR T G_law_cell G_law_draw Fu;have G_law_paths:=gP l.prog w base X G h5 (by trivial) fun _ _ Fu=>vj T  Fu;have G_law_fits:=gP l.prog w base X G h6 (by trivial) fun _ _ Fu=>wU T G_law_paths Fu;have G_law_shift:=gP l.prog w base X G h7 (by trivial) fun _ _ Fu=>vi T G_law_draw G_law_cell G_law_fits G_law_paths Fu;have G_law_whole:=gP l.prog w base X G h8 (by trivial) fun _ _ Fu=>vh T  Fu;have G_law_is_map:=gP l.prog w base X G h9 (by trivial) fun _ _ Fu=>tx T G_law_whole Fu;have G_law_tuples:=gP l.prog w base X G h10 (by trivial) fun _ _ Fu=>tq T  Fu;have G_law_maps:=gP l.prog w base X G h11 (by trivial) fun _ _ Fu=>wQ T G_law_tuples G_law_is_map Fu;have G_law_width:=gP l.prog w base X G h12 (by trivial) fun _ _ Fu=>vg T  Fu;have G_law_one_of:=gP l.prog w base X G h13 (by trivial) fun _ _ Fu=>tw T G_law_width G_law_maps Fu;have G_triples_along:=gP l.prog w base X G h14 (by trivial) fun _ _ Fu=>pX T  Fu;have G_end_of:=gP l.prog w base X G h15 (by trivial) fun _ _ Fu=>AE T  Fu;have G_lengthened:=gP l.prog w base X G h16 (by trivial) fun _ _ Fu=>tm T G_end_of Fu;have G_paths:=gP l.prog w base X G h17 (by trivial) fun _ _ Fu=>BP T G_end_of G_lengthened Fu;have G_head_of:=Ca l.prog w base X G h18 (by trivial) fun _ _ Fu=>yi T  Fu;have G_numbered:=Ca l.prog w base X G h19 (by trivial) fun _ _ Fu=>wK T G_head_of Fu;have G_tie:=Ca l.prog w base X G h20 (by trivial) fun _ _ Fu=>F6 T G_head_of Fu;have G_tied:=gP l.prog w base X G h21 (by trivial) fun _ _ Fu=>D5 T G_tie Fu;have G_row_tables:=gP l.prog w base X G h22 (by trivial) fun _ _ Fu=>tj T G_paths G_triples_along G_numbered G_tied Fu;have G_went:=gP l.prog w base X G h23 (by trivial) fun _ _ Fu=>D4 T  Fu;have G_first_triples:=gP l.prog w base X G h24 (by trivial) fun _ _ Fu=>pY T  Fu;have G_out_of:=gP l.prog w base X G h25 (by trivial) fun _ _ Fu=>AA T G_row_tables G_first_triples G_went Fu;have G_map_on:=gP l.prog w base X G h26 (by trivial) fun _ _ Fu=>AB T G_row_tables G_first_triples Fu;have G_law_numbers:=gP l.prog w base X G h27 (by trivial) fun _ _ Fu=>rM T G_law_whole Fu;have G_law_chart:=gP l.prog w base X G h28 (by trivial) fun _ _ Fu=>vk T G_law_numbers Fu;have G_law_book:=gP l.prog w base X G h29 (by trivial) fun _ _ Fu=>wX T G_law_draw G_law_cell Fu;have G_taken_back:=gP l.prog w base X G h30 (by trivial) fun _ _ Fu=>tf T G_went Fu;have G_law_pair:=gP l.prog w base X G h31 (by trivial) fun _ _ Fu=>wO T G_law_numbers Fu;have G_sent:=gP l.prog w base X G h32 (by trivial) fun _ _ Fu=>D6 T  Fu;have G_law_went:=gP l.prog w base X G h33 (by trivial) fun _ _ Fu=>wM T  Fu;have G_law_back:=gP l.prog w base X G h34 (by trivial) fun _ _ Fu=>wY T G_law_went Fu;have G_map_back:=gP l.prog w base X G h35 (by trivial) fun _ _ Fu=>wL T  Fu;exact F7 T G_law_form G_law_shift G_law_book G_taken_back G_law_pair G_law_back G_law_one_of G_law_cell G_out_of G_sent G_map_back G_law_chart G_map_on F0
end Lw
theorem PySem.W.Fast.tw16477507730941087768:True:=⟨⟩
theorem PySem.W.Fast.tw13663042451174204835:True:=⟨⟩
theorem PySem.W.Fast.tw5799059930985430611:True:=⟨⟩
theorem PySem.W.Fast.tw7769096498033391293:True:=⟨⟩
theorem PySem.W.Fast.tw12314381785848202436:True:=⟨⟩
theorem PySem.W.Fast.tw13006700200054122546:True:=⟨⟩
theorem PySem.W.Fast.tw3480177435813470113:True:=⟨⟩
theorem PySem.W.Fast.tw5255979416838359654:True:=⟨⟩
theorem PySem.W.Fast.tw12495814228863088385:True:=⟨⟩
theorem PySem.W.Fast.tw15896944859880823682:True:=⟨⟩
theorem PySem.W.Fast.tw10346181717808683852:True:=⟨⟩
theorem PySem.W.Fast.tw79338163738397304:True:=⟨⟩
theorem PySem.W.Fast.tw14390660082783263304:True:=⟨⟩
theorem PySem.W.Fast.tw8348749292343694338:True:=⟨⟩
theorem PySem.W.Fast.tw9922231725565405635:True:=⟨⟩
theorem PySem.W.Fast.tw4170209055465034699:True:=⟨⟩
theorem PySem.W.Fast.tw5675625627689670102:True:=⟨⟩
theorem PySem.W.Fast.tw4629747281876529421:True:=⟨⟩
theorem PySem.W.Fast.tw3432682362946800456:True:=⟨⟩
theorem PySem.W.Fast.tw15804770439838403719:True:=⟨⟩
theorem PySem.W.Fast.tw15165146807584365343:True:=⟨⟩
theorem PySem.W.Fast.tw7513229962201002922:True:=⟨⟩
theorem PySem.W.Fast.tw489862873620859194:True:=⟨⟩
theorem PySem.W.Fast.tw5182891546752362049:True:=⟨⟩
theorem PySem.W.Fast.tw1287563530673429712:True:=⟨⟩
theorem PySem.W.Fast.tw6271346821466306002:True:=⟨⟩
theorem PySem.W.Fast.tw15069053484532864302:True:=⟨⟩
theorem PySem.W.Fast.tw11073180945736813439:True:=⟨⟩
theorem PySem.W.Fast.tw13498579246809123130:True:=⟨⟩
theorem PySem.W.Fast.tw13004965313680832901:True:=⟨⟩
open PySem PySem.W PyProof.Rows
set_option maxRecDepth 100000 in
set_option maxHeartbeats 0 in
theorem PySem.Challenge.cw_formshift_k11_whole_natural_holds : PySem.Challenge.rw_formshift_k11_whole_natural.Holds := by
  w_on; o_law; k_head; (case hw => w_witness2)
  k_fill
  refine L2.walk_ofK (l := PySem.Challenge.rw_formshift_k11_whole_natural) (n := 63) (k := 6) (x := "script") (CX := L2.CX0) (sp := fun K => DL.spD K Lw.F_law) rfl (by decide) rfl ⟨rfl, by decide, by decide⟩ (fun w h Y => PySem.W.kIn_of Y) ?F ?S ?C
  case F =>
    intro w mg fa h KX G hmg;refine' Lw.all_mk KX G hmg ?_ ?_ ?_ ?_ ?_ ?_ ?_ ?_ ?_ ?_ ?_ ?_ ?_ ?_ ?_ ?_ ?_ ?_ ?_ ?_ ?_ ?_ ?_ ?_ ?_ ?_ ?_ ?_ ?_ ?_ ?_ ?_ ?_ ?_ ?_ ?_ ?_ ?_ ?_ ?_ ?_ ?_ ?_ ?_ ?_ ?_ ?_ ?_ ?_ ?_
    all_goals first|k_is|trivial
  case S => exact fun K H a ns hl hO hS => DL.law_end hS hl Lw.law_true
  case C => exact fun _ _ _ _ z => z

