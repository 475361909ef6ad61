import PyProof.Rows.All
import Wide.All
import OpenK.AllK
import Wide.FinOn
import Lean
import PyProof.EqAt
import PyProof.EqKinds
import PyProof.TupleCall
import PyProof.CompFree
import PyProof.Rows.CellsFrame
import PyProof.EqLayable
import PyProof.SameEqv
import PyProof.Draws
import PyProof.ZipIter
import PyProof.EnumMake
import PyProof.Rows.SortShellK
import PyProof.ListRange
import PyProof.TupleOfSeq
import PyProof.IsRules
import PyProof.Conv_int_bool
import PyProof.Conv_int
import PyProof.StationsW
import PyProof.RulesAs
import KE.KTryMore
import PyProof.ExcArgs
import PyProof.NsDelKeeps
import PyProof.DictRoadsH
import PyProof.DictIter
import PyProof.Rows.SetFrom
import PyProof.WalksMore
import KE.KDictSum
import KE.KSort
import PyProof.DictItems
import PyProof.AttrMissHeap
import PyProof.ListNew
import PySem.Challenge.RW_formshift_k07_carried
open PySem renaming wpAny_bind → aa, wpAny_pure → ah, wpAny_setField_rec → bc, wpAny_field → bh, wpAny_newObj_type → bp, wpAny_holding → bx
open Option renaming bind_some → ae, map_some → au, bind_eq_some_iff → bN
open PySem.Heap renaming get?_push_of_some → af, get?_push_size → az, lt_size → aD, size_push → bf, get?_update_self → bA, get?_update_other → bX
open List renaming length_map → ai, getElem?_set_ne → aj, range → ao, getElem?_eq_getElem → aq, getD_eq_getElem?_getD → av, length_append → aw, getElem?_map → ay, getElem?_set_self → aA, length_range → aB, map_cons → aC, mem_of_getElem? → aF, mem_cons_of_mem → aG, getElem?_cons_succ → aH, getElem?_cons_zero → aI, length_cons → aJ, replicate → aK, size_toArray → aL, mem_append_right → aO, mem_cons_self → aP, getElem?_append_right → aR, map_append → aU, mem_append_left → aV, getElem?_eq_none → aW, length_set → aX, length_singleton → aY, getElem?_append_left → aZ, getElem?_range → ba, append_assoc → bg, mem_cons → bj, getElem_idxOf → bq, map_map → bt, length_replicate → bu, append_nil → bw, mem_range → bz, not_mem_nil → bC, map_nil → bD, lookup_cons → bG, replicate_succ → bH, ext_getElem? → bI, nil_append → bL, length_zipIdx → bM, filter_cons → bO, flatMap_cons → bP, getElem?_zipIdx → bS, getElem?_replicate → bT, flatten_cons → bU, set → bV, getElem_mem → bY, filter_append → bZ, drop_eq_getElem_cons → WN, length_nil → WO, forIn_cons → WQ, range_eq_range' → WR, all_eq_true → WS, range' → WT, find?_cons → WV, length_filter_le → WW, idxOf_append → WY, nodup_nil → WZ, forIn_nil → W0, zipIdx_cons → W3, cons_append → W4, map_congr_left → W5, set_eq_of_length_le → W6, range_succ → W8, zip_cons_cons → Xa, mem_singleton → Xb, pairwise_mergeSort → Xc, getElem?_toArray → Xf, range'_succ → Xg, getElem_inj → Xh, drop_length → Xi, idxOf_cons_self → Xk, zipIdx_nil → Xl, of_mem_zip → Xm, length_zip → Xn, mergeSort_perm → Xo, flatMap_append → Xp, filterMap_cons → Xq, exists_mem_of_ne_nil → Xu
open Nat renaming le_refl → aE, lt_of_lt_of_le → aM, ne_of_lt → aN, ne_of_gt → br, zero_le → bB, lt_succ_of_lt → bE, lt_irrefl → bF, zero_add → bJ, le_trans → bK, lt_succ_self → bQ, le_succ → bR, lt_or_ge → bW, le_of_succ_le → WX, le_add_right → W2, min_eq_left → W7, le_of_lt → Xd, mul_le_mul_right → Xj, sub_self → Xr, le_total → Xs
open Int renaming toNat_natCast → aQ, emod_lt_of_pos → WU, emod_nonneg → W9
open Array renaming getElem?_eq_getElem → aS, length_toList → aT, getElem?_toList → b4, getElem?_eq_none → Xe, forIn_toList → Xt
local macro_rules | `(⋯) => `(by omega)
set_option compiler.extract_closed false
set_option genSizeOf false
set_option genInjectivity false
set_option Elab.async false
set_option linter.all false
set_option maxRecDepth 100000
namespace L2
open PySem PySem.Spec PyProof.Rows
noncomputable abbrev Ao:=Sum Int Str
noncomputable def KN:Ao->Value->Bool
 |.inl k,v=>Value.isInt k v
 |.inr x,v=>Value.isStrOf x v
noncomputable def RA (w:World):Ao->Int
 |.inl k=>hashInt k
 |.inr x=>hashStr w x
theorem fP:∀{k:Ao}{v:Value},KN k v=true->(∃i t,k=Sum.inl i/\v=Value.int i t)\/(∃x t,k=Sum.inr x/\v=Value.str x t)
 | .inl i,v,h=>by
  obtain⟨t,e⟩:=Value.isInt_shape (k:=i) (v:=v) h;exact .inl ⟨i,t,rfl,e⟩
 | .inr x,v,h=>by
  obtain⟨t,e⟩:=Value.isStrOf_shape (x:=x) (v:=v) h;exact .inr ⟨x,t,rfl,e⟩
theorem Mf (a b:Int):decide ((Sum.inl a:Ao)=Sum.inl b)=(a==b):=by
 by_cases e:a=b
 ·subst e;simp
 ·have h:¬(Sum.inl a:Ao)=Sum.inl b:=fun q=>e (Sum.inl.inj q);rw[decide_eq_false h];exact (beq_eq_false_iff_ne.mpr e).symm
theorem Mc (a b:Str):decide ((Sum.inr a:Ao)=Sum.inr b)=decide (a=b):=by
 by_cases e:a=b
 ·subst e;simp
 ·have h:¬(Sum.inr a:Ao)=Sum.inr b:=fun q=>e (Sum.inr.inj q);rw[decide_eq_false h,decide_eq_false e]
theorem Me (a:Int)(b:Str):decide ((Sum.inl a:Ao)=Sum.inr b)=false:=decide_eq_false (fun q=>nomatch q)
theorem Md (a:Str)(b:Int):decide ((Sum.inr a:Ao)=Sum.inl b)=false:=decide_eq_false (fun q=>nomatch q)
noncomputable def CM (prog:Program)(w:World):PySem.KeyKind prog w Ao where
 is:=KN
 hash:=RA w
 inj:=fun v a b ha hb=>by
  rcases fP ha with ⟨i,t,rfl,rfl⟩|⟨x,t,rfl,rfl⟩
  ·rcases fP hb with ⟨j,u,rfl,e⟩|⟨y,u,rfl,e⟩
   ·injection e with e1 _;rw[e1]
   ·exact nomatch e
  ·rcases fP hb with ⟨j,u,rfl,e⟩|⟨y,u,rfl,e⟩
   ·exact nomatch e
   ·injection e with e1 _;rw[e1]
 byValue:=fun k v h=>by
  rcases fP h with ⟨i,t,rfl,rfl⟩|⟨x,t,rfl,rfl⟩ <;> rfl
 pyHash:=fun hv h=>by
  rcases fP hv with ⟨i,t,rfl,rfl⟩|⟨x,t,rfl,rfl⟩
  ·exact wpAny_pyHash_int h
  ·exact wpAny_pyHash_str h
 eqBool:=fun hu hv h=>by
  rcases fP hu with ⟨i,t,rfl,rfl⟩|⟨x,t,rfl,rfl⟩
  ·rcases fP hv with ⟨j,u,rfl,rfl⟩|⟨y,u,rfl,rfl⟩
   ·rw[Mf] at h;exact wpAny_eqBool_int h
   ·rw[Me] at h;exact SeqAt.EqAt.int_str i t y u _ _ _ _ h
  ·rcases fP hv with ⟨j,u,rfl,rfl⟩|⟨y,u,rfl,rfl⟩
   ·rw[Md] at h;exact SeqAt.EqAt.str_int x t j u _ _ _ _ h
   ·rw[Mc] at h;exact wpAny_eqBool_str h
 «strs»:=fun k x t v h=>by
  rcases fP h with ⟨i,u,rfl,e⟩|⟨y,u,rfl,e⟩
  ·exact nomatch e
  ·injection e with e1 _
   subst e1;cases v <;> rfl
inductive V where
 |non|bl (b:Bool)|int (i:Int)|str (x:Str)|byt (b:Array UInt8)|flt (b:UInt64)|ref (a:Addr)|ty (n:String)
noncomputable def dQ:V->Value->Prop
 |.non,u=>u=Value.none
 |.bl b,u=>u=Value.bool b
 |.int i,u=>∃t,u=Value.int i t
 |.str x,u=>∃t,u=Value.str x t
 |.byt b,u=>∃t,u=Value.bytes b t
 |.flt b,u=>∃t,u=Value.float b t
 |.ref a,u=>u=Value.ref a
 |.ty n,u=>u=Value.type n
noncomputable abbrev cV:List V->List Value->Prop:=Paired dQ
theorem cV.length {xs:List V}{us:List Value}(r:cV xs us):xs.length=us.length:=Paired.length r
theorem cV.get:∀{xs:List V}{us:List Value}{i:Nat}{x:V},cV xs us->xs[i]?=some x->∃u,us[i]?=some u/\dQ x u
 |_,_,_,_,.nil,e=>by simp at e
 |_,_,0,_,.cons r _,e=>by simp at e;subst e;exact⟨_,rfl,r⟩
 | _,_,i+1,x,.cons _ t,e=>by
  obtain⟨u,h1,h2⟩:=cV.get (i:=i) (x:=x) t (by simpa using e);exact⟨u,by simpa using h1,h2⟩
theorem cV.set {x:V}{u:Value}(r:dQ x u):∀{xs:List V}{us:List Value} (i:Nat),cV xs us->cV (xs.set i x) (us.set i u)
 |_,_,_,.nil=>.nil
 |_,_,0,.cons _ t=>.cons r t
 |_,_,i+1,.cons q t=>.cons q (cV.set r i t)
theorem cV.append:∀{xs ys:List V}{us ws:List Value},cV xs us->cV ys ws->cV (xs++ys) (us++ws):=by
 intro xs ys us ws h s;induction h with
 |nil=>exact s
 |cons r t ih=>exact .cons r ih
theorem cV.take:∀{xs:List V}{us:List Value} (n:Nat),cV xs us->cV (xs.take n) (us.take n)
 |_,_,0,_=>.nil
 |_,_,_+1,.nil=>.nil
 |_,_,n+1,.cons r t=>.cons r (cV.take n t)
noncomputable def P9:Option V->Option Value->Prop
 |some v,some u=>dQ v u
 |none,none=>True
 |_,_=>False
noncomputable def KV {κ:Type}:List (κ×V)->List (κ×Value)->Prop:=Paired fun (p:κ×V) (q:κ×Value)=>p.1=q.1/\dQ p.2 q.2
noncomputable def kV:Ao->V
 |.inl i=>.int i
 |.inr x=>.str x
inductive HO where
 |lst (xs:List V)
 |tup (xs:List V)
 |dK (kvs:List (Ao×V))|dT (kvs:List (List Ao×V))
 |set (S:Int->Bool) (n:Nat)
 |ins (C dx:Addr) (fs:List (Str×V))
 |own (x:Addr)
 |xd (fs:List (Str×V))
 |met (f x:Addr)
 |rng (lo hi:Int)
 |frz (o:Obj) (u:HO)
 |tbl (ps:Array Value)
 |ext (φ:Heap->Prop)
noncomputable abbrev Hp:=Addr->Option HO
noncomputable def eF (H:Hp)(a:Addr)(o:HO):Hp:=fun b=>if b=a then some o else H b
theorem cN {H:Hp}{a:Addr}{o:HO}:eF H a o a=some o:=by unfold eF;rw[if_pos rfl]
theorem cC {H:Hp}{a b:Addr}{o:HO}(h:b≠a):eF H a o b=H b:=by unfold eF;rw[if_neg h]
theorem cE {H:Hp}{a b:Addr}{o:HO}(h:H a=some o)(h':H b=none):a≠b:=by
 intro e;subst e;rw[h] at h';cases h'
section
variable (P:Program)(w:World)
noncomputable def ObjOk (H:Hp)(h:Heap)(a:Addr):HO->Prop
 |.lst xs=>xs.length<=sizeLine/\∃(its:List Value) (n:Nat),cV xs its/\h.get? a=some { cls:=.type "list", data:=.seq its.toArray n }
 |.tup xs=>xs.length<=sizeLine/\∃its:List Value,cV xs its/\IsTup h a its.toArray
 |.dK kvs=>kvs.length<=sizeLine/\(a==sysModules)=false/\∃vs,KV kvs vs/\h.DictOf (CM P w) a vs
 | .dT kvs=>kvs.length<=sizeLine/\(a==sysModules)=false/\∃xs:List (List Ao×Addr×Value),
   Paired (fun (p:List Ao×V) (q:List Ao×Addr×Value)=>p.1=q.1/\H q.2.1=some (.tup (p.1.map kV))/\dQ p.2 q.2.2) kvs xs ∧
   ∃o es ep,h.get? a=some o/\o.ExactDict/\o.data=.dict es ep/\es.toList=xs.map (entryOfKey (tupleKind (CM P w)))/\(xs.map (·.1)).Nodup
 |.set S n=>h.SetOf (intKind P w) a S n
 | .ins C dx fs=>H dx=some (.own a)/\fs.length<=1000/\dx≠a/\h.get? a=some (PySem.W.instObj C dx) ∧
   ∃mA,h.Ns1 dx mA/\(∀f,P9 (fs.lookup f) (mA f))/\PySem.Within mA (fs.map (·.1))
 |.own _=>∃o,h.get? a=some o
 |.xd fs=>∃mA,h.Ns1 a mA/\∀f,P9 (fs.lookup f) (mA f)
 |.rng lo hi=>∃t u v,h.get? a=some { cls:=.type "range", data:=.fields #[.int lo t,.int hi u,.int 1 v] }
 |.frz o u=>h.get? a=some o/\ObjOk H h a u
 |.tbl ps=>h.get? a=some { cls:=.none,data:=.fields ps }
 |.met f x=>h.get? a=some (PySem.W.methodObj (.ref f) (.ref x))
 |.ext φ=>φ h/\(∃o,h.get? a=some o)/\∀h1 h2:Heap,φ h1->(∀o,h1.get? a=some o->h2.get? a=some o)->φ h2
def uZ (H:Hp)(h:Heap):Prop:=∀a o,H a=some o->ObjOk P w H h a o
end
section
variable {P:Program}{w:World}{H H':Hp}{h h':Heap}{a:Addr}{o:HO}
theorem ObjOk.lt (x:ObjOk P w H h a o):a<h.objs.size:=by
 cases o with
 |lst xs=>obtain⟨_,_,_,_,e⟩:=x;exact aD e
 |tup xs=>obtain⟨_,_,_,p⟩:=x;exact p.lt
 |dK kvs=>obtain⟨_,_,_,_,o,_,_,e,_⟩:=x;exact aD e
 |dT kvs=>obtain⟨_,_,_,_,o,_,_,e,_⟩:=x;exact aD e
 |set S n=>obtain⟨o,_,_,_,e,_⟩:=x;exact aD e
 |ins C dx fs=>obtain⟨_,_,_,e,_⟩:=x;exact aD e
 |own y=>obtain⟨_,e⟩:=x;exact aD e
 |xd fs=>obtain⟨_,⟨_,_,_,e,_⟩,_⟩:=x;exact aD e
 |rng lo hi=>obtain⟨_,_,_,e⟩:=x;exact aD e
 |frz ob u=>obtain⟨e,_⟩:=x;exact aD e
 |tbl ps=>exact aD (show h.get? a=some _ from x)
 |met f y=>exact aD (show h.get? a=some _ from x)
 |ext φ=>obtain⟨_,⟨_,e⟩,_⟩:=x;exact aD e
theorem Paired.Rv {α β:Type}{F G:α->β->Prop}:∀{L7:List α}{L6:List β},Paired F L7 L6->(∀a b,F a b->G a b)->Paired G L7 L6:=by
 intro L7 L6 h f;induction h with
 |nil=>exact .nil
 |cons r t ih=>exact .cons (f _ _ r) ih
theorem ObjOk.w6 (x:ObjOk P w H h a o)(k:∀b u,(b=a\/H b=some (.own a))->h.get? b=some u->h'.get? b=some u)
  (ho:∀b,H b=some (.own a)->H' b=some (.own a)) (ht:∀b xs,H b=some (.tup xs)->H' b=some (.tup xs)):ObjOk P w H' h' a o:=by
 induction o with
 |lst xs=>obtain⟨z,its,n,r,e⟩:=x;exact⟨z,its,n,r,k _ _ (.inl rfl) e⟩
 |tup xs=>obtain⟨z,its,r,ob,e,c⟩:=x;exact⟨z,its,r,ob,k _ _ (.inl rfl) e,c⟩
 |dK kvs=>obtain⟨z,y,vs,r,ob,es,ep,e,c⟩:=x;exact⟨z,y,vs,r,ob,es,ep,k _ _ (.inl rfl) e,c⟩
 |dT kvs =>
  obtain⟨z,y,xs,r,ob,es,ep,e,c⟩:=x;exact⟨z,y,xs,Paired.Rv r fun p q z=>⟨z.1,ht _ _ z.2.1,z.2.2⟩,ob,es,ep,k _ _ (.inl rfl) e,c⟩
 |set S n=>obtain⟨ob,es,ep,t,e,c⟩:=x;exact⟨ob,es,ep,t,k _ _ (.inl rfl) e,c⟩
 |ins C dx fs =>
  obtain⟨d,z,ne,e,mA,⟨od,es,ep,e2,c⟩,r⟩:=x;exact⟨ho _ d,z,ne,k _ _ (.inl rfl) e,mA,⟨od,es,ep,k _ _ (.inr d) e2,c⟩,r⟩
 |own y=>obtain⟨ob,e⟩:=x;exact⟨ob,k _ _ (.inl rfl) e⟩
 |xd fs=>obtain⟨mA,⟨od,es,ep,e,c⟩,r⟩:=x;exact⟨mA,⟨od,es,ep,k _ _ (.inl rfl) e,c⟩,r⟩
 |rng lo hi=>obtain⟨t,u,v,e⟩:=x;exact⟨t,u,v,k _ _ (.inl rfl) e⟩
 |frz ob u ih=>obtain⟨e,q⟩:=x;exact⟨k _ _ (.inl rfl) e,ih q⟩
 |tbl ps =>
  have e:h.get? a=some { cls:=.none,data:=.fields ps }:=x;show h'.get? a=some { cls:=.none,data:=.fields ps };exact k a _ (.inl rfl) e
 |met f y =>
  have e:h.get? a=some (PySem.W.methodObj (.ref f) (.ref y)):=x;show h'.get? a=some (PySem.W.methodObj (.ref f) (.ref y));exact k a _ (.inl rfl) e
 |ext φ=>obtain⟨p,⟨o,e⟩,st⟩:=x;exact⟨st _ _ p fun o q=>k _ _ (.inl rfl) q,⟨o,k _ _ (.inl rfl) e⟩,st⟩
theorem uZ.lt (x:uZ P w H h)(e:H a=some o):a<h.objs.size:=(x a o e).lt
theorem uZ.fresh (x:uZ P w H h)(e:h.objs.size<=a):H a=none:=by
 cases q:H a with
 |none=>rfl
 |some u=>exact absurd (aM (x.lt q) e) (bF _)
theorem uZ.kept (x:uZ P w H h)(k:∀b u,h.get? b=some u->h'.get? b=some u):uZ P w H h':=fun a o e =>
 (x a o e).w6 (fun b u _ q=>k b u q) (fun _ q=>q) fun _ _ q=>q
theorem uZ.laid (x:uZ P w H h)(k:∀b u,h.get? b=some u->h'.get? b=some u)(hp:h.objs.size<=a)(new:ObjOk P w (eF H a o) h' a o):uZ P w (eF H a o) h':=fun b u e=>by
 have hn:=x.fresh hp;by_cases hb:b=a
 ·subst hb;rw[cN] at e;cases e;exact new
 ·rw[cC hb] at e;exact (x b u e).w6 (fun c v _ q=>k c v q) (fun c q=>by rw[cC (cE q hn)];exact q) fun c xs q=>by rw[cC (cE q hn)];exact q
end
def Rd (H:Hp)(a:Addr)(u:HO):Prop:=H a=some u\/∃o,H a=some (.frz o u)
theorem Rd.ok {P:Program}{w:World}{H:Hp}{h:Heap}{a:Addr}{u:HO}(r:Rd H a u)(x:uZ P w H h):ObjOk P w H h a u:=by
 rcases r with r|⟨o,r⟩
 ·exact x a u r
 ·obtain⟨_,q⟩:=x a _ r;exact q
noncomputable def QI:Option HO->Prop
 |some (.lst _)=>True
 |some (.dK _)=>True
 |some (.dT _)=>True
 |some (.set _ _)=>True
 |some (.ins _ _ _)=>True
 |some (.ext _)=>True
 |_=>False
section
variable {P:Program}{w:World}{H:Hp}{h h':Heap}{x e:Addr}{o':HO}
theorem uZ.write (ok:uZ P w H h)(mu:QI (H x))(he:e=x\/H e=some (.own x))(k:∀b u,b≠e->h.get? b=some u->h'.get? b=some u)(Nt:∃u,h'.get? e=some u)
  (new:ObjOk P w (eF H x o') h' x o'):uZ P w (eF H x o') h':=fun b u q=>by
 have OC:∀c y,H c=some (.own y)->c≠x:=fun c y r z=>by subst z;rw[r] at mu;exact mu
 have Rn:∀c xs,H c=some (.tup xs)->c≠x:=fun c xs r z=>by subst z;rw[r] at mu;exact mu
 by_cases hb:b=x
 ·subst hb;rw[cN] at q;cases q;exact new
 ·rw[cC hb] at q;by_cases Mt:b=e
  ·have q':H b=some (.own x):=by
    rcases he with z|z
    ·exact absurd (Mt.trans z) hb
    ·rw[Mt];exact z
   rw[q] at q';cases q';obtain⟨v,hv⟩:=Nt;exact⟨v,by rw[Mt];exact hv⟩
  ·refine (ok b u q).w6 (fun c v hc r=>k c v ?_ r) (fun c r=>by rw[cC (OC c b r)];exact r) fun c xs r=>by rw[cC (Rn c xs r)];exact r
   rcases hc with rfl|hc
   ·exact Mt
   ·rintro rfl;rcases he with z|z
    ·exact OC c b hc z
    ·rw[hc] at z;cases z;exact hb rfl
end
structure Un (fs ex:List Addr)(H H':Hp)(h h':Heap):Prop where
 keep:∀b o,h.get? b=some o->H b=none->b∉fs->b∉ex->h'.get? b=some o
 slot:∀b o,h.get? b=some o->H b=none->b∈fs->b∉ex->∃sl,h'.get? b=some { o with slots:=sl }
 free:∀b o,h.get? b=some o->H b=none->b∉ex->H' b=none
 there:∀b o,h.get? b=some o->b∉ex->∃o',h'.get? b=some o'
 sR:∀b xs,H b=some (.tup xs)->H' b=some (.tup xs)
 r9:∀b o u,H b=some (.frz o u)->H' b=some (.frz o u)
 sU:∀b ps,H b=some (.tbl ps)->∃more,H' b=some (.tbl (ps++more))
section
variable {fs Wt ex ex':List Addr}{H H1 H2:Hp}{h h1 h2 h':Heap}{a x e:Addr}{o:HO}
theorem Un.any (u:Un fs ex H H1 h h1){b:Addr}{ob:Obj}(q:h.get? b=some ob)(n:H b=none)(hx:b∉ex):∃sl,h1.get? b=some { ob with slots:=sl }:=by
 by_cases hb:b∈fs
 ·exact u.slot b ob q n hb hx
 ·exact⟨ob.slots,u.keep b ob q n hb hx⟩
theorem Un.trans (a:Un fs ex H H1 h h1)(b:Un fs ex H1 H2 h1 h2):Un fs ex H H2 h h2 where
 keep:=fun c ob q n hc hx=>b.keep c ob (a.keep c ob q n hc hx) (a.free c ob q n hx) hc hx
 slot:=fun c ob q n hc hx=>by
  obtain⟨sl,e1⟩:=a.slot c ob q n hc hx;obtain⟨Q6,e2⟩:=b.slot c _ e1 (a.free c ob q n hx) hc hx;exact⟨Q6,e2⟩
 free:=fun c ob q n hx=>by
  obtain⟨o',e1⟩:=a.there c ob q hx;exact b.free c o' e1 (a.free c ob q n hx) hx
 there:=fun c ob q hx=>by
  obtain⟨o',e1⟩:=a.there c ob q hx;exact b.there c o' e1 hx
 sR:=fun c xs q=>b.sR c xs (a.sR c xs q)
 r9:=fun c ob xs q=>b.r9 c ob xs (a.r9 c ob xs q)
 sU:=fun c ps q=>by
  obtain⟨m1,e1⟩:=a.sU c ps q;obtain⟨m2,e2⟩:=b.sU c _ e1;exact⟨m1++m2,by rw[e2,Array.append_assoc]⟩
theorem Un.kept (k:∀b u,h.get? b=some u->h'.get? b=some u):Un fs ex H H h h' :=
 ⟨fun b ob q _ _ _=>k b ob q,fun b ob q _ _ _=>⟨ob.slots,k b ob q⟩,fun _ _ _ n _=>n,fun b ob q _=>⟨ob,k b ob q⟩,fun _ _ q=>q,fun _ _ _ q=>q,fun _ ps q=>⟨#[],by rw[q];simp⟩⟩
theorem Un.refl:Un fs ex H H h h:=Un.kept fun _ _ q=>q
theorem Un.laid (k:∀b u,h.get? b=some u->h'.get? b=some u)(hp:h.objs.size<=a)(hn:H a=none):Un fs ex H (eF H a o) h h' where
 keep:=fun b u q _ _ _=>k b u q
 slot:=fun b u q _ _ _=>⟨u.slots,k b u q⟩
 free:=fun b u q n _=>by rw[cC (aN (aM (aD q) hp))];exact n
 there:=fun b u q _=>⟨u,k b u q⟩
 sR:=fun b xs q=>by rw[cC (cE q hn)];exact q
 r9:=fun b u xs q=>by rw[cC (cE q hn)];exact q
 sU:=fun b ps q=>⟨#[],by rw[cC (cE q hn),q];simp⟩
theorem Un.write (mu:QI (H x))(he:e=x\/H e=some (.own x))(k:∀b u,b≠e->h.get? b=some u->h'.get? b=some u)(Nt:∃u,h'.get? e=some u):Un fs ex H (eF H x o) h h':=by
 have hx:∀b,H b=none->b≠x:=fun b n z=>by subst z;rw[n] at mu;exact mu
 have hb:∀b,H b=none->b≠e:=fun b n z=>by
  subst z;rcases he with r|r
  ·exact hx b n r
  ·rw[n] at r;cases r
 have hm:∀b u,H b=some u->¬QI (some u)->b≠x:=fun b u q nm z=>by subst z;rw[q] at mu;exact nm mu
 refine⟨fun b u q n _ _=>k b u (hb b n) q,fun b u q n _ _=>⟨u.slots,k b u (hb b n) q⟩,fun b u q n _=>by rw[cC (hx b n)];exact n,fun b u q _=>?_,
  fun b xs q=>by rw[cC (hm b _ q fun z=>z)];exact q,fun b u xs q=>by rw[cC (hm b _ q fun z=>z)];exact q,fun b ps q=>⟨#[],by rw[cC (hm b _ q fun z=>z),q];simp⟩⟩
 by_cases Mt:b=e
 ·subst Mt;exact Nt
 ·exact⟨u,k b u Mt q⟩
end
noncomputable def Qi (h:Heap)(H:Hp):List Addr:=(ao h.objs.size).filter fun a=>(H a).isSome
noncomputable def xR (h:Heap)(H:Hp):Heap:=PySem.W.hideAll h (Qi h H)
theorem EB (h:Heap)(H:Hp):(xR h H).objs.size=h.objs.size:=PySem.W.hideAll_size _ _
theorem G3 {h:Heap}{H:Hp}{b:Addr}{o:Obj}(e:h.get? b=some o)(n:H b=none):(xR h H).get? b=some o :=
 PySem.W.hideAll_get _ e fun hm=>by
  have q:(H b).isSome=true:=(List.mem_filter.mp hm).2;rw[n] at q;simp at q
theorem Jm {h:Heap}{H:Hp}{b:Addr}{o:Obj}(e:(xR h H).get? b=some o):h.get? b=some o/\H b=none:=by
 have e':h.get? b=some o:=PySem.W.of_hideAll (Qi h H) e;refine⟨e',?_⟩;cases q:H b with
 |none=>rfl
 |some x =>
  have hm:b∈Qi h H:=List.mem_filter.mpr ⟨List.mem_range.mpr (aD e'),by simp[q]⟩;have z:(xR h H).get? b=none:=PySem.W.hideAll_none (Qi h H) hm;rw[z] at e;cases e
noncomputable def Ki (g h:Heap)(L:Addr):List (Addr×Obj):=(ao h.objs.size).filterMap fun a=>if a=L\/(g.get? a).isSome=true then none else (h.get? a).map fun o=>(a,o)
noncomputable def gm (g h:Heap)(L d:Addr):List (Addr×Obj):=(Ki g h L).filter fun p=>decide (p.1≠d)
structure Mod (K:PySem.W.Frag)(mg:Str->Option Value)(base:Heap):Prop where
 Nh:K.In base
 glob:base.Ns mainGlobals mg
 blt:∃mb,base.Ns builtinsNs mb/\∀x:Str,x ≠ "__name__" ->mb x=bootBuiltins x
 nolimit:base.NoLimit
structure Cx where
 prog:Program
 w:World
 K:PySem.W.Frag
 mg:Str->Option Value
 base:Heap
 A:Around
 N:List Str
 eC:Shared
 cM:Hp
 env:Env
 outer:List Env
 stack:List Env
 ex:List Addr
 fn:Str->Bool
 calm:Bool
 pn:List (Addr×Obj)
 xe:Value->Shared->Prop
noncomputable def EG (l:List Env):List Addr:=l.filterMap (·.frame)
noncomputable abbrev Cx.fs (X:Cx):List Addr:=EG X.outer
def Vis (sc:Scope)(x:Str):Prop:=sc.names.lookup x=some .local\/sc.names.lookup x=some .cell\/sc.names.lookup x=some .free
def Loc (sc:Scope)(x:Str):Prop:=sc.names.lookup x=some .local\/sc.names.lookup x=some .cell
noncomputable def Tf (env:Env)(h:Heap)(m:Str->Option Value)(x:Str)(u:Value):Prop :=
 (env.kindOf x=some .local/\m x=some u)\/((env.kindOf x=some .cell\/env.kindOf x=some .free)/\∃c,env.cells.lookup x=some c/\h.IsCell c (some u))
structure Cx.Ok (X:Cx):Prop where
 mod:Mod X.K X.mg X.base
 kind:X.env.scope.kind=.function
 glob:X.env.globals=mainGlobals
 blt:X.env.builtins=builtinsNs
 above:X.eC.heap.objs.size<=X.env.locals
 inj:∀x y c,X.env.cells.lookup x=some c->X.env.cells.lookup y=some c->x=y
 has:∀x,(X.env.kindOf x=some .cell\/X.env.kindOf x=some .free)->∃c,X.env.cells.lookup x=some c
 PX:∀x c,X.fn x=true->X.env.cells.lookup x=some c->X.eC.heap.objs.size<=c
 hd:X.calm=true->X.A.handled=none
 frames:X.A.frames=some X.stack
 N6:X.stack=X.outer\/(X.stack=X.env::X.outer/\X.env.frame=some X.env.locals)
 SS:∀b∈X.ex,b≠X.env.locals/\∀x c,X.env.cells.lookup x=some c->c≠b
 bs:∀b o,X.base.get? b=some o->X.eC.heap.get? b=some o/\X.cM b=none
 K8:X.base.objs.size<=X.eC.heap.objs.size
 Gv:∀b o,X.base.get? b=some o->b∉X.ex
 J2:∀b∈X.ex,b∉X.fs
 ub:X.eC.heap.FunFrames X.base X.outer
 Nx:∀b∈X.fs,X.cM b=none
structure Inv (X:Cx)(pins:List (Addr×Obj))(σ:List (Option V))(H:Hp)(s:Shared):Prop where
 ok:X.Ok
 os:s.os=X.eC.os
 bare:AllBare s.gens
 base:Un X.fs X.ex X.cM H X.eC.heap s.heap
 loc:∃m,s.heap.Ns X.env.locals m/\∀(i:Nat) (x:Str) (v:V),X.N[i]?=some x->σ[i]?=some (some v)->Vis X.env.scope x->∃u,dQ v u/\Tf X.env s.heap m x u
 cell:∀x c,X.env.cells.lookup x=some c->∃v,s.heap.IsCell c v
 free:H X.env.locals=none
 m9:∀x c,X.env.cells.lookup x=some c->H c=none
 pin:∀p∈X.pn++pins,s.heap.get? p.1=some p.2/\H p.1=none/\p.1≠X.env.locals/\p.1∉X.fs/\∀v,p.2.data≠.cell v
 fT:uZ X.prog X.w H s.heap
 len:σ.length=X.N.length
section
variable {X:Cx}{pins:List (Addr×Obj)}{σ:List (Option V)}{H H':Hp}{s:Shared}{h':Heap}
theorem Cx.Ok.Rp (ok:X.Ok){b:Addr}{o:Obj}(e:X.base.get? b=some o):b∉X.fs:=fun hb=>by
 have:=(ok.ub.mem hb).1;rw[e] at this;cases this
theorem Inv.bs (I:Inv X pins σ H s):∀b o,X.base.get? b=some o->s.heap.get? b=some o/\H b=none:=fun b o e =>
 ⟨I.base.keep b o (I.ok.bs b o e).1 (I.ok.bs b o e).2 (I.ok.Rp e) (I.ok.Gv b o e),I.base.free b o (I.ok.bs b o e).1 (I.ok.bs b o e).2 (I.ok.Gv b o e)⟩
theorem Inv.bk (I:Inv X pins σ H s):∀b o,X.base.get? b=some o->s.heap.get? b=some o:=fun b o e=>(I.bs b o e).1
theorem Inv.mod (I:Inv X pins σ H s):Mod X.K X.mg X.base:=I.ok.mod
theorem Inv.GR (I:Inv X pins σ H s):X.K.In s.heap:=I.ok.mod.Nh.keeps I.bk
theorem Inv.nolimit (I:Inv X pins σ H s):s.heap.NoLimit:=I.ok.mod.nolimit.keeps I.bk
theorem Inv.lt (I:Inv X pins σ H s):X.env.locals<s.heap.objs.size:=let ⟨_,hn,_⟩:=I.loc;hn.lt
theorem Inv.sz (I:Inv X pins σ H s):X.eC.heap.objs.size<=s.heap.objs.size:=bK I.ok.above (Xd I.lt)
theorem Inv.Ro (I:Inv X pins σ H s){a:Addr}(h:s.heap.objs.size<=a):a∉X.fs:=fun hb=>by
 obtain⟨_,o,ho,_⟩:=I.ok.ub.mem hb;exact absurd (aM (aD ho) (bK I.sz h)) (bF _)
theorem Inv.MG (I:Inv X pins σ H s):∀x c,X.env.cells.lookup x=some c->c≠X.env.locals:=fun x c e z=>by
 obtain⟨v,o,ho,hd⟩:=I.cell x c e;obtain⟨m,⟨o',es,ep,JS,Sv,_⟩,_⟩:=I.loc;rw[z,JS] at ho;cases ho;rw[Sv] at hd;cases hd
theorem Inv.ub (I:Inv X pins σ H s):s.heap.FunFrames X.base X.outer:=by
 have all:∀(l:List Env),(∀b∈EG l,b∈X.fs)->X.eC.heap.FunFrames X.base l->s.heap.FunFrames X.base l:=by
  intro l;induction l with
  |nil=>intro _ _;trivial
  |cons env r ih =>
   intro hs hl;obtain⟨hk,⟨L,o,hf,hn,ho,hd⟩,hr⟩:=hl;have hL:L∈X.fs:=hs L (by unfold EG;rw[Xq,hf];exact aP);obtain⟨sl,e⟩:=I.base.slot L o ho (I.ok.Nx L hL) hL fun z=>I.ok.J2 L z hL;exact⟨hk,⟨L,_,hf,hn,e,hd⟩,ih (fun b hb=>hs b (by unfold EG;rw[Xq,hf];exact aG _ hb)) hr⟩
 exact all X.outer (fun _ hb=>hb) I.ok.ub
theorem Inv.stack (I:Inv X pins σ H s):s.heap.FunFrames X.base X.stack:=by
 rcases I.ok.N6 with e|⟨e,hf⟩
 ·rw[e];exact I.ub
 ·rw[e];obtain⟨m,hn,_⟩:=I.loc;refine .cons (by rw[I.ok.kind];decide) hf hn ?_ I.ub;exact Heap.get?_none_of_le (bK I.ok.K8 I.ok.above)
theorem Inv.sX (I:Inv X pins σ H s):∀b∈EG X.stack,b∈X.env.locals::X.fs:=fun b hb=>by
 rcases I.ok.N6 with e|⟨e,hf⟩
 ·rw[e] at hb;exact aG _ hb
 ·rw[e] at hb;unfold EG at hb;rw[Xq,hf] at hb;exact hb
theorem Inv.Cr (I:Inv X pins σ H s):∀b∈EG X.stack,H b=none:=fun b hb=>by
 rcases List.mem_cons.mp (I.sX b hb) with e|hb
 ·rw[e];exact I.free
 ·obtain⟨_,o,ho,_⟩:=I.ok.ub.mem hb;exact I.base.free b o ho (I.ok.Nx b hb) fun z=>I.ok.J2 b z hb
theorem Inv.step {g':Array GenState}{t':Nat}{d':Drawn}{ch:List Addr}(I:Inv X pins σ H s)
  (Ie:∀b∈ch,(b∈X.ex\/X.eC.heap.objs.size<=b)/\b≠X.env.locals/\(∀x c,X.env.cells.lookup x=some c->c≠b)/\∀p∈X.pn++pins,p.1≠b)
  (keep:∀b o,b≠X.env.locals->b∉X.fs->b∉ch->s.heap.get? b=some o->H b=none->h'.get? b=some o)
  (slot:∀b o,b≠X.env.locals->b∈X.fs->b∉ch->s.heap.get? b=some o->H b=none->∃sl,h'.get? b=some { o with slots:=sl }) (free:∀b o,b∉ch->s.heap.get? b=some o->H b=none->H' b=none)
  (there:∀b o,b∉ch->s.heap.get? b=some o->∃o',h'.get? b=some o')
  (sR:∀b xs,H b=some (.tup xs)->H' b=some (.tup xs)) (r9:∀b o u,H b=some (.frz o u)->H' b=some (.frz o u)) (sU:∀b ps,H b=some (.tbl ps)->∃more,H' b=some (.tbl (ps++more)))
  (ns:∀m,s.heap.Ns X.env.locals m->h'.Ns X.env.locals m) (fT:uZ X.prog X.w H' h') (hg:AllBare g') :
  Inv X pins σ H' { s with heap:=h',gens:=g',drawn:=d',toks:=t' }:=by
 have TC:∀b o,X.eC.heap.get? b=some o->b≠X.env.locals:=fun b o e=>aN (aM (aD e) I.ok.above);have Qr:∀b o,X.eC.heap.get? b=some o->b∉X.ex->b∉ch:=fun b o e hx hb=>by
  rcases (Ie b hb).1 with z|z
  ·exact hx z
  ·exact absurd (aM (aD e) z) (bF _)
 have cellK:∀x c,X.env.cells.lookup x=some c->∀v,s.heap.IsCell c v->h'.IsCell c v:=fun x c e v zz=>by
  obtain ⟨o,ho,hd⟩:=zz;have OI:c∉ch:=fun z=>(Ie c z).2.2.1 x c e rfl;by_cases hc:c∈X.fs
  ·obtain⟨sl,q⟩:=slot c o (I.MG x c e) hc OI ho (I.m9 x c e);exact⟨_,q,hd⟩
  ·exact⟨o,keep c o (I.MG x c e) hc OI ho (I.m9 x c e),hd⟩
 refine⟨I.ok,I.os,hg,⟨fun b o e n hb hx=>?_,fun b o e n hb hx=>?_,fun b o e n hx=>?_,fun b o e hx=>?_,fun b xs e=>sR b xs (I.base.sR b xs e),fun b o xs e=>r9 b o xs (I.base.r9 b o xs e),fun b ps e=>?_⟩,?_,fun x c e=>?_,?_,fun x c e=>?_,fun p hp=>?_,fT,I.len⟩
 ·exact keep b o (TC b o e) hb (Qr b o e hx) (I.base.keep b o e n hb hx) (I.base.free b o e n hx)
 ·obtain⟨sl,e1⟩:=I.base.slot b o e n hb hx;obtain⟨Q6,e2⟩:=slot b _ (TC b o e) hb (Qr b o e hx) e1 (I.base.free b o e n hx);exact⟨Q6,e2⟩
 ·obtain⟨o',e1⟩:=I.base.there b o e hx;exact free b o' (Qr b o e hx) e1 (I.base.free b o e n hx)
 ·obtain⟨o',e1⟩:=I.base.there b o e hx;exact there b o' (Qr b o e hx) e1
 ·obtain⟨m1,e1⟩:=I.base.sU b ps e;obtain⟨m2,e2⟩:=sU b _ e1;exact⟨m1++m2,by rw[e2,Array.append_assoc]⟩
 ·obtain⟨m,hn,hl⟩:=I.loc;refine⟨m,ns m hn,fun i x v e1 e2 e3=>?_⟩;obtain⟨u,r,l⟩:=hl i x v e1 e2 e3;refine⟨u,r,?_⟩;rcases l with l|⟨k,c,e,z⟩
  ·exact .inl l
  ·exact .inr ⟨k,c,e,cellK x c e _ z⟩
 ·obtain⟨v,z⟩:=I.cell x c e;exact⟨v,cellK x c e v z⟩
 ·obtain⟨m,⟨o,_,_,ho,_⟩,_⟩:=I.loc;exact free _ o (fun z=>(Ie _ z).2.1 rfl) ho I.free
 ·obtain⟨v,o,ho,hd⟩:=I.cell x c e;exact free c o (fun z=>(Ie c z).2.2.1 x c e rfl) ho (I.m9 x c e)
 ·obtain⟨e,n,ne,nf,d⟩:=I.pin p hp;have OI:p.1∉ch:=fun z=>(Ie p.1 z).2.2.2 p hp rfl;exact⟨keep p.1 p.2 ne nf OI e n,free p.1 p.2 OI e n,ne,nf,d⟩
theorem Inv.un {t':Nat}(I:Inv X pins σ H s)(u:Un X.fs [] H H' s.heap h')(fT:uZ X.prog X.w H' h'):Inv X pins σ H' { s with heap:=h',toks:=t' }:=by
 obtain⟨m,⟨o,es,ep,ho,r⟩,_⟩:=id I.loc;obtain⟨sl,hL⟩:=u.any ho I.free (by simp);exact I.step (g':=s.gens) (d':=s.drawn) (ch:=[]) (fun _ z=>nomatch z) (fun b o _ hb _ e n=>u.keep b o e n hb (by simp)) (fun b o _ hb _ e n=>u.slot b o e n hb (by simp)) (fun b o _ e n=>u.free b o e n (by simp)) (fun b o _ e=>u.there b o e (by simp)) u.sR u.r9 u.sU (fun m' hm=>by
  obtain⟨o',es',J4,JS,r'⟩:=hm;rw[ho] at JS;cases JS;exact⟨_,es',J4,hL,r'⟩) fT I.bare
theorem Inv.call {g':Array GenState}{t':Nat}{d':Drawn}{ch:List Addr}(I:Inv X pins σ H s)(u:Un (EG X.stack) ch H H' s.heap h')(fT:uZ X.prog X.w H' h')(hg:AllBare g')
  (Ie:∀b∈ch,(b∈X.ex\/X.eC.heap.objs.size<=b)/\b≠X.env.locals/\(∀x c,X.env.cells.lookup x=some c->c≠b)/\∀p∈X.pn++pins,p.1≠b) :
  Inv X pins σ H' { s with heap:=h',gens:=g',drawn:=d',toks:=t' }:=by
 obtain⟨m,⟨o,es,ep,ho,r⟩,_⟩:=id I.loc;obtain⟨sl,hL⟩:=u.any ho I.free fun z=>(Ie _ z).2.1 rfl;exact I.step (ch:=ch) Ie (fun b o hL hb hc e n=>u.keep b o e n (fun z=>(List.mem_cons.mp (I.sX b z)).elim hL hb) hc) (fun b o _ _ hc e n=>u.any e n hc) (fun b o hc e n=>u.free b o e n hc) (fun b o hc e=>u.there b o e hc) u.sR u.r9 u.sU (fun m' hm=>by
  obtain⟨o',es',J4,JS,r'⟩:=hm;rw[ho] at JS;cases JS;exact⟨_,es',J4,hL,r'⟩) fT hg
theorem Inv.turned {t':Nat}{it:Addr}(I:Inv X pins σ H s)(k:∀b o,b≠it->s.heap.get? b=some o->h'.get? b=some o)(hn:H it=none)(hL:it≠X.env.locals)
  (h1:it∈X.ex\/X.eC.heap.objs.size<=it) (h2:∀x c,X.env.cells.lookup x=some c->c≠it) (h3:∀p∈X.pn++pins,p.1≠it):Inv X pins σ H { s with heap:=h',toks:=t' }:=by
 have Tz:∀b u,H b=some u->b≠it:=fun b u e z=>by rw[z,hn] at e;cases e
 refine I.step (g':=s.gens) (d':=s.drawn) (ch:=[it]) (fun b hb=>?_) (fun b o _ _ hc e _=>k b o (fun z=>hc (by simp[z])) e) (fun b o _ _ hc e _=>⟨o.slots,k b o (fun z=>hc (by simp[z])) e⟩) (fun _ _ _ _ n=>n)
  (fun b o hc e=>⟨o,k b o (fun z=>hc (by simp[z])) e⟩) (fun _ _ e=>e) (fun _ _ _ e=>e) (fun b ps e=>⟨#[],by rw[e];simp⟩) (fun m hm=>?_) (fun b u e=>?_) I.bare
 ·have e:b=it:=by simpa using hb
  subst e;exact⟨h1,hL,h2,h3⟩
 ·obtain⟨o,es,ep,ho,r⟩:=hm;exact⟨o,es,ep,k _ o (Ne.symm hL) ho,r⟩
 ·refine (I.fT b u e).w6 (fun c v hc q=>k c v ?_ q) (fun _ q=>q) fun _ _ q=>q;rcases hc with z|z
  ·rw[z];exact Tz b u e
  ·exact Tz c _ z
theorem Inv.tok (I:Inv X pins σ H s)(t:Nat):Inv X pins σ H { s with toks:=t }:=I.un (h':=s.heap) (t':=t) Un.refl I.fT
theorem Inv.kept {t':Nat}(I:Inv X pins σ H s)(k:∀b u,s.heap.get? b=some u->h'.get? b=some u):Inv X pins σ H { s with heap:=h',toks:=t' }:=I.un (Un.kept k) (I.fT.kept k)
theorem Inv.laid {a:Addr}{o:HO}{t':Nat}(I:Inv X pins σ H s)(k:∀b u,s.heap.get? b=some u->h'.get? b=some u)(hp:s.heap.objs.size<=a)(new:ObjOk X.prog X.w (eF H a o) h' a o) :
  Inv X pins σ (eF H a o) { s with heap:=h',toks:=t' }:=I.un (Un.laid k hp (I.fT.fresh hp)) (I.fT.laid k hp new)
theorem Inv.write {x e:Addr}{o:HO}{t':Nat}(I:Inv X pins σ H s)(mu:QI (H x))(he:e=x\/H e=some (.own x))(k:∀b u,b≠e->s.heap.get? b=some u->h'.get? b=some u)(Nt:∃u,h'.get? e=some u)
  (new:ObjOk X.prog X.w (eF H x o) h' x o):Inv X pins σ (eF H x o) { s with heap:=h',toks:=t' }:=I.un (Un.write mu he k Nt) (I.fT.write mu he k Nt new)
theorem Inv.CF {Ky:List (Addr×Obj)}(I:Inv X pins σ H s)(h:∀p∈Ky,s.heap.get? p.1=some p.2/\H p.1=none/\p.1≠X.env.locals/\p.1∉X.fs/\∀v,p.2.data≠.cell v):Inv X Ky σ H s :=
 ⟨I.ok,I.os,I.bare,I.base,I.loc,I.cell,I.free,I.m9,fun p hp=>(List.mem_append.mp hp).elim (fun z=>I.pin p (aV _ z)) (h p),I.fT,I.len⟩
theorem zq {N:List Str}(hN:N.Nodup){i j:Nat}{x:Str}(a:N[i]?=some x)(b:N[j]?=some x):i=j:=by
 obtain⟨h1,e1⟩:=List.getElem?_eq_some_iff.mp a;obtain⟨h2,e2⟩:=List.getElem?_eq_some_iff.mp b;exact (Xh hN).mp (e1.trans e2.symm)
theorem vM {M:Model}{A:Around}{E:Value->Shared->Prop}{i:Nat}{x:Str}{v:V}{u:Value}{Q:Unit->Shared->Prop}(I:Inv X pins σ H s)(hN:X.N.Nodup)(hi:X.N[i]?=some x)(hx:Loc X.env.scope x)(r:dQ v u)
  (h:∀s',Inv X pins (σ.set i (some v)) H s'->(∃a,Heap.SameBut a s.heap s'.heap/\(a=X.env.locals\/X.env.cells.lookup x=some a))->Q () s') (hf:X.fn x=true\/X.env.scope.names.lookup x=some .local:=by first|exact .inl rfl|exact .inr rfl|assumption):wpAny M A (storeName X.env x u) Q E s:=by
 obtain⟨m,hn,hl⟩:=id I.loc;have Sx:(X.env.scope.kind==.class||(X.env.scope.kind==.module&&X.env.locals != X.env.globals))=false:=by rw[I.ok.kind];rfl
 have Pe:i<σ.length:=by rw[I.len];exact (List.getElem?_eq_some_iff.mp hi).1
 have MG:=I.MG;have tracked:∀{a:Addr}{h':Heap},(∃o,s.heap.get? a=some o/\H a=none)->Heap.SameBut a s.heap h'->uZ X.prog X.w H h':=fun {a h'} ha hs b ob e=>by
  obtain⟨_,_,m8⟩:=ha;refine (I.fT b ob e).w6 (fun c w' hc q=>(hs.2 c ?_).trans q) (fun _ q=>q) fun _ _ q=>q;rintro rfl;rcases hc with rfl|hc
  ·rw[m8] at e;cases e
  ·rw[m8] at hc;cases hc
 rcases hx with hk|hk
 ·refine wpAny_storeName_local hk hn (fun h' KO hs=>?_) Sx;obtain⟨oL,_,_,O3,_⟩:=id hn;refine h _ ⟨I.ok,I.os,I.bare,⟨fun b o e n hb hx=>?_,fun b o e n hb hx=>?_,I.base.free,fun b o e hx=>?_,I.base.sR,I.base.r9,I.base.sU⟩,⟨_,KO,fun j y v' e1 e2 e3=>?_⟩,fun y c e=>?_,I.free,I.m9,fun p hp=>?_,tracked ⟨oL,O3,I.free⟩ hs,by simpa using I.len⟩ ⟨_,hs,.inl rfl⟩
  ·exact (hs.2 b (aN (aM (aD e) I.ok.above))).trans (I.base.keep b o e n hb hx)
  ·obtain⟨sl,e1⟩:=I.base.slot b o e n hb hx;exact⟨sl,(hs.2 b (aN (aM (aD e) I.ok.above))).trans e1⟩
  ·obtain⟨o',e1⟩:=I.base.there b o e hx;exact⟨o',(hs.2 b (aN (aM (aD e) I.ok.above))).trans e1⟩
  ·by_cases hj:j=i
   ·subst hj;rw[hi] at e1;cases e1;rw[aA Pe] at e2;cases e2;exact⟨u,r,.inl ⟨hk,by simp⟩⟩
   ·rw[aj (Ne.symm hj)] at e2;obtain⟨u',r',q⟩:=hl j y v' e1 e2 e3;refine⟨u',r',?_⟩;rcases q with ⟨k,e⟩|⟨k,c,e,z⟩
    ·refine .inl ⟨k,?_⟩;have:y≠x:=fun e=>hj (zq hN e1 (e▸hi));simp[this,e]
    ·exact .inr ⟨k,c,e,z.sameBut hs (MG y c e)⟩
  ·obtain⟨w',z⟩:=I.cell y c e;exact⟨w',z.sameBut hs (MG y c e)⟩
  ·obtain⟨e,n,ne,nf,d⟩:=I.pin p hp;exact⟨(hs.2 p.1 ne).trans e,n,ne,nf,d⟩
 ·have Ph:X.fn x=true:=by
   rcases hf with z|z
   ·exact z
   ·rw[z] at hk;cases hk
  obtain⟨c,hc⟩:=I.ok.has x (.inl hk);obtain⟨w',z⟩:=I.cell x c hc;refine wpAny_storeName_cell I.ok.kind hk hc z (fun h' Nu hs=>?_);obtain⟨oc,TZ,RZ⟩:=id z;refine h { s with heap:=h' } ⟨I.ok,I.os,I.bare,⟨fun b o e n hb hx=>?_,fun b o e n hb hx=>?_,I.base.free,fun b o e hx=>?_,I.base.sR,I.base.r9,I.base.sU⟩,⟨m,hn.sameBut hs (Ne.symm (MG x c hc)),fun j y v' e1 e2 e3=>?_⟩,fun y c' e=>?_,I.free,I.m9,fun p hp=>?_,tracked ⟨oc,TZ,I.m9 x c hc⟩ hs,by simpa using I.len⟩ ⟨c,hs,.inr hc⟩
  ·exact (hs.2 b (aN (aM (aD e) (I.ok.PX x c Ph hc)))).trans (I.base.keep b o e n hb hx)
  ·obtain⟨sl,e1⟩:=I.base.slot b o e n hb hx;exact⟨sl,(hs.2 b (aN (aM (aD e) (I.ok.PX x c Ph hc)))).trans e1⟩
  ·obtain⟨o',e1⟩:=I.base.there b o e hx;exact⟨o',(hs.2 b (aN (aM (aD e) (I.ok.PX x c Ph hc)))).trans e1⟩
  ·by_cases hj:j=i
   ·subst hj;rw[hi] at e1;cases e1;rw[aA Pe] at e2;cases e2;exact⟨u,r,.inr ⟨.inl hk,c,hc,Nu⟩⟩
   ·rw[aj (Ne.symm hj)] at e2;obtain⟨u',r',q⟩:=hl j y v' e1 e2 e3;refine⟨u',r',?_⟩;rcases q with q|⟨k,c',e,z'⟩
    ·exact .inl q
    ·refine .inr ⟨k,c',e,z'.sameBut hs ?_⟩;rintro rfl;exact hj (zq hN e1 (I.ok.inj _ _ _ e hc▸hi))
  ·by_cases T5:c'=c
   ·subst T5;exact⟨_,Nu⟩
   ·obtain⟨w2,z2⟩:=I.cell y c' e;exact⟨w2,z2.sameBut hs T5⟩
  ·obtain⟨e,n,ne,nf,d⟩:=I.pin p hp;refine⟨(hs.2 p.1 ?_).trans e,n,ne,nf,d⟩;intro q;rw[q,TZ] at e;have q':oc=p.2:=Option.some.inj e;exact d w' (by rw[<-q'];exact RZ)
theorem yH {M:Model}{A:Around}{E:Value->Shared->Prop}{i:Nat}{x:Str}{v:V}{u:Value}{Q:Unit->Shared->Prop}(I:Inv X pins σ H s)(hN:X.N.Nodup)(hi:X.N[i]?=some x)(hx:Loc X.env.scope x)(r:dQ v u)
  (h:∀s',Inv X pins (σ.set i (some v)) H s'->Q () s') (hf:X.fn x=true\/X.env.scope.names.lookup x=some .local:=by first|exact .inl rfl|exact .inr rfl|assumption):wpAny M A (storeName X.env x u) Q E s :=
 vM I hN hi hx r (fun s' I' _=>h s' I') hf
theorem Inv.PV {s':Shared}{ch:List Addr}(I:Inv X pins σ H s)(ho:s'.os=s.os)(u:Un (EG X.stack) ch H H' s.heap s'.heap)(fT:uZ X.prog X.w H' s'.heap)(hg:AllBare s'.gens)
  (Ie:∀b∈ch,(b∈X.ex\/X.eC.heap.objs.size<=b)/\b≠X.env.locals/\(∀x c,X.env.cells.lookup x=some c->c≠b)/\∀p∈X.pn++pins,p.1≠b):Inv X pins σ H' s':=by
 obtain⟨h',g',d',t',o'⟩:=s';have e:o'=s.os:=ho;subst e;exact I.call (g':=g') (t':=t') (d':=d') u fT hg Ie
end
noncomputable abbrev XK:=Value->Option Addr->Hp->Prop
noncomputable abbrev St:=List (Option V)
noncomputable abbrev VK:=V->Hp->Prop
noncomputable abbrev TE:=St->Hp->VK->Prop
noncomputable abbrev TT:=St->Hp->(Bool->Hp->Prop)->Prop
noncomputable abbrev TA:=St->Hp->(List V->Hp->Prop)->Prop
structure kJ where
 nx:St->Hp->Prop
 rt:VK
 bk:St->Hp->Prop:=fun _ _=>False
 ct:St->Hp->Prop:=fun _ _=>False
noncomputable abbrev TS:=kJ->St->Hp->Prop
def EP (X:Cx)(pins:List (Addr×Obj))(σ:St)(Q:VK)(u:Value)(s':Shared):Prop:=∃v H',Inv X pins σ H' s'/\dQ v u/\Q v H'
def TP (X:Cx)(pins:List (Addr×Obj))(σ:St)(Q:Bool->Hp->Prop)(b:Bool)(s':Shared):Prop:=∃H',Inv X pins σ H' s'/\Q b H'
def AP (X:Cx)(pins:List (Addr×Obj))(σ:St)(Q:List V->Hp->Prop)(us:List Value)(s':Shared):Prop:=∃vs H',Inv X pins σ H' s'/\cV vs us/\Q vs H'
noncomputable def SP (X:Cx)(pins:List (Addr×Obj))(D:kJ)(f:Flow)(s':Shared):Prop :=
 match f with
 |.next=>∃eX H',Inv X pins eX H' s'/\D.nx eX H'
 |.brk=>∃eX H',Inv X pins eX H' s'/\D.bk eX H'
 |.cont=>∃eX H',Inv X pins eX H' s'/\D.ct eX H'
 |.ret u=>∃v eX H',Inv X pins eX H' s'/\dQ v u/\D.rt v H'
noncomputable def PE (X:Cx)(e:Expr)(t:TE):Prop :=
 ∀(pins:List (Addr×Obj)) (s:Shared) (σ:St) (H:Hp) (Q:VK),Inv X pins σ H s->t σ H Q->wpAny (model X.prog X.w) X.A (eval e X.env) (EP X pins σ Q) X.xe s
noncomputable def PT (X:Cx)(e:Expr)(t:TT):Prop :=
 ∀(pins:List (Addr×Obj)) (s:Shared) (σ:St) (H:Hp) (Q:Bool->Hp->Prop),Inv X pins σ H s->t σ H Q->wpAny (model X.prog X.w) X.A (isTrue e X.env (eval e X.env)) (TP X pins σ Q) X.xe s
noncomputable def PW (X:Cx)(e:Expr)(t:TT):Prop :=
 ∀(whole:Sem Value) (pins:List (Addr×Obj)) (s:Shared) (σ:St) (H:Hp) (Q:Bool->Hp->Prop),Inv X pins σ H s->t σ H Q->wpAny (model X.prog X.w) X.A (isTrue e X.env whole) (TP X pins σ Q) X.xe s
noncomputable def PA (X:Cx)(es:List Expr)(t:TA):Prop :=
 ∀(pos:Pos) (pins:List (Addr×Obj)) (s:Shared) (σ:St) (H:Hp) (Q:List V->Hp->Prop),Inv X pins σ H s->t σ H Q->wpAny (model X.prog X.w) X.A (spliced (backTo pos (starEach es X.env))) (AP X pins σ Q) X.xe s
noncomputable def PS (X:Cx)(st:Stmt)(t:TS):Prop :=
 ∀(pins:List (Addr×Obj)) (s:Shared) (σ:St) (H:Hp) (D:kJ),Inv X pins σ H s->t D σ H->wpAny (model X.prog X.w) X.A (exec st X.env) (SP X pins D) X.xe s
noncomputable def PSs (X:Cx)(st:List Stmt)(t:TS):Prop :=
 ∀(pins:List (Addr×Obj)) (s:Shared) (σ:St) (H:Hp) (D:kJ),Inv X pins σ H s->t D σ H->wpAny (model X.prog X.w) X.A (execs st X.env) (SP X pins D) X.xe s
theorem thn {α:Type}{t:Sem α}{Q Q':α->Shared->Prop}{M:Model}{A:Around}{E:Value->Shared->Prop}{s:Shared}(h:wpAny M A t Q E s)(hQ:∀a s,Q a s->Q' a s):wpAny M A t Q' E s:=wpAny_mono h hQ fun _ _ x=>x
section
variable {X:Cx}
noncomputable def QT (i:Nat):TE:=fun σ H Q=>∃v,σ[i]?=some (some v)/\Q v H
noncomputable def tC (v:V):TE:=fun _ H Q=>Q v H
theorem pe_var {i:Nat}{x:Str}{pos:Pos}(hN:X.N[i]?=some x)(hv:Vis X.env.scope x)(hd:(x==("__debug__" : Str))=false:=by decide)(n5:(x==("__classdict__" : Str))=false:=by decide):PE X (.Name x pos) (QT i):=by
 intro pins s σ H Q I h;obtain⟨v,e,h⟩:=h;obtain⟨m,hn,hl⟩:=I.loc;obtain⟨u,r,l⟩:=hl i x v hN e hv;have fin:EP X pins σ Q u s:=⟨v,H,I,r,h⟩;rcases l with ⟨hk,hm⟩|⟨hk,c,hc,kY⟩
 ·exact wpAny_Name (wpAny_loadName_local I.ok.kind hk hn hm fin) hd
 ·rcases hk with hk|hk
  ·exact wpAny_Name (wpAny_loadName_cell I.ok.kind hk hc kY fin) hd
  ·exact wpAny_Name (wpAny_loadName_free I.ok.kind hk hc kY fin n5) hd
theorem pe_int {i j pos}:PE X (.Constant (.int i) j pos) (tC (.int i)):=fun _ _ _ H _ I h=>wpAny_Constant_int ⟨.int i,H,I.tok _,⟨_,rfl⟩,h⟩
theorem pe_bl {b j pos}:PE X (.Constant (.bool b) j pos) (tC (.bl b)):=fun _ _ _ H _ I h=>Constant_bool ⟨.bl b,H,I,rfl,h⟩
def Gl (X:Cx)(x:Str):Prop:=X.env.kindOf x=some .globalImplicit
theorem JD {E:Value->Shared->Prop}{pins:List (Addr×Obj)}{s:Shared}{σ:St}{H:Hp}{x:Str}{u:Value}{pos:Pos}{Q:Value->Shared->Prop}(I:Inv X pins σ H s)(hg:Gl X x)(hm:X.mg x=some u)(h:Q u s)
  (hd:(x==("__debug__" : Str))=false:=by decide):wpAny (model X.prog X.w) X.A (eval (.Name x pos) X.env) Q E s :=
 Calls.Name_function_global I.ok.kind hg (Calls.loadGlobal_global (by rw[I.ok.glob];exact I.mod.glob.keeps I.bk) hm h) hd
theorem ld_blt {E:Value->Shared->Prop}{pins:List (Addr×Obj)}{s:Shared}{σ:St}{H:Hp}{x:Str}{u:Value}{pos:Pos}{Q:Value->Shared->Prop}(I:Inv X pins σ H s)(hg:Gl X x)(hm:X.mg x=none)(hv:bootBuiltins x=some u)(h:Q u s)
  (hn:x ≠ "__name__" := by decide) (hd:(x==("__debug__" : Str))=false:=by decide):wpAny (model X.prog X.w) X.A (eval (.Name x pos) X.env) Q E s:=by
 obtain⟨mb,h1,h2⟩:=I.mod.blt;exact Calls.Name_function_global I.ok.kind hg (Calls.loadGlobal_builtin (by rw[I.ok.glob];exact I.mod.glob.keeps I.bk) hm (by rw[I.ok.blt];exact h1.keeps I.bk) ((h2 x hn).trans hv) h) hd
theorem pe_bltn {x:Str}{v:V}{u:Value}{pos:Pos}(hg:Gl X x)(hm:X.mg x=none)(hv:bootBuiltins x=some u)(r:dQ v u)(hn:x ≠ "__name__" := by decide)(hd:(x==("__debug__" : Str))=false:=by decide):PE X (.Name x pos) (tC v) :=
 fun _ _ _ H _ I h=>ld_blt I hg hm hv ⟨v,H,I,r,h⟩ hn hd
variable {a b:Expr}{ta tb:TE}{pos:Pos}
noncomputable def tB (t:TE):TT:=fun σ H Q=>t σ H fun x H1=>∃c,x=.bl c/\Q c H1
theorem pt_val {e:Expr}{t:TE}(h:PE X e t)(he:∀whole,isTrue e X.env whole=(do let v <-whole;standAt e.pos;holding [v] (truthy v)):=by intro _;rfl):PT X e (tB t):=by
 intro pins s σ H Q I hw;refine isTrue_plain (thn (h pins s σ H _ I hw) fun v s1 ⟨x,H1,I1,r1,q1⟩=>?_) (he _);obtain⟨d,rfl,q⟩:=q1;cases r1;exact wpAny_truthy_bool ⟨H1,I1,q⟩
variable {tA Qj:TT}{gm:List Expr}
noncomputable def rW (t u:TT):TT:=fun σ H Q=>t σ H fun c H1=>if c=true then u σ H1 Q else Q false H1
noncomputable def Fc (t u:TT):TT:=fun σ H Q=>t σ H fun c H1=>if c=true then Q true H1 else u σ H1 Q
noncomputable def kM (t:TT):TT:=fun σ H Q=>t σ H fun c H1=>Q (!c) H1
theorem pw_and1 (ha:PT X a tA):PW X (.BoolOp .And [a] pos) tA:=by
 intro wh pins s σ H Q I h;refine isTrue_and (thn (ha pins s σ H Q I h) fun c s1 e=>?_);cases c with
 |true=>exact isTrue_and_nil e
 |false=>exact e
theorem pw_or1 (ha:PT X a tA):PW X (.BoolOp .Or [a] pos) tA:=by
 intro wh pins s σ H Q I h;refine isTrue_or (thn (ha pins s σ H Q I h) fun c s1 e=>?_);cases c with
 |false=>exact isTrue_or_nil e
 |true=>exact e
theorem pw_and (ha:PT X a tA)(hb:PW X (.BoolOp .And (b::gm) pos) Qj):PW X (.BoolOp .And (a::b::gm) pos) (rW tA Qj):=by
 intro wh pins s σ H Q I h;refine isTrue_and (thn (ha pins s σ H _ I h) fun c s1 zz=>?_);obtain ⟨H1,I1,q1⟩:=zz;cases c with
 |true=>exact hb wh pins s1 σ H1 Q I1 q1
 |false=>exact⟨H1,I1,q1⟩
theorem pw_or (ha:PT X a tA)(hb:PW X (.BoolOp .Or (b::gm) pos) Qj):PW X (.BoolOp .Or (a::b::gm) pos) (Fc tA Qj):=by
 intro wh pins s σ H Q I h;refine isTrue_or (thn (ha pins s σ H _ I h) fun c s1 zz=>?_);obtain ⟨H1,I1,q1⟩:=zz;cases c with
 |true=>exact⟨H1,I1,q1⟩
 |false=>exact hb wh pins s1 σ H1 Q I1 q1
theorem pt_not (ha:PT X a tA):PT X (.UnaryOp .Not a pos) (kM tA):=by
 intro pins s σ H Q I h;exact isTrue_not (ha pins s σ H (fun c H1=>Q (!c) H1) I h)
noncomputable def N4 (ta tb:TE):TE:=fun σ H Q=>ta σ H fun x H1=>∃c,x=.bl c/\if c=true then tb σ H1 Q else Q (.bl false) H1
noncomputable def N0 (ta:TE):TE:=fun σ H Q=>ta σ H fun x H1=>∃c,x=.bl c/\Q (.bl (!c)) H1
theorem pe_one {op}{t:TE}(h:PE X a t):PE X (.BoolOp op [a] pos) t:=fun pins s σ H Q I hw=>BoolOp_one (h pins s σ H Q I hw)
theorem pe_and (ha:PE X a ta)(hb:PE X (.BoolOp .And (b::gm) pos) tb):PE X (.BoolOp .And (a::b::gm) pos) (N4 ta tb):=by
 intro pins s σ H Q I h;refine BoolOp_and (thn (ha pins s σ H _ I h) fun v s1 zz=>?_);obtain ⟨x,H1,I1,r1,q1⟩:=zz;obtain⟨c,rfl,q1⟩:=q1;cases r1;refine wpAny_truthy_bool ?_;cases c with
 |true=>exact hb pins s1 σ H1 Q I1 q1
 |false=>exact⟨.bl false,H1,I1,rfl,q1⟩
theorem pe_not (ha:PE X a ta):PE X (.UnaryOp .Not a pos) (N0 ta):=by
 intro pins s σ H Q I h;refine UnaryOp_ (thn (ha pins s σ H _ I h) fun v s1 zz=>?_);obtain ⟨x,H1,I1,r1,q1⟩:=zz;obtain⟨c,rfl,q1⟩:=q1;cases r1;exact not_of (wpAny_truthy_bool ⟨.bl (!c),H1,I1,rfl,q1⟩)
end
noncomputable def jT (K:PySem.W.Frag)(H:Hp)(a:Addr)(xs:List V):Prop :=
 Rd H a (.lst xs) ∨
  ∃(o:Obj) (its:Array Value) (n:Nat),K.lookup a=some o/\o.cls=.type "list" ∧ o.dict=none/\o.data=.seq its n/\its.size<=sizeLine/\cV xs its.toList
noncomputable def jN (K:PySem.W.Frag)(H:Hp)(a:Addr)(xs:List V):Prop :=
 Rd H a (.tup xs) ∨
  ∃(o:Obj) (its:Array Value) (n:Nat),K.lookup a=some o/\o.cls=.type "tuple" ∧ o.data=.seq its n/\its.size<=sizeLine/\cV xs its.toList
noncomputable def Ta:Value->Option V
 |.none=>some .non
 |.bool b=>some (.bl b)
 |.int i _=>some (.int i)
 |.str x _=>some (.str x)
 |.bytes b _=>some (.byt b)
 |.float b _=>some (.flt b)
 |.ref a=>some (.ref a)
 |.type n=>some (.ty n)
 |_=>none
theorem dQ.abs {x:V}{u:Value}(r:dQ x u):Ta u=some x:=by
 cases x with
 |non=>cases r;rfl
 |bl _=>cases r;rfl
 |int _=>obtain⟨t,rfl⟩:=r;rfl
 |str _=>obtain⟨t,rfl⟩:=r;rfl
 |byt _=>obtain⟨t,rfl⟩:=r;rfl
 |flt _=>obtain⟨t,rfl⟩:=r;rfl
 |ref _=>cases r;rfl
 |ty _=>cases r;rfl
theorem dQ.inj {x y:V}{u:Value}(r:dQ x u)(q:dQ y u):x=y:=Option.some.inj (r.abs.symm.trans q.abs)
theorem cV.inj:∀{xs ys:List V}{us:List Value},cV xs us->cV ys us->xs=ys:=by
 intro xs ys us h;induction h generalizing ys with
 |nil=>intro q; cases q; rfl
 |cons r t ih=>
  intro q;cases q with
  |cons r2 t2=>rw [r.inj r2,ih t2]
section
variable {X:Cx}{pins:List (Addr×Obj)}{σ:St}{H:Hp}{s:Shared}{a:Addr}{xs ys:List V}
theorem Inv.list (I:Inv X pins σ H s)(h:jT X.K H a xs):∃its:List Value,cV xs its/\PlainL s.heap a its.toArray/\xs.length<=sizeLine:=by
 rcases h with h|⟨o,its,n,hk,hc,hd,hs,hz,r⟩
 ·obtain⟨z,its,n,r,e⟩:=h.ok I.fT;exact⟨its,r,⟨_,n,e,rfl,rfl,rfl⟩,z⟩
 ·refine⟨its.toList,r,⟨o,n,I.GR a o hk,hc,hd,by simpa using hs⟩,?_⟩;have e:=r.length;simp only[aT] at e;omega
theorem Inv.tuple (I:Inv X pins σ H s)(h:jN X.K H a xs):∃its:List Value,cV xs its/\IsTup s.heap a its.toArray/\xs.length<=sizeLine:=by
 rcases h with h|⟨o,its,n,hk,hc,hs,hz,r⟩
 ·obtain⟨z,its,r,p⟩:=h.ok I.fT;exact⟨its,r,p,z⟩
 ·refine⟨its.toList,r,⟨o,I.GR a o hk,hc,n,by simpa using hs⟩,?_⟩;have e:=r.length;simp only[aT] at e;omega
theorem Inv.zw (I:Inv X pins σ H s)(h:jT X.K H a xs)(h':jT X.K H a ys):xs=ys:=by
 obtain⟨its,r,⟨o,n,e,_,_,d⟩,_⟩:=I.list h;obtain⟨its',r',⟨o',n',e',_,_,d'⟩,_⟩:=I.list h';rw[e] at e';cases e';rw[d] at d';injection d' with d1 _
 have:its=its':=by simpa using congrArg Array.toList d1
 subst this;exact r.inj r'
theorem Inv.vK (I:Inv X pins σ H s)(h:jN X.K H a xs)(h':jN X.K H a ys):xs=ys:=by
 obtain⟨its,r,⟨o,e,_,n,d⟩,_⟩:=I.tuple h;obtain⟨its',r',⟨o',e',_,n',d'⟩,_⟩:=I.tuple h';rw[e] at e';cases e';rw[d] at d';injection d' with d1 _
 have:its=its':=by simpa using congrArg Array.toList d1
 subst this;exact r.inj r'
end
noncomputable abbrev Cx.rV (X:Cx)(E:Value->Shared->Prop):Cx:={ X with xe:=E }
noncomputable abbrev Cx.Gu (X:Cx):Cx:=X.rV fun _ _=>False
theorem Cx.Ok.rV {X:Cx}(ok:X.Ok)(E:Value->Shared->Prop):(X.rV E).Ok :=
 ⟨ok.mod,ok.kind,ok.glob,ok.blt,ok.above,ok.inj,ok.has,ok.PX,ok.hd,ok.frames,ok.N6,ok.SS,ok.bs,ok.K8,ok.Gv,ok.J2,ok.ub,ok.Nx⟩
theorem Cx.Ok.lA {X:Cx}{E:Value->Shared->Prop}(ok:(X.rV E).Ok):X.Ok :=
 ⟨ok.mod,ok.kind,ok.glob,ok.blt,ok.above,ok.inj,ok.has,ok.PX,ok.hd,ok.frames,ok.N6,ok.SS,ok.bs,ok.K8,ok.Gv,ok.J2,ok.ub,ok.Nx⟩
section
variable {X:Cx}{pins:List (Addr×Obj)}{σ:St}{H:Hp}{s:Shared}{E:Value->Shared->Prop}
theorem Inv.rV (I:Inv X pins σ H s)(E:Value->Shared->Prop):Inv (X.rV E) pins σ H s:=⟨I.ok.rV E,I.os,I.bare,I.base,I.loc,I.cell,I.free,I.m9,I.pin,I.fT,I.len⟩
theorem Inv.lA (I:Inv (X.rV E) pins σ H s):Inv X pins σ H s:=⟨I.ok.lA,I.os,I.bare,I.base,I.loc,I.cell,I.free,I.m9,I.pin,I.fT,I.len⟩
theorem SP.lA {D:kJ}{f:Flow}{s':Shared}(h:SP (X.rV E) pins D f s'):SP X pins D f s':=by
 cases f with
 |next=>obtain⟨eX,H',I,q⟩:=h;exact⟨eX,H',I.lA,q⟩
 |brk=>obtain⟨eX,H',I,q⟩:=h;exact⟨eX,H',I.lA,q⟩
 |cont=>obtain⟨eX,H',I,q⟩:=h;exact⟨eX,H',I.lA,q⟩
 |ret u=>obtain⟨v,eX,H',I,r,q⟩:=h;exact⟨v,eX,H',I.lA,r,q⟩
theorem PE.Gu {e:Expr}{t:TE}(h:PE X.Gu e t):PE X e t:=fun pins s σ H Q I hw =>
 wpAny_mono (h pins s σ H Q (I.rV _) hw) (fun _ _ ⟨v,H',I',r,q⟩=>⟨v,H',I'.lA,r,q⟩) fun _ _ z=>False.elim z
theorem PT.Gu {e:Expr}{t:TT}(h:PT X.Gu e t):PT X e t:=fun pins s σ H Q I hw =>
 wpAny_mono (h pins s σ H Q (I.rV _) hw) (fun _ _ ⟨H',I',q⟩=>⟨H',I'.lA,q⟩) fun _ _ z=>False.elim z
theorem PSs.Gu {st:List Stmt}{t:TS}(h:PSs X.Gu st t):PSs X st t:=fun pins s σ H D I hw =>
 wpAny_mono (h pins s σ H D (I.rV _) hw) (fun _ _ q=>q.lA) fun _ _ z=>False.elim z
end
section
variable {X:Cx}{st:Stmt}{gm:List Stmt}{t u:TS}{e:Expr}{te:TE}{pos:Pos}
noncomputable def N1:TS:=fun D σ H=>D.nx σ H
noncomputable def QV (t u:TS):TS:=fun D σ H=>t { D with nx:=u D } σ H
theorem pss_nil:PSs X [] N1:=fun _ _ σ H _ I h=>wpAny_execs_nil ⟨σ,H,I,h⟩
theorem pss_cons (h1:PS X st t)(h2:PSs X gm u):PSs X (st::gm) (QV t u):=by
 intro pins s σ H D I h;refine wpAny_execs_cons (thn (h1 pins s σ H { D with nx:=u D } I h) fun f s1 q=>?_);cases f with
 |next =>
  obtain⟨eX,H',I',q⟩:=q;exact h2 pins s1 eX H' D I' q
 |ret v=>exact q
 |brk=>exact q
 |cont=>exact q
theorem pss_one (h1:PS X st t):PSs X [st] t:=by
 intro pins s σ H D I h;refine wpAny_execs_cons (thn (h1 pins s σ H D I h) fun f s1 q=>?_);cases f with
 |next=>exact wpAny_execs_nil q
 |ret v=>exact q
 |brk=>exact q
 |cont=>exact q
theorem Inv.quiet {pins:List (Addr×Obj)}{σ:St}{H:Hp}{s:Shared}(I:Inv X pins σ H s):interactive X.env=false:=by simp[interactive,I.ok.kind]
noncomputable def N2 (te:TE):TS:=fun D σ H=>te σ H fun _ H1=>D.nx σ H1
theorem ps_expr (he:PE X e te)(hs:swapsWith e none pos.line X.env=pure false:=by rfl):PS X (.Expr e pos) (N2 te):=by
 intro pins s σ H D I h;exact wpAny_Expr_any (thn (he pins s σ H _ I h) fun v s1 ⟨x,H1,I1,r1,q1⟩=>⟨σ,H1,I1,q1⟩) I.quiet hs
noncomputable def QW (te:TE):TS:=fun D σ H=>te σ H D.rt
theorem ps_ret (he:PE X e te):PS X (.Return (some e) pos) (QW te):=by
 intro pins s σ H D I h;exact wpAny_Return_some (thn (he pins s σ H _ I h) fun v s1 ⟨x,H1,I1,r1,q1⟩=>⟨x,σ,H1,I1,r1,q1⟩)
noncomputable def QZ (c:TT)(t u:TS):TS:=fun D σ H=>c σ H fun b H1=>if b=true then t D σ H1 else u D σ H1
theorem ps_if {c:Expr}{a b:List Stmt}{tc:TT}(hc:PT X c tc)(ha:PSs X a t)(hb:PSs X b u):PS X (.If c a b pos) (QZ tc t u):=by
 intro pins s σ H D I h;refine wpAny_If (thn (hc pins s σ H _ I h) fun d s1 zz=>?_);obtain ⟨H1,I1,q1⟩:=zz;cases d with
 |true=>exact ha pins s1 σ H1 D I1 q1
 |false=>exact hb pins s1 σ H1 D I1 q1
end
noncomputable abbrev TG:=V->St->Hp->(St->Hp->Prop)->Prop
noncomputable abbrev TGs:=List V->St->Hp->(St->Hp->Prop)->Prop
noncomputable def PG (X:Cx)(target:Expr)(t:TG):Prop :=
 ∀(pins:List (Addr×Obj)) (s:Shared) (σ:St) (H:Hp) (v:V) (u:Value) (Q:St->Hp->Prop),Inv X pins σ H s->dQ v u->t v σ H Q →
  wpAny (model X.prog X.w) X.A (assign target X.env u) (fun _ s'=>∃eX H',Inv X pins eX H' s'/\Q eX H') X.xe s
noncomputable def PGs (X:Cx)(ts:List Expr)(t:TGs):Prop :=
 ∀(pins:List (Addr×Obj)) (s:Shared) (σ:St) (H:Hp) (vs:List V) (us:List Value) (Q:St->Hp->Prop),Inv X pins σ H s->cV vs us->t vs σ H Q →
  wpAny (model X.prog X.w) X.A (assignInOrder ((assignEach ts X.env).map (·.2)) us) (fun _ s'=>∃eX H',Inv X pins eX H' s'/\Q eX H') X.xe s
noncomputable abbrev TSet:=V->V->V->Hp->(Hp->Prop)->Prop
noncomputable def PSet (X:Cx)(t:TSet):Prop :=
 ∀(pins:List (Addr×Obj)) (s:Shared) (σ:St) (H:Hp) (o i v:V) (ov iv u:Value) (Q:Hp->Prop),Inv X pins σ H s->dQ o ov->dQ i iv->dQ v u->t o i v H Q →
  wpAny (model X.prog X.w) X.A (setItem ov iv u) (fun _ s'=>∃H',Inv X pins σ H' s'/\Q H') X.xe s
section
variable {X:Cx}{pos:Pos}
noncomputable def gName (i:Nat):TG:=fun v σ H Q=>Q (σ.set i (some v)) H
theorem pg_name {i:Nat}{x:Str}(hN:X.N.Nodup)(hi:X.N[i]?=some x)(hx:Loc X.env.scope x)(hf:X.fn x=true\/X.env.scope.names.lookup x=some .local:=by first|exact .inl rfl|exact .inr rfl|assumption):PG X (.Name x pos) (gName i):=by
 intro pins s σ H v u Q I r h;exact wpAny_assign_Name (yH I hN hi hx r (fun s' I'=>⟨_,H,I',h⟩) hf)
noncomputable def SQ:TGs:=fun vs σ H Q=>vs=[]/\Q σ H
noncomputable def PC (t:TG)(u:TGs):TGs:=fun vs σ H Q=>∃v r,vs=v::r/\t v σ H fun eX H'=>u r eX H' Q
theorem pgs_nil:PGs X [] SQ:=by
 intro pins s σ H vs us Q I r h;obtain⟨e,h⟩:=h;subst e;cases r;exact assignInOrder_nil ⟨σ,H,I,h⟩
theorem pgs_cons {e:Expr}{es:List Expr}{t:TG}{u:TGs}(h1:PG X e t)(h2:PGs X es u)
  (hs:(assignEach (e::es) X.env).map (·.2)=assign e X.env::(assignEach es X.env).map (·.2):=by rfl):PGs X (e::es) (PC t u):=by
 intro pins s σ H vs us Q I r h;obtain⟨v,vr,e1,h⟩:=h;subst e1;cases r with
 |cons r rr =>
  rw[hs];refine assignInOrder_cons (thn (h1 pins s σ H _ _ _ I r h) fun _ s1 zz=>?_);obtain ⟨Lf,H1,I1,q1⟩:=zz;exact h2 pins s1 Lf H1 _ _ Q I1 rr q1
noncomputable def SN (K:PySem.W.Frag)(n:Nat)(t:TGs):TG:=fun v σ H Q=>∃a xs,v=.ref a/\jN K H a xs/\xs.length=n/\t xs σ H Q
theorem pg_tup {es:List Expr}{k:Nat}{t:TGs}{n:Nat}(hc:X.calm=true)(h:PGs X es t)
  (hn:(assignEach es X.env).length=n:=by rfl) (GY:(assignEach es X.env).findIdx? (·.1)=none:=by rfl):PG X (.Tuple es k pos) (SN X.K n t):=by
 intro pins s σ H v u Q I r hw;obtain⟨a,xs,e1,hq,hl,hw⟩:=hw;subst e1;cases r;obtain⟨its,rv,ht,hz⟩:=I.tuple hq;refine assign_Tuple_tuple (I.ok.hd hc) ht (by simp[hn,<-hl,rv.length]) GY fun h' hx=>?_;have I1:Inv X pins σ H { s with heap:=h' }:=I.kept (t':=s.toks) fun b o e=>hx b o (aN (aD e)) e;exact h pins _ σ H xs _ Q I1 (by simpa using rv) hw
noncomputable def SO (to ti:TE)(t:TSet):TG:=fun v σ H Q=>to σ H fun o H1=>ti σ H1 fun i H2=>t o i v H2 fun H3=>Q σ H3
theorem pg_sub {o i:Expr}{to ti:TE}{t:TSet}(ho:PE X o to)(hi:PE X i ti)(hs:PSet X t)
  (ha:∀v,assign (.Subscript o i pos) X.env v=(do
   let ov <-holding [v] (eval o X.env)
   let iv <-holding [v,ov] (eval i X.env)
   standAt pos
   holding [v,ov,iv] (setItem ov iv v)
   release [v,ov,iv] []):=by intro _;rfl):PG X (.Subscript o i pos) (SO to ti t):=by
 intro pins s σ H v u Q I r h;rw[ha];refine aa (bx (thn (ho pins s σ H _ I h) fun ov s1 zz=>?_));obtain ⟨x,H1,I1,r1,q1⟩:=zz;refine aa (bx (thn (hi pins s1 σ H1 _ I1 q1) fun iv s2 zz=>?_));obtain ⟨y,H2,I2,r2,q2⟩:=zz;refine aa (wpAny_standAt (aa (bx (thn (hs pins s2 σ H2 x y v ov iv u _ I2 r1 r2 r q2) fun _ s3 zz=>?_))));obtain ⟨H3,I3,q3⟩:=zz;exact wpAny_release ⟨σ,H3,I3,q3⟩
noncomputable def tAsg (te:TE)(g:TG):TS:=fun D σ H=>te σ H fun x H1=>g x σ H1 D.nx
theorem ps_asg {tg e:Expr}{te:TE}{g:TG}(he:PE X e te)(hg:PG X tg g)(hs:swapsWithSole [tg] e pos.line X.env=pure false:=by rfl)(hw:swappedStores [tg] e X.env=pure none:=by rfl)
  (h1:(assignEach [tg] X.env).map (·.2)=[assign tg X.env]:=by rfl):PS X (.Assign [tg] e pos) (tAsg te g):=by
 intro pins s σ H D I h;refine wpAny_Assign_stores (thn (he pins s σ H _ I h) fun v s1 ⟨x,H1,I1,r1,q1⟩=>?_) hs hw;rw[h1];exact thn (hg pins s1 σ H1 x v _ I1 r1 q1) fun _ s2 q=>q
theorem ps_set {i:Nat}{x:Str}{e:Expr}{te:TE}{pos':Pos}(hN:X.N.Nodup)(hi:X.N[i]?=some x)(hx:Loc X.env.scope x)(he:PE X e te)(hs:swapsWith e (some (.Name x pos')) pos.line X.env=pure false:=by rfl)(hf:X.fn x=true\/X.env.scope.names.lookup x=some .local:=by first|exact .inl rfl|exact .inr rfl|assumption) :
  PS X (.Assign [.Name x pos'] e pos) (tAsg te (gName i)):=by
 intro pins s σ H D I h;refine wpAny_Assign_Name (thn (he pins s σ H _ I h) fun v s1 ⟨y,H1,I1,r1,q1⟩=>?_) hs;exact yH I1 hN hi hx r1 (fun s2 I2=>⟨_,H1,I2,q1⟩) hf
end
section
variable {X:Cx}{pos:Pos}
noncomputable def LA (c:TT)(tb:TS):TS:=fun D σ H=>∃W:Nat->St->Hp->Prop,(∃m,W m σ H)/\∀m σ H,W m σ H →
 c σ H fun b H1=>if b=true then ∃N:St->Hp->Prop,(∀eX H',N eX H'->∃m',m'<m/\W m' eX H')/\tb { D with nx:=N,ct:=N,bk:=D.nx } σ H1 else D.nx σ H1
theorem ps_while {c:Expr}{body:List Stmt}{tc:TT}{tb:TS}(hp:PassesOwn (model X.prog X.w) X.A X.env X.xe)(hc:PT X c tc)(hb:PSs X body tb):PS X (.While c body [] pos) (LA tc tb):=by
 intro pins s σ H D I h;obtain⟨W,⟨m0,w0⟩,turn⟩:=h;refine wpAny_While (codeAny_whileLoop (fun n s'=>∃eX H',Inv X pins eX H' s'/\W n eX H') ?_ m0 ⟨σ,H,I,w0⟩);rintro n s1 ⟨Lf,H1,I1,w1⟩;refine wpAny_passesOwn hp (thn (hc pins s1 Lf H1 _ I1 (turn n Lf H1 w1)) fun b s2 zz=>?_);obtain ⟨H2,I2,q2⟩:=zz;cases b with
 |true =>
  obtain⟨N,hN,q2⟩:=q2;rw[if_pos rfl];refine wpAny_passesOwn hp (thn (hb pins s2 Lf H2 _ I2 q2) fun f s3 q3=>?_);cases f with
  |next =>
   obtain⟨rm,H3,I3,n3⟩:=q3;obtain⟨m',hm,w3⟩:=hN rm H3 n3;exact⟨m',hm,rm,H3,I3,w3⟩
  |cont =>
   obtain⟨rm,H3,I3,n3⟩:=q3;obtain⟨m',hm,w3⟩:=hN rm H3 n3;exact⟨m',hm,rm,H3,I3,w3⟩
  |brk=>exact q3
  |ret v=>exact q3
 |false =>
  rw[if_neg Bool.false_ne_true];exact wpAny_execs_nil ⟨Lf,H2,I2,q2⟩
end
structure It where
 go:Nat->Hp->Prop
 NO:Nat->Hp->V->Hp->Prop
 stop:Nat->Hp->Prop
noncomputable def va (X:Cx)(pins:List (Addr×Obj))(H:Hp)(b:Addr):Prop :=
 H b=none/\b≠X.env.locals/\b∉X.fs/\(b∈X.ex\/X.eC.heap.objs.size<=b)/\(∀x c,X.env.cells.lookup x=some c->c≠b)/\∀p∈X.pn++pins,p.1≠b
theorem Inv.zP {X:Cx}{pins:List (Addr×Obj)}{σ:St}{H H':Hp}{s:Shared}{b:Addr}(I:Inv X pins σ H s)(hb:s.heap.objs.size<=b)(hn:H' b=none):va X pins H' b:=by
 refine⟨hn,br (aM I.lt hb),I.Ro hb,.inr (bK I.sz hb),fun x c e z=>?_,fun p hp z=>?_⟩
 ·obtain⟨v,q⟩:=I.cell x c e;exact absurd (aM q.lt (by rw[z];exact hb)) (bF _)
 ·exact absurd (aM (aD (I.pin p hp).1) (by rw[z];exact hb)) (bF _)
structure Turn (P:Program)(w:World)(K:PySem.W.Frag)(tg:Expr)(J:It)(fp:List Addr)(it:Addr)(tn:Nat->Heap->Prop):Prop where
 mem:it∈fp
 obj:∀i h,tn i h->∀b∈fp,∃o,h.get? b=some o/\∀v,o.data≠.cell v
 keep:∀i h h',tn i h->(∀b∈fp,∀o,h.get? b=some o->h'.get? b=some o)->tn i h'
 item:∀(X:Cx),X.prog=P->X.w=w->X.K=K->X.calm=true->∀(i:Nat) (pins:List (Addr×Obj)) (s:Shared) (σ:St) (H:Hp) (E:Value->Shared->Prop),Inv X pins σ H s->(∀b∈fp,va X pins H b)->tn i s.heap->J.go i H →
  wpAny (model P w) X.A (pyNext (.ref it)) (fun r s1=>∃u,r=some u ∧
   wpAny (model P w) X.A (letOwnedTupleGo tg (.ref it) u) (fun _ s2=>∃x H',Inv X pins σ H' s2/\dQ x u/\J.NO i H x H'/\tn (i+1) s2.heap/\∀b∈fp,H' b=none) E s1) E s
 done:∀(X:Cx),X.prog=P->X.w=w->X.K=K->X.calm=true->∀(i:Nat) (pins:List (Addr×Obj)) (s:Shared) (σ:St) (H:Hp) (E:Value->Shared->Prop),Inv X pins σ H s->(∀b∈fp,va X pins H b)->tn i s.heap->J.stop i H →
  wpAny (model P w) X.A (pyNext (.ref it)) (fun r s1=>r=none/\Inv X pins σ H s1) E s
 self:∀(A:Around) (i:Nat) (s:Shared) (Q:Value->Shared->Prop) (E:Value->Shared->Prop),tn i s.heap->Q (.ref it) s->wpAny (model P w) A (pyIter (.ref it)) Q E s
noncomputable abbrev TI:=St->Hp->(It->Hp->Prop)->Prop
noncomputable def Uq (X:Cx)(pins:List (Addr×Obj))(σ:St)(tg:Expr)(R:It->Hp->Prop)(Qt:Value)(s2:Shared):Prop :=
 ∃(it:Addr) (fp:List Addr) (tn:Nat->Heap->Prop) (J:It) (H':Hp),Qt=.ref it/\Inv X pins σ H' s2/\Turn X.prog X.w X.K tg J fp it tn/\tn 0 s2.heap/\(∀b∈fp,va X pins H' b)/\R J H'
noncomputable def PI (X:Cx)(tg iter:Expr)(wi:TI):Prop :=
 ∀(pins:List (Addr×Obj)) (s:Shared) (σ:St) (H:Hp) (R:It->Hp->Prop),Inv X pins σ H s->wi σ H R →
  wpAny (model X.prog X.w) X.A (eval iter X.env) (fun v s1=>wpAny (model X.prog X.w) X.A (pyIter v) (Uq X pins σ tg R) X.xe s1) X.xe s
theorem go_of {M:Model}{A:Around}{E:Value->Shared->Prop}{s:Shared}{tg:Expr}{it:Addr}{u:Value}{o:Obj}{n:String}{vs:Array Value}{Q:Unit->Shared->Prop}(ho:s.heap.get? it=some o)(hc:o.cls=.type n)(hd:o.data=.fields vs)
    (hn:["enumerate", "zip", "dict_itemiterator", "dict_reverseitemiterator", "odict_iterator", "itertools.zip_longest", "itertools.pairwise"].contains n=false) (hQ:Q () s):wpAny M A (letOwnedTupleGo tg (.ref it) u) Q E s:=by
  unfold letOwnedTupleGo;cases tg <;> first
    |exact ah hQ
    | (cases u <;> first
        |exact ah hQ
        | (refine aa (wpAny_load ho ?_)
           rw[hc,hd];show wpAny M A (if (["enumerate", "zip", "dict_itemiterator", "dict_reverseitemiterator", "odict_iterator", "itertools.zip_longest", "itertools.pairwise"].contains n&&vs[0]?==some (rawInt _))=true then _ else _) Q E s;rw[if_neg (by intro h;rw[hn,Bool.false_and] at h;cases h)];exact ah hQ))
noncomputable def Itl (K:PySem.W.Frag)(a:Addr):It :=
 ⟨fun i H=>∃xs x,jT K H a xs/\xs[i]?=some x,fun i H x H'=>H'=H/\∀xs,jT K H a xs->xs[i]?=some x,fun i H=>∃xs,jT K H a xs/\xs.length<=i⟩
noncomputable def Itt (K:PySem.W.Frag)(a:Addr):It :=
 ⟨fun i H=>∃xs x,jN K H a xs/\xs[i]?=some x,fun i H x H'=>H'=H/\∀xs,jN K H a xs->xs[i]?=some x,fun i H=>∃xs,jN K H a xs/\xs.length<=i⟩
noncomputable def Itr (lo:Int)(n:Nat):It:=⟨fun i _=>i<n,fun i H x H'=>H'=H/\x=.int (lo+i),fun i _=>n<=i⟩
theorem turn_list {P:Program}{w:World}{K:PySem.W.Frag}{tg:Expr}(a it:Addr):Turn P w K tg (Itl K a) [it] it (fun i h=>h.IsListIter it a i) where
 mem:=by simp
 obj:=fun i h st b hb=>by
  have e:b=it:=by simpa using hb
  subst e;obtain⟨o,e,c,d⟩:=st;exact⟨o,e,fun v z=>by rw[d] at z;cases z⟩
 keep:=fun i h h' st k=>st.at fun o e=>k it (by simp) o e
 item:=by
  intro X hP hw hK hc i pins s σ H E I hf st hg;subst hP hw hK;obtain⟨xs,x,hq,hx⟩:=hg;obtain⟨its,rv,p,hz⟩:=I.list hq;obtain⟨u,hu,ru⟩:=rv.get hx;obtain⟨f0,f1,f2,f3,f4,f5⟩:=hf it (by simp);refine wpAny_pyNext_list_item st p.isList (x:=u) (by simpa using hu) fun h' vO sb=>?_;have I1:Inv X pins σ H { s with heap:=h' }:=I.turned (t':=s.toks) (fun b o hb e=>(sb.2 b hb).trans e) f0 f1 f3 f4 f5;obtain⟨o,e,c,d⟩:=id vO;exact⟨u,rfl,go_of (s:={ s with heap:=h' }) e c d (by decide) ⟨x,H,I1,ru,⟨rfl,fun ys hy=>by rw[I.zw hy hq];exact hx⟩,vO,fun b hb=>(hf b hb).1⟩⟩
 done:=by
  intro X hP hw hK hc i pins s σ H E I hf st hg;subst hP hw hK;obtain⟨xs,hq,hx⟩:=hg;obtain⟨its,rv,p,hz⟩:=I.list hq;obtain⟨f0,f1,f2,f3,f4,f5⟩:=hf it (by simp);have hl:=rv.length;exact wpAny_pyNext_list_end (I.ok.hd hc) st p.isList (by simp;omega) fun h' eb=>⟨rfl,I.turned (t':=s.toks) (fun b o hb e=>eb b o hb e) f0 f1 f3 f4 f5⟩
 self:=fun _ _ _ _ _ st h=>wpAny_pyIter_listiter st h
theorem turn_tuple {P:Program}{w:World}{K:PySem.W.Frag}{tg:Expr}(a it:Addr):Turn P w K tg (Itt K a) [it] it (fun i h=>h.IsTupleIter it a i) where
 mem:=by simp
 obj:=fun i h st b hb=>by
  have e:b=it:=by simpa using hb
  subst e;obtain⟨o,e,c,d⟩:=st;exact⟨o,e,fun v z=>by rw[d] at z;cases z⟩
 keep:=fun i h h' st k=>st.at fun o e=>k it (by simp) o e
 item:=by
  intro X hP hw hK hc i pins s σ H E I hf st hg;subst hP hw hK;obtain⟨xs,x,hq,hx⟩:=hg;obtain⟨its,rv,p,hz⟩:=I.tuple hq;obtain⟨u,hu,ru⟩:=rv.get hx;obtain⟨f0,f1,f2,f3,f4,f5⟩:=hf it (by simp);refine wpAny_pyNext_tuple_item st (show s.heap.IsTuple a its.toArray from p) (x:=u) (by simpa using hu) fun h' vO sb=>?_;have I1:Inv X pins σ H { s with heap:=h' }:=I.turned (t':=s.toks) (fun b o hb e=>(sb.2 b hb).trans e) f0 f1 f3 f4 f5;obtain⟨o,e,c,d⟩:=id vO;exact⟨u,rfl,go_of (s:={ s with heap:=h' }) e c d (by decide) ⟨x,H,I1,ru,⟨rfl,fun ys hy=>by rw[I.vK hy hq];exact hx⟩,vO,fun b hb=>(hf b hb).1⟩⟩
 done:=by
  intro X hP hw hK hc i pins s σ H E I hf st hg;subst hP hw hK;obtain⟨xs,hq,hx⟩:=hg;obtain⟨its,rv,p,hz⟩:=I.tuple hq;obtain⟨f0,f1,f2,f3,f4,f5⟩:=hf it (by simp);have hl:=rv.length;exact wpAny_pyNext_tuple_end (I.ok.hd hc) st (show s.heap.IsTuple a its.toArray from p) (by simp;omega) fun h' eb=>⟨rfl,I.turned (t':=s.toks) (fun b o hb e=>eb b o hb e) f0 f1 f3 f4 f5⟩
 self:=fun _ _ _ _ _ st h=>wpAny_pyIter_tupleiter st h
theorem Au {P:Program}{w:World}{K:PySem.W.Frag}{tg:Expr}(it:Addr)(lo:Int)(n:Nat):Turn P w K tg (Itr lo n) [it] it (fun i h=>IsRangeIter h it (lo+(i:Nat)*1) ((n:Int)-(i:Nat)) 1) where
 mem:=by simp
 obj:=fun i h st b hb=>by
  have e:b=it:=by simpa using hb
  subst e;exact⟨_,st,fun v z=>by
   have z':Data.fields _=Data.cell v:=z;cases z'⟩
 keep:=fun i h h' st k=>k it (by simp) _ st
 item:=by
  intro X hP hw hK hc i pins s σ H E I hf st hg;subst hP hw hK;obtain⟨f0,f1,f2,f3,f4,f5⟩:=hf it (by simp);have W:=Walks.range (prog:=X.prog) (w:=X.w) (I.ok.hd hc) it lo 1 n;refine W.item i s _ _ hg st fun v h' tk hv vO kk=>?_;obtain⟨t,rfl⟩:=hv;have I1:Inv X pins σ H { s with heap:=h',toks:=tk }:=I.turned (fun b o hb e=>kk b o (by simpa using hb) e) f0 f1 f3 f4 f5;refine⟨_,rfl,go_of (s:={ s with heap:=h',toks:=tk }) (n := "range_iterator") vO rfl rfl (by decide) ⟨.int (lo+i),H,I1,⟨t,?_⟩,⟨rfl,rfl⟩,vO,fun b hb=>(hf b hb).1⟩⟩;rw[Int.mul_one]
 done:=by
  intro X hP hw hK hc i pins s σ H E I hf st hg;subst hP hw hK;obtain⟨f0,f1,f2,f3,f4,f5⟩:=hf it (by simp);exact wpAny_pyNext_range_end (I.ok.hd hc) st (by have:n<=i:=hg;omega) fun h' eb=>⟨rfl,I.turned (t':=s.toks) (fun b o hb e=>eb b o hb e) f0 f1 f3 f4 f5⟩
 self:=fun _ _ _ _ _ st h=>wpAny_pyIter_rangeiter st h
section
variable {X:Cx}{tg:Expr}
theorem F6 {pins:List (Addr×Obj)}{σ:St}{H:Hp}{s:Shared}{R:It->Hp->Prop}{E:Value->Shared->Prop}{lo hi:Int}{t u v:Tok}{tk:Nat}(I:Inv X pins σ H s)(h1:-(2 ^ 62)<=lo)(h2:lo<2 ^ 62)(h3:-(2 ^ 62)<=hi)(h4:hi<2 ^ 62)
  (q:R (Itr lo (hi-lo).toNat) H):wpAny (model X.prog X.w) X.A (pyIter (.ref s.heap.objs.size)) (Uq X pins σ tg R) E { s with heap:=s.heap.push { cls:=.type "range", data:=.fields #[.int lo t,.int hi u,.int 1 v] },toks:=tk }:=by
 refine wpAny_pyIter_range (IsRange.new ..) (small_one h1 h2 h3 h4) ?_;have I1:Inv X pins σ H { s with heap:=s.heap.push { cls:=.type "range", data:=.fields #[.int lo t,.int hi u,.int 1 v] },toks:=tk }:=I.kept fun b o e=>af _ e;refine⟨(s.heap.push { cls:=.type "range", data:=.fields #[.int lo t,.int hi u,.int 1 v] }).objs.size,[(s.heap.push { cls:=.type "range", data:=.fields #[.int lo t,.int hi u,.int 1 v] }).objs.size],_,_,H,rfl,
  I1.kept (t':=tk) fun b o e=>af _ e,Au _ lo (hi-lo).toNat,?_,fun b hb=>?_,q⟩
 ·have e1:lo+((0:Nat):Int)*1=lo:=by simp
  have e2:(((hi-lo).toNat:Nat):Int)-((0:Nat):Int)=Builtin.Range.rangeSize lo hi 1:=by rw[rangeSize_one];split <;> omega
  show IsRangeIter _ _ (lo+((0:Nat):Int)*1) ((((hi-lo).toNat:Nat):Int)-((0:Nat):Int)) 1;rw[e1,e2];exact az _ rfl
 ·have e:b=(s.heap.push { cls:=.type "range", data:=.fields #[.int lo t,.int hi u,.int 1 v] }).objs.size:=by simpa using hb
  subst e;exact I1.zP (aE _) (I1.fT.fresh (aE _))
noncomputable def OS (ta:TA):TI:=fun σ H R=>ta σ H fun vs H1=>∃j:Int,vs=[.int j]/\-(2 ^ 62)<=j/\j<2 ^ 62/\R (Itr 0 j.toNat) H1
theorem pi_range1 {a:Expr}{ta:TA}{p pos:Pos}(hg:Gl X "range")(hm:X.mg "range" = none)(ha:PA X [a] ta)(hs:starEach [a] X.env=[(false,eval a X.env)]:=by rfl):PI X tg (.Call (.Name "range" p) [a] [] pos) (OS ta):=by
 intro pins s σ H R I h;refine Call_ (ld_blt I hg hm boot_range (PyProof.Rows.callWith_type1 (thn (ha pos pins s σ H _ I h) fun us s1 ⟨vs,H1,I1,r1,q1⟩=>?_) hs rfl));obtain⟨j,e,q1,q2,q⟩:=q1;subst e;cases r1 with
 |cons r rr =>
  cases rr;obtain⟨t,rfl⟩:=r;exact call_range_1 (F6 I1 ⋯ ⋯ q1 q2 (by simpa using q))
noncomputable def Q0 (wi:TI)(g:TG)(tb:TS):TS:=fun D σ H=>wi σ H fun J H1=>∃W:Nat->Nat->St->Hp->Prop,(∃m,W 0 m σ H1)/\∀i m σ H,W i m σ H →
 (J.stop i H/\D.nx σ H)\/(J.go i H/\∃N:St->Hp->Prop,(∀eX H',N eX H'->∃m',m'<m/\W (i+1) m' eX H')/\∀x H',J.NO i H x H'->g x σ H' fun sg H2=>tb { D with nx:=N,ct:=N,bk:=D.nx } sg H2)
noncomputable def tG (fp:List Addr)(h:Heap):List (Addr×Obj):=fp.filterMap fun b=>(h.get? b).map fun o=>(b,o)
theorem mh {fp:List Addr}{h:Heap}{b:Addr}{o:Obj}(hb:b∈fp)(e:h.get? b=some o):(b,o)∈tG fp h:=List.mem_filterMap.mpr ⟨b,hb,by rw[e];rfl⟩
theorem Ec {fp:List Addr}{h:Heap}{p:Addr×Obj}(hp:p∈tG fp h):p.1∈fp/\h.get? p.1=some p.2:=by
 obtain⟨b,hb,e⟩:=List.mem_filterMap.mp hp;cases q:h.get? b with
 |none=>rw[q] at e;cases e
 |some o =>
  rw[q] at e;have e':(b,o)=p:=Option.some.inj e;subst e';exact⟨hb,q⟩
theorem Inv.pinned {pins:List (Addr×Obj)}{σ:St}{H:Hp}{s:Shared}{fp:List Addr}(I:Inv X pins σ H s)(hf:∀b∈fp,va X pins H b)(ho:∀b∈fp,∃o,s.heap.get? b=some o/\∀v,o.data≠.cell v):Inv X (pins++tG fp s.heap) σ H s :=
 I.CF fun p hp=>(List.mem_append.mp hp).elim (fun z=>I.pin p (aO _ z)) fun z=>by
  obtain⟨hb,e⟩:=Ec z;obtain⟨f0,f1,f2,_⟩:=hf p.1 hb;obtain⟨o,e',d⟩:=ho p.1 hb;rw[e] at e';cases e';exact⟨e,f0,f1,f2,d⟩
theorem Inv.pG {pins pl:List (Addr×Obj)}{σ:St}{H:Hp}{s:Shared}(I:Inv X (pins++pl) σ H s):Inv X pins σ H s:=I.CF fun p hp=>I.pin p (aO _ (aV _ hp))
theorem ps_for {iter:Expr}{body:List Stmt}{wi:TI}{g:TG}{tb:TS}{pos:Pos}(hp:PassesOwn (model X.prog X.w) X.A X.env X.xe)(hc:X.calm=true)(hi:PI X tg iter wi)(hg:PG X tg g)(hb:PSs X body tb)
  (hs:∀x,foldedSetIterable iter X.env x=pure x:=by intro _;rfl):PS X (.For tg iter body [] pos) (Q0 wi g tb):=by
 intro pins s σ H D I h;refine wpAny_For (thn (hi pins s σ H _ I h) fun v s1 h1=>thn h1 fun Qt s2 h2=>?_) hs;obtain⟨it,fp,tn,J,H2,e,I2,T,Ku,f2,W,⟨m0,w0⟩,turn⟩:=h2;subst e;have AB:∀{H':Hp},(∀b∈fp,H' b=none)->∀b∈fp,va X pins H' b:=fun hn b hb=>⟨hn b hb,(f2 b hb).2⟩;refine codeAny_forLoop_any (fun n s'=>∃i eX H',Inv X pins eX H' s'/\tn i s'.heap/\(∀b∈fp,H' b=none)/\W i n eX H') ?_ m0 ⟨0,σ,H2,I2,Ku,fun b hb=>(f2 b hb).1,w0⟩;rintro n s3 ⟨i,rm,H3,I3,Tp,Ul,w3⟩;rcases turn i n rm H3 w3 with ⟨stop,qn⟩|⟨go,N,hN,step⟩
 ·refine wpAny_passesOwn hp (thn (T.done X rfl rfl rfl hc i pins s3 rm H3 X.xe I3 (AB Ul) Tp stop) fun r s4 zz=>?_);obtain ⟨hr,I4⟩:=zz;subst hr;exact wpAny_execs_nil ⟨rm,H3,I4,qn⟩
 ·refine wpAny_passesOwn hp (thn (T.item X rfl rfl rfl hc i pins s3 rm H3 X.xe I3 (AB Ul) Tp go) fun r s4 zz=>?_);obtain ⟨u,hr,h4⟩:=zz;subst hr;refine wpAny_passesOwn hp (thn h4 fun _ s5 zz=>?_);obtain ⟨x,H5,I5,r5,y5,Na,QC⟩:=zz;have WI:=I5.pinned (AB QC) (T.obj _ _ Na);refine wpAny_passesOwn hp (thn (hg _ s5 rm H5 x u _ WI r5 (step x H5 y5)) fun _ s6 zz=>?_);obtain ⟨Uw,H6,I6,q6⟩:=zz;refine wpAny_passesOwn hp (thn (hb _ s6 Uw H6 _ I6 q6) fun f s7 q7=>?_);have again:∀{Fm:St}{H7:Hp},Inv X (pins++tG fp s5.heap) Fm H7 s7->N Fm H7->∃m,m<n/\∃i eX H',Inv X pins eX H' s7/\tn i s7.heap/\(∀b∈fp,H' b=none)/\W i m eX H':=fun {Fm H7} I7 n7=>by
   obtain⟨m',hm,w7⟩:=hN Fm H7 n7;refine⟨m',hm,i+1,Fm,H7,I7.pG,T.keep _ _ _ Na fun b hb o e=>(I7.pin (b,o) (aO _ (aO _ (mh hb e)))).1,fun b hb=>?_,w7⟩;obtain⟨o,e,d⟩:=T.obj _ _ Na b hb;exact (I7.pin (b,o) (aO _ (aO _ (mh hb e)))).2.1
  cases f with
  |next=>obtain⟨Fm,H7,I7,n7⟩:=q7;exact again I7 n7
  |cont=>obtain⟨Fm,H7,I7,n7⟩:=q7;exact again I7 n7
  |brk=>obtain⟨Fm,H7,I7,q7⟩:=q7;exact⟨Fm,H7,I7.pG,q7⟩
  |ret v=>obtain⟨x7,Fm,H7,I7,r7,q7⟩:=q7;exact⟨x7,Fm,H7,I7.pG,r7,q7⟩
end
noncomputable abbrev R2:=V->V->Hp->VK->Prop
noncomputable def OpR (X:Cx)(f:Value->Value->Sem Value)(r:R2):Prop :=
 ∀(pins:List (Addr×Obj)) (s:Shared) (σ:St) (H:Hp) (x y:V) (v u:Value) (Q:VK),Inv X pins σ H s->dQ x v->dQ y u->r x y H Q →
  wpAny (model X.prog X.w) X.A (f v u) (EP X pins σ Q) X.xe s
noncomputable def UnR (X:Cx)(f:Value->Sem Value)(r:V->Hp->VK->Prop):Prop :=
 ∀(pins:List (Addr×Obj)) (s:Shared) (σ:St) (H:Hp) (x:V) (v:Value) (Q:VK),Inv X pins σ H s->dQ x v->r x H Q →
  wpAny (model X.prog X.w) X.A (f v) (EP X pins σ Q) X.xe s
noncomputable def CallR (X:Cx)(f:Value)(r:List V->Hp->VK->Prop):Prop :=
 ∀(pins:List (Addr×Obj)) (s:Shared) (σ:St) (H:Hp) (xs:List V) (us:List Value) (Q:VK),Inv X pins σ H s->cV xs us->r xs H Q →
  wpAny (model X.prog X.w) X.A (call f us) (EP X pins σ Q) X.xe s
noncomputable def tOp (r:R2)(ta tb:TE):TE:=fun σ H Q=>ta σ H fun x H1=>tb σ H1 fun y H2=>r x y H2 Q
noncomputable def tUn (r:V->Hp->VK->Prop)(ta:TE):TE:=fun σ H Q=>ta σ H fun x H1=>r x H1 Q
noncomputable def rI (C:Int->Int->Prop)(g:Int->Int->V):R2:=fun x y H Q=>∃i j,x=.int i/\y=.int j/\C i j/\Q (g i j) H
noncomputable def rI0 (g:Int->Int->V):R2:=fun x y H Q=>∃i j,x=.int i/\y=.int j/\Q (g i j) H
noncomputable def rU (g:Int->V):V->Hp->VK->Prop:=fun x H Q=>∃i,x=.int i/\Q (g i) H
section
variable {X:Cx}{a b c:Expr}{ta tb tc:TE}{pos:Pos}
theorem MT (ha:PE X a ta)(hb:PE X b tb){pins:List (Addr×Obj)}{s:Shared}{σ:St}{H:Hp}{R:V->V->Hp->Prop}(I:Inv X pins σ H s)
  (h:ta σ H fun x H1=>tb σ H1 fun y H2=>R x y H2) {Q:Value->Shared->Prop}{f:Value->Value->Sem Value}
  (hf:∀v u s2 x y H2,Inv X pins σ H2 s2->dQ x v->dQ y u->R x y H2->wpAny (model X.prog X.w) X.A (f v u) Q X.xe s2) :
  wpAny (model X.prog X.w) X.A (eval a X.env) (fun v dO=>wpAny (model X.prog X.w) X.A (eval b X.env) (fun u sW=>wpAny (model X.prog X.w) X.A (f v u) Q X.xe sW) X.xe dO) X.xe s:=by
 refine thn (ha pins s σ H _ I h) fun v s1 zz=>?_;obtain ⟨x,H1,I1,r1,q1⟩:=zz;refine thn (hb pins s1 σ H1 _ I1 q1) fun u s2 zz=>?_;obtain ⟨y,H2,I2,r2,q2⟩:=zz;exact hf v u s2 x y H2 I2 r1 r2 q2
theorem pe_op {op:Operator}{r:R2}(ho:OpR X (binaryOp op) r)(ha:PE X a ta)(hb:PE X b tb):PE X (.BinOp a op b pos) (tOp r ta tb):=by
 intro pins s σ H Q I h;exact wpAny_BinOp (MT ha hb I h fun v u s2 x y H2 I2 rx ry q=>ho pins s2 σ H2 x y v u Q I2 rx ry q)
theorem pe_un {op:UnaryOp}{r:V->Hp->VK->Prop}(ho:UnR X (unaryOp op) r)(ha:PE X a ta):PE X (.UnaryOp op a pos) (tUn r ta):=by
 intro pins s σ H Q I h;exact UnaryOp_ (thn (ha pins s σ H _ I h) fun v s1 ⟨x,H1,I1,r1,q1⟩=>ho pins s1 σ H1 x v Q I1 r1 q1)
theorem Qp {f:Value->Value->Sem Value}{C:Int->Int->Prop}{g:Int->Int->Int}
  (rule:∀(i j:Int) (t u:Tok) (s:Shared) (Q:Value->Shared->Prop) (E:Value->Shared->Prop),C i j->Q (.int (g i j) s.toks) { s with toks:=s.toks+1 }->wpAny (model X.prog X.w) X.A (f (.int i t) (.int j u)) Q E s) :
  OpR X f (rI C fun i j=>.int (g i j)):=by
 intro pins s σ H x y v u Q I rx ry h;obtain⟨i,j,rfl,rfl,hc,q⟩:=h;obtain⟨t,rfl⟩:=rx;obtain⟨t',rfl⟩:=ry;exact rule i j t t' s _ _ hc ⟨.int (g i j),H,I.tok _,⟨_,rfl⟩,q⟩
theorem Ov {f:Value->Value->Sem Value}{g:Int->Int->Int}
  (rule:∀(i j:Int) (t u:Tok) (s:Shared) (Q:Value->Shared->Prop) (E:Value->Shared->Prop),Q (.int (g i j) s.toks) { s with toks:=s.toks+1 }->wpAny (model X.prog X.w) X.A (f (.int i t) (.int j u)) Q E s) :
  OpR X f (rI0 fun i j=>.int (g i j)):=by
 intro pins s σ H x y v u Q I rx ry h;obtain⟨i,j,rfl,rfl,q⟩:=h;obtain⟨t,rfl⟩:=rx;obtain⟨t',rfl⟩:=ry;exact rule i j t t' s _ _ ⟨.int (g i j),H,I.tok _,⟨_,rfl⟩,q⟩
theorem Ow {f:Value->Value->Sem Value}{g:Int->Int->Bool}
  (rule:∀(i j:Int) (t u:Tok) (s:Shared) (Q:Value->Shared->Prop) (E:Value->Shared->Prop),Q (.bool (g i j)) s->wpAny (model X.prog X.w) X.A (f (.int i t) (.int j u)) Q E s) :
  OpR X f (rI0 fun i j=>.bl (g i j)):=by
 intro pins s σ H x y v u Q I rx ry h;obtain⟨i,j,rfl,rfl,q⟩:=h;obtain⟨t,rfl⟩:=rx;obtain⟨t',rfl⟩:=ry;exact rule i j t t' s _ _ ⟨.bl (g i j),H,I,rfl,q⟩
def CDiv (i j:Int):Prop:=0<j/\j<1073741824
def CPow (i j:Int):Prop:=0<=j/\j<=1000000/\i.natAbs<2 ^ 64
def CMul (i j:Int):Prop:=(-(2 ^ 64)<i/\i<2 ^ 64)\/(-(2 ^ 64)<j/\j<2 ^ 64)
theorem CMul.ok {i j:Int}(h:CMul i j):IntMulOk i j:=by
 rcases h with ⟨h1,h2⟩|⟨h1,h2⟩
 ·exact .of_left (intBits_le_64 h1 h2)
 ·exact .of_right (intBits_le_64 h1 h2)
theorem LP:OpR X (binaryOp .Add) (rI0 fun i j=>.int (i+j)):=Ov fun _ _ _ _ _ _ _ q=>add_int q
theorem op_sub:OpR X (binaryOp .Sub) (rI0 fun i j=>.int (i-j)):=Ov fun _ _ _ _ _ _ _ q=>sub_int q
theorem op_mul:OpR X (binaryOp .Mult) (rI CMul fun i j=>.int (i*j)):=Qp fun _ _ _ _ _ _ _ hc q=>mul_int q hc.ok
theorem op_fdiv:OpR X (binaryOp .FloorDiv) (rI CDiv fun i j=>.int (i/j)):=Qp fun i j _ _ _ _ _ hc q=>by
 have h1:(0:Int)<j:=hc.1;have h2:j<1073741824:=hc.2;exact floordiv_int ⋯ (by rw[Int.fdiv_eq_ediv_of_nonneg i ⋯];exact q) (.inl (PyProof.noPylong_small ⋯))
theorem op_mod:OpR X (binaryOp .Mod) (rI (fun _ j=>0<j) fun i j=>.int (i%j)):=Qp fun i j _ _ _ _ _ hc q=>by
 have h1:(0:Int)<j:=hc;exact mod_int' ⋯ (by rw[Int.fmod_eq_emod_of_nonneg i ⋯];exact q)
theorem op_pow:OpR X (binaryOp .Pow) (rI CPow fun i j=>.int (i ^ j.toNat)):=Qp fun _ _ _ _ _ _ _ hc q=>pow_int_small hc.1 hc.2.1 hc.2.2 q
theorem UC {f:Value->Sem Value}{g:Int->Int}
  (rule:∀(i:Int) (t:Tok) (s:Shared) (Q:Value->Shared->Prop) (E:Value->Shared->Prop),Q (.int (g i) s.toks) { s with toks:=s.toks+1 }->wpAny (model X.prog X.w) X.A (f (.int i t)) Q E s) :
  UnR X f (rU fun i=>.int (g i)):=by
 intro pins s σ H x v Q I rx h;obtain⟨i,rfl,q⟩:=h;obtain⟨t,rfl⟩:=rx;exact rule i t s _ _ ⟨.int (g i),H,I.tok _,⟨_,rfl⟩,q⟩
theorem un_neg:UnR X (unaryOp .USub) (rU fun i=>.int (-i)):=UC fun _ _ _ _ _ q=>neg_int q
end
section
variable {X:Cx}{a b c:Expr}{ta tb tc:TE}{pos:Pos}
theorem op_lt:OpR X (compareOp .Lt) (rI0 fun i j=>.bl (decide (i<j))):=Ow fun _ _ _ _ _ _ _ q=>lt_int q
theorem op_gt:OpR X (compareOp .Gt) (rI0 fun i j=>.bl (decide (j<i))):=Ow fun _ _ _ _ _ _ _ q=>gt_int q
theorem OpR.or {f:Value->Value->Sem Value}{r r':R2}(h:OpR X f r)(h':OpR X f r'):OpR X f (fun x y H Q=>r x y H Q\/r' x y H Q):=by
 intro pins s σ H x y v u Q I rx ry q;rcases q with q|q
 ·exact h pins s σ H x y v u Q I rx ry q
 ·exact h' pins s σ H x y v u Q I rx ry q
theorem nomark (b:Expr){op:CmpOp}(h:op≠.In:=by decide)(h2:op≠.NotIn:=by decide):behindInMarks op b=false:=by
 have e1:(op==CmpOp.In)=false:=by cases op <;> first|rfl|exact absurd rfl h
 have e2:(op==CmpOp.NotIn)=false:=by cases op <;> first|rfl|exact absurd rfl h2
 cases b <;> simp[behindInMarks,e1,e2]
theorem pe_cmpR {op:CmpOp}{r:R2}(ho:OpR X (compareOp op) r)(ha:PE X a ta)(hb:PE X b tb)(hm:behindInMarks op b=false):PE X (.Compare a [op] [b] pos) (tOp r ta tb):=by
 intro pins s σ H Q I h;exact wpAny_Compare1 (MT ha hb I h fun v u s2 x y H2 I2 rx ry q=>ho pins s2 σ H2 x y v u Q I2 rx ry q) hm
noncomputable def NZ (t:TE):TT:=fun σ H Q=>t σ H fun x H'=>∃k,x=.bl k/\Q k H'
theorem pt_cmpR {op:CmpOp}{r:R2}(ho:OpR X (compareOp op) r)(ha:PE X a ta)(hb:PE X b tb)(hm:behindInMarks op b=false):PT X (.Compare a [op] [b] pos) (NZ (tOp r ta tb)):=by
 intro pins s σ H Q I h;refine wpAny_isTrue_Compare1 (thn (ha pins s σ H _ I h) fun v s1 ⟨x,H1,I1,r1,q1⟩=>thn (hb pins s1 σ H1 _ I1 q1) fun u s2 ⟨y,H2,I2,r2,q2⟩ =>
  thn (ho pins s2 σ H2 x y v u _ I2 r1 r2 q2) fun c s3 ⟨z,H3,I3,r3,k,e,q3⟩=>?_) hm
 subst e;cases r3;exact wpAny_truthy_bool ⟨H3,I3,q3⟩
theorem line63:(sizeLine:Nat)<2 ^ 63:=by rw[sizeLine_eq];decide
theorem AQ:OpR X (binaryOp .Add) (fun x y H Q=>∃i j,x=.str i/\y=.str j/\i.length+j.length<=sizeLine/\Q (.str (i++j)) H):=by
 intro pins s σ H x y v u Q I rx ry h;obtain⟨i,j,rfl,rfl,hz,q⟩:=h;obtain⟨t,rfl⟩:=rx;obtain⟨t',rfl⟩:=ry;exact add_str (fun t' tk=>⟨.str (i++j),H,I.tok _,⟨_,rfl⟩,q⟩) hz
theorem vals1 {x:V}{us:List Value}(r:cV [x] us):∃u,us=[u]/\dQ x u:=by
 cases r with
 |cons r1 r2=>cases r2;exact⟨_,rfl,r1⟩
theorem Ko {x y:V}{us:List Value}(r:cV [x,y] us):∃u w',us=[u,w']/\dQ x u/\dQ y w':=by
 cases r with
 |cons r1 r2 =>
  cases r2 with
  |cons r3 r4=>cases r4;exact⟨_,_,rfl,r1,r3⟩
theorem call_max2 (hc:X.calm=true):CallR X (.builtin "max") (fun xs H Q=>∃i j,xs=[.int i,.int j]/\Q (.int (if j>i then j else i)) H):=by
 intro pins s σ H xs us Q I r h;obtain⟨i,j,rfl,q⟩:=h;obtain⟨u,w',rfl,⟨t,rfl⟩,⟨t',rfl⟩⟩:=Ko r;refine max_two_ints (I.ok.hd hc) fun h' tk k=>⟨_,H,I.kept k,?_,q⟩;by_cases hj:j>i
 ·rw[if_pos hj,if_pos hj];exact⟨_,rfl⟩
 ·rw[if_neg hj,if_neg hj];exact⟨_,rfl⟩
theorem call_min2 (hc:X.calm=true):CallR X (.builtin "min") (fun xs H Q=>∃i j,xs=[.int i,.int j]/\Q (.int (if j<i then j else i)) H):=by
 intro pins s σ H xs us Q I r h;obtain⟨i,j,rfl,q⟩:=h;obtain⟨u,w',rfl,⟨t,rfl⟩,⟨t',rfl⟩⟩:=Ko r;refine min_two_ints (I.ok.hd hc) fun h' tk k=>⟨_,H,I.kept k,?_,q⟩;by_cases hj:j<i
 ·rw[if_pos hj,if_pos hj];exact⟨_,rfl⟩
 ·rw[if_neg hj,if_neg hj];exact⟨_,rfl⟩
end
section
variable {prog:Program}{w:World}{A:Around}{E:Value->Shared->Prop}{s:Shared}{K:PySem.W.Frag}{x dx C f:Addr}{mA:Str->Option Value}{name:Str}{v:Value}
end
section
variable {P:Program}{w:World}{H H':Hp}{h h':Heap}{a C dx:Addr}{fs Wt:List (Str×V)}
end
section
variable {X:Cx}{pins:List (Addr×Obj)}{σ:St}{H:Hp}{s:Shared}{a C dx:Addr}{fs:List (Str×V)}{f:Str}{v:V}{A:Around}{E:Value->Shared->Prop}
end
section
variable {X:Cx}{o e value:Expr}{f:Str}{pos pos' UI:Pos}{ta tv:TE}
end
section
variable {X:Cx}{pins:List (Addr×Obj)}{σ:St}{H:Hp}{s:Shared}{A:Around}{E:Value->Shared->Prop}{Q:Value->Shared->Prop}{c:Value}{b:Bool}
end
structure Room (k:Nat)(A:Around):Prop where
 hd:A.handled=none
 dp:A.depth+3*k+5<recursionLimit
 un:A.units+16*k+200<cLine
theorem Room.mono {j k:Nat}{A:Around}(r:Room k A)(h:j<=k):Room j A:=⟨r.hd,by have:=r.dp;omega,by have:=r.un;omega⟩
theorem Room.deeper {k:Nat}{A:Around}(r:Room (k+1) A)(env:Env):Room k (A.deeper env) :=
 ⟨r.hd,by have:=r.dp;show A.depth+1+3*k+5<_;omega,by have:=r.un;show A.units+3+16*k+200<_;omega⟩
theorem Room.depth {k:Nat}{A:Around}(r:Room k A):A.depth<recursionLimit:=by have:=r.dp;omega
theorem Room.units {k:Nat}{A:Around}(r:Room k A):A.units+64<cLine:=by have:=r.un;omega
noncomputable def tNil:TA:=fun _ H Q=>Q [] H
noncomputable def tCons (ta:TE)(tr:TA):TA:=fun σ H Q=>ta σ H fun x H1=>tr σ H1 fun xs H2=>Q (x::xs) H2
section
variable {X:Cx}{e:Expr}{es:List Expr}{te:TE}{t:TA}{pos:Pos}
theorem pa_nil:PA X [] tNil:=fun _ _ _ _ H Q I h=>Calls.spliced_nil ⟨[],H,I,.nil,h⟩
theorem pa_cons (ha:PE X e te)(hr:PA X es t)(hs:starEach (e::es) X.env=(false,eval e X.env)::starEach es X.env:=by rfl):PA X (e::es) (tCons te t):=by
 intro pos pins s σ H Q I h;rw[hs];show wpAny _ _ (spliced ((false,eval e X.env)::backTo pos (starEach es X.env))) _ _ s;refine Calls.spliced_cons (thn (ha pins s σ H _ I h) fun u s1 zz=>?_);obtain ⟨x,H1,I1,r1,q1⟩:=zz;exact thn (hr pos pins s1 σ H1 _ I1 q1) fun us s2 ⟨xs,H2,I2,r2,q2⟩=>⟨x::xs,H2,I2,.cons r1 r2,q2⟩
noncomputable def QU (t:TA):TE:=fun σ H Q=>t σ H fun xs H1=>xs.length<=sizeLine/\∀p,H1 p=none->Q (.ref p) (eF H1 p (.tup xs))
noncomputable def QX (t:TA):TE:=fun σ H Q=>t σ H fun xs H1=>xs.length<=sizeLine/\∀p,H1 p=none->Q (.ref p) (eF H1 p (.lst xs))
theorem pe_tup {x1}(h:PA X es t):PE X (.Tuple es x1 pos) (QU t):=by
 intro pins s σ H Q I hq;refine wpAny_Tuple_spliced (thn (h pos pins s σ H _ I hq) fun us s1 ⟨xs,H1,I1,r,z,q⟩=>⟨by rw[<-r.length];exact z,?_⟩);have hf:H1 s1.heap.objs.size=none:=I1.fT.fresh (aE _);refine⟨.ref s1.heap.objs.size,eF H1 s1.heap.objs.size (.tup xs),I1.laid (t':=s1.toks) (fun b u e=>af _ e) (aE _) ?_,rfl,q _ hf⟩;exact⟨z,us,r,⟨_,az _ rfl,rfl,_,rfl⟩⟩
theorem pe_lst (h:PA X es t):PE X (.List es pos) (QX t):=by
 intro pins s σ H Q I hq;refine wpAny_List_spliced (thn (h pos pins s σ H _ I hq) fun us s1 ⟨xs,H1,I1,r,z,q⟩=>⟨by rw[<-r.length];exact z,?_⟩);have hf:H1 s1.heap.objs.size=none:=I1.fT.fresh (aE _);refine⟨.ref s1.heap.objs.size,eF H1 s1.heap.objs.size (.lst xs),I1.laid (t':=s1.toks) (fun b u e=>af _ e) (aE _) ?_,rfl,q _ hf⟩;exact⟨z,us,0,r,az _ rfl⟩
end
noncomputable abbrev Sp:=List V->Hp->VK->XK->Prop
noncomputable abbrev Fj:=List Env->Hp->Shared->XK->Value->Shared->Prop
structure Km (P:Program)(w:World)(K:PySem.W.Frag)(mg:Str->Option Value)(base:Heap)(A:Around)(outer:List Env)(s:Shared)(H:Hp):Prop where
 frames:A.frames=some outer
 mod:Mod K mg base
 bs:∀b o,base.get? b=some o->s.heap.get? b=some o/\H b=none
 K8:base.objs.size<=s.heap.objs.size
 ub:s.heap.FunFrames base outer
 Nx:∀b∈EG outer,H b=none
 fT:uZ P w H s.heap
 bare:AllBare s.gens
noncomputable def CE (outer:List Env)(P:Program)(w:World)(H:Hp)(s:Shared)(Q:VK)(u:Value)(s':Shared):Prop :=
 ∃v H',s'.os=s.os/\AllBare s'.gens/\Un (EG outer) [] H H' s.heap s'.heap/\uZ P w H' s'.heap/\dQ v u/\Q v H'
noncomputable def CR (CX:Fj)(outer:List Env)(P:Program)(w:World)(H:Hp)(s:Shared)(Q:VK)(E:XK)(r:Result)(s':Shared):Prop :=
 match r with
 |.ok (.ret u)=>CE outer P w H s Q u s'
 |.ok _=>False
 |.error e=>CX outer H s E e s'
structure FnOk (P:Program)(w:World)(K:PySem.W.Frag)(mg:Str->Option Value)(base:Heap)(CX:Fj)(k:Nat)(f:Addr)(fd:FuncData)(ps:List Str)(sp:Sp):Prop where
 len:∀vs H Q E,sp vs H Q E->vs.length=ps.length
 run:∀(A:Around) (outer:List Env) (s:Shared) (H:Hp) (args:Args) (us:List Value) (vs:List V) (Q:VK) (E:XK),Room k A->Km P w K mg base A outer s H->BindsTo s fd args (ps.zip us)->cV vs us->sp vs H Q E →
  codeAny (model P w) A (.call (.ref f) args) (CR CX outer P w H s Q E) s
section
variable {X:Cx}{pins:List (Addr×Obj)}{σ:St}{H:Hp}{s s':Shared}
theorem Inv.SV (I:Inv X pins σ H s):Km X.prog X.w X.K X.mg X.base X.A X.stack s H :=
 ⟨I.ok.frames,I.ok.mod,I.bs,bK I.ok.K8 I.sz,I.stack,I.Cr,I.fT,I.bare⟩
theorem Inv.after {Q:VK}{u:Value}(I:Inv X pins σ H s)(h:CE X.stack X.prog X.w H s Q u s'):EP X pins σ Q u s':=by
 obtain⟨v,H',os,bare,un,fT,r,q⟩:=h;obtain⟨hh,g,d,t,Ou⟩:=s'
 obtain rfl:Ou=s.os:=os
 exact⟨v,H',I.call (h':=hh) (g':=g) (d':=d) (t':=t) (ch:=[]) un fT bare (fun b z=>absurd z (by simp)),r,q⟩
end
noncomputable def N3 (sp:Sp)(K3:List V)(E:XK)(t:TA):TE:=fun σ H Q=>t σ H fun vs H1=>sp (vs++K3) H1 Q E
noncomputable def Binds (K:PySem.W.Frag)(fd:FuncData)(ps:List Str)(ds:List Value):Prop :=
 ∀(s:Shared) (us:List Value),K.In s.heap->(us++ds).length=ps.length->BindsTo s fd ⟨us,[]⟩ (ps.zip (us++ds))
theorem Binds.all {K:PySem.W.Frag}{fd:FuncData}{ps:List Str}(h:∀us:List Value,us.length=ps.length->bindArgs fd ⟨us,[]⟩=pure (ps.zip us)):Binds K fd ps []:=fun s us _ hl=>by
 rw[bw] at hl ⊢;exact .of_eq (h us hl)
def B5 (CX:Fj)(X:Cx)(E:XK):Prop:=∀(pins:List (Addr×Obj)) (σ:St) (H:Hp) (s:Shared) (e:Value) (s':Shared),Inv X pins σ H s->CX X.stack H s E e s'->X.xe e s'
section
variable {X:Cx}{CX:Fj}{k:Nat}{f C:Addr}{fd:FuncData}{ps:List Str}{sp:Sp}{K3:List V}{ds:List Value}{E:XK}{x m:Str}{p pos apos:Pos}{e o:Expr}{es:List Expr}{ta:TE}{t:TA}
theorem LI {pins:List (Addr×Obj)}{σ:St}{H:Hp}{s:Shared}{Q:VK}{us:List Value}{vs:List V}(F:FnOk X.prog X.w X.K X.mg X.base CX k f fd ps sp)(hr:Room k X.A)(hb:Binds X.K fd ps ds)(hd:cV K3 ds)(hx:B5 CX X E)
  (I:Inv X pins σ H s) (r:cV vs us) (h:sp (vs++K3) H Q E):wpAny (model X.prog X.w) X.A (call (.ref f) us) (EP X pins σ Q) X.xe s:=by
 have r2:cV (vs++K3) (us++ds):=r.append hd;have hl:(us++ds).length=ps.length:=by rw[<-r2.length];exact F.len _ _ _ _ h
 refine wpAny_call (codeAny_mono (F.run X.A X.stack s H ⟨us,[]⟩ (us++ds) (vs++K3) Q E hr I.SV (hb s us I.GR hl) r2 h) fun r s' hq=>?_);cases r with
 |error e=>exact hx pins σ H s e s' I hq
 |ok fl =>
  cases fl with
  |ret u=>exact I.after hq
  |next=>exact False.elim hq
  |brk=>exact False.elim hq
  |cont=>exact False.elim hq
theorem pe_call (F:FnOk X.prog X.w X.K X.mg X.base CX k f fd ps sp)(hr:Room k X.A)(hg:Gl X x)(hm:X.mg x=some (.ref f))(hk:PySem.W.keepIn X.K (.ref f)=true)(hb:Binds X.K fd ps ds)(hd:cV K3 ds)(hx:B5 CX X E)
  (ha:PA X (e::es) t) (vv:(x==("__debug__" : Str))=false:=by decide) (he:starEach (e::es) X.env=(false,eval e X.env)::starEach es X.env:=by rfl) (nP:(backTo pos (starEach es X.env)).any (·.1)=false:=by rfl) :
  PE X (.Call (.Name x p) (e::es) [] pos) (N3 sp K3 E t):=by
 intro pins s σ H Q I h;refine wpAny_Call_Name_kw (JD I hg hm ?_ vv);refine PySem.W.callWith_K (h₀:=X.base) I.ok.mod.Nh hk (thn (ha pos pins s σ H _ I h) fun us s1 ⟨vs,H1,I1,r,q⟩=>⟨I1.GR,?_⟩) he nP;exact LI F hr hb hd hx I1 r q
end
section
variable {X:Cx}{CX:Fj}{k:Nat}{f C:Addr}{fd:FuncData}{ps ks:List Str}{sp:Sp}{E:XK}{x m:Str}{p pos apos Vb:Pos}{e o:Expr}{es:List Expr}{kws:List Keyword}{te ta:TE}{t tk:TA}{nm:Option Str}
variable {g:List Value->List Value->List Value}{gV:List V->List V->List V}
end
structure FnScope (N P:List Str)(sc:Scope):Prop where
 kind:sc.kind=.function
 co:sc.isCoroutine=false
 gen:sc.isGenerator=false
 nd:N.Nodup
 pre:N.take P.length=P
 par:∀x∈P,sc.names.lookup x=some .local\/sc.names.lookup x=some .cell
 L1:∀y∈sc.names,y.2≠.free
theorem wO {kindOf:Str->Option NameKind}{x:Str}:∀{binds:List (Str×Value)}{m:Str->Option Value},(∀v,(x,v)∉binds)->bindL kindOf binds m x=m x
 |[],_,_=>rfl
 | (n,v)::r,m,h=>by
  unfold bindL;rw[wO fun w hw=>h w (aG _ hw)];split
  ·have:x≠n:=by rintro rfl;exact h v aP
   simp[this]
  ·rfl
theorem wR {kindOf:Str->Option NameKind}{x:Str}:∀{binds:List (Str×Value)}{m:Str->Option Value},(∀v,(x,v)∉binds)->bindC kindOf binds m x=m x
 |[],_,_=>rfl
 | (n,v)::r,m,h=>by
  unfold bindC;rw[wR fun w hw=>h w (aG _ hw)];split
  ·rfl
  ·have:x≠n:=by rintro rfl;exact h v aP
   simp[this]
theorem wQ {kindOf:Str->Option NameKind}{x:Str}{v:Value}:∀{P:List Str}{vs:List Value}{i:Nat}{m:Str->Option Value},P.Nodup->P[i]?=some x->vs[i]?=some v->kindOf x=some .local →
  bindL kindOf (P.zip vs) m x=some v
 |[],_,_,_,_,h,_,_=>by simp at h
 |_::_,[],_,_,_,_,h,_=>by simp at h
 | p::P,w::vs,0,m,nd,h1,h2,hk=>by
  simp at h1 h2;subst h1;subst h2;show bindL kindOf ((p,w)::P.zip vs) m p=_;unfold bindL;rw[wO fun v hv=>(List.nodup_cons.mp nd).1 (Xm hv).1,if_pos hk];simp
 | p::P,w::vs,i+1,m,nd,h1,h2,hk=>by
  show bindL kindOf ((p,w)::P.zip vs) m x=_;unfold bindL;exact wQ (i:=i) (List.nodup_cons.mp nd).2 (by simpa using h1) (by simpa using h2) hk
theorem wU {kindOf:Str->Option NameKind}{x:Str}{v:Value}:∀{P:List Str}{vs:List Value}{i:Nat}{m:Str->Option Value},P.Nodup->P[i]?=some x->vs[i]?=some v->kindOf x≠some .local →
  bindC kindOf (P.zip vs) m x=some v
 |[],_,_,_,_,h,_,_=>by simp at h
 |_::_,[],_,_,_,_,h,_=>by simp at h
 | p::P,w::vs,0,m,nd,h1,h2,hk=>by
  simp at h1 h2;subst h1;subst h2;show bindC kindOf ((p,w)::P.zip vs) m p=_;unfold bindC;rw[wR fun v hv=>(List.nodup_cons.mp nd).1 (Xm hv).1,if_neg hk];simp
 | p::P,w::vs,i+1,m,nd,h1,h2,hk=>by
  show bindC kindOf ((p,w)::P.zip vs) m x=_;unfold bindC;exact wU (i:=i) (List.nodup_cons.mp nd).2 (by simpa using h1) (by simpa using h2) hk
noncomputable def start (N:List Str)(vs:List V):St:=vs.map some++aK (N.length-vs.length) none
noncomputable def cxOf (CX:Fj)(P:Program)(w:World)(K:PySem.W.Frag)(mg:Str->Option Value)(base:Heap)(N:List Str)(qual:Str)(scope:Scope)(f:Addr)(cd:Value)(A:Around)(outer:List Env)(s:Shared)(H:Hp)(E:XK):Cx where
 prog:=P
 w:=w
 K:=K
 mg:=mg
 base:=base
 A:=A.deeper (envOfC qual scope s.heap.objs.size f cd)
 N:=N
 eC:=s
 cM:=H
 env:=envOfC qual scope s.heap.objs.size f cd
 outer:=outer
 stack:=envOfC qual scope s.heap.objs.size f cd::outer
 ex:=[]
 calm:=true
 fn:=fun _=>true
 pn:=[]
 xe:=fun e s'=>wpAny (model P w) (A.deeper (envOfC qual scope s.heap.objs.size f cd)) (leaving (envOfC qual scope s.heap.objs.size f cd) e) (fun _ LG=>CX outer H s E e LG) (fun e' LG=>CX outer H s E e' LG) s'
theorem zU {sc:Scope}{n:Nat}{x:Str}(h:sc.names.lookup x=some .cell):∃c,(cellsFrom n sc.names []).lookup x=some c:=by
 have q:=PySem.W.cellsFrom_some sc.names n [] (.inl h);exact Option.isSome_iff_exists.mp q
theorem Ex {CX:Fj}{P:Program}{w:World}{K:PySem.W.Frag}{mg:Str->Option Value}{base:Heap}{N ps:List Str}{qual:Str}{scope:Scope}{f:Addr}{cd:Value}{A:Around}{outer:List Env}{s s1:Shared}{H:Hp}{E:XK}{us:List Value}{vs:List V}
  (S:FnScope N ps scope) (hd:A.handled=none) (e0:Km P w K mg base A outer s H) (hl:vs.length=ps.length) (r:cV vs us)
  (x:InCallC s s.heap.objs.size (bindL (envOfC qual scope s.heap.objs.size f cd).kindOf (ps.zip us) fun _=>none) (cellsFrom (s.heap.objs.size+1) scope.names []) (bindC (envOfC qual scope s.heap.objs.size f cd).kindOf (ps.zip us) fun _=>none) s1) :
  Inv (cxOf CX P w K mg base N qual scope f cd A outer s H E) [] (start N vs) H s1:=by
 have nP:ps.length<=N.length:=by have:=congrArg List.length S.pre;rw[List.length_take] at this;omega
 obtain⟨h1,tk,rfl,hk⟩:=x.done;have OE:∀b:Addr,b∉(cxOf CX P w K mg base N qual scope f cd A outer s H E).ex:=fun b z=>absurd (show b∈([]:List Addr) from z) (by simp);refine⟨⟨e0.mod,S.kind,rfl,rfl,aE _,fun y z c h1 h2=>?_,fun y hy=>?_,fun y c _ h=>?_,fun _=>hd,Around.frames_deeper e0.frames,.inr ⟨rfl,rfl⟩,fun b z=>absurd z (OE b),e0.bs,e0.K8,fun b _ _=>OE b,fun b z=>absurd z (OE b),e0.ub,e0.Nx⟩,
  rfl,e0.bare,Un.kept hk,⟨_,x.toInCall.ns,fun i y v h1 h2 h3=>?_⟩,fun y c h=>⟨_,x.cell y c h⟩,e0.fT.fresh (aE _),fun y c h=>?_,fun p hp=>absurd (show p∈([]:List (Addr×Obj)) from hp) (by simp),e0.fT.kept hk,?_⟩
 ·exact name_of_addr x.apart (PySem.mem_of_lookup h1) (PySem.mem_of_lookup h2)
 ·have hy:scope.names.lookup y=some .cell\/scope.names.lookup y=some .free:=hy;rcases hy with hy|hy
  ·exact zU hy
  ·exact absurd rfl (S.L1 _ (PySem.mem_of_lookup hy))
 ·exact Xd (x.above y c (PySem.mem_of_lookup h))
 ·have hi:i<vs.length:=by
   unfold start at h2;by_cases hi:i<vs.length
   ·exact hi
   ·rw[aR (by simpa using hi)] at h2;rw[bT] at h2;split at h2 <;> cases h2
  have ha:vs[i]?=some v:=by
   unfold start at h2;rw[aZ (by simpa using hi),ay] at h2;cases e:vs[i]? with
   |none=>rw[e] at h2;cases h2
   |some a=>rw[e] at h2;cases h2;rfl
  obtain⟨u,hu,rv⟩:=r.get ha;have hp:ps[i]?=some y:=by
   rw[<-S.pre,List.getElem?_take_of_lt ⋯];exact h1
  have TH:ps.Nodup:=by rw[<-S.pre];exact S.nd.sublist (List.take_sublist _ _)
  refine⟨u,rv,?_⟩;rcases S.par y (aF hp) with k|k
  ·exact .inl ⟨k,wQ TH hp hu k⟩
  ·obtain⟨c,e⟩:=zU (n:=s.heap.objs.size+1) k;refine .inr ⟨.inl k,c,e,?_⟩;have q:=x.cell y c e;rw[wU TH hp hu (by show scope.names.lookup y≠_;rw[k];decide)] at q;exact q
 ·exact e0.fT.fresh (Xd (x.above y c (PySem.mem_of_lookup h)))
 ·unfold start;show _=N.length;rw[aw,ai,bu];omega
theorem PH {CX:Fj}{P:Program}{w:World}{K:PySem.W.Frag}{mg:Str->Option Value}{base:Heap}{k:Nat}{f:Addr}{name qual:Str}{params:Arguments}{body:List Stmt}{scope:Scope}{dV kV doc pm gD ct oc:Value}{an od:Option Addr}
  {Kz:Array (Option Value)}{N ps:List Str}{sp:Sp} (lk:K.lookup f=some ⟨oc,od,.func (PySem.W.fnOf name qual params body scope dV kV doc pm an gD ct),Kz⟩) (n5:PySem.W.codeIn K gD qual=true) (S:FnScope N ps scope)
  (len:∀vs H Q E,sp vs H Q E->vs.length=ps.length)
  (G7:∀(A:Around) (outer:List Env) (s:Shared) (H:Hp) (vs:List V) (Q:VK) (E:XK),Room k (A.deeper (envOfC qual scope s.heap.objs.size f gD))->sp vs H Q E →
   ∃t,PSs (cxOf CX P w K mg base N qual scope f gD A outer s H E) body t/\t { nx:=fun _ H'=>Q .non H',rt:=Q } (start N vs) H) :
  FnOk P w K mg base CX (k+1) f (PySem.W.fnOf name qual params body scope dV kV doc pm an gD ct) ps sp:=by
 refine⟨len,fun A outer s H args us vs Q E hr e0 hb r H0=>?_⟩;have hl:=len _ _ _ _ H0;have KX:K.In s.heap:=e0.mod.Nh.keeps fun b o e=>(e0.bs b o e).1;have lim:s.heap.NoLimit:=e0.mod.nolimit.keeps fun b o e=>(e0.bs b o e).1;have Pc:∀y∈ps.zip us,scope.names.lookup y.1=some .local\/(scope.names.lookup y.1=some .cell/\((cellsFrom (s.heap.objs.size+1) scope.names []).lookup y.1).isSome=true):=fun⟨n,v⟩ hy=>by
  rcases S.par n (Xm hy).1 with q|q
  ·exact .inl q
  ·exact .inr ⟨q,PySem.W.cellsFrom_some _ _ _ (.inl q)⟩
 refine codeAny_call_function hr.depth (KX _ _ lk) rfl S.co S.gen rfl (PySem.W.codeRec_of KX n5) (hb _ _ _ _ ?_);refine wpAny_newFunctionEnv_cells S.kind Pc fun env he s1 x=>?_;subst he;refine⟨lim.keeps x.toInCall.keep,codeAny_func ?_⟩;obtain⟨t,ht,hq⟩:=G7 A outer s H vs Q E (hr.deeper _) H0;have I:Inv (cxOf CX P w K mg base N qual scope f gD A outer s H E) [] (start N vs) H s1:=Ex S hr.hd e0 hl r x;refine wpAny_mono (ht [] s1 (start N vs) H _ I hq) (fun fl s' hs=>?_) fun e s' hs=>hs;have fin:∀{eX:St}{H':Hp}{v:V}{u:Value},Inv (cxOf CX P w K mg base N qual scope f gD A outer s H E) [] eX H' s'->dQ v u->Q v H'->CE outer P w H s Q u s' :=
  fun {eX H' v u} J rv q=>⟨v,H',J.os,J.bare,J.base,J.fT,rv,q⟩
 cases fl with
 |ret u =>
  obtain⟨v,eX,H',J,rv,q⟩:=hs;exact fin J rv q
 |next =>
  obtain⟨eX,H',J,q⟩:=hs;exact fin (v:=V.non) (u:=Value.none) J rfl q
 |brk =>
  obtain⟨_,_,_,q⟩:=hs;exact False.elim q
 |cont =>
  obtain⟨_,_,_,q⟩:=hs;exact False.elim q
section
variable {X:Cx}{x:Str}{p pos:Pos}{e:Expr}{es:List Expr}{t:TA}{id T:String}{r:List V->Hp->VK->Prop}
noncomputable def tCB (r:List V->Hp->VK->Prop)(t:TA):TE:=fun σ H Q=>t σ H fun vs H1=>r vs H1 Q
theorem pe_callB (hc:CallR X (.builtin id) r)(hg:Gl X x)(hm:X.mg x=none)(hv:bootBuiltins x=some (.builtin id))(ha:PA X (e::es) t)(hn:x ≠ "__name__" := by decide)(vv:(x==("__debug__" : Str))=false:=by decide)
  (he:starEach (e::es) X.env=(false,eval e X.env)::starEach es X.env:=by rfl) (nP:(backTo pos (starEach es X.env)).any (·.1)=false:=by rfl):PE X (.Call (.Name x p) (e::es) [] pos) (tCB r t):=by
 intro pins s σ H Q I h;refine wpAny_Call_Name_kw (ld_blt I hg hm hv ?_ hn vv);exact PyProof.Rows.callWith_builtin1 (thn (ha pos pins s σ H _ I h) fun us s1 ⟨vs,H1,I1,r1,q1⟩=>hc pins s1 σ H1 vs us Q I1 r1 q1) he nP
theorem pe_callTy (hc:CallR X (.type T) r)(hg:Gl X x)(hm:X.mg x=none)(hv:bootBuiltins x=some (.type T))(ha:PA X (e::es) t)(hn:x ≠ "__name__" := by decide)(vv:(x==("__debug__" : Str))=false:=by decide)
  (he:starEach (e::es) X.env=(false,eval e X.env)::starEach es X.env:=by rfl) (nP:(backTo pos (starEach es X.env)).any (·.1)=false:=by rfl):PE X (.Call (.Name x p) (e::es) [] pos) (tCB r t):=by
 intro pins s σ H Q I h;refine wpAny_Call_Name_kw (ld_blt I hg hm hv ?_ hn vv);exact PyProof.Rows.callWith_type1 (thn (ha pos pins s σ H _ I h) fun us s1 ⟨vs,H1,I1,r1,q1⟩=>hc pins s1 σ H1 vs us Q I1 r1 q1) he nP
end
end L2
namespace HT
open PySem PyProof.Rows
section
open PySem.SeqAt
open PySem.AutoSeq1 (wpAny_loadPart')
open PySem.MeetsSeq PySem.MeetsSeq2 PySem.MeetsSeq3
end
section
variable {prog:Program}{w:World}{A:Around}{E:Value->Shared->Prop}{s:Shared}
theorem cat_tup {t b:Addr}{vs ws:List Value}{Q:Value->Shared->Prop}(ht:IsTup s.heap t vs.toArray)(hb:IsTup s.heap b ws.toArray)(hv:vs≠[])
  (h1:ws=[]->Q (.ref t) s) (h2:ws≠[]->Q (.ref s.heap.objs.size) { s with heap:=s.heap.push { cls:=.type "tuple", data:=.seq (vs++ws).toArray } })
  (pT:vs.length+ws.length<=sizeLine):wpAny (model prog w) A (binaryOp .Add (.ref t) (.ref b)) Q E s:=by
 obtain⟨⟨cls,dd,data,sl⟩,ho,hc,n,hd⟩:=id ht;obtain⟨⟨S0,QD,data2,Qk⟩,G0,KU,n2,hd2⟩:=id hb;simp only at hc hd KU hd2;subst hc hd KU hd2;have e:vs.toArray++ws.toArray=(vs++ws).toArray:=by simp
 by_cases hw:ws=[]
 ·exact concat_meets ⟨_,ho,rfl⟩ ⟨_,G0,rfl⟩ noFill_tuple_add seq_tuple_add PySem.F.slot_tuple_add PySem.F.entry_tuple_add (PySem.F.args_tuple_add_2 _ _)
   (tuple_addW1 t b vs.toArray ws.toArray n n2 dd QD sl Qk (by simpa using hv) (by simp[hw])) ⟨ho,G0,h1 hw⟩
 ·refine concat_meets ⟨_,ho,rfl⟩ ⟨_,G0,rfl⟩ noFill_tuple_add seq_tuple_add PySem.F.slot_tuple_add PySem.F.entry_tuple_add (PySem.F.args_tuple_add_2 _ _)
   (tuple_addW2 t b vs.toArray ws.toArray n n2 dd QD sl Qk (by simpa using hv) (by simpa using hw) (by rw[aL,aL];exact pT)) ⟨ho,G0,?_⟩
  rw[e];exact h2 hw
end
end HT
namespace L2
open PySem PySem.Spec PyProof.Rows
noncomputable abbrev TO:=St->Hp->(Option Int->Hp->Prop)->Prop
section
variable {X:Cx}{e:Expr}{te:TE}{lo hi:Option Expr}{tl th:TO}{pos p2:Pos}
noncomputable def Kw (K:PySem.W.Frag):R2:=fun x y H Q=>∃a b xs ys,x=.ref a/\y=.ref b/\jN K H a xs/\jN K H b ys/\xs≠[]/\xs.length+ys.length<=sizeLine ∧
 (ys=[]->Q (.ref a) H)/\(ys≠[]->∀p,H p=none->Q (.ref p) (eF H p (.tup (xs++ys))))
theorem cV.xw {xs:List V}{us:List Value}(r:cV xs us):us=[]<->xs=[]:=by
 cases r with
 |nil=>simp
 |cons _ _=>simp
theorem Ji:OpR X (binaryOp .Add) (Kw X.K):=by
 intro pins s σ H x y v u Q I rx ry h;obtain⟨a,b,xs,ys,rfl,rfl,ha,hb,hx,hz,q1,q2⟩:=h;cases rx;cases ry;obtain⟨its,r1,p1,_⟩:=I.tuple ha;obtain⟨El,r2,p2,_⟩:=I.tuple hb;refine HT.cat_tup p1 p2 (fun z=>hx (r1.xw.mp z)) (fun z=>⟨.ref a,H,I,rfl,q1 (r2.xw.mp z)⟩) (fun z=>?_) (by rw[<-r1.length,<-r2.length];exact hz);refine⟨.ref s.heap.objs.size,_,I.laid (t':=s.toks) (o:=.tup (xs++ys)) (fun b ob q=>af _ q) (aE _) ?_,rfl,q2 (fun w=>z (r2.xw.mpr w)) _ (I.fT.fresh (aE _))⟩;exact⟨by rw[aw];exact hz,_,r1.append r2,IsTup.new _ _⟩
end
noncomputable def ixN (n:Nat)(i:Int):Option Nat:=if 0<=i then (if i<n then some i.toNat else none) else if -(n:Int)<=i then some (i+n).toNat else none
noncomputable def atI {α:Type}(xs:List α)(i:Int):Option α:=(ixN xs.length i).bind fun j=>xs[j]?
theorem CU {n:Nat}{i:Int}{j:Nat}(h:ixN n i=some j):seqIndex? i n=some j/\j<n/\-(n:Int)<=i/\i<n:=by
 unfold ixN at h;by_cases h0:0<=i
 ·rw[if_pos h0] at h;by_cases h1:i<n
  ·rw[if_pos h1] at h;have e:i.toNat=j:=Option.some.inj h;exact⟨by rw[seqIndex_of h0 h1,e],by omega,by omega,h1⟩
  ·rw[if_neg h1] at h;cases h
 ·rw[if_neg h0] at h;by_cases h1:-(n:Int)<=i
  ·rw[if_pos h1] at h;have e:(i+n).toNat=j:=Option.some.inj h;exact⟨by rw[seqIndex_neg ⋯ h1,e],by omega,h1,by omega⟩
  ·rw[if_neg h1] at h;cases h
theorem yg {α:Type}{xs:List α}{i:Int}{v:α}(h:atI xs i=some v):∃j,seqIndex? i xs.length=some j/\xs[j]?=some v/\j<xs.length/\-(xs.length:Int)<=i/\i<xs.length:=by
 unfold atI at h;cases e:ixN xs.length i with
 |none=>rw[e] at h;cases h
 |some j =>
  rw[e] at h;obtain⟨h1,h2,h3,h4⟩:=CU e;exact⟨j,h1,h,h2,h3,h4⟩
def PlainIx (b:Expr):Prop:=∀o i,subscripted b false o i=operate [o,i] (getItem o i)
noncomputable def IxR (X:Cx)(r:R2):Prop :=
 ∀(value slice:Expr) (pins:List (Addr×Obj)) (s:Shared) (σ:St) (H:Hp) (x y:V) (v u:Value) (Q:VK),Inv X pins σ H s->dQ x v->dQ y u->r x y H Q →
  subscripted slice false v u=operate [v,u] (getItem v u)->wpAny (model X.prog X.w) X.A (subscriptTail value slice v u) (EP X pins σ Q) X.xe s
noncomputable def MtR (X:Cx)(id:String)(r:V->List V->Hp->VK->Prop):Prop :=
 ∀(pins:List (Addr×Obj)) (s:Shared) (σ:St) (H:Hp) (x:V) (xs:List V) (v:Value) (us:List Value) (Q:VK),Inv X pins σ H s->dQ x v->cV xs us->r x xs H Q →
  wpAny (model X.prog X.w) X.A (call (.builtin id) (v::us)) (EP X pins σ Q) X.xe s
section
variable {X:Cx}{a b:Expr}{ta tb:TE}{pos:Pos}
theorem IxR.or {r r':R2}(h:IxR X r)(h':IxR X r'):IxR X (fun x y H Q=>r x y H Q\/r' x y H Q):=by
 intro value slice pins s σ H x y v u Q I rx ry q hs;rcases q with q|q
 ·exact h value slice pins s σ H x y v u Q I rx ry q hs
 ·exact h' value slice pins s σ H x y v u Q I rx ry q hs
theorem pe_ix {r:R2}(hr:IxR X r)(ha:PE X a ta)(hb:PE X b tb)(hs:PlainIx b):PE X (.Subscript a b pos) (tOp r ta tb):=by
 intro pins s σ H Q I h;exact Subscript_ (MT ha hb I h fun v u s2 x y H2 I2 rx ry q=>hr a b pins s2 σ H2 x y v u Q I2 rx ry q (hs _ _))
noncomputable def Og (K:PySem.W.Frag):R2:=fun x y H Q=>∃p xs i v,x=.ref p/\y=.int i/\jT K H p xs/\atI xs i=some v/\Q v H
noncomputable def Oe (K:PySem.W.Frag):R2:=fun x y H Q=>∃p xs i v,x=.ref p/\y=.int i/\jN K H p xs/\atI xs i=some v/\Q v H
noncomputable def Of:R2:=fun x y H Q=>∃z i c,x=.str z/\y=.int i/\z.length<=sizeLine/\atI z.cps.toList i=some c/\Q (.str ⟨#[c]⟩) H
theorem JG:IxR X (Og X.K):=by
 intro value slice pins s σ H x y v u Q I rx ry h hs;obtain⟨p,xs,i,z,rfl,rfl,hq,he,q⟩:=h;cases rx;obtain⟨t,rfl⟩:=ry;obtain⟨its,r,pl,hz⟩:=I.list hq;obtain⟨j,h1,h2,h3,h4,h5⟩:=yg he;obtain⟨w,ew,IV⟩:=r.get h2;have hl:=r.length;have hn:=line63;have fin:EP X pins σ Q w s:=⟨z,H,I,IV,q⟩;by_cases h0:0<=i
 ·have hj:i.toNat=j:=by
   rw[seqIndex_of h0 h5] at h1;exact Option.some.inj h1
  exact item_listR pl.isList h0 ⋯ (by rw[hj];simpa using ew) fin hs
 ·have hj:(i+(its.toArray.size:Int)).toNat=j:=by
   rw[seqIndex_neg ⋯ h4] at h1;rw[aL,<-hl];exact Option.some.inj h1
  exact subscriptTail_builtinR (x:=w) pl.isList.typeIs slot_list_getitem.lookup
   (wpAny_getItem_list_neg (Q:=fun r s'=>r=w/\EP X pins σ Q r s') pl.isList ⋯ (by rw[aL] <;> omega) ⋯ (by rw[hj];simpa using ew) ⟨rfl,fin⟩) hs
theorem Mg:IxR X (Oe X.K):=by
 intro value slice pins s σ H x y v u Q I rx ry h hs;obtain⟨p,xs,i,z,rfl,rfl,hq,he,q⟩:=h;cases rx;obtain⟨t,rfl⟩:=ry;obtain⟨its,r,pl,hz⟩:=I.tuple hq;obtain⟨j,h1,h2,h3,h4,h5⟩:=yg he;obtain⟨w,ew,IV⟩:=r.get h2;have hl:=r.length;have hn:=line63;have fin:EP X pins σ Q w s:=⟨z,H,I,IV,q⟩;exact subscriptTail_builtinR (x:=w) pl.typeIs slot_tuple_getitem.lookup
  (getItem_tuple (j:=j) (Q:=fun r s'=>r=w/\EP X pins σ Q r s') pl ⋯ ⋯ (by rw[aL,<-hl];exact h1) (by simpa using ew) ⟨rfl,fin⟩) hs
theorem Mh:IxR X Of:=by
 intro value slice pins s σ H x y v u Q I rx ry h hs;obtain⟨z,i,c,rfl,rfl,hz,he,q⟩:=h;obtain⟨t,rfl⟩:=rx;obtain⟨t',rfl⟩:=ry;obtain⟨j,h1,h2,h3,h4,h5⟩:=yg he;have hl:z.cps.toList.length=z.length:=by simp[Str.length]
 rw[hl] at h1 h4 h5;have hn:=line63;exact tail_any (typeIs_str s z t) slot_str_getitem.lookup (getItem_str (c:=c) (by
  have e1:decide (i < -(2 ^ 63:Int))=false:=decide_eq_false ⋯;have e2:decide (i ≥ 2 ^ 63)=false:=decide_eq_false ⋯;rw[e1,e2,Bool.or_false]) (by rw[h1];simpa using h2) ⟨.str ⟨#[c]⟩,H,I.tok _,⟨_,rfl⟩,q⟩) hs
noncomputable def rIx (K:PySem.W.Frag):R2:=fun x y H Q=>Og K x y H Q\/Oe K x y H Q\/Of x y H Q
theorem ix_seq:IxR X (rIx X.K):=JG.or (Mg.or Mh)
theorem A6 (its:List Value)(n j:Nat)(u:Value):Obj.mapSeq (·.setIfInBounds j u) { cls:=.type "list", data:=.seq its.toArray n }={ cls:=.type "list", data:=.seq (its.set j u).toArray n }:=by
 simp[Obj.mapSeq]
theorem Inv.lst {pins:List (Addr×Obj)}{σ:St}{H:Hp}{s:Shared}{p:Addr}{xs:List V}(I:Inv X pins σ H s)(h:H p=some (.lst xs)) :
  ∃(its:List Value) (n:Nat),cV xs its/\s.heap.get? p=some { cls:=.type "list", data:=.seq its.toArray n }/\xs.length<=sizeLine:=by
 obtain⟨z,its,n,r,e⟩:=I.fT p _ h;exact⟨its,n,r,e,z⟩
theorem Inv.L8 {pins:List (Addr×Obj)}{σ:St}{H:Hp}{s:Shared}{p:Addr}{xs ys:List V}{its its':List Value}{n n':Nat}{f:Obj->Obj}(I:Inv X pins σ H s)(h:H p=some (.lst xs))
  (ho:s.heap.get? p=some { cls:=.type "list", data:=.seq its.toArray n }) (hf:f { cls:=.type "list", data:=.seq its.toArray n }={ cls:=.type "list", data:=.seq its'.toArray n' }) (r:cV ys its') (hz:ys.length<=sizeLine) (t:Nat) :
  Inv X pins σ (eF H p (.lst ys)) { s with heap:=s.heap.update p f,toks:=t }:=by
 have e:(s.heap.update p f).get? p=some { cls:=.type "list", data:=.seq its'.toArray n' }:=by
  rw[bA f ho (by rw[hf] <;> rfl),hf]
 refine I.write (x:=p) (e:=p) (by rw[h];trivial) (.inl rfl) (fun b u hb q=>(bX _ _ (Ne.symm hb)).trans q) ⟨_,e⟩ ?_;exact⟨hz,its',n',r,e⟩
noncomputable def Oa:V->V->V->Hp->(Hp->Prop)->Prop:=fun o i v H Q=>∃p xs k j,o=.ref p/\i=.int k/\H p=some (.lst xs)/\ixN xs.length k=some j/\Q (eF H p (.lst (xs.set j v)))
theorem set_list:PSet X Oa:=by
 intro pins s σ H o i v ov iv u Q I ro ri rv h;obtain⟨p,xs,k,j,rfl,rfl,hp,hj,q⟩:=h;cases ro;obtain⟨t,rfl⟩:=ri;obtain⟨its,n,r,ho,hz⟩:=I.lst hp;obtain⟨h1,h2,h3,h4⟩:=CU hj;have hl:=r.length;have hn:=line63;have I':Inv X pins σ (eF H p (.lst (xs.set j v))) { s with heap:=s.heap.update p (Obj.mapSeq (·.setIfInBounds j u)) } :=
  I.L8 hp ho (A6 its n j u) (r.set rv j) (by rw[aX];exact hz) s.toks
 by_cases h0:0<=k
 ·have hk:k.toNat=j:=by
   rw[seqIndex_of h0 h4] at h1;exact Option.some.inj h1
  exact PySem.W.ki_setAt ho h0 ⋯ (by rw[aL,<-hl];exact h4) (by rw[hk];exact⟨_,I',q⟩)
 ·have hk:(k+(its.toArray.size:Int)).toNat=j:=by
   rw[seqIndex_neg ⋯ h3] at h1;rw[aL,<-hl];exact Option.some.inj h1
  exact PySem.W.ki_setBack ho ⋯ (by rw[aL,<-hl];exact h3) ⋯ (by rw[hk];exact⟨_,I',q⟩)
theorem call_len_seq:CallR X (.builtin "len") (fun xs H Q=>∃p ys,xs=[.ref p]/\(jT X.K H p ys\/jN X.K H p ys)/\Q (.int ys.length) H):=by
 intro pins s σ H xs us Q I r h;obtain⟨p,ys,rfl,hq,q⟩:=h;obtain⟨u,rfl,rx⟩:=vals1 r;cases rx;have hn:=line63;rcases hq with hq|hq
 ·obtain⟨its,r',pl,hz⟩:=I.list hq;have hlen:=r'.length;exact Calls.call_len_list pl.isList (by simp only[aL] <;> omega) ⟨.int ys.length,H,I.tok _,⟨s.toks+1,by rw[aL,hlen]⟩,q⟩
 ·obtain⟨its,r',pl,hz⟩:=I.tuple hq;have hlen:=r'.length;exact len_tuple pl (by simp only[aL] <;> omega) ⟨.int ys.length,H,I.tok _,⟨s.toks+1,by rw[aL,hlen]⟩,q⟩
theorem call_tuple_of:CallR X (.type "tuple") (fun xs H Q=>∃p ys,xs=[.ref p]/\((jT X.K H p ys/\∀l,H l=none->Q (.ref l) (eF H l (.tup ys)))\/(jN X.K H p ys/\Q (.ref p) H))):=by
 intro pins s σ H xs us Q I r h;obtain⟨p,ys,rfl,h⟩:=h;obtain⟨u,rfl,rx⟩:=vals1 r;cases rx;rcases h with ⟨hq,q⟩|⟨hq,q⟩
 ·obtain⟨its,r',pl,hz⟩:=I.list hq;have hlen:=r'.length;refine call_tuple_list pl.isList (fun h' kp=>?_) (by simp only[aL] <;> omega);have I1:Inv X pins σ H { s with heap:=h' }:=I.kept (t':=s.toks) kp;have I2:Inv X pins σ (eF H h'.objs.size (.tup ys)) { s with heap:=h'.push { cls:=.type "tuple", data:=.seq its.toArray } } :=
   I1.laid (t':=s.toks) (fun b o e=>af _ e) (aE _) (show ObjOk X.prog X.w _ _ _ (.tup ys) from ⟨hz,its,r',IsTup.new _ _⟩)
  exact⟨.ref h'.objs.size,_,I2,rfl,q _ (I1.fT.fresh (aE _))⟩
 ·obtain⟨its,r',pl,hz⟩:=I.tuple hq;exact call_tuple_same pl ⟨.ref p,H,I,rfl,q⟩
def Ti (K:PySem.W.Frag)(T:String)(x:V)(H:Hp):Prop:=match x with
 |.str _=>T = "str"
 |.int _=>T = "int"
 | .ref p=>(T = "list" ∧ ∃xs,jT K H p xs)\/(T = "tuple" ∧ ∃o,K.lookup p=some o/\o.cls=.type "tuple" ∧ o.dict=none) ∨
   (T = "dict" ∧ ((∃kvs,H p=some (.dK kvs))\/∃kvs,H p=some (.dT kvs)))\/(T = "set" ∧ ∃S n,H p=some (.set S n))
 |_=>False
theorem Lx {pins:List (Addr×Obj)}{σ:St}{H:Hp}{s:Shared}{T:String}{x:V}{v:Value}(I:Inv X pins σ H s)(r:dQ x v)(ty:Ti X.K T x H) :
  s.TypeIs v T/\∀a,v=.ref a->∃ob,s.heap.get? a=some ob/\ob.dict=none:=by
 cases x with
 |str z =>
  obtain⟨t,rfl⟩:=r;cases (show T = "str" from ty);exact⟨typeIs_str s z t,fun _ e=>nomatch e⟩
 |int i =>
  obtain⟨t,rfl⟩:=r;cases (show T = "int" from ty);exact⟨typeIs_int s i t,fun _ e=>nomatch e⟩
 |ref p =>
  cases r;rcases ty with ⟨rfl,xs,hq⟩|⟨rfl,o,hk,hc,hd⟩|⟨rfl,hk⟩|⟨rfl,S,n,hk⟩
  ·obtain⟨its,_,pl,_⟩:=I.list hq;refine⟨pl.isList.typeIs,fun a e=>?_⟩;cases e;obtain⟨o,n,e,c,hd,_⟩:=pl;exact⟨o,e,hd⟩
  ·refine⟨⟨o,I.GR p o hk,hc⟩,fun a e=>?_⟩;cases e;exact⟨o,I.GR _ o hk,hd⟩
  ·have z:∃o,s.heap.get? p=some o/\o.ExactDict:=by
    rcases hk with ⟨kvs,hk⟩|⟨kvs,hk⟩
    ·obtain⟨_,_,_,_,o,_,_,e,ex,_⟩:=I.fT p _ hk;exact⟨o,e,ex⟩
    ·obtain⟨_,_,_,_,o,_,_,e,ex,_⟩:=I.fT p _ hk;exact⟨o,e,ex⟩
   obtain⟨o,e,ex⟩:=z;refine⟨⟨o,e,ex.1⟩,fun a e2=>?_⟩;cases e2;exact⟨o,e,ex.2.1⟩
  ·obtain⟨o,_,_,_,e,ex,_⟩:=I.fT p _ hk;refine⟨⟨o,e,ex.1⟩,fun a e2=>?_⟩;cases e2;exact⟨o,e,ex.2.1⟩
 |_=>exact False.elim ty
noncomputable def UK (K:PySem.W.Frag)(T:String)(r:V->List V->Hp->VK->Prop)(to:TE)(t:TA):TE:=fun σ H Q=>to σ H fun x H1=>Ti K T x H1/\t σ H1 fun xs H2=>r x xs H2 Q
variable {o e:Expr}{es:List Expr}{to:TE}{t:TA}{name:Str}{apos BG:Pos}{T id:String}{r:V->List V->Hp->VK->Prop}
theorem pe_bm (pa:PlainAttrs T)(slot:Slot T name id)(TV:typeOf (.builtin id)=pure (.type "method_descriptor"))(hm:MtR X id r)(ho:PE X o to)(ha:PA X (e::es) t)
  (pV:attributeBase o name X.env (eval o X.env)=eval o X.env:=by rfl)
  (Bg:((backTo BG (starEach (e::es) X.env)).all (fun x=>!x.1)&&(backToKw BG (keywordEach [] X.env)).all (fun x=>x.1.isSome)
   && decide ((e::es).length+([]:List Keyword).length+(if ([]:List Keyword).isEmpty then 0 else 1)<30))=true:=by rfl)
  (pU:(apos.endLine==BG.line)=true:=by rfl) (hs:starEach (e::es) X.env=(false,eval e X.env)::starEach es X.env:=by rfl) (oR:(backTo BG (starEach es X.env)).any (·.1)=false:=by rfl) :
  PE X (.Call (.Attribute o name apos) (e::es) [] BG) (UK X.K T r to t):=by
 intro pins s σ H Q I h;refine wpAny_Call_method_late pV Bg pU rfl (thn (ho pins s σ H _ I h) fun v s1 zz=>?_);obtain ⟨x,H1,I1,r1,ty,q1⟩:=zz;obtain⟨h1,h2⟩:=Lx I1 r1 ty;refine⟨T,id,pa,slot,TV,h1,h2,?_⟩;have hA:=ha BG pins s1 σ H1 _ I1 q1;rw[hs] at hA ⊢;refine Calls.callWith_builtin (by show (false||(backTo BG (starEach es X.env)).any (·.1))=false;rw[oR] <;> rfl) (Calls.evalArgs_plain ?_);exact thn hA fun us s2 ⟨vs,H2,I2,r2,q2⟩=>hm pins s2 σ H2 x vs v us Q I2 r1 r2 q2
end
noncomputable def Us (X:Cx)(id:String)(r:V->List V->Hp->VK->Prop):Prop :=
 ∀(pins:List (Addr×Obj)) (s:Shared) (σ:St) (H:Hp) (x:V) (xs:List V) (v:Value) (us:List Value) (Q:VK),Inv X pins σ H s->dQ x v->cV xs us->r x xs H Q →
  wpAny (model X.prog X.w) X.A (call (.builtin id) (v::us)) (EP X pins σ Q) X.xe s
theorem cV.one:∀{x:V}{us:List Value},cV [x] us->∃u,us=[u]/\dQ x u:=by
 intro x us h;cases h with
 |cons r q=>cases q; exact ⟨_,rfl,r⟩
theorem cV.two:∀{x y:V}{us:List Value},cV [x,y] us->∃u v,us=[u,v]/\dQ x u/\dQ y v:=by
 intro x y us h;cases h with
 |cons r q=>
  cases q with
  |cons q z=>cases z; exact ⟨_,_,rfl,r,q⟩
theorem cV.rep {xs:List V}{us:List Value}(h:cV xs us):∀k:Nat,cV (aK k xs).flatten (aK k us).flatten
 |0=>.nil
 | k+1=>by
  rw[bH,bH,bU,bU];exact cV.append h (cV.rep h k)
theorem wo (its:List Value):∀(k:Nat) (acc:List Value),
  List.foldl (fun x1 x2=>x1++x2) acc.toArray (aK k its.toArray)=(acc++(aK k its).flatten).toArray
 |0,acc=>by simp
 | k+1,acc=>by
  have e:acc.toArray++its.toArray=(acc++its).toArray:=by simp
  have e2:(acc++its)++(aK k its).flatten=acc++(aK (k+1) its).flatten:=by
   rw[bH,bU,bg]
  rw[<-e2,<-wo its k (acc++its),<-e,bH,List.foldl_cons]
section
variable {X:Cx}{pins:List (Addr×Obj)}{σ:St}{H:Hp}{s:Shared}{l b:Addr}{xs ys zs:List V}
theorem Inv.ON {its its':List Value}{n:Nat}{f:Array Value->Array Value}{t':Nat}(I:Inv X pins σ H s)(hH:H l=some (.lst xs))
  (e:s.heap.get? l=some { cls:=.type "list", data:=.seq its.toArray n }) (hf:f its.toArray=its'.toArray) (hv:cV ys its') (hz:ys.length<=sizeLine) :
  Inv X pins σ (eF H l (.lst ys)) { s with heap:=s.heap.update l (Obj.mapSeq f),toks:=t' }:=by
 have q:=PySem.IsL.update e f;rw[hf] at q;refine I.write (x:=l) (e:=l) (by rw[hH];exact trivial) (.inl rfl) (fun b' u hb hu=>(bX s.heap (Obj.mapSeq f) (Ne.symm hb)).trans hu) ⟨_,q⟩ ?_;exact⟨hz,its',_,hv,q⟩
theorem Inv.OO {its:List Value}{t':Nat}(I:Inv X pins σ H s)(hv:cV ys its)(hz:ys.length<=sizeLine) :
  Inv X pins σ (eF H s.heap.objs.size (.lst ys)) { s with heap:=s.heap.push { cls:=.type "list", data:=.seq its.toArray },toks:=t' } :=
 I.laid (fun _ _ q=>af _ q) (aE _) ⟨hz,its,0,hv,az _ rfl⟩
theorem Inv.fresh (I:Inv X pins σ H s):H s.heap.objs.size=none:=I.fT.fresh (aE _)
theorem Inv.Ju (I:Inv X pins σ H s)(hH:H l=some (.lst xs)):xs.length<=sizeLine/\∃(its:List Value) (n:Nat),cV xs its/\xs.length=its.length/\s.heap.get? l=some { cls:=.type "list", data:=.seq its.toArray n }:=by
 obtain⟨z,its,n,r,e⟩:=I.fT l _ hH;exact⟨z,its,n,r,r.length,e⟩
theorem zo {n:Nat}(h:n<=sizeLine):Builtin.List.listTooLong n=false:=by
 unfold Builtin.List.listTooLong;exact decide_eq_false ⋯
end
section
variable {X:Cx}
noncomputable def Jd:V->List V->Hp->VK->Prop:=fun x vs H Q=>∃l xs y,x=.ref l/\vs=[y]/\H l=some (.lst xs)/\xs.length<sizeLine/\Q .non (eF H l (.lst (xs++[y])))
theorem mt_append:Us X "list.append" Jd:=by
 intro pins s σ H x vs v us Q I rx rv h;obtain⟨l,xs,y,rfl,rfl,hH,hz,q⟩:=h;cases rx;obtain⟨u,rfl,ru⟩:=rv.one;obtain⟨z,its,n,r,hl,e⟩:=I.Ju hH;refine call_meets F.slot_list_append ⟨_,e,rfl⟩ F.entry_list_append (F.args_list_append_2 _ _) (PySem.list_append l its.toArray n u (by rw[aL];omega)) ⟨e,?_⟩;refine⟨.non,_,I.ON (its':=its++[u]) hH e (by simp) (r.append (.cons ru .nil)) ?_,rfl,q⟩;rw[aw,aY];omega
noncomputable def Jc:V->List V->Hp->VK->Prop:=fun x vs H Q=>∃l b xs zs,x=.ref l/\vs=[.ref b]/\H l=some (.lst xs)/\H b=some (.lst zs)/\xs.length+zs.length<=sizeLine/\Q .non (eF H l (.lst (xs++zs)))
theorem mt_extend:Us X "list.extend" Jc:=by
 intro pins s σ H x vs v us Q I rx rv h;obtain⟨l,b,xs,zs,rfl,rfl,hH,hB,hz,q⟩:=h;cases rx;obtain⟨u,rfl,ru⟩:=rv.one;cases ru;obtain⟨z,its,n,r,hl,e⟩:=I.Ju hH;obtain⟨z2,El,n2,r2,Se,e2⟩:=I.Ju hB;have pT:its.toArray.size+El.toArray.size<=sizeLine:=by rw[aL,aL];omega
 have G1:¬(!its.toArray.isEmpty&&Builtin.List.listTooLong (its.toArray.size+El.toArray.size))=true:=by
  rw[zo pT,Bool.and_false];exact Bool.false_ne_true
 refine call_meets F.slot_list_extend ⟨_,e,rfl⟩ F.entry_list_extend (F.args_list_extend_2 _ _)
  (AutoSeq1.list_extend_list_list_0 l its.toArray n b El.toArray n2 G1 (by rw[aL];omega) ⋯) ⟨e,e2,?_⟩
 refine⟨.non,_,I.ON (its':=its++El) hH e (by simp) (r.append r2) ?_,rfl,q⟩;rw[aw];omega
noncomputable def Ra:R2:=fun x y H Q=>∃l k xs,x=.ref l/\y=.int k/\H l=some (.lst xs)/\-(2 ^ 63)<=k/\k<2 ^ 63/\xs.length*k.toNat<=sizeLine ∧
 ∀p,H p=none->Q (.ref p) (eF H p (.lst (aK k.toNat xs).flatten))
theorem Jy {α:Type}(xs:List α)(k:Nat):(aK k xs).flatten.length=k*xs.length:=by
 induction k with
 |zero=>simp
 |succ k ih=>rw[bH,bU,aw,ih,Nat.succ_mul,Nat.add_comm]
theorem op_rep:OpR X (binaryOp .Mult) Ra:=by
 intro pins s σ H x y v u Q I rx ry h;obtain⟨l,k,xs,rfl,rfl,hH,h1,h2,hz,q⟩:=h;cases rx;obtain⟨t,rfl⟩:=ry;obtain⟨z,its,n,r,hl,e⟩:=I.Ju hH;have hlen:its.toArray.size*k.toNat<=sizeLine:=by rw[aL,<-hl];exact hz
 have Sy:¬its.toArray.size*k.toNat>(2 ^ 63-1)/8:=by
  have:(sizeLine:Nat)<=(2 ^ 63-1)/8:=by decide
  omega
 have Pj:¬(!Builtin.List.listFitsIndex k)=true:=by
  rw[fitsIndex_both h1 h2];exact Bool.false_ne_true
 have G1:¬Builtin.List.listTooLong (its.toArray.size*k.toNat)=true:=by
  rw[zo hlen];exact Bool.false_ne_true
 have R3:List.foldl (fun x1 x2=>x1++x2) #[] (aK (if its.toArray.isEmpty=true then 0 else k.toNat) its.toArray)=(aK k.toNat its).flatten.toArray:=by
  have f0:∀m:Nat,List.foldl (fun x1 x2=>x1++x2) #[] (aK m its.toArray)=(aK m its).flatten.toArray:=fun m=>by
   have:=wo its m [];rw[bL] at this;exact this
  rw[f0];cases its with
  |nil=>simp
  |cons a r'=>rw[if_neg (by simp)]
 refine wpAny_binaryOp_repeat_ref (T := "list") (U := "int") (by decide) ⟨_,e,rfl⟩ (fun s'=>typeIs_int s' k t) noFill_list_mul F.fills_int_mul F.slot_int_rmul repeat_list F.slot_int_index.lookup
  (call_meets F.slot_int_rmul (typeIs_int s k t) F.entry_int_rmul (F.args_int_rmul_2 _ _) (int___rmul___int_list k t l its.toArray n)
   ⟨e,rfl,⟨_,e,rfl⟩,call_meets F.slot_list_mul ⟨_,e,rfl⟩ F.entry_list_mul (F.args_list_mul_2 _ _) (AutoListH.list___mul___list_int_3 l its.toArray n k t Pj Sy G1) ⟨e,?_⟩⟩)
 rw[R3];exact⟨.ref _,_,I.OO (t':=s.toks) (r.rep k.toNat) (by rw[Jy,Nat.mul_comm];exact hz),rfl,q _ I.fresh⟩
end
section
variable {prog:Program}{w:World}{A:Around}{E:Value->Shared->Prop}{s:Shared}
set_option maxRecDepth 100000 in
end
section
variable {X:Cx}
end
end L2
namespace Att
open PySem PySem.W PySem.Calls PyProof.Rows
theorem r8 {P:Params}{h:Heap}:∀(ns:List Int) (vs:List Value),WellAll P h vs (ns.map WData.int)->IntsAre vs ns:=by
 intro ns;induction ns with
 |nil =>
  intro vs w;rw[bD] at w;cases w;exact .nil
 |cons n ns ih =>
  intro vs w;rw[aC] at w;cases w with
  |cons a b =>
   cases a;exact .cons _ _ (ih _ b)
theorem DV {l:OpenLaw}{n:Nat}(hn:l.most=some n){P:Params}{h:Heap}{args:List WData}{vals:List Value}
  (JP:l.row.toRowW.claim.pre args=true) (RM:WellAll P h vals args) :
  ∃a vs ns,vals=[Value.ref a]/\args=[WData.list (ns.map WData.int)]/\h.get? a=some { cls:=.type "list", data:=.seq vs.toArray }/\IntsAre vs ns/\ns.length<=n:=by
 have Vk:WShape.hasAll [] args [.list .int]=true:=(pre_splitW JP).1;have hc:l.pre.holds [] { args:=args }=true:=(pre_splitW JP).2;obtain⟨d,r,rfl,h1,h2⟩:=hasAllW_cons Vk
 obtain rfl:=hasAllW_nil h2
 obtain⟨xs,rfl,h3⟩:=hasW_list h1;obtain⟨ns,rfl⟩:=items_int h3;have hlen:ns.length<=n:=by
  unfold OpenLaw.pre at hc;have h4:(WTm.not (.lt (.lit (.int (n:Int))) (.len (.arg 0)))).holds [] { args:=[.list (ns.map .int)] }=true:=by
   have h4:=(holds_andW hc).1;rw[hn] at h4;exact h4
  have h5:=condW_of h4 (w_not (w_lt w_lit (w_len_list (w_arg rfl))));rw[ai] at h5;refine Nat.le_of_not_lt fun q=>?_;have q':(n:Int)<((ns.length:Nat):Int):=by omega
  first
   |(rw[decide_eq_true q'] at h5;exact absurd h5 (by decide))
   |(simp at h5;omega)
 cases RM with
 |cons w1 w2 =>
  cases w2;cases w1 with
  |list ho SA=>exact⟨_,_,ns,rfl,rfl,ho,r8 ns _ SA,hlen⟩
theorem D6 (l:OpenLaw)(args:List WData):l.row.toRowW.claim.post args (.bool true) args=true :=
 postW_of (r:=l.row.toRowW) (X:=(true==true))
  (show WShape.has [] (.bool true) .bool=true by first|rfl|decide|simp[WShape.has,WShape.arms,WShape.armsAll])
  (show (WTm.eq .res (.lit (.bool true))).value [] { args:=args,res:=some (.bool true),after:=args }=some (.bool (true==true)) from w_eq_bool (w_res rfl) w_lit) rfl
theorem attach_call {l:OpenLaw}{n:Nat}{q:Program}{loose:List Str}{XP:(Str->Option Value)->Heap->Prop}{YP:World->Heap->Prop}{d:DefRec}
  (hn:l.most=some n) (Pn:d.params.defaults=[])
  (call:∀(w:World) (eC dO:Shared) (mg mb:Str->Option Value) (fa:Addr) (o:Obj) (pm cd doc:Value) (a:Addr) (vs:List Value) (ns:List Int),
   Ground q loose [] XP w eC mg mb dO.heap->YP w dO.heap →
   dO.heap.get? fa=some o->o.data=.func (docDef d.name d.params d.body d.scope pm cd doc)->dO.heap.CodeRec cd d.name->mg d.name=some (.ref fa) →
   dO.heap.get? a=some { cls:=.type "list", data:=.seq vs.toArray }->IntsAre vs ns->ns.length<=n->dO.gens=#[] →
   codeAny (model l.prog w) callerA (.call (.ref fa) ⟨[.ref a],[]⟩) (fun r s'=>r=.ok (.ret (.bool true))/\OldK dO.heap s'.heap/\s'.os=dO.os/\AllBare s'.gens) dO) :
  WalkO q loose XP YP l.row.toRowW d [] (fun f vs=>PySem.call f vs):=by
 intro w eC dO mg mb G Y fa o pm cd doc dV kV ho hd n5 hD O5 hg args vals as JP Vx hrd RM hlo
 obtain rfl:dV=.none:=Dflts.none hD Pn
 obtain rfl:kV=.none:=Dflts.noKw hD
 obtain⟨a,vs,ns,rfl,rfl,Mo,hints,hlen⟩:=DV hn JP RM;refine enter_call (codeAny_mono (call w eC dO mg mb fa o pm cd doc a vs ns G Y ho (fd_plain hd) n5 O5 Mo hints hlen hg) fun r s' hq=>?_);obtain⟨rfl,h2,h3,h4⟩:=hq;exact⟨.inl ⟨.bool true,.bool true,[],rfl,fun _=>rfl,.bool true,D6 l _,fun _=>⟨List.Pairwise.nil,fun _ hm=>(nomatch hm)⟩⟩,h2,h3,h4⟩
section
variable {prog:Program}{w:World}{A:Around}{E:Value->Shared->Prop}{s:Shared}{K:Frag}
end
end Att
namespace L2
open PySem PySem.Spec PyProof.Rows
theorem Dy:∀{vs:List Value}{ns:List Int},IntsAre vs ns->cV (ns.map V.int) vs:=by
 intro vs ns h;induction h with
 |nil=>exact .nil
 |cons n t _ ih=>exact .cons ⟨t,rfl⟩ ih
def Kk (H:Hp):Prop:=∀b,H b=none\/∃o xs,H b=some (.frz o (.lst xs))
theorem GL {P:Program}{w:World}{K:PySem.W.Frag}{mg mb:Str->Option Value}{CX:Fj}{k:Nat}{fa a:Addr}{fd:FuncData}{x:Str}{sp:Sp}{dO:Shared}{vs:List Value}{ns:List Int}
  (KX:K.In dO.heap) (Ib:dO.heap.Ns mainGlobals mg) (hb:dO.heap.Ns builtinsNs mb) (VR:∀x:Str,x ≠ "__name__" ->mb x=bootBuiltins x) (Sd:dO.heap.NoLimit) (hg:dO.gens=#[])
  (ha:dO.heap.get? a=some { cls:=.type "list", data:=.seq vs.toArray }) (hi:IntsAre vs ns) (hl:ns.length<=sizeLine) (hr:Room k callerA)
  (F:∀base:Heap,K.In base->base.Ns mainGlobals mg->FnOk P w K mg base CX k fa fd [x] sp) (Po:∀(s:Shared) (u:Value),BindsTo s fd ⟨[u],[]⟩ [(x,u)])
  (H0:∀H:Hp,Kk H->jT K H a (ns.map V.int)->sp [.ref a] H (fun v _=>v=.bl true) fun _ _ _=>False)
  (Py:∀H e s',CX [] H dO (fun _ _ _=>False) e s'->False) :
  codeAny (model P w) callerA (.call (.ref fa) ⟨[.ref a],[]⟩) (fun r s'=>r=.ok (.ret (.bool true))/\OldK dO.heap s'.heap/\s'.os=dO.os/\AllBare s'.gens) dO:=by
 have rv:=Dy hi;have Rw:=hi.length;have core:∀H:Hp,Kk H->jT K H a (ns.map V.int)->uZ P w H dO.heap->(∀b,H b≠none->b=a)->(H a≠none->K.lookup a=none) →
   codeAny (model P w) callerA (.call (.ref fa) ⟨[.ref a],[]⟩) (fun r s'=>r=.ok (.ret (.bool true))/\OldK dO.heap s'.heap/\s'.os=dO.os/\AllBare s'.gens) dO:=by
  intro H hO hS fT hA hK;have Dt:∀{b:Addr}{o:Obj},dO.heap.get? b=some o->H b=none->(xR dO.heap H).get? b=some o:=fun e n=>G3 e n;have OE:∀{b:Addr}{o:Obj}{es:Array DictEntry}{ep:Nat},dO.heap.get? b=some o->o.data=.dict es ep->H b=none:=fun {b o es ep} e d=>by
   cases q:H b with
   |none=>rfl
   |some u =>
    have e':b=a:=hA b (by rw[q];simp);subst e';rw[ha] at e;cases e;have d':Data.seq vs.toArray _=Data.dict es ep:=d;cases d'
  have Qq:∀{b:Addr}{m:Str->Option Value},dO.heap.Ns b m->(xR dO.heap H).Ns b m:=fun {b m} ⟨o,es,ep,e,d,r⟩=>⟨o,es,ep,Dt e (OE e d),d,r⟩;have Ug:K.In (xR dO.heap H):=fun b o e=>Dt (KX b o e) (by
   cases q:H b with
   |none=>rfl
   |some u =>
    have e':b=a:=hA b (by rw[q];simp);subst e';rw[hK (by rw[q];simp)] at e;cases e)
  have hM:Mod K mg (xR dO.heap H):=⟨Ug,Qq Ib,⟨mb,Qq hb,VR⟩,let ⟨mc,h1,h2⟩:=Sd;⟨mc,Qq h1,h2⟩⟩;have e0:Km P w K mg (xR dO.heap H) callerA [] dO H:=⟨rfl,hM,fun b o e=>Jm e,Nat.le_of_eq (EB _ _),trivial,fun b hb=>absurd (show b∈([]:List Addr) from hb) (by simp),fT,.of_eq hg⟩;refine codeAny_mono ((F _ Ug (Qq Ib)).run callerA [] dO H ⟨[.ref a],[]⟩ [.ref a] [.ref a] _ _ hr e0 (Po dO (.ref a)) (.cons rfl .nil) (H0 H hO hS)) fun r s' h=>?_;cases r with
  |error e=>exact (Py H e s' h).elim
  |ok fl =>
   cases fl with
   |next=>exact False.elim h
   |brk=>exact False.elim h
   |cont=>exact False.elim h
   |ret u =>
    obtain⟨v,H',os,bare,un,RY,r',q⟩:=h;have q':v=.bl true:=q;subst q'
    obtain rfl:u=Value.bool true:=r'
    refine⟨rfl,OldK.of_keep fun b o e=>?_,os,bare⟩;cases q:H b with
    |none=>exact un.keep b o e q (by intro z;exact absurd (show b∈([]:List Addr) from z) (by simp)) (by simp)
    |some u =>
     rcases hO b with z|⟨ob,xs,z⟩
     ·rw[q] at z;cases z
     ·have z2:=un.r9 b ob _ z;obtain⟨e1,_⟩:=fT b _ z;obtain⟨e2,_⟩:=RY b _ z2;rw[e] at e1;cases e1;exact e2
 cases hk:K.lookup a with
 |some o =>
  have e:=KX a o hk;rw[ha] at e;cases e;refine core (fun _=>none) (fun _=>.inl rfl) (.inr ⟨_,vs.toArray,_,hk,rfl,rfl,rfl,by rw[aL,Rw];exact hl,by simpa using rv⟩) (fun b u z=>by have z':(none:Option HO)=some u:=z;cases z') (fun b z=>absurd rfl z) fun z=>absurd rfl z
 |none =>
  refine core (fun b=>if b=a then some (.frz { cls:=.type "list", data:=.seq vs.toArray } (.lst (ns.map V.int))) else none) (fun b=>?_) (.inl (.inr ⟨{ cls:=.type "list", data:=.seq vs.toArray },if_pos rfl⟩)) (fun b u z=>?_) (fun b z=>?_) fun _=>hk
  ·by_cases hb:b=a
   ·exact .inr ⟨_,_,if_pos hb⟩
   ·exact .inl (if_neg hb)
  ·by_cases hb:b=a
   ·have z':=(if_pos hb).symm.trans z;cases z';subst hb;exact⟨ha,by rw[ai];exact hl,vs,_,rv,ha⟩
   ·have z':=(if_neg hb).symm.trans z;cases z'
  ·by_cases hb:b=a
   ·exact hb
   ·exact absurd (if_neg hb) z
theorem Iw {l:PySem.W.OpenLaw}{n k:Nat}{q:Program}{loose:List Str}{XP:(Str->Option Value)->Heap->Prop}{YP:World->Heap->Prop}{d:DefRec}{K:Params->PySem.W.Frag}{CX:World->Fj}{sp:World->Sp}{x:Str}
  (hn:l.most=some n) (R4:n<=sizeLine) (Pn:d.params.defaults=[]) (hr:Room k callerA)
  (hY:∀(w:World) (h:Heap),YP w h->(K w.params).In h)
  (F:∀(w:World) (mg:Str->Option Value) (fa:Addr) (h:Heap),(K w.params).In h->h.Ns mainGlobals mg->mg d.name=some (.ref fa) →
   ∃fd:FuncData,(∀(s:Shared) (u:Value),BindsTo s fd ⟨[u],[]⟩ [(x,u)]) ∧
    ∀base:Heap,(K w.params).In base->base.Ns mainGlobals mg->FnOk l.prog w (K w.params) mg base (CX w) k fa fd [x] (sp w))
  (H0:∀(w:World) (H:Hp) (a:Addr) (ns:List Int),ns.length<=n->Kk H->jT (K w.params) H a (ns.map V.int)->sp w [.ref a] H (fun v _=>v=.bl true) fun _ _ _=>False)
  (Py:∀(w:World) (H:Hp) (s:Shared) (e:Value) (s':Shared),CX w [] H s (fun _ _ _=>False) e s'->False) :
  PySem.W.WalkO q loose XP YP l.row.toRowW d [] (fun f vs=>PySem.call f vs):=by
 refine Att.attach_call hn Pn fun w eC dO mg mb fa o pm cd doc a vs ns G Y ho hd n5 O5 Mo hints hlen hg=>?_;have KX:=hY w _ Y;obtain⟨fd,hb,hF⟩:=F w mg fa _ KX G.T.g O5;exact GL KX G.T.g G.T.b G.T.builtins G.T.nolimit hg Mo hints (bK hlen R4) hr hF hb (fun H hO hS=>H0 w H a ns hlen hO hS) fun H e s'=>Py w H dO e s'
theorem walk_ofK {l:PySem.W.OpenLaw}{n k:Nat}{q:Program}{loose:List Str}{XP:(Str->Option Value)->Heap->Prop}{YP:World->Heap->Prop}{d:DefRec}{K:Params->PySem.W.Frag}{CX:Fj}{sp:PySem.W.Frag->Sp}{x:Str}
  (hn:l.most=some n) (R4:n<=sizeLine) (Pn:d.params.defaults=[]) (hr:Room k callerA)
  (hY:∀(w:World) (h:Heap),YP w h->(K w.params).In h)
  (F:∀(w:World) (mg:Str->Option Value) (fa:Addr) (h:Heap),(K w.params).In h->h.Ns mainGlobals mg->mg d.name=some (.ref fa) →
   ∃fd:FuncData,(∀(s:Shared) (u:Value),BindsTo s fd ⟨[u],[]⟩ [(x,u)]) ∧
    ∀base:Heap,(K w.params).In base->base.Ns mainGlobals mg->FnOk l.prog w (K w.params) mg base CX k fa fd [x] (sp (K w.params)))
  (H0:∀(K:PySem.W.Frag) (H:Hp) (a:Addr) (ns:List Int),ns.length<=n->Kk H->jT K H a (ns.map V.int)->sp K [.ref a] H (fun v _=>v=.bl true) fun _ _ _=>False)
  (Py:∀(H:Hp) (s:Shared) (e:Value) (s':Shared),CX [] H s (fun _ _ _=>False) e s'->False) :
  PySem.W.WalkO q loose XP YP l.row.toRowW d [] (fun f vs=>PySem.call f vs) :=
 Iw (K:=K) (CX:=fun _=>CX) (sp:=fun w=>sp (K w.params)) hn R4 Pn hr hY F (fun w H a ns h1 h2 h3=>H0 (K w.params) H a ns h1 h2 h3) fun _ H s e s'=>Py H s e s'
noncomputable def defArgs (s:Stmt):Arguments:=match s with
 |.FunctionDef _ a _ _ _ _ _ _ _ _=>a
 |_=>{ posonlyargs:=[],args:=[],vararg:=none,kwonlyargs:=[],kw_defaults:=[],kwarg:=none,defaults:=[] }
noncomputable def defBody (s:Stmt):List Stmt:=match s with
 |.FunctionDef _ _ b _ _ _ _ _ _ _=>b
 |_=>[]
noncomputable def defScope (s:Stmt):Scope:=match s with
 |.FunctionDef _ _ _ _ _ _ sc _ _ _=>sc
 |_=>{ kind:=.function,names:=[],isGenerator:=false,isCoroutine:=false }
noncomputable abbrev CX0:Fj:=fun _ _ _ _ _ _=>False
noncomputable abbrev E0:XK:=fun _ _ _=>False
theorem pass0 {X:Cx}:B5 CX0 X E0:=fun _ _ _ _ _ _ _ h=>h.elim
structure Fun (K:PySem.W.Frag)(x qual:Str)(st:Stmt)(f:Addr)(fd:FuncData):Prop where
 ex:∃(oc:Value) (od:Option Addr) (kV doc pm:Value) (an:Option Addr) (gD ct:Value) (Kz:Array (Option Value)),
  fd=PySem.W.fnOf x qual (defArgs st) (defBody st) (defScope st) .none kV doc pm an gD ct/\K.lookup f=some ⟨oc,od,.func fd,Kz⟩/\PySem.W.codeIn K gD qual=true
 kp:PySem.W.keepIn K (.ref f)=true
section
variable {P:Program}{w:World}{K:PySem.W.Frag}{mg:Str->Option Value}{base:Heap}
theorem Fun.ok {x qual:Str}{st:Stmt}{f:Addr}{fd:FuncData}{N ps:List Str}{k:Nat}{sp:Sp}(F:Fun K x qual st f fd)(S:FnScope N ps (defScope st))(len:∀vs H Q E,sp vs H Q E->vs.length=ps.length)
  (G7:∀(gD:Value) (A:Around) (outer:List Env) (s:Shared) (H:Hp) (vs:List V) (Q:VK) (E:XK),Room k (A.deeper (envOfC qual (defScope st) s.heap.objs.size f gD))->sp vs H Q E →
   ∃t,PSs (cxOf CX0 P w K mg base N qual (defScope st) f gD A outer s H E).Gu (defBody st) t/\t { nx:=fun _ H'=>Q .non H',rt:=Q } (start N vs) H):FnOk P w K mg base CX0 (k+1) f fd ps sp:=by
 obtain⟨oc,od,kV,doc,pm,an,gD,ct,Kz,rfl,lk,n5⟩:=F.ex;refine PH lk n5 S len fun A outer s H vs Q E hr H0=>?_;obtain⟨t,h,q⟩:=G7 gD A outer s H vs Q E hr H0;exact⟨t,h.Gu,q⟩
theorem Fun.binds {x qual:Str}{st:Stmt}{f:Addr}{fd:FuncData}{ps:List Str}(F:Fun K x qual st f fd)
  (h:∀(kV doc pm:Value) (an:Option Addr) (gD ct:Value) (us:List Value),us.length=ps.length->bindArgs (PySem.W.fnOf x qual (defArgs st) (defBody st) (defScope st) .none kV doc pm an gD ct) ⟨us,[]⟩=pure (ps.zip us)):Binds K fd ps []:=by
 obtain⟨oc,od,kV,doc,pm,an,gD,ct,Kz,rfl,lk,n5⟩:=F.ex;exact .all (h kV doc pm an gD ct)
theorem fun_mk {x qual:Str}{st:Stmt}{f:Addr}{oc:Value}{od an:Option Addr}{Kz:Array (Option Value)}{kV doc pm gD ct:Value}(l:K.lookup f=some ⟨oc,od,.func (PySem.W.fnOf x qual (defArgs st) (defBody st) (defScope st) .none kV doc pm an gD ct),Kz⟩)
  (c:PySem.W.codeIn K gD qual=true) (k:PySem.W.keepIn K (.ref f)=true):Fun K x qual st f (PySem.W.fnOf x qual (defArgs st) (defBody st) (defScope st) .none kV doc pm an gD ct):=⟨⟨oc,od,kV,doc,pm,an,gD,ct,Kz,rfl,l,c⟩,k⟩
end
section
variable {X:Cx}
end
def cY (H H':Hp):Prop:=∀b o,H b=some o->H' b=some o
theorem cY.refl (H:Hp):cY H H:=fun _ _ h=>h
theorem cY.trans {H H1 H2:Hp}(a:cY H H1)(b:cY H1 H2):cY H H2:=fun c o h=>b c o (a c o h)
theorem cY.free {H H':Hp}(e:cY H H'){l:Addr}(h:H' l=Option.none):H l=Option.none:=by
 cases q:H l with
 |none=>rfl
 |some o =>
  rw[e l o q] at h;cases h
theorem cY.seq {K:PySem.W.Frag}{H H':Hp}{a:Addr}{xs:List V}(e:cY H H')(h:jT K H a xs):jT K H' a xs:=by
 rcases h with (h|⟨o,h⟩)|h
 ·exact .inl (.inl (e _ _ h))
 ·exact .inl (.inr ⟨o,e _ _ h⟩)
 ·exact .inr h
open PySem PyProof.Rows
noncomputable def mD (env:Env):List (Str×NameKind)->List (Str×Addr)->List (Str×Addr)
 |[],acc=>acc
 |(y,k)::r,acc=>if k==.free then (match env.cells.lookup y with|some c=>mD env r ((y,c)::acc)|none=>mD env r acc) else mD env r acc
theorem oj {scope:Scope}{env:Env}(h:∀y,(y,NameKind.free)∈scope.names->∃c,env.cells.lookup y=some c):closureFor scope env=pure (mD env scope.names []):=by
 have key:∀(names:List (Str×NameKind)) (acc:List (Str×Addr)),(∀y,(y,NameKind.free)∈names->∃c,env.cells.lookup y=some c) →
   (forIn names acc fun x r=>if (x.2==NameKind.free)=true then (do let a <-cellOf env x.1;pure (ForInStep.yield ((x.1,a)::r))) else pure (ForInStep.yield r):Sem (List (Str×Addr)))=pure (mD env names acc):=by
  intro names;induction names with
  |nil=>intro acc _;rfl
  |cons x r ih =>
   intro acc hh;obtain⟨y,k⟩:=x;have hr:=fun z hz=>hh z (aG _ hz);rw[WQ];unfold mD;by_cases hk:(k==NameKind.free)=true
   ·have wj:k=.free:=by simpa using hk
    subst wj;obtain⟨c,hc⟩:=hh y aP;have kY:cellOf env y=pure c:=by unfold cellOf;rw[hc]
    simp only[kY,hc];exact ih _ hr
   ·have wj:(k==NameKind.free)=false:=by simpa using hk
    simp only[wj];exact ih _ hr
 unfold closureFor;have:=key scope.names [] h;refine Eq.trans ?_ (congrArg (fun m:Sem _=>m>>=fun r=>pure r) this);rfl
theorem ql {env:Env}{y:Str}{c:Addr}:∀(names:List (Str×NameKind)) (acc:List (Str×Addr)),(∀c,acc.lookup y=some c->env.cells.lookup y=some c)->(mD env names acc).lookup y=some c->env.cells.lookup y=some c
 |[],acc,h,e=>h c e
 | (z,k)::r,acc,h,e=>by
  unfold mD at e;split at e
  ·split at e
   ·rename_i c' hc;refine ql r _ (fun d hd=>?_) e;rw[bG] at hd;cases hb:y==z with
    |true=>rw[hb] at hd;rw[beq_iff_eq.mp hb];cases hd;exact hc
    |false=>rw[hb] at hd;exact h d hd
   ·exact ql r _ h e
  ·exact ql r _ h e
theorem nU {env:Env}{y:Str}{c:Addr}:∀(names:List (Str×NameKind)) (acc:List (Str×Addr)),env.cells.lookup y=some c->acc.lookup y=some c->(mD env names acc).lookup y=some c
 |[],acc,_,e=>e
 | (z,k)::r,acc,h,e=>by
  unfold mD;split
  ·split
   ·rename_i c' hc;refine nU r _ h ?_;rw[bG];cases hb:y==z with
    |true=>rw[<-beq_iff_eq.mp hb,h] at hc;cases hc;rfl
    |false=>exact e
   ·exact nU r _ h e
  ·exact nU r _ h e
theorem qm {env:Env}{y:Str}{c:Addr}(h:env.cells.lookup y=some c):∀(names:List (Str×NameKind)) (acc:List (Str×Addr)),(y,NameKind.free)∈names->(mD env names acc).lookup y=some c
 | (z,k)::r,acc,hm=>by
  unfold mD;rcases List.mem_cons.mp hm with e|hm
  ·cases e;simp only[beq_self_eq_true,if_true,h];exact nU r _ h (by rw[bG];simp)
  ·split
   ·split
    ·exact qm h r _ hm
    ·exact qm h r _ hm
   ·exact qm h r _ hm
theorem gq:∀(names:List (Str×NameKind)) (n:Nat) (acc:List (Str×Addr)),cellsFrom n names acc=cellsFrom n names []++acc
 |[],_,_=>rfl
 | (y,k)::r,n,acc=>by
  unfold cellsFrom;split
  ·rw[gq r (n+1) ((y,n)::acc),gq r (n+1) [(y,n)],bg];rfl
  ·exact gq r n acc
theorem mj {α:Type}{y:Str}:∀(l m:List (Str×α)),(l++m).lookup y=(l.lookup y).or (m.lookup y)
 |[],_=>by simp
 | (z,c)::r,m=>by
  rw[W4,bG,bG];cases y==z with
  |true=>rfl
  |false=>exact mj r m
theorem lD {y:Str}{c:Addr}:∀(names:List (Str×NameKind)) (n:Nat) (acc:List (Str×Addr)),(y,c)∈cellsFrom n names acc->(y,NameKind.cell)∈names\/(y,c)∈acc
 |[],_,_,h=>.inr h
 | (z,k)::r,n,acc,h=>by
  unfold cellsFrom at h;split at h
  ·rename_i hk;have wj:k=.cell:=by simpa using hk
   subst wj;rcases lD r _ _ h with q|q
   ·exact .inl (aG _ q)
   ·rcases List.mem_cons.mp q with e|q
    ·cases e;exact .inl aP
    ·exact .inr q
  ·rcases lD r _ _ h with q|q
   ·exact .inl (aG _ q)
   ·exact .inr q
theorem Gx {M:Model}{A:Around}{E:Value->Shared->Prop}{s:Shared}{scope:Scope}{globals:Addr}{cl:List (Str×Addr)}{qual:Str}{env:Env}{Q:Env->Shared->Prop}
  (hQ:∀h',h'.Ns s.heap.objs.size (fun _=>none)->(∀b o,s.heap.get? b=some o->h'.get? b=some o)->CellsOk h' (s.heap.objs.size+1) (cellsFrom (s.heap.objs.size+1) scope.names [])->s.heap.objs.size<h'.objs.size →
   Q (newEnv scope s.heap.objs.size globals (cellsFrom (s.heap.objs.size+1) scope.names cl) qual none .none (some env) builtinsNs) { s with heap:=h' }) :
  wpAny M A (newFunctionEnv scope globals cl [] qual none .none (some env)) Q E s:=by
 simp only[newFunctionEnv,Option.isSome_some,if_true];refine aa (wpAny_alloc ?_);refine aa (wpAny_layCells _ (fun name kind cells=>by cases VA:kind==NameKind.cell <;> simp[VA]) _ _ _ _ ?_);have ok:=cellsFrom_ok scope.names (s.heap.push { cls:=.type "dict", data:=.dict #[] }) (s.heap.objs.size+1) [] ⟨fun _ _ hm=>(nomatch hm),List.Pairwise.nil⟩ (by rw[bf];exact aE _);rw[bf] at ok;rw[show ({ s with heap:=s.heap.push { cls:=.type "dict", data:=.dict #[] } }:Shared).heap.objs.size=s.heap.objs.size+1 from bf ..];refine aa (ah (ah ?_));exact hQ _ ((Heap.Ns.new s.heap (.type "dict")).keeps (pushCells_keeps _ _)) (fun b o e=>pushCells_keeps _ _ b o (af _ e)) ok (Heap.Ns.lt ((Heap.Ns.new s.heap (.type "dict")).keeps (pushCells_keeps scope.names _)))
structure CompSc (osc:Scope)(oN:List Str)(scope:Scope)(own:List Str)(ix:List Nat)(caps:List Str):Prop where
 kind:scope.kind=.function
 nd:(own++caps).Nodup
 loc:∀x∈own,scope.names.lookup x=some .local\/scope.names.lookup x=some .cell
 TL:ix.map (fun j=>oN[j]?)=caps.map some
 frees:∀p∈scope.names,p.2=.free->(osc.names.lookup p.1=some .cell\/osc.names.lookup p.1=some .free)
 caps:∀y∈caps,(y,NameKind.free)∈scope.names
 uniq:∀p∈scope.names,scope.names.lookup p.1=some p.2
noncomputable def lV (X:Cx)(scope:Scope)(C:Addr):Env :=
 { newEnv scope C X.env.globals (cellsFrom (C+1) scope.names (mD X.env scope.names [])) X.env.qual none .none (some X.env) builtinsNs with scope:=relabel scope X.env }
noncomputable def compCx (X:Cx)(scope:Scope)(N':List Str)(eC:Shared)(cM:Hp)(ex:List Addr)(pn:List (Addr×Obj)):Cx :=
 { X with N:=N',eC:=eC,cM:=cM,env:=lV X scope eC.heap.objs.size,outer:=X.stack,stack:=X.stack,ex:=ex,fn:=fun x=>scope.names.lookup x==some .cell,pn:=pn,xe:=fun _ _=>False }
noncomputable def capt (n:Nat)(ix:List Nat)(σ:St):St:=aK n none++ix.map (fun j=>(σ[j]?).join)
theorem m5 {env:Env}{scope:Scope}{y:Str} :
  (relabel scope env).names.lookup y=(scope.names.lookup y).map fun k=>if (k==NameKind.free&&env.scope.kind==.function&&env.kindOf y==some .cell)=true then .cell else k:=by
 unfold relabel;dsimp only;generalize scope.names=names;induction names with
 |nil=>rfl
 |cons x r ih =>
  obtain⟨n,k⟩:=x;rw[aC];dsimp only;by_cases hb:(y==n)=true
  ·have e:y=n:=beq_iff_eq.mp hb;subst e;by_cases hc:(k==NameKind.free&&env.scope.kind==.function&&env.kindOf y==some .cell)=true
   ·rw[if_pos hc,bG,bG];simp only[beq_self_eq_true,au,if_pos hc]
   ·rw[if_neg hc,bG,bG];simp only[beq_self_eq_true,au,if_neg hc]
  ·have Nv:(y==n)=false:=by simpa using hb
   rw[bG (a:=y) (b:=(n,k).2),Nv];by_cases hc:(k==NameKind.free&&env.scope.kind==.function&&env.kindOf n==some .cell)=true
   ·rw[if_pos hc,bG,Nv];exact ih
   ·rw[if_neg hc,bG,Nv];exact ih
section
variable {X:Cx}{pins:List (Addr×Obj)}{σ:St}{H:Hp}{s:Shared}{scope:Scope}{own caps:List Str}{ix:List Nat}
theorem wI {C:Addr}{x:Str}(S:CompSc X.env.scope X.N scope own ix caps)(h:scope.names.lookup x=some .cell):∃c,(lV X scope C).cells.lookup x=some c/\(x,c)∈cellsFrom (C+1) scope.names []:=by
 have q:=PySem.W.cellsFrom_some scope.names (C+1) [] (.inl h);obtain⟨c,hc⟩:=Option.isSome_iff_exists.mp q;refine⟨c,?_,mem_of_lookup hc⟩;show (cellsFrom (C+1) scope.names (mD X.env scope.names [])).lookup x=some c;rw[gq,mj,hc];rfl
theorem wH {C:Addr}{x:Str}(S:CompSc X.env.scope X.N scope own ix caps)(h:scope.names.lookup x=some .free)(hX:∃c,X.env.cells.lookup x=some c):(lV X scope C).cells.lookup x=X.env.cells.lookup x:=by
 obtain⟨c,hc⟩:=hX;show (cellsFrom (C+1) scope.names (mD X.env scope.names [])).lookup x=_;rw[gq,mj];have hn:(cellsFrom (C+1) scope.names []).lookup x=none:=by
  cases e:(cellsFrom (C+1) scope.names []).lookup x with
  |none=>rfl
  |some d =>
   rcases lD _ _ _ (mem_of_lookup e) with q|q
   ·have:=S.uniq _ q;rw[h] at this;cases this
   ·cases q
 rw[hn,qm hc _ _ (mem_of_lookup h),hc];rfl
theorem jh {C:Addr}{x:Str}{c:Addr}(h:(lV X scope C).cells.lookup x=some c):(x,c)∈cellsFrom (C+1) scope.names []\/X.env.cells.lookup x=some c:=by
 have h':(cellsFrom (C+1) scope.names (mD X.env scope.names [])).lookup x=some c:=h;rw[gq,mj] at h';cases e:(cellsFrom (C+1) scope.names []).lookup x with
 |some d =>
  rw[e] at h';cases h';exact .inl (mem_of_lookup e)
 |none =>
  rw[e] at h';exact .inr (ql _ [] (fun _ z=>by cases z) h')
theorem HD {fp:List Addr}{h':Heap}(S:CompSc X.env.scope X.N scope own ix caps)(I:Inv X pins σ H s)(hf:∀b∈fp,va X pins H b)(kX:∀b∈fp,b<s.heap.objs.size)
  (hn:h'.Ns s.heap.objs.size (fun _=>none)) (hk:∀b o,s.heap.get? b=some o->h'.get? b=some o) (hc:CellsOk h' (s.heap.objs.size+1) (cellsFrom (s.heap.objs.size+1) scope.names [])) :
  Inv (compCx X scope (own++caps) s H fp (X.pn++pins)) [] (capt own.length ix σ) H { s with heap:=h' }:=by
 have Rx:ix.length=caps.length:=by
  have:=congrArg List.length S.TL;simpa using this
 have Ox:∀x c,X.env.cells.lookup x=some c->c<s.heap.objs.size:=fun x c e=>by
  obtain⟨v,q⟩:=I.cell x c e;exact q.lt
 have Eh:∀{x c},(x,c)∈cellsFrom (s.heap.objs.size+1) scope.names []->s.heap.objs.size+1<=c:=fun h=>(hc.empty _ _ h).2;have freeOf:∀x,scope.names.lookup x=some .free->(X.env.kindOf x=some .cell\/X.env.kindOf x=some .free):=fun x h=>S.frees (x,.free) (mem_of_lookup h) rfl;have QM:∀x,scope.names.lookup x=some .free->∃c,X.env.cells.lookup x=some c:=fun x h=>I.ok.has x (freeOf x h);have Q4:∀b∈EG X.stack,H b=none:=I.Cr;have VX:(compCx X scope (own++caps) s H fp (X.pn++pins)).Ok:=by
  refine⟨I.ok.mod,S.kind,I.ok.glob,I.ok.blt,aE _,?_,?_,?_,I.ok.hd,I.ok.frames,.inl rfl,?_,I.bs,bK I.ok.K8 I.sz,?_,?_,I.stack,Q4⟩
  ·intro x y c e1 e2;rcases jh e1 with q1|q1 <;> rcases jh e2 with q2|q2
   ·exact name_of_addr hc.apart q1 q2
   ·exact absurd (aM (Ox _ _ q2) (WX (Eh q1))) (bF _)
   ·exact absurd (aM (Ox _ _ q1) (WX (Eh q2))) (bF _)
   ·exact I.ok.inj _ _ _ q1 q2
  ·intro x hx;have JN:(relabel scope X.env).names.lookup x=some .cell\/(relabel scope X.env).names.lookup x=some .free:=hx;rw[m5] at JN;cases e:scope.names.lookup x with
   |none=>rw[e] at JN;rcases JN with z|z <;> cases z
   |some k =>
    by_cases kY:k=.cell
    ·subst kY;obtain⟨c,hc,_⟩:=wI (C:=s.heap.objs.size) S e;exact⟨c,hc⟩
    ·by_cases m8:k=.free
     ·subst m8;obtain⟨c,hc⟩:=QM x e;exact⟨c,(wH S e ⟨c,hc⟩).trans hc⟩
     ·rw[e,au] at JN;have Vz:(k==NameKind.free)=false:=by simpa using m8
      rw[Vz] at JN;rcases JN with z|z
      ·exact absurd (Option.some.inj z) kY
      ·exact absurd (Option.some.inj z) m8
  ·intro x c Ph e;have kY:scope.names.lookup x=some .cell:=by simpa [compCx] using Ph
   rcases jh e with q|q
   ·exact WX (Eh q)
   ·obtain⟨c',e',m'⟩:=wI (C:=s.heap.objs.size) S kY;have:c'=c:=by
     have e2:(lV X scope s.heap.objs.size).cells.lookup x=some c:=e;rw[e'] at e2;exact Option.some.inj e2
    subst this;exact WX (Eh m')
  ·intro b hb;refine⟨aN (kX b hb),fun x c e=>?_⟩;rcases jh e with q|q
   ·exact br (aM (kX b hb) (WX (Eh q)))
   ·exact (hf b hb).2.2.2.2.1 x c q
  ·intro b o e hb;rcases (hf b hb).2.2.2.1 with z|z
   ·exact I.ok.Gv b o e z
   ·exact absurd (aM (aD e) (bK I.ok.K8 z)) (bF _)
  ·intro b hb KW;rcases List.mem_cons.mp (I.sX b KW) with z|z
   ·exact (hf b hb).2.1 z
   ·exact (hf b hb).2.2.1 z
 refine⟨VX,rfl,I.bare,Un.kept hk,⟨fun _=>none,hn,?_⟩,?_,I.fT.fresh (aE _),?_,?_,I.fT.kept hk,?_⟩
 ·intro i x v h1 h2 h3;by_cases hi:i<own.length
  ·have Ih:(capt own.length ix σ)[i]?=some (some v):=h2;unfold capt at Ih;rw[aZ (by simpa using hi),bT,if_pos hi] at Ih;cases Ih
  ·have Ih:(capt own.length ix σ)[i]?=some (some v):=h2;unfold capt at Ih;rw[aR (by simpa using hi),bu,ay] at Ih;have SM:(own++caps)[i]?=some x:=h1;rw[aR (by simpa using hi)] at SM;cases ej:ix[i-own.length]? with
   |none=>rw[ej] at Ih;cases Ih
   |some j =>
    rw[ej,au] at Ih;have hj:X.N[j]?=some x:=by
     have q:(ix.map (fun j=>X.N[j]?))[i-own.length]?=(caps.map some)[i-own.length]?:=by rw[S.TL]
     rw[ay,ay,ej,SM,au,au] at q;exact Option.some.inj q
    have hv:σ[j]?=some (some v):=by
     have q:(σ[j]?).join=some v:=Option.some.inj Ih;cases e:σ[j]? with
     |none=>rw[e] at q;cases q
     |some w'=>rw[e] at q;exact congrArg some q
    have m8:scope.names.lookup x=some .free:=S.uniq _ (S.caps x (aF SM));obtain⟨m,hm,hl⟩:=I.loc;have RN:Vis X.env.scope x:=by
     rcases freeOf x m8 with z|z
     ·exact .inr (.inl z)
     ·exact .inr (.inr z)
    obtain⟨u,r,l⟩:=hl j x v hj hv RN;refine⟨u,r,?_⟩;rcases l with ⟨k,_⟩|⟨k,c,e,z⟩
    ·rcases freeOf x m8 with q|q <;> rw[q] at k <;> cases k
    ·refine .inr ⟨?_,c,(wH S m8 ⟨c,e⟩).trans e,z.keeps hk⟩;show (relabel scope X.env).names.lookup x=some .cell\/(relabel scope X.env).names.lookup x=some .free;rw[m5,m8,au];split
     ·exact .inl rfl
     ·exact .inr rfl
 ·intro x c e;rcases jh e with q|q
  ·exact⟨none,(hc.empty _ _ q).1⟩
  ·obtain⟨v,z⟩:=I.cell x c q;exact⟨v,z.keeps hk⟩
 ·intro x c e;rcases jh e with q|q
  ·exact I.fT.fresh (WX (Eh q))
  ·exact I.m9 x c q
 ·intro p hp;have zI:p∈X.pn++pins:=by
   have:p∈(X.pn++pins)++[]:=hp;simpa using this
  obtain⟨e,n,ne,nf,d⟩:=I.pin p zI;refine⟨hk _ _ e,n,aN (aD e),fun z=>?_,d⟩;rcases List.mem_cons.mp (I.sX p.1 z) with q|q
  ·exact ne q
  ·exact nf q
 ·show (capt own.length ix σ).length=(own++caps).length;unfold capt;rw[aw,aw,bu,ai,Rx]
end
noncomputable abbrev Lb:Value->Shared->Prop:=fun _ _=>False
theorem yb {prog:Program}{w:World}{A:Around}{R:Result->Shared->Prop}{s:Shared}{elt target iter:Expr}{ifs:List Expr}{scope:Scope}{pos:Pos}{it acc:Value}{env:Env}(I:Nat->Shared->Prop)
  (turn:∀n s,I n s->wpAny (model prog w) A (pyNext it) (fun r dO=>match r with
   |none=>R (.ok .next) dO
   |some v=>wpAny (model prog w) A (letOwnedTupleGo target it v) (fun _ Ks=>wpAny (model prog w) A (assign target env v) (fun _ sW =>
     wpAny (model prog w) A (forIn ifs true fun c r=>if r=true then do let ok <-isTrue c env (eval c env);pure (ForInStep.yield ok) else pure (ForInStep.yield r)) (fun ok FG =>
      if ok=true then wpAny (model prog w) A (eval elt env) (fun x IJ =>
       wpAny (model prog w) A (call (.builtin "list.append") [acc,x]) (fun _ N5=>∃m,m<n/\I m N5) Lb IJ) Lb FG
      else ∃m,m<n/\I m FG) Lb sW) Lb Ks) Lb dO) Lb s)
  (n:Nat) (h:I n s) :
  codeAny (model prog w) A (.compLoop (.ListComp elt [⟨target,iter,ifs,0⟩] scope pos) 0 it acc env) R s:=by
 refine codeAny_loop rfl I (fun n s hI=>?_) n h;show wpAny _ A ((compTurn (.ListComp elt [⟨target,iter,ifs,0⟩] scope pos) 0 it acc env).onRaise (fun x=>do noteFrame x env;theTreesLotGoes x)) _ _ s;refine wpAny_noted ?_;rw[compTurn_list];refine aa (wpAny_standAt (aa (wpAny_mono (turn n s hI) (fun r dO OV=>?_) fun _ _ h'=>h'.elim)));cases r with
 |none=>exact ah OV
 |some v =>
  refine aa (wpAny_mono OV (fun _ Ks OU=>?_) fun _ _ h'=>h'.elim);refine aa (wpAny_mono OU (fun _ sW RH=>aa (wpAny_mono RH (fun ok FG OT=>?_) fun _ _ h'=>h'.elim)) fun _ _ h'=>h'.elim);cases ok with
  |false=>exact ah ⟨rfl,OT⟩
  |true =>
   exact aa (aa (wpAny_mono OT (fun x IJ RG=>aa (wpAny_mono RG (fun _ N5 RF=>ah (ah ⟨rfl,RF⟩)) fun _ _ h'=>h'.elim)) fun _ _ h'=>h'.elim))
noncomputable def PTs (X:Cx)(ifs:List Expr)(t:TT):Prop :=
 ∀(pins:List (Addr×Obj)) (s:Shared) (σ:St) (H:Hp) (Q:Bool->Hp->Prop),Inv X pins σ H s->t σ H Q →
  wpAny (model X.prog X.w) X.A (forIn ifs true fun c r=>if r=true then do let ok <-isTrue c X.env (eval c X.env);pure (ForInStep.yield ok) else pure (ForInStep.yield r)) (TP X pins σ Q) X.xe s
noncomputable def NY:TT:=fun _ H Q=>Q true H
theorem pts_nil {X:Cx}:PTs X [] NY:=fun pins s σ H Q I h=>wpAny_tests_nil ⟨H,I,h⟩
theorem pts_one {X:Cx}{c:Expr}{t:TT}(h:PT X c t):PTs X [c] t:=fun pins s σ H Q I hq=>wpAny_tests_one (h pins s σ H Q I hq)
noncomputable def tComp (wi:TI)(n:Nat)(ix:List Nat)(g:TG)(tc:TT)(te:TE):TE:=fun σ H Q=>wi σ H fun J H1=>∀D,H1 D=none →
 ∃W:Nat->Nat->St->Hp->Prop,(∃m,W 0 m (capt n ix σ) (eF H1 D (.lst [])))/\∀i m eX H',W i m eX H' →
  (J.stop i H'/\Q (.ref D) H')\/(J.go i H'/\∃N:St->Hp->Prop,(∀sg H2,N sg H2->∃m',m'<m/\W (i+1) m' sg H2) ∧
   ∀x H2,J.NO i H' x H2->g x eX H2 fun rm H3=>tc rm H3 fun b H4=>if b=true then te rm H4 fun y H5=>∃ys,H5 D=some (.lst ys)/\ys.length<sizeLine/\N rm (eF H5 D (.lst (ys++[y]))) else N rm H4)
section
variable {X:Cx}{scope:Scope}{own caps:List Str}{ix:List Nat}{tg iter elt:Expr}{ifs:List Expr}{wi:TI}{g:TG}{tc:TT}{te:TE}
theorem uD {pos:Pos}{pins:List (Addr×Obj)}{s2:Shared}{σ:St}{H2:Hp}{E:Value->Shared->Prop}{J:It}{it:Addr}{fp:List Addr}{tn:Nat->Heap->Prop}{Q:VK}{RR:Value->Addr->Result->Shared->Prop}
  (S:CompSc X.env.scope X.N scope own ix caps) (hc:X.calm=true)
  (hg:∀eC cM ex pn,PG (compCx X scope (own++caps) eC cM ex pn) tg g) (ht:∀eC cM ex pn,PTs (compCx X scope (own++caps) eC cM ex pn) ifs tc) (he:∀eC cM ex pn,PE (compCx X scope (own++caps) eC cM ex pn) elt te)
  (I2:Inv X pins σ H2 s2) (T:Turn X.prog X.w X.K tg J fp it tn) (Ku:tn 0 s2.heap) (f2:∀b∈fp,va X pins H2 b)
  (hW:∀D,H2 D=none->∃W:Nat->Nat->St->Hp->Prop,(∃m,W 0 m (capt own.length ix σ) (eF H2 D (.lst [])))/\∀i m eX H',W i m eX H' →
   (J.stop i H'/\Q (.ref D) H')\/(J.go i H'/\∃N:St->Hp->Prop,(∀sg H2,N sg H2->∃m',m'<m/\W (i+1) m' sg H2) ∧
    ∀x H2,J.NO i H' x H2->g x eX H2 fun rm H3=>tc rm H3 fun b H4=>if b=true then te rm H4 fun y H5=>∃ys,H5 D=some (.lst ys)/\ys.length<sizeLine/\N rm (eF H5 D (.lst (ys++[y]))) else N rm H4))
  (VW:∀(D C:Addr) (H':Hp) (s':Shared),Inv X pins σ H' s'->Q (.ref D) H'->(∃m,s'.heap.Ns C m)->H' C=none->C≠X.env.locals->X.eC.heap.objs.size<=C->(∀x c,X.env.cells.lookup x=some c->c≠C)->(∀p∈X.pn++pins,p.1≠C)->RR (.ref D) C (.ok .next) s') :
  wpAny (model X.prog X.w) X.A (newList []) (fun acc FG=>wpAny (model X.prog X.w) X.A (newFunctionEnv scope X.env.globals (mD X.env scope.names []) [] X.env.qual none .none (some X.env)) (fun PR IJ =>
   codeAny (model X.prog X.w) X.A (.compStart (.ListComp elt [⟨tg,iter,ifs,0⟩] scope pos) 0 (.ref it) acc { PR with scope:=relabel scope X.env }) (RR acc PR.locals) IJ) E FG) E s2:=by
 refine bp (Gx fun h' hn hk Bi hs=>?_);have hD:H2 s2.heap.objs.size=none:=I2.fT.fresh (aE _);obtain⟨W,⟨m0,w0⟩,turn⟩:=hW s2.heap.objs.size hD;have I3:=I2.OO (ys:=[]) (its:=[]) (t':=s2.toks) .nil (bB _);generalize C1:({ s2 with heap:=s2.heap.push { cls:=.type "list", data:=.seq ([]:List Value).toArray },toks:=s2.toks }:Shared)=s3 at I3;have kX:∀b∈fp,b<s2.heap.objs.size:=fun b hb=>by
  obtain⟨o,e,_⟩:=T.obj _ _ Ku b hb;exact aD e
 have pT:s3.heap.objs.size=s2.heap.objs.size+1:=by rw[<-C1];exact bf ..
 have k3:∀b o,s2.heap.get? b=some o->s3.heap.get? b=some o:=fun b o e=>by rw[<-C1];exact af _ e
 have f3:∀b∈fp,va X pins (eF H2 s2.heap.objs.size (.lst [])) b:=fun b hb=>by
  obtain⟨f0,fr⟩:=f2 b hb;exact⟨by rw[cC (aN (kX b hb))];exact f0,fr⟩
 have PL:s3={ s2 with heap:=s2.heap.push { cls:=.type "list", data:=.seq ([]:List Value).toArray } }:=C1.symm
 try rw[<-PL] at hn
 try rw[<-PL] at hk
 try rw[<-PL] at Bi
 try rw[<-PL] at hs
 try rw[<-PL]
 have O9:∀b∈fp,b<s3.heap.objs.size:=fun b hb=>by rw[pT];exact bE (kX b hb)
 have I4:=HD S I3 f3 O9 hn hk Bi;have To:tn 0 h':=T.keep _ _ _ Ku fun b hb o e=>hk b o (k3 b o e);have AB:∀{H':Hp},(∀b∈fp,H' b=none)->∀b∈fp,va (compCx X scope (own++caps) s3 (eF H2 s2.heap.objs.size (.lst [])) fp (X.pn++pins)) [] H' b:=fun hn b hb=>by
  obtain⟨f0,f1,Wv,f3',f4,f5⟩:=f3 b hb;refine⟨hn b hb,aN (O9 b hb),fun z=>?_,.inl hb,fun x c e=>(I4.ok.SS b hb).2 x c e,fun p hp=>f5 p (by simpa [compCx] using hp)⟩;rcases List.mem_cons.mp (I2.sX b z) with q|q
  ·exact f1 q
  ·exact Wv q
 have main:codeAny (model X.prog X.w) X.A (.compLoop (.ListComp elt [⟨tg,iter,ifs,0⟩] scope pos) 0 (.ref it) (.ref s2.heap.objs.size) (lV X scope s3.heap.objs.size))
   (RR (.ref s2.heap.objs.size) s3.heap.objs.size) { s3 with heap:=h' }:=by
  refine yb (fun n s'=>∃i eX H',Inv (compCx X scope (own++caps) s3 (eF H2 s2.heap.objs.size (.lst [])) fp (X.pn++pins)) [] eX H' s'/\tn i s'.heap/\(∀b∈fp,H' b=none)/\W i n eX H') ?_ m0
   ⟨0,_,_,I4,To,fun b hb=>(f3 b hb).1,w0⟩
  rintro n s5 ⟨i,Qe,H5,I5,Na,QC,w5⟩;rcases turn i n Qe H5 w5 with ⟨stop,qn⟩|⟨go,N,hN,step⟩
  ·refine thn (T.done (compCx X scope (own++caps) s3 (eF H2 s2.heap.objs.size (.lst [])) fp (X.pn++pins)) rfl rfl rfl hc i [] s5 Qe H5 Lb I5 (AB QC) Na stop) fun r s6 zz=>?_;obtain ⟨hr,I6⟩:=zz;subst hr;have u:Un (EG X.stack) fp H2 H5 s2.heap s6.heap:=(Un.laid (o:=.lst []) k3 (aE _) hD).trans I6.base;have e6:s6.os=s2.os:=by
    have:=I6.os;rw[this,<-C1];rfl
   have I7:Inv X pins σ H5 s6:=I2.PV e6 u I6.fT I6.bare fun b hb=>⟨(f2 b hb).2.2.2.1,(f2 b hb).2.1,(f2 b hb).2.2.2.2.1,(f2 b hb).2.2.2.2.2⟩;obtain⟨mC,hC,_⟩:=I6.loc;refine VW _ _ H5 s6 I7 qn ⟨mC,hC⟩ I6.free (br (aM I2.lt (by rw[pT];exact bR _))) (bK I2.sz (by rw[pT];exact bR _)) (fun x c e z=>?_) fun p hp z=>?_
   ·obtain⟨v,q⟩:=I2.cell x c e;have:=q.lt;rw[z,pT] at this;exact bF _ (Nat.lt_of_succ_lt this)
   ·have:=aD (I2.pin p hp).1;rw[z,pT] at this;exact bF _ (Nat.lt_of_succ_lt this)
  ·refine thn (T.item (compCx X scope (own++caps) s3 (eF H2 s2.heap.objs.size (.lst [])) fp (X.pn++pins)) rfl rfl rfl hc i [] s5 Qe H5 Lb I5 (AB QC) Na go) fun r s6 zz=>?_;obtain ⟨u,hr,h6⟩:=zz;subst hr;refine thn h6 fun _ s7 zz=>?_;obtain ⟨x,H7,I7,r7,y7,Q5,Wu⟩:=zz;have WH:=I7.pinned (AB Wu) (T.obj _ _ Q5);refine thn (hg _ _ _ _ _ s7 Qe H7 x u _ WH r7 (step x H7 y7)) fun _ s8 zz=>?_;obtain ⟨Qd,H8,I8,q8⟩:=zz;refine thn (ht _ _ _ _ _ s8 Qd H8 _ I8 q8) fun b s9 zz=>?_;obtain ⟨H9,I9,q9⟩:=zz;have again:∀{eX:St}{H':Hp}{s':Shared},Inv (compCx X scope (own++caps) s3 (eF H2 s2.heap.objs.size (.lst [])) fp (X.pn++pins)) ([]++tG fp s7.heap) eX H' s'->N eX H' →
     ∃m,m<n/\∃i eX H',Inv (compCx X scope (own++caps) s3 (eF H2 s2.heap.objs.size (.lst [])) fp (X.pn++pins)) [] eX H' s'/\tn i s'.heap/\(∀b∈fp,H' b=none)/\W i m eX H':=fun {eX H' s'} J n7=>by
    obtain⟨m',hm,w7⟩:=hN eX H' n7;refine⟨m',hm,i+1,eX,H',J.pG,T.keep _ _ _ Q5 fun b hb o e=>(J.pin (b,o) (aO _ (aO _ (mh hb e)))).1,fun b hb=>?_,w7⟩;obtain⟨o,e,d⟩:=T.obj _ _ Q5 b hb;exact (J.pin (b,o) (aO _ (aO _ (mh hb e)))).2.1
   cases b with
   |false=>exact again I9 q9
   |true =>
    rw[if_pos rfl] at q9;show wpAny _ _ (eval elt _) _ _ _;refine thn (he _ _ _ _ _ s9 Qd H9 _ I9 q9) fun y s10 zz=>?_;obtain ⟨vy,WM,WK,UW,ys,SJ,RK,Rf⟩:=zz;refine thn (mt_append _ s10 Qd WM (.ref s2.heap.objs.size) [vy] (.ref s2.heap.objs.size) [y] (fun _ H'=>N Qd H') WK rfl (.cons UW .nil) ⟨_,ys,vy,rfl,rfl,SJ,RK,Rf⟩) fun _ s11 zz=>?_;obtain ⟨_,H11,WJ,_,Qm⟩:=zz;exact again WJ Qm
 exact codeAny_compStart_list main (T.self _ 0 _ _ _ To main)
theorem pe_lcomp {pos:Pos}(S:CompSc X.env.scope X.N scope own ix caps)(hc:X.calm=true)(hi:PI X tg iter wi)
  (hg:∀eC cM ex pn,PG (compCx X scope (own++caps) eC cM ex pn) tg g) (ht:∀eC cM ex pn,PTs (compCx X scope (own++caps) eC cM ex pn) ifs tc) (he:∀eC cM ex pn,PE (compCx X scope (own++caps) eC cM ex pn) elt te)
  (hs:∀x,foldedSetIterable iter X.env x=pure x:=by intro _;rfl) :
  PE X (.ListComp elt [⟨tg,iter,ifs,0⟩] scope pos) (tComp wi own.length ix g tc te):=by
 intro pins s σ H Q I h;have Bi:closureFor scope X.env=pure (mD X.env scope.names []):=oj fun y hy=>I.ok.has y (S.frees (y,.free) hy rfl);rw[eval_ListComp];refine wpAny_comprehension_free (use:=none) rfl hs Bi S.kind (fun y hy hl=>by have:=S.uniq y hy;rw[hl] at this;exact this) ?_;refine thn (hi pins s σ H _ I h) fun v s1 h1=>thn h1 fun Qt s2 h2=>?_;obtain⟨it,fp,tn,J,H2,e,I2,T,Ku,f2,hW⟩:=h2;subst e;refine uD (E:=X.xe) (Q:=Q) (RR:=fun acc C=>compPost (model X.prog X.w) X.A X.xe none (EP X pins σ Q) acc C) S hc hg ht he I2 T Ku f2 hW ?_;intro D C H' s' I' q hC hH hL Nm kY hp;obtain⟨m,hm⟩:=hC;refine⟨m,hm,fun Wm Ia=>⟨.ref D,H',?_,rfl,q⟩⟩;exact I'.turned (t':=s'.toks) (fun b o hb e=>(Ia.2 b hb).trans e) hH (Ne.symm hL).symm (.inr Nm) kY hp
theorem ps_lcomp {pos FP py:Pos}{i:Nat}{y:Str}(S:CompSc X.env.scope X.N scope own ix caps)(hc:X.calm=true)(hN:X.N.Nodup)(Sg:X.N[i]?=some y)(hy:X.env.scope.names.lookup y=some .local)
  (hi:PI X tg iter wi)
  (hg:∀eC cM ex pn,PG (compCx X scope (own++caps) eC cM ex pn) tg g) (ht:∀eC cM ex pn,PTs (compCx X scope (own++caps) eC cM ex pn) ifs tc) (he:∀eC cM ex pn,PE (compCx X scope (own++caps) eC cM ex pn) elt te)
  (Ml:swapsWith (.ListComp elt [⟨tg,iter,ifs,0⟩] scope pos) (some (.Name y py)) FP.line X.env=pure true:=by rfl)
  (hs:∀x,foldedSetIterable iter X.env x=pure x:=by intro _;rfl) :
  PS X (.Assign [.Name y py] (.ListComp elt [⟨tg,iter,ifs,0⟩] scope pos) FP) (tAsg (tComp wi own.length ix g tc te) (gName i)):=by
 intro pins s σ H D I h;have Bi:closureFor scope X.env=pure (mD X.env scope.names []):=oj fun y hy=>I.ok.has y (S.frees (y,.free) hy rfl);rw[exec_Assign_Name_used _ _ _ _ Ml];refine aa (wpAny_standAt (aa ?_));show wpAny _ _ (do let _ <-comprehension (.ListComp elt [⟨tg,iter,ifs,0⟩] scope pos) scope X.env _ (newList []) false (eval iter X.env) (some (assign (.Name y py) X.env))) _ _ s;refine aa (wpAny_mono (wpAny_comprehension_free (use:=some (assign (.Name y py) X.env)) (Q:=fun _ s'=>SP X pins D .next s') rfl hs Bi S.kind (fun y hy hl=>by have:=S.uniq y hy;rw[hl] at this;exact this) ?_)
  (fun _ s' hq=>ah (ah hq)) fun _ _ e=>e)
 refine thn (hi pins s σ H _ I h) fun v s1 h1=>thn h1 fun Qt s2 h2=>?_;obtain⟨it,fp,tn,J,H2,e,I2,T,Ku,f2,hW⟩:=h2;subst e;refine uD (E:=X.xe) (Q:=fun x H1=>gName i x σ H1 D.nx) (RR:=fun acc C=>compPost (model X.prog X.w) X.A X.xe (some (assign (.Name y py) X.env)) (fun _ s'=>SP X pins D .next s') acc C) S hc hg ht he I2 T Ku f2 hW ?_;intro Dl C H' s' I' q hC hH hL Nm kY hp;obtain⟨m,hm⟩:=hC;show wpAny _ _ (assign (.Name y py) X.env (.ref Dl)) _ _ s';refine wpAny_assign_Name (vM (v:=.ref Dl) I' hN Sg (.inl hy) rfl (fun LG WL OZ=>?_) (.inr hy));obtain⟨a,Vm,ha⟩:=OZ;have VT:C≠a:=by
  rcases ha with z|z
  ·rw[z];exact hL
  ·exact fun e=>kY _ _ z e.symm
 refine⟨m,hm.sameBut Vm VT,fun Wm Ia=>?_⟩;exact⟨_,H',WL.turned (t':=LG.toks) (fun b o hb e=>(Ia.2 b hb).trans e) hH hL (.inr Nm) kY hp,q⟩
end
end L2
namespace DL
open PySem PySem.Spec PySem.SeqAt
noncomputable abbrev D:=PyData
noncomputable abbrev Vl:=D×Bool
noncomputable abbrev Sl:=List (Option Vl)
set_option genInjectivity true in
inductive Fl where
 |next (ρ:Sl)|ret (r:Vl)|brk (ρ:Sl)|cont (ρ:Sl)
noncomputable abbrev ED:=Sl->Option Vl
noncomputable abbrev BD:=Sl->Option D
noncomputable abbrev TD:=Sl->Option Bool
noncomputable abbrev AD:=Sl->Option (List D)
noncomputable abbrev SD:=Sl->Option Fl
noncomputable abbrev GD:=D->Sl->Option Sl
noncomputable abbrev O2:=D->D->Option Vl
noncomputable abbrev FD:=List D->Option Vl
noncomputable def dC (d:D):ED:=fun _=>some (d,false)
noncomputable def cg (i:Nat):ED:=fun ρ=>match ρ[i]? with
 |some (some (d,false))=>some (d,false)
 |_=>none
noncomputable def cc (i:Nat):BD:=fun ρ=>match ρ[i]? with
 |some (some (d,false))=>some d
 |some (some (.list xs,true))=>some (.list xs)
 |some (some (.dict [(.dict kvs,.bool true)],true))=>some (.dict kvs)
 |_=>none
noncomputable def cx (f:ED):BD:=fun ρ=>(f ρ).map (·.1)
noncomputable def d1 (op:D->Option Vl)(f:BD):ED:=fun ρ=>(f ρ).bind op
noncomputable def d2 (op:O2)(f g:BD):ED:=fun ρ=>(f ρ).bind fun x=>(g ρ).bind fun y=>op x y
noncomputable def cv:AD:=fun _=>some []
noncomputable def b6 (f:ED)(t:AD):AD:=fun ρ=>(f ρ).bind fun x=>(t ρ).bind fun xs=>some (x.1::xs)
noncomputable def dj (t:AD):ED:=fun ρ=>(t ρ).bind fun xs=>if xs.length<=sizeLine then some (.tuple xs,false) else none
noncomputable def cZ (t:AD):ED:=fun ρ=>(t ρ).bind fun xs=>if xs.length<=sizeLine then some (.list xs,true) else none
noncomputable def cF (F:FD)(t:AD):ED:=fun ρ=>(t ρ).bind F
noncomputable def B0:D->Option Bool
 |.bool b=>some b
 |_=>none
noncomputable def vB (f g:ED):ED:=fun ρ=>(f ρ).bind fun x=>(B0 x.1).bind fun c=>if c=true then g ρ else some (.bool false,false)
noncomputable def J9 (f:ED):ED:=fun ρ=>(f ρ).bind fun x=>(B0 x.1).bind fun c=>some (.bool (!c),false)
noncomputable def uy (t:TD):ED:=fun ρ=>(t ρ).bind fun c=>some (.bool c,false)
noncomputable abbrev LD:=Sl->Option (List D)
noncomputable def KJ (f:ED):LD:=fun ρ=>(f ρ).bind fun x=>match x with
 |(.list xs,true)=>some xs
 |_=>none
noncomputable def rP (f:LD)(g:BD):ED:=fun ρ=>(f ρ).bind fun xs=>(g ρ).bind fun y=>match y with
 |.int k=>if -(2 ^ 63)<=k/\k<2 ^ 63/\xs.length*k.toNat<=sizeLine then some (.list (aK k.toNat xs).flatten,true) else none
 |_=>none
noncomputable def si (f:ED):TD:=fun ρ=>(f ρ).bind fun x=>B0 x.1
noncomputable def rW (f g:TD):TD:=fun ρ=>(f ρ).bind fun c=>if c=true then g ρ else some false
noncomputable def Fc (f g:TD):TD:=fun ρ=>(f ρ).bind fun c=>if c=true then some true else g ρ
noncomputable def kM (f:TD):TD:=fun ρ=>(f ρ).bind fun c=>some (!c)
noncomputable def f9:TD:=fun _=>some true
noncomputable abbrev C2:=D->D->Option Bool
noncomputable def dR:D->List (C2×BD)->TD
 |_,[]=>fun _=>some true
 |x,[(op,f)]=>fun ρ=>(f ρ).bind fun y=>op x y
 |x,(op,f)::r=>fun ρ=>(f ρ).bind fun y=>(op x y).bind fun c=>if c=true then dR y r ρ else some false
noncomputable def dH (f:BD)(l:List (C2×BD)):TD:=fun ρ=>(f ρ).bind fun x=>dR x l ρ
noncomputable def BW (i j:Int):Bool:=(decide (-(2 ^ 64)<i)&&decide (i<2 ^ 64))||(decide (-(2 ^ 64)<j)&&decide (j<2 ^ 64))
noncomputable def eQ:O2
 |.int i,.int j=>some (.int (i+j),false)
 |.tuple xs,.tuple ys=>if xs.length+ys.length<=sizeLine then some (.tuple (xs++ys),false) else none
 |.str x,.str y=>if x.length+y.length<=sizeLine then some (.str (x++y),false) else none
 |_,_=>none
noncomputable def Gk:O2
 |.int i,.int j=>some (.int (i-j),false)
 |_,_=>none
noncomputable def pP:O2
 |.int i,.int j=>if BW i j=true then some (.int (i*j),false) else none
 |_,_=>none
noncomputable def AZ:O2
 |.int i,.int j=>if 0<j/\j<1073741824 then some (.int (i/j),false) else none
 |_,_=>none
noncomputable def nZ:O2
 |.int i,.int j=>if 0<j then some (.int (i%j),false) else none
 |_,_=>none
noncomputable def Gm:O2
 |.int i,.int j=>if 0<=j/\j<=1000000/\i.natAbs<2 ^ 64 then some (.int (i ^ j.toNat),false) else none
 |_,_=>none
noncomputable def LZ:D->Option Vl
 |.int i=>some (.int (-i),false)
 |_=>none
noncomputable def QF:C2
 |.int i,.int j=>some (decide (i<j))
 |_,_=>none
noncomputable def Ik:C2
 |.int i,.int j=>some (decide (j<i))
 |_,_=>none
noncomputable def om:C2:=fun x y=>if (shaped x&&shaped y&&noMix x y)=true then some (same x y) else none
noncomputable def zZ:C2:=fun x y=>if (shaped x&&shaped y&&noMix x y)=true then some (!same x y) else none
noncomputable def yu (n:Nat)(i:Int):Option Nat:=if 0<=i then (if i<n then some i.toNat else none) else if -(n:Int)<=i then some (i+n).toNat else none
noncomputable def vd (xs:List D)(i:Int):Option D:=(yu xs.length i).bind fun j=>xs[j]?
noncomputable def cP:O2
 |.tuple xs,.int i=>(vd xs i).map fun d=>(d,false)
 |.list xs,.int i=>(vd xs i).map fun d=>(d,false)
 |_,_=>none
noncomputable def gn:D->Option Vl
 |.tuple xs=>some (.int xs.length,false)
 |.list xs=>some (.int xs.length,false)
 |_=>none
noncomputable def dh:D->Option Vl
 |.tuple xs=>some (.tuple xs,false)
 |.list xs=>some (.tuple xs,false)
 |_=>none
noncomputable def lG:List D->Option (List Bool)
 |[]=>some []
 |d::r=>(B0 d).bind fun b=>(lG r).map fun bs=>b::bs
noncomputable def qP:D->Option Vl
 |.tuple xs=>(lG xs).map fun bs=>(.bool (bs.all id),false)
 |.list xs=>(lG xs).map fun bs=>(.bool (bs.all id),false)
 |_=>none
noncomputable def AY:O2
 |.int i,.int j=>some (.int (if j>i then j else i),false)
 |_,_=>none
noncomputable def xu:O2
 |.int i,.int j=>some (.int (if j<i then j else i),false)
 |_,_=>none
noncomputable def CV (T:String):D->Bool
 |.bool _=>T == "bool" || T == "int"
 |.int _=>T == "int"
 |.str _=>T == "str"
 |.tuple _=>T == "tuple"
 |.list _=>T == "list"
 |_=>false
noncomputable def md (T:String):D->Option Vl
 |.bool b=>some (.bool (CV T (.bool b)),false)
 |.int b=>some (.bool (CV T (.int b)),false)
 |.str b=>some (.bool (CV T (.str b)),false)
 |.tuple b=>some (.bool (CV T (.tuple b)),false)
 |.list b=>some (.bool (CV T (.list b)),false)
 |_=>none
noncomputable def gN (i:Nat):GD:=fun d ρ=>some (ρ.set i (some (d,false)))
noncomputable def pX:List GD->List D->Sl->Option Sl
 |[],[],ρ=>some ρ
 |g::gs,d::ds,ρ=>(g d ρ).bind fun de=>pX gs ds de
 |_,_,_=>none
noncomputable def gT (gs:List GD):GD:=fun d ρ=>match d with
 |.tuple ds=>pX gs ds ρ
 |_=>none
noncomputable def dM:D->Option (List D)
 |.tuple xs=>some xs
 |.list xs=>some xs
 |_=>none
noncomputable def gS (f:ED):AD:=fun ρ=>(f ρ).bind fun x=>dM x.1
noncomputable def dq (f:AD):AD:=f
noncomputable def yx:D->Option Int
 |.int i=>some i
 |_=>none
noncomputable def fK (i:Int)(n:Nat):List D:=(ao n).map fun (k:Nat)=>.int (i+k)
noncomputable def cR (f:ED):AD:=fun ρ=>(f ρ).bind fun x=>(yx x.1).bind fun j=>if -(2 ^ 62)<=j/\j<2 ^ 62 then some (fK 0 j.toNat) else none
noncomputable def fG (i:Nat):List D->List D
 |[]=>[]
 |d::ds=>.tuple [.int i,d]::fG (i+1) ds
noncomputable def eO (f:AD):AD:=fun ρ=>(f ρ).map (fG 0)
noncomputable def jE (g:GD)(t:TD)(e:ED)(ρ:Sl):List D->Option (List D)
 |[]=>some []
 |d::ds=>(g d ρ).bind fun gE=>(t gE).bind fun c=>if c=true then (e gE).bind fun x=>(jE g t e ρ ds).map fun xs=>x.1::xs else jE g t e ρ ds
noncomputable def fI (n:Nat)(ix:List Nat)(ρ:Sl):Sl:=aK n none++ix.map (fun j=>(ρ[j]?).join)
noncomputable def da (it:AD)(n:Nat)(ix:List Nat)(g:GD)(t:TD)(e:ED):ED:=fun ρ=>(it ρ).bind fun ds=>if ds.length<=sizeLine then (jE g t e (fI n ix ρ) ds).map fun xs=>(.list xs,true) else none
noncomputable def gH:SD:=fun ρ=>some (.next ρ)
noncomputable def cI (a b:SD):SD:=fun ρ=>(a ρ).bind fun fl=>match fl with
 |.next de=>b de
 |fl=>some fl
noncomputable def cH (i:Nat)(f:ED):SD:=fun ρ=>(f ρ).bind fun x=>some (.next (ρ.set i (some x)))
noncomputable def fi (f:ED):SD:=fun ρ=>(f ρ).map .ret
noncomputable def ko (i:Nat):SD:=fun ρ=>match ρ[i]? with
 |some (some (d,false))=>some (.ret (d,false))
 |some (some (.list xs,true))=>some (.ret (.list xs,true))
 |_=>none
noncomputable def kK (t:TD)(a b:SD):SD:=fun ρ=>(t ρ).bind fun c=>if c=true then a ρ else b ρ
noncomputable def share (i:Nat)(ρ:Sl):Sl:=match ρ[i]? with
 |some (some (.list xs,true))=>ρ.set i (some (.list xs,false))
 |_=>ρ
noncomputable def qI (i:Nat)(a:SD):SD:=fun ρ=>a (share i ρ)
noncomputable def gc (i:Nat)(F:SD):SD:=fun ρ=>(F ρ).map fun fl=>match fl with
 |.next de=>.next (share i de)
 |fl=>fl
noncomputable def iP (xs:List D):D:=.dict [(.list xs,.none)]
noncomputable def nY (c:D):D:=.dict [(c,.bool true)]
noncomputable def Hr (xs:List D):D:=.dict [(.list xs,.bool true)]
noncomputable def jc (ρ:Sl):Bool:=ρ.all fun s=>match s with
 |some (.dict [(_,.none)],true)=>false
 |_=>true
noncomputable def fj (i:Nat):AD:=fun ρ=>match ρ[i]? with
 |some (some (.list xs,false))=>some xs
 |some (some (.tuple xs,false))=>some xs
 |some (some (.dict [(.list xs,.none)],true))=>some xs
 |_=>none
noncomputable def lN (i:Nat)(h:List D->Option (List D)):SD:=fun ρ=>match ρ[i]? with
 |some (some (.list xs,true))=>(h xs).map fun ys=>.next (ρ.set i (some (.list ys,true)))
 |_=>none
noncomputable def gv (i:Nat)(f:ED):SD:=fun ρ=>(f ρ).bind fun x=>lN i (fun xs=>if xs.length<sizeLine then some (xs++[x.1]) else none) ρ
noncomputable def xc (i:Nat)(f:ED):SD:=fun ρ=>(f ρ).bind fun x=>match x with
 |(.list ys,true)=>lN i (fun xs=>if xs.length+ys.length<=sizeLine then some (xs++ys) else none) ρ
 |_=>none
noncomputable def IU (i:Nat)(k f:ED):SD:=fun ρ=>(f ρ).bind fun x=>(k ρ).bind fun y=>(yx y.1).bind fun j=>lN i (fun xs=>(yu xs.length j).map fun p=>xs.set p x.1) ρ
noncomputable def fo (g:GD)(b:SD):List D->SD
 |[],ρ=>some (.next ρ)
 | d::ds,ρ=>(g d ρ).bind fun gE=>(b gE).bind fun fl=>match fl with
  |.next de=>fo g b ds de
  |.cont de=>fo g b ds de
  |.brk de=>some (.next de)
  |.ret r=>some (.ret r)
noncomputable def eI (it:AD)(g:GD)(b:SD):SD:=fun ρ=>(it ρ).bind fun ds=>fo g b ds ρ
noncomputable def eL (c:TD)(b:SD):Nat->SD
 |0,_=>none
 | n+1,ρ=>(c ρ).bind fun t=>if t=true then (b ρ).bind fun fl=>match fl with
  |.next de=>eL c b n de
  |.cont de=>eL c b n de
  |.brk de=>some (.next de)
  |.ret r=>some (.ret r) else some (.next ρ)
theorem jz {c:TD}{b:SD}:∀{n:Nat}{ρ:Sl}{fl:Fl},eL c b n ρ=some fl->∀k,eL c b (n+k) ρ=some fl
 |0,_,_,h,_=>by cases h
 | n+1,ρ,fl,h,k=>by
  rw[show n+1+k=(n+k)+1 by omega];unfold eL at h ⊢;cases hc:c ρ with
  |none=>rw[hc] at h;cases h
  |some t =>
   rw[hc,ae] at h;rw[ae];cases t with
   |false=>exact h
   |true =>
    rw[if_pos rfl] at h ⊢;cases hb:b ρ with
    |none=>rw[hb] at h;cases h
    |some x =>
     rw[hb,ae] at h;rw[ae];cases x with
     |next de=>exact jz h k
     |cont de=>exact jz h k
     |brk de=>exact h
     |ret r=>exact h
open Classical in
noncomputable def km (c:TD)(b:SD):SD:=fun ρ=>if h:∃n,(eL c b n ρ).isSome=true then eL c b h.choose ρ else none
theorem nJ {c:TD}{b:SD}{n:Nat}{ρ:Sl}{fl:Fl}(h:eL c b n ρ=some fl):km c b ρ=some fl:=by
 unfold km;have hx:∃n,(eL c b n ρ).isSome=true:=⟨n,by rw[h];rfl⟩;rw[dif_pos hx];obtain⟨fl',h'⟩:=Option.isSome_iff_exists.mp hx.choose_spec;rw[h'];have e1:=jz h hx.choose;have e2:=jz h' n;rw[Nat.add_comm] at e1;rw[e1] at e2;exact e2.symm
theorem rA {c:TD}{b:SD}{ρ:Sl}{fl:Fl}(h:km c b ρ=some fl):∃n,eL c b n ρ=some fl:=by
 unfold km at h;split at h
 ·exact⟨_,h⟩
 ·cases h
noncomputable def fQ:Fl->Option Vl
 |.next _=>some (.none,false)
 |.ret r=>some r
 |_=>none
noncomputable def lR (n m:Nat)(b:SD):FD:=fun ds=>if ds.length=n then (b (ds.map (fun d=>some (d,false))++aK m none)).bind fQ else none
noncomputable abbrev PD:=Sl->Option (Option Int)
noncomputable def Ol (p:Int×Int):D:=.tuple [.int p.1,.int p.2]
noncomputable def LO:D->Option (Int×Int)
 |.tuple [.int a,.int b]=>some (a,b)
 |_=>none
noncomputable def oF:List D->Option (List (Int×Int))
 |[]=>some []
 |d::ds=>(LO d).bind fun p=>(oF ds).map fun ps=>p::ps
noncomputable def Fd (p q:Int×Int):Bool:=decide (p.1<q.1\/(p.1=q.1/\p.2<=q.2))
noncomputable def lM (ps:List (Int×Int)):List (Int×Int):=ps.mergeSort Fd
noncomputable def yL (ds:List D):Option Vl:=(oF ds).bind fun ps=>if ps.length<64 then some (.list ((lM ps).map Ol),true) else none
noncomputable def ma:D->Option Vl
 |.tuple ds=>yL ds
 |.list ds=>yL ds
 |_=>none
mutual
noncomputable def pR:D->Bool
 |.none=>true
 |.bool _=>true
 |.int _=>true
 |.str _=>true
 |.tuple ds=>kA ds
 |.list _=>false
 |.dict _=>false
noncomputable def kA:List D->Bool
 |[]=>true
 |d::ds=>pR d&&kA ds
end
noncomputable def IB:Option Vl->Option Vl
 |some (d,false)=>some (d,false)
 |some (.list xs,true)=>some (.list xs,false)
 |some (.dict [(.list xs,.none)],true)=>some (.list xs,false)
 |some (.dict [(.list xs,.bool true)],true)=>some (.list xs,false)
 |some (.dict [(.dict kvs,.bool true)],true)=>some (.dict kvs,false)
 |_=>none
noncomputable def unown (ρ:Sl):Sl:=ρ.map IB
noncomputable def Ax (t:TD):TD:=fun ρ=>t (unown ρ)
noncomputable def oM (ρ:Sl):Bool:=ρ.all fun s=>match s with
 |some (.dict [(_,.bool true)],true)=>false
 |_=>true
mutual
noncomputable def Wn:D->D->Option Bool
 |.int i,.int j=>some (decide (j<=i))
 |.tuple xs,.tuple ys=>Ui xs ys
 |_,_=>none
noncomputable def Ui:List D->List D->Option Bool
 |[],[]=>some true
 |[],_::_=>some false
 |_::_,[]=>some true
 |x::xs,y::ys=>if same x y=true then Ui xs ys else Wn x y
end
noncomputable def Rk:Vl->Option (List D)
 |(.list xs,true)=>some xs
 |_=>none
noncomputable def qQ:Vl->Option D
 |(d,false)=>if pR d=true then some d else none
 |_=>none
noncomputable def jU:List D->List D->List D->List D
 |x::xs,y::ys,z::zs=>.tuple [x,y,z]::jU xs ys zs
 |_,_,_=>[]
noncomputable def zG (f g k:AD):AD:=fun ρ=>(f ρ).bind fun xs=>(g ρ).bind fun ys=>(k ρ).map fun zs=>jU xs ys zs
noncomputable def uz (it:AD):ED:=fun ρ=>(it ρ).bind fun ds=>if ds.length<=1000000 then some (.list ds,true) else none
end DL
set_option autoImplicit false
namespace DL
open PySem PySem.Spec PySem.SeqAt
open L2 (V Hp HO dQ)
mutual
inductive Kb:Nat->D->Prop where
 |int (n:Nat) (i:Int):Kb n (.int i)
 |tuple {n:Nat}{ds:List D}:ym n ds->Kb (n+1) (.tuple ds)
inductive ym:Nat->List D->Prop where
 |nil {n:Nat}:ym n []
 |cons {n:Nat}{d:D}{ds:List D}:Kb n d->ym n ds->ym n (d::ds)
end
mutual
noncomputable def tY:D->Int
 |.int i=>hashInt i
 |.tuple ds=>reduceHash (Builtin.Tuple.tupleHashOf (iQ ds))
 |_=>0
noncomputable def iQ:List D->List Int
 |[]=>[]
 |d::ds=>tY d::iQ ds
end
noncomputable def Bv (x:D×Addr×Value):DictEntry:=⟨tY x.1,.ref x.2.1,x.2.2⟩
noncomputable abbrev En:=D×V×V
def qA (p:En)(q:D×Addr×Value):Prop:=p.1=q.1/\p.2.1=.ref q.2.1/\dQ p.2.2 q.2.2
def rT (a:Addr)(o:Obj)(es:List En)(h:Heap):Prop:=es.length<=sizeLine/\(a==sysModules)=false/\h.get? a=some o/\∃xs:List (D×Addr×Value),PySem.Paired qA es xs ∧
 ∃ds ep,o.ExactDict/\o.data=.dict ds ep/\ds.toList=xs.map Bv/\(xs.map (·.1)).Nodup
noncomputable abbrev Es:=Obj×List En
noncomputable def lT (a:Addr)(es:Es):HO:=.ext (rT a es.1 es.2)
theorem rT.w6 {a:Addr}{o:Obj}{es:List En}{h1 h2:Heap}(x:rT a o es h1)(k:∀o,h1.get? a=some o->h2.get? a=some o):rT a o es h2:=by
 obtain⟨z,y,e,r⟩:=x;exact⟨z,y,k _ e,r⟩
theorem rT.there {a:Addr}{o:Obj}{es:List En}{h:Heap}(x:rT a o es h):∃o,h.get? a=some o:=⟨o,x.2.2.1⟩
theorem Hz {P:Program}{w:World}{H:Hp}{h:Heap}{a:Addr}{es:Es}(x:rT a es.1 es.2 h):L2.ObjOk P w H h a (lT a es):=⟨x,x.there,fun h1 h2 y k=>y.w6 k⟩
noncomputable def oW:(List V ⊕ (Heap->Prop))->HO
 |.inl vs=>.lst vs
 |.inr φ=>.ext φ
open L2 (V Hp St HO VK TE TT TA TS TI TG Cx Inv PE PT PA PS PSs PI PG jN jT cY eF cN cC cE cV dQ EP TP AP SP kJ It)
noncomputable abbrev Fg:=PySem.W.Frag
noncomputable def E7 (K:Fg)(H:Hp)(O:List Addr)(a:Addr)(vs:List V):Prop :=
 (H a=some (.lst vs)/\a∉O)\/(∃o,H a=some (.frz o (.lst vs))) ∨
  ∃(o:Obj) (its:Array Value) (n:Nat),K.lookup a=some o/\o.cls=.type "list" ∧ o.dict=none/\o.data=.seq its n/\its.size<=sizeLine/\cV vs its.toList
theorem E7.sq {K:Fg}{H:Hp}{O:List Addr}{a:Addr}{vs:List V}(h:E7 K H O a vs):jT K H a vs:=by
 rcases h with h|h|h
 ·exact .inl (.inl h.1)
 ·exact .inl (.inr h)
 ·exact .inr h
mutual
inductive R (K:Fg)(H:Hp)(O:List Addr):D->V->Prop where
 |none:R K H O .none .non
 |bool (b:Bool):R K H O (.bool b) (.bl b)
 |int (i:Int):R K H O (.int i) (.int i)
 |str (x:Str):R K H O (.str x) (.str x)
 |tuple {a:Addr}{ds:List D}{vs:List V}:jN K H a vs->Rs K H O ds vs->R K H O (.tuple ds) (.ref a)
 |list {a:Addr}{ds:List D}{vs:List V}:E7 K H O a vs->Rs K H O ds vs->R K H O (.list ds) (.ref a)
 |dict {a:Addr}{kvs:List (D×D)}{es:Es}:H a=some (lT a es)->a∉O->Rd K H O kvs es.2->R K H O (.dict kvs) (.ref a)
inductive Rs (K:Fg)(H:Hp)(O:List Addr):List D->List V->Prop where
 |nil:Rs K H O [] []
 |cons {d:D}{v:V}{ds:List D}{vs:List V}:R K H O d v->Rs K H O ds vs->Rs K H O (d::ds) (v::vs)
inductive Rd (K:Fg)(H:Hp)(O:List Addr):List (D×D)->List En->Prop where
 |nil:Rd K H O [] []
 |cons {k d:D}{u v:V}{kvs:List (D×D)}{es:List En}:R K H O k u->R K H O d v->Rd K H O kvs es->Rd K H O ((k,d)::kvs) ((k,u,v)::es)
end
structure jO (M O:List Addr)(H:Hp)(O':List Addr)(H':Hp):Prop where
 tup:∀b xs,H b=some (.tup xs)->H' b=some (.tup xs)
 frz:∀b o u,H b=some (.frz o u)->H' b=some (.frz o u)
 lst:∀b xs,b∉M->H b=some (.lst xs)->H' b=some (.lst xs)
 ext:∀b φ,b∉M->H b=some (.ext φ)->H' b=some (.ext φ)
 new:∀b∈O',b∈O\/H b=none
 sub:∀b∈M,b∈O
theorem jO.same {O:List Addr}{H H':Hp}(s:cY H H'):jO [] O H O H':=⟨fun b _ e=>s b _ e,fun b _ _ e=>s b _ e,fun b _ _ e=>s b _ e,fun b _ _ e=>s b _ e,fun _ h=>.inl h,(fun _ h=>nomatch h)⟩
theorem jO.less {O O':List Addr}{H:Hp}(s:∀b∈O',b∈O):jO [] O H O' H:=⟨fun _ _ e=>e,fun _ _ _ e=>e,fun _ _ _ e=>e,fun _ _ _ e=>e,fun b h=>.inl (s b h),(fun _ h=>nomatch h)⟩
theorem jO.fresh {O:List Addr}{H H':Hp}{p:Addr}(s:cY H H')(hp:H p=none):jO [] O H (p::O) H':=⟨fun b _ e=>s b _ e,fun b _ _ e=>s b _ e,fun b _ _ e=>s b _ e,fun b _ _ e=>s b _ e,fun b hb=>(List.mem_cons.mp hb).elim (fun z=>.inr (z▸hp)) .inl,(fun _ h=>nomatch h)⟩
theorem jN.ext {K:Fg}{M O O':List Addr}{H H':Hp}{a:Addr}{vs:List V}(e:jO M O H O' H')(h:jN K H a vs):jN K H' a vs:=by
 rcases h with (h|⟨o,h⟩)|h
 ·exact .inl (.inl (e.tup _ _ h))
 ·exact .inl (.inr ⟨o,e.frz _ _ _ h⟩)
 ·exact .inr h
theorem E7.ext {K:Fg}{M O O':List Addr}{H H':Hp}{a:Addr}{vs:List V}(e:jO M O H O' H')(h:E7 K H O a vs):E7 K H' O' a vs:=by
 rcases h with ⟨h,n⟩|⟨o,h⟩|h
 ·refine .inl ⟨e.lst _ _ (fun z=>n (e.sub _ z)) h,fun z=>?_⟩;rcases e.new _ z with q|q
  ·exact n q
  ·rw[q] at h;cases h
 ·exact .inr (.inl ⟨o,e.frz _ _ _ h⟩)
 ·exact .inr (.inr h)
mutual
theorem R.ext {K:Fg}{M O O':List Addr}{H H':Hp}{d:D}{v:V}(e:jO M O H O' H'):R K H O d v->R K H' O' d v
 |.none=>.none
 |.bool b=>.bool b
 |.int i=>.int i
 |.str x=>.str x
 |.tuple h r=>.tuple (jN.ext e h) (Rs.ext e r)
 |.list h r=>.list (h.ext e) (Rs.ext e r)
 |.dict h n r=>.dict (e.ext _ _ (fun z=>n (e.sub _ z)) h) (fun z=>(e.new _ z).elim n fun q=>by rw[q] at h;cases h) (Rd.ext e r)
theorem Rs.ext {K:Fg}{M O O':List Addr}{H H':Hp}{ds:List D}{vs:List V}(e:jO M O H O' H'):Rs K H O ds vs->Rs K H' O' ds vs
 |.nil=>.nil
 |.cons h r=>.cons (R.ext e h) (Rs.ext e r)
theorem Rd.ext {K:Fg}{M O O':List Addr}{H H':Hp}{kvs:List (D×D)}{es:List En}(e:jO M O H O' H'):Rd K H O kvs es->Rd K H' O' kvs es
 |.nil=>.nil
 |.cons h g r=>.cons (R.ext e h) (R.ext e g) (Rd.ext e r)
end
section
variable {K:Fg}{H H':Hp}{O:List Addr}
theorem Rd.length:∀{kvs:List (D×D)}{es:List En},Rd K H O kvs es->kvs.length=es.length:=by
 intro ds;induction ds with
 |nil=>intro vs h; cases h; rfl
 |cons d ds ih=>
  intro vs h;cases h with
  |cons _ _ r=>rw [aJ,aJ,ih r]
theorem Rd.get:∀{kvs:List (D×D)}{es:List En}{i:Nat}{p:D×D},Rd K H O kvs es->kvs[i]?=some p->∃u v,es[i]?=some (p.1,u,v)/\R K H O p.1 u/\R K H O p.2 v
 |_,_,_,_,.nil,e=>by simp at e
 |_,_,0,_,.cons h g _,e=>by simp at e;subst e;exact⟨_,_,rfl,h,g⟩
 |_,_,i+1,_,.cons _ _ r,e=>by simpa using Rd.get r (by simpa using e)
theorem Rd.append:∀{kvs vp:List (D×D)}{es es':List En},Rd K H O kvs es->Rd K H O vp es'->Rd K H O (kvs++vp) (es++es')
 |_,_,_,_,.nil,s=>s
 |_,_,_,_,.cons h g r,s=>.cons h g (Rd.append r s)
theorem Rd.same {kvs:List (D×D)}{es:List En}(s:cY H H')(h:Rd K H O kvs es):Rd K H' O kvs es:=h.ext (.same s)
theorem Rs.length:∀{ds:List D}{vs:List V},Rs K H O ds vs->ds.length=vs.length:=by
 intro ds;induction ds with
 |nil=>intro vs h; cases h; rfl
 |cons d ds ih=>
  intro vs h;cases h with
  |cons _ r=>rw [aJ,aJ,ih r]
theorem Rs.get:∀{ds:List D}{vs:List V}{i:Nat}{d:D},Rs K H O ds vs->ds[i]?=some d->∃v,vs[i]?=some v/\R K H O d v
 |_,_,_,_,.nil,e=>by simp at e
 |_,_,0,_,.cons h _,e=>by simp at e;subst e;exact⟨_,rfl,h⟩
 |_,_,i+1,_,.cons _ r,e=>by simpa using Rs.get r (by simpa using e)
theorem Rs.append:∀{ds es:List D}{vs us:List V},Rs K H O ds vs->Rs K H O es us->Rs K H O (ds++es) (vs++us):=by
 intro ds;induction ds with
 |nil=>intro es vs us h s; cases h; exact s
 |cons d ds ih=>
  intro es vs us h s;cases h with
  |cons q r=>exact .cons q (ih r s)
theorem Rs.set {d:D}{v:V}(h:R K H O d v):∀{ds:List D}{vs:List V} (n:Nat),Rs K H O ds vs->Rs K H O (ds.set n d) (vs.set n v)
 |_,_,_,.nil=>.nil
 |_,_,0,.cons _ r=>.cons h r
 |_,_,n+1,.cons q r=>.cons q (Rs.set h n r)
theorem Rs.rep {ds:List D}{vs:List V}(h:Rs K H O ds vs):∀k:Nat,Rs K H O (aK k ds).flatten (aK k vs).flatten
 |0=>.nil
 |k+1=>by rw[bH,bH,bU,bU];exact h.append (Rs.rep h k)
theorem R.same {d:D}{v:V}(s:cY H H')(h:R K H O d v):R K H' O d v:=h.ext (.same s)
theorem Rs.same {ds:List D}{vs:List V}(s:cY H H')(h:Rs K H O ds vs):Rs K H' O ds vs:=h.ext (.same s)
end
inductive Dp (K:Fg)(H:Hp)(O M:List Addr):List D->List Addr->Prop where
 |nil:Dp K H O M [] []
 |cons {xs:List D}{vs:List V}{b:Addr}{ds:List D}{bs:List Addr}:H b=some (.lst vs)->b∈M->Rs K H O xs vs->Dp K H O M ds bs->Dp K H O M (.list xs::ds) (b::bs)
theorem Dp.go {K:Fg}{H H':Hp}{Mx O O' M M':List Addr}{ds:List D}{bs:List Addr}(x:jO Mx O H O' H')(h:Dp K H O M ds bs)(k:∀b∈bs,b∈M->b∈M'/\∀vs,H b=some (.lst vs)->H' b=some (.lst vs)):Dp K H' O' M' ds bs:=by
 induction h with
 |nil=>exact .nil
 |cons h1 h2 h3 _ ih=>exact .cons ((k _ aP h2).2 _ h1) (k _ aP h2).1 (h3.ext x) (ih fun b hb=>k b (aG _ hb))
theorem Dp.mem {K:Fg}{H:Hp}{O M:List Addr}{ds:List D}{bs:List Addr}(h:Dp K H O M ds bs):∀b∈bs,b∈M:=by
 induction h with
 |nil=>exact fun b hb=>nomatch hb
 |cons _ h2 _ _ ih=>exact fun b hb=>(List.mem_cons.mp hb).elim (fun z=>z▸h2) (ih b)
def HW (K:Fg)(H:Hp)(O M:List Addr)(ρ:Sl)(σ:St)(i:Nat)(ds:List D):Prop:=∃a bs,σ[i]?=some (some (.ref a))/\H a=some (.lst (bs.map V.ref))/\a∈M/\(a::bs).Nodup/\Dp K H O M ds bs/\∀(j:Nat) (es:List D) (c:Addr),ρ[j]?=some (some (.list es,true))->σ[j]?=some (some (.ref c))->c∉a::bs
def Lc (K:Fg)(H:Hp)(O M:List Addr)(ρ:Sl)(σ:St)(i:Nat)(kvs:List (D×D)):Prop:=∃a es,σ[i]?=some (some (.ref a))/\H a=some (lT a es)/\a∈M/\Rd K H O kvs es.2/\∀(j:Nat) (es:List D) (c:Addr),ρ[j]?=some (some (.list es,true))->σ[j]?=some (some (.ref c))->c≠a
def Tc (K:Fg)(H:Hp)(O M:List Addr)(ρ:Sl)(σ:St)(i:Nat)(c:D):Prop:=(∃ds,c=.list ds/\HW K H O M ρ σ i ds)\/∃kvs,c=.dict kvs/\Lc K H O M ρ σ i kvs
structure lI (K:Fg)(H:Hp)(O M:List Addr)(ρ:Sl)(σ:St):Prop where
 pk:∀(i:Nat) (c:D),ρ[i]?=some (some (nY c,true))->Tc K H O M ρ σ i c
 one:∀(i j:Nat) (c e:D),ρ[i]?=some (some (nY c,true))->ρ[j]?=some (some (nY e,true))->i=j
theorem lI.at_ {K:Fg}{H:Hp}{O M:List Addr}{ρ:Sl}{σ:St}(h:lI K H O M ρ σ)(i:Nat)(ds:List D)(e:ρ[i]?=some (some (Hr ds,true))):HW K H O M ρ σ i ds:=by
 rcases h.pk i (.list ds) e with ⟨_,z,q⟩|⟨_,z,_⟩
 ·cases z;exact q
 ·cases z
theorem lI.dc {K:Fg}{H:Hp}{O M:List Addr}{ρ:Sl}{σ:St}(h:lI K H O M ρ σ)(i:Nat)(kvs:List (D×D))(e:ρ[i]?=some (some (nY (.dict kvs),true))):Lc K H O M ρ σ i kvs:=by
 rcases h.pk i (.dict kvs) e with ⟨_,z,q⟩|⟨_,z,q⟩
 ·cases z
 ·cases z;exact q
theorem lI.none_ {K:Fg}{H:Hp}{O M:List Addr}{ρ:Sl}{σ:St}(h:∀(i:Nat) (x:Vl),ρ[i]?=some (some x)->x.2=false):lI K H O M ρ σ:=⟨fun i ds e=>absurd (h i _ e) (by simp),fun i j ds es e=>absurd (h i _ e) (by simp)⟩
theorem lI.go {K:Fg}{H H':Hp}{Mx O O' M M':List Addr}{ρ de:Sl}{σ eX:St}(h:lI K H O M ρ σ)(x:jO Mx O H O' H')(hd:∀(i:Nat) (c:D),de[i]?=some (some (nY c,true))->ρ[i]?=some (some (nY c,true))/\eX[i]?=σ[i]?)
  (hm:∀b∈M,(∀(j:Nat) (es:List D),ρ[j]?=some (some (.list es,true))->σ[j]?≠some (some (.ref b)))->b∈M'/\∀u,H b=some (oW u)->H' b=some (oW u))
  (ho:∀(j:Nat) (es:List D) (c:Addr),de[j]?=some (some (.list es,true))->eX[j]?=some (some (.ref c))->c∉M\/∃(j':Nat) (es':List D),ρ[j']?=some (some (PyData.list es',true))/\σ[j']?=some (some (V.ref c))):lI K H' O' M' de eX where
 one:=fun i j ds es e1 e2=>h.one i j ds es (hd i ds e1).1 (hd j es e2).1
 pk:=fun i c e=>by
  obtain⟨e1,e2⟩:=hd i c e;rcases h.pk i c e1 with ⟨ds,rfl,q⟩|⟨kvs,rfl,q⟩
  ·refine .inl ⟨ds,rfl,?_⟩;obtain⟨a,bs,h1,h2,h3,h4,h5,h6⟩:=q;have TN:∀b∈a::bs,b∈M:=fun b hb=>(List.mem_cons.mp hb).elim (fun z=>z▸h3) (h5.mem b);have good:∀b∈a::bs,b∈M'/\∀vs,H b=some (.lst vs)->H' b=some (.lst vs):=fun b hb =>
    let g:=hm b (TN b hb) fun j es e z=>h6 j es b e z hb
    ⟨g.1,fun vs e=>g.2 (.inl vs) e⟩
   refine⟨a,bs,e2.trans h1,(good a aP).2 _ h2,(good a aP).1,h4,h5.go x fun b hb _=>good b (aG _ hb),fun j es c z1 z2 z3=>?_⟩;rcases ho j es c z1 z2 with z|⟨j',es',z4,z5⟩
   ·exact z (TN c z3)
   ·exact h6 j' es' c z4 z5 z3
  ·refine .inr ⟨kvs,rfl,?_⟩;obtain⟨a,es,h1,h2,h3,h5,h6⟩:=q;obtain⟨g1,g2⟩:=hm a h3 fun j es e z=>h6 j es a e z rfl;refine⟨a,es,e2.trans h1,g2 (.inr _) h2,g1,h5.ext x,fun j es c z1 z2 z3=>?_⟩;rcases ho j es c z1 z2 with z|⟨j',es',z4,z5⟩
   ·exact z (z3▸h3)
   ·exact h6 j' es' c z4 z5 z3
structure ER (K:Fg)(H:Hp)(O M:List Addr)(cK:Nat->Addr)(ρ:Sl)(σ:St):Prop where
 sh:∀(i:Nat) (d:D),ρ[i]?=some (some (d,false))->∃v,σ[i]?=some (some v)/\R K H O d v
 ow:∀(i:Nat) (ds:List D),ρ[i]?=some (some (.list ds,true))->∃a vs,σ[i]?=some (some (.ref a))/\H a=some (.lst vs)/\a∈M/\Rs K H O ds vs
 le:∀(i:Nat) (ds:List D),ρ[i]?=some (some (iP ds,true))->σ[i]?=some (some (.ref (cK i)))/\∃vs,H (cK i)=some (.lst vs)/\cK i∈O/\cK i∉M/\Rs K H O ds vs
 ap:∀(i j:Nat) (ds es:List D) (a:Addr),ρ[i]?=some (some (.list ds,true))->ρ[j]?=some (some (.list es,true))->σ[i]?=some (some (.ref a))->σ[j]?=some (some (.ref a))->i=j
 tr:∀a∈O,∃u,H a=some (oW u)
 sub:∀a∈M,a∈O
 len:ρ.length=σ.length
 dp:lI K H O M ρ σ
noncomputable def yl (K:Fg)(H:Hp)(O:List Addr)(H':Hp)(r:Vl)(v:V):Prop :=
 (r.2=false/\R K H' O r.1 v)\/(r.2=true/\∃a ds vs,r.1=.list ds/\v=.ref a/\H a=none/\H' a=some (.lst vs)/\Rs K H' (a::O) ds vs)
noncomputable def BR (K:Fg)(H:Hp)(O:List Addr)(d:D)(v:V):Prop :=
 R K H O d v\/(∃a ds vs,d=.list ds/\v=.ref a/\H a=some (.lst vs)/\Rs K H O ds vs)\/∃a kvs es,d=.dict kvs/\v=.ref a/\H a=some (lT a es)/\Rd K H O kvs es.2
section
variable {K:Fg}{H H' H1 H2:Hp}{O M:List Addr}{cK:Nat->Addr}{ρ:Sl}{σ:St}{d:D}{v:V}{r:Vl}
theorem ER.same (s:cY H H')(h:ER K H O M cK ρ σ):ER K H' O M cK ρ σ where
 sh:=fun i d e=>let ⟨v,e1,q⟩:=h.sh i d e;⟨v,e1,q.same s⟩
 ow:=fun i d e=>let ⟨a,vs,e2,e3,e4,q⟩:=h.ow i d e;⟨a,vs,e2,s _ _ e3,e4,q.same s⟩
 le:=fun i d e=>let ⟨e2,vs,e3,e4,e5,q⟩:=h.le i d e;⟨e2,vs,s _ _ e3,e4,e5,q.same s⟩
 ap:=h.ap
 tr:=fun a ha=>let ⟨vs,e⟩:=h.tr a ha;⟨vs,s _ _ e⟩
 sub:=h.sub
 len:=h.len
 dp:=h.dp.go (.same s) (fun _ _ e=>⟨e,rfl⟩) (fun b hb _=>⟨hb,fun vs e=>s _ _ e⟩) fun j es c e1 e2=>.inr ⟨j,es,e1,e2⟩
theorem ER.ne (h:ER K H O M cK ρ σ):∀a∈O,H a≠none:=fun a ha e=>by
 obtain⟨vs,q⟩:=h.tr a ha;rw[e] at q;cases q
theorem R.bb (h:R K H O d v):BR K H O d v:=.inl h
theorem BR.same (s:cY H H')(h:BR K H O d v):BR K H' O d v:=by
 rcases h with h|⟨a,ds,vs,e1,e2,e3,q⟩|⟨a,kvs,es,e1,e2,e3,q⟩
 ·exact .inl (h.same s)
 ·exact .inr (.inl ⟨a,ds,vs,e1,e2,s _ _ e3,q.same s⟩)
 ·exact .inr (.inr ⟨a,kvs,es,e1,e2,s _ _ e3,q.same s⟩)
theorem yl.toR (tr:∀a∈O,H a≠none)(h:yl K H O H' r v):R K H' O r.1 v:=by
 rcases h with ⟨_,h⟩|⟨_,a,ds,vs,e1,e2,e3,e4,q⟩
 ·exact h
 ·rw[e1,e2];exact .list (.inl ⟨e4,fun z=>tr a z e3⟩) (q.ext (.less fun b hb=>aG _ hb))
theorem yl.of (h:R K H' O d v):yl K H O H' (d,false) v:=.inl ⟨rfl,h⟩
theorem yl.back (s:cY H H1)(h:yl K H1 O H' r v):yl K H O H' r v:=by
 rcases h with h|⟨e,a,ds,vs,e1,e2,e3,e4,q⟩
 ·exact .inl h
 ·exact .inr ⟨e,a,ds,vs,e1,e2,s.free e3,e4,q⟩
end
noncomputable def uE (K:Fg)(f:ED):TE:=fun σ H Q=>∃ρ O M cK r,ER K H O M cK ρ σ/\f ρ=some r/\∀v H',cY H H'->yl K H O H' r v->Q v H'
noncomputable def uB (K:Fg)(f:BD):TE:=fun σ H Q=>∃ρ O M cK d,ER K H O M cK ρ σ/\f ρ=some d/\∀v H',cY H H'->BR K H' O d v->Q v H'
noncomputable def uT (K:Fg)(f:TD):TT:=fun σ H Q=>∃ρ O M cK b,ER K H O M cK ρ σ/\f ρ=some b/\∀H',cY H H'->Q b H'
noncomputable def uA (K:Fg)(f:AD):TA:=fun σ H Q=>∃ρ O M cK ds,ER K H O M cK ρ σ/\f ρ=some ds/\∀vs H',cY H H'->Rs K H' O ds vs->Q vs H'
def DE (X:Cx)(e:Expr)(f:ED):Prop:=PE X e (uE X.K f)
def DB (X:Cx)(e:Expr)(f:BD):Prop:=PE X e (uB X.K f)
def DT (X:Cx)(e:Expr)(f:TD):Prop:=PT X e (uT X.K f)
def DA (X:Cx)(es:List Expr)(f:AD):Prop:=PA X es (uA X.K f)
theorem _root_.L2.PE.imp {X:Cx}{e:Expr}{t t':TE}(h:PE X e t)(i:∀σ H Q,t' σ H Q->t σ H Q):PE X e t':=fun pins s σ H Q I q=>h pins s σ H Q I (i σ H Q q)
theorem _root_.L2.PT.imp {X:Cx}{e:Expr}{t t':TT}(h:PT X e t)(i:∀σ H Q,t' σ H Q->t σ H Q):PT X e t':=fun pins s σ H Q I q=>h pins s σ H Q I (i σ H Q q)
theorem _root_.L2.PA.imp {X:Cx}{e:List Expr}{t t':TA}(h:PA X e t)(i:∀σ H Q,t' σ H Q->t σ H Q):PA X e t':=fun pos pins s σ H Q I q=>h pos pins s σ H Q I (i σ H Q q)
theorem _root_.L2.PS.imp {X:Cx}{e:Stmt}{t t':TS}(h:PS X e t)(i:∀D σ H,t' D σ H->t D σ H):PS X e t':=fun pins s σ H D I q=>h pins s σ H D I (i D σ H q)
theorem _root_.L2.PSs.imp {X:Cx}{e:List Stmt}{t t':TS}(h:PSs X e t)(i:∀D σ H,t' D σ H->t D σ H):PSs X e t':=fun pins s σ H D I q=>h pins s σ H D I (i D σ H q)
section
variable {X:Cx}{e a b c:Expr}{es:List Expr}{f g:ED}{fb gb hb:BD}{t u:TD}{pos:Pos}
theorem DE.bb (h:DE X e f):DB X e (cx f):=h.imp fun σ H Q zz=>by
 obtain ⟨ρ,O,M,cK,d,hE,hf,k⟩:=zz;unfold cx at hf;cases hr:f ρ with
 |none=>rw[hr] at hf;cases hf
 |some r =>
  rw[hr,au] at hf;cases hf;exact⟨ρ,O,M,cK,r,hE,hr,fun v H' s q=>k v H' s (q.toR hE.ne).bb⟩
theorem cf (i:Nat){x:Str}(hN:X.N[i]?=some x:=by rfl)(hv:L2.Vis X.env.scope x:=by first|exact Or.inl rfl|exact Or.inr (Or.inl rfl)|exact Or.inr (Or.inr rfl))(hd:(x==("__debug__" : Str))=false:=by decide)
  (n5:(x==("__classdict__" : Str))=false:=by decide):DB X (.Name x pos) (cc i):=(L2.pe_var hN hv hd n5).imp fun σ H Q zz=>by
 obtain ⟨ρ,O,M,cK,d,hE,hf,k⟩:=zz;unfold cc at hf;split at hf
 ·rename_i d' hr;cases hf;obtain⟨v,e1,q⟩:=hE.sh i _ hr;exact⟨v,e1,k v H (.refl H) q.bb⟩
 ·rename_i ds hr;cases hf;obtain⟨a,vs,e2,e3,e4,q⟩:=hE.ow i _ hr;exact⟨_,e2,k _ H (.refl H) (.inr (.inl ⟨a,ds,vs,rfl,rfl,e3,q⟩))⟩
 ·rename_i kvs hr;cases hf;obtain⟨a,es,e2,e3,e4,q,_⟩:=hE.dp.dc i kvs hr;exact⟨_,e2,k _ H (.refl H) (.inr (.inr ⟨a,kvs,es,rfl,rfl,e3,q⟩))⟩
 ·cases hf
theorem ck (i:Nat){x:Str}(hN:X.N[i]?=some x:=by rfl)(hv:L2.Vis X.env.scope x:=by first|exact Or.inl rfl|exact Or.inr (Or.inl rfl)|exact Or.inr (Or.inr rfl))(hd:(x==("__debug__" : Str))=false:=by decide)
  (n5:(x==("__classdict__" : Str))=false:=by decide):DE X (.Name x pos) (cg i):=(L2.pe_var hN hv hd n5).imp fun σ H Q zz=>by
 obtain ⟨ρ,O,M,cK,d,hE,hf,k⟩:=zz;unfold cg at hf;split at hf
 ·rename_i d' hr;cases hf;obtain⟨v,e1,q⟩:=hE.sh i _ hr;exact⟨v,e1,k v H (.refl H) (.of q)⟩
 ·cases hf
theorem PQ {d:D}{v:V}(h:PE X e (L2.tC v))(r:∀(H:Hp) (O:List Addr),R X.K H O d v):DE X e (dC d):=h.imp fun σ H Q zz=>by
 obtain ⟨ρ,O,M,cK,r',hE,hf,k⟩:=zz;cases hf;exact k v H (.refl H) (.of (r H O))
theorem cy {i j}:DE X (.Constant (.int i) j pos) (dC (.int i)):=PQ L2.pe_int fun _ _=>.int _
theorem rN {i j}:DE X (.Constant (.bool i) j pos) (dC (.bool i)):=PQ L2.pe_bl fun _ _=>.bool _
def OD (X:Cx)(r:L2.R2)(op:O2):Prop:=∀(x y:D) (vx vy:V) (H:Hp) (O:List Addr) (res:Vl) (Q:VK),(∀a∈O,H a≠none)->BR X.K H O x vx->BR X.K H O y vy->op x y=some res →
 (∀v H',cY H H'->yl X.K H O H' res v->Q v H')->r vx vy H Q
theorem ya {r:L2.R2}{op:O2}(hd:OD X r op){σ:St}{H:Hp}{Q:VK}(h:uE X.K (d2 op fb gb) σ H Q):L2.tOp r (uB X.K fb) (uB X.K gb) σ H Q:=by
 obtain⟨ρ,O,M,cK,res,hE,hf,k⟩:=h;unfold d2 at hf;obtain⟨x,hx,hf⟩:=Option.bind_eq_some_iff.mp hf;obtain⟨y,hy,hf⟩:=Option.bind_eq_some_iff.mp hf;refine⟨ρ,O,M,cK,x,hE,hx,fun vx H1 s1 q1=>⟨ρ,O,M,cK,y,hE.same s1,hy,fun vy H2 s2 q2=>?_⟩⟩;exact hd x y vx vy H2 O res Q ((hE.same s1).same s2).ne (q1.same s2) q2 hf fun v H' s q=>k v H' ((s1.trans s2).trans s) (q.back (s1.trans s2))
theorem dk {op:Operator}{r:L2.R2}{o:O2}(ho:L2.OpR X (binaryOp op) r)(hd:OD X r o)(ha:DB X a fb)(hb:DB X b gb):DE X (.BinOp a op b pos) (d2 o fb gb) :=
 (L2.pe_op ho ha hb).imp fun _ _ _ h=>ya hd h
def UD (X:Cx)(r:V->Hp->VK->Prop)(op:D->Option Vl):Prop:=∀(x:D) (vx:V) (H:Hp) (O:List Addr) (res:Vl) (Q:VK),(∀a∈O,H a≠none)->BR X.K H O x vx->op x=some res →
 (∀v H',cY H H'->yl X.K H O H' res v->Q v H')->r vx H Q
theorem HC {r:V->Hp->VK->Prop}{op:D->Option Vl}(hd:UD X r op){σ:St}{H:Hp}{Q:VK}(h:uE X.K (d1 op fb) σ H Q):L2.tUn r (uB X.K fb) σ H Q:=by
 obtain⟨ρ,O,M,cK,res,hE,hf,k⟩:=h;unfold d1 at hf;obtain⟨x,hx,hf⟩:=Option.bind_eq_some_iff.mp hf;refine⟨ρ,O,M,cK,x,hE,hx,fun vx H1 s1 q1=>?_⟩;exact hd x vx H1 O res Q (hE.same s1).ne q1 hf fun v H' s q=>k v H' (s1.trans s) (q.back s1)
theorem PO {op:UnaryOp}{r:V->Hp->VK->Prop}{o:D->Option Vl}(ho:L2.UnR X (unaryOp op) r)(hd:UD X r o)(ha:DB X a fb):DE X (.UnaryOp op a pos) (d1 o fb) :=
 (L2.pe_un ho ha).imp fun _ _ _ h=>HC hd h
theorem cz:DA X [] cv:=L2.pa_nil.imp fun σ H Q zz=>by
 obtain ⟨ρ,O,M,cK,ds,hE,hf,k⟩:=zz;cases hf;exact k [] H (.refl H) .nil
theorem b7 {t:AD}(ha:DE X e f)(hr:DA X es t)(hs:starEach (e::es) X.env=(false,eval e X.env)::starEach es X.env:=by rfl):DA X (e::es) (b6 f t):=(L2.pa_cons ha hr hs).imp fun σ H Q zz=>by
 obtain ⟨ρ,O,M,cK,ds,hE,hf,k⟩:=zz;unfold b6 at hf;obtain⟨x,hx,hf⟩:=Option.bind_eq_some_iff.mp hf;obtain⟨xs,hy,hf⟩:=Option.bind_eq_some_iff.mp hf;cases hf;exact⟨ρ,O,M,cK,x,hE,hx,fun v H1 s1 q1=>⟨ρ,O,M,cK,xs,hE.same s1,hy,fun vs H2 s2 q2=>k _ H2 (s1.trans s2) (.cons ((q1.toR hE.ne).same s2) q2)⟩⟩
theorem eh {x1}{t:AD}(h:DA X es t):DE X (.Tuple es x1 pos) (dj t):=(L2.pe_tup h).imp fun σ H Q zz=>by
 obtain ⟨ρ,O,M,cK,r,hE,hf,k⟩:=zz;unfold dj at hf;obtain⟨xs,hx,hf⟩:=Option.bind_eq_some_iff.mp hf;split at hf
 ·rename_i hz;cases hf;refine⟨ρ,O,M,cK,xs,hE,hx,fun vs H1 s1 q1=>⟨by rw[<-q1.length];exact hz,fun p hp=>?_⟩⟩;have s2:cY H1 (eF H1 p (.tup vs)):=fun b o e=>by rw[cC (cE e hp)];exact e
  exact k _ _ (s1.trans s2) (.of (.tuple (.inl (.inl cN)) (q1.same s2)))
 ·cases hf
theorem eW {t:AD}(h:DA X es t):DE X (.List es pos) (cZ t):=(L2.pe_lst h).imp fun σ H Q zz=>by
 obtain ⟨ρ,O,M,cK,r,hE,hf,k⟩:=zz;unfold cZ at hf;obtain⟨xs,hx,hf⟩:=Option.bind_eq_some_iff.mp hf;split at hf
 ·rename_i hz;cases hf;refine⟨ρ,O,M,cK,xs,hE,hx,fun vs H1 s1 q1=>⟨by rw[<-q1.length];exact hz,fun p hp=>?_⟩⟩;have s2:cY H1 (eF H1 p (.lst vs)):=fun b o e=>by rw[cC (cE e hp)];exact e
  refine k _ _ (s1.trans s2) (.inr ⟨rfl,p,xs,vs,rfl,rfl,s1.free hp,cN,q1.ext (jO.fresh s2 hp)⟩)
 ·cases hf
noncomputable def spD (K:Fg)(F:FD):L2.Sp:=fun vs H Q _=>∃ds O r,Rs K H O ds vs/\(∀a∈O,∃u,H a=some (oW u))/\F ds=some r/\∀v H',cY H H'->yl K H O H' r v->Q v H'
theorem J8 {k:Nat}{fa:Addr}{fd:FuncData}{ps:List Str}{F:FD}{x:Str}{p:Pos}{t:AD}(G:L2.FnOk X.prog X.w X.K X.mg X.base L2.CX0 k fa fd ps (spD X.K F))(hr:L2.Room k X.A)(hg:L2.Gl X x)(hm:X.mg x=some (.ref fa))(hk:PySem.W.keepIn X.K (.ref fa)=true)
  (hb:L2.Binds X.K fd ps []) (ha:DA X (e::es) t) (vv:(x==("__debug__" : Str))=false:=by decide) (he:starEach (e::es) X.env=(false,eval e X.env)::starEach es X.env:=by rfl) (nP:(backTo pos (starEach es X.env)).any (·.1)=false:=by rfl) :
  DE X (.Call (.Name x p) (e::es) [] pos) (cF F t):=by
 refine (L2.pe_call G hr hg hm hk hb (.nil:cV [] []) L2.pass0 ha vv he nP).imp fun σ H Q zz=>?_;obtain ⟨ρ,O,M,cK,r,hE,hf,k⟩:=zz;unfold cF at hf;obtain⟨ds,hx,hf⟩:=Option.bind_eq_some_iff.mp hf;refine⟨ρ,O,M,cK,ds,hE,hx,fun vs H1 s1 q1=>?_⟩;show spD X.K F (vs++[]) H1 Q L2.E0;rw[bw];exact⟨ds,O,r,q1,(hE.same s1).tr,hf,fun v H' s q=>k v H' (s1.trans s) (q.back s1)⟩
theorem z7 {d:D}{c:Bool}(h:B0 d=some c):d=.bool c:=by
 cases d <;> first|(cases h;rfl)|cases h
theorem yl.bool {K:Fg}{H H':Hp}{O:List Addr}{r:Vl}{v:V}{c:Bool}(h:yl K H O H' r v)(e:B0 r.1=some c):v=.bl c:=by
 have e':=z7 e;rcases h with ⟨_,h⟩|⟨_,a,ds,vs,e1,_⟩
 ·rw[e'] at h;cases h;rfl
 ·rw[e'] at e1;cases e1
theorem Bz {op}(h:DE X a f):DE X (.BoolOp op [a] pos) f:=L2.pe_one h
theorem x8 {gm:List Expr}(ha:DE X a f)(hb:DE X (.BoolOp .And (b::gm) pos) g):DE X (.BoolOp .And (a::b::gm) pos) (vB f g):=(L2.pe_and ha hb).imp fun σ H Q zz=>by
 obtain ⟨ρ,O,M,cK,r,hE,hf,k⟩:=zz;unfold vB at hf;obtain⟨x,hx,hf⟩:=Option.bind_eq_some_iff.mp hf;obtain⟨c,hc,hf⟩:=Option.bind_eq_some_iff.mp hf;refine⟨ρ,O,M,cK,x,hE,hx,fun v H1 s1 q1=>⟨c,q1.bool hc,?_⟩⟩;cases c with
 |true =>
  rw[if_pos rfl] at hf ⊢;exact⟨ρ,O,M,cK,r,hE.same s1,hf,fun v H' s q=>k v H' (s1.trans s) (q.back s1)⟩
 |false =>
  rw[if_neg Bool.false_ne_true] at hf ⊢;cases hf;exact k _ H1 s1 (.of (.bool _))
theorem MC (ha:DE X a f):DE X (.UnaryOp .Not a pos) (J9 f):=(L2.pe_not ha).imp fun σ H Q zz=>by
 obtain ⟨ρ,O,M,cK,r,hE,hf,k⟩:=zz;unfold J9 at hf;obtain⟨x,hx,hf⟩:=Option.bind_eq_some_iff.mp hf;obtain⟨c,hc,hf⟩:=Option.bind_eq_some_iff.mp hf;cases hf;exact⟨ρ,O,M,cK,x,hE,hx,fun v H1 s1 q1=>⟨c,q1.bool hc,k _ H1 s1 (.of (.bool _))⟩⟩
theorem nu (h:DE X e f)(he:∀whole,isTrue e X.env whole=(do let v <-whole;standAt e.pos;holding [v] (truthy v)):=by intro _;rfl):DT X e (si f):=(L2.pt_val h he).imp fun σ H Q zz=>by
 obtain ⟨ρ,O,M,cK,c,hE,hf,k⟩:=zz;unfold si at hf;obtain⟨x,hx,hf⟩:=Option.bind_eq_some_iff.mp hf;exact⟨ρ,O,M,cK,x,hE,hx,fun v H1 s1 q1=>⟨c,q1.bool hf,k H1 s1⟩⟩
def DW (X:Cx)(e:Expr)(f:TD):Prop:=L2.PW X e (uT X.K f)
theorem _root_.L2.PW.imp {X:Cx}{e:Expr}{t t':TT}(h:L2.PW X e t)(i:∀σ H Q,t' σ H Q->t σ H Q):L2.PW X e t':=fun whole pins s σ H Q I q=>h whole pins s σ H Q I (i σ H Q q)
theorem Dd (ha:DT X a t):DW X (.BoolOp .And [a] pos) t:=L2.pw_and1 ha
theorem Hh (ha:DT X a t):DW X (.BoolOp .Or [a] pos) t:=L2.pw_or1 ha
theorem DW.tt (h:DW X e t):DT X e t:=h _
theorem Hj {gm:List Expr}(ha:DT X a t)(hb:DW X (.BoolOp .And (b::gm) pos) u):DW X (.BoolOp .And (a::b::gm) pos) (rW t u):=(L2.pw_and ha hb).imp fun σ H Q zz=>by
 obtain ⟨ρ,O,M,cK,r,hE,hf,k⟩:=zz;unfold rW at hf;obtain⟨c,hx,hf⟩:=Option.bind_eq_some_iff.mp hf;refine⟨ρ,O,M,cK,c,hE,hx,fun H1 s1=>?_⟩;cases c with
 |true =>
  rw[if_pos rfl] at hf ⊢;exact⟨ρ,O,M,cK,r,hE.same s1,hf,fun H' s=>k H' (s1.trans s)⟩
 |false =>
  rw[if_neg Bool.false_ne_true] at hf ⊢;cases hf;exact k H1 s1
theorem Hi {gm:List Expr}(ha:DT X a t)(hb:DW X (.BoolOp .Or (b::gm) pos) u):DW X (.BoolOp .Or (a::b::gm) pos) (Fc t u):=(L2.pw_or ha hb).imp fun σ H Q zz=>by
 obtain ⟨ρ,O,M,cK,r,hE,hf,k⟩:=zz;unfold Fc at hf;obtain⟨c,hx,hf⟩:=Option.bind_eq_some_iff.mp hf;refine⟨ρ,O,M,cK,c,hE,hx,fun H1 s1=>?_⟩;cases c with
 |false =>
  rw[if_neg Bool.false_ne_true] at hf ⊢;exact⟨ρ,O,M,cK,r,hE.same s1,hf,fun H' s=>k H' (s1.trans s)⟩
 |true =>
  rw[if_pos rfl] at hf ⊢;cases hf;exact k H1 s1
theorem o4 (ha:DT X a t):DT X (.UnaryOp .Not a pos) (kM t):=(L2.pt_not ha).imp fun σ H Q zz=>by
 obtain ⟨ρ,O,M,cK,r,hE,hf,k⟩:=zz;unfold kM at hf;obtain⟨c,hx,hf⟩:=Option.bind_eq_some_iff.mp hf;cases hf;exact⟨ρ,O,M,cK,c,hE,hx,fun H1 s1=>k H1 s1⟩
def CD (X:Cx)(r:L2.R2)(op:C2):Prop:=∀(x y:D) (vx vy:V) (H:Hp) (O:List Addr) (c:Bool) (Q:VK),BR X.K H O x vx->BR X.K H O y vy->op x y=some c->Q (.bl c) H->r vx vy H Q
theorem HL {r:L2.R2}{op:C2}(hd:CD X r op){ρ:Sl}{O M:List Addr}{cK:Nat->Addr}{k:Bool}{σ:St}{H:Hp}{Q:VK}(hE:ER X.K H O M cK ρ σ)(hf:dH fb [(op,gb)] ρ=some k)(q:∀H',cY H H'->Q (.bl k) H'):L2.tOp r (uB X.K fb) (uB X.K gb) σ H Q:=by
 unfold dH dR at hf;obtain⟨x,hx,hf⟩:=Option.bind_eq_some_iff.mp hf;obtain⟨y,hy,hf⟩:=Option.bind_eq_some_iff.mp hf;exact⟨ρ,O,M,cK,x,hE,hx,fun vx H1 s1 q1=>⟨ρ,O,M,cK,y,hE.same s1,hy,fun vy H2 s2 q2=>hd x y vx vy H2 O k Q (q1.same s2) q2 hf (q H2 (s1.trans s2))⟩⟩
theorem BE {ρ:Sl}{r:Vl}(h:uy t ρ=some r):∃c,t ρ=some c/\r=(.bool c,false):=by
 unfold uy at h;cases hx:t ρ with
 |none=>rw[hx] at h;cases h
 |some c=>rw[hx] at h;cases h;exact⟨c,rfl,rfl⟩
theorem K5 {op:CmpOp}{r:L2.R2}{o:C2}(ho:L2.OpR X (compareOp op) r)(hd:CD X r o)(ha:DB X a fb)(hb:DB X b gb)(hm:behindInMarks op b=false:=by first|exact L2.nomark _|with_unfolding_all rfl):DE X (.Compare a [op] [b] pos) (uy (dH fb [(o,gb)])) :=
 (L2.pe_cmpR ho ha hb hm).imp fun σ H Q zz=>by
  obtain ⟨ρ,O,M,cK,r,hE,hf,k⟩:=zz;obtain⟨c,hc,rfl⟩:=BE hf;exact HL hd hE hc fun H' s=>k _ H' s (.of (.bool _))
theorem iS {op:CmpOp}{r:L2.R2}{o:C2}(ho:L2.OpR X (compareOp op) r)(hd:CD X r o)(ha:DB X a fb)(hb:DB X b gb)(hm:behindInMarks op b=false:=by first|exact L2.nomark _|with_unfolding_all rfl):DT X (.Compare a [op] [b] pos) (dH fb [(o,gb)]) :=
 (L2.pt_cmpR ho ha hb hm).imp fun σ H Q ⟨ρ,O,M,cK,c,hE,hf,k⟩=>HL hd hE hf fun H' s=>⟨c,rfl,k H' s⟩
end
structure iB (M:List Addr)(H:Hp)(M':List Addr)(H':Hp):Prop where
 keep:∀b o,b∉M->H b=some o->H' b=some o
 tup:∀b xs,H b=some (.tup xs)->H' b=some (.tup xs)
 frz:∀b o u,H b=some (.frz o u)->H' b=some (.frz o u)
 new:∀b∈M',b∈M\/H b=none
 there:∀b,H b≠none->H' b≠none
theorem iB.refl (M:List Addr)(H:Hp):iB M H M H:=⟨fun _ _ _ e=>e,fun _ _ e=>e,fun _ _ _ e=>e,fun _ h=>.inl h,fun _ h=>h⟩
theorem iB.same {M:List Addr}{H H':Hp}(s:cY H H'):iB M H M H':=⟨fun b o _ e=>s b o e,fun b _ e=>s b _ e,fun b _ _ e=>s b _ e,fun _ h=>.inl h,fun b h z=>by
 cases e:H b with
 |none=>exact h e
 |some o=>rw[s b o e] at z;cases z⟩
theorem iB.trans {M M1 M2:List Addr}{H H1 H2:Hp}(a:iB M H M1 H1)(b:iB M1 H1 M2 H2):iB M H M2 H2 where
 keep:=fun c o n e=>b.keep c o (fun z=>(a.new c z).elim n fun q=>by rw[q] at e;cases e) (a.keep c o n e)
 tup:=fun c xs e=>b.tup c xs (a.tup c xs e)
 frz:=fun c o u e=>b.frz c o u (a.frz c o u e)
 new:=fun c hc=>by
  rcases b.new c hc with z|z
  ·exact a.new c z
  ·refine .inr ?_;cases e:H c with
   |none=>rfl
   |some o=>exact absurd z (a.there c (by rw[e];simp))
 there:=fun c h=>b.there c (a.there c h)
theorem iB.ext {M M' B:List Addr}{H H':Hp}(a:iB M H M' H'):jO M (M++B) H (M'++B) H' where
 sub:=fun b hb=>aV _ hb
 tup:=a.tup
 frz:=a.frz
 lst:=fun b xs n e=>a.keep b _ n e
 ext:=fun b φ n e=>a.keep b _ n e
 new:=fun b hb=>(List.mem_append.mp hb).elim (fun z=>(a.new b z).elim (fun q=>.inl (aV _ q)) .inr) fun z=>.inl (aO _ z)
def SR (K:Fg)(B:List Addr)(cM:Hp)(cT:List Addr)(cK:Nat->Addr)(ρ:Sl)(σ:St)(H:Hp):Prop:=∃M,iB cT cM M H/\(∀a∈M,a∉B)/\ER K H (M++B) M cK ρ σ
noncomputable def Du (K:Fg)(B:List Addr)(cM:Hp)(cT:List Addr)(H':Hp)(r:Vl)(v:V):Prop :=
 (∃M',iB cT cM M' H')/\((r.2=false/\R K H' B r.1 v)\/(r.2=true/\∃a ds vs,r.1=.list ds/\v=.ref a/\(a∈cT\/cM a=none)/\H' a=some (.lst vs)/\Rs K H' (a::B) ds vs))
noncomputable def Qc (K:Fg)(B:List Addr)(cM:Hp)(cT:List Addr)(cK:Nat->Addr)(E:kJ):Fl->Prop
 |.next ρ=>∀σ H,SR K B cM cT cK ρ σ H->E.nx σ H
 |.brk ρ=>∀σ H,SR K B cM cT cK ρ σ H->E.bk σ H
 |.cont ρ=>∀σ H,SR K B cM cT cK ρ σ H->E.ct σ H
 |.ret r=>∀v H,Du K B cM cT H r v->E.rt v H
noncomputable def uS (K:Fg)(B:List Addr)(cM:Hp)(cT:List Addr)(cK:Nat->Addr)(F:SD):TS:=fun E σ H=>∃ρ fl,SR K B cM cT cK ρ σ H/\F ρ=some fl/\Qc K B cM cT cK E fl
def DS (X:Cx)(st:Stmt)(F:SD):Prop:=∀B cM cT cK,PS X st (uS X.K B cM cT cK F)
def HX (X:Cx)(st:List Stmt)(F:SD):Prop:=∀B cM cT cK,PSs X st (uS X.K B cM cT cK F)
theorem mi {a b:Addr}{M B:List Addr}(h:a∈(b::M)++B):a=b\/a∈M++B:=by
 rw[W4] at h;exact List.mem_cons.mp h
theorem ER.set {K:Fg}{H H':Hp}{B M:List Addr}{cK:Nat->Addr}{ρ:Sl}{σ:St}{r:Vl}{v:V}(i:Nat)(h:ER K H (M++B) M cK ρ σ)(hB:∀a∈M,a∉B)(s:cY H H')(q:yl K H (M++B) H' r v) :
  ∃M',iB M H M' H'/\(∀a∈M',a∉B)/\ER K H' (M'++B) M' cK (ρ.set i (some r)) (σ.set i (some v)):=by
 have h':=h.same s;by_cases hi:i<ρ.length
 ·have xS:i<σ.length:=by rw[<-h.len];exact hi
  obtain⟨d,o⟩:=r;rcases q with ⟨e,q⟩|⟨e,a,ds,vs,e1,e2,e3,e4,q⟩
  ·cases e;have out:∀{j:Nat}{x:Vl},x.2=true->(ρ.set i (some (d,false)))[j]?=some (some x)->i≠j:=fun {j x} hx ej z=>by subst z;rw[aA hi] at ej;cases ej;cases hx
   refine⟨M,.same s,hB,⟨fun j d' ej=>?_,fun j d' ej=>?_,fun j d' ej=>?_,fun j k d' e' a e1 e2 e3 e4=>?_,h'.tr,h'.sub,by rw[aX,aX];exact h.len,h'.dp.go (.same (.refl _)) (fun j es ej=>?_) (fun b hb _=>⟨hb,fun _ e=>e⟩) fun j es c ej ec=>.inr ?_⟩⟩
   ·by_cases hj:i=j
    ·subst hj;rw[aA hi] at ej;cases ej;exact⟨v,aA xS,q⟩
    ·rw[aj hj] at ej ⊢;exact h'.sh j d' ej
   ·have hj:=out rfl ej;rw[aj hj] at ej ⊢;exact h'.ow j d' ej
   ·have hj:=out rfl ej;rw[aj hj] at ej ⊢;exact h'.le j d' ej
   ·have nj:=out rfl e1;have nk:=out rfl e2;rw[aj nj] at e1 e3;rw[aj nk] at e2 e4;exact h'.ap j k d' e' a e1 e2 e3 e4
   ·have nj:=out rfl ej;rw[aj nj] at ej;exact⟨ej,aj nj⟩
   ·have nj:=out rfl ej;rw[aj nj] at ej ec;exact⟨j,es,ej,ec⟩
  ·cases e;have MA:d=.list ds:=e1;subst MA e2;have x:jO [] (M++B) H ((a::M)++B) H':=jO.fresh s e3;have rF:∀b,b∈M++B->b≠a:=fun b hb z=>h.ne b hb (z▸e3);refine⟨a::M,⟨fun b o _ e=>s b o e,fun b _ e=>s b _ e,fun b _ _ e=>s b _ e,fun b hb=>(List.mem_cons.mp hb).elim (fun z=>.inr (z▸e3)) .inl,(iB.same (M:=M) s).there⟩,fun b hb=>(List.mem_cons.mp hb).elim (fun z Sz=>h.ne a (aO _ (z▸Sz)) e3) (hB b),
    ⟨fun j d' ej=>?_,fun j d' ej=>?_,fun j d' ej=>?_,fun j k d' e' b e1 e2 NB NA=>?_,fun b hb=>?_,fun b hb=>?_,by rw[aX,aX];exact h.len,h.dp.go x (fun j es ej=>?_) (fun b hb _=>⟨aG _ hb,fun _ e=>s _ _ e⟩) fun j es c ej ec=>?_⟩⟩
   ·by_cases hj:i=j
    ·subst hj;rw[aA hi] at ej;cases ej
    ·rw[aj hj] at ej ⊢;obtain⟨w,e5,q5⟩:=h.sh j d' ej;exact⟨w,e5,q5.ext x⟩
   ·by_cases hj:i=j
    ·subst hj;rw[aA hi] at ej;cases ej;exact⟨a,vs,aA xS,e4,aP,q⟩
    ·rw[aj hj] at ej ⊢;obtain⟨b,us,e6,e7,e8,q5⟩:=h.ow j d' ej;exact⟨b,us,e6,s _ _ e7,aG _ e8,q5.ext x⟩
   ·have hj:i≠j:=fun z=>by subst z;rw[aA hi] at ej;cases ej
    rw[aj hj] at ej ⊢;obtain⟨e6,us,e7,e8,e9,q5⟩:=h.le j d' ej;exact⟨e6,us,s _ _ e7,aG _ e8,fun z=>(List.mem_cons.mp z).elim (fun z=>rF _ e8 z) e9,q5.ext x⟩
   ·by_cases hj:i=j
    ·subst hj;by_cases hk:i=k
     ·exact hk
     ·rw[aA xS] at NB;cases NB;rw[aj hk] at e2 NA;obtain⟨b,us,e6,e7,e8,q5⟩:=h.ow k e' e2;rw[NA] at e6;cases e6;exact absurd rfl (rF _ (aV _ e8))
    ·by_cases hk:i=k
     ·subst hk;rw[aA xS] at NA;cases NA;rw[aj hj] at e1 NB;obtain⟨b,us,e6,e7,e8,q5⟩:=h.ow j d' e1;rw[NB] at e6;cases e6;exact absurd rfl (rF _ (aV _ e8))
     ·rw[aj hj] at e1 NB;rw[aj hk] at e2 NA;exact h'.ap j k d' e' b e1 e2 NB NA
   ·rcases mi hb with z|z
    ·subst z;exact⟨.inl vs,e4⟩
    ·exact h'.tr b z
   ·rcases List.mem_cons.mp hb with z|z
    ·subst z;exact aV _ aP
    ·exact aV _ (aG _ z)
   ·have nj:i≠j:=fun z=>by subst z;rw[aA hi] at ej;cases ej
    rw[aj nj] at ej;exact⟨ej,aj nj⟩
   ·by_cases hj:i=j
    ·subst hj;rw[aA xS] at ec;cases ec;exact .inl fun z=>rF _ (aV _ z) rfl
    ·rw[aj hj] at ej ec;exact .inr ⟨j,es,ej,ec⟩
 ·refine⟨M,.same s,hB,?_⟩;rw[W6 ⋯,W6 (by rw[<-h.len];omega)];exact h'
section
variable {X:Cx}{e a b c:Expr}{es:List Expr}{f g:ED}{fb gb hb:BD}{t u:TD}{pos:Pos}{st:Stmt}{gm FJ:List Stmt}{F G:SD}
theorem gi:HX X [] gH:=fun B cM cT cK=>L2.pss_nil.imp fun E σ H zz=>by
 obtain ⟨ρ,fl,hR,hf,k⟩:=zz;cases hf;exact k σ H hR
theorem cu (h1:DS X st F)(h2:HX X gm G):HX X (st::gm) (cI F G):=fun B cM cT cK=>(L2.pss_cons (h1 B cM cT cK) (h2 B cM cT cK)).imp fun E σ H zz=>by
 obtain ⟨ρ,fl,hR,hf,k⟩:=zz;unfold cI at hf;obtain⟨xW,hx,hf⟩:=Option.bind_eq_some_iff.mp hf;refine⟨ρ,xW,hR,hx,?_⟩;cases xW with
 |next de=>exact fun eX H' r=>⟨de,fl,r,hf,k⟩
 |ret r=>cases hf;exact k
 |brk de=>cases hf;exact k
 |cont de=>cases hf;exact k
theorem cA (h1:DS X st F):HX X [st] F:=fun B cM cT cK=>L2.pss_one (h1 B cM cT cK)
theorem jV (hc:DT X c t)(ha:HX X FJ F)(hb:HX X gm G):DS X (.If c FJ gm pos) (kK t F G):=fun B cM cT cK=>(L2.ps_if hc (ha B cM cT cK) (hb B cM cT cK)).imp fun E σ H zz=>by
 obtain ⟨ρ,fl,⟨M,hx,hB,hE⟩,hf,k⟩:=zz;unfold kK at hf;obtain⟨c,ht,hf⟩:=Option.bind_eq_some_iff.mp hf;refine⟨ρ,_,M,cK,c,hE,ht,fun H1 s1=>?_⟩;have hR:SR X.K B cM cT cK ρ σ H1:=⟨M,hx.trans (.same s1),hB,hE.same s1⟩;cases c with
 |true=>dsimp only at hf ⊢;rw[if_pos rfl] at hf ⊢;exact⟨ρ,fl,hR,hf,k⟩
 |false=>dsimp only at hf ⊢;rw[if_neg Bool.false_ne_true] at hf ⊢;exact⟨ρ,fl,hR,hf,k⟩
theorem Cv {i:Nat}{B:List Addr}{cM:Hp}{cT:List Addr}{cK:Nat->Addr}{E:kJ}{σ:St}{H:Hp}(h:uS X.K B cM cT cK (cH i f) E σ H):L2.tAsg (uE X.K f) (L2.gName i) E σ H:=by
 obtain⟨ρ,fl,⟨M,hx,hB,hE⟩,hf,k⟩:=h;unfold cH at hf;obtain⟨r,hr,hf⟩:=Option.bind_eq_some_iff.mp hf;cases hf;refine⟨ρ,_,M,cK,r,hE,hr,fun v H1 s1 q1=>?_⟩;obtain⟨M',x',B',E'⟩:=hE.set i hB s1 q1;exact k _ _ ⟨M',hx.trans x',B',E'⟩
theorem cS {i:Nat}{x:Str}{pos':Pos}(hN:X.N.Nodup)(he:DE X e f)(hi:X.N[i]?=some x:=by rfl)(hx:L2.Loc X.env.scope x:=by first|exact Or.inl rfl|exact Or.inr rfl)(hs:swapsWith e (some (.Name x pos')) pos.line X.env=pure false:=by rfl)(hf:X.fn x=true\/X.env.scope.names.lookup x=some .local:=by first|exact .inl rfl|exact .inr rfl|assumption) :
  DS X (.Assign [.Name x pos'] e pos) (cH i f):=fun B cM cT cK=>(L2.ps_set hN hi hx he hs hf).imp fun E σ H h=>Cv h
theorem fc (he:DE X e f):DS X (.Return (some e) pos) (fi f):=fun B cM cT cK=>(L2.ps_ret he).imp fun E σ H zz=>by
 obtain ⟨ρ,fl,⟨M,hx,hB,hE⟩,hf,k⟩:=zz;unfold fi at hf;cases hr:f ρ with
 |none=>rw[hr] at hf;cases hf
 |some r =>
  rw[hr,au] at hf;cases hf;refine⟨ρ,_,M,cK,r,hE,hr,fun v H1 s1 q1=>k v H1 ⟨⟨M,hx.trans (.same s1)⟩,?_⟩⟩;rcases q1 with ⟨e,q⟩|⟨e,a,ds,vs,e1,e2,e3,e4,q⟩
  ·exact .inl ⟨e,q.ext (.less fun b hb=>aO _ hb)⟩
  ·refine .inr ⟨e,a,ds,vs,e1,e2,.inr ?_,e4,q.ext (.less fun b hb=>(List.mem_cons.mp hb).elim (fun z=>z▸aP) fun z=>aG _ (aO _ z))⟩;cases e5:cM a with
   |none=>rfl
   |some o=>exact absurd e3 (hx.there a (by rw[e5];simp))
theorem jv (i:Nat){x:Str}{pos':Pos}(hN:X.N[i]?=some x:=by rfl)(hv:L2.Vis X.env.scope x:=by first|exact Or.inl rfl|exact Or.inr (Or.inl rfl)|exact Or.inr (Or.inr rfl))(hd:(x==("__debug__" : Str))=false:=by decide)
  (n5:(x==("__classdict__" : Str))=false:=by decide):DS X (.Return (some (.Name x pos')) pos) (ko i):=fun B cM cT cK=>(L2.ps_ret (L2.pe_var hN hv hd n5)).imp fun E σ H zz=>by
 obtain ⟨ρ,fl,⟨M,hx,hB,hE⟩,hf,k⟩:=zz;unfold ko at hf;split at hf
 ·rename_i d hr;cases hf;obtain⟨v,e1,q⟩:=hE.sh i _ hr;exact⟨v,e1,k v H ⟨⟨M,hx⟩,.inl ⟨rfl,q.ext (.less fun b hb=>aO _ hb)⟩⟩⟩
 ·rename_i ds hr;cases hf;obtain⟨a,vs,e2,e3,e4,q⟩:=hE.ow i _ hr;exact⟨_,e2,k _ H ⟨⟨M,hx⟩,.inr ⟨rfl,a,ds,vs,rfl,rfl,hx.new a e4,e3,q.ext (.less fun b hb=>(List.mem_cons.mp hb).elim (fun z=>z▸aV _ e4) fun z=>aO _ z)⟩⟩⟩
 ·cases hf
theorem ER.share {K:Fg}{H:Hp}{B M:List Addr}{cK:Nat->Addr}{ρ:Sl}{σ:St}(i:Nat)(h:ER K H (M++B) M cK ρ σ)(hB:∀a∈M,a∉B):∃M',(∀a∈M',a∈M)/\ER K H (M'++B) M' cK (share i ρ) σ:=by
 unfold DL.share;split
 ·rename_i ds hr;have hi:i<ρ.length:=(List.getElem?_eq_some_iff.mp hr).1;obtain⟨a,vs,e2,e3,e4,q⟩:=h.ow i _ hr;have sub:∀b∈M.filter (fun b=>decide (b≠a))++B,b∈M++B:=fun b hb=>(List.mem_append.mp hb).elim (fun z=>aV _ (List.mem_filter.mp z).1) fun z=>aO _ z;have out:∀{j:Nat}{x:Vl},x.2=true->(ρ.set i (some (.list ds,false)))[j]?=some (some x)->i≠j:=fun {j x} hx ej z=>by subst z;rw[aA hi] at ej;cases ej;cases hx
  refine⟨M.filter (fun b=>decide (b≠a)),fun b hb=>(List.mem_filter.mp hb).1,⟨fun j d' ej=>?_,fun j d' ej=>?_,fun j d' ej=>?_,fun j k d' e' b e5 e6 e7 e8=>?_,fun b hb=>h.tr b (sub b hb),fun b hb=>aV _ hb,by rw[aX];exact h.len,h.dp.go (.less sub) (fun j es ej=>?_) (fun b hb nb=>⟨List.mem_filter.mpr ⟨hb,decide_eq_true fun z=>nb i _ hr (by rw[z];exact e2)⟩,fun _ e=>e⟩) fun j es c ej ec=>.inr ?_⟩⟩
  ·by_cases hj:i=j
   ·subst hj;rw[aA hi] at ej;cases ej;refine⟨_,e2,.list (.inl ⟨e3,fun z=>?_⟩) (q.ext (.less sub))⟩;rcases List.mem_append.mp z with z|z
    ·exact absurd rfl (of_decide_eq_true (List.mem_filter.mp z).2)
    ·exact hB a e4 z
   ·rw[aj hj] at ej;obtain⟨v,e5,q5⟩:=h.sh j d' ej;exact⟨v,e5,q5.ext (.less sub)⟩
  ·have hj:=out rfl ej;rw[aj hj] at ej;obtain⟨b,us,e6,e7,e8,q5⟩:=h.ow j d' ej;refine⟨b,us,e6,e7,List.mem_filter.mpr ⟨e8,decide_eq_true fun z=>?_⟩,q5.ext (.less sub)⟩;subst z;exact hj (h.ap i j _ d' b hr ej e2 e6)
  ·have hj:=out rfl ej;rw[aj hj] at ej;obtain⟨e6,us,e7,e8,e9,q5⟩:=h.le j d' ej;refine⟨e6,us,e7,?_,fun z=>e9 (List.mem_filter.mp z).1,q5.ext (.less sub)⟩;exact (List.mem_append.mp e8).elim (fun z=>absurd z e9) fun z=>aO _ z
  ·have nj:=out rfl e5;have nk:=out rfl e6;rw[aj nj] at e5;rw[aj nk] at e6;exact h.ap j k d' e' b e5 e6 e7 e8
  ·have nj:=out rfl ej;rw[aj nj] at ej;exact⟨ej,rfl⟩
  ·have nj:=out rfl ej;rw[aj nj] at ej;exact⟨j,es,ej,ec⟩
 ·exact⟨M,fun _ h=>h,h⟩
theorem SR.share {K:Fg}{B:List Addr}{cM:Hp}{cT:List Addr}{cK:Nat->Addr}{ρ:Sl}{σ:St}{H:Hp}(i:Nat)(h:SR K B cM cT cK ρ σ H):SR K B cM cT cK (DL.share i ρ) σ H:=by
 obtain⟨M,hx,hB,hE⟩:=h;obtain⟨M',sub,E'⟩:=hE.share i hB;exact⟨M',⟨hx.keep,hx.tup,hx.frz,fun b hb=>hx.new b (sub b hb),hx.there⟩,fun a ha=>hB a (sub a ha),E'⟩
theorem Hl (i:Nat)(h:DS X st F):DS X st (qI i F):=fun B cM cT cK=>(h B cM cT cK).imp fun E σ H ⟨ρ,fl,hR,hf,k⟩=>⟨_,fl,hR.share i,hf,k⟩
theorem ER.mut {K:Fg}{H:Hp}{B M:List Addr}{cK:Nat->Addr}{ρ:Sl}{σ:St}{i:Nat}{ds EM:List D}{a:Addr}{Dx:List V}(h:ER K H (M++B) M cK ρ σ)(hr:ρ[i]?=some (some (.list ds,true)))(Qw:σ[i]?=some (some (.ref a)))(q:Rs K H (M++B) EM Dx) :
  iB M H M (eF H a (.lst Dx))/\ER K (eF H a (.lst Dx)) (M++B) M cK (ρ.set i (some (.list EM,true))) σ:=by
 obtain⟨a',us,e2,e3,e4,q0⟩:=h.ow i _ hr;rw[Qw] at e2;cases e2;have hi:i<ρ.length:=(List.getElem?_eq_some_iff.mp hr).1;have x:iB M H M (eF H a (.lst Dx)):=by
  refine⟨fun b o n e=>?_,fun b xs e=>?_,fun b o u e=>?_,fun b hb=>.inl hb,fun b hb=>?_⟩
  ·rw[cC (fun (z:b=a)=>n (by rw[z];exact e4))];exact e
  ·rw[cC (fun z=>by subst z;rw[e3] at e;cases e)];exact e
  ·rw[cC (fun z=>by subst z;rw[e3] at e;cases e)];exact e
  ·by_cases hz:b=a
   ·subst hz;rw[cN];simp
   ·rw[cC hz];exact hb
 have x':jO M (M++B) H (M++B) (eF H a (.lst Dx)):=x.ext;refine⟨x,⟨fun j d' ej=>?_,fun j d' ej=>?_,fun j d' ej=>?_,fun j k d' e' b e5 e6 e7 e8=>?_,fun b hb=>?_,h.sub,by rw[aX];exact h.len,h.dp.go x' (fun j es ej=>?_) (fun b hb nb=>⟨hb,fun _ e=>by rw[cC (fun (z:b=a)=>nb i _ hr (by rw[z];exact Qw))];exact e⟩) fun j es c ej ec=>.inr ?_⟩⟩
 ·have nj:i≠j:=fun z=>by subst z;rw[aA hi] at ej;cases ej
  rw[aj nj] at ej;obtain⟨v,e5,q5⟩:=h.sh j d' ej;exact⟨v,e5,q5.ext x'⟩
 ·by_cases hj:i=j
  ·subst hj;rw[aA hi] at ej;cases ej;exact⟨a,Dx,Qw,cN,e4,q.ext x'⟩
  ·rw[aj hj] at ej;obtain⟨b,Cj,e6,e7,e8,q5⟩:=h.ow j d' ej;refine⟨b,Cj,e6,?_,e8,q5.ext x'⟩;rw[cC (fun (z:b=a)=>hj (h.ap i j _ d' b hr ej (by rw[z];exact Qw) e6))];exact e7
 ·have nj:i≠j:=fun z=>by subst z;rw[aA hi] at ej;cases ej
  rw[aj nj] at ej;obtain⟨e6,Cj,e7,e8,e9,q5⟩:=h.le j d' ej;refine⟨e6,Cj,?_,e8,e9,q5.ext x'⟩;rw[cC (fun (z:cK j=a)=>e9 (by rw[z];exact e4))];exact e7
 ·by_cases hj:i=j
  ·by_cases hk:i=k
   ·exact hj.symm.trans hk
   ·subst hj;rw[aj hk] at e6;exact h.ap i k _ e' b hr e6 e7 e8
  ·rw[aj hj] at e5;by_cases hk:i=k
   ·subst hk;exact h.ap j i d' _ b e5 hr e7 e8
   ·rw[aj hk] at e6;exact h.ap j k d' e' b e5 e6 e7 e8
 ·by_cases hz:b=a
  ·subst hz;exact⟨.inl Dx,cN⟩
  ·rw[cC hz];exact h.tr b hb
 ·have nj:i≠j:=fun z=>by subst z;rw[aA hi] at ej;cases ej
  rw[aj nj] at ej;exact⟨ej,rfl⟩
 ·by_cases hj:i=j
  ·subst hj;exact⟨i,ds,hr,ec⟩
  ·rw[aj hj] at ej;exact⟨j,es,ej,ec⟩
theorem qJ {i:Nat}{h:List D->Option (List D)}{ρ:Sl}{fl:Fl}(e:lN i h ρ=some fl):∃xs ys,ρ[i]?=some (some (.list xs,true))/\h xs=some ys/\fl=.next (ρ.set i (some (.list ys,true))):=by
 unfold lN at e;split at e
 ·rename_i xs hr;cases hy:h xs with
  |none=>rw[hy] at e;cases e
  |some ys =>
   rw[hy] at e;cases e;exact⟨xs,ys,hr,hy,rfl⟩
 ·cases e
theorem gL {i:Nat}{x:Str}{p1 p2 p3:Pos}(he:DE X e f)(hN:X.N[i]?=some x:=by rfl)(hv:L2.Vis X.env.scope x:=by first|exact Or.inl rfl|exact Or.inr (Or.inl rfl)|exact Or.inr (Or.inr rfl))(hd:(x==("__debug__" : Str))=false:=by decide)
  (n5:(x==("__classdict__" : Str))=false:=by decide)
  (Nm:starEach [e] X.env=[(false,eval e X.env)]:=by rfl)
  (pV:attributeBase (.Name x p1) "append" X.env (eval (.Name x p1) X.env)=eval (.Name x p1) X.env:=by rfl)
  (Bg:((backTo p3 (starEach [e] X.env)).all (fun x=>!x.1)&&(backToKw p3 (keywordEach [] X.env)).all (fun x=>x.1.isSome)&&decide ([e].length+([]:List Keyword).length+(if ([]:List Keyword).isEmpty then 0 else 1)<30))=true:=by rfl)
  (pU:(p2.endLine==p3.line)=true:=by rfl) (hs:starEach [e] X.env=(false,eval e X.env)::starEach [] X.env:=by rfl) (oR:(backTo p3 (starEach [] X.env)).any (·.1)=false:=by rfl)
  (Ml:swapsWith (.Call (.Attribute (.Name x p1) "append" p2) [e] [] p3) none pos.line X.env=pure false:=by rfl) :
  DS X (.Expr (.Call (.Attribute (.Name x p1) "append" p2) [e] [] p3) pos) (gv i f):=fun B cM cT cK =>
 (L2.ps_expr (L2.pe_bm PySem.F.plainAttrs_list PySem.F.slot_list_append PySem.F.type_list_append L2.mt_append (L2.pe_var hN hv hd n5) (b7 he cz hs) pV Bg pU hs oR) Ml).imp fun E σ H zz=>by
  obtain ⟨ρ,fl,⟨M,hx,hB,hE⟩,hf,k⟩:=zz;unfold gv at hf;obtain⟨r,hr,hf⟩:=Option.bind_eq_some_iff.mp hf;obtain⟨xs,ys,hi,hy,rfl⟩:=qJ hf;split at hy
  ·rename_i hz;cases hy;obtain⟨a,vs,e2,e3,e4,q⟩:=hE.ow i _ hi;refine⟨_,e2,.inl ⟨rfl,vs,.inl (.inl e3)⟩,ρ,_,M,cK,[r.1],hE,by unfold b6;rw[hr];rfl,fun us H2 s2 q2=>?_⟩;cases q2 with
   |cons qy qn =>
    cases qn;have E2:=hE.same s2;have l:=q.length;refine⟨a,vs,_,rfl,rfl,s2 _ _ e3,by omega,?_⟩;obtain⟨x',E'⟩:=E2.mut hi e2 ((q.same s2).append (.cons qy .nil));exact k _ _ ⟨M,(hx.trans (.same s2)).trans x',hB,E'⟩
  ·cases hy
theorem Bw {i:Nat}{x:Str}{p1 p2 p3:Pos}(he:DE X e f)(hN:X.N[i]?=some x:=by rfl)(hv:L2.Vis X.env.scope x:=by first|exact Or.inl rfl|exact Or.inr (Or.inl rfl)|exact Or.inr (Or.inr rfl))(hd:(x==("__debug__" : Str))=false:=by decide)
  (n5:(x==("__classdict__" : Str))=false:=by decide)
  (pV:attributeBase (.Name x p1) "extend" X.env (eval (.Name x p1) X.env)=eval (.Name x p1) X.env:=by rfl)
  (Bg:((backTo p3 (starEach [e] X.env)).all (fun x=>!x.1)&&(backToKw p3 (keywordEach [] X.env)).all (fun x=>x.1.isSome)&&decide ([e].length+([]:List Keyword).length+(if ([]:List Keyword).isEmpty then 0 else 1)<30))=true:=by rfl)
  (pU:(p2.endLine==p3.line)=true:=by rfl) (hs:starEach [e] X.env=(false,eval e X.env)::starEach [] X.env:=by rfl) (oR:(backTo p3 (starEach [] X.env)).any (·.1)=false:=by rfl)
  (Ml:swapsWith (.Call (.Attribute (.Name x p1) "extend" p2) [e] [] p3) none pos.line X.env=pure false:=by rfl) :
  DS X (.Expr (.Call (.Attribute (.Name x p1) "extend" p2) [e] [] p3) pos) (xc i f):=fun B cM cT cK =>
 (L2.ps_expr (L2.pe_bm PySem.F.plainAttrs_list PySem.F.slot_list_extend PySem.F.type_list_extend L2.mt_extend (L2.pe_var hN hv hd n5) (L2.pa_cons he L2.pa_nil hs) pV Bg pU hs oR) Ml).imp fun E σ H zz=>by
  obtain ⟨ρ,fl,⟨M,hx,hB,hE⟩,hf,k⟩:=zz;unfold xc at hf;obtain⟨r,hr,hf⟩:=Option.bind_eq_some_iff.mp hf;split at hf
  ·rename_i zs;obtain⟨xs,ys,hi,hy,rfl⟩:=qJ hf;split at hy
   ·rename_i hz;cases hy;obtain⟨a,vs,e2,e3,e4,q⟩:=hE.ow i _ hi;refine⟨_,e2,.inl ⟨rfl,vs,.inl (.inl e3)⟩,ρ,_,M,cK,_,hE,hr,fun u H2 s2 q2=>?_⟩;rcases q2 with ⟨z,_⟩|⟨_,b,es',us,e5,e6,e7,e8,q3⟩
    ·cases z
    ·cases e5;have E2:=hE.same s2;have l:=q.length;have l3:=q3.length;refine⟨a,b,vs,us,rfl,by rw[e6],s2 _ _ e3,e8,by omega,?_⟩;obtain⟨x',E'⟩:=E2.mut hi e2 ((q.same s2).append (q3.ext (.less fun c hc=>aG _ hc)));exact k _ _ ⟨M,(hx.trans (.same s2)).trans x',hB,E'⟩
   ·cases hy
  ·cases hf
theorem MB {i:Nat}{x:Str}{p1 p2:Pos}{kx:ED}{ke:Expr}(hk:DE X ke kx)(he:DE X e f)(hN:X.N[i]?=some x:=by rfl)(hv:L2.Vis X.env.scope x:=by first|exact Or.inl rfl|exact Or.inr (Or.inl rfl)|exact Or.inr (Or.inr rfl))(hd:(x==("__debug__" : Str))=false:=by decide)
  (n5:(x==("__classdict__" : Str))=false:=by decide)
  (ha:∀v,assign (.Subscript (.Name x p1) ke p2) X.env v=(do
   let ov <-holding [v] (eval (.Name x p1) X.env)
   let iv <-holding [v,ov] (eval ke X.env)
   standAt p2
   holding [v,ov,iv] (setItem ov iv v)
   release [v,ov,iv] []):=by intro _;rfl)
  (hs:swapsWithSole [.Subscript (.Name x p1) ke p2] e pos.line X.env=pure false:=by rfl) (hw:swappedStores [.Subscript (.Name x p1) ke p2] e X.env=pure none:=by rfl)
  (h1:(assignEach [.Subscript (.Name x p1) ke p2] X.env).map (·.2)=[assign (.Subscript (.Name x p1) ke p2) X.env]:=by rfl) :
  DS X (.Assign [.Subscript (.Name x p1) ke p2] e pos) (IU i kx f):=fun B cM cT cK =>
 (L2.ps_asg he (L2.pg_sub (L2.pe_var hN hv hd n5) hk L2.set_list ha) hs hw h1).imp fun E σ H zz=>by
  obtain ⟨ρ,fl,⟨M,hx,hB,hE⟩,hf,k⟩:=zz;unfold IU at hf;obtain⟨r,hr,hf⟩:=Option.bind_eq_some_iff.mp hf;obtain⟨y,hy,hf⟩:=Option.bind_eq_some_iff.mp hf;obtain⟨j,hj,hf⟩:=Option.bind_eq_some_iff.mp hf;obtain⟨xs,ys,hi,hp,rfl⟩:=qJ hf;cases hq:yu xs.length j with
  |none=>rw[hq] at hp;cases hp
  |some p =>
   rw[hq,au] at hp;cases hp;obtain⟨a,vs,e2,e3,e4,q⟩:=hE.ow i _ hi;refine⟨ρ,_,M,cK,r,hE,hr,fun v H1 s1 q1=>⟨_,e2,ρ,_,M,cK,y,hE.same s1,hy,fun u H2 s2 q2=>?_⟩⟩;have hint:y.1=.int j:=by
    cases Vg:y.1 <;> rw[Vg] at hj <;> first|(cases hj;rfl)|cases hj
   have hu:u=.int j:=by
    have:=q2.toR (hE.same s1).ne;rw[hint] at this;cases this;rfl
   have l:=q.length;have E2:=(hE.same s1).same s2;refine⟨a,vs,j,p,rfl,hu,s2 _ _ (s1 _ _ e3),by rw[<-l];exact hq,?_⟩;obtain⟨x',E'⟩:=E2.mut hi e2 (((q.same s1).same s2).set ((q1.toR hE.ne).same s2) p);exact k _ _ ⟨M,(hx.trans (.same (s1.trans s2))).trans x',hB,E'⟩
theorem wb {ρ:Sl}(h:jc ρ=true){j:Nat}{xs:List D}(e:ρ[j]?=some (some (iP xs,true))):False:=by
 unfold jc at h;rw[WS] at h;have:=h _ (aF e);simp[iP] at this
end
theorem _root_.L2.PG.imp {X:Cx}{e:Expr}{t t':TG}(h:PG X e t)(i:∀v σ H Q,t' v σ H Q->t v σ H Q):PG X e t':=fun pins s σ H v u Q I r q=>h pins s σ H v u Q I r (i v σ H Q q)
theorem _root_.L2.PGs.imp {X:Cx}{e:List Expr}{t t':L2.TGs}(h:L2.PGs X e t)(i:∀v σ H Q,t' v σ H Q->t v σ H Q):L2.PGs X e t':=fun pins s σ H v u Q I r q=>h pins s σ H v u Q I r (i v σ H Q q)
theorem _root_.L2.PI.imp {X:Cx}{tg e:Expr}{t t':TI}(h:PI X tg e t)(i:∀σ H Q,t' σ H Q->t σ H Q):PI X tg e t':=fun pins s σ H R I q=>h pins s σ H R I (i σ H R q)
theorem _root_.L2.PTs.imp {X:Cx}{es:List Expr}{t t':TT}(h:L2.PTs X es t)(i:∀σ H Q,t' σ H Q->t σ H Q):L2.PTs X es t':=fun pins s σ H Q I q=>h pins s σ H Q I (i σ H Q q)
theorem ER.Q7 {K:Fg}{H:Hp}{O M:List Addr}{cK:Nat->Addr}{ρ:Sl}{σ:St}{d:D}{v:V}(i:Nat)(h:ER K H O M cK ρ σ)(q:R K H O d v):ER K H O M cK (ρ.set i (some (d,false))) (σ.set i (some v)):=by
 by_cases hi:i<ρ.length
 ·have xS:i<σ.length:=by rw[<-h.len];exact hi
  have out:∀{j:Nat}{x:Vl},x.2=true->(ρ.set i (some (d,false)))[j]?=some (some x)->i≠j:=fun {j x} hx ej z=>by subst z;rw[aA hi] at ej;cases ej;cases hx
  refine⟨fun j d' ej=>?_,fun j d' ej=>?_,fun j d' ej=>?_,fun j k d' e' a e1 e2 e3 e4=>?_,h.tr,h.sub,by rw[aX,aX];exact h.len,h.dp.go (.same (.refl _)) (fun j es ej=>?_) (fun b hb _=>⟨hb,fun _ e=>e⟩) fun j es c ej ec=>.inr ?_⟩
  ·by_cases hj:i=j
   ·subst hj;rw[aA hi] at ej;cases ej;exact⟨v,aA xS,q⟩
   ·rw[aj hj] at ej ⊢;exact h.sh j d' ej
  ·have hj:=out rfl ej;rw[aj hj] at ej ⊢;exact h.ow j d' ej
  ·have hj:=out rfl ej;rw[aj hj] at ej ⊢;exact h.le j d' ej
  ·have nj:=out rfl e1;have nk:=out rfl e2;rw[aj nj] at e1 e3;rw[aj nk] at e2 e4;exact h.ap j k d' e' a e1 e2 e3 e4
  ·have nj:=out rfl ej;rw[aj nj] at ej;exact⟨ej,aj nj⟩
  ·have nj:=out rfl ej;rw[aj nj] at ej ec;exact⟨j,es,ej,ec⟩
 ·rw[W6 ⋯,W6 (by rw[<-h.len];omega)];exact h
noncomputable def uG (K:Fg)(g:GD):TG:=fun v σ H Q=>∃ρ O M cK d de,ER K H O M cK ρ σ/\R K H O d v/\g d ρ=some de/\∀eX H',cY H H'->ER K H' O M cK de eX->Q eX H'
noncomputable def UG (K:Fg)(gs:List GD):L2.TGs:=fun vs σ H Q=>∃ρ O M cK ds de,ER K H O M cK ρ σ/\Rs K H O ds vs/\pX gs ds ρ=some de/\∀eX H',cY H H'->ER K H' O M cK de eX->Q eX H'
def DG (X:Cx)(tg:Expr)(g:GD):Prop:=PG X tg (uG X.K g)
def QK (X:Cx)(ts:List Expr)(gs:List GD):Prop:=L2.PGs X ts (UG X.K gs)
section
variable {X:Cx}{e a b c tg iter elt:Expr}{es:List Expr}{f g:ED}{t u:TD}{pos:Pos}{st:Stmt}{gm FJ body:List Stmt}{F G:SD}{it:AD}{gd:GD}{gs:List GD}
theorem cB {i:Nat}{x:Str}(hN:X.N.Nodup)(hi:X.N[i]?=some x:=by rfl)(hx:L2.Loc X.env.scope x:=by first|exact Or.inl rfl|exact Or.inr rfl)(hf:X.fn x=true\/X.env.scope.names.lookup x=some .local:=by first|exact .inl rfl|exact .inr rfl|assumption):DG X (.Name x pos) (gN i) :=
 (L2.pg_name hN hi hx hf).imp fun v σ H Q zz=>by
  obtain ⟨ρ,O,M,cK,d,de,hE,q,hg,k⟩:=zz;cases hg;exact k _ _ (.refl H) (hE.Q7 i q)
theorem eY:QK X [] []:=L2.pgs_nil.imp fun vs σ H Q zz=>by
 obtain ⟨ρ,O,M,cK,ds,de,hE,q,hg,k⟩:=zz;cases q with
 |nil =>
  cases hg;exact⟨rfl,k _ _ (.refl H) hE⟩
 |cons _ _=>cases hg
theorem cQ (h1:DG X e gd)(h2:QK X es gs)(hs:(assignEach (e::es) X.env).map (·.2)=assign e X.env::(assignEach es X.env).map (·.2):=by rfl):QK X (e::es) (gd::gs):=(L2.pgs_cons h1 h2 hs).imp fun vs σ H Q zz=>by
 obtain ⟨ρ,O,M,cK,ds,de,hE,q,hg,k⟩:=zz;cases q with
 |nil=>cases hg
 |@cons d v ds vs q qs =>
  unfold pX at hg;obtain⟨gE,hx,hg⟩:=Option.bind_eq_some_iff.mp hg;exact⟨v,vs,rfl,ρ,O,M,cK,d,gE,hE,q,hx,fun Lf H1 s1 E1=>⟨gE,O,M,cK,ds,de,E1,qs.same s1,hg,fun sg H2 s2 E2=>k sg H2 (s1.trans s2) E2⟩⟩
theorem zO:∀{gs:List GD}{ds:List D}{ρ de:Sl},pX gs ds ρ=some de->ds.length=gs.length
 |[],[],_,_,_=>rfl
 |[],_::_,_,_,h=>by cases h
 |_::_,[],_,_,h=>by cases h
 | g::gs,d::ds,ρ,de,h=>by
  unfold pX at h;obtain⟨gE,hx,h⟩:=Option.bind_eq_some_iff.mp h;rw[aJ,aJ,zO h]
theorem f6 {k:Nat}(hc:X.calm=true)(h:QK X es gs)(hn:(assignEach es X.env).length=gs.length:=by rfl)(GY:(assignEach es X.env).findIdx? (·.1)=none:=by rfl):DG X (.Tuple es k pos) (gT gs):=(L2.pg_tup hc h hn GY).imp fun v σ H Q zz=>by
 obtain ⟨ρ,O,M,cK,d,de,hE,q,hg,k⟩:=zz;unfold gT at hg;split at hg
 ·rename_i ds;cases q with
  |tuple ha qs=>exact⟨_,_,rfl,ha,by rw[<-qs.length];exact zO hg,ρ,O,M,cK,ds,de,hE,qs,hg,k⟩
 ·cases hg
def nG (K:Fg)(J:It)(ds:List D)(M O:List Addr)(H':Hp):Prop:=∀(Ur:List Addr) (Qa:Hp),jO M O H' Ur Qa →
 (∀(i:Nat) (d:D),ds[i]?=some d->J.go i Qa/\∀x H3,J.NO i Qa x H3->cY Qa H3/\R K H3 Ur d x)/\J.stop ds.length Qa
noncomputable def uI (K:Fg)(it:AD):TI:=fun σ H Q=>∃ρ O M cK ds,ER K H O M cK ρ σ/\it ρ=some ds/\∀J H',cY H H'->nG K J ds M O H'->Q J H'
def DI (X:Cx)(tg e:Expr)(it:AD):Prop:=PI X tg e (uI X.K it)
def WE (kd:Bool)(K:Fg)(H:Hp)(a:Addr)(xs:List V):Prop:=if kd=true then jT K H a xs else jN K H a xs
def QR (K:Fg)(M O:List Addr)(H:Hp)(ds:List D)(v:V)(kd:Bool):Prop:=∃a vs,v=.ref a/\Rs K H O ds vs/\∀O' H',jO M O H O' H'->WE kd K H' a vs
noncomputable def uQ (K:Fg)(f:AD):TE:=fun σ H Q=>∃ρ O M cK ds,ER K H O M cK ρ σ/\f ρ=some ds/\∀v H' kd,cY H H'->QR K M O H' ds v kd->Q v H'
theorem jO.id (M O:List Addr)(H:Hp)(h:∀b∈M,b∈O):jO M O H O H:=⟨fun _ _ e=>e,fun _ _ _ e=>e,fun _ _ _ e=>e,fun _ _ _ e=>e,fun _ h=>.inl h,h⟩
theorem R.qr {K:Fg}{H:Hp}{M O:List Addr}{d:D}{v:V}{ds:List D}(q:R K H O d v)(h:dM d=some ds):∃kd,QR K M O H ds v kd:=by
 cases q with
 |tuple ha qs =>
  cases h;exact⟨false,_,_,rfl,qs,fun _ _ x=>jN.ext x ha⟩
 |list ha qs =>
  cases h;exact⟨true,_,_,rfl,qs,fun _ _ x=>(ha.ext x).sq⟩
 |_=>cases h
def DQ (X:Cx)(e:Expr)(f:AD):Prop:=PE X e (uQ X.K f)
theorem iu (h:DE X e f):DQ X e (gS f):=h.imp fun σ H Q zz=>by
 obtain ⟨ρ,O,M,cK,ds,hE,hf,k⟩:=zz;unfold gS at hf;obtain⟨r,hr,hf⟩:=Option.bind_eq_some_iff.mp hf;refine⟨ρ,O,M,cK,r,hE,hr,fun v H1 s1 q1=>?_⟩;obtain⟨kd,q⟩:=(q1.toR hE.ne).qr (M:=M) hf;exact k v H1 kd s1 q
theorem gM (i:Nat){x:Str}(hN:X.N[i]?=some x:=by rfl)(hv:L2.Vis X.env.scope x:=by first|exact Or.inl rfl|exact Or.inr (Or.inl rfl)|exact Or.inr (Or.inr rfl))(hd:(x==("__debug__" : Str))=false:=by decide)
  (n5:(x==("__classdict__" : Str))=false:=by decide):DQ X (.Name x pos) (fj i):=(L2.pe_var hN hv hd n5).imp fun σ H Q zz=>by
 obtain ⟨ρ,O,M,cK,ds,hE,hf,k⟩:=zz;unfold fj at hf;split at hf
 ·rename_i xs hr;cases hf;obtain⟨v,e1,q⟩:=hE.sh i _ hr;obtain⟨kd,q⟩:=q.qr (M:=M) rfl;exact⟨v,e1,k v H kd (.refl H) q⟩
 ·rename_i xs hr;cases hf;obtain⟨v,e1,q⟩:=hE.sh i _ hr;obtain⟨kd,q⟩:=q.qr (M:=M) rfl;exact⟨v,e1,k v H kd (.refl H) q⟩
 ·rename_i xs hr;cases hf;obtain⟨e6,us,e7,e8,e9,q5⟩:=hE.le i _ hr;exact⟨_,e6,k _ H true (.refl H) ⟨_,us,rfl,q5,fun O' H' x=>.inl (.inl (x.lst _ _ e9 e7))⟩⟩
 ·cases hf
theorem Ep {K:Fg}{H:Hp}{M O:List Addr}{a:Addr}{ds:List D}{vs:List V}(h:∀O' H',jO M O H O' H'->jT K H' a vs)(q:Rs K H O ds vs):nG K (L2.Itl K a) ds M O H:=by
 intro O2 H2 x;have h2:=h _ _ x;have q2:=q.ext x;refine⟨fun i d e=>?_,vs,h2,by rw[q.length];exact aE _⟩;obtain⟨v,ev,rv⟩:=q2.get e;refine⟨⟨vs,v,h2,ev⟩,fun y H3 ⟨e3,hy⟩=>?_⟩;subst e3;have:=hy vs h2;rw[ev] at this;cases this;exact⟨.refl _,rv⟩
theorem Eo {K:Fg}{H:Hp}{M O:List Addr}{a:Addr}{ds:List D}{vs:List V}(h:∀O' H',jO M O H O' H'->jN K H' a vs)(q:Rs K H O ds vs):nG K (L2.Itt K a) ds M O H:=by
 intro O2 H2 x;have h2:=h _ _ x;have q2:=q.ext x;refine⟨fun i d e=>?_,vs,h2,by rw[q.length];exact aE _⟩;obtain⟨v,ev,rv⟩:=q2.get e;refine⟨⟨vs,v,h2,ev⟩,fun y H3 ⟨e3,hy⟩=>?_⟩;subst e3;have:=hy vs h2;rw[ev] at this;cases this;exact⟨.refl _,rv⟩
theorem Jf {l:Expr}{tl:TE}(hl:PE X l tl):PI X tg l (fun σ H R=>tl σ H fun x H1=>∃a,x=.ref a/\(((∃xs,jT X.K H1 a xs)/\R (L2.Itl X.K a) H1)\/((∃xs,jN X.K H1 a xs)/\R (L2.Itt X.K a) H1))):=by
 intro pins s σ H R I h;refine L2.thn (hl pins s σ H _ I h) fun v s1 zz=>?_;obtain ⟨x,H1,I1,r1,q1⟩:=zz;obtain⟨a,rfl,q1⟩:=q1;cases (show v=Value.ref a from r1);rcases q1 with ⟨⟨xs,hq⟩,q⟩|⟨⟨xs,hq⟩,q⟩
 ·obtain⟨its,rv,p,hz⟩:=I1.list hq;refine wpAny_pyIter_list p.isList ⟨s1.heap.objs.size,[s1.heap.objs.size],_,_,H1,rfl,I1.kept (t':=s1.toks) fun b o e=>af _ e,L2.turn_list a _,⟨_,az _ rfl,rfl,rfl⟩,fun b hb=>?_,q⟩;have e:b=s1.heap.objs.size:=by simpa using hb
  subst e;exact I1.zP (aE _) (I1.fT.fresh (aE _))
 ·obtain⟨its,rv,p,hz⟩:=I1.tuple hq;refine wpAny_pyIter_tuple (show s1.heap.IsTuple a its.toArray from p) ⟨s1.heap.objs.size,[s1.heap.objs.size],_,_,H1,rfl,I1.kept (t':=s1.toks) fun b o e=>af _ e,L2.turn_tuple a _,⟨_,az _ rfl,rfl,rfl⟩,fun b hb=>?_,q⟩;have e:b=s1.heap.objs.size:=by simpa using hb
  subst e;exact I1.zP (aE _) (I1.fT.fresh (aE _))
theorem fR {f:AD}(h:DQ X e f):DI X tg e (dq f):=(Jf h).imp fun σ H Q zz=>by
 obtain ⟨ρ,O,M,cK,ds,hE,hf,k⟩:=zz;refine⟨ρ,O,M,cK,ds,hE,hf,fun v H1 kd s1 ⟨a,vs,ev,qs,st⟩=>⟨a,ev,?_⟩⟩;have Tq:=st _ _ (jO.id M O H1 (hE.same s1).sub);cases kd with
 |true=>exact .inl ⟨⟨vs,Tq⟩,k _ H1 s1 (Ep (fun O' H' x=>st O' H' x) qs)⟩
 |false=>exact .inr ⟨⟨vs,Tq⟩,k _ H1 s1 (Eo (fun O' H' x=>st O' H' x) qs)⟩
theorem z6 {d:D}{i:Int}(h:yx d=some i):d=.int i:=by
 cases d <;> first|(cases h;rfl)|cases h
theorem Bb {K:Fg}{H:Hp}{M O:List Addr}(lo:Int)(n:Nat):nG K (L2.Itr lo n) (fK lo n) M O H:=by
 intro O2 H2 x;refine⟨fun i d e=>?_,?_⟩
 ·unfold fK at e;rw[ay] at e;cases er:(ao n)[i]? with
  |none=>rw[er] at e;cases e
  |some k =>
   rw[er,au] at e;cases e;obtain⟨h1,h2⟩:=List.getElem?_eq_some_iff.mp er;rw[aB] at h1;rw[List.getElem_range] at h2;subst h2;exact⟨h1,fun y H3 zz=>by obtain ⟨e3,e4⟩:=zz; subst e3 e4;exact⟨.refl _,.int _⟩⟩
 ·show n<=_;unfold fK;rw[ai,aB];exact aE _
theorem eN {p pos':Pos}(hm:X.mg "range" = none)(h:DE X a f)(hg:L2.Gl X "range" := by rfl)(hs:starEach [a] X.env=[(false,eval a X.env)]:=by rfl):DI X tg (.Call (.Name "range" p) [a] [] pos') (cR f) :=
 (L2.pi_range1 hg hm (b7 h cz hs) hs).imp fun σ H Q zz=>by
  obtain ⟨ρ,O,M,cK,ds,hE,hf,k⟩:=zz;unfold cR at hf;obtain⟨r,hr,hf⟩:=Option.bind_eq_some_iff.mp hf;obtain⟨j,hj,hf⟩:=Option.bind_eq_some_iff.mp hf;split at hf
  ·rename_i hb;cases hf;refine⟨ρ,O,M,cK,[r.1],hE,by unfold b6;rw[hr];rfl,fun vs H1 s1 q1=>?_⟩;rw[z6 hj] at q1;cases q1 with
   |cons q qn =>
    cases q;cases qn;exact⟨j,rfl,hb.1,hb.2,k _ H1 s1 (Bb 0 j.toNat)⟩
  ·cases hf
noncomputable def uX (K:Fg)(F:SD):TS:=fun E σ H=>∃B cM cT cK,uS K B cM cT cK F E σ H
theorem HX.x (h:HX X FJ F):PSs X FJ (uX X.K F):=fun pins s σ H D I ⟨B,cM,cT,cK,q⟩=>h B cM cT cK pins s σ H D I q
theorem Du.up {K:Fg}{B:List Addr}{cM H1 H':Hp}{cT M:List Addr}{r:Vl}{v:V}(x:iB cT cM M H1)(h:Du K B H1 M H' r v):Du K B cM cT H' r v:=by
 obtain⟨⟨M',x'⟩,q⟩:=h;refine⟨⟨M',x.trans x'⟩,?_⟩;rcases q with q|⟨e,a,ds,vs,e1,e2,e3,e4,q⟩
 ·exact .inl q
 ·refine .inr ⟨e,a,ds,vs,e1,e2,?_,e4,q⟩;rcases e3 with z|z
  ·exact x.new a z
  ·refine .inr ?_;cases e5:cM a with
   |none=>rfl
   |some o=>exact absurd z (x.there a (by rw[e5];simp))
theorem SR.up {K:Fg}{B:List Addr}{cM H1 H:Hp}{cT M:List Addr}{cK:Nat->Addr}{ρ:Sl}{σ:St}(x:iB cT cM M H1)(h:SR K B H1 M cK ρ σ H):SR K B cM cT cK ρ σ H:=by
 obtain⟨M',x',hB,hE⟩:=h;exact⟨M',x.trans x',hB,hE⟩
theorem dD (hc:X.calm=true)(hi:DI X tg iter it)(hg:DG X tg gd)(hb:HX X body F)(hp:PassesOwn (model X.prog X.w) X.A X.env X.xe:=by exact PassesOwn.never)
  (hs:∀x,foldedSetIterable iter X.env x=pure x:=by intro _;rfl):DS X (.For tg iter body [] pos) (eI it gd F):=fun B cM cT cK=>(L2.ps_for hp hc hi hg hb.x hs).imp fun E σ H zz=>by
 obtain ⟨ρ,fl,⟨M,hx,hB,hE⟩,hf,k⟩:=zz;unfold eI at hf;obtain⟨ds,hd,hf⟩:=Option.bind_eq_some_iff.mp hf;refine⟨ρ,_,M,cK,ds,hE,hd,fun J H1 s1 OR=>?_⟩;have x1:iB cT cM M H1:=hx.trans (.same s1);refine⟨fun i m eX H'=>m=ds.length-i/\i<=ds.length/\∃de,SR X.K B H1 M cK de eX H'/\fo gd F (ds.drop i) de=some fl,⟨ds.length,by simp,bB _,ρ,⟨M,.refl M H1,hB,hE.same s1⟩,by simpa using hf⟩,?_⟩;rintro i m eX H' ⟨rfl,hi,de,hR,hl⟩;obtain⟨M',x',SK,SI⟩:=id hR;obtain⟨go,stop⟩:=OR _ _ x'.ext;by_cases kX:i<ds.length
 ·have ed:ds.drop i=ds[i]::ds.drop (i+1):=WN kX;rw[ed] at hl;unfold fo at hl;obtain⟨gE,KR,hl⟩:=Option.bind_eq_some_iff.mp hl;obtain⟨xW,hF,hl⟩:=Option.bind_eq_some_iff.mp hl;obtain⟨g1,g2⟩:=go i ds[i] (by simp[kX]);refine .inr ⟨g1,fun sg H2=>∃hZ,SR X.K B H1 M cK hZ sg H2/\fo gd F (ds.drop (i+1)) hZ=some fl,fun sg H2 ⟨hZ,r2,l2⟩=>⟨ds.length-(i+1),by omega,rfl,kX,hZ,r2,l2⟩,fun x H2 hy=>?_⟩;obtain⟨s2,q2⟩:=g2 x H2 hy;refine⟨de,_,M',cK,ds[i],gE,SI.same s2,q2,KR,fun rm H3 s3 E3=>⟨B,H1,M,cK,gE,xW,⟨M',(x'.trans (.same s2)).trans (.same s3),SK,E3⟩,hF,?_⟩⟩;cases xW with
  |next hZ=>exact fun Fn H4 r4=>⟨hZ,r4,hl⟩
  |cont hZ=>exact fun Fn H4 r4=>⟨hZ,r4,hl⟩
  |brk hZ =>
   cases hl;exact fun Fn H4 r4=>k Fn H4 (r4.up x1)
  |ret r =>
   cases hl;exact fun v H4 r4=>k v H4 (r4.up x1)
 ·have e:i=ds.length:=by omega
  subst e;rw[Xi] at hl;cases hl;exact .inl ⟨stop,k eX H' (hR.up x1)⟩
theorem uo (hc:DT X c t)(hb:HX X body F)(hp:PassesOwn (model X.prog X.w) X.A X.env X.xe:=by exact PassesOwn.never):DS X (.While c body [] pos) (km t F):=fun B cM cT cK=>(L2.ps_while hp hc (hb B cM cT cK)).imp fun E σ H zz=>by
 obtain ⟨ρ,fl,hR,hf,k⟩:=zz;obtain⟨n,hn⟩:=rA hf;refine⟨fun m eX H'=>∃de,SR X.K B cM cT cK de eX H'/\eL t F m de=some fl,⟨n,ρ,hR,hn⟩,?_⟩;rintro m eX H' ⟨de,⟨M,hx,hB,hE⟩,hw⟩;cases m with
 |zero=>cases hw
 |succ m =>
  unfold eL at hw;obtain⟨c,ht,hw⟩:=Option.bind_eq_some_iff.mp hw;refine⟨de,_,M,cK,c,hE,ht,fun H1 s1=>?_⟩;have r1:SR X.K B cM cT cK de eX H1:=⟨M,hx.trans (.same s1),hB,hE.same s1⟩;cases c with
  |false =>
   dsimp only at hw ⊢;rw[if_neg Bool.false_ne_true] at hw ⊢;cases hw;exact k eX H1 r1
  |true =>
   dsimp only at hw ⊢;rw[if_pos rfl] at hw ⊢;obtain⟨xW,hF,hw⟩:=Option.bind_eq_some_iff.mp hw;refine⟨fun sg H2=>∃hZ,SR X.K B cM cT cK hZ sg H2/\eL t F m hZ=some fl,fun sg H2 r2=>⟨m,bQ m,r2⟩,de,xW,r1,hF,?_⟩;cases xW with
   |next hZ=>exact fun Fn H4 r4=>⟨hZ,r4,hw⟩
   |cont hZ=>exact fun Fn H4 r4=>⟨hZ,r4,hw⟩
   |brk hZ=>cases hw;exact k
   |ret r=>cases hw;exact k
end
end DL
namespace L2
open PySem PySem.Spec PyProof.Rows
section
variable {X:Cx}
noncomputable def Kx (K:PySem.W.Frag):R2:=fun x y H Q=>∃a b ys,x=.ref a/\y=.ref b/\jN K H a []/\jN K H b ys/\Q (.ref b) H
theorem Jj:OpR X (binaryOp .Add) (Kx X.K):=by
 intro pins s σ H x y v u Q I rx ry h;obtain⟨a,b,ys,rfl,rfl,ha,hb,q⟩:=h;cases rx;cases ry;obtain⟨its,r1,p1,_⟩:=I.tuple ha;obtain⟨El,r2,p2,_⟩:=I.tuple hb;cases r1;obtain⟨⟨cls,dd,data,sl⟩,ho,hc,n,hd⟩:=id p1;obtain⟨⟨S0,QD,data2,Qk⟩,G0,KU,n2,hd2⟩:=id p2;simp only at hc hd KU hd2;subst hc hd KU hd2;exact concat_meets ⟨_,ho,rfl⟩ ⟨_,G0,rfl⟩ noFill_tuple_add seq_tuple_add PySem.F.slot_tuple_add PySem.F.entry_tuple_add (PySem.F.args_tuple_add_2 _ _)
   (tuple_addW0 a b _ _ n n2 dd QD sl Qk (by simp)) ⟨ho,G0,⟨.ref b,H,I,rfl,q⟩⟩
noncomputable def rAddA (K:PySem.W.Frag):R2:=fun x y H Q=>rI0 (fun i j=>.int (i+j)) x y H Q\/(Kw K x y H Q\/(Kx K x y H Q\/∃i j,x=.str i/\y=.str j/\i.length+j.length<=sizeLine/\Q (.str (i++j)) H))
theorem op_addA:OpR X (binaryOp .Add) (rAddA X.K):=LP.or (Ji.or (Jj.or AQ))
theorem call_allB (hc:X.calm=true):CallR X (.builtin "all") (fun xs H Q=>∃(a:Addr) (ys:List V) (bs:List Bool),xs=[.ref a]/\(jT X.K H a ys\/jN X.K H a ys)/\ys=bs.map V.bl/\Q (.bl (bs.all id)) H):=by
 intro pins s σ H xs us Q I rx h;obtain⟨a,ys,bs,rfl,hq,rfl,q⟩:=h;obtain⟨u,rfl,ru⟩:=cV.one rx;cases ru;have bools:∀(bs:List Bool) (its:List Value),cV (bs.map V.bl) its->its=bs.map Value.bool:=by
  intro bs;induction bs with
  |nil=>intro its r;cases r;rfl
  |cons b bs ih =>
   intro its r;cases r with
   |cons r rs =>
    have:_=Value.bool b:=r;rw[aC,ih _ rs,this]
 have S9:∀(bs:List Bool),(ao bs.length).all (fun i=>bs.getD i false)=bs.all id:=by
  intro bs;induction bs with
  |nil=>rfl
  |cons b bs ih =>
   rw[aJ,List.range_succ_eq_map,List.all_cons,List.all_cons,List.all_map];show (b&&_)=(b&&_);congr 1
 have Tj:TruthOf X.prog X.w X.A.in1 (fun i v=>(bs.map Value.bool).toArray[i]?=some v) (fun i=>bs.getD i false):=by
  intro i v s' Q' E' hP hQ;have Px:(bs.map Value.bool)[i]?=some v:=by simpa using hP
  rw[ay] at Px;cases e:bs[i]? with
  |none=>rw[e] at Px;cases Px
  |some b =>
   rw[e,au] at Px;cases Px;refine wpAny_truthy_bool ?_;have:bs.getD i false=b:=by rw[av,e];rfl
   have Ud:Q' (bs.getD i false) s':=hQ;rw[this] at Ud;exact Ud
 have fin:∀(o:Obj) (h':Heap) (tk:Nat),(∀b ob,b∉[s.heap.objs.size]->(s.heap.push o).get? b=some ob->h'.get? b=some ob) →
   EP X pins σ Q (.bool ((ao (bs.map Value.bool).toArray.size).all fun i=>bs.getD i false)) { s with heap:=h',toks:=tk }:=by
  intro o h' tk hk;have ez:(bs.map Value.bool).toArray.size=bs.length:=by simp
  rw[ez,S9];exact⟨.bl _,H,I.kept (t':=tk) fun b ob e=>hk b ob (by simpa using aN (aD e)) (af _ e),rfl,q⟩
 refine call_all_walk ?_;rcases hq with hq|hq
 ·obtain⟨its,rv,p,hz⟩:=I.list hq;have e:=bools bs its rv;subst e;refine wpAny_pyIter_list p.isList ?_;have og:a≠s.heap.objs.size:=aN (by obtain⟨o,n,e,_⟩:=p;exact aD e);exact⟨_,_,_,_,_,_,fun i=>bs.getD i false,rfl,Walks.list (A:=X.A.in1) (I.ok.hd hc) s.heap.objs.size a og (bs.map Value.bool).toArray,⟨⟨_,az _ rfl,rfl,rfl⟩,p.isList.at fun o e=>af _ e⟩,Tj,fun h' tk hk=>fin _ h' tk hk⟩
 ·obtain⟨its,rv,p,hz⟩:=I.tuple hq;have e:=bools bs its rv;subst e;have p':s.heap.IsTuple a (bs.map Value.bool).toArray:=p;refine wpAny_pyIter_tuple p' ?_;have og:a≠s.heap.objs.size:=aN p.lt;exact⟨_,_,_,_,_,_,fun i=>bs.getD i false,rfl,Walks.tuple (A:=X.A.in1) (I.ok.hd hc) s.heap.objs.size a og (bs.map Value.bool).toArray,⟨⟨_,az _ rfl,rfl,rfl⟩,p'.at fun o e=>af _ e⟩,Tj,fun h' tk hk=>fin _ h' tk hk⟩
def KdV (K:PySem.W.Frag)(H:Hp)(x:V)(t:String):Prop:=match x with
 |.bl _=>t = "bool"
 |.int _=>t = "int"
 |.str _=>t = "str"
 |.ref a=>(t = "tuple" ∧ ∃xs,jN K H a xs)\/(t = "list" ∧ ∃xs,jT K H a xs)
 |_=>False
theorem call_isa:CallR X (.builtin "isinstance") (fun xs H Q=>∃x t T b,xs=[x,.ty T]/\KdV X.K H x t/\PySem.W.kitOne X.K (.type t) (.type T)=some b/\Q (.bl b) H):=by
 intro pins s σ H xs us Q I rx h;obtain⟨x,t,T,b,rfl,kd,e,q⟩:=h;obtain⟨u,w',rfl,r1,r2⟩:=cV.two rx;cases r2;have fin:∀tk,EP X pins σ Q (.bool b) { s with toks:=tk }:=fun tk=>⟨.bl b,H,I.tok tk,rfl,q⟩;cases x with
 |bl y =>
  cases (show t = "bool" from kd);cases (show u=Value.bool y from r1);exact PySem.W.kia_one PySem.W.kitx_bool I.GR True.intro e (fun z=>nomatch z) fin
 |int i =>
  cases (show t = "int" from kd);obtain⟨t',q'⟩:=(show ∃t,u=Value.int i t from r1);cases q';exact PySem.W.kia_one PySem.W.kitx_int I.GR True.intro e (fun z=>nomatch z) fin
 |str y =>
  cases (show t = "str" from kd);obtain⟨t',q'⟩:=(show ∃t,u=Value.str y t from r1);cases q';exact PySem.W.kia_one PySem.W.kitx_str I.GR True.intro e (fun z=>nomatch z) fin
 |ref a =>
  cases (show u=Value.ref a from r1);rcases kd with ⟨rfl,ys,hq⟩|⟨rfl,ys,hq⟩
  ·obtain⟨its,rv,⟨o,h1,h2,_⟩,hz⟩:=I.tuple hq;exact PySem.W.kia_one PySem.W.kitx_tuple I.GR ⟨o,h1,h2⟩ e (fun z=>nomatch z) fin
  ·obtain⟨its,rv,⟨o,n,h1,h2,_⟩,hz⟩:=I.list hq;exact PySem.W.kia_one PySem.W.kitx_list I.GR ⟨o,h1,h2⟩ e (fun z=>nomatch z) fin
 |_=>exact False.elim kd
end
end L2
namespace DL
open PySem PySem.Spec PySem.SeqAt
open L2 (V Hp St HO VK TE TT TA TS TI TG Cx Inv PE PT PA PS PSs PI PG jN jT cY eF cN cC cE cV dQ EP TP AP SP kJ It)
section
variable {K:Fg}{H:Hp}{O:List Addr}{v:V}
theorem BR.int {i:Int}(h:BR K H O (.int i) v):v=.int i:=by
 rcases h with h|⟨a,ds,vs,e,_⟩|⟨a,ds,vs,e,_⟩
 ·cases h;rfl
 ·cases e
 ·cases e
theorem BR.bool {b:Bool}(h:BR K H O (.bool b) v):v=.bl b:=by
 rcases h with h|⟨a,ds,vs,e,_⟩|⟨a,ds,vs,e,_⟩
 ·cases h;rfl
 ·cases e
 ·cases e
theorem BR.str {x:Str}(h:BR K H O (.str x) v):v=.str x:=by
 rcases h with h|⟨a,ds,vs,e,_⟩|⟨a,ds,vs,e,_⟩
 ·cases h;rfl
 ·cases e
 ·cases e
theorem BR.tuple {ds:List D}(h:BR K H O (.tuple ds) v):∃a vs,v=.ref a/\jN K H a vs/\Rs K H O ds vs:=by
 rcases h with h|⟨a,es,vs,e,_⟩|⟨a,es,vs,e,_⟩
 ·cases h with
  |tuple ha hs=>exact⟨_,_,rfl,ha,hs⟩
 ·cases e
 ·cases e
theorem BR.list {ds:List D}(h:BR K H O (.list ds) v):∃a vs,v=.ref a/\jT K H a vs/\Rs K H O ds vs:=by
 rcases h with h|⟨a,es,vs,e,e2,e3,q⟩|⟨a,es,vs,e,_⟩
 ·cases h with
  |list ha hs=>exact⟨_,_,rfl,ha.sq,hs⟩
 ·cases e;exact⟨a,vs,e2,.inl (.inl e3),q⟩
 ·cases e
theorem BR.dict {kvs:List (D×D)}(h:BR K H O (.dict kvs) v):∃a es,v=.ref a/\H a=some (lT a es)/\Rd K H O kvs es.2:=by
 rcases h with h|⟨a,es,vs,e,_⟩|⟨a,vp,es,e,e2,e3,q⟩
 ·cases h with
  |dict ha _ hs=>exact⟨_,_,rfl,ha,hs⟩
 ·cases e
 ·cases e;exact⟨a,es,e2,e3,q⟩
end
section
variable {X:Cx}{e a b c:Expr}{es:List Expr}{f g:ED}{fb gb:BD}{t u:TD}{pos:Pos}
theorem fx:OD X (L2.rAddA X.K) eQ:=by
 intro x y vx vy H O r Q ne hx hy hf k;cases x <;> first|(cases hf;done)|(cases y <;> first|cases hf|skip)
 ·cases hx.int;cases hy.int;exact .inl ⟨_,_,rfl,rfl,k _ H (.refl H) (.of (.int _))⟩
 ·cases hx.str;cases hy.str;unfold eQ at hf;dsimp only at hf;split at hf
  ·rename_i hz;cases hf;exact .inr (.inr (.inr ⟨_,_,rfl,rfl,hz,k _ H (.refl H) (.of (.str _))⟩))
  ·cases hf
 ·unfold eQ at hf;dsimp only at hf;split at hf
  ·rename_i ds es hz;cases hf;obtain⟨a,vs,rfl,ha,qa⟩:=hx.tuple;obtain⟨b,us,rfl,hb,qb⟩:=hy.tuple;by_cases hn:ds=[]
   ·subst hn;cases qa;exact .inr (.inr (.inl ⟨a,b,us,rfl,rfl,ha,hb,k _ H (.refl H) (.of (.tuple hb qb))⟩))
   ·refine .inr (.inl ⟨a,b,vs,us,rfl,rfl,ha,hb,fun z=>?_,by rw[<-qa.length,<-qb.length];exact hz,fun z=>?_,fun z p hp=>?_⟩)
    ·subst z;cases qa;exact hn rfl
    ·subst z;cases qb;rw[bw] at k;exact k _ H (.refl H) (.of (.tuple ha qa))
    ·have s2:cY H (eF H p (.tup (vs++us))):=fun b o e=>by rw[cC (cE e hp)];exact e
     exact k _ _ s2 (.of (.tuple (.inl (.inl cN)) ((qa.append qb).same s2)))
  ·cases hf
theorem pS {α:Type}{op:D->D->Option α}(h1:∀x y,(∀i,x≠.int i)->op x y=none)(h2:∀i y,(∀j,y≠.int j)->op (.int i) y=none){x y:D}{r:α}(h:op x y=some r):∃i j,x=.int i/\y=.int j:=by
 by_cases e1:∃i,x=.int i
 ·obtain⟨i,rfl⟩:=e1;by_cases e2:∃j,y=.int j
  ·obtain⟨j,rfl⟩:=e2;exact⟨i,j,rfl,rfl⟩
  ·rw[h2 i y fun j z=>e2 ⟨j,z⟩] at h;cases h
 ·rw[h1 x y fun i z=>e1 ⟨i,z⟩] at h;cases h
theorem AW:OD X (L2.rI0 fun i j=>.int (i-j)) Gk:=by
 intro x y vx vy H O r Q ne hx hy hf k;obtain⟨_,_,rfl,rfl⟩:=pS (fun x y n=>by cases x <;> first|rfl|exact absurd rfl (n _)) (fun i y n=>by cases y <;> first|rfl|exact absurd rfl (n _)) hf;cases hx.int;cases hy.int;cases hf;exact⟨_,_,rfl,rfl,k _ H (.refl H) (.of (.int _))⟩
theorem Kd {i j:Int}(h:BW i j=true):L2.CMul i j:=by
 unfold BW at h;simpa [L2.CMul] using h
theorem oJ:OD X (L2.rI L2.CMul fun i j=>.int (i*j)) pP:=by
 intro x y vx vy H O r Q ne hx hy hf k;obtain⟨_,_,rfl,rfl⟩:=pS (fun x y n=>by cases x <;> first|rfl|exact absurd rfl (n _)) (fun i y n=>by cases y <;> first|rfl|exact absurd rfl (n _)) hf;cases hx.int;cases hy.int;unfold pP at hf;dsimp only at hf;split at hf
 ·rename_i hc;cases hf;exact⟨_,_,rfl,rfl,Kd hc,k _ H (.refl H) (.of (.int _))⟩
 ·cases hf
theorem AX:OD X (L2.rI L2.CDiv fun i j=>.int (i/j)) AZ:=by
 intro x y vx vy H O r Q ne hx hy hf k;obtain⟨_,_,rfl,rfl⟩:=pS (fun x y n=>by cases x <;> first|rfl|exact absurd rfl (n _)) (fun i y n=>by cases y <;> first|rfl|exact absurd rfl (n _)) hf;cases hx.int;cases hy.int;unfold AZ at hf;dsimp only at hf;split at hf
 ·rename_i hc;cases hf;exact⟨_,_,rfl,rfl,hc,k _ H (.refl H) (.of (.int _))⟩
 ·cases hf
theorem kv:OD X (L2.rI (fun _ j=>0<j) fun i j=>.int (i%j)) nZ:=by
 intro x y vx vy H O r Q ne hx hy hf k;obtain⟨_,_,rfl,rfl⟩:=pS (fun x y n=>by cases x <;> first|rfl|exact absurd rfl (n _)) (fun i y n=>by cases y <;> first|rfl|exact absurd rfl (n _)) hf;cases hx.int;cases hy.int;unfold nZ at hf;dsimp only at hf;split at hf
 ·rename_i hc;cases hf;exact⟨_,_,rfl,rfl,hc,k _ H (.refl H) (.of (.int _))⟩
 ·cases hf
theorem LU:OD X (L2.rI L2.CPow fun i j=>.int (i ^ j.toNat)) Gm:=by
 intro x y vx vy H O r Q ne hx hy hf k;obtain⟨_,_,rfl,rfl⟩:=pS (fun x y n=>by cases x <;> first|rfl|exact absurd rfl (n _)) (fun i y n=>by cases y <;> first|rfl|exact absurd rfl (n _)) hf;cases hx.int;cases hy.int;unfold Gm at hf;dsimp only at hf;split at hf
 ·rename_i hc;cases hf;exact⟨_,_,rfl,rfl,hc,k _ H (.refl H) (.of (.int _))⟩
 ·cases hf
theorem Lr:UD X (L2.rU fun i=>.int (-i)) LZ:=by
 intro x vx H O r Q ne hx hf k;cases x <;> first|cases hf|skip
 cases hx.int;exact⟨_,rfl,k _ H (.refl H) (.of (.int _))⟩
theorem HH {c:C2}{p:Int->Int->Bool}(hc:∀x y k,c x y=some k->∃i j,x=.int i/\y=.int j/\k=p i j):CD X (L2.rI0 fun i j=>.bl (p i j)) c:=by
 intro x y vx vy H O k Q hx hy hf q;obtain⟨i,j,rfl,rfl,rfl⟩:=hc _ _ _ hf;cases hx.int;cases hy.int;exact⟨_,_,rfl,rfl,q⟩
theorem PU:CD X (L2.rI0 fun i j=>.bl (decide (i<j))) QF:=HH fun x y k h=>by
 obtain⟨_,_,rfl,rfl⟩:=pS (fun x y n=>by cases x <;> first|rfl|exact absurd rfl (n _)) (fun i y n=>by cases y <;> first|rfl|exact absurd rfl (n _)) h;cases h;exact⟨_,_,rfl,rfl,rfl⟩
theorem HI:CD X (L2.rI0 fun i j=>.bl (decide (j<i))) Ik:=HH fun x y k h=>by
 obtain⟨_,_,rfl,rfl⟩:=pS (fun x y n=>by cases x <;> first|rfl|exact absurd rfl (n _)) (fun i y n=>by cases y <;> first|rfl|exact absurd rfl (n _)) h;cases h;exact⟨_,_,rfl,rfl,rfl⟩
end
section
variable {X:Cx}{pins:List (Addr×Obj)}{σ:St}{H:Hp}{s:Shared}{O:List Addr}
mutual
theorem R.reads (I:Inv X pins σ H s){d:D}{v:V}:R X.K H O d v->d.canLay0=true->∀u,dQ v u->∃as,Reads s.heap u d as
 |.none,_,u,r=>by cases (show u=Value.none from r);exact⟨_,.none⟩
 |.bool b,_,u,r=>by cases (show u=Value.bool b from r);exact⟨_,.bool b⟩
 |.int i,_,u,r=>by obtain⟨t,rfl⟩:=(show ∃t,u=Value.int i t from r);exact⟨_,.int i t⟩
 |.str x,_,u,r=>by obtain⟨t,rfl⟩:=(show ∃t,u=Value.str x t from r);exact⟨_,.str x t⟩
 | .tuple (a:=a) ha hs,hl,u,r=>by
  cases (show u=Value.ref a from r);obtain⟨its,rv,⟨o,e,c,n,hd⟩,_⟩:=I.tuple ha;obtain⟨as,q⟩:=Rs.reads I hs (by simpa [PyData.canLay0] using hl) its rv;exact⟨_,.tuple e c hd (by simpa using q)⟩
 |.dict _ _ _,hl,_,_=>by simp[PyData.canLay0] at hl
 | .list (a:=a) ha hs,hl,u,r=>by
  cases (show u=Value.ref a from r);obtain⟨its,rv,⟨o,n,e,c,_,hd⟩,_⟩:=I.list ha.sq;obtain⟨as,q⟩:=Rs.reads I hs (by simpa [PyData.canLay0] using hl) its rv;exact⟨_,.list e c hd (by simpa using q)⟩
theorem Rs.reads (I:Inv X pins σ H s){ds:List D}{vs:List V}:Rs X.K H O ds vs->PyData.canLayAll0 ds=true->∀us,cV vs us->∃as,ReadsAll s.heap us ds as
 |.nil,_,us,r=>by cases r;exact⟨_,.nil⟩
 | .cons h hs,hl,us,r=>by
  cases r with
  |cons r rs =>
   simp only[PyData.canLayAll0,Bool.and_eq_true] at hl;obtain⟨as,q⟩:=R.reads I h hl.1 _ r;obtain⟨bs,qs⟩:=Rs.reads I hs hl.2 _ rs;exact⟨_,.cons q qs⟩
end
theorem sk {d:D}(h:shaped d=true):d.canLay0=true:=by
 unfold shaped at h;rw[Bool.and_eq_true] at h;exact h.1
theorem BR.reads (I:Inv X pins σ H s){d:D}{v:V}(h:BR X.K H O d v)(hl:d.canLay0=true)(u:Value)(r:dQ v u):∃as,Reads s.heap u d as:=by
 rcases h with h|⟨a,ds,vs,rfl,rfl,e,q⟩|⟨a,ds,vs,rfl,_⟩
 ·exact h.reads I hl u r
 ·cases (show u=Value.ref a from r);obtain⟨its,rv,⟨o,n,e',c,_,hd⟩,_⟩:=I.list (show jT X.K H a vs from .inl (.inl e));obtain⟨as,q'⟩:=q.reads I (by simpa [PyData.canLay0] using hl) its rv;exact⟨_,.list e' c hd (by simpa using q')⟩
 ·simp[PyData.canLay0] at hl
end
noncomputable def Oi (K:Fg):L2.R2:=fun x y H Q=>∃(O:List Addr) (dx dy:D),BR K H O dx x/\BR K H O dy y/\shaped dx=true/\shaped dy=true/\noMix dx dy=true/\Q (.bl (same dx dy)) H
noncomputable def Od (K:Fg):L2.R2:=fun x y H Q=>∃(O:List Addr) (dx dy:D),BR K H O dx x/\BR K H O dy y/\shaped dx=true/\shaped dy=true/\noMix dx dy=true/\Q (.bl (!same dx dy)) H
section
variable {X:Cx}{e a b c:Expr}{es:List Expr}{f g:ED}{fb gb:BD}{t u:TD}{pos:Pos}
theorem jb (hu:X.A.units+64<cLine):L2.OpR X (compareOp .Eq) (Oi X.K):=by
 intro pins s σ H x y v u Q I rx ry h;obtain⟨O,dx,dy,hx,hy,sx,sy,nm,q⟩:=h;obtain⟨as,ra⟩:=hx.reads I (sk sx) v rx;obtain⟨bs,rb⟩:=hy.reads I (sk sy) u ry;exact PyProof.Rows.eq_dataH_same ra rb sx sy hu nm ⟨.bl _,H,I,rfl,q⟩
theorem xm (hu:X.A.units+64<cLine):L2.OpR X (compareOp .NotEq) (Od X.K):=by
 intro pins s σ H x y v u Q I rx ry h;obtain⟨O,dx,dy,hx,hy,sx,sy,nm,q⟩:=h;obtain⟨as,ra⟩:=hx.reads I (sk sx) v rx;obtain⟨bs,rb⟩:=hy.reads I (sk sy) u ry;exact PyProof.Rows.ne_dataH_same ra rb sx sy hu nm ⟨.bl _,H,I,rfl,q⟩
theorem lW:CD X (Oi X.K) om:=by
 intro x y vx vy H O k Q hx hy hf q;unfold om at hf;split at hf
 ·rename_i h;cases hf;rw[Bool.and_eq_true,Bool.and_eq_true] at h;exact⟨O,x,y,hx,hy,h.1.1,h.1.2,h.2,q⟩
 ·cases hf
theorem Dn:CD X (Od X.K) zZ:=by
 intro x y vx vy H O k Q hx hy hf q;unfold zZ at hf;split at hf
 ·rename_i h;cases hf;rw[Bool.and_eq_true,Bool.and_eq_true] at h;exact⟨O,x,y,hx,hy,h.1.1,h.1.2,h.2,q⟩
 ·cases hf
theorem Rs.at {K:Fg}{H:Hp}{O:List Addr}{ds:List D}{vs:List V}{i:Int}{d:D}(q:Rs K H O ds vs)(h:vd ds i=some d):∃v,L2.atI vs i=some v/\R K H O d v:=by
 unfold vd at h;obtain⟨j,hj,h⟩:=Option.bind_eq_some_iff.mp h;obtain⟨v,e,r⟩:=q.get h;refine⟨v,?_,r⟩;unfold L2.atI;have:L2.ixN vs.length i=some j:=by rw[<-q.length];exact hj
 rw[this,ae];exact e
theorem OA:OD X (L2.rIx X.K) cP:=by
 intro x y vx vy H O r Q ne hx hy hf k;cases x <;> first|(cases hf;done)|(cases y <;> first|cases hf|skip)
 ·obtain⟨a,vs,rfl,ha,qa⟩:=hx.list;cases hy.int;rename_i ds i;unfold cP at hf;dsimp only at hf;cases hd:vd ds i with
  |none=>rw[hd] at hf;cases hf
  |some d =>
   rw[hd] at hf;cases hf;obtain⟨v,e,rv⟩:=qa.at hd;exact .inl ⟨a,vs,i,v,rfl,rfl,ha,e,k _ H (.refl H) (.of rv)⟩
 ·obtain⟨a,vs,rfl,ha,qa⟩:=hx.tuple;cases hy.int;rename_i ds i;unfold cP at hf;dsimp only at hf;cases hd:vd ds i with
  |none=>rw[hd] at hf;cases hf
  |some d =>
   rw[hd] at hf;cases hf;obtain⟨v,e,rv⟩:=qa.at hd;exact .inr (.inl ⟨a,vs,i,v,rfl,rfl,ha,e,k _ H (.refl H) (.of rv)⟩)
theorem cO (ha:DB X a fb)(hb:DB X b gb)(hs:L2.PlainIx b:=by exact fun _ _=>rfl):DE X (.Subscript a b pos) (d2 cP fb gb):=(L2.pe_ix L2.ix_seq ha hb hs).imp fun _ _ _ h=>ya OA h
theorem wK {r:List V->Hp->VK->Prop}{op:D->Option Vl}(hd:UD X (fun x H Q=>r [x] H Q) op){σ:St}{H:Hp}{Q:VK}(h:uE X.K (d1 op fb) σ H Q):L2.tCB r (L2.tCons (uB X.K fb) L2.tNil) σ H Q:=HC hd h
theorem EV {r:List V->Hp->VK->Prop}{op:O2}(hd:OD X (fun x y H Q=>r [x,y] H Q) op){σ:St}{H:Hp}{Q:VK}(h:uE X.K (d2 op fb gb) σ H Q):L2.tCB r (L2.tCons (uB X.K fb) (L2.tCons (uB X.K gb) L2.tNil)) σ H Q:=ya hd h
variable {x:Str}{p:Pos}{QG T:String}{r:List V->Hp->VK->Prop}
theorem qk {op:D->Option Vl}(hc:L2.CallR X (.builtin QG) r)(hd:UD X (fun x H Q=>r [x] H Q) op)(hm:X.mg x=none)(hv:bootBuiltins x=some (.builtin QG))(ha:DB X a fb)(hg:L2.Gl X x:=by rfl)(hn:x ≠ "__name__" := by decide)(vv:(x==("__debug__" : Str))=false:=by decide)
  (he:starEach [a] X.env=(false,eval a X.env)::starEach [] X.env:=by rfl) (nP:(backTo pos (starEach [] X.env)).any (·.1)=false:=by rfl):DE X (.Call (.Name x p) [a] [] pos) (d1 op fb) :=
 (L2.pe_callB hc hg hm hv (L2.pa_cons ha L2.pa_nil he) hn vv he nP).imp fun _ _ _ h=>wK hd h
theorem Hw {op:D->Option Vl}(hc:L2.CallR X (.type T) r)(hd:UD X (fun x H Q=>r [x] H Q) op)(hm:X.mg x=none)(hv:bootBuiltins x=some (.type T))(ha:DB X a fb)(hg:L2.Gl X x:=by rfl)(hn:x ≠ "__name__" := by decide)(vv:(x==("__debug__" : Str))=false:=by decide)
  (he:starEach [a] X.env=(false,eval a X.env)::starEach [] X.env:=by rfl) (nP:(backTo pos (starEach [] X.env)).any (·.1)=false:=by rfl):DE X (.Call (.Name x p) [a] [] pos) (d1 op fb) :=
 (L2.pe_callTy hc hg hm hv (L2.pa_cons ha L2.pa_nil he) hn vv he nP).imp fun _ _ _ h=>wK hd h
theorem zS {op:O2}(hc:L2.CallR X (.builtin QG) r)(hd:OD X (fun x y H Q=>r [x,y] H Q) op)(hm:X.mg x=none)(hv:bootBuiltins x=some (.builtin QG))(ha:DB X a fb)(hb:DB X b gb)(hg:L2.Gl X x:=by rfl)(hn:x ≠ "__name__" := by decide)(vv:(x==("__debug__" : Str))=false:=by decide)
  (he:starEach [a,b] X.env=(false,eval a X.env)::starEach [b] X.env:=by rfl) (vc:starEach [b] X.env=(false,eval b X.env)::starEach [] X.env:=by rfl) (nP:(backTo pos (starEach [b] X.env)).any (·.1)=false:=by rfl):DE X (.Call (.Name x p) [a,b] [] pos) (d2 op fb gb) :=
 (L2.pe_callB hc hg hm hv (L2.pa_cons ha (L2.pa_cons hb L2.pa_nil vc) he) hn vv he nP).imp fun _ _ _ h=>EV hd h
theorem Ls:UD X (fun x H Q=>(fun xs H Q=>∃p ys,xs=[.ref p]/\(jT X.K H p ys\/jN X.K H p ys)/\Q (.int (ys.length:Nat)) H:List V->Hp->VK->Prop) [x] H Q) gn:=by
 intro x vx H O r Q ne hx hf k;cases x <;> first|cases hf|skip
 ·obtain⟨a,vs,rfl,ha,qa⟩:=hx.list;rw[qa.length] at k;exact⟨a,vs,rfl,.inl ha,k _ H (.refl H) (.of (.int _))⟩
 ·obtain⟨a,vs,rfl,ha,qa⟩:=hx.tuple;rw[qa.length] at k;exact⟨a,vs,rfl,.inr ha,k _ H (.refl H) (.of (.int _))⟩
theorem FA:UD X (fun x H Q=>(fun xs H Q=>∃p ys,xs=[.ref p]/\((jT X.K H p ys/\∀l,H l=none->Q (.ref l) (eF H l (.tup ys)))\/(jN X.K H p ys/\Q (.ref p) H)):List V->Hp->VK->Prop) [x] H Q) dh:=by
 intro x vx H O r Q ne hx hf k;cases x <;> first|cases hf|skip
 ·obtain⟨a,vs,rfl,ha,qa⟩:=hx.list;refine⟨a,vs,rfl,.inl ⟨ha,fun p hp=>?_⟩⟩;have s2:cY H (eF H p (.tup vs)):=fun b o e=>by rw[cC (cE e hp)];exact e
  exact k _ _ s2 (.of (.tuple (.inl (.inl cN)) (qa.same s2)))
 ·obtain⟨a,vs,rfl,ha,qa⟩:=hx.tuple;exact⟨a,vs,rfl,.inr ⟨ha,k _ H (.refl H) (.of (.tuple ha qa))⟩⟩
theorem wM {K:Fg}{H:Hp}{O:List Addr}:∀{ds:List D}{vs:List V}{bs:List Bool},Rs K H O ds vs->lG ds=some bs->vs=bs.map V.bl:=by
 intro ds;induction ds with
 |nil=>intro vs bs q h;cases q;cases h;rfl
 |cons d ds ih =>
  intro vs bs q h;cases q with
  |cons q qs =>
    unfold lG at h;obtain⟨b,hb,h⟩:=Option.bind_eq_some_iff.mp h;cases hr:lG ds with
    |none=>rw[hr] at h;cases h
    |some cs =>
     rw[hr] at h;cases h;rw[z7 hb] at q;cases q;rw[ih qs hr];rfl
theorem Lv:UD X (fun x H Q=>(fun xs H Q=>∃(a:Addr) (ys:List V) (bs:List Bool),xs=[.ref a]/\(jT X.K H a ys\/jN X.K H a ys)/\ys=bs.map V.bl/\Q (.bl (bs.all id)) H:List V->Hp->VK->Prop) [x] H Q) qP:=by
 intro x vx H O r Q ne hx hf k;cases x <;> first|cases hf|skip
 ·obtain⟨a,vs,rfl,ha,qa⟩:=hx.list;rename_i ds;unfold qP at hf;dsimp only at hf;cases hb:lG ds with
  |none=>rw[hb] at hf;cases hf
  |some bs =>
   rw[hb] at hf;cases hf;exact⟨a,vs,bs,rfl,.inl ha,wM qa hb,k _ H (.refl H) (.of (.bool _))⟩
 ·obtain⟨a,vs,rfl,ha,qa⟩:=hx.tuple;rename_i ds;unfold qP at hf;dsimp only at hf;cases hb:lG ds with
  |none=>rw[hb] at hf;cases hf
  |some bs =>
   rw[hb] at hf;cases hf;exact⟨a,vs,bs,rfl,.inr ha,wM qa hb,k _ H (.refl H) (.of (.bool _))⟩
theorem LW:OD X (fun x y H Q=>(fun xs H Q=>∃i j,xs=[.int i,.int j]/\Q (.int (if j>i then j else i)) H:List V->Hp->VK->Prop) [x,y] H Q) AY:=by
 intro x y vx vy H O r Q ne hx hy hf k;obtain⟨_,_,rfl,rfl⟩:=pS (fun x y n=>by cases x <;> first|rfl|exact absurd rfl (n _)) (fun i y n=>by cases y <;> first|rfl|exact absurd rfl (n _)) hf;cases hf;cases hx.int;cases hy.int;exact⟨_,_,rfl,k _ H (.refl H) (.of (.int _))⟩
theorem LV:OD X (fun x y H Q=>(fun xs H Q=>∃i j,xs=[.int i,.int j]/\Q (.int (if j<i then j else i)) H:List V->Hp->VK->Prop) [x,y] H Q) xu:=by
 intro x y vx vy H O r Q ne hx hy hf k;obtain⟨_,_,rfl,rfl⟩:=pS (fun x y n=>by cases x <;> first|rfl|exact absurd rfl (n _)) (fun i y n=>by cases y <;> first|rfl|exact absurd rfl (n _)) hf;cases hf;cases hx.int;cases hy.int;exact⟨_,_,rfl,k _ H (.refl H) (.of (.int _))⟩
theorem jQ (hm:X.mg "len" = none)(ha:DB X a fb)(hg:L2.Gl X "len" := by rfl)(he:starEach [a] X.env=(false,eval a X.env)::starEach [] X.env:=by rfl):DE X (.Call (.Name "len" p) [a] [] pos) (d1 gn fb):=qk L2.call_len_seq Ls hm PySem.boot_len ha hg (by decide) (by decide) he
theorem eJ (hm:X.mg "tuple" = none)(ha:DB X a fb)(hg:L2.Gl X "tuple" := by rfl)(he:starEach [a] X.env=(false,eval a X.env)::starEach [] X.env:=by rfl):DE X (.Call (.Name "tuple" p) [a] [] pos) (d1 dh fb):=Hw L2.call_tuple_of FA hm PyProof.Rows.boot_tuple ha hg (by decide) (by decide) he
theorem BA (hc:X.calm=true)(hm:X.mg "all" = none)(ha:DB X a fb)(hg:L2.Gl X "all" := by rfl)(he:starEach [a] X.env=(false,eval a X.env)::starEach [] X.env:=by rfl):DE X (.Call (.Name "all" p) [a] [] pos) (d1 qP fb):=qk (L2.call_allB hc) Lv hm PyProof.Rows.boot_all ha hg (by decide) (by decide) he
theorem ME (hc:X.calm=true)(hm:X.mg "max" = none)(ha:DB X a fb)(hb:DB X b gb)(hg:L2.Gl X "max" := by rfl)(he:starEach [a,b] X.env=(false,eval a X.env)::starEach [b] X.env:=by rfl)(vc:starEach [b] X.env=(false,eval b X.env)::starEach [] X.env:=by rfl)(nP:(backTo pos (starEach [b] X.env)).any (·.1)=false:=by rfl) :
  DE X (.Call (.Name "max" p) [a,b] [] pos) (d2 AY fb gb):=zS (L2.call_max2 hc) LW hm PyProof.Rows.boot_max ha hb hg (by decide) (by decide) he vc nP
theorem Hs (hc:X.calm=true)(hm:X.mg "min" = none)(ha:DB X a fb)(hb:DB X b gb)(hg:L2.Gl X "min" := by rfl)(he:starEach [a,b] X.env=(false,eval a X.env)::starEach [b] X.env:=by rfl)(vc:starEach [b] X.env=(false,eval b X.env)::starEach [] X.env:=by rfl)(nP:(backTo pos (starEach [b] X.env)).any (·.1)=false:=by rfl) :
  DE X (.Call (.Name "min" p) [a,b] [] pos) (d2 xu fb gb):=zS (L2.call_min2 hc) LV hm PyProof.Rows.boot_min ha hb hg (by decide) (by decide) he vc nP
noncomputable def HY:List String:=["bool", "int", "str", "tuple", "list"]
noncomputable def Ew (t T:String):Bool:=T==t||(t == "bool" && T == "int")
theorem tQ (K:Fg):∀t∈HY,∀T∈HY,PySem.W.kitOne K (.type t) (.type T)=some (Ew t T):=by
 intro t ht T hT;simp only[HY,bj,bC,or_false] at ht hT;rcases ht with rfl|rfl|rfl|rfl|rfl <;> rcases hT with rfl|rfl|rfl|rfl|rfl <;> kernel_rfl
theorem Lu {T:String}(hT:T∈HY):UD X (fun x H Q=>∃t b,L2.KdV X.K H x t/\PySem.W.kitOne X.K (.type t) (.type T)=some b/\Q (.bl b) H) (md T):=by
 intro x vx H O r Q ne hx hf k;cases x <;> first|cases hf|skip
 ·cases hx.bool;refine⟨"bool", _,rfl,tQ _ _ (by simp[HY]) _ hT,?_⟩;have:=k _ H (.refl H) (.of (.bool _));simp only[CV] at this;simpa [Ew] using this
 ·cases hx.int;refine⟨"int", _,rfl,tQ _ _ (by simp[HY]) _ hT,?_⟩;have:=k _ H (.refl H) (.of (.bool _));simp only[CV] at this;simpa [Ew] using this
 ·cases hx.str;refine⟨"str", _,rfl,tQ _ _ (by simp[HY]) _ hT,?_⟩;have:=k _ H (.refl H) (.of (.bool _));simp only[CV] at this;simpa [Ew] using this
 ·obtain⟨a,vs,rfl,ha,qa⟩:=hx.list;refine⟨"list", _,.inr ⟨rfl,vs,ha⟩,tQ _ _ (by simp[HY]) _ hT,?_⟩;have:=k _ H (.refl H) (.of (.bool _));simp only[CV] at this;simpa [Ew] using this
 ·obtain⟨a,vs,rfl,ha,qa⟩:=hx.tuple;refine⟨"tuple", _,.inl ⟨rfl,vs,ha⟩,tQ _ _ (by simp[HY]) _ hT,?_⟩;have:=k _ H (.refl H) (.of (.bool _));simp only[CV] at this;simpa [Ew] using this
theorem qZ {y:Str}{T:String}{p2:Pos}(hm:X.mg "isinstance" = none)(O7:X.mg y=none)(Vi:bootBuiltins y=some (.type T))(ha:DB X a fb)(hT:T∈HY:=by decide)(hg:L2.Gl X "isinstance" := by rfl)(Pg:L2.Gl X y:=by rfl)(Vs:y ≠ "__name__" := by decide)(VO:(y==("__debug__" : Str))=false:=by decide)
  (he:starEach [a,.Name y p2] X.env=(false,eval a X.env)::starEach [.Name y p2] X.env:=by rfl) (vc:starEach [.Name y p2] X.env=(false,eval (.Name y p2) X.env)::starEach [] X.env:=by rfl) (nP:(backTo pos (starEach [.Name y p2] X.env)).any (·.1)=false:=by rfl) :
  DE X (.Call (.Name "isinstance" p) [a,.Name y p2] [] pos) (d1 (md T) fb) :=
 (L2.pe_callB L2.call_isa hg hm PyProof.Rows.boot_isinstance (L2.pa_cons ha (L2.pa_cons (L2.pe_bltn (v:=.ty T) Pg O7 Vi rfl Vs VO) L2.pa_nil vc) he) (by decide) (by decide) he nP).imp fun σ H Q h=>by
  obtain⟨ρ,O,M,cK,res,hE,hf,k⟩:=h;unfold d1 at hf;obtain⟨x,hx,hf⟩:=Option.bind_eq_some_iff.mp hf;refine⟨ρ,O,M,cK,x,hE,hx,fun vx H1 s1 q1=>?_⟩;obtain⟨t,b,kd,e,q⟩:=Lu hT x vx H1 O res Q (hE.same s1).ne q1 hf fun v H' s q=>k v H' (s1.trans s) (q.back s1);exact⟨vx,t,T,b,rfl,kd,e,q⟩
end
def E6 (n:Nat)(g:GD):Prop:=∀d ρ gE,g d ρ=some gE->gE.length=ρ.length/\∀i:Nat,n<=i->gE[i]?=ρ[i]?
theorem dG {n i:Nat}(h:i<n:=by decide):E6 n (gN i):=fun d ρ gE e=>by
 cases e;exact⟨by rw[aX],fun j hj=>by rw[aj ⋯]⟩
def Dv (n:Nat)(gs:List GD):Prop:=∀ds ρ gE,pX gs ds ρ=some gE->gE.length=ρ.length/\∀i:Nat,n<=i->gE[i]?=ρ[i]?
theorem CI {n:Nat}:Dv n []:=fun ds ρ gE e=>by
 cases ds with
 |nil=>cases e;exact⟨rfl,fun _ _=>rfl⟩
 |cons _ _=>cases e
theorem mX {n:Nat}{g:GD}{gs:List GD}(h:E6 n g)(hs:Dv n gs):Dv n (g::gs):=fun ds ρ gE e=>by
 cases ds with
 |nil=>cases e
 |cons d ds =>
  unfold pX at e;obtain⟨hZ,hx,e⟩:=Option.bind_eq_some_iff.mp e;obtain⟨l1,q1⟩:=h _ _ _ hx;obtain⟨l2,q2⟩:=hs _ _ _ e;exact⟨l2.trans l1,fun i hi=>(q2 i hi).trans (q1 i hi)⟩
theorem CH {n:Nat}{gs:List GD}(hs:Dv n gs):E6 n (gT gs):=fun d ρ gE e=>by
 unfold gT at e;split at e
 ·exact hs _ _ _ e
 ·cases e
theorem ES {n:Nat}{ix:List Nat}{ρ:Sl}{i:Nat}(h:i<n):(fI n ix ρ)[i]?=some none:=by
 unfold fI;rw[aZ (by rw[bu];exact h),bT,if_pos h]
theorem ff {n:Nat}{ix:List Nat}{ρ:Sl}{i:Nat}{x:Vl}(h:(fI n ix ρ)[i]?=some (some x)):n<=i/\∃j,ix[i-n]?=some j/\ρ[j]?=some (some x):=by
 by_cases hi:i<n
 ·rw[ES hi] at h;cases h
 ·refine⟨by omega,?_⟩;unfold fI at h;rw[aR (by rw[bu];omega),bu,ay] at h;cases ej:ix[i-n]? with
  |none=>rw[ej] at h;cases h
  |some j =>
   rw[ej,au] at h;refine⟨j,rfl,?_⟩;cases er:ρ[j]? with
   |none=>rw[er] at h;cases h
   |some y=>rw[er] at h;exact congrArg some (Option.some.inj h)
theorem gY {n:Nat}{ix:List Nat}{σ:St}{i j:Nat}{v:V}(hi:n<=i)(hj:ix[i-n]?=some j)(h:σ[j]?=some (some v)):(L2.capt n ix σ)[i]?=some (some v):=by
 unfold L2.capt;rw[aR (by rw[bu];omega),bu,ay,hj,au,h];rfl
theorem ER.capt {K:Fg}{H:Hp}{O M:List Addr}{cK:Nat->Addr}{ρ:Sl}{σ:St}(n:Nat){ix:List Nat}(KP:ix.Nodup)(h:ER K H O M cK ρ σ):ER K H O M (fun i=>cK (ix.getD (i-n) 0)) (fI n ix ρ) (L2.capt n ix σ) where
 sh:=fun i d e=>by
  obtain⟨hi,j,hj,hr⟩:=ff e;obtain⟨v,e1,q⟩:=h.sh j d hr;exact⟨v,gY hi hj e1,q⟩
 ow:=fun i d e=>by
  obtain⟨hi,j,hj,hr⟩:=ff e;obtain⟨a,vs,e2,r⟩:=h.ow j d hr;exact⟨a,vs,gY hi hj e2,r⟩
 le:=fun i d e=>by
  obtain⟨hi,j,hj,hr⟩:=ff e;obtain⟨e2,r⟩:=h.le j d hr;have z:ix.getD (i-n) 0=j:=by rw[av,hj];rfl
  rw[z];exact⟨gY hi hj e2,r⟩
 ap:=fun i k d e a e1 e2 e3 e4=>by
  obtain⟨hi,j,hj,hr⟩:=ff e1;obtain⟨hk,l,hl,hs⟩:=ff e2;obtain⟨a1,_,f1,_⟩:=h.ow j d hr;obtain⟨a2,_,f2,_⟩:=h.ow l e hs;have g1:=gY hi hj f1;have g2:=gY hk hl f2;rw[e3] at g1;rw[e4] at g2;cases g1;cases g2;have:=h.ap j l d e a hr hs f1 f2;subst this;have:i-n=k-n:=by
   obtain⟨h1,z1⟩:=List.getElem?_eq_some_iff.mp hj;obtain⟨h2,z2⟩:=List.getElem?_eq_some_iff.mp hl;exact (Xh KP).mp (z1.trans z2.symm)
  omega
 tr:=h.tr
 sub:=h.sub
 len:=by
  unfold fI L2.capt;rw[aw,aw,bu,bu,ai,ai]
 dp:=by
  have inj:∀{i k j:Nat},n<=i->n<=k->ix[i-n]?=some j->ix[k-n]?=some j->i=k:=fun {i k j} hi hk h1 h2=>by
   obtain⟨l1,z1⟩:=List.getElem?_eq_some_iff.mp h1;obtain⟨l2,z2⟩:=List.getElem?_eq_some_iff.mp h2;have:i-n=k-n:=(Xh KP).mp (z1.trans z2.symm);omega
  refine⟨fun i ds e=>?_,fun i k ds es e1 e2=>?_⟩
  ·obtain⟨hi,j,hj,hr⟩:=ff e;rcases h.dp.pk j ds hr with ⟨EM,rfl,a,bs,h1,h2,h3,h4,h5,h6⟩|⟨kvs,rfl,a,es',h1,h2,h3,h5,h6⟩
   ·refine .inl ⟨EM,rfl,a,bs,gY hi hj h1,h2,h3,h4,h5,fun k es c z1 z2=>?_⟩;obtain⟨hk,l,hl,hs⟩:=ff z1;obtain⟨a2,_,f2,_⟩:=h.ow l es hs;have g2:=gY hk hl f2;rw[z2] at g2;cases g2;exact h6 l es c hs f2
   ·refine .inr ⟨kvs,rfl,a,es',gY hi hj h1,h2,h3,h5,fun k es c z1 z2=>?_⟩;obtain⟨hk,l,hl,hs⟩:=ff z1;obtain⟨a2,_,f2,_⟩:=h.ow l es hs;have g2:=gY hk hl f2;rw[z2] at g2;cases g2;exact h6 l es c hs f2
  ·obtain⟨hi,j,hj,hr⟩:=ff e1;obtain⟨hk,l,hl,hs⟩:=ff e2;have:=h.dp.one j l ds es hr hs;subst this;exact inj hi hk hj hl
theorem ER.K2 {K:Fg}{H:Hp}{O M:List Addr}{cK:Nat->Addr}{ρ de:Sl}{σ:St}(h:ER K H O M cK ρ σ)(hl:de.length=ρ.length)(le:∀(i:Nat) x,de[i]?=some (some x)->ρ[i]?=some (some x)):ER K H O M cK de σ :=
 ⟨fun i d e=>h.sh i d (le i _ e),fun i d e=>h.ow i d (le i _ e),fun i d e=>h.le i d (le i _ e),fun i j d e a e1 e2=>h.ap i j d e a (le i _ e1) (le j _ e2),h.tr,h.sub,hl.trans h.len,h.dp.go (.same (.refl _)) (fun i ds e=>⟨le i _ e,rfl⟩) (fun b hb _=>⟨hb,fun _ e=>e⟩) fun j es c e1 e2=>.inr ⟨j,es,le j _ e1,e2⟩⟩
theorem ER.more {K:Fg}{H H':Hp}{O O' M:List Addr}{cK:Nat->Addr}{ρ:Sl}{σ:St}(h:ER K H O M cK ρ σ)(x:jO [] O H O' H')(so:∀b∈O,b∈O')(tr:∀b∈O',∃u,H' b=some (oW u))(kl:∀b u,H b=some (oW u)->H' b=some (oW u)):ER K H' O' M cK ρ σ where
 sh:=fun i d e=>let ⟨v,e1,q⟩:=h.sh i d e;⟨v,e1,q.ext x⟩
 ow:=fun i d e=>let ⟨a,vs,e2,e3,e4,q⟩:=h.ow i d e;⟨a,vs,e2,kl _ (.inl _) e3,e4,q.ext x⟩
 le:=fun i d e=>let ⟨e2,vs,e3,e4,e5,q⟩:=h.le i d e;⟨e2,vs,kl _ (.inl _) e3,so _ e4,e5,q.ext x⟩
 ap:=h.ap
 tr:=tr
 sub:=fun b hb=>so b (h.sub b hb)
 len:=h.len
 dp:=h.dp.go x (fun _ _ e=>⟨e,rfl⟩) (fun b hb _=>⟨hb,fun vs e=>kl _ _ e⟩) fun j es c e1 e2=>.inr ⟨j,es,e1,e2⟩
theorem zT {K:Fg}{it:AD}{n:Nat}{ix:List Nat}{g:GD}{t:TD}{e:ED}(KP:ix.Nodup)(hg:E6 n g){σ:St}{H:Hp}{Q:VK}(h:uE K (da it n ix g t e) σ H Q) :
  L2.tComp (uI K it) n ix (uG K g) (uT K t) (uE K e) σ H Q:=by
 obtain⟨ρ,O,M,cK,res,hE,hf,k⟩:=h;unfold da at hf;cases hd:it ρ with
 |none=>rw[hd] at hf;cases hf
 |some ds =>
  rw[hd,ae] at hf;split at hf
  ·rename_i hz;cases hc:jE g t e (fI n ix ρ) ds with
   |none=>rw[hc] at hf;cases hf
   |some xs =>
    rw[hc,au] at hf;cases hf;refine⟨ρ,O,M,cK,ds,hE,hd,fun J H1 s1 OR=>fun L hL=>?_⟩;have Ue:L∉O:=fun z=>(hE.same s1).ne L z hL;refine⟨fun i m eX H'=>m=ds.length-i/\i<=ds.length/\cY H1 H'/\∃ys vs,ys.length<=i/\H' L=some (.lst vs)/\Rs K H' (L::O) ys vs/\ER K H' (L::O) M (fun i=>cK (ix.getD (i-n) 0)) (fI n ix ρ) eX ∧
     (jE g t e (fI n ix ρ) (ds.drop i)).map (fun r=>ys++r)=some xs,⟨ds.length,by simp,bB _,?_,[],[],bB _,cN,.nil,?_,by simp[hc]⟩,?_⟩
    ·exact fun b o e=>by rw[cC (cE e hL)];exact e
    ·have E1:=(hE.same s1).capt n KP;have x:jO [] O H1 (L::O) (eF H1 L (.lst [])):=jO.fresh (fun b o e=>by rw[cC (cE e hL)];exact e) hL;refine E1.more x (fun b hb=>aG _ hb) (fun b hb=>?_) fun b vs e=>by rw[cC (cE e hL)];exact e
     rcases List.mem_cons.mp hb with z|z
     ·subst z;exact⟨.inl [],cN⟩
     ·obtain⟨vs,e⟩:=E1.tr b z;exact⟨vs,by rw[cC (cE e hL)];exact e⟩
    ·rintro i m eX H' ⟨rfl,hi,sm,ys,vs,hl,hD,qs,E',gB⟩;have x0:jO [] O H1 (L::O) H':=jO.fresh sm hL;have x:jO M O H1 (L::O) H':=⟨x0.tup,x0.frz,fun b xs _ e=>sm b _ e,fun b φ _ e=>sm b _ e,x0.new,hE.sub⟩;obtain⟨go,stop⟩:=OR _ _ x;by_cases kX:i<ds.length
     ·have ed:ds.drop i=ds[i]::ds.drop (i+1):=WN kX;rw[ed] at gB;unfold jE at gB;cases KR:g ds[i] (fI n ix ρ) with
      |none=>rw[KR] at gB;cases gB
      |some gE =>
       rw[KR,ae] at gB;cases ht:t gE with
       |none=>rw[ht] at gB;cases gB
       |some c =>
        rw[ht,ae] at gB;obtain⟨g1,g2⟩:=go i ds[i] (by simp[kX]);obtain⟨ln,keep⟩:=hg _ _ _ KR;have back:∀(j:Nat) y,(fI n ix ρ)[j]?=some (some y)->gE[j]?=some (some y):=fun j y e=>by
         rw[keep j (ff e).1];exact e
        refine .inr ⟨g1,fun sg H2=>cY H1 H2/\∃ys vs,ys.length<=i+1/\H2 L=some (.lst vs)/\Rs K H2 (L::O) ys vs/\ER K H2 (L::O) M (fun i=>cK (ix.getD (i-n) 0)) (fI n ix ρ) sg/\(jE g t e (fI n ix ρ) (ds.drop (i+1))).map (fun r=>ys++r)=some xs,
         fun sg H2 ⟨s2,r⟩=>⟨ds.length-(i+1),by omega,rfl,kX,s2,r⟩,fun v H2 hy=>?_⟩
        obtain⟨s2,q2⟩:=g2 v H2 hy;refine⟨_,_,M,_,ds[i],gE,E'.same s2,q2,KR,fun rm H3 s3 E3=>⟨gE,_,M,_,c,E3,ht,fun H4 s4=>?_⟩⟩;have S4:cY H' H4:=(s2.trans s3).trans s4;have E4:ER K H4 (L::O) M (fun i=>cK (ix.getD (i-n) 0)) gE rm:=E3.same s4;cases c with
        |false =>
         dsimp only at gB ⊢;rw[if_neg Bool.false_ne_true] at gB ⊢;exact⟨sm.trans S4,ys,vs,by omega,S4 _ _ hD,qs.same S4,E4.K2 ln.symm back,gB⟩
        |true =>
         dsimp only at gB ⊢;rw[if_pos rfl] at gB ⊢;cases he:e gE with
         |none=>rw[he] at gB;cases gB
         |some r1 =>
          rw[he,ae] at gB;cases KU:jE g t e (fI n ix ρ) (ds.drop (i+1)) with
          |none=>rw[KU] at gB;cases gB
          |some zs =>
           rw[KU,au,au] at gB;cases gB;refine⟨gE,_,M,_,r1,E4,he,fun y H5 s5 q5=>?_⟩;have S5:cY H' H5:=S4.trans s5;have Se:=qs.length;have qy:=q5.toR E4.ne;have s6:jO [L] (L::O) H5 (L::O) (eF H5 L (.lst (vs++[y]))):=by
            have Uh:=S5 _ _ hD;refine⟨fun b xs e=>?_,fun b o u e=>?_,fun b xs nb e=>?_,fun b φ nb e=>?_,fun b hb=>.inl hb,fun b hb=>(List.mem_singleton.mp hb)▸aP⟩
            ·rw[cC (fun (z:b=L)=>by rw[z,Uh] at e;cases e)];exact e
            ·rw[cC (fun (z:b=L)=>by rw[z,Uh] at e;cases e)];exact e
            ·rw[cC (fun (z:b=L)=>nb (by rw[z];exact List.mem_singleton.mpr rfl))];exact e
            ·rw[cC (fun (z:b=L)=>nb (by rw[z];exact List.mem_singleton.mpr rfl))];exact e
           have kl:∀b us,b≠L->H5 b=some (oW us)->(eF H5 L (.lst (vs++[y]))) b=some (oW us):=fun b us nb e=>by rw[cC nb];exact e
           refine⟨vs,S5 _ _ hD,by omega,?_,ys++[r1.1],vs++[y],by rw[aw,aY];omega,cN,((qs.same S5).append (.cons qy .nil)).ext s6,?_,by rw[au,bg];rfl⟩
           ·intro b o e;rw[cC (cE e hL)];exact S5 _ _ (sm _ _ e)
           ·have E5:ER K H5 (L::O) M (fun i=>cK (ix.getD (i-n) 0)) (fI n ix ρ) rm:=(E4.same s5).K2 ln.symm back;have nM:∀b∈M,b≠L:=fun b hb z=>Ue (z▸hE.sub b hb);have nL:∀(j:Nat) (d:List D),(fI n ix ρ)[j]?=some (some (iP d,true))->cK (ix.getD (j-n) 0)≠L:=fun j d e z=>by
             obtain⟨hi,j',hj,hr⟩:=ff e;obtain⟨_,_,_,e4,_⟩:=hE.le j' d hr;have z':ix.getD (j-n) 0=j':=by rw[av,hj];rfl
             rw[z'] at z;exact Ue (z▸e4)
            exact⟨fun j d e=>let ⟨w,e1,q⟩:=E5.sh j d e;⟨w,e1,q.ext s6⟩,
             fun j d e=>let ⟨a,us,e2,e3,e4,q⟩:=E5.ow j d e;⟨a,us,e2,kl _ (.inl _) (nM a e4) e3,e4,q.ext s6⟩,
             fun j d e=>let ⟨e2,us,e3,e4,e5,q⟩:=E5.le j d e;⟨e2,us,kl _ (.inl _) (nL j d e) e3,e4,e5,q.ext s6⟩,E5.ap,
             fun b hb=>by
              by_cases z:b=L
              ·subst z;exact⟨.inl _,cN⟩
              ·obtain⟨us,e⟩:=E5.tr b hb;exact⟨us,kl b us z e⟩,E5.sub,E5.len,
             E5.dp.go s6 (fun _ _ e=>⟨e,rfl⟩) (fun b hb _=>⟨hb,fun us e=>kl b us (nM b hb) e⟩) fun j es c e1 e2=>.inr ⟨j,es,e1,e2⟩⟩
     ·have ei:i=ds.length:=by omega
      subst ei;rw[Xi] at gB;unfold jE at gB;rw[au,bw] at gB;have ee:=Option.some.inj gB;subst ee;exact .inl ⟨stop,k _ H' (s1.trans sm) (.inr ⟨rfl,L,ys,vs,rfl,rfl,s1.free hL,hD,qs⟩)⟩
  ·cases hf
section
variable {X:Cx}{e a b c elt tg iter:Expr}{es ifs:List Expr}{f g:ED}{fb gb Nv kb:BD}{t u:TD}{pos:Pos}{it:AD}{gd:GD}{scope:Scope}{own caps:List Str}{ix:List Nat}
def QJ (X:Cx)(ifs:List Expr)(t:TD):Prop:=L2.PTs X ifs (uT X.K t)
theorem fV:QJ X [] f9:=L2.pts_nil.imp fun σ H Q zz=>by
 obtain ⟨ρ,O,M,cK,b,hE,hf,k⟩:=zz;cases hf;exact k H (.refl H)
theorem De (h:DT X c t):QJ X [c] t:=L2.pts_one h
theorem gj (S:L2.CompSc X.env.scope X.N scope own ix caps)(hc:X.calm=true)(KP:ix.Nodup)(hw:E6 own.length gd)(hi:DI X tg iter it)
  (hg:∀eC cM ex pn,DG (L2.compCx X scope (own++caps) eC cM ex pn) tg gd) (ht:∀eC cM ex pn,QJ (L2.compCx X scope (own++caps) eC cM ex pn) ifs t) (he:∀eC cM ex pn,DE (L2.compCx X scope (own++caps) eC cM ex pn) elt f)
  (hs:∀x,foldedSetIterable iter X.env x=pure x:=by intro _;rfl):DE X (.ListComp elt [⟨tg,iter,ifs,0⟩] scope pos) (da it own.length ix gd t f) :=
 (L2.pe_lcomp (g:=uG X.K gd) (tc:=uT X.K t) (te:=uE X.K f) S hc hi hg ht he hs).imp fun σ H Q h=>zT KP hw h
theorem xZ {FP py:Pos}{i:Nat}{y:Str}(hN:X.N.Nodup)(S:L2.CompSc X.env.scope X.N scope own ix caps)(hc:X.calm=true)(KP:ix.Nodup)(hw:E6 own.length gd)(hi:DI X tg iter it)
  (hg:∀eC cM ex pn,DG (L2.compCx X scope (own++caps) eC cM ex pn) tg gd) (ht:∀eC cM ex pn,QJ (L2.compCx X scope (own++caps) eC cM ex pn) ifs t) (he:∀eC cM ex pn,DE (L2.compCx X scope (own++caps) eC cM ex pn) elt f)
  (Sg:X.N[i]?=some y:=by rfl) (hy:X.env.scope.names.lookup y=some .local:=by rfl)
  (Ml:swapsWith (.ListComp elt [⟨tg,iter,ifs,0⟩] scope pos) (some (.Name y py)) FP.line X.env=pure true:=by rfl)
  (hs:∀x,foldedSetIterable iter X.env x=pure x:=by intro _;rfl):DS X (.Assign [.Name y py] (.ListComp elt [⟨tg,iter,ifs,0⟩] scope pos) FP) (cH i (da it own.length ix gd t f)):=fun B cM cT cK =>
 (L2.ps_lcomp (g:=uG X.K gd) (tc:=uT X.K t) (te:=uE X.K f) S hc hN Sg hy hi hg ht he Ml hs).imp fun E σ H h=>zT KP hw (Cv h)
noncomputable def uL (K:Fg)(f:LD):TE:=fun σ H Q=>∃ρ O M cK ds,ER K H O M cK ρ σ/\f ρ=some ds/\∀v H',cY H H'->(∃a vs,v=.ref a/\H' a=some (.lst vs)/\Rs K H' O ds vs)->Q v H'
def Uv (X:Cx)(e:Expr)(f:LD):Prop:=PE X e (uL X.K f)
theorem K4 (h:DE X e f):Uv X e (KJ f):=h.imp fun σ H Q zz=>by
 obtain ⟨ρ,O,M,cK,ds,hE,hf,k⟩:=zz;unfold KJ at hf;obtain⟨r,hr,hf⟩:=Option.bind_eq_some_iff.mp hf;split at hf
 ·cases hf;refine⟨ρ,O,M,cK,_,hE,hr,fun v H1 s1 q1=>k v H1 s1 ?_⟩;rcases q1 with ⟨z,_⟩|⟨_,a,es,vs,e1,e2,e3,e4,q⟩
  ·cases z
  ·cases e1;exact⟨a,vs,e2,e4,q.ext (.less fun b hb=>aG _ hb)⟩
 ·cases hf
theorem zr {K:Fg}{H H1:Hp}{O:List Addr}{ds:List D}{vs:List V}{Q:VK}(s1:cY H H1)(qa:Rs K H1 O ds vs)(k:∀v H',cY H H'->yl K H O H' (.list ds,true) v->Q v H'):∀l,H1 l=none->Q (.ref l) (eF H1 l (.lst vs)):=fun p hp=>by
 have s2:cY H1 (eF H1 p (.lst vs)):=fun b o e=>by rw[cC (cE e hp)];exact e
 refine k _ _ (s1.trans s2) (.inr ⟨rfl,p,ds,vs,rfl,rfl,s1.free hp,cN,qa.ext (jO.fresh s2 hp)⟩)
theorem Di {fl:LD}(ha:Uv X a fl)(hb:DB X b gb):DE X (.BinOp a .Mult b pos) (rP fl gb):=(L2.pe_op L2.op_rep ha hb).imp fun σ H Q zz=>by
 obtain ⟨ρ,O,M,cK,r,hE,hf,k⟩:=zz;unfold rP at hf;obtain⟨xs,hx,hf⟩:=Option.bind_eq_some_iff.mp hf;obtain⟨y,hy,hf⟩:=Option.bind_eq_some_iff.mp hf;split at hf
 ·split at hf
  ·rename_i j hz;cases hf;refine⟨ρ,O,M,cK,xs,hE,hx,fun v H1 s1 ⟨a,vs,e1,e2,q1⟩=>⟨ρ,O,M,cK,_,hE.same s1,hy,fun w H2 s2 q2=>?_⟩⟩;have l1:=q1.length;exact⟨a,j,vs,e1,q2.int,s2 _ _ e2,hz.1,hz.2.1,by rw[<-l1];exact hz.2.2,zr (s1.trans s2) ((q1.same s2).rep j.toNat) k⟩
  ·cases hf
 ·cases hf
end
theorem C9 {n m:Nat}{b:SD}{ds:List D}{r:Vl}(h:lR n m b ds=some r):ds.length=n:=by
 unfold lR at h;split at h
 ·assumption
 ·cases h
theorem F1 {K:Fg}{H:Hp}{B:List Addr}{m:Nat}{ds:List D}{vs:List V}(q:Rs K H B ds vs)(tr:∀a∈B,∃u,H a=some (oW u))(cK:Nat->Addr):ER K H ([]++B) [] cK (ds.map (fun d=>some (d,false))++aK m none) (vs.map some++aK m none):=by
 have fl:∀{i:Nat}{d:D}{o:Bool},(ds.map (fun d=>some (d,false))++aK m none:Sl)[i]?=some (some (d,o))->o=false/\ds[i]?=some d:=fun {i d o} e=>by
  by_cases hi:i<ds.length
  ·rw[aZ (by rw[ai];exact hi),ay] at e;cases er:ds[i]? with
   |none=>rw[er] at e;cases e
   |some d'=>rw[er] at e;cases e;exact⟨rfl,rfl⟩
  ·rw[aR (by rw[ai];omega),bT] at e;split at e <;> cases e
 refine⟨fun i d e=>?_,fun i d e=>?_,fun i d e=>?_,fun i j d e a e1=>?_,tr,(fun a ha=>nomatch ha),by rw[aw,aw,ai,ai,q.length];simp,.none_ fun i x e=>(fl (d:=x.1) (o:=x.2) e).1⟩
 ·obtain⟨_,ed⟩:=fl e;obtain⟨v,ev,rv⟩:=q.get ed;refine⟨v,?_,rv⟩;have hi:i<vs.length:=(List.getElem?_eq_some_iff.mp ev).1;rw[aZ (by rw[ai];exact hi),ay,ev];rfl
 ·cases (fl e).1
 ·cases (fl e).1
 ·cases (fl e1).1
theorem fU {P:Program}{w:World}{K:Fg}{mg:Str->Option Value}{base:Heap}{x qual:Str}{st:Stmt}{f:Addr}{fd:FuncData}{N ps:List Str}{k:Nat}{b:SD}(F:L2.Fun K x qual st f fd)(S:L2.FnScope N ps (L2.defScope st))
  (hb:∀(gD:Value) (A:Around) (outer:List Env) (s:Shared) (H:Hp) (E:L2.XK),L2.Room k (A.deeper (PyProof.Rows.envOfC qual (L2.defScope st) s.heap.objs.size f gD))->HX (L2.cxOf L2.CX0 P w K mg base N qual (L2.defScope st) f gD A outer s H E).Gu (L2.defBody st) b) :
  L2.FnOk P w K mg base L2.CX0 (k+1) f fd ps (spD K (lR ps.length (N.length-ps.length) b)):=by
 refine F.ok S (fun vs H Q E zz=>by obtain ⟨ds,B,r,q,_,hF,_⟩:=zz; rw[<-q.length];exact C9 hF) fun gD A outer s H vs Q E hr zz=>?_;obtain ⟨ds,B,r,q,tr,hF,kk⟩:=zz;have hl:=C9 hF;refine⟨_,hb gD A outer s H E hr B H [] (fun _=>f),?_⟩;unfold lR at hF;rw[if_pos hl] at hF;obtain⟨fl,VI,hF⟩:=Option.bind_eq_some_iff.mp hF;have same:∀{M':List Addr}{H':Hp},iB [] H M' H'->cY H H':=fun x b o e=>x.keep b o (fun z=>(nomatch z)) e;refine⟨_,fl,⟨[],.refl [] H,(fun _ z=>nomatch z),?_⟩,VI,?_⟩
 ·have:=F1 (m:=N.length-ps.length) q tr (fun _=>f);unfold L2.start;rw[<-q.length,hl];exact this
 ·cases fl with
  |next ρ =>
   cases hF;exact fun σ H' ⟨M',x,_,_⟩=>kk _ H' (same x) (.of .none)
  |ret r' =>
   cases hF;refine fun v H' ⟨⟨M',x⟩,q'⟩=>kk v H' (same x) ?_;rcases q' with q'|⟨e,a,es,us,e1,e2,e3,e4,q'⟩
   ·exact .inl q'
   ·exact .inr ⟨e,a,es,us,e1,e2,e3.elim (fun z=>(nomatch z)) id,e4,q'⟩
  |brk ρ=>cases hF
  |cont ρ=>cases hF
theorem jf {X:Cx}{st:Stmt}{F:SD}(i:Nat)(h:DS X st F):DS X st (gc i F):=fun B cM cT cK=>(h B cM cT cK).imp fun E σ H zz=>by
 obtain ⟨ρ,fl,hR,hf,k⟩:=zz;unfold gc at hf;cases hx:F ρ with
 |none=>rw[hx] at hf;cases hf
 |some Um =>
  rw[hx,au] at hf;refine⟨ρ,Um,hR,hx,?_⟩;cases Um with
  |next de=>cases hf;exact fun eX H' r=>k eX H' (r.share i)
  |ret r=>cases hf;exact k
  |brk de=>cases hf;exact k
  |cont de=>cases hf;exact k
structure gf (P:Program)(w:World)(K:Fg)(mg:Str->Option Value)(base:Heap)(k:Nat)(x:Str)(ps:List Str)(F:FD):Prop where
 ex:∃(fa:Addr) (fd:FuncData),L2.FnOk P w K mg base L2.CX0 k fa fd ps (spD K F)/\mg x=some (.ref fa)/\PySem.W.keepIn K (.ref fa)=true/\L2.Binds K fd ps []
theorem df {X:Cx}{e:Expr}{es:List Expr}{pos p:Pos}{k j:Nat}{ps:List Str}{F:FD}{x:Str}{t:AD}(G:gf X.prog X.w X.K X.mg X.base k x ps F)(hr:L2.Room j X.A)(ha:DA X (e::es) t)(hj:k<=j:=by decide)(hg:L2.Gl X x:=by rfl)
  (vv:(x==("__debug__" : Str))=false:=by decide) (he:starEach (e::es) X.env=(false,eval e X.env)::starEach es X.env:=by rfl) (nP:(backTo pos (starEach es X.env)).any (·.1)=false:=by rfl) :
  DE X (.Call (.Name x p) (e::es) [] pos) (cF F t):=by
 obtain⟨fa,fd,h1,h2,h3,h4⟩:=G.ex;exact J8 h1 (hr.mono hj) hg h2 h3 h4 ha vv he nP
open L2 (V Hp St HO VK Cx jN jT)
noncomputable def Dk (osc:Scope)(oN:List Str)(scope:Scope)(own:List Str)(ix:List Nat)(caps:List Str):Bool :=
 decide (scope.kind=.function)&&decide ((own++caps).Nodup)&&own.all (fun x=>scope.names.lookup x==some .local||scope.names.lookup x==some .cell)&&decide (ix.map (fun j=>oN[j]?)=caps.map some) &&
 scope.names.all (fun p=>p.2 != .free||osc.names.lookup p.1==some .cell||osc.names.lookup p.1==some .free)&&caps.all (fun y=>scope.names.any fun p=>p.1==y&&p.2==.free)&&scope.names.all (fun p=>scope.names.lookup p.1==some p.2)
theorem fE {X:Cx}{osc scope:Scope}{oN own caps:List Str}{ix:List Nat}(h1:X.env.scope=osc)(h2:X.N=oN)(h:Dk osc oN scope own ix caps=true):L2.CompSc X.env.scope X.N scope own ix caps:=by
 rw[h1,h2];unfold Dk at h;simp only[Bool.and_eq_true,decide_eq_true_eq,WS,Bool.or_eq_true,beq_iff_eq,List.any_eq_true,bne_iff_ne,ne_eq] at h;obtain⟨⟨⟨⟨⟨⟨a1,a2⟩,a3⟩,a4⟩,a5⟩,a6⟩,a7⟩:=h;refine⟨a1,a2,a3,a4,fun p hp hf=>?_,fun y hy=>?_,a7⟩
 ·rcases a5 p hp with (z|z)|z
  ·exact absurd hf z
  ·exact .inl z
  ·exact .inr z
 ·obtain⟨⟨z,k⟩,hp,e1,e2⟩:=a6 y hy;simp only at e1 e2;subst e1 e2;exact hp
theorem CA {K:Fg}{H:Hp}{O:List Addr}:∀ns:List Int,Rs K H O (ns.map .int) (ns.map V.int)
 |[]=>.nil
 |n::ns=>.cons (.int n) (CA ns)
theorem law_end {K:Fg}{H:Hp}{a:Addr}{ns:List Int}{F:FD}(hS:jT K H a (ns.map V.int))(hl:ns.length<=63)(h:∀ns:List Int,ns.length<=63->F [.list (ns.map .int)]=some (.bool true,false)) :
  spD K F [.ref a] H (fun v _=>v=.bl true) fun _ _ _=>False:=by
 refine⟨[.list (ns.map .int)],[],_,.cons (.list ?_ (CA ns)) .nil,(fun _ z=>nomatch z),h ns hl,fun v H' s q=>?_⟩
 ·rcases hS with (z|z)|z
  ·exact .inl ⟨z,fun w=>nomatch w⟩
  ·exact .inr (.inl z)
  ·exact .inr (.inr z)
 ·rcases q with ⟨_,q⟩|⟨z,_⟩
  ·cases q;rfl
  ·cases z
theorem len1 {α:Type}{us:List α}(h:us.length=1):∃a0,us=[a0]:=match us,h with|[a0],_=>⟨a0,rfl⟩
theorem len2 {α:Type}{us:List α}(h:us.length=2):∃a0 a1,us=[a0,a1]:=match us,h with|[a0,a1],_=>⟨a0,a1,rfl⟩
theorem len3 {α:Type}{us:List α}(h:us.length=3):∃a0 a1 a2,us=[a0,a1,a2]:=match us,h with|[a0,a1,a2],_=>⟨a0,a1,a2,rfl⟩
theorem len4 {α:Type}{us:List α}(h:us.length=4):∃a0 a1 a2 a3,us=[a0,a1,a2,a3]:=match us,h with|[a0,a1,a2,a3],_=>⟨a0,a1,a2,a3,rfl⟩
theorem len5 {α:Type}{us:List α}(h:us.length=5):∃a0 a1 a2 a3 a4,us=[a0,a1,a2,a3,a4]:=match us,h with|[a0,a1,a2,a3,a4],_=>⟨a0,a1,a2,a3,a4,rfl⟩
open PySem
theorem MO {i j:Int}(h1:-(2 ^ 64)<j)(h2:j<2 ^ 64):BW i j=true:=by
 simp only[BW,Bool.or_eq_true,Bool.and_eq_true,decide_eq_true_eq];exact Or.inr ⟨h1,h2⟩
theorem MP {i j:Int}(h1:-(2 ^ 64)<i)(h2:i<2 ^ 64):BW i j=true:=by
 simp only[BW,Bool.or_eq_true,Bool.and_eq_true,decide_eq_true_eq];exact Or.inl ⟨h1,h2⟩
theorem xt {i j:Int}(h1:-(2 ^ 64)<j)(h2:j<2 ^ 64):pP (.int i) (.int j)=some (.int (i*j),false):=by
 unfold pP;simp[MO h1 h2]
theorem Gn {i j:Int}(h1:-(2 ^ 64)<i)(h2:i<2 ^ 64):pP (.int i) (.int j)=some (.int (i*j),false):=by
 unfold pP;simp[MP h1 h2]
theorem iO {i j:Int}(h:0<j):nZ (.int i) (.int j)=some (.int (i%j),false):=by
 unfold nZ;simp[h]
theorem tK {i j:Int}(h:0<j)(h2:j<1073741824):AZ (.int i) (.int j)=some (.int (i/j),false):=by
 unfold AZ;simp[h,h2]
theorem LY:Gm (.int 10) (.int 9)=some (.int 1000000000,false):=by
 simp[Gm]
theorem Cp:(0:Nat)<=sizeLine:=bB _
theorem Kt:(1:Nat)<=sizeLine:=by decide
theorem IK:(2:Nat)<=sizeLine:=by decide
theorem UM:(3:Nat)<=sizeLine:=by decide
theorem UL:(4:Nat)<=sizeLine:=by decide
theorem Aj {n:Nat}(h:n<=1000000):n<=sizeLine:=bK h (by decide)
theorem wZ {n:Nat}(h:n<1000000):n<sizeLine:=aM h (by decide)
theorem wG {f:LD}{g:BD}{ρ:Sl}{xs:List D}{n:Nat}(hf:f ρ=some xs)(hg:g ρ=some (.int (n:Int)))(h1:n<1000)(h2:xs.length*n<=sizeLine):rP f g ρ=some (.list (aK n xs).flatten,true):=by
 unfold rP;rw[hf,ae,hg,ae];dsimp only;rw[if_pos ⟨by omega,by omega,h2⟩];rfl
mutual
inductive Nb:Nat->D->Prop where
 |int (n:Nat) (i:Int):Nb n (.int i)
 |tuple {n:Nat}{ds:List D}:pE n ds->Nb (n+1) (.tuple ds)
 |list {n:Nat}{ds:List D}:pE n ds->Nb (n+1) (.list ds)
inductive pE:Nat->List D->Prop where
 |nil {n:Nat}:pE n []
 |cons {n:Nat}{d:D}{ds:List D}:Nb n d->pE n ds->pE n (d::ds)
end
theorem Gz {n:Nat}:∀{ds:List D},(∀d∈ds,Nb n d)->pE n ds
 |[],_=>.nil
 |d::ds,h=>.cons (h d (by simp)) (Gz fun e he=>h e (by simp[he]))
theorem mf {α:Type}{n:Nat}{f:α->D}(h:∀x,Nb n (f x))(xs:List α):pE n (xs.map f):=Gz fun d hd=>by
 obtain⟨x,_,rfl⟩:=List.mem_map.mp hd;exact h x
mutual
theorem Nb.lay {n:Nat}{d:D}:Nb n d->d.canLay0=true
 |.int _ _=>by simp[PyData.canLay0]
 |.tuple h=>by simp only[PyData.canLay0];exact pE.lay h
 |.list h=>by simp only[PyData.canLay0];exact pE.lay h
theorem pE.lay {n:Nat}{ds:List D}:pE n ds->PyData.canLayAll0 ds=true
 |.nil=>by simp[PyData.canLayAll0]
 |.cons h hs=>by simp[PyData.canLayAll0,Nb.lay h,pE.lay hs]
end
mutual
theorem Nb.deep {n:Nat}{d:D}:Nb n d->d.depth<=n
 |.int _ _=>by simp[PyData.depth]
 |.tuple h=>by have:=pE.deep h;simp only[PyData.depth];omega
 |.list h=>by have:=pE.deep h;simp only[PyData.depth];omega
theorem pE.deep {n:Nat}{ds:List D}:pE n ds->PyData.depthAll ds<=n
 |.nil=>by simp[PyData.depthAll]
 |.cons h hs=>by have:=Nb.deep h;have:=pE.deep hs;simp only[PyData.depthAll];omega
end
mutual
theorem Nb.mix {n m:Nat}{x y:D}:Nb n x->Nb m y->noMix x y=true
 |.int _ _,.int _ _=>by simp[noMix]
 |.int _ _,.tuple _=>by simp[noMix]
 |.int _ _,.list _=>by simp[noMix]
 |.tuple _,.int _ _=>by simp[noMix]
 |.list _,.int _ _=>by simp[noMix]
 |.tuple _,.list _=>by simp[noMix]
 |.list _,.tuple _=>by simp[noMix]
 |.tuple h,.tuple h'=>by simp only[noMix];exact pE.mix h h'
 |.list h,.list h'=>by simp only[noMix];exact pE.mix h h'
theorem pE.mix {n m:Nat}{xs ys:List D}:pE n xs->pE m ys->noMixAll xs ys=true
 |.nil,.nil=>by simp[noMixAll]
 |.nil,.cons _ _=>by simp[noMixAll]
 |.cons _ _,.nil=>by simp[noMixAll]
 |.cons h hs,.cons h' JO=>by simp[noMixAll,Nb.mix h h',pE.mix hs JO]
end
mutual
theorem Nb.eq {n m:Nat}{x y:D}:Nb n x->Nb m y->same x y=true->x=y
 |.int _ _,.int _ _,h=>by simp[same] at h;rw[h]
 |.int _ _,.tuple _,h=>by simp[same] at h
 |.int _ _,.list _,h=>by simp[same] at h
 |.tuple _,.int _ _,h=>by simp[same] at h
 |.list _,.int _ _,h=>by simp[same] at h
 |.tuple _,.list _,h=>by simp[same] at h
 |.list _,.tuple _,h=>by simp[same] at h
 |.tuple q,.tuple q',h=>by simp only[same] at h;rw[pE.eq q q' h]
 |.list q,.list q',h=>by simp only[same] at h;rw[pE.eq q q' h]
theorem pE.eq {n m:Nat}{xs ys:List D}:pE n xs->pE m ys->sameAll xs ys=true->xs=ys
 |.nil,.nil,_=>rfl
 |.nil,.cons _ _,h=>by simp[sameAll] at h
 |.cons _ _,.nil,h=>by simp[sameAll] at h
 | .cons q qs,.cons q' UY,h=>by
  simp only[sameAll,Bool.and_eq_true] at h;rw[Nb.eq q q' h.1,pE.eq qs UY h.2]
end
theorem Nb.Ql {n:Nat}{d:D}(h:Nb n d)(hn:n<=64):shaped d=true:=by
 unfold shaped;rw[Bool.and_eq_true];have:=h.deep;exact⟨h.lay,decide_eq_true ⋯⟩
theorem BX {n m:Nat}{x y:D}(hx:Nb n x)(hy:Nb m y)(hn:n<=64:=by decide)(hm:m<=64:=by decide):om x y=some (same x y):=by
 unfold om;rw[hx.Ql hn,hy.Ql hm,hx.mix hy];rfl
theorem BV {n m:Nat}{x y:D}(hx:Nb n x)(hy:Nb m y)(hn:n<=64:=by decide)(hm:m<=64:=by decide):zZ x y=some (!same x y):=by
 unfold zZ;rw[hx.Ql hn,hy.Ql hm,hx.mix hy];rfl
theorem uO {n:Nat}{x:D}(hx:Nb n x)(hn:n<=64:=by decide):om x x=some true:=by rw[BX hx hx hn hn,same_self]
theorem HK {n:Nat}{x:D}(hx:Nb n x)(hn:n<=64:=by decide):zZ x x=some false:=by rw[BV hx hx hn hn,same_self];rfl
theorem MQ {n m:Nat}{x y:D}(hx:Nb n x)(hy:Nb m y)(h:x≠y)(hn:n<=64:=by decide)(hm:m<=64:=by decide):om x y=some false:=by
 rw[BX hx hy hn hm];cases e:same x y with
 |false=>rfl
 |true=>exact absurd (hx.eq hy e) h
theorem MN {n m:Nat}{x y:D}(hx:Nb n x)(hy:Nb m y)(h:x≠y)(hn:n<=64:=by decide)(hm:m<=64:=by decide):zZ x y=some true:=by
 rw[BV hx hy hn hm];cases e:same x y with
 |false=>rfl
 |true=>exact absurd (hx.eq hy e) h
theorem fF (a b:Int):om (.int a) (.int b)=some (decide (a=b)):=by
 rw[BX (.int 0 a) (.int 0 b)];simp only[same];by_cases e:a=b <;> simp[e]
theorem Dr (a b:Int):zZ (.int a) (.int b)=some (decide (a≠b)):=by
 rw[BV (.int 0 a) (.int 0 b)];simp only[same];by_cases e:a=b <;> simp[e]
theorem lU {α:Type}{g:GD}{e:ED}{ρ:Sl}{d β:α->D}:∀l:List α,(∀x∈l,∃gE o,g (d x) ρ=some gE/\e gE=some (β x,o))->jE g f9 e ρ (l.map d)=some (l.map β)
 |[],_=>rfl
 | x::l,h=>by
  obtain⟨gE,o,h1,h2⟩:=h x (by simp);rw[aC,jE,h1,ae,f9,ae,if_pos rfl,h2,ae,lU l fun y hy=>h y (by simp[hy])];rfl
theorem pZ {α σ:Type}{g:GD}{b:SD}{P:σ->Sl->Prop}{f:σ->α->σ}{d:α->D}:∀(l:List α) (st:σ) (ρ:Sl),P st ρ->(∀x∈l,∀st ρ,P st ρ->∃gE hZ,g (d x) ρ=some gE/\b gE=some (.next hZ)/\P (f st x) hZ) →
  ∃de,fo g b (l.map d) ρ=some (.next de)/\P (l.foldl f st) de
 |[],st,ρ,h,_=>⟨ρ,rfl,h⟩
 | x::l,st,ρ,h,k=>by
  obtain⟨gE,hZ,h1,h2,h3⟩:=k x (by simp) st ρ h;obtain⟨de,h4,h5⟩:=pZ (g:=g) (b:=b) l (f st x) hZ h3 fun y hy=>k y (by simp[hy]);refine⟨de,?_,h5⟩;rw[aC,fo,h1,ae,h2,ae];exact h4
theorem wm {α:Type}{g:GD}{b:SD}{P:Sl->Prop}{ok:α->Bool}{r:Vl}{d:α->D}:∀(l:List α) (ρ:Sl),P ρ->(∀x∈l,∀ρ,P ρ->∃gE,g (d x) ρ=some gE/\if ok x=true then ∃hZ,b gE=some (.next hZ)/\P hZ else b gE=some (.ret r)) →
  if l.all ok=true then ∃de,fo g b (l.map d) ρ=some (.next de)/\P de else fo g b (l.map d) ρ=some (.ret r)
 |[],ρ,h,_=>by rw[List.all_nil,if_pos rfl];exact⟨ρ,rfl,h⟩
 | x::l,ρ,h,k=>by
  obtain⟨gE,h1,h2⟩:=k x (by simp) ρ h;rw[List.all_cons];cases hx:ok x with
  |false =>
   rw[hx,if_neg Bool.false_ne_true] at h2;rw[Bool.false_and,if_neg Bool.false_ne_true,aC,fo,h1,ae,h2];rfl
  |true =>
   rw[hx,if_pos rfl] at h2;obtain⟨hZ,h3,h4⟩:=h2;have ih:=wm (g:=g) (b:=b) (ok:=ok) (r:=r) (d:=d) l hZ h4 fun y hy=>k y (by simp[hy]);rw[Bool.true_and,aC,fo,h1,ae,h3,ae];exact ih
theorem gW {α:Type}(f:α->D):∀(xs:List α) (s:Nat),fG s (xs.map f)=(xs.zipIdx s).map fun p=>.tuple [.int (p.2:Int),f p.1]
 |[],_=>rfl
 |x::xs,s=>by rw[aC,fG,gW f xs (s+1)];rfl
theorem dE (n:Nat):fK 0 n=(ao n).map fun (k:Nat)=>.int (k:Int):=by
 unfold fK;simp
theorem wL {α:Type}(f:α->Bool):∀xs:List α,lG (xs.map fun x=>.bool (f x))=some (xs.map f)
 |[]=>rfl
 | x::xs=>by
  rw[aC,lG,wL f xs];rfl
theorem rJ {xs:List D}{i:Int}{d:D}(h0:0<=i)(h:xs[i.toNat]?=some d):vd xs i=some d:=by
 have hl:i.toNat<xs.length:=(List.getElem?_eq_some_iff.mp h).1;unfold vd yu;rw[if_pos h0,if_pos ⋯,ae,h]
theorem dZ {f:ED}{ρ:Sl}{j:Int}{o:Bool}(hf:f ρ=some (.int j,o))(h0:0<=j)(h1:j<=1000000):cR f ρ=some (fK 0 j.toNat):=by
 unfold cR;rw[hf,ae];dsimp only[yx];rw[ae,if_pos ⟨by omega,by omega⟩]
theorem cJ {a b:SD}{ρ de:Sl}(h:a ρ=some (.next de)):cI a b ρ=b de:=by
 rw[cI,h];rfl
theorem fM {α:Type}{it:AD}{n:Nat}{ix:List Nat}{g:GD}{e:ED}{ρ:Sl}{d β:α->D}(l:List α)(hi:it ρ=some (l.map d))(hz:l.length<=1000000)(h:∀x∈l,∃gE o,g (d x) (fI n ix ρ)=some gE/\e gE=some (β x,o)):da it n ix g f9 e ρ=some (.list (l.map β),true):=by
 rw[da,hi,ae,if_pos (Aj (by rw[ai];exact hz)),lU l h];rfl
theorem ud {g:GD}{b:SD}{d:D}{ds:List D}{ρ gE hZ:Sl}(h1:g d ρ=some gE)(h2:b gE=some (.next hZ)):fo g b (d::ds) ρ=fo g b ds hZ:=by
 rw[fo,h1,ae,h2,ae]
theorem j5 {α β:Type}{g:GD}{b:SD}{d:α->D}{f:α->β}{P:List β->Sl->Prop}(N:Nat):∀(l:List α) (acc:List β) (ρ:Sl),P acc ρ->acc.length+l.length<=N->(∀x∈l,∀acc ρ,P acc ρ->acc.length<N->∃gE hZ,g (d x) ρ=some gE/\b gE=some (.next hZ)/\P (acc++[f x]) hZ) →
  ∃de,fo g b (l.map d) ρ=some (.next de)/\P (acc++l.map f) de
 |[],acc,ρ,h,_,_=>⟨ρ,rfl,by rw[bD,bw];exact h⟩
 | x::l,acc,ρ,h,hn,k=>by
  rw[aJ] at hn;obtain⟨gE,hZ,h1,h2,h3⟩:=k x (by simp) acc ρ h ⋯;obtain⟨de,h4,h5⟩:=j5 (g:=g) (b:=b) N l (acc++[f x]) hZ h3 (by rw[aw,aY];omega) fun y hy=>k y (by simp[hy]);refine⟨de,?_,by rw[aC];rw[bg] at h5;exact h5⟩;rw[aC,ud h1 h2];exact h4
theorem mm {α β:Type}{g:GD}{b:SD}{d:α->D}{f:α->List β}{P:List β->Sl->Prop}(N:Nat):∀(l:List α) (acc:List β) (ρ:Sl),P acc ρ->acc.length+(l.flatMap f).length<=N->(∀x∈l,∀acc ρ,P acc ρ->acc.length+(f x).length<=N->∃gE hZ,g (d x) ρ=some gE/\b gE=some (.next hZ)/\P (acc++f x) hZ) →
  ∃de,fo g b (l.map d) ρ=some (.next de)/\P (acc++l.flatMap f) de
 |[],acc,ρ,h,_,_=>⟨ρ,rfl,by rw[List.flatMap_nil,bw];exact h⟩
 | x::l,acc,ρ,h,hn,k=>by
  rw[bP,aw] at hn;obtain⟨gE,hZ,h1,h2,h3⟩:=k x (by simp) acc ρ h ⋯;obtain⟨de,h4,h5⟩:=mm (g:=g) (b:=b) N l (acc++f x) hZ h3 (by rw[aw];omega) fun y hy=>k y (by simp[hy]);refine⟨de,?_,by rw[bP];rw[bg] at h5;exact h5⟩;rw[aC,ud h1 h2];exact h4
theorem eD {it:AD}{g:GD}{b:SD}{ρ:Sl}{ds:List D}(h:it ρ=some ds):eI it g b ρ=fo g b ds ρ:=by rw[eI,h,ae]
theorem Bf {t:TD}{a b:SD}{ρ:Sl}(h:t ρ=some true):kK t a b ρ=a ρ:=by rw[kK,h,ae,if_pos rfl]
theorem CY {t:TD}{a b:SD}{ρ:Sl}(h:t ρ=some false):kK t a b ρ=b ρ:=by rw[kK,h,ae,if_neg Bool.false_ne_true]
theorem EA {t:TD}{a b:SD}{ρ:Sl}(h:t ρ=some false):cI (kK t a gH) b ρ=b ρ:=by
 rw[cI,CY h];rfl
end DL
namespace L2
open PySem PySem.Spec PyProof.Rows
section
variable {prog:Program}{w:World}{A:Around}{E:Value->Shared->Prop}{s:Shared}
theorem Jq {it l:Addr}{i:Nat}{its:Array Value}{x:Value}{Q:Value->Shared->Prop}(hi:s.heap.IsTupleIter it l i)(hl:s.heap.IsTuple l its)(hx:its[i]?=some x)
  (hQ:∀h',h'.IsTupleIter it l (i+1)->Heap.SameBut it s.heap h'->Q x { s with heap:=h' }):wpAny (model prog w) A (Builtin.SmallTypes.nextOf (.ref it)) Q E s:=by
 obtain⟨ob,tW,Bi,JU⟩:=id hi;obtain⟨oL,O3,_,nL,Su⟩:=hl;unfold Builtin.SmallTypes.nextOf;refine aa (wpAny_callSpecial?_slot (name:=Str.ofString "__next__") hi.typeIs F.slot_tuple_iterator_next (wpAny_call_entry F.slot_tuple_iterator_next hi.typeIs F.entry_tuple_iterator_next ?_ (F.args_tuple_iterator_next_1 _)));show wpAny _ _ (field (.ref it) 0>>=_) _ _ s;refine aa (bh tW JU (x:=.ref l) rfl ?_);show wpAny _ _ (if (Value.ref l==Value.none)=true then _ else _) _ _ s;rw[if_neg (show ¬((Value.ref l==Value.none)=true) from Bool.false_ne_true)];show wpAny _ _ (field (.ref it) 1>>=_) _ _ s;refine aa (bh tW JU (x:=.int i 0) rfl ?_);show wpAny _ _ (seqItems? (.ref l)>>=_) _ _ s;refine aa (wpAny_seqItems O3 Su ?_);simp only[aQ,hx];refine aa (wpAny_setField tW JU (by simp) (ah ⟨x,rfl,ah (hQ _ ?_ (Heap.SameBut.update ..))⟩));exact⟨_,bA _ tW (Obj.isFreed_of_fields (Obj.data_mapFields JU _)),(Obj.cls_mapFields ..).trans Bi,by rw[Obj.data_mapFields JU];simp[rawInt]⟩
theorem A3 {it l:Addr}{i:Nat}{its:Array Value}{Q:Value->Shared->Prop}(hh:A.handled=none)(hi:s.heap.IsTupleIter it l i)(hl:s.heap.IsTuple l its)(hx:its[i]?=none)
  (hE:∀h' e,Heap.ExtBut it s.heap h'->(∃o,h'.get? e=some o/\o.cls=.type "StopIteration")->E (.ref e) { s with heap:=h' }):wpAny (model prog w) A (Builtin.SmallTypes.nextOf (.ref it)) Q E s:=by
 obtain⟨ob,tW,Bi,JU⟩:=id hi;obtain⟨oL,O3,_,nL,Su⟩:=hl;unfold Builtin.SmallTypes.nextOf;refine aa (wpAny_callSpecial?_slot (name:=Str.ofString "__next__") hi.typeIs F.slot_tuple_iterator_next (wpAny_call_entry F.slot_tuple_iterator_next hi.typeIs F.entry_tuple_iterator_next ?_ (F.args_tuple_iterator_next_1 _)));show wpAny _ _ (field (.ref it) 0>>=_) _ _ s;refine aa (bh tW JU (x:=.ref l) rfl ?_);show wpAny _ _ (if (Value.ref l==Value.none)=true then _ else _) _ _ s;rw[if_neg (show ¬((Value.ref l==Value.none)=true) from Bool.false_ne_true)];show wpAny _ _ (field (.ref it) 1>>=_) _ _ s;refine aa (bh tW JU (x:=.int i 0) rfl ?_);show wpAny _ _ (seqItems? (.ref l)>>=_) _ _ s;refine aa (wpAny_seqItems O3 Su ?_);simp only[aQ,hx];refine aa (wpAny_rule (aa (wpAny_setField tW JU (by simp) ?_)));show wpAny _ _ (newExc (.type "StopIteration") []>>=_) _ _ _;refine aa ?_;simp only[newExc,newTuple];refine aa (bp ?_ (by size_fits));refine aa (m:=firstArgMember _ _) (wpAny_of_eq (a:=Value.none) (by first|rfl|(simp only[firstArgMember];rfl)) ?_);refine bp ?_ (by size_fits);simp only[raiseNew];refine aa (wpAny_handled ?_)
 first|rw[show A.in1.handled=none from hh]|rw[hh]
 refine aa (ah (wpAny_throw ?_));exact hE _ _ (((Heap.SameBut.update ..).extBut.push _).push _) ⟨_,az _ rfl,rfl⟩
end
def Ab (h:Heap)(it l:Addr)(its:Array Value)(i:Nat):Prop:=(h.IsListIter it l i/\h.IsList l its)\/(h.IsTupleIter it l i/\h.IsTuple l its)
theorem Ab.at {h h':Heap}{it l:Addr}{its:Array Value}{i:Nat}(x:Ab h it l its i)(k:∀b,b=it\/b=l->∀o,h.get? b=some o->h'.get? b=some o):Ab h' it l its i:=by
 rcases x with ⟨a,b⟩|⟨a,b⟩
 ·exact .inl ⟨a.at fun o e=>k it (.inl rfl) o e,b.at fun o e=>k l (.inr rfl) o e⟩
 ·exact .inr ⟨a.at fun o e=>k it (.inl rfl) o e,b.at fun o e=>k l (.inr rfl) o e⟩
theorem Ab.live {h:Heap}{it l:Addr}{its:Array Value}{i:Nat}(x:Ab h it l its i):∃o,h.get? it=some o/\(∃vs,o.data=.fields vs):=by
 rcases x with ⟨⟨o,e,_,d⟩,_⟩|⟨⟨o,e,_,d⟩,_⟩
 ·exact⟨o,e,_,d⟩
 ·exact⟨o,e,_,d⟩
theorem draws_sq {prog:Program}{w:World}{A:Around}(hh:A.handled=none)(it l:Addr)(og:l≠it)(its:Array Value) :
  Draws prog w A it [it,l] its.size (fun i v=>its[i]?=some v) (fun i h=>Ab h it l its i) where
 live:=fun _ _ st=>let ⟨o,e,_⟩:=st.live;⟨o,e⟩
 frame:=fun _ _ _ st hk=>st.at fun b hb o e=>hk b (by rcases hb with z|z <;> simp[z]) o e
 item:=fun i s Q E hi st hQ=>by
  have ge:its[i]?=some its[i]:=aS hi;rcases st with ⟨a,b⟩|⟨a,b⟩
  ·exact wpAny_nextOf_list_item a b ge fun h' a' hs=>hQ _ h' s.toks ge (.inl ⟨a',b.extBut hs.extBut og⟩) hs
  ·exact Jq a b ge fun h' a' hs=>hQ _ h' s.toks ge (.inr ⟨a',b.at fun o e=>hs.extBut l o og e⟩) hs
 done:=fun s Q E st hE=>by
  rcases st with ⟨a,b⟩|⟨a,b⟩
  ·exact wpAny_nextOf_list_end hh a b (by simp) hE
  ·exact A3 hh a b (by simp) hE
theorem Inv.qD {X:Cx}{pins:List (Addr×Obj)}{σ:St}{H:Hp}{s:Shared}{h':Heap}{t':Nat}{fp:List Addr}{T:Addr}{xs:List V}(I:Inv X pins σ H s)(k:∀b o,b∉fp->s.heap.get? b=some o->h'.get? b=some o)
  (th:∀b∈fp,∃o,h'.get? b=some o) (hf:∀b∈fp,va X pins H b) (hT:s.heap.objs.size<=T) (new:ObjOk X.prog X.w (eF H T (.tup xs)) h' T (.tup xs)) :
  Inv X pins σ (eF H T (.tup xs)) { s with heap:=h',toks:=t' }:=by
 have fresh:H T=none:=I.fT.fresh hT;have TB:∀b u,H b=some u->b∉fp:=fun b u e z=>by rw[(hf b z).1] at e;cases e
 have nT:∀b o,s.heap.get? b=some o->b≠T:=fun b o e=>aN (aM (aD e) hT);refine I.step (g':=s.gens) (d':=s.drawn) (ch:=fp) (fun b hb=>?_) (fun b o _ _ hc e _=>k b o hc e) (fun b o _ _ hc e _=>⟨o.slots,k b o hc e⟩) (fun b o _ e n=>by rw[cC (nT b o e)];exact n)
  (fun b o hc e=>⟨o,k b o hc e⟩) (fun b ys e=>by rw[cC (cE e fresh)];exact e) (fun b o u e=>by rw[cC (cE e fresh)];exact e)
  (fun b ps e=>⟨#[],by rw[cC (cE e fresh),e];simp⟩) (fun m hm=>?_) (fun b u e=>?_) I.bare
 ·obtain⟨_,f1,f2,f3,f4,f5⟩:=hf b hb;exact⟨f3,f1,f4,f5⟩
 ·obtain⟨o,es,ep,ho,r⟩:=hm;exact⟨o,es,ep,k _ o (fun z=>(hf _ z).2.1 rfl) ho,r⟩
 ·by_cases hb:b=T
  ·subst hb;rw[cN] at e;cases e;exact new
  ·rw[cC hb] at e;refine (I.fT b u e).w6 (fun c v hc q=>k c v ?_ q) (fun c q=>by rw[cC (cE q fresh)];exact q) fun c ys q=>by rw[cC (cE q fresh)];exact q
   rcases hc with z|z
   ·rw[z];exact TB b u e
   ·exact TB c _ z
theorem sz2':(2:Nat)<=sizeLine:=by decide
def kf (kd:Bool)(K:PySem.W.Frag)(H:Hp)(a:Addr)(xs:List V):Prop:=if kd=true then jT K H a xs else jN K H a xs
def ItK (kd:Bool)(h:Heap)(it a:Addr)(i:Nat):Prop:=if kd=true then h.IsListIter it a i else h.IsTupleIter it a i
def lJ (kd:Bool)(h:Heap)(a:Addr)(its:Array Value):Prop:=if kd=true then h.IsList a its else h.IsTuple a its
theorem ItK.with {kd:Bool}{h:Heap}{it a:Addr}{i:Nat}{its:Array Value}(x:ItK kd h it a i)(y:lJ kd h a its):Ab h it a its i:=by
 cases kd
 ·exact .inr ⟨x,y⟩
 ·exact .inl ⟨x,y⟩
theorem ItK.at {kd:Bool}{h h':Heap}{it a:Addr}{i:Nat}(x:ItK kd h it a i)(k:∀o,h.get? it=some o->h'.get? it=some o):ItK kd h' it a i:=by
 cases kd
 ·exact Heap.IsTupleIter.at (show h.IsTupleIter it a i from x) k
 ·exact Heap.IsListIter.at (show h.IsListIter it a i from x) k
theorem ItK.obj {kd:Bool}{h:Heap}{it a:Addr}{i:Nat}(x:ItK kd h it a i):∃o,h.get? it=some o/\∀v,o.data≠.cell v:=by
 cases kd
 ·obtain⟨o,e,_,d⟩:=(show h.IsTupleIter it a i from x);exact⟨o,e,fun v z=>by rw[d] at z;cases z⟩
 ·obtain⟨o,e,_,d⟩:=(show h.IsListIter it a i from x);exact⟨o,e,fun v z=>by rw[d] at z;cases z⟩
theorem ItK.of {kd:Bool}{h:Heap}{it a:Addr}{i:Nat}{its:Array Value}(x:Ab h it a its i)(y:lJ kd h a its):ItK kd h it a i:=by
 cases kd
 ·rcases x with ⟨p,q⟩|⟨p,_⟩
  ·obtain⟨o,e,c,_⟩:=q;obtain⟨o',e',c',_⟩:=(show h.IsTuple a its from y);rw[e] at e';cases e';rw[c] at c';exact absurd c' (by decide)
  ·exact p
 ·rcases x with ⟨p,_⟩|⟨p,q⟩
  ·exact p
  ·obtain⟨o,e,c,_⟩:=q;obtain⟨o',e',c',_⟩:=(show h.IsList a its from y);rw[e] at e';cases e';rw[c] at c';exact absurd c' (by decide)
section
variable {X:Cx}{pins:List (Addr×Obj)}{σ:St}{H:Hp}{s:Shared}{a:Addr}{xs ys:List V}{kd:Bool}
theorem Inv.mM (I:Inv X pins σ H s)(h:kf kd X.K H a xs):∃its:List Value,cV xs its/\lJ kd s.heap a its.toArray/\xs.length<=sizeLine:=by
 cases kd
 ·obtain⟨its,r,p,z⟩:=I.tuple (show jN X.K H a xs from h);exact⟨its,r,p,z⟩
 ·obtain⟨its,r,p,z⟩:=I.list (show jT X.K H a xs from h);exact⟨its,r,p.isList,z⟩
theorem Inv.pL (I:Inv X pins σ H s)(h:kf kd X.K H a xs)(h':kf kd X.K H a ys):xs=ys:=by
 cases kd
 ·exact I.vK (show jN X.K H a xs from h) h'
 ·exact I.zw (show jT X.K H a xs from h) h'
theorem lJ.at {h h':Heap}{its:Array Value}(x:lJ kd h a its)(k:∀o,h.get? a=some o->h'.get? a=some o):lJ kd h' a its:=by
 cases kd
 ·exact Heap.IsTuple.at (show h.IsTuple a its from x) k
 ·exact Heap.IsList.at (show h.IsList a its from x) k
theorem lJ.lt {h:Heap}{its:Array Value}(x:lJ kd h a its):a<h.objs.size:=by
 cases kd
 ·obtain⟨o,e,_⟩:=(show h.IsTuple a its from x);exact aD e
 ·obtain⟨o,e,_⟩:=(show h.IsList a its from x);exact aD e
end
noncomputable def Ite (K:PySem.W.Frag)(kd:Bool)(a:Addr):It :=
 ⟨fun i H=>∃xs x,kf kd K H a xs/\xs[i]?=some x,fun i H v H'=>∃T x,v=.ref T/\H T=none/\H'=eF H T (.tup [.int i,x])/\∀xs,kf kd K H a xs->xs[i]?=some x,fun i H=>∃xs,kf kd K H a xs/\xs.length=i⟩
theorem Hf {h:Heap}{e it:Addr}{i:Int}{old:Value}(x:IsEnum h e it i old):∃o,h.get? e=some o/\∀v,o.data≠.cell v:=⟨_,x,fun v z=>by cases z⟩
theorem DH {P:Program}{w:World}{K:PySem.W.Frag}{yG:List Expr}{tk:Nat}{tp:Pos}{kd:Bool}(a e it:Addr)(og:e≠it)(T7:a≠e)(QB:a≠it) :
  Turn P w K (.Tuple yG tk tp) (Ite K kd a) [e,it] e (fun i h=>(∃old,IsEnum h e it i old)/\ItK kd h it a i) where
 mem:=by simp
 obj:=fun i h ⟨⟨old,x⟩,y⟩ b hb=>by
  rcases List.mem_cons.mp hb with z|z
  ·subst z;exact Hf x
  ·have z':b=it:=by simpa using z
   subst z';exact y.obj
 keep:=fun i h h' ⟨⟨old,x⟩,y⟩ k=>⟨⟨old,k e (by simp) _ x⟩,y.at fun o q=>k it (by simp) o q⟩
 item:=by
  rintro X hP hw hK hc i pins s σ H E I hf ⟨⟨old,x⟩,y⟩ ⟨xs,v,hq,hv⟩;subst hP hw hK;obtain⟨its,rv,ob,hz⟩:=I.mM hq;obtain⟨u,hu,ru⟩:=rv.get hv;have hi:i<its.toArray.size:=by rw[aL];exact (List.getElem?_eq_some_iff.mp hu).1
  have D:=draws_sq (prog:=X.prog) (w:=X.w) (A:=X.A.in1) (I.ok.hd hc) it a QB its.toArray;refine wpAny_pyNext_enum_itemD D x (y.with ob) hi og (by simp[og,Ne.symm T7]) fun u' h' tk hP ho vO hT pT hk=>?_;have eu:u'=u:=by
   have:its[i]?=some u':=by simpa using hP
   rw[hu] at this;exact (Option.some.inj this).symm
  subst eu;have Jn:lJ kd h' a its.toArray:=ob.at fun o q=>hk a o T7 QB q;refine⟨_,rfl,?_⟩;have I1:Inv X pins σ (eF H s.heap.objs.size (.tup [.int i,v])) { s with heap:=h',toks:=tk+1 }:=by
   refine I.qD (fp:=[e,it]) (fun b o hb q=>hk b o (fun z=>hb (by simp[z])) (fun z=>hb (by simp[z])) q) (fun b hb=>?_) hf (aE _) ⟨sz2',[.int i tk,u'],.cons ⟨_,rfl⟩ (.cons ru .nil),⟨_,hT,rfl,_,rfl⟩⟩;rcases List.mem_cons.mp hb with z|z
   ·subst z;exact⟨_,ho⟩
   ·have z':b=it:=by simpa using z
    subst z';obtain⟨o,q,_⟩:=vO.live;exact⟨o,q⟩
  have fr:H s.heap.objs.size=none:=I.fT.fresh (aE _);have fe:=hf e (by simp);have elt:e<s.heap.objs.size:=aD x;refine wpAny_letOwnedTupleGo_enum (s:={ s with heap:=h',toks:=tk+1 }) ho fun h2 vc oQ=>?_;have I2:Inv X pins σ (eF H s.heap.objs.size (.tup [.int i,v])) { s with heap:=h2,toks:=tk+1 } :=
   Inv.turned (s:={ s with heap:=h',toks:=tk+1 }) (it:=e) (t':=tk+1) I1 (fun b o hb q=>(oQ.2 b hb).trans q) (by rw[cC (aN elt)];exact fe.1) fe.2.1 fe.2.2.2.1 fe.2.2.2.2.1 fe.2.2.2.2.2
  refine⟨.ref s.heap.objs.size,_,I2,rfl,⟨_,v,rfl,fr,rfl,fun ys hy=>?_⟩,⟨⟨_,by simpa using vc⟩,(ItK.of vO Jn).at fun o q=>(oQ.2 it (Ne.symm og)).trans q⟩,fun b hb=>?_⟩
  ·rw[I.pL hy hq];exact hv
  ·have Nv:H b=none:=(hf b hb).1;have blt:b<s.heap.objs.size:=by
    rcases List.mem_cons.mp hb with z|z
    ·rw[z];exact elt
    ·have z':b=it:=by simpa using z
     obtain⟨o,q,_⟩:=y.obj;rw[z'];exact aD q
   rw[cC (aN blt)];exact Nv
 done:=by
  rintro X hP hw hK hc i pins s σ H E I hf ⟨⟨old,x⟩,y⟩ ⟨xs,hq,hl⟩;subst hP hw hK;obtain⟨its,rv,ob,hz⟩:=I.mM hq;have ei:i=its.toArray.size:=by rw[aL,<-rv.length];exact hl.symm
  have D:=draws_sq (prog:=X.prog) (w:=X.w) (A:=X.A.in1) (I.ok.hd hc) it a QB its.toArray;obtain⟨f0,f1,f2,f3,f4,f5⟩:=hf it (by simp);have st:=y.with ob
  rw[ei] at st;exact wpAny_pyNext_enum_endD D x st fun h' eb=>⟨rfl,I.turned (t':=s.toks) (fun b o hb q=>eb b o hb q) f0 f1 f3 f4 f5⟩
 self:=fun _ _ _ _ _ ⟨⟨old,x⟩,_⟩ h=>wpAny_pyIter_enum x h
open AutoSeq1 (wpAny_loadPart')
noncomputable abbrev yE (l:Addr):Obj:={ cls:=.type "tuple_iterator", data:=.fields #[.ref l,.int 0 0] }
noncomputable abbrev Bu (it:Addr):Obj:={ cls:=.type "enumerate", data:=.fields #[.none,.bool false,.ref it,rawInt 0,.none,.none] }
set_option maxRecDepth 100000 in
theorem EK (l:Addr)(its:Array Value)(n:Nat)(SY:Option Addr)(sl:Array (Option Value)) :
  Meets (Builtin.«enumerate.__new__» ⟨[.type "enumerate", .ref l],[]⟩) (fun _ R s=>s.heap.get? l=some { cls:=.type "tuple", dict:=SY,data:=.seq its n,slots:=sl } ∧
   R (.ok (.ret (.ref (s.heap.push (yE l)).objs.size))) { s with heap:=(s.heap.push (yE l)).push (Bu s.heap.objs.size) }) :=
 .of_wp fun prog w A R s h=>by
  obtain⟨hp,g,d,tk,os⟩:=s;obtain⟨hl,h⟩:=h;have xN:=sub_enumerate;have SF:Heap.IsTuple (Shared.heap ⟨hp,g,d,tk,os⟩) l its:=⟨_,hl,rfl,n,rfl⟩
  wp_walk using wpAny_loadPart' hl
  refine wpAny_stack_any fun N6=>ah ?_;split
  ·rename_i c _ _ _ _ _;cases (c==Value.type "enumerate")
   ·wp_walk using wpAny_loadPart' hl,wpAny_pyIter_tuple SF
    exact⟨_,rfl,h⟩
   ·wp_walk using wpAny_loadPart' hl,wpAny_pyIter_tuple SF
    exact⟨_,rfl,h⟩
  ·wp_walk using wpAny_loadPart' hl,wpAny_pyIter_tuple SF
   exact⟨_,rfl,h⟩
theorem BL {prog:Program}{w:World}{A:Around}{E:Value->Shared->Prop}{s:Shared}{kd:Bool}{l:Addr}{its:Array Value}{Q:Value->Shared->Prop}(ob:lJ kd s.heap l its)
  (h:∀h',IsEnum h' (s.heap.objs.size+1) s.heap.objs.size 0 .none->ItK kd h' s.heap.objs.size l 0->(∀b o,s.heap.get? b=some o->h'.get? b=some o)->Q (.ref (s.heap.objs.size+1)) { s with heap:=h' }) :
  wpAny (model prog w) A (call (.type "enumerate") [.ref l]) Q E s:=by
 cases kd
 ·obtain⟨⟨c,SY,dt,sl⟩,hl,hc,n,hd⟩:=(show s.heap.IsTuple l its from ob);have Nu:c=.type "tuple" := hc;have Sv:dt=.seq its n:=hd;subst Nu Sv;refine callType_new F.called_enumerate (by decide) (F.typeCall_enumerate_1 _) (F.newCall_enumerate_1 _) (fun obj=>F.args_object_init_2 obj _) F.entry_enumerate_new (EK l its n SY sl) ⟨hl,?_⟩;have hz:(s.heap.push (yE l)).objs.size=s.heap.objs.size+1:=bf ..;show _/\_;rw[hz];have he:IsEnum ((s.heap.push (yE l)).push (Bu s.heap.objs.size)) (s.heap.objs.size+1) s.heap.objs.size 0 .none:=by
   have q:=az (s.heap.push (yE l)) (o:=Bu s.heap.objs.size) rfl;rw[hz] at q;exact q
  exact⟨⟨_,he,rfl⟩,h _ he ⟨_,af _ (az _ rfl),rfl,rfl⟩ fun b o x=>af _ (af _ x)⟩
 ·exact call_enumerate_list (show s.heap.IsList l its from ob) fun h' he hi _ hk=>h h' he hi hk
section
variable {X:Cx}{l:Expr}{tl:TE}{p pos tp:Pos}{yG:List Expr}{tk:Nat}
noncomputable def RE (K:PySem.W.Frag)(ta:TA):TI:=fun σ H R=>ta σ H fun vs H1=>∃kd a,vs=[.ref a]/\(∃xs,kf kd K H1 a xs)/\R (Ite K kd a) H1
theorem pi_enum {ta:TA}(hg:Gl X "enumerate")(hm:X.mg "enumerate" = none)(ha:PA X [l] ta)(hs:starEach [l] X.env=[(false,eval l X.env)]:=by rfl):PI X (.Tuple yG tk tp) (.Call (.Name "enumerate" p) [l] [] pos) (RE X.K ta):=by
 intro pins s σ H R I h;refine Call_ (ld_blt I hg hm boot_enumerate (PyProof.Rows.callWith_type1 (thn (ha pos pins s σ H _ I h) fun us s1 ⟨vs,H1,I1,r1,q1⟩=>?_) hs rfl));obtain⟨kd,a,e,⟨xs,hq⟩,q⟩:=q1;subst e;obtain⟨u,rfl,ru⟩:=cV.one r1;cases ru;obtain⟨its,rv,ob,hz⟩:=I1.mM hq;refine BL ob fun h' he hi hk=>?_;have I2:Inv X pins σ H1 { s1 with heap:=h' }:=I1.kept (t':=s1.toks) hk;have alt:=ob.lt;refine wpAny_pyIter_enum he ⟨_,_,_,_,H1,rfl,I2,DH (kd:=kd) a (s1.heap.objs.size+1) s1.heap.objs.size (Nat.succ_ne_self _) (aN (bE alt)) (aN alt),⟨⟨_,he⟩,hi⟩,fun b hb=>?_,q⟩;rcases List.mem_cons.mp hb with z|z
 ·subst z;exact I1.zP (bR _) (I1.fT.fresh (bR _))
 ·have z':b=s1.heap.objs.size:=by simpa using z
  subst z';exact I1.zP (aE _) (I1.fT.fresh (aE _))
end
end L2
namespace DL
open PySem PySem.Spec PySem.SeqAt
open L2 (V Hp St HO VK TE TT TA TS TI TG Cx Inv PE PT PA PS PSs PI PG jN jT cY eF cN cC cE cV dQ EP TP AP SP kJ It kf)
theorem wA:∀(ds:List D) (k i:Nat) (d:D),(fG k ds)[i]?=some d->∃e,ds[i]?=some e/\d=.tuple [.int ((k+i:Nat):Int),e]
 |[],k,i,d,h=>by simp[fG] at h
 |e::ds,k,0,d,h=>by simp[fG] at h;exact⟨e,rfl,by simp[h]⟩
 | e::ds,k,i+1,d,h=>by
  have h':(fG (k+1) ds)[i]?=some d:=by simpa [fG] using h
  obtain⟨e',h1,h2⟩:=wA ds (k+1) i d h';exact⟨e',by simpa using h1,by rw[h2,show k+1+i=k+(i+1) by omega]⟩
theorem wz:∀(ds:List D) (k:Nat),(fG k ds).length=ds.length
 |[],_=>rfl
 |_::ds,k=>by simp[fG,wz ds]
theorem Er {K:Fg}{H:Hp}{M O:List Addr}{a:Addr}{kd:Bool}{ds:List D}{vs:List V}(h:∀O' H',jO M O H O' H'->kf kd K H' a vs)(q:Rs K H O ds vs):nG K (L2.Ite K kd a) (fG 0 ds) M O H:=by
 intro O2 H2 x;have h2:=h _ _ x;have q2:=q.ext x;refine⟨fun i d e=>?_,vs,h2,by rw[wz,q.length]⟩;obtain⟨e',he,rfl⟩:=wA ds 0 i d e;obtain⟨v,ev,rv⟩:=q2.get he;refine⟨⟨vs,v,h2,ev⟩,fun y H3 ⟨T,z,ey,hT,eH,hz⟩=>?_⟩;subst ey eH;have:=hz vs h2;rw[ev] at this;cases this;have s2:cY H2 (eF H2 T (.tup [.int (i:Int),v])):=fun b o e=>by rw[cC (cE e hT)];exact e
 refine⟨s2,.tuple (.inl (.inl cN)) (.cons ?_ (.cons (rv.same s2) .nil))⟩;rw[show (0+i:Nat)=i by omega];exact .int _
section
variable {X:Cx}{e:Expr}{f:AD}{p pos tp:Pos}{yG:List Expr}{tk:Nat}
theorem iz (hm:X.mg "enumerate" = none)(h:DQ X e f)(hg:L2.Gl X "enumerate" := by rfl)(hs:starEach [e] X.env=[(false,eval e X.env)]:=by rfl):DI X (.Tuple yG tk tp) (.Call (.Name "enumerate" p) [e] [] pos) (eO f) :=
 (L2.pi_enum hg hm (L2.pa_cons h L2.pa_nil hs) hs).imp fun σ H Q zz=>by
  obtain ⟨ρ,O,M,cK,zs,hE,hf,k⟩:=zz;unfold eO at hf;cases hr:f ρ with
  |none=>rw[hr] at hf;cases hf
  |some ds =>
   rw[hr,au] at hf;cases hf;refine⟨ρ,O,M,cK,ds,hE,hr,fun v H1 kd s1 ⟨a,vs,ev,qs,st⟩=>?_⟩;subst ev;exact⟨kd,a,rfl,⟨vs,st _ _ (jO.id M O H1 (hE.same s1).sub)⟩,k _ H1 s1 (Er (kd:=kd) (fun O' H' x=>st O' H' x) qs)⟩
end
end DL
namespace L2
open PySem PySem.Spec PyProof.Rows
structure MZ (z TI TO i1 i2:Addr):Prop where
 a1:TI≠z
 a2:TO≠z
 a3:i1≠z
 a4:i2≠z
 a5:TI≠TO
 a6:TI≠i1
 a7:TI≠i2
 a8:TO≠i1
 a9:TO≠i2
 b1:i1≠i2
section
variable {prog:Program}{w:World}{A:Around}{E:Value->Shared->Prop}{s:Shared}{z TI TO i1 i2:Addr}{n1 n2 k:Nat}{rM rL:List Addr}{P1 P2:Nat->Value->Prop}{S1 S2:Nat->Heap->Prop}
theorem zipItem {a b:Value}{Q:Value->Shared->Prop}(Z:MZ z TI TO i1 i2)(D1:Draws prog w A i1 rM n1 P1 S1)(D2:Draws prog w A i2 rL n2 P2 S2)(f1:z∉rM/\TO∉rM/\i2∉rM)(f2:z∉rL/\TO∉rL/\i1∉rL)
  (hz:IsZip s.heap z TI TO .none) (yw:IsPair s.heap TI (.ref i1) (.ref i2)) (Am:IsPair s.heap TO a b) (t1:S1 k s.heap) (t2:S2 k s.heap) (l1:k<n1) (l2:k<n2)
  (hQ:∀x y h' tk,P1 k x->P2 k y->IsZip h' z TI TO (rawInt s.heap.objs.size)->IsPair h' TO x y->S1 (k+1) h'->S2 (k+1) h'->IsPair h' s.heap.objs.size x y →
   (∀c o,c≠z->c≠TO->c≠i1->c≠i2->s.heap.get? c=some o->h'.get? c=some o)->Q (.ref s.heap.objs.size) { s with heap:=h',toks:=tk }) :
  wpAny (model prog w) A (Builtin.«zip.__next__» ⟨[.ref z],[]⟩) (fun fin s'=>∃v,fin=.done (.ret v)/\Q v s') E s:=by
 show wpAny _ _ (field (.ref z) 2>>=_) _ _ _;refine aa (bh hz rfl (x:=.bool false) rfl ?_);show wpAny _ _ (field (.ref z) 3>>=_) _ _ _;refine aa (bh hz rfl (x:=.ref TI) rfl ?_);refine aa (wpAny_seqItems yw rfl ?_);show wpAny _ _ (Builtin.SmallTypes.ownedTupleIsFree (.ref z)>>=_) _ _ _;refine aa ?_;unfold Builtin.SmallTypes.ownedTupleIsFree;refine aa (bh hz rfl (x:=.none) rfl (ah ?_));simp only[if_true];refine aa (wpAny_rule ?_);refine aa (bh hz rfl (x:=.ref TO) rfl ?_);refine aa (bc hz (by simp) fun g1 xM e1=>?_);have vu:IsZip g1 z TI TO .ellipsis:=xM;refine aa ?_;simp only[W3,Xl,WQ,W0];refine aa (aa (wpAny_onRaise ?_));show wpAny _ _ (Builtin.SmallTypes.nextOf (.ref i1)>>=_) _ _ _;have Ay:S1 k g1:=D1.frame _ _ _ t1 fun c hc o q=>e1.extBut c o (fun w'=>f1.1 (w'▸hc)) q;refine aa (D1.item k _ _ _ l1 Ay fun x g2 FE px u1 e2=>ah ?_);have pW:IsPair g2 TO a b:=e2.extBut _ _ Z.a8 (e1.extBut _ _ Z.a2 Am);refine aa (wpAny_seqItems pW rfl ?_);refine aa (wpAny_updateSeq_pair pW fun g3 Bk e3=>?_);have zN:IsPair g3 TO x b:=Bk;refine aa (wpAny_letGo (ah ?_));refine aa (aa (wpAny_onRaise ?_));show wpAny _ _ (Builtin.SmallTypes.nextOf (.ref i2)>>=_) _ _ _;have DK:S2 k g3:=D2.frame _ _ _ t2 fun c hc o q=>e3.extBut c o (fun w'=>f2.2.1 (w'▸hc)) (e2.extBut c o (fun w'=>f2.2.2 (w'▸hc)) (e1.extBut c o (fun w'=>f2.1 (w'▸hc)) q));refine aa (D2.item k _ _ _ l2 DK fun y g4 Tn py u2 e4=>ah ?_);have zM:IsPair g4 TO x b:=e4.extBut _ _ Z.a9 zN;refine aa (wpAny_seqItems zM rfl ?_);refine aa (wpAny_updateSeq_pair zM fun g5 JV e5=>?_);have C4:IsPair g5 TO x y:=JV;refine aa (wpAny_letGo (ah (ah ?_)));refine aa (wpAny_seqItems C4 rfl ?_);refine aa (wpAny_newTuple ?_);have pT:g5.objs.size=s.heap.objs.size:=by rw[e5.1,e4.1,e3.1,e2.1,e1.1]
 have OW:IsZip g5 z TI TO .ellipsis:=e5.extBut _ _ Z.a2.symm (e4.extBut _ _ Z.a4.symm (e3.extBut _ _ Z.a2.symm (e2.extBut _ _ Z.a3.symm vu)));have Sf:∀c o,c≠z->c≠TO->c≠i1->c≠i2->s.heap.get? c=some o->g5.get? c=some o:=fun c o c1 c2 c3 c4 q =>
  e5.extBut _ _ c2 (e4.extBut _ _ c4 (e3.extBut _ _ c2 (e2.extBut _ _ c3 (e1.extBut _ _ c1 q))))
 have v1:S1 (k+1) g5:=D1.frame _ _ _ u1 fun c hc o q=>e5.extBut c o (fun w'=>f1.2.1 (w'▸hc)) (e4.extBut c o (fun w'=>f1.2.2 (w'▸hc)) (e3.extBut c o (fun w'=>f1.2.1 (w'▸hc)) q));have v2:S2 (k+1) g5:=D2.frame _ _ _ u2 fun c hc o q=>e5.extBut c o (fun w'=>f2.2.1 (w'▸hc)) q;have Lg:z<g5.objs.size:=aD OW;show wpAny _ _ (Builtin.SmallTypes.ownedTupleHandOut (.ref z) (.ref g5.objs.size)>>=_) _ _ _;refine aa ?_;unfold Builtin.SmallTypes.ownedTupleHandOut;have Nl:IsZip (g5.push { cls:=.type "tuple", data:=.seq #[x,y] }) z TI TO .ellipsis:=af _ OW;refine aa (bc Nl (by simp) fun g7 RJ e7=>?_);have Mk:IsZip g7 z TI TO (rawInt g5.objs.size):=RJ;refine bc Mk (by simp) fun g8 RI e8=>?_;have GW:IsZip g8 z TI TO (rawInt g5.objs.size):=RI;have up:∀c o,c≠z->g5.get? c=some o->g8.get? c=some o:=fun c o c1 q=>e8.extBut _ _ c1 (e7.extBut _ _ c1 (af _ q));have Pt:IsPair g8 g5.objs.size x y:=e8.extBut _ _ (br Lg) (e7.extBut _ _ (br Lg) (az _ rfl));rw[pT] at GW Pt;refine ah ⟨_,rfl,?_⟩;show Q (.ref g5.objs.size) _;rw[pT];exact hQ x y g8 _ px py GW (up _ _ Z.a2 C4) (D1.frame _ _ _ v1 fun c hc o q=>up c o (fun w'=>f1.1 (w'▸hc)) q) (D2.frame _ _ _ v2 fun c hc o q=>up c o (fun w'=>f2.1 (w'▸hc)) q) Pt fun c o c1 c2 c3 c4 q=>up c o c1 (Sf c o c1 c2 c3 c4 q)
theorem zipEnd {a b:Value}{Q:Fin->Shared->Prop}(Z:MZ z TI TO i1 i2)(D1:Draws prog w A i1 rM n1 P1 S1)(D2:Draws prog w A i2 rL n2 P2 S2)(f1:z∉rM/\TO∉rM/\i2∉rM)(f2:z∉rL/\TO∉rL/\i1∉rL)
  (hz:IsZip s.heap z TI TO .none) (yw:IsPair s.heap TI (.ref i1) (.ref i2)) (Am:IsPair s.heap TO a b) (t1:S1 k s.heap) (t2:S2 k s.heap) (tX:k=n1\/(k<n1/\k=n2))
  (hE:∀h' tk e,(∀c o,c≠z->c≠TO->c≠i1->c≠i2->s.heap.get? c=some o->h'.get? c=some o)->(∃o,h'.get? e=some o/\o.cls=.type "StopIteration")->E (.ref e) { s with heap:=h',toks:=tk }) :
  wpAny (model prog w) A (Builtin.«zip.__next__» ⟨[.ref z],[]⟩) Q E s:=by
 show wpAny _ _ (field (.ref z) 2>>=_) _ _ _;refine aa (bh hz rfl (x:=.bool false) rfl ?_);show wpAny _ _ (field (.ref z) 3>>=_) _ _ _;refine aa (bh hz rfl (x:=.ref TI) rfl ?_);refine aa (wpAny_seqItems yw rfl ?_);show wpAny _ _ (Builtin.SmallTypes.ownedTupleIsFree (.ref z)>>=_) _ _ _;refine aa ?_;unfold Builtin.SmallTypes.ownedTupleIsFree;refine aa (bh hz rfl (x:=.none) rfl (ah ?_));simp only[if_true];refine aa (wpAny_rule ?_);refine aa (bh hz rfl (x:=.ref TO) rfl ?_);refine aa (bc hz (by simp) fun g1 xM e1=>?_);have vu:IsZip g1 z TI TO .ellipsis:=xM;refine aa ?_;simp only[W3,Xl,WQ,W0];refine aa (aa (wpAny_onRaise ?_));show wpAny _ _ (Builtin.SmallTypes.nextOf (.ref i1)>>=_) _ _ _;have Ay:S1 k g1:=D1.frame _ _ _ t1 fun c hc o q=>e1.extBut c o (fun w'=>f1.1 (w'▸hc)) q;rcases tX with rfl|⟨l1,rfl⟩
 ·refine aa (D1.done _ _ _ Ay fun g2 ex e2 he=>?_);obtain⟨oe,xP,yv⟩:=he;have zH:IsZip g2 z TI TO .ellipsis:=e2 _ _ Z.a3.symm vu;have JT:ex≠z:=fun q=>by rw[q,zH] at xP;cases xP;simp at yv
  exact bc zH (by simp) fun g3 _ e3=>hE g3 _ ex (fun c o c1 _ c3 _ q=>e3.extBut _ _ c1 (e2 _ _ c3 (e1.extBut _ _ c1 q))) ⟨oe,e3.extBut _ _ JT xP,yv⟩
 ·refine aa (D1.item k _ _ _ l1 Ay fun x g2 FE px u1 e2=>ah ?_);have pW:IsPair g2 TO a b:=e2.extBut _ _ Z.a8 (e1.extBut _ _ Z.a2 Am);refine aa (wpAny_seqItems pW rfl ?_);refine aa (wpAny_updateSeq_pair pW fun g3 Bk e3=>?_);refine aa (wpAny_letGo (ah ?_));refine aa (aa (wpAny_onRaise ?_));show wpAny _ _ (Builtin.SmallTypes.nextOf (.ref i2)>>=_) _ _ _;have DK:S2 k g3:=D2.frame _ _ _ t2 fun c hc o q=>e3.extBut c o (fun w'=>f2.2.1 (w'▸hc)) (e2.extBut c o (fun w'=>f2.2.2 (w'▸hc)) (e1.extBut c o (fun w'=>f2.1 (w'▸hc)) q));refine aa (D2.done _ _ _ DK fun g4 ex e4 he=>?_);obtain⟨oe,xP,yv⟩:=he;have OX:IsZip g4 z TI TO .ellipsis:=e4 _ _ Z.a4.symm (e3.extBut _ _ Z.a2.symm (e2.extBut _ _ Z.a3.symm vu));have JT:ex≠z:=fun q=>by rw[q,OX] at xP;cases xP;simp at yv
  exact bc OX (by simp) fun g5 _ e5=>hE g5 _ ex (fun c o c1 c2 c3 c4 q=>e5.extBut _ _ c1 (e4 _ _ c4 (e3.extBut _ _ c2 (e2.extBut _ _ c3 (e1.extBut _ _ c1 q))))) ⟨oe,e5.extBut _ _ JT xP,yv⟩
end
noncomputable abbrev oP (kd:Bool)(l:Addr):Obj:={ cls:=.type (if kd=true then "list_iterator" else "tuple_iterator"),data:=.fields #[.ref l,.int 0 0] }
section
variable {prog:Program}{w:World}{A:Around}{E:Value->Shared->Prop}{s:Shared}
theorem zD {kd:Bool}{l:Addr}{its:Array Value}{Q:Value->Shared->Prop}(ob:lJ kd s.heap l its)(h:Q (.ref s.heap.objs.size) { s with heap:=s.heap.push (oP kd l) }):wpAny (model prog w) A (pyIter (.ref l)) Q E s:=by
 cases kd
 ·exact wpAny_pyIter_tuple (show s.heap.IsTuple l its from ob) h
 ·exact wpAny_pyIter_list (show s.heap.IsList l its from ob) h
end
noncomputable abbrev Li (h:Heap)(k1:Bool)(l1:Addr):Heap:=h.push (oP k1 l1)
noncomputable abbrev Kn (h:Heap)(k1 k2:Bool)(l1 l2:Addr):Heap:=(Li h k1 l1).push (oP k2 l2)
noncomputable abbrev Qg (h:Heap)(k1 k2:Bool)(l1 l2:Addr):Heap:=(Kn h k1 k2 l1 l2).push { cls:=.type "tuple", data:=.seq #[.ref h.objs.size,.ref (Li h k1 l1).objs.size] }
noncomputable abbrev Qf (h:Heap)(k1 k2:Bool)(l1 l2:Addr):Heap:=(Qg h k1 k2 l1 l2).push { cls:=.type "tuple", data:=.seq #[.none,.none] }
noncomputable abbrev M6 (h:Heap)(k1 k2:Bool)(l1 l2:Addr):Heap:=(Qf h k1 k2 l1 l2).push { cls:=.type "zip", data:=.fields #[.none,.bool false,.bool false,.ref (Kn h k1 k2 l1 l2).objs.size,.ref (Qg h k1 k2 l1 l2).objs.size] }
set_option maxRecDepth 100000 in
theorem Fo (k1 k2:Bool)(l1 l2:Addr)(xs ys:Array Value) :
  Meets (Builtin.«zip.__new__» ⟨[.type "zip", .ref l1,.ref l2],[]⟩) (fun _ R s=>lJ k1 s.heap l1 xs/\lJ k2 s.heap l2 ys ∧
   R (.ok (.ret (.ref (Qf s.heap k1 k2 l1 l2).objs.size))) { s with heap:=M6 s.heap k1 k2 l1 l2 }) :=
 .of_wp fun prog w A R s h=>by
  obtain⟨hp,g,d,tk,os⟩:=s;obtain⟨o1,o2,h⟩:=h;have xN:=sub_zip;have q1:lJ k1 (Shared.heap ⟨hp,g,d,tk,os⟩) l1 xs:=o1;have q2:lJ k2 (Shared.heap ⟨hp.push (oP k1 l1),g,d,tk,os⟩) l2 ys:=lJ.at o2 fun o e=>af _ e
  wp_walk using zD q1,zD q2
  exact⟨_,rfl,h⟩
section
variable {prog:Program}{w:World}{A:Around}{E:Value->Shared->Prop}{s:Shared}
theorem call_zipK {k1 k2:Bool}{l1 l2:Addr}{xs ys:Array Value}{Q:Value->Shared->Prop}(o1:lJ k1 s.heap l1 xs)(o2:lJ k2 s.heap l2 ys)
  (h:∀h',IsZip h' (s.heap.objs.size+4) (s.heap.objs.size+2) (s.heap.objs.size+3) .none->IsPair h' (s.heap.objs.size+2) (.ref s.heap.objs.size) (.ref (s.heap.objs.size+1)) →
   IsPair h' (s.heap.objs.size+3) .none .none->ItK k1 h' s.heap.objs.size l1 0->ItK k2 h' (s.heap.objs.size+1) l2 0->(∀c o,s.heap.get? c=some o->h'.get? c=some o)->Q (.ref (s.heap.objs.size+4)) { s with heap:=h' }) :
  wpAny (model prog w) A (call (.type "zip") [.ref l1,.ref l2]) Q E s:=by
 refine callType_new F.called_zip (by decide) (F.typeCall_zip_2 _ _) (F.newCall_zip_2 _ _) (fun obj=>F.args_object_init_3 obj _ _) F.entry_zip_new (Fo k1 k2 l1 l2 xs ys) ⟨o1,o2,?_⟩;have y1:(Li s.heap k1 l1).objs.size=s.heap.objs.size+1:=bf ..;have y2:(Kn s.heap k1 k2 l1 l2).objs.size=s.heap.objs.size+2:=by rw[bf,y1]
 have y3:(Qg s.heap k1 k2 l1 l2).objs.size=s.heap.objs.size+3:=by rw[bf,y2]
 have y4:(Qf s.heap k1 k2 l1 l2).objs.size=s.heap.objs.size+4:=by rw[bf,y3]
 have r5:(M6 s.heap k1 k2 l1 l2).get? (Qf s.heap k1 k2 l1 l2).objs.size=some _:=az _ rfl;have r4:(M6 s.heap k1 k2 l1 l2).get? (Qg s.heap k1 k2 l1 l2).objs.size=some _:=af _ (az _ rfl);have r3:(M6 s.heap k1 k2 l1 l2).get? (Kn s.heap k1 k2 l1 l2).objs.size=some _:=af _ (af _ (az _ rfl));have r2:(M6 s.heap k1 k2 l1 l2).get? (Li s.heap k1 l1).objs.size=some (oP k2 l2):=af _ (af _ (af _ (az _ rfl)));have r1:(M6 s.heap k1 k2 l1 l2).get? s.heap.objs.size=some (oP k1 l1):=af _ (af _ (af _ (af _ (az _ rfl))));have Ni:∀(kd:Bool) (hh:Heap) (it l:Addr),hh.get? it=some (oP kd l)->ItK kd hh it l 0:=fun kd hh it l q=>by
  cases kd
  ·exact⟨_,q,rfl,rfl⟩
  ·exact⟨_,q,rfl,rfl⟩
 show _/\_;rw[y2,y3,y4] at r5;rw[y1,y2] at r3;rw[y3] at r4;rw[y1] at r2;rw[y4];exact⟨⟨_,r5,rfl⟩,h _ r5 r3 r4 (Ni _ _ _ _ r1) (Ni _ _ _ _ r2) fun c o x =>
  af _ (af _ (af _ (af _ (af _ x))))⟩
end
section
variable {X:Cx}{e1 e2:Expr}{p pos tp:Pos}{yG:List Expr}{tk:Nat}
end
end L2
namespace DL
open PySem PySem.Spec PySem.SeqAt
open L2 (V Hp St HO VK TE TT TA TS TI TG Cx Inv PE PT PA PS PSs PI PG jN jT cY eF cN cC cE cV dQ EP TP AP SP kJ It kf)
theorem jO.back {M O O':List Addr}{H H1 H':Hp}(s:cY H H1)(x:jO M O H1 O' H'):jO M O H O' H' :=
 ⟨fun b _ e=>x.tup b _ (s b _ e),fun b _ _ e=>x.frz b _ _ (s b _ e),fun b _ n e=>x.lst b _ n (s b _ e),fun b _ n e=>x.ext b _ n (s b _ e),fun b hb=>(x.new b hb).elim .inl fun z=>.inr (s.free z),x.sub⟩
section
variable {X:Cx}{e1 e2:Expr}{f g:AD}{p pos tp:Pos}{yG:List Expr}{tk:Nat}
end
end DL
namespace L2
open PySem PySem.Spec PyProof.Rows
abbrev fC (h:Heap)(T:Addr)(a b c:Value):Prop:=h.get? T=some { cls:=.type "tuple", data:=.seq #[a,b,c] }
structure MY (z TI TO i1 i2 i3:Addr):Prop where
 zp:MZ z TI TO i1 i2
 c1:i3≠z
 c2:TI≠i3
 c3:TO≠i3
 c4:i1≠i3
 c5:i2≠i3
section
variable {prog:Program}{w:World}{A:Around}{E:Value->Shared->Prop}{s:Shared}
theorem nH {T:Addr}{a b c x:Value}{k:Nat}{Q:Unit->Shared->Prop}(hT:fC s.heap T a b c)
  (h:∀h',h'.get? T=some { cls:=.type "tuple", data:=.seq ((#[a,b,c]:Array Value).setIfInBounds k x) }->Heap.SameBut T s.heap h'->Q () { s with heap:=h' }) :
  wpAny (model prog w) A (updateSeq T (·.setIfInBounds k x)) Q E s:=by
 refine wpAny_updateSeq hT rfl (h _ ?_ (Heap.SameBut.update ..));rw[bA _ hT rfl];simp[Obj.mapSeq]
end
section
variable {prog:Program}{w:World}{A:Around}{E:Value->Shared->Prop}{s:Shared}{z TI TO i1 i2 i3:Addr}{n1 n2 n3 k:Nat}{rM rL Ii:List Addr}{P1 P2 P3:Nat->Value->Prop}{S1 S2 S3:Nat->Heap->Prop}
theorem Fs {a b c:Value}{Q:Value->Shared->Prop}(Z:MY z TI TO i1 i2 i3)(D1:Draws prog w A i1 rM n1 P1 S1)(D2:Draws prog w A i2 rL n2 P2 S2)(D3:Draws prog w A i3 Ii n3 P3 S3)
  (f1:z∉rM/\TO∉rM/\i2∉rM/\i3∉rM) (f2:z∉rL/\TO∉rL/\i1∉rL/\i3∉rL) (f3:z∉Ii/\TO∉Ii/\i1∉Ii/\i2∉Ii)
  (hz:IsZip s.heap z TI TO .none) (yw:fC s.heap TI (.ref i1) (.ref i2) (.ref i3)) (Am:fC s.heap TO a b c) (t1:S1 k s.heap) (t2:S2 k s.heap) (t3:S3 k s.heap) (l1:k<n1) (l2:k<n2) (l3:k<n3)
  (hQ:∀x y v h' tk,P1 k x->P2 k y->P3 k v->IsZip h' z TI TO (rawInt s.heap.objs.size)->fC h' TO x y v->S1 (k+1) h'->S2 (k+1) h'->S3 (k+1) h'->fC h' s.heap.objs.size x y v →
   (∀c o,c≠z->c≠TO->c≠i1->c≠i2->c≠i3->s.heap.get? c=some o->h'.get? c=some o)->Q (.ref s.heap.objs.size) { s with heap:=h',toks:=tk }) :
  wpAny (model prog w) A (Builtin.«zip.__next__» ⟨[.ref z],[]⟩) (fun fin s'=>∃v,fin=.done (.ret v)/\Q v s') E s:=by
 show wpAny _ _ (field (.ref z) 2>>=_) _ _ _;refine aa (bh hz rfl (x:=.bool false) rfl ?_);show wpAny _ _ (field (.ref z) 3>>=_) _ _ _;refine aa (bh hz rfl (x:=.ref TI) rfl ?_);refine aa (wpAny_seqItems yw rfl ?_);show wpAny _ _ (Builtin.SmallTypes.ownedTupleIsFree (.ref z)>>=_) _ _ _;refine aa ?_;unfold Builtin.SmallTypes.ownedTupleIsFree;refine aa (bh hz rfl (x:=.none) rfl (ah ?_));simp only[if_true];refine aa (wpAny_rule ?_);refine aa (bh hz rfl (x:=.ref TO) rfl ?_);refine aa (bc hz (by simp) fun g1 xM e1=>?_);have vu:IsZip g1 z TI TO .ellipsis:=xM;refine aa ?_;simp only[W3,Xl,WQ,W0];refine aa (aa (wpAny_onRaise ?_));show wpAny _ _ (Builtin.SmallTypes.nextOf (.ref i1)>>=_) _ _ _;have Ay:S1 k g1:=D1.frame _ _ _ t1 fun c hc o q=>e1.extBut c o (fun w'=>f1.1 (w'▸hc)) q;refine aa (D1.item k _ _ _ l1 Ay fun x g2 FE px u1 e2=>ah ?_);have pW:fC g2 TO a b c:=e2.extBut _ _ Z.zp.a8 (e1.extBut _ _ Z.zp.a2 Am);refine aa (wpAny_seqItems pW rfl ?_);refine aa (nH pW fun g3 Bk e3=>?_);have zN:fC g3 TO x b c:=Bk;refine aa (wpAny_letGo (ah ?_));refine aa (aa (wpAny_onRaise ?_));show wpAny _ _ (Builtin.SmallTypes.nextOf (.ref i2)>>=_) _ _ _;have DK:S2 k g3:=D2.frame _ _ _ t2 fun c hc o q=>e3.extBut c o (fun w'=>f2.2.1 (w'▸hc)) (e2.extBut c o (fun w'=>f2.2.2.1 (w'▸hc)) (e1.extBut c o (fun w'=>f2.1 (w'▸hc)) q));refine aa (D2.item k _ _ _ l2 DK fun y g4 Tn py u2 e4=>ah ?_);have zM:fC g4 TO x b c:=e4.extBut _ _ Z.zp.a9 zN;refine aa (wpAny_seqItems zM rfl ?_);refine aa (nH zM fun g5 JV e5=>?_);have C4:fC g5 TO x y c:=JV;refine aa (wpAny_letGo (ah ?_));refine aa (aa (wpAny_onRaise ?_));show wpAny _ _ (Builtin.SmallTypes.nextOf (.ref i3)>>=_) _ _ _;have Q1:S3 k g5:=D3.frame _ _ _ t3 fun c hc o q=>e5.extBut c o (fun w'=>f3.2.1 (w'▸hc)) (e4.extBut c o (fun w'=>f3.2.2.2 (w'▸hc)) (e3.extBut c o (fun w'=>f3.2.1 (w'▸hc)) (e2.extBut c o (fun w'=>f3.2.2.1 (w'▸hc)) (e1.extBut c o (fun w'=>f3.1 (w'▸hc)) q))));refine aa (D3.item k _ _ _ l3 Q1 fun v Wq tk5 pv u3 Nz=>ah ?_);have KZ:fC Wq TO x y c:=Nz.extBut _ _ Z.c3 C4;refine aa (wpAny_seqItems KZ rfl ?_);refine aa (nH KZ fun Bn Pr Ny=>?_);have G8:fC Bn TO x y v:=Pr;refine aa (wpAny_letGo (ah (ah ?_)));refine aa (wpAny_seqItems G8 rfl ?_);refine aa (wpAny_newTuple ?_);have pT:Bn.objs.size=s.heap.objs.size:=by rw[Ny.1,Nz.1,e5.1,e4.1,e3.1,e2.1,e1.1]
 have OW:IsZip Bn z TI TO .ellipsis:=Ny.extBut _ _ Z.zp.a2.symm (Nz.extBut _ _ Z.c1.symm (e5.extBut _ _ Z.zp.a2.symm (e4.extBut _ _ Z.zp.a4.symm (e3.extBut _ _ Z.zp.a2.symm (e2.extBut _ _ Z.zp.a3.symm vu)))));have Sf:∀c o,c≠z->c≠TO->c≠i1->c≠i2->c≠i3->s.heap.get? c=some o->Bn.get? c=some o:=fun c o c1 c2 c3 c4 c5 q =>
  Ny.extBut _ _ c2 (Nz.extBut _ _ c5 (e5.extBut _ _ c2 (e4.extBut _ _ c4 (e3.extBut _ _ c2 (e2.extBut _ _ c3 (e1.extBut _ _ c1 q))))))
 have v1:S1 (k+1) Bn:=D1.frame _ _ _ u1 fun c hc o q=>Ny.extBut c o (fun w'=>f1.2.1 (w'▸hc)) (Nz.extBut c o (fun w'=>f1.2.2.2 (w'▸hc)) (e5.extBut c o (fun w'=>f1.2.1 (w'▸hc)) (e4.extBut c o (fun w'=>f1.2.2.1 (w'▸hc)) (e3.extBut c o (fun w'=>f1.2.1 (w'▸hc)) q))));have v2:S2 (k+1) Bn:=D2.frame _ _ _ u2 fun c hc o q=>Ny.extBut c o (fun w'=>f2.2.1 (w'▸hc)) (Nz.extBut c o (fun w'=>f2.2.2.2 (w'▸hc)) (e5.extBut c o (fun w'=>f2.2.1 (w'▸hc)) q));have v3:S3 (k+1) Bn:=D3.frame _ _ _ u3 fun c hc o q=>Ny.extBut c o (fun w'=>f3.2.1 (w'▸hc)) q;have Lg:z<Bn.objs.size:=aD OW;show wpAny _ _ (Builtin.SmallTypes.ownedTupleHandOut (.ref z) (.ref Bn.objs.size)>>=_) _ _ _;refine aa ?_;unfold Builtin.SmallTypes.ownedTupleHandOut;have Nl:IsZip (Bn.push { cls:=.type "tuple", data:=.seq #[x,y,v] }) z TI TO .ellipsis:=af _ OW;refine aa (bc Nl (by simp) fun g7 RJ e7=>?_);have Mk:IsZip g7 z TI TO (rawInt Bn.objs.size):=RJ;refine bc Mk (by simp) fun g8 RI e8=>?_;have GW:IsZip g8 z TI TO (rawInt Bn.objs.size):=RI;have up:∀c o,c≠z->Bn.get? c=some o->g8.get? c=some o:=fun c o c1 q=>e8.extBut _ _ c1 (e7.extBut _ _ c1 (af _ q));have Pt:fC g8 Bn.objs.size x y v:=e8.extBut _ _ (br Lg) (e7.extBut _ _ (br Lg) (az _ rfl));rw[pT] at GW Pt;refine ah ⟨_,rfl,?_⟩;show Q (.ref Bn.objs.size) _;rw[pT];exact hQ x y v g8 _ px py pv GW (up _ _ Z.zp.a2 G8) (D1.frame _ _ _ v1 fun c hc o q=>up c o (fun w'=>f1.1 (w'▸hc)) q) (D2.frame _ _ _ v2 fun c hc o q=>up c o (fun w'=>f2.1 (w'▸hc)) q) (D3.frame _ _ _ v3 fun c hc o q=>up c o (fun w'=>f3.1 (w'▸hc)) q) Pt fun c o c1 c2 c3 c4 c5 q=>up c o c1 (Sf c o c1 c2 c3 c4 c5 q)
theorem Im {a b c:Value}{Q:Fin->Shared->Prop}(Z:MY z TI TO i1 i2 i3)(D1:Draws prog w A i1 rM n1 P1 S1)(D2:Draws prog w A i2 rL n2 P2 S2)(D3:Draws prog w A i3 Ii n3 P3 S3)
  (f1:z∉rM/\TO∉rM/\i2∉rM/\i3∉rM) (f2:z∉rL/\TO∉rL/\i1∉rL/\i3∉rL) (f3:z∉Ii/\TO∉Ii/\i1∉Ii/\i2∉Ii)
  (hz:IsZip s.heap z TI TO .none) (yw:fC s.heap TI (.ref i1) (.ref i2) (.ref i3)) (Am:fC s.heap TO a b c) (t1:S1 k s.heap) (t2:S2 k s.heap) (t3:S3 k s.heap) (tX:k=n1\/(k<n1/\k=n2)\/(k<n1/\k<n2/\k=n3))
  (hE:∀h' tk e,(∀c o,c≠z->c≠TO->c≠i1->c≠i2->c≠i3->s.heap.get? c=some o->h'.get? c=some o)->(∃o,h'.get? e=some o/\o.cls=.type "StopIteration")->E (.ref e) { s with heap:=h',toks:=tk }) :
  wpAny (model prog w) A (Builtin.«zip.__next__» ⟨[.ref z],[]⟩) Q E s:=by
 show wpAny _ _ (field (.ref z) 2>>=_) _ _ _;refine aa (bh hz rfl (x:=.bool false) rfl ?_);show wpAny _ _ (field (.ref z) 3>>=_) _ _ _;refine aa (bh hz rfl (x:=.ref TI) rfl ?_);refine aa (wpAny_seqItems yw rfl ?_);show wpAny _ _ (Builtin.SmallTypes.ownedTupleIsFree (.ref z)>>=_) _ _ _;refine aa ?_;unfold Builtin.SmallTypes.ownedTupleIsFree;refine aa (bh hz rfl (x:=.none) rfl (ah ?_));simp only[if_true];refine aa (wpAny_rule ?_);refine aa (bh hz rfl (x:=.ref TO) rfl ?_);refine aa (bc hz (by simp) fun g1 xM e1=>?_);have vu:IsZip g1 z TI TO .ellipsis:=xM;refine aa ?_;simp only[W3,Xl,WQ,W0];refine aa (aa (wpAny_onRaise ?_));show wpAny _ _ (Builtin.SmallTypes.nextOf (.ref i1)>>=_) _ _ _;have Ay:S1 k g1:=D1.frame _ _ _ t1 fun c hc o q=>e1.extBut c o (fun w'=>f1.1 (w'▸hc)) q;rcases tX with rfl|⟨l1,rfl⟩|⟨l1,l2,rfl⟩
 ·refine aa (D1.done _ _ _ Ay fun g2 ex e2 he=>?_);obtain⟨oe,xP,yv⟩:=he;have zH:IsZip g2 z TI TO .ellipsis:=e2 _ _ Z.zp.a3.symm vu;have JT:ex≠z:=fun q=>by rw[q,zH] at xP;cases xP;simp at yv
  exact bc zH (by simp) fun g3 _ e3=>hE g3 _ ex (fun c o c1 _ c3 _ _ q=>e3.extBut _ _ c1 (e2 _ _ c3 (e1.extBut _ _ c1 q))) ⟨oe,e3.extBut _ _ JT xP,yv⟩
 ·refine aa (D1.item k _ _ _ l1 Ay fun x g2 FE px u1 e2=>ah ?_);have pW:fC g2 TO a b c:=e2.extBut _ _ Z.zp.a8 (e1.extBut _ _ Z.zp.a2 Am);refine aa (wpAny_seqItems pW rfl ?_);refine aa (nH pW fun g3 Bk e3=>?_);refine aa (wpAny_letGo (ah ?_));refine aa (aa (wpAny_onRaise ?_));show wpAny _ _ (Builtin.SmallTypes.nextOf (.ref i2)>>=_) _ _ _;have DK:S2 k g3:=D2.frame _ _ _ t2 fun c hc o q=>e3.extBut c o (fun w'=>f2.2.1 (w'▸hc)) (e2.extBut c o (fun w'=>f2.2.2.1 (w'▸hc)) (e1.extBut c o (fun w'=>f2.1 (w'▸hc)) q));refine aa (D2.done _ _ _ DK fun g4 ex e4 he=>?_);obtain⟨oe,xP,yv⟩:=he;have OX:IsZip g4 z TI TO .ellipsis:=e4 _ _ Z.zp.a4.symm (e3.extBut _ _ Z.zp.a2.symm (e2.extBut _ _ Z.zp.a3.symm vu));have JT:ex≠z:=fun q=>by rw[q,OX] at xP;cases xP;simp at yv
  exact bc OX (by simp) fun g5 _ e5=>hE g5 _ ex (fun c o c1 c2 c3 c4 _ q=>e5.extBut _ _ c1 (e4 _ _ c4 (e3.extBut _ _ c2 (e2.extBut _ _ c3 (e1.extBut _ _ c1 q))))) ⟨oe,e5.extBut _ _ JT xP,yv⟩
 ·refine aa (D1.item k _ _ _ l1 Ay fun x g2 FE px u1 e2=>ah ?_);have pW:fC g2 TO a b c:=e2.extBut _ _ Z.zp.a8 (e1.extBut _ _ Z.zp.a2 Am);refine aa (wpAny_seqItems pW rfl ?_);refine aa (nH pW fun g3 Bk e3=>?_);have zN:fC g3 TO x b c:=Bk;refine aa (wpAny_letGo (ah ?_));refine aa (aa (wpAny_onRaise ?_));show wpAny _ _ (Builtin.SmallTypes.nextOf (.ref i2)>>=_) _ _ _;have DK:S2 k g3:=D2.frame _ _ _ t2 fun c hc o q=>e3.extBut c o (fun w'=>f2.2.1 (w'▸hc)) (e2.extBut c o (fun w'=>f2.2.2.1 (w'▸hc)) (e1.extBut c o (fun w'=>f2.1 (w'▸hc)) q));refine aa (D2.item k _ _ _ l2 DK fun y g4 Tn py u2 e4=>ah ?_);have zM:fC g4 TO x b c:=e4.extBut _ _ Z.zp.a9 zN;refine aa (wpAny_seqItems zM rfl ?_);refine aa (nH zM fun g5 JV e5=>?_);refine aa (wpAny_letGo (ah ?_));refine aa (aa (wpAny_onRaise ?_));show wpAny _ _ (Builtin.SmallTypes.nextOf (.ref i3)>>=_) _ _ _;have Q1:S3 k g5:=D3.frame _ _ _ t3 fun c hc o q=>e5.extBut c o (fun w'=>f3.2.1 (w'▸hc)) (e4.extBut c o (fun w'=>f3.2.2.2 (w'▸hc)) (e3.extBut c o (fun w'=>f3.2.1 (w'▸hc)) (e2.extBut c o (fun w'=>f3.2.2.1 (w'▸hc)) (e1.extBut c o (fun w'=>f3.1 (w'▸hc)) q))));refine aa (D3.done _ _ _ Q1 fun g6 ex e6 he=>?_);obtain⟨oe,xP,yv⟩:=he;have Nl:IsZip g6 z TI TO .ellipsis:=e6 _ _ Z.c1.symm (e5.extBut _ _ Z.zp.a2.symm (e4.extBut _ _ Z.zp.a4.symm (e3.extBut _ _ Z.zp.a2.symm (e2.extBut _ _ Z.zp.a3.symm vu))));have JT:ex≠z:=fun q=>by rw[q,Nl] at xP;cases xP;simp at yv
  exact bc Nl (by simp) fun g7 _ e7=>hE g7 _ ex (fun c o c1 c2 c3 c4 c5 q=>e7.extBut _ _ c1 (e6 _ _ c5 (e5.extBut _ _ c2 (e4.extBut _ _ c4 (e3.extBut _ _ c2 (e2.extBut _ _ c3 (e1.extBut _ _ c1 q))))))) ⟨oe,e7.extBut _ _ JT xP,yv⟩
end
noncomputable abbrev Iv (h:Heap)(k1 k2 k3:Bool)(l1 l2 l3:Addr):Heap:=(Kn h k1 k2 l1 l2).push (oP k3 l3)
noncomputable abbrev Iu (h:Heap)(k1 k2 k3:Bool)(l1 l2 l3:Addr):Heap:=(Iv h k1 k2 k3 l1 l2 l3).push { cls:=.type "tuple", data:=.seq #[.ref h.objs.size,.ref (Li h k1 l1).objs.size,.ref (Kn h k1 k2 l1 l2).objs.size] }
noncomputable abbrev Ir (h:Heap)(k1 k2 k3:Bool)(l1 l2 l3:Addr):Heap:=(Iu h k1 k2 k3 l1 l2 l3).push { cls:=.type "tuple", data:=.seq #[.none,.none,.none] }
noncomputable abbrev Aq (h:Heap)(k1 k2 k3:Bool)(l1 l2 l3:Addr):Heap:=(Ir h k1 k2 k3 l1 l2 l3).push { cls:=.type "zip", data:=.fields #[.none,.bool false,.bool false,.ref (Iv h k1 k2 k3 l1 l2 l3).objs.size,.ref (Iu h k1 k2 k3 l1 l2 l3).objs.size] }
set_option maxHeartbeats 4000000 in
set_option maxRecDepth 100000 in
theorem Dw (k1 k2 k3:Bool)(l1 l2 l3:Addr)(xs ys zs:Array Value) :
  Meets (Builtin.«zip.__new__» ⟨[.type "zip", .ref l1,.ref l2,.ref l3],[]⟩) (fun _ R s=>lJ k1 s.heap l1 xs/\lJ k2 s.heap l2 ys/\lJ k3 s.heap l3 zs ∧
   R (.ok (.ret (.ref (Ir s.heap k1 k2 k3 l1 l2 l3).objs.size))) { s with heap:=Aq s.heap k1 k2 k3 l1 l2 l3 }) :=
 .of_wp fun prog w A R s h=>by
  obtain⟨hp,g,d,tk,os⟩:=s;obtain⟨o1,o2,o3,h⟩:=h;have xN:=sub_zip;have q1:lJ k1 (Shared.heap ⟨hp,g,d,tk,os⟩) l1 xs:=o1;have q2:lJ k2 (Shared.heap ⟨hp.push (oP k1 l1),g,d,tk,os⟩) l2 ys:=lJ.at o2 fun o e=>af _ e;have q3:lJ k3 (Shared.heap ⟨(hp.push (oP k1 l1)).push (oP k2 l2),g,d,tk,os⟩) l3 zs:=lJ.at o3 fun o e=>af _ (af _ e)
  wp_walk using zD q1,zD q2,zD q3
  exact⟨_,rfl,h⟩
theorem vf (a b c:Value):checkTypeCall "zip" ⟨[a,b,c],[]⟩=pure ():=by kernel_rfl
theorem xy (a b c:Value):checkBuiltinCall "zip.__new__" ⟨[.type "zip", a,b,c],[]⟩=pure ():=by kernel_rfl
section
variable {prog:Program}{w:World}{A:Around}{E:Value->Shared->Prop}{s:Shared}
theorem BI {k1 k2 k3:Bool}{l1 l2 l3:Addr}{xs ys zs:Array Value}{Q:Value->Shared->Prop}(o1:lJ k1 s.heap l1 xs)(o2:lJ k2 s.heap l2 ys)(o3:lJ k3 s.heap l3 zs)
  (h:∀h',IsZip h' (s.heap.objs.size+5) (s.heap.objs.size+3) (s.heap.objs.size+4) .none->fC h' (s.heap.objs.size+3) (.ref s.heap.objs.size) (.ref (s.heap.objs.size+1)) (.ref (s.heap.objs.size+2)) →
   fC h' (s.heap.objs.size+4) .none .none .none->ItK k1 h' s.heap.objs.size l1 0->ItK k2 h' (s.heap.objs.size+1) l2 0->ItK k3 h' (s.heap.objs.size+2) l3 0->(∀c o,s.heap.get? c=some o->h'.get? c=some o)->Q (.ref (s.heap.objs.size+5)) { s with heap:=h' }) :
  wpAny (model prog w) A (call (.type "zip") [.ref l1,.ref l2,.ref l3]) Q E s:=by
 refine callType_new F.called_zip (by decide) (vf _ _ _) (xy _ _ _) (fun obj=>by kernel_rfl) F.entry_zip_new (Dw k1 k2 k3 l1 l2 l3 xs ys zs) ⟨o1,o2,o3,?_⟩;have y1:(Li s.heap k1 l1).objs.size=s.heap.objs.size+1:=bf ..;have y2:(Kn s.heap k1 k2 l1 l2).objs.size=s.heap.objs.size+2:=by rw[bf,y1]
 have y3:(Iv s.heap k1 k2 k3 l1 l2 l3).objs.size=s.heap.objs.size+3:=by rw[bf,y2]
 have y4:(Iu s.heap k1 k2 k3 l1 l2 l3).objs.size=s.heap.objs.size+4:=by rw[bf,y3]
 have y5:(Ir s.heap k1 k2 k3 l1 l2 l3).objs.size=s.heap.objs.size+5:=by rw[bf,y4]
 have r6:(Aq s.heap k1 k2 k3 l1 l2 l3).get? (Ir s.heap k1 k2 k3 l1 l2 l3).objs.size=some _:=az _ rfl;have r5:(Aq s.heap k1 k2 k3 l1 l2 l3).get? (Iu s.heap k1 k2 k3 l1 l2 l3).objs.size=some _:=af _ (az _ rfl);have r4:(Aq s.heap k1 k2 k3 l1 l2 l3).get? (Iv s.heap k1 k2 k3 l1 l2 l3).objs.size=some _:=af _ (af _ (az _ rfl));have r3:(Aq s.heap k1 k2 k3 l1 l2 l3).get? (Kn s.heap k1 k2 l1 l2).objs.size=some (oP k3 l3):=af _ (af _ (af _ (az _ rfl)));have r2:(Aq s.heap k1 k2 k3 l1 l2 l3).get? (Li s.heap k1 l1).objs.size=some (oP k2 l2):=af _ (af _ (af _ (af _ (az _ rfl))));have r1:(Aq s.heap k1 k2 k3 l1 l2 l3).get? s.heap.objs.size=some (oP k1 l1):=af _ (af _ (af _ (af _ (af _ (az _ rfl)))));have Ni:∀(kd:Bool) (hh:Heap) (it l:Addr),hh.get? it=some (oP kd l)->ItK kd hh it l 0:=fun kd hh it l q=>by
  cases kd
  ·exact⟨_,q,rfl,rfl⟩
  ·exact⟨_,q,rfl,rfl⟩
 show _/\_;rw[y3,y4,y5] at r6;rw[y1,y2,y3] at r4;rw[y4] at r5;rw[y2] at r3;rw[y1] at r2;rw[y5];exact⟨⟨_,r6,rfl⟩,h _ r6 r4 r5 (Ni _ _ _ _ r1) (Ni _ _ _ _ r2) (Ni _ _ _ _ r3) fun c o x =>
  af _ (af _ (af _ (af _ (af _ (af _ x)))))⟩
end
noncomputable def Itz3 (K:PySem.W.Frag)(k1 k2 k3:Bool)(a b c:Addr):It :=
  ⟨fun i H=>∃xs ys zs x y z,kf k1 K H a xs/\kf k2 K H b ys/\kf k3 K H c zs/\xs[i]?=some x/\ys[i]?=some y/\zs[i]?=some z,
   fun i H v H'=>∃T x y z,v=.ref T/\H T=none/\H'=eF H T (.tup [x,y,z])/\(∀xs,kf k1 K H a xs->xs[i]?=some x)/\(∀ys,kf k2 K H b ys->ys[i]?=some y)/\∀zs,kf k3 K H c zs->zs[i]?=some z,
   fun i H=>∃xs ys zs,kf k1 K H a xs/\kf k2 K H b ys/\kf k3 K H c zs/\(xs.length=i\/(i<xs.length/\ys.length=i)\/(i<xs.length/\i<ys.length/\zs.length=i))⟩
theorem Q2:(3:Nat)<=sizeLine:=by decide
theorem DD {P:Program}{w:World}{K:PySem.W.Frag}{yG:List Expr}{tk:Nat}{tp:Pos}{k1 k2 k3:Bool}(a b c z TI TO i1 i2 i3:Addr)(Z:MY z TI TO i1 i2 i3)(fa:∀d∈[z,TO,i1,i2,i3],a≠d/\b≠d/\c≠d) :
  Turn P w K (.Tuple yG tk tp) (Itz3 K k1 k2 k3 a b c) [z,TI,TO,i1,i2,i3] z (fun i h=>IsZip h z TI TO .none/\fC h TI (.ref i1) (.ref i2) (.ref i3)/\(∃x y v,fC h TO x y v)/\ItK k1 h i1 a i/\ItK k2 h i2 b i/\ItK k3 h i3 c i) where
 mem:=by simp
 obj:=fun i h ⟨q1,q2,⟨x,y,v,q3⟩,q4,q5,q6⟩ d hd=>by
  simp only[bj,bC,or_false] at hd;rcases hd with rfl|rfl|rfl|rfl|rfl|rfl
  ·exact⟨_,q1,fun v w'=>by cases w'⟩
  ·exact⟨_,q2,fun v w'=>by cases w'⟩
  ·exact⟨_,q3,fun v w'=>by cases w'⟩
  ·exact q4.obj
  ·exact q5.obj
  ·exact q6.obj
 keep:=fun i h h' ⟨q1,q2,⟨x,y,v,q3⟩,q4,q5,q6⟩ k=>⟨k z (by simp) _ q1,k TI (by simp) _ q2,⟨x,y,v,k TO (by simp) _ q3⟩,q4.at fun o q=>k i1 (by simp) o q,q5.at fun o q=>k i2 (by simp) o q,q6.at fun o q=>k i3 (by simp) o q⟩
 item:=by
  rintro X hP hw hK hc i pins s σ H E I hf ⟨q1,q2,⟨ox,oy,ov,q3⟩,q4,q5,q6⟩ ⟨xs,ys,zs,vx,vy,vz,sx,sy,sz,gx,gy,gz⟩;subst hP hw hK;obtain⟨its,rv,ob,hz⟩:=I.mM sx;obtain⟨rH,IV,oc,JM⟩:=I.mM sy;obtain⟨KL,rk,od,RL⟩:=I.mM sz;obtain⟨u,hu,ru⟩:=rv.get gx;obtain⟨v,hv,UQ⟩:=IV.get gy;obtain⟨t,ht,rt⟩:=rk.get gz;have hi:i<its.toArray.size:=by rw[aL];exact (List.getElem?_eq_some_iff.mp hu).1
  have hj:i<rH.toArray.size:=by rw[aL];exact (List.getElem?_eq_some_iff.mp hv).1
  have wj:i<KL.toArray.size:=by rw[aL];exact (List.getElem?_eq_some_iff.mp ht).1
  have fz:=fa z (by simp);have Ij:=fa TO (by simp);have f1:=fa i1 (by simp);have f2:=fa i2 (by simp);have f3:=fa i3 (by simp);have D1:=draws_sq (prog:=X.prog) (w:=X.w) (A:=X.A.in1) (I.ok.hd hc) i1 a f1.1 its.toArray;have D2:=draws_sq (prog:=X.prog) (w:=X.w) (A:=X.A.in1) (I.ok.hd hc) i2 b f2.2.1 rH.toArray;have D3:=draws_sq (prog:=X.prog) (w:=X.w) (A:=X.A.in1) (I.ok.hd hc) i3 c f3.2.2 KL.toArray;have hT:s.TypeIs (.ref z) "zip" := ⟨_,q1,rfl⟩;have HR:z∉[i1,a]/\TO∉[i1,a]/\i2∉[i1,a]/\i3∉[i1,a]:=⟨by simp[Z.zp.a3.symm,fz.1.symm],by simp[Z.zp.a8,Ij.1.symm],by simp[Z.zp.b1.symm,f2.1.symm],by simp[Z.c4.symm,f3.1.symm]⟩;have HQ:z∉[i2,b]/\TO∉[i2,b]/\i1∉[i2,b]/\i3∉[i2,b]:=⟨by simp[Z.zp.a4.symm,fz.2.1.symm],by simp[Z.zp.a9,Ij.2.1.symm],by simp[Z.zp.b1,f1.2.1.symm],by simp[Z.c5.symm,f3.2.1.symm]⟩;have S8:z∉[i3,c]/\TO∉[i3,c]/\i1∉[i3,c]/\i2∉[i3,c]:=⟨by simp[Z.c1.symm,fz.2.2.symm],by simp[Z.c3,Ij.2.2.symm],by simp[Z.c4,f1.2.2.symm],by simp[Z.c5,f2.2.2.symm]⟩;unfold pyNext;refine aa (wpAny_attempt (wpAny_callSpecial?_slot (name:=Str.ofString "__next__") hT F.slot_zip_next (wpAny_call_entry F.slot_zip_next hT F.entry_zip_next
   (Fs Z D1 D2 D3 HR HQ S8 q1 q2 q3 (q4.with ob) (q5.with oc) (q6.with od) hi hj wj fun x y r h' tk px py pr nz Ru n1 n2 n3 nT hk=>ah ?_) (F.args_zip_next_1 _))))
  have ex:x=u:=by
   have:its[i]?=some x:=by simpa using px
   rw[hu] at this;exact (Option.some.inj this).symm
  have ey:y=v:=by
   have:rH[i]?=some y:=by simpa using py
   rw[hv] at this;exact (Option.some.inj this).symm
  have er:r=t:=by
   have:KL[i]?=some r:=by simpa using pr
   rw[ht] at this;exact (Option.some.inj this).symm
  subst ex ey er;have Jn:lJ k1 h' a its.toArray:=ob.at fun o q=>hk a o fz.1 Ij.1 f1.1 f2.1 f3.1 q;have U5:lJ k2 h' b rH.toArray:=oc.at fun o q=>hk b o fz.2.1 Ij.2.1 f1.2.1 f2.2.1 f3.2.1 q;have U4:lJ k3 h' c KL.toArray:=od.at fun o q=>hk c o fz.2.2 Ij.2.2 f1.2.2 f2.2.2 f3.2.2 q;have TJ:fC h' TI (.ref i1) (.ref i2) (.ref i3):=hk TI _ Z.zp.a1 Z.zp.a5 Z.zp.a6 Z.zp.a7 Z.c2 q2;have lt:∀d∈[z,TI,TO,i1,i2,i3],d<s.heap.objs.size:=fun d hd=>by
   simp only[bj,bC,or_false] at hd;rcases hd with rfl|rfl|rfl|rfl|rfl|rfl
   ·exact aD q1
   ·exact aD q2
   ·exact aD q3
   ·obtain⟨o,q,_⟩:=q4.obj;exact aD q
   ·obtain⟨o,q,_⟩:=q5.obj;exact aD q
   ·obtain⟨o,q,_⟩:=q6.obj;exact aD q
  refine⟨_,rfl,?_⟩;have I1:Inv X pins σ (eF H s.heap.objs.size (.tup [vx,vy,vz])) { s with heap:=h',toks:=tk }:=by
   refine I.qD (fp:=[z,TI,TO,i1,i2,i3]) (fun d o hd q=>hk d o (fun w'=>hd (by simp[w'])) (fun w'=>hd (by simp[w'])) (fun w'=>hd (by simp[w'])) (fun w'=>hd (by simp[w'])) (fun w'=>hd (by simp[w'])) q) (fun d hd=>?_) hf (aE _) ⟨Q2,[x,y,r],.cons ru (.cons UQ (.cons rt .nil)),⟨_,nT,rfl,_,rfl⟩⟩;simp only[bj,bC,or_false] at hd;rcases hd with rfl|rfl|rfl|rfl|rfl|rfl
   ·exact⟨_,nz⟩
   ·exact⟨_,TJ⟩
   ·exact⟨_,Ru⟩
   ·obtain⟨o,q,_⟩:=n1.live;exact⟨o,q⟩
   ·obtain⟨o,q,_⟩:=n2.live;exact⟨o,q⟩
   ·obtain⟨o,q,_⟩:=n3.live;exact⟨o,q⟩
  have fr:H s.heap.objs.size=none:=I.fT.fresh (aE _);have fe:=hf z (by simp);refine wpAny_letOwnedTupleGo_zip (s:={ s with heap:=h',toks:=tk }) nz fun g2 U6 oQ=>?_;have I2:Inv X pins σ (eF H s.heap.objs.size (.tup [vx,vy,vz])) { s with heap:=g2,toks:=tk } :=
   Inv.turned (s:={ s with heap:=h',toks:=tk }) (it:=z) (t':=tk) I1 (fun d o hd q=>(oQ.2 d hd).trans q) (by rw[cC (aN (lt z (by simp)))];exact fe.1) fe.2.1 fe.2.2.2.1 fe.2.2.2.2.1 fe.2.2.2.2.2
  refine⟨.ref s.heap.objs.size,_,I2,rfl,⟨_,vx,vy,vz,rfl,fr,rfl,fun Th hy=>?_,fun Th hy=>?_,fun Th hy=>?_⟩,⟨U6,(oQ.2 TI Z.zp.a1).trans TJ,⟨_,_,_,(oQ.2 TO Z.zp.a2).trans Ru⟩,(ItK.of n1 Jn).at fun o q=>(oQ.2 i1 Z.zp.a3).trans q,(ItK.of n2 U5).at fun o q=>(oQ.2 i2 Z.zp.a4).trans q,(ItK.of n3 U4).at fun o q=>(oQ.2 i3 Z.c1).trans q⟩,fun d hd=>?_⟩
  ·rw[I.pL hy sx];exact gx
  ·rw[I.pL hy sy];exact gy
  ·rw[I.pL hy sz];exact gz
  ·rw[cC (aN (lt d hd))];exact (hf d hd).1
 done:=by
  rintro X hP hw hK hc i pins s σ H E I hf ⟨q1,q2,⟨ox,oy,ov,q3⟩,q4,q5,q6⟩ ⟨xs,ys,zs,sx,sy,sz,hl⟩;subst hP hw hK;obtain⟨its,rv,ob,hz⟩:=I.mM sx;obtain⟨rH,IV,oc,JM⟩:=I.mM sy;obtain⟨KL,rk,od,RL⟩:=I.mM sz;have fz:=fa z (by simp);have Ij:=fa TO (by simp);have f1:=fa i1 (by simp);have f2:=fa i2 (by simp);have f3:=fa i3 (by simp);have D1:=draws_sq (prog:=X.prog) (w:=X.w) (A:=X.A.in1) (I.ok.hd hc) i1 a f1.1 its.toArray;have D2:=draws_sq (prog:=X.prog) (w:=X.w) (A:=X.A.in1) (I.ok.hd hc) i2 b f2.2.1 rH.toArray;have D3:=draws_sq (prog:=X.prog) (w:=X.w) (A:=X.A.in1) (I.ok.hd hc) i3 c f3.2.2 KL.toArray;have hT:s.TypeIs (.ref z) "zip" := ⟨_,q1,rfl⟩;have HR:z∉[i1,a]/\TO∉[i1,a]/\i2∉[i1,a]/\i3∉[i1,a]:=⟨by simp[Z.zp.a3.symm,fz.1.symm],by simp[Z.zp.a8,Ij.1.symm],by simp[Z.zp.b1.symm,f2.1.symm],by simp[Z.c4.symm,f3.1.symm]⟩;have HQ:z∉[i2,b]/\TO∉[i2,b]/\i1∉[i2,b]/\i3∉[i2,b]:=⟨by simp[Z.zp.a4.symm,fz.2.1.symm],by simp[Z.zp.a9,Ij.2.1.symm],by simp[Z.zp.b1,f1.2.1.symm],by simp[Z.c5.symm,f3.2.1.symm]⟩;have S8:z∉[i3,c]/\TO∉[i3,c]/\i1∉[i3,c]/\i2∉[i3,c]:=⟨by simp[Z.c1.symm,fz.2.2.symm],by simp[Z.c3,Ij.2.2.symm],by simp[Z.c4,f1.2.2.symm],by simp[Z.c5,f2.2.2.symm]⟩;have tX:i=its.toArray.size\/(i<its.toArray.size/\i=rH.toArray.size)\/(i<its.toArray.size/\i<rH.toArray.size/\i=KL.toArray.size):=by
   rw[aL,aL,aL,<-rv.length,<-IV.length,<-rk.length];rcases hl with z|⟨z1,z2⟩|⟨z1,z2,z3⟩
   ·exact .inl z.symm
   ·exact .inr (.inl ⟨z1,z2.symm⟩)
   ·exact .inr (.inr ⟨z1,z2,z3.symm⟩)
  unfold pyNext;refine aa (wpAny_attempt (wpAny_callSpecial?_slot (name:=Str.ofString "__next__") hT F.slot_zip_next (wpAny_call_entry F.slot_zip_next hT F.entry_zip_next (Im Z D1 D2 D3 HR HQ S8 q1 q2 q3 (q4.with ob) (q5.with oc) (q6.with od) tX fun h' tk ex hk he=>?_) (F.args_zip_next_1 _))));obtain⟨o,ho,yv⟩:=he;refine aa (wpAny_isInstance (T := "StopIteration") (b:=true) ⟨o,ho,yv⟩ isSubtype_stop ?_);refine ah ⟨rfl,?_⟩;have wj:∀d o,d∉[z,TO,i1,i2,i3]->s.heap.get? d=some o->h'.get? d=some o:=fun d o hd q=>hk d o (fun w'=>hd (by simp[w'])) (fun w'=>hd (by simp[w'])) (fun w'=>hd (by simp[w'])) (fun w'=>hd (by simp[w'])) (fun w'=>hd (by simp[w'])) q;have sub:∀d∈[z,TO,i1,i2,i3],d∈[z,TI,TO,i1,i2,i3]:=fun d hd=>by
   simp only[bj,bC,or_false] at hd ⊢;rcases hd with z|z|z|z|z <;> simp[z]
  refine I.step (g':=s.gens) (d':=s.drawn) (ch:=[z,TO,i1,i2,i3]) (fun d hd=>?_) (fun d o _ _ hd q _=>wj d o hd q)
   (fun d o _ _ hd q _=>⟨o.slots,wj d o hd q⟩) (fun _ _ _ _ n=>n)
   (fun d o hd q=>⟨o,wj d o hd q⟩) (fun _ _ e=>e) (fun _ _ _ e=>e) (fun b ps e=>⟨#[],by rw[e];simp⟩) (fun m hm=>?_) (fun d u e=>?_) I.bare
  ·obtain⟨_,f1,f2,f3,f4,f5⟩:=hf d (sub d hd);exact⟨f3,f1,f4,f5⟩
  ·obtain⟨o,es,ep,JS,r⟩:=hm;exact⟨o,es,ep,wj _ o (fun w'=>(hf _ (sub _ w')).2.1 rfl) JS,r⟩
  ·have nf:∀d u,H d=some u->d∉[z,TO,i1,i2,i3]:=fun d u e w'=>by rw[(hf d (sub d w')).1] at e;cases e
   refine (I.fT d u e).w6 (fun d' v hd q=>?_) (fun _ q=>q) fun _ _ q=>q;rcases hd with w'|w'
   ·rw[w'] at q ⊢;exact wj d v (nf d u e) q
   ·exact wj d' v (nf d' _ w') q
 self:=fun _ _ _ _ _ ⟨x,_⟩ h=>wpAny_pyIter_zip x h
section
variable {X:Cx}{e1 e2 e3:Expr}{p pos tp:Pos}{yG:List Expr}{tk:Nat}
noncomputable def RD (K:PySem.W.Frag)(ta:TA):TI:=fun σ H R=>ta σ H fun vs H1=>∃k1 k2 k3 a b c,vs=[.ref a,.ref b,.ref c]/\(∃xs,kf k1 K H1 a xs)/\(∃ys,kf k2 K H1 b ys)/\(∃zs,kf k3 K H1 c zs)/\R (Itz3 K k1 k2 k3 a b c) H1
theorem pi_zip3 {ta:TA}(hg:Gl X "zip")(hm:X.mg "zip" = none)(ha:PA X [e1,e2,e3] ta)(hs:starEach [e1,e2,e3] X.env=[(false,eval e1 X.env),(false,eval e2 X.env),(false,eval e3 X.env)]:=by rfl)(oQ:starEach [e2,e3] X.env=[(false,eval e2 X.env),(false,eval e3 X.env)]:=by rfl) :
  PI X (.Tuple yG tk tp) (.Call (.Name "zip" p) [e1,e2,e3] [] pos) (RD X.K ta):=by
 intro pins s σ H R I h;refine Call_ (ld_blt I hg hm boot_zip (PyProof.Rows.callWith_type1 (thn (ha pos pins s σ H _ I h) fun us s1 ⟨vs,H1,I1,r1,q1⟩=>?_) (by rw[hs,oQ]) (by rw[oQ];rfl)));obtain⟨k1,k2,k3,a,b,c,e,⟨xs,hx⟩,⟨ys,hy⟩,⟨zs,Ve⟩,q⟩:=q1;subst e;cases r1 with
 |cons ru r1 =>
  obtain⟨w',v',rfl,IV,UP⟩:=cV.two r1;cases ru;cases IV;cases UP;obtain⟨its,rv,ob,_⟩:=I1.mM hx;obtain⟨rH,rv2,oc,_⟩:=I1.mM hy;obtain⟨KL,rv3,od,_⟩:=I1.mM Ve;refine BI ob oc od fun h' hz yw Am Eu Et TM hk=>?_;have I2:Inv X pins σ H1 { s1 with heap:=h' }:=I1.kept (t':=s1.toks) hk;have alt:=ob.lt;have blt:=oc.lt;have Up:=od.lt;generalize hn:s1.heap.objs.size=n at hz yw Am Eu Et TM alt blt Up;refine wpAny_pyIter_zip hz ⟨_,_,_,_,H1,rfl,I2,DD (k1:=k1) (k2:=k2) (k3:=k3) a b c (n+5) (n+3) (n+4) n (n+1) (n+2)
   ⟨⟨by simp,by simp,by simp,by simp,by simp,by simp,by simp,by simp,by simp,by simp⟩,by simp,by simp,by simp,by simp,by simp⟩ (fun d hd=>?_),⟨hz,yw,⟨_,_,_,Am⟩,Eu,Et,TM⟩,fun d hd=>?_,q⟩
  ·have:n<=d:=by
    simp only[bj,bC,or_false] at hd;rcases hd with z|z|z|z|z <;> rw[z] <;> first|exact aE _|exact W2 _ _
   exact⟨aN (aM alt this),aN (aM blt this),aN (aM Up this)⟩
  ·have:s1.heap.objs.size<=d:=by
    rw[hn];simp only[bj,bC,or_false] at hd;rcases hd with z|z|z|z|z|z <;> rw[z] <;> first|exact aE _|exact W2 _ _
   exact I1.zP this (I1.fT.fresh this)
end
end L2
namespace DL
open PySem PySem.Spec PySem.SeqAt
open L2 (V Hp St HO VK TE TT TA TS TI TG Cx Inv PE PT PA PS PSs PI PG jN jT cY eF cN cC cE cV dQ EP TP AP SP kJ It kf)
theorem vF:∀(xs ys zs:List D) (i:Nat) (d:D),(jU xs ys zs)[i]?=some d->∃x y z,xs[i]?=some x/\ys[i]?=some y/\zs[i]?=some z/\d=.tuple [x,y,z]
 |[],_,_,i,d,h=>by simp[jU] at h
 |_::_,[],_,i,d,h=>by simp[jU] at h
 |_::_,_::_,[],i,d,h=>by simp[jU] at h
 |x::xs,y::ys,z::zs,0,d,h=>by simp[jU] at h;exact⟨x,y,z,rfl,rfl,rfl,h.symm⟩
 | x::xs,y::ys,z::zs,i+1,d,h=>by
  obtain⟨a,b,c,h1,h2,h3,h4⟩:=vF xs ys zs i d (by simpa [jU] using h);exact⟨a,b,c,by simpa using h1,by simpa using h2,by simpa using h3,h4⟩
theorem vE:∀(xs ys zs:List D),(jU xs ys zs).length=min xs.length (min ys.length zs.length)
 |[],_,_=>by simp[jU]
 |_::_,[],_=>by simp[jU]
 |_::_,_::_,[]=>by simp[jU]
 | _::xs,_::ys,_::zs=>by
  have:=vE xs ys zs;simp only[jU,aJ];omega
theorem Em {K:Fg}{H:Hp}{M O:List Addr}{a b c:Addr}{k1 k2 k3:Bool}{ds es fs:List D}{vs us ws:List V}(h1:∀O' H',jO M O H O' H'->kf k1 K H' a vs)(q1:Rs K H O ds vs)(h2:∀O' H',jO M O H O' H'->kf k2 K H' b us)(q2:Rs K H O es us)
  (h3:∀O' H',jO M O H O' H'->kf k3 K H' c ws) (q3:Rs K H O fs ws):nG K (L2.Itz3 K k1 k2 k3 a b c) (jU ds es fs) M O H:=by
 intro O2 H2 x;have g1:=h1 _ _ x;have g2:=h2 _ _ x;have g3:=h3 _ _ x;have p1:=q1.ext x;have p2:=q2.ext x;have p3:=q3.ext x;have l1:=p1.length;have l2:=p2.length;have l3:=p3.length;refine⟨fun i d e=>?_,vs,us,ws,g1,g2,g3,?_⟩
 ·obtain⟨dx,dy,dz,ex,ey,ez,rfl⟩:=vF ds es fs i d e;obtain⟨v,ev,rv⟩:=p1.get ex;obtain⟨u,eu,ru⟩:=p2.get ey;obtain⟨t,et,rt⟩:=p3.get ez;refine⟨⟨vs,us,ws,v,u,t,g1,g2,g3,ev,eu,et⟩,fun y H3 ⟨T,z1,z2,z3,e1,hT,eH,xM,zH,Vf⟩=>?_⟩;subst e1 eH;have a1:=xM vs g1;have a2:=zH us g2;have a3:=Vf ws g3;rw[ev] at a1;rw[eu] at a2;rw[et] at a3;cases a1;cases a2;cases a3;have s2:cY H2 (eF H2 T (.tup [v,u,t])):=fun b o e=>by rw[cC (cE e hT)];exact e
  exact⟨s2,.tuple (.inl (.inl cN)) (.cons (rv.same s2) (.cons (ru.same s2) (.cons (rt.same s2) .nil)))⟩
 ·rw[vE];omega
section
variable {X:Cx}{e1 e2 e3:Expr}{f g k:AD}{p pos tp:Pos}{yG:List Expr}{tk:Nat}
theorem J6 (hm:X.mg "zip" = none)(h1:DQ X e1 f)(h2:DQ X e2 g)(h3:DQ X e3 k)(hg:L2.Gl X "zip" := by rfl)(hs:starEach [e1,e2,e3] X.env=[(false,eval e1 X.env),(false,eval e2 X.env),(false,eval e3 X.env)]:=by rfl)(oQ:starEach [e2,e3] X.env=[(false,eval e2 X.env),(false,eval e3 X.env)]:=by rfl)(C1:starEach [e3] X.env=[(false,eval e3 X.env)]:=by rfl) :
  DI X (.Tuple yG tk tp) (.Call (.Name "zip" p) [e1,e2,e3] [] pos) (zG f g k):=by
 have pa:PA X [e1,e2,e3] (L2.tCons (uQ X.K f) (L2.tCons (uQ X.K g) (L2.tCons (uQ X.K k) L2.tNil))):=L2.pa_cons h1 (L2.pa_cons h2 (L2.pa_cons h3 L2.pa_nil C1) (by rw[oQ,C1])) (by rw[hs,oQ]);refine (L2.pi_zip3 hg hm pa hs oQ).imp fun σ H Q zz=>?_;obtain ⟨ρ,O,M,cK,zs,hE,hf,kk⟩:=zz;unfold zG at hf;obtain⟨ds,hr,hf⟩:=Option.bind_eq_some_iff.mp hf;obtain⟨es,Vn,hf⟩:=Option.bind_eq_some_iff.mp hf;cases RU:k ρ with
 |none=>rw[RU] at hf;cases hf
 |some fs =>
  rw[RU,au] at hf;cases hf;refine⟨ρ,O,M,cK,ds,hE,hr,fun v H1 k1 s1 ⟨a,vs,ev,Rc,g1⟩=>⟨ρ,O,M,cK,es,hE.same s1,Vn,fun u H2 k2 s2 ⟨b,us,eu,Rb,g2⟩=>⟨ρ,O,M,cK,fs,(hE.same s1).same s2,RU,fun t H3 k3 s3 ⟨c,ws,et,UX,g3⟩=>?_⟩⟩⟩;subst ev eu et;have i3:=jO.id M O H3 (((hE.same s1).same s2).same s3).sub;have Q8:=s2.trans s3;exact⟨k1,k2,k3,a,b,c,rfl,⟨vs,g1 _ _ (i3.back Q8)⟩,⟨us,g2 _ _ (i3.back s3)⟩,⟨ws,g3 _ _ i3⟩,kk _ H3 (s1.trans Q8)
   (Em (fun O' H' x=>g1 O' H' (x.back Q8)) ((Rc.same s2).same s3) (fun O' H' x=>g2 O' H' (x.back s3)) (Rb.same s3) (fun O' H' x=>g3 O' H' x) UX)⟩
end
end DL
namespace L2.Srt
open PySem PyProof.Rows
section
variable {prog:Program}{w:World}{A:Around}{E:Value->Shared->Prop}{s:Shared}{a₀:Array Keyed}{κ:PyProof.Rows.KeyKind}{kd:SortKind}{st:SortSt}
noncomputable abbrev P6 (st:SortSt):SortSt:=SortSt.mk' oneType' (arrOf st) (pendingOf st) (gallopOf st) (failedOf st)
structure Bs (a₀:Array Keyed)(kd:SortKind)(st:SortSt):Prop where
 b:SBase a₀ (P6 st)
 k:kindOf st=kd
theorem Bs.sz (B:Bs a₀ kd st):(arrOf st).size=a₀.size:=B.b.size
theorem Bs.put (B:Bs a₀ kd st){xs:Array Keyed}(p:xs.Perm (arrOf st)):Bs a₀ kd (setArr st xs):=⟨B.b.setArr p,B.k⟩
noncomputable def Cm (prog:Program)(w:World)(A:Around)(s:Shared)(κ:PyProof.Rows.KeyKind)(kd:SortKind):Prop :=
 ∀(E:Value->Shared->Prop) (x y:Value) (a b:κ.α) (Q:Bool->Shared->Prop),κ.keyOf x=some a->κ.keyOf y=some b->Q (κ.blt a b) s->wpAny (model prog w) A (keyLt' kd x y) Q E s
noncomputable abbrev ky (κ:PyProof.Rows.KeyKind)(st:SortSt)(i:Nat):κ.α:=KK κ (arrOf st) i
theorem less (C:Cm prog w A s κ kd)(O:KeysOf κ a₀)(B:Bs a₀ kd st){i j:Nat}(hi:i<a₀.size)(hj:j<a₀.size){Q:Option Bool->SortSt->Prop}(h:Q (some (κ.blt (ky κ st i) (ky κ st j))) st) :
  wpS (model prog w) A E s (ltAt' i j) Q st:=by
 obtain⟨x,p,a,e1,ka,g1⟩:=B.b.atK O hi;obtain⟨y,q,b,e2,kb,g2⟩:=B.b.atK O hj;have MA:(arrOf st)[i]?=some (x,p):=e1;have Hg:(arrOf st)[j]?=some (y,q):=e2;have Ws:ky κ st i=a:=g1;have Wr:ky κ st j=b:=g2;rw[Ws,Wr] at h;rw[ltAt'_eq];refine wpS_bind (wpS_get (show wpS _ _ _ _ (elem' (arrOf st) i>>=fun x=>elem' (arrOf st) j>>=fun y=>lt' x y) Q st from ?_));rw[elem'_eq,elem'_eq,MA,Hg];refine wpS_bind (wpS_pure (wpS_bind (wpS_pure ?_)));rw[lt'_eq];refine wpS_bind (wpS_get ?_);rw[B.k];exact wpS_bind (wpS_lift (wpAny_attempt (C _ x y a b _ ka kb ⟨rfl,wpS_pure h⟩)))
theorem UB {xs:Array Keyed}{x:Nat}(h:SortedToK κ xs x)(h1:1<=x)(l:κ.kle (KK κ xs (x-1)) (KK κ xs x)):SortedToK κ xs (x+1):=fun i j ij jx=>by
 rcases bW j x with z|z
 ·exact h i j ij z
 ·cases (show j=x by omega);rcases bW i x with z'|z'
  ·exact KeyOrd.kle_trans (h i (x-1) ⋯ ⋯) l
  ·cases (show i=x by omega);exact KeyOrd.kle_refl _
theorem PN {xs:Array Keyed}{x:Nat}(h:NonIncK κ xs x)(h1:1<=x)(l:κ.kle (KK κ xs x) (KK κ xs (x-1))):NonIncK κ xs (x+1):=fun i j ij jx=>by
 rcases bW j x with z|z
 ·exact h i j ij z
 ·cases (show j=x by omega);rcases bW i x with z'|z'
  ·exact KeyOrd.kle_trans l (h i (x-1) ⋯ ⋯)
  ·cases (show i=x by omega);exact KeyOrd.kle_refl _
theorem one {xs:Array Keyed}:SortedToK κ xs 1:=fun i j ij j1=>by cases (show i=j by omega);exact KeyOrd.kle_refl _
theorem HF (C:Cm prog w A s κ kd)(O:KeysOf κ a₀)(B:Bs a₀ kd st){a n:Nat}(hn:n<=a₀.size)(h1:1<=a)(an:a<=n)(hs:SortedToK κ (arrOf st) a){Q:AscSt->SortSt->Prop}
  (h:∀m,a<=m->m<=n->SortedToK κ (arrOf st) m->(m<n->κ.klt (ky κ st m) (ky κ st (m-1)))->Q (none,m) st):wpS (model prog w) A E s (ascLoop a n) Q st:=by
 unfold ascLoop;refine wpS_forRange (I:=fun x c t=>t=st/\c=(none,x)/\SortedToK κ (arrOf st) x) (fun x c t ax xn ⟨et,ec,hx⟩=>?_) (fun c t ⟨et,ec,hx⟩=>?_) ⟨rfl,rfl,hs⟩
 ·subst et ec;refine wpS_bind (less C O B ⋯ ⋯ ?_);by_cases l:κ.blt (ky κ t x) (ky κ t (x-1))=true
  ·rw[l];exact wpS_pure (h x ax ⋯ hx fun _=>l)
  ·rw[Bool.not_eq_true] at l;rw[l];exact wpS_pure ⟨rfl,rfl,UB hx ⋯ l⟩
 ·subst et ec;rw[show max a n=n by omega] at hx ⊢;exact h n an (aE n) hx fun z=>absurd z (bF n)
abbrev Te (κ:PyProof.Rows.KeyKind)(a₀:Array Keyed)(kd:SortKind)(n:Nat)(Q:Option Nat->SortSt->Prop):Prop:=∀m t,Bs a₀ kd t->1<=m->m<=n->SortedToK κ (arrOf t) m->Q (some m) t
theorem turned (C:Cm prog w A s κ kd)(O:KeysOf κ a₀)(B:Bs a₀ kd st){m n:Nat}(hn:n<=a₀.size)(h1:1<=m)(mn:m<=n)(hs:NonIncK κ (arrOf st) m){Q:Option Nat->SortSt->Prop}(h:Te κ a₀ kd n Q) :
  wpS (model prog w) A E s (tail3 m n) Q st:=by
 have B':=B.put (mirror_perm (arrOf st) 0 m ((m-0)/2));have z:m<=(arrOf st).size:=by rw[B.sz];omega
 unfold tail3;refine wpS_bind (wpS_reverse (wpS_bind (HF C O B' hn h1 mn (fun i j ij jm=>?_) fun k k1 k2 k3 _=>wpS_pure (h k _ B' ⋯ k2 k3))));show κ.kle (KK κ (mirror (arrOf st) 0 m ((m-0)/2)) i) (KK κ (mirror (arrOf st) 0 m ((m-0)/2)) j);rw[KK_mirror z i,KK_mirror z j,if_pos ⟨bB _,by omega⟩,if_pos ⟨bB _,by omega⟩];exact hs _ _ ⋯ ⋯
structure M5 (κ:PyProof.Rows.KeyKind)(t:SortSt)(m q:Nat):Prop where
 dn:NonIncK κ (arrOf t) m
 q1:q+1<=m
 eq:∀i,m-(q+1)<=i->i<m->ky κ t i=ky κ t (m-1)
theorem PK (C:Cm prog w A s κ kd)(O:KeysOf κ a₀)(B:Bs a₀ kd st){m n:Nat}(hn:n<=a₀.size)(h1:1<=m)(mn:m<=n)(hs:NonIncK κ (arrOf st) m){Q:DescSt->SortSt->Prop}
  (h:∀k q t,Bs a₀ kd t->m<=k->k<=n->M5 κ t k q->Q (none,k,q) t):wpS (model prog w) A E s (descLoop m n) Q st:=by
 unfold descLoop;have alone:∀{t:SortSt}{k:Nat},NonIncK κ (arrOf t) k->1<=k->M5 κ t k 0:=fun {t k} d k1=>⟨d,by omega,fun i i1 i2=>by rw[show i=k-1 by omega]⟩;refine wpS_forRange (I:=fun x c t=>∃q,c=(none,x,q)/\Bs a₀ kd t/\M5 κ t x q) (fun x c t mx xn ⟨q,ec,Bt,F⟩=>?_) (fun c t ⟨q,ec,Bt,F⟩=>?_) ⟨0,rfl,B,alone hs h1⟩
 ·subst ec;have z:x<=(arrOf t).size:=by rw[Bt.sz];omega
  dsimp only;refine wpS_bind (less C O Bt ⋯ ⋯ ?_);by_cases l:κ.blt (ky κ t x) (ky κ t (x-1))=true
  ·rw[l];have same:∀i,KK κ (mirror (arrOf t) (x-(q+1)) x ((x-(x-(q+1)))/2)) i=ky κ t i:=KK_mirror_equal z F.eq;dsimp only;rw[if_pos rfl];by_cases hq:q>0
   ·rw[if_pos hq];refine wpS_bind (wpS_reverse (wpS_pure ⟨0,rfl,Bt.put (mirror_perm _ _ _ _),alone (fun i j ij jx=>?_) ⋯⟩));show κ.kle (KK κ (mirror (arrOf t) _ _ _) j) (KK κ (mirror (arrOf t) _ _ _) i);rw[same,same];exact PN F.dn ⋯ (KeyOrd.kle_of_klt l) i j ij jx
   ·rw[if_neg hq];exact wpS_pure ⟨0,rfl,Bt,alone (PN F.dn ⋯ (KeyOrd.kle_of_klt l)) ⋯⟩
  ·rw[Bool.not_eq_true] at l;rw[l];dsimp only;rw[if_neg Bool.false_ne_true];refine wpS_bind (less C O Bt ⋯ ⋯ ?_);by_cases g:κ.blt (ky κ t (x-1)) (ky κ t x)=true
   ·rw[g];exact wpS_pure (h x q t Bt mx ⋯ F)
   ·rw[Bool.not_eq_true] at g;rw[g];have ex:ky κ t x=ky κ t (x-1):=κ.total _ _ l g;refine wpS_pure ⟨q+1,rfl,Bt,⟨PN F.dn ⋯ g,by have:=F.q1;omega,fun i i1 i2=>?_⟩⟩;rw[Nat.add_sub_cancel,ex];rcases bW i x with z1|z1
    ·exact F.eq i ⋯ z1
    ·rw[show i=x by omega,ex]
 ·subst ec;rw[show max m n=n by omega] at F ⊢;exact h n q t Bt mn (aE n) F
theorem PJ (C:Cm prog w A s κ kd)(O:KeysOf κ a₀)(B:Bs a₀ kd st){m n:Nat}(hn:n<=a₀.size)(mn:m+1<=n)(hs:NonIncK κ (arrOf st) (m+1)){Q:Option Nat->SortSt->Prop}(h:Te κ a₀ kd n Q) :
  wpS (model prog w) A E s (descPart m n) Q st:=by
 unfold descPart;refine wpS_bind (wpS_lift (wpAny_rule ⟨rfl,wpS_bind (PK C O B hn ⋯ mn hs fun k q t Bt mk kn F=>?_)⟩));have z:k<=(arrOf t).size:=by rw[Bt.sz];omega
 have same:∀i,KK κ (mirror (arrOf t) (k-(q+1)) k ((k-(k-(q+1)))/2)) i=ky κ t i:=KK_mirror_equal z F.eq;dsimp only;by_cases hq:q>0
 ·rw[if_pos hq];refine wpS_bind (wpS_reverse (turned C O (Bt.put (mirror_perm _ _ _ _)) hn ⋯ kn (fun i j ij jk=>?_) h));show κ.kle (KK κ (mirror (arrOf t) _ _ _) j) (KK κ (mirror (arrOf t) _ _ _) i);rw[same,same];exact F.dn i j ij jk
 ·rw[if_neg hq];exact turned C O Bt hn ⋯ kn F.dn h
theorem MF (C:Cm prog w A s κ kd)(O:KeysOf κ a₀)(B:Bs a₀ kd st){n:Nat}(hn:n<=a₀.size)(h1:1<=n){Q:Option Nat->SortSt->Prop}(h:Te κ a₀ kd n Q):wpS (model prog w) A E s (countRun' 0 n) Q st:=by
 rw[countRun0_eq];refine wpS_bind (HF C O B hn (aE 1) h1 one fun m m1 mn hs hl=>?_);dsimp only;by_cases e:m=n
 ·rw[if_pos (beq_iff_eq.mpr e)];exact wpS_pure (h m st B m1 mn hs)
 ·have l:=hl ⋯;rw[if_neg (fun z=>e (beq_iff_eq.mp z))];by_cases m2:m>1
  ·rw[if_pos m2];refine wpS_bind (less C O B ⋯ ⋯ ?_);by_cases r:κ.blt (ky κ st 0) (ky κ st (m-1))=true
   ·rw[r];exact wpS_pure (h m st B m1 mn hs)
   ·rw[Bool.not_eq_true] at r;rw[r];have alike:∀i,0<=i->i<m->ky κ st i=ky κ st (m-1):=fun i _ im=>κ.total _ _ (KeyOrd.kle_trans r (hs 0 i (bB _) im)) (hs i (m-1) ⋯ ⋯);have z:m<=(arrOf st).size:=by rw[B.sz];omega
    have same:∀i,KK κ (mirror (arrOf st) 0 m ((m-0)/2)) i=ky κ st i:=KK_mirror_equal z alike;have low:NonIncK κ (arrOf st) m:=fun i j ij jm=>by rw[show KK κ (arrOf st) j=_ from alike j (bB _) jm,show KK κ (arrOf st) i=_ from alike i (bB _) ⋯];exact KeyOrd.kle_refl _
    refine wpS_bind (wpS_reverse (PJ C O (B.put (mirror_perm _ _ _ _)) hn ⋯ (fun i j ij jm=>?_) h));show κ.kle (KK κ (mirror (arrOf st) _ _ _) j) (KK κ (mirror (arrOf st) _ _ _) i);rw[same,same];exact PN low m1 (KeyOrd.kle_of_klt l) i j ij jm
  ·rw[if_neg m2];cases (show m=1 by omega);exact PJ C O B hn ⋯ (PN (fun i j ij j1=>by cases (show i=j by omega);exact KeyOrd.kle_refl _) (aE 1) (KeyOrd.kle_of_klt l)) h
end
section
variable {prog:Program}{w:World}{A:Around}{E:Value->Shared->Prop}{s:Shared}{a₀:Array Keyed}{κ:PyProof.Rows.KeyKind}{kd:SortKind}{st:SortSt}
structure Tg (κ:PyProof.Rows.KeyKind)(t:SortSt)(k l r:Nat):Prop where
 lr:l<=r
 rk:r<=k
 lo:∀i,i<l->κ.kle (ky κ t i) (ky κ t k)
 hi:∀i,r<=i->i<k->κ.klt (ky κ t k) (ky κ t i)
theorem Tg.N8 {t:SortSt}{k l:Nat}(G:Tg κ t k l l)(hs:SortedToK κ (arrOf t) k)(z:k<(arrOf t).size):SortedToK κ (bubble (arrOf t) k (k-l)) (k+1):=fun i j ij jk=>by
 have lk:=G.rk;have at_:∀i,KK κ (bubble (arrOf t) k (k-l)) i=if i=l then ky κ t k else if l<i/\i<=k then ky κ t (i-1) else ky κ t i:=fun i=>by
  rw[KK_bubble z (Nat.sub_le k l) i,show k-(k-l)=l by omega]
 rw[at_ i,at_ j];by_cases i1:i=l
 ·rw[if_pos i1];by_cases j1:j=l
  ·rw[if_pos j1];exact KeyOrd.kle_refl _
  ·rw[if_neg j1,if_pos ⋯];exact KeyOrd.kle_of_klt (G.hi _ ⋯ ⋯)
 ·rw[if_neg i1];by_cases i2:l<i/\i<=k
  ·rw[if_pos i2,if_neg ⋯,if_pos ⋯];exact hs _ _ ⋯ ⋯
  ·rw[if_neg i2];by_cases j1:j=l
   ·rw[if_pos j1];exact G.lo i ⋯
   ·rw[if_neg j1];by_cases j2:l<j/\j<=k
    ·rw[if_pos j2];exact hs _ _ ⋯ ⋯
    ·rw[if_neg j2];exact hs _ _ ij ⋯
theorem JK (C:Cm prog w A s κ kd)(O:KeysOf κ a₀)(B:Bs a₀ kd st){n ok:Nat}(hn:n<=a₀.size)(o1:1<=ok)(on:ok<=n)(hs:SortedToK κ (arrOf st) ok){Q:Bool->SortSt->Prop}
  (h:∀t,Bs a₀ kd t->SortedToK κ (arrOf t) n->Q true t):wpS (model prog w) A E s (binarySort' 0 n ok) Q st:=by
 rw[binarySort'_eq];simp only[bJ];rw[show max ok 1=ok by omega];refine wpS_bind (wpS_forRange (I:=fun k c t=>c=(none,())/\Bs a₀ kd t/\SortedToK κ (arrOf t) k) (fun k c t ak kn ⟨ec,Bt,hk⟩=>?_) (fun c t ⟨ec,Bt,hk⟩=>?_) ⟨rfl,B,hs⟩)
 ·subst ec;have z:k<(arrOf t).size:=by rw[Bt.sz];omega
  refine wpS_bind (wpS_forRange (I:=fun x c t'=>t'=t/\∃l r,c=(none,l,r)/\r-l<=k-x/\Tg κ t k l r) (fun x c t' _ xk ⟨et,l,r,ec,d,G⟩=>?_) (fun c t' ⟨et,l,r,ec,d,G⟩=>?_)
   ⟨rfl,0,k,rfl,by omega,⟨by omega,by omega,fun i z=>absurd z (Nat.not_lt_zero i),fun i z1 z2=>absurd z2 ⋯⟩⟩)
  ·subst et ec;have lr:=G.lr;have rk:=G.rk;dsimp only;by_cases done:l ≥ r
   ·have e:l=r:=by omega
    subst e;rw[if_pos done];refine wpS_pure ?_;show wpS _ _ _ _ (moveDown' k l>>=fun _=>pure (ForInStep.yield (none,()))) _ t';rw[moveDown'_eq];exact wpS_bind (wpS_modify (wpS_pure ⟨rfl,Bt.put (bubble_perm _ _ _),G.N8 hk z⟩))
   ·rw[if_neg done];refine wpS_bind (less C O Bt ⋯ ⋯ ?_);by_cases c:κ.blt (ky κ t' k) (ky κ t' ((l+r)/2))=true
    ·rw[c];exact wpS_pure ⟨rfl,l,(l+r)/2,rfl,by omega,⟨by omega,by omega,G.lo,fun i i1 i2=>KeyOrd.klt_of_klt_of_kle c (hk _ _ i1 i2)⟩⟩
    ·rw[Bool.not_eq_true] at c;rw[c];exact wpS_pure ⟨rfl,(l+r)/2+1,r,rfl,by omega,⟨by omega,rk,fun i i1=>KeyOrd.kle_trans (hk i ((l+r)/2) ⋯ ⋯) c,G.hi⟩⟩
  ·subst et ec;have lr:=G.lr;have e:l=r:=by omega
   subst e;show wpS _ _ _ _ (moveDown' k l>>=fun _=>pure (ForInStep.yield (none,()))) _ t';rw[moveDown'_eq];exact wpS_bind (wpS_modify (wpS_pure ⟨rfl,Bt.put (bubble_perm _ _ _),G.N8 hk z⟩))
 ·subst ec;rw[show max ok n=n by omega] at hk;exact wpS_pure (h t Bt hk)
theorem Q9 (C:Cm prog w A s κ kd)(O:KeysOf κ a₀)(B:Bs a₀ kd st)(h2:2<=a₀.size)(JX:a₀.size<64){Q:Unit->SortSt->Prop}
  (h:∀t,(arrOf t).Perm a₀->failedOf t=none->SortedToK κ (arrOf t) a₀.size->Q () t):wpS (model prog w) A E s sortRuns' Q st:=by
 have mr:minRun' a₀.size a₀.size 0=a₀.size:=by
  rw[show a₀.size=(a₀.size-1)+1 by omega,minRun'_succ,if_pos ⋯]
 rw[sortRuns'_eq];refine wpS_bind (wpS_get ?_);dsimp only;simp only[B.sz,mr];refine wpS_bind (wpS_forRange (I:=fun x c t=>(x=0/\c=(none,0)/\Bs a₀ kd t)\/(0<x/\c=(none,a₀.size)/\(arrOf t).Perm a₀/\failedOf t=none/\pendingOf t=#[(0,a₀.size,0)]/\SortedToK κ (arrOf t) a₀.size)) (fun x c t _ xn hx=>?_) (fun c t hx=>?_) (.inl ⟨rfl,rfl,B⟩))
 ·rcases hx with ⟨ex,ec,Bt⟩|⟨x0,ec,p1,p2,p3,p4⟩
  ·subst ex ec;have fin:∀t,Bs a₀ kd t->SortedToK κ (arrOf t) a₀.size->(arrOf (setPending t ((pendingOf t).push (0,a₀.size,0)))).Perm a₀/\failedOf (setPending t ((pendingOf t).push (0,a₀.size,0)))=none/\pendingOf (setPending t ((pendingOf t).push (0,a₀.size,0)))=#[(0,a₀.size,0)] ∧
     SortedToK κ (arrOf (setPending t ((pendingOf t).push (0,a₀.size,0)))) a₀.size:=fun t Bt hs=>⟨Bt.b.perm,Bt.b.failed,(by have e:pendingOf t=#[]:=Bt.b.pend;show (pendingOf t).push _=_;rw[e];rfl),hs⟩
   dsimp only;rw[if_neg ⋯];simp only[Nat.sub_zero,Nat.min_self,bJ];refine wpS_bind (MF C O Bt (aE _) ⋯ fun m t2 B2 m1 mn oQ=>?_);dsimp only;by_cases lt:m<a₀.size
   ·rw[if_pos lt];refine wpS_bind (wpS_lift (wpAny_rule ⟨rfl,wpS_bind (JK C O B2 (aE _) m1 mn oQ fun t3 B3 C1=>?_)⟩));simp only[Bool.not_true,Bool.false_eq_true,if_false];refine wpS_bind (wpS_get ?_);rw[show (pendingOf t3).back?=none by rw[show pendingOf t3=#[] from B3.b.pend];rfl];exact wpS_bind (wpS_modify (wpS_pure (.inr ⟨Nat.succ_pos _,rfl,fin t3 B3 C1⟩)))
   ·cases (show m=a₀.size by omega);rw[if_neg lt];refine wpS_bind (wpS_get ?_);rw[show (pendingOf t2).back?=none by rw[show pendingOf t2=#[] from B2.b.pend];rfl];exact wpS_bind (wpS_modify (wpS_pure (.inr ⟨Nat.succ_pos _,rfl,fin t2 B2 oQ⟩)))
  ·subst ec;dsimp only;rw[if_pos (aE _)];refine wpS_pure (wpS_bind (wpS_forRange (I:=fun _ c t'=>t'=t/\c=(none,())) (fun y c t' _ _ ⟨et,ec⟩=>?_) (fun c t' ⟨et,ec⟩=>?_) ⟨rfl,rfl⟩))
   ·subst et ec;refine wpS_bind (wpS_get ?_);rw[if_pos (by rw[p3];exact aE 1)];exact wpS_pure (wpS_pure (h _ p1 p2 p4))
   ·subst et ec;exact wpS_pure (h _ p1 p2 p4)
 ·rcases hx with ⟨ex,_⟩|⟨x0,ec,p1,p2,p3,p4⟩
  ·omega
  ·subst ec;dsimp only;refine wpS_bind (wpS_forRange (I:=fun _ c t'=>t'=t/\c=(none,())) (fun y c t' _ _ ⟨et,ec⟩=>?_) (fun c t' ⟨et,ec⟩=>?_) ⟨rfl,rfl⟩)
   ·subst et ec;refine wpS_bind (wpS_get ?_);rw[if_pos (by rw[p3];exact aE 1)];exact wpS_pure (wpS_pure (h _ p1 p2 p4))
   ·subst et ec;exact wpS_pure (h _ p1 p2 p4)
end
def mG (h:Heap)(v:Value)(p:Int×Int):Prop:=∃(c:Addr) (t u:Tok),v=.ref c/\h.IsTuple c #[.int p.1 t,.int p.2 u]
theorem mG.inj {h:Heap}{v:Value}{p q:Int×Int}(x:mG h v p)(y:mG h v q):p=q:=by
 obtain⟨c,t,u,rfl,o,e,_,n,d⟩:=x;obtain⟨c',t',u',e',o',e2,_,n',d'⟩:=y;cases e';rw[e] at e2;cases e2;rw[d] at d';cases p;cases q;simp only[Data.seq.injEq] at d';have z:=congrArg Array.toList d'.1;simp only[List.cons.injEq,Value.int.injEq] at z;rw[z.1.1,z.2.1.1]
inductive Prs (h:Heap):List Value->List (Int×Int)->Prop where
 |nil:Prs h [] []
 |cons {v:Value}{p:Int×Int}{vs:List Value}{ps:List (Int×Int)}:mG h v p->Prs h vs ps->Prs h (v::vs) (p::ps)
noncomputable def pLt (p q:Int×Int):Bool:=decide (p.1<q.1\/(p.1=q.1/\p.2<q.2))
open Classical in
@[reducible] noncomputable def prKd (h:Heap):PyProof.Rows.KeyKind where
 α:=Int×Int
 blt:=pLt
 irrefl:=fun a=>by simp[pLt]
 trans:=fun a b c x y=>by simp only[pLt,decide_eq_true_eq] at *;omega
 negTrans:=fun a b c x=>by simp only[pLt,decide_eq_true_eq] at *;omega
 total:=fun a b x y=>by
  simp only[pLt,decide_eq_false_iff_not] at *;cases a;cases b;simp only[Prod.mk.injEq] at *;omega
 keyOf:=fun v=>if e:∃p,mG h v p then some e.choose else none
 dflt:=(0,0)
open Classical in
theorem key_of {h:Heap}{v:Value}{p:Int×Int}(x:mG h v p):(prKd h).keyOf v=some p:=by
 have e:∃p,mG h v p:=⟨p,x⟩;show (if e:∃p,mG h v p then some e.choose else none)=some p;rw[dif_pos e,e.choose_spec.inj x]
open Classical in
theorem Gi {h:Heap}{v:Value}{p:Int×Int}(x:(prKd h).keyOf v=some p):mG h v p:=by
 have x':(if e:∃p,mG h v p then some e.choose else none)=some p:=x;split at x'
 ·rename_i e;cases x';exact e.choose_spec
 ·cases x'
section
variable {prog:Program}{w:World}{A:Around}{E:Value->Shared->Prop}{s:Shared}
theorem xG (f:Bool)(x y:Value):keyLt' (tuples' f) x y=(Builtin.List.listItems x>>=fun xs=>Builtin.List.listItems y>>=fun ys=>do
  for ((p,q),i) in (xs.toList.zip ys.toList).zipIdx do
   if !(<-eqBool p q) then return <-oneLt' (f&&i==0) p q
  return xs.size<ys.size):=rfl
theorem AR {a b:Int}{t u:Tok}{Q:Bool->Shared->Prop}(h:Q (decide (a<b)) s):wpAny (model prog w) A (oneLt' false (.int a t) (.int b u)) Q E s:=by
 rw[oneLt'_eq];simp only[Bool.false_eq_true,if_false];exact aa (show wpAny (model prog w) A (compareOp .Lt (.int a t) (.int b u)) _ E s from lt_int (wpAny_truthy_bool h))
theorem Gg {h:Heap}(k:∀v p,mG h v p->mG s.heap v p):Cm prog w A s (prKd h) (tuples' true):=by
 intro E x y a b Q hx hy q;obtain⟨c,t,u,rfl,o,e,_,n,d⟩:=k _ _ (Gi hx);obtain⟨c',t',u',rfl,o',e',_,n',d'⟩:=k _ _ (Gi hy);rw[xG];refine aa (listItems_at e d (aa (listItems_at e' d' ?_)));simp only[Xa,List.zip_nil_right,W3,Xl,WQ,W0];have q':Q (pLt a b) s:=q;refine aa (aa (aa (wpAny_eqBool_int ?_)));by_cases e1:a.1=b.1
 ·rw[show (a.1==b.1)=true from beq_iff_eq.mpr e1];refine ah (aa (aa (wpAny_eqBool_int ?_)));by_cases e2:a.2=b.2
  ·rw[show (a.2==b.2)=true from beq_iff_eq.mpr e2];have:pLt a b=false:=by simp only[pLt,decide_eq_false_iff_not];omega
   rw[this] at q';exact ah (ah (ah q'))
  ·rw[show (a.2==b.2)=false from beq_eq_false_iff_ne.mpr e2];have:pLt a b=decide (a.2<b.2):=by simp only[pLt,e1,true_and,Int.lt_irrefl,false_or]
   rw[this] at q';exact aa (AR (ah (ah (ah q'))))
 ·rw[show (a.1==b.1)=false from beq_eq_false_iff_ne.mpr e1];have:pLt a b=decide (a.1<b.1):=by simp only[pLt,e1,false_and,or_false]
  rw[this] at q';exact aa (oneLt_int (ah (ah (ah q'))))
theorem ug (v:Value):firstOfTuple' v=(typeOf v>>=fun t=>if (t != .type "tuple")=true then pure none else Builtin.List.listItems v>>=fun xs=>pure xs[0]?):=rfl
theorem Hd {v:Value}{p:Int×Int}(x:mG s.heap v p){Q:Option Value->Shared->Prop}(h:∀t,Q (some (.int p.1 t)) s):wpAny (model prog w) A (firstOfTuple' v) Q E s:=by
 obtain⟨c,t,u,rfl,o,e,hc,n,d⟩:=x;rw[ug];refine aa (wpAny_typeOf (T := "tuple") ⟨o,e,hc⟩ ?_);exact aa (listItems_at e d (ah (h t)))
theorem wu:∀{vs:List Value}{ps:List (Int×Int)},Prs s.heap vs ps->∀{Q:List (Option Value)->Shared->Prop},(∀ts:List Tok,ts.length=ps.length->Q ((ps.zip ts).map fun x=>some (.int x.1.1 x.2)) s)->wpAny (model prog w) A (vs.mapM firstOfTuple') Q E s
 |_,_,.nil,Q,h=>by rw[List.mapM_nil];exact ah (h [] rfl)
 | _,_,.cons x r,Q,h=>by
  rw[List.mapM_cons];refine aa (Hd x fun t=>aa (wu r fun ts hl=>ah ?_));exact h (t::ts) (by rw[aJ,aJ,hl])
theorem vJ:∀(xs:List (Int×Tok)),(xs.map fun x=>Value.int x.1 x.2).mapM typeOf=pure (xs.map fun _=>Value.type "int")
 |[]=>by simp
 | x::xs=>by
  rw[aC,List.mapM_cons,vJ xs];show (pure (Value.type "int")>>=fun b=>pure _>>=fun bs=>pure (b::bs))=_;simp
theorem JE {vs:List Value}{ps:List (Int×Int)}(hp:Prs s.heap vs ps)(hn:ps≠[]){Q:SortKind->Shared->Prop}(h:Q (tuples' true) s):wpAny (model prog w) A (keyKind' vs.toArray) Q E s:=by
 rw[keyKind'_eq,List.mapM_toArray,<-bind_pure_comp];refine aa (aa (wu hp fun ts hl=>ah ?_));have e1:((ps.zip ts).map fun x=>some (Value.int x.1.1 x.2)).toArray.all (fun x=>x.isSome)=true:=by simp
 have e2:(((ps.zip ts).map fun x=>some (Value.int x.1.1 x.2)).toArray.filterMap id)=(((ps.zip ts).map fun x=>(x.1.1,x.2)).map fun x=>Value.int x.1 x.2).toArray:=by simp[Function.comp_def]
 rw[if_pos e1,e2];refine aa (wpAny_rule ?_);rw[oneTypeOnly'_eq,List.mapM_toArray,vJ];have og:(ps.zip ts).map (fun x=>(x.1.1,x.2))≠[]:=by
  cases ps with
  |nil=>exact absurd rfl hn
  |cons p ps =>
   cases ts with
   |nil=>cases hl
   |cons t ts=>simp
 generalize (ps.zip ts).map (fun x=>(x.1.1,x.2))=zs at og;cases zs with
 |nil=>exact absurd rfl og
 |cons z zs =>
  have all:((z::zs).map fun _=>Value.type "int").toArray.all (fun t=>t==Value.type "int")=true:=by simp only[List.all_toArray,List.all_map,WS];intro _ _;rfl
  simp only[map_pure,pure_bind,aC];rw[show (Value.type "int" :: zs.map fun _=>Value.type "int").toArray[0]?=some (Value.type "int") by simp];rw[aC] at all;simp only[all,if_true,pure_bind];exact ah h
end
section
variable {prog:Program}{w:World}{A:Around}{E:Value->Shared->Prop}{s:Shared}
theorem Bm {l:Addr}{vs:List Value}{Q:List Value->Shared->Prop}(hl:s.heap.IsTuple l vs.toArray)(hz:vs.length<=sizeLine)
  (h:Q vs { s with heap:=(s.heap.push (seqObj "list" #[] 0)).update s.heap.objs.size (Obj.mapSeq (·++vs.toArray)) }):wpAny (model prog w) A (collect (.ref l)) Q E s:=by
 obtain⟨o,ho,hc,n,hd⟩:=hl;have S7:(s.heap.push (seqObj "list" #[] 0)).get? s.heap.objs.size=some (seqObj "list" #[] 0):=az _ rfl;have P5:(s.heap.push (seqObj "list" #[] 0)).get? l=some o:=af _ ho;have e0:((#[]:Array Value)++vs.toArray).toList=vs:=by simp
 unfold collect;refine aa (wpAny_runValue (codeAny_builtin entry_proto_collect' ?_));show wpAny _ _ (newList []>>=fun x=>again (.builtin "list.__iadd__" ⟨[x,.ref l],[]⟩)) _ _ s;refine aa (wpAny_newList (ah ⟨Code.quiet_builtin _ (by decide +kernel),codeAny_builtin entry_list_iadd' (show wpAny _ _ (Builtin.List.listExtendWith (.ref s.heap.objs.size) (.ref l) (.ref s.heap.objs.size)) _ _ { s with heap:=s.heap.push (seqObj "list" #[] 0) } from ?_)⟩));unfold Builtin.List.listExtendWith;refine aa (wpAny_typeOf (T := "tuple") ⟨o,P5,hc⟩ ?_);rw[if_pos (by rw[show (Value.type "tuple" == Value.type "tuple")=true from rfl,Bool.or_true])];refine aa (listItems_at P5 hd (aa (listItems_at S7 rfl ?_)));rw[if_neg (by rw[show (#[]:Array Value).isEmpty=true from rfl];simp)];refine aa (listUpdate_at S7 rfl (ah ?_) (bB _) (by rw[Array.size_append,aL];simp only[aL,WO];omega));refine aa (wpAny_load (get?_update_seq S7 _) (show wpAny _ _ (pure ((#[]:Array Value)++vs.toArray).toList) Q E _ from ?_));rw[e0];exact ah h
theorem IP {a:Addr}{vs:List Value}{ps:List (Int×Int)}{n:Nat}{h₀:Heap}{P:Fin->Shared->Prop}(ho:s.heap.get? a=some (seqObj "list" vs.toArray n))(hp:Prs h₀ vs ps)(og:∀v p,mG h₀ v p->v≠.ref a)(hk:∀b o,s.heap.get? b=some o->h₀.get? b=some o\/b=a\/True)
  (ks:∀v p,mG h₀ v p->mG s.heap v p) (JX:vs.length<64)
  (h:∀t:SortSt,(arrOf t).Perm (pairsOf vs)->SortedToK (prKd h₀) (arrOf t) (pairsOf vs).size->P (.done (.ret .none)) { s with heap:=sortedHeap s.heap a vs ((arrOf t).map (·.2)) }) :
  wpAny (model prog w) A (Builtin.«list.sort» ⟨[.ref a],[]⟩) P E s:=by
 have alt:a<s.heap.objs.size:=aD ho;have hz:vs.toArray.size=vs.length:=by simp
 obtain⟨e1,g1⟩:∃e,(s.heap.update a (Obj.mapSeq fun _=>#[])).get? a=some (seqObj "list" #[] e):=⟨_,get?_update_seq ho _⟩;have up:∀b o,b≠a->s.heap.get? b=some o->(((s.heap.update a (Obj.mapSeq fun _=>#[])).push (seqObj "tuple" vs.toArray 0)).push (seqObj "list" #[] 0)).get? b=some o:=fun b o ne e =>
  af _ (af _ ((Heap.get?_update_ne _ _ _ _ ne).trans e))
 have g2:(((s.heap.update a (Obj.mapSeq fun _=>#[])).push (seqObj "tuple" vs.toArray 0)).push (seqObj "list" #[] 0)).get? a=some (seqObj "list" #[] e1):=af _ (af _ g1);have Tv:∀v p,mG h₀ v p->mG (((s.heap.update a (Obj.mapSeq fun _=>#[])).push (seqObj "tuple" vs.toArray 0)).push (seqObj "list" #[] 0)) v p:=fun v p x=>by
  obtain⟨c,t,u,e,o,q1,q2⟩:=ks v p x;have ne:c≠a:=fun z=>og v p x (by rw[e,z]);exact⟨c,t,u,e,o,up c o ne q1,q2⟩
 rw[list_sort_plain];refine aa (listItems_at ho rfl (aa (listUpdate_at ho rfl (aa (seqEpoch_at g1 rfl (aa (wpAny_newTuple (aa (wpAny_newList (bx ?_))))))))));show wpAny (model prog w) A _ P E { s with heap:=((s.heap.update a (Obj.mapSeq fun _=>#[])).push (seqObj "tuple" vs.toArray 0)).push (seqObj "list" #[] 0) };have small:∀{xs:Array Keyed},xs.Perm (pairsOf vs)->(xs.map (·.2)).size<=sizeLine+1:=fun {xs} p=>by rw[Array.size_map,p.size_eq,pairsOf_size,sizeLine_eq];omega
 dsimp only;by_cases two:vs.toArray.size<2
 ·rw[if_pos two,if_pos two];refine aa (ah ?_);rw[StateT.run_pure];refine aa (ah (aa (seqEpoch_at g2 rfl (aa (listUpdate_at g2 rfl ?_ (hsz2:=small (Array.Perm.refl _)))))));simp only[bne_self_eq_false,Bool.false_eq_true,if_false];refine ah (h (SortSt.mk' general' (vs.toArray.zip vs.toArray) #[] 7 none) (Array.Perm.refl _) fun i j ij jn=>?_);rw[pairsOf_size] at jn;cases (show i=j by omega);exact KeyOrd.kle_refl _
 ·rw[if_neg two,if_neg two];have all:∀{us:List Value}{qs:List (Int×Int)},Prs h₀ us qs->Prs (((s.heap.update a (Obj.mapSeq fun _=>#[])).push (seqObj "tuple" vs.toArray 0)).push (seqObj "list" #[] 0)) us qs:=fun {us qs} x=>by
   induction x with
   |nil=>exact .nil
   |cons y _ ih=>exact .cons (Tv _ _ y) ih
  have keys:KeysOf (prKd h₀) (pairsOf vs):=fun p hm=>by
   have:∀{us:List Value}{qs:List (Int×Int)},Prs h₀ us qs->∀v∈us,∃q,mG h₀ v q:=fun {us qs} x=>by
    induction x with
    |nil=>exact fun v z=>nomatch z
    |cons y _ ih=>exact fun v z=>(List.mem_cons.mp z).elim (fun e=>⟨_,e▸y⟩) (ih v)
   have Vu:p.1∈vs:=by
    have z:p∈(vs.toArray.zip vs.toArray).toList:=hm;rw[Array.toList_zip] at z;exact (Xm z).1
   obtain⟨q,x⟩:=this hp _ Vu;exact⟨q,key_of x⟩
  have nn:ps≠[]:=fun z=>by subst z;cases hp;simp at two
  refine aa (JE (all hp) nn ?_);refine aa (wpAny_mono (Q9 (a₀:=pairsOf vs) (kd:=tuples' true) (κ:=prKd h₀) (st:=SortSt.mk' (tuples' true) (vs.toArray.zip vs.toArray) #[] 7 none) (Q:=fun _ t=>(arrOf t).Perm (pairsOf vs)/\failedOf t=none/\SortedToK (prKd h₀) (arrOf t) (pairsOf vs).size)
   (Gg Tv) keys ⟨⟨Array.Perm.refl _,rfl,rfl,rfl⟩,rfl⟩ (by rw[pairsOf_size];omega) (by rw[pairsOf_size];exact JX) fun t p1 p2 p3=>⟨p1,p2,p3⟩) ?_ fun _ _ z=>z)
  intro r s' hr;obtain⟨es,p1,p2,p3⟩:=hr;subst es;obtain⟨⟨⟩,t⟩:=r;dsimp only at p1 p2 p3 ⊢;refine aa (seqEpoch_at g2 rfl (aa (listUpdate_at g2 rfl ?_ (hsz2:=small p1))));rw[p2];simp only[bne_self_eq_false,Bool.false_eq_true,if_false];exact ah (h t p1 p3)
theorem sorted_pr {kd:Bool}{l:Addr}{vs:List Value}{ps:List (Int×Int)}{Q:Value->Shared->Prop}(hl:lJ kd s.heap l vs.toArray)(hp:Prs s.heap vs ps)(JX:vs.length<64)
  (h:∀t:SortSt,(arrOf t).Perm (pairsOf vs)->SortedToK (prKd s.heap) (arrOf t) (pairsOf vs).size->Q (.ref (s.heap.objs.size+1)) { s with heap:=sortedAll s.heap vs ((arrOf t).map (·.2)) }) :
  wpAny (model prog w) A (call (.builtin "sorted") [.ref l]) Q E s:=by
 have hz:vs.length<=sizeLine:=by rw[sizeLine_eq];omega
 have sz:((s.heap.push (seqObj "list" #[] 0)).update s.heap.objs.size (Obj.mapSeq (·++vs.toArray))).objs.size=s.heap.objs.size+1:=by rw[Heap.size_update,size_push']
 have old:∀b o,s.heap.get? b=some o->(((s.heap.push (seqObj "list" #[] 0)).update s.heap.objs.size (Obj.mapSeq (·++vs.toArray))).push (seqObj "list" vs.toArray 0)).get? b=some o:=fun b o e =>
  af _ ((Heap.get?_update_ne _ _ _ _ (aN (aD e))).trans (af _ e))
 have P5:(((s.heap.push (seqObj "list" #[] 0)).update s.heap.objs.size (Obj.mapSeq (·++vs.toArray))).push (seqObj "list" vs.toArray 0)).get? (s.heap.objs.size+1)=some (seqObj "list" vs.toArray 0):=by
  have q:=az ((s.heap.push (seqObj "list" #[] 0)).update s.heap.objs.size (Obj.mapSeq (·++vs.toArray))) (o:=seqObj "list" vs.toArray 0) rfl;rw[sz] at q;exact q
 have go:∀{A:Around}{R:List Value->Shared->Prop},R vs { s with heap:=(s.heap.push (seqObj "list" #[] 0)).update s.heap.objs.size (Obj.mapSeq (·++vs.toArray)) }->wpAny (model prog w) A (collect (.ref l)) R E s:=fun {A R} r=>by
  cases kd
  ·exact Bm (show s.heap.IsTuple l vs.toArray from hl) hz r
  ·exact collect_list (show s.heap.IsList l vs.toArray from hl) r hz
 refine Calls.call_function_entry kind_sorted plain_sorted entry_sorted (args_sorted1 _) ?_;unfold Builtin.«sorted»;refine aa (m:=checkCount "sorted" 1 1 _) (ah ?_);refine aa (go ?_);refine aa (wpAny_newList ?_ (by rw[sizeLine_eq];omega));show wpAny _ _ _ _ _ { s with heap:=((s.heap.push (seqObj "list" #[] 0)).update s.heap.objs.size (Obj.mapSeq (·++vs.toArray))).push (seqObj "list" vs.toArray 0) };rw[sz];refine aa (bx (wpAny_call_entry slot_list_sort ⟨_,P5,rfl⟩ entry_list_sort (IP (h₀:=s.heap) P5 hp (fun v p x e=>?_) (fun _ _ _=>.inr (.inr trivial)) (fun v p ⟨c,t,u,e,o,q1,q2⟩=>⟨c,t,u,e,o,old c o q1,q2⟩) JX fun t p1 p2=>⟨_,rfl,ah ⟨_,rfl,h t p1 p2⟩⟩) (args_list_sort _)));obtain⟨c,t,u,e',o,q1,_⟩:=x;rw[e] at e';cases e';exact absurd (aD q1) (Nat.not_lt.mpr (bR _))
end
end L2.Srt
namespace L2
open PySem PySem.Spec PyProof.Rows
inductive PrV (K:PySem.W.Frag)(H:Hp):List Addr->List (Int×Int)->Prop where
 |nil:PrV K H [] []
 |cons {b:Addr}{p:Int×Int}{bs:List Addr}{ps:List (Int×Int)}:jN K H b [.int p.1,.int p.2]->PrV K H bs ps->PrV K H (b::bs) (p::ps)
theorem PrV.len {K:PySem.W.Frag}{H:Hp}{bs:List Addr}{ps:List (Int×Int)}(h:PrV K H bs ps):bs.length=ps.length:=by
 induction h with
 |nil=>rfl
 |cons _ _ ih=>rw[aJ,aJ,ih]
theorem CB:∀{bs:List Addr}{us:List Value},cV (bs.map V.ref) us->us=bs.map Value.ref
 |[],us,h=>by cases h;rfl
 | b::bs,us,h=>by
  cases h with
  |cons r rs=>rw[aC,CB rs,show _=Value.ref b from r]
theorem vI:∀bs:List Addr,cV (bs.map V.ref) (bs.map Value.ref)
 |[]=>.nil
 |b::bs=>.cons rfl (vI bs)
section
variable {X:Cx}
theorem LL {pins:List (Addr×Obj)}{σ:St}{H:Hp}{s:Shared}(I:Inv X pins σ H s){bs:List Addr}{ps:List (Int×Int)}(h:PrV X.K H bs ps):Srt.Prs s.heap (bs.map Value.ref) ps:=by
 induction h with
 |nil=>exact .nil
 |@cons b p bs ps q _ ih =>
  obtain⟨its,r,⟨o,e,c,n,d⟩,_⟩:=I.tuple q;obtain⟨u,v,rfl,r1,r2⟩:=cV.two r;obtain⟨t1,rfl⟩:=(show ∃t,u=Value.int p.1 t from r1);obtain⟨t2,rfl⟩:=(show ∃t,v=Value.int p.2 t from r2);exact .cons ⟨b,t1,t2,rfl,o,e,c,n,d⟩ ih
noncomputable def B4:Value->Addr
 |.ref a=>a
 |_=>0
theorem CT {h:Heap}:∀{bs:List Addr}{ps:List (Int×Int)},Srt.Prs h (bs.map Value.ref) ps->((bs.map Value.ref).zip (bs.map Value.ref)).map (fun x=>(B4 x.2,((Srt.prKd h).keyOf x.1).getD (0,0)))=bs.zip ps
 |[],_,x=>by cases x;rfl
 | b::bs,_,x=>by
  cases x with
  |cons y ys =>
   rw[aC,Xa,aC,Xa,CT ys,Srt.key_of y];rfl
theorem call_sortedP:CallR X (.builtin "sorted") (fun xs H Q=>∃(kd:Bool) (a:Addr) (bs:List Addr) (ps:List (Int×Int)),xs=[.ref a]/\kf kd X.K H a (bs.map V.ref)/\bs.length<64/\PrV X.K H bs ps ∧
  ∀(l:Addr) (cs:List Addr) (qs:List (Int×Int)),H l=none->(cs.zip qs).Perm (bs.zip ps)->cs.length=qs.length->qs.Pairwise (fun p q=>Srt.pLt q p=false)->Q (.ref l) (eF H l (.lst (cs.map V.ref)))):=by
 intro pins s σ H xs us Q I rx h;obtain⟨kd,a,bs,ps,rfl,hq,JX,pv,q⟩:=h;obtain⟨u,rfl,ru⟩:=cV.one rx;cases ru;obtain⟨its,rv,ob,hz⟩:=I.mM hq;have ei:=CB rv;subst ei;have pr:=LL I pv;refine Srt.sorted_pr ob pr (by rw[ai];exact JX) fun t p1 p2=>?_;have pl:(arrOf t).toList.Perm ((bs.map Value.ref).zip (bs.map Value.ref)):=by
  have:=Array.perm_iff_toList_perm.mp p1;rwa[show (pairsOf (bs.map Value.ref)).toList=(bs.map Value.ref).zip (bs.map Value.ref) by unfold pairsOf;rw[Array.toList_zip]] at this
 have OQ:∀x∈(arrOf t).toList,x.2=Value.ref (B4 x.2):=fun x hx=>by
  have hm:=(Xm (pl.mem_iff.mp hx)).2;obtain⟨b,_,e⟩:=List.mem_map.mp hm;rw[<-e];rfl
 let g:Keyed->Addr×(Int×Int):=fun x=>(B4 x.2,((Srt.prKd s.heap).keyOf x.1).getD (0,0))
 have pz:=pl.map g;rw[show ((bs.map Value.ref).zip (bs.map Value.ref)).map g=bs.zip ps from CT pr] at pz;have zz:((arrOf t).toList.map fun x=>(g x).1).zip ((arrOf t).toList.map fun x=>(g x).2)=(arrOf t).toList.map g:=by
  generalize (arrOf t).toList=L;induction L with
  |nil=>rfl
  |cons x L ih=>rw[aC,aC,Xa,ih];rfl
 have outs:((arrOf t).map (·.2)).toList=((arrOf t).toList.map fun x=>(g x).1).map Value.ref:=by
  rw[Array.toList_map,bt];exact W5 fun x hx=>OQ x hx
 obtain⟨e,he⟩:=sortedAll_at s.heap (bs.map Value.ref) ((arrOf t).map (·.2));have len:(arrOf t).toList.length=bs.length:=by rw[pl.length_eq,Xn,ai,Nat.min_self]
 have I':=I.laid (h':=sortedAll s.heap (bs.map Value.ref) ((arrOf t).map (·.2))) (t':=s.toks) (a:=s.heap.objs.size+1) (o:=.lst (((arrOf t).toList.map fun x=>(g x).1).map V.ref)) (fun b o z=>sortedAll_old z) (bR _)
  ⟨by rw[ai,ai,len];have:=hz;rw[ai] at this;exact this,_,e,vI _,by rw[<-outs];exact he⟩
 refine⟨.ref (s.heap.objs.size+1),_,I',rfl,q _ _ ((arrOf t).toList.map fun x=>(g x).2) (I.fT.fresh (bR _)) (by rw[zz];exact pz) (by rw[ai,ai]) ?_⟩;rw[List.pairwise_iff_getElem];intro i j hi hj ij;rw[ai] at hi hj;have kk:∀i (h:i<(arrOf t).toList.length),KK (Srt.prKd s.heap) (arrOf t) i=(g (arrOf t).toList[i]).2:=fun i h=>by
  unfold KK;rw[show (arrOf t)[i]?=some (arrOf t).toList[i] by rw[aS (by simpa using h)];simp]
 have:=p2 i j (Xd ij) (by rw[pairsOf_size,ai,<-len];exact hj);rw[kk i hi,kk j hj] at this;rw[List.getElem_map,List.getElem_map];exact this
end
end L2
namespace DL
open PySem PySem.Spec PySem.SeqAt
open L2 (V Hp St HO VK TE TT TA TS TI TG Cx Inv PE PT PA PS PSs PI PG jN jT cY eF cN cC cE cV dQ EP TP AP SP kJ It kf)
section
variable {X:Cx}{e a b c:Expr}{es:List Expr}{f g:ED}{fb gb:BD}{t u:TD}{pos p:Pos}
theorem D5 {d:D}{q:Int×Int}(h:LO d=some q):d=Ol q:=by
 unfold LO at h;split at h
 ·cases h;rfl
 ·cases h
theorem D9 {K:Fg}{H:Hp}{O:List Addr}:∀{ds:List D}{vs:List V}{ps:List (Int×Int)},Rs K H O ds vs->oF ds=some ps->∃bs,vs=bs.map V.ref/\L2.PrV K H bs ps:=by
 intro ds;induction ds with
 |nil=>intro vs ps q h;cases q;cases h;exact⟨[],rfl,.nil⟩
 |cons d ds ih =>
  intro vs ps q h;cases q with
  |cons q qs =>
    unfold oF at h;obtain⟨pr,hp,h⟩:=Option.bind_eq_some_iff.mp h;cases hr:oF ds with
    |none=>rw[hr] at h;cases h
    |some ps' =>
     rw[hr,au] at h;cases h;obtain⟨bs,rfl,hv⟩:=ih qs hr;rw[D5 hp] at q;unfold Ol at q;cases q with
     |tuple ha hs =>
      cases hs with
      |cons h1 h2 =>
       cases h1;cases h2 with
       |cons h3 h4 =>
        cases h3;cases h4;exact⟨_::bs,rfl,.cons ha hv⟩
theorem Jh (p q:Int×Int):Fd p q=true<->L2.Srt.pLt q p=false:=by
 simp only[Fd,L2.Srt.pLt,decide_eq_true_eq,decide_eq_false_iff_not];omega
theorem FQ {ps qs:List (Int×Int)}(h:qs.Perm ps)(s:qs.Pairwise (fun p q=>L2.Srt.pLt q p=false)):qs=lM ps:=by
 refine List.Perm.eq_of_pairwise (le:=fun p q=>L2.Srt.pLt q p=false) (fun a b _ _ h1 h2=>?_) s ?_ (h.trans (Xo ps Fd).symm)
 ·simp only[L2.Srt.pLt,decide_eq_false_iff_not] at h1 h2;cases a;cases b;simp only[Prod.mk.injEq] at *;omega
 ·refine (Xc (le:=Fd) (fun a b c h1 h2=>?_) (fun a b=>?_) ps).imp fun h=>(Jh _ _).mp h
  ·simp only[Fd,decide_eq_true_eq] at *;omega
  ·simp only[Fd,Bool.or_eq_true,decide_eq_true_eq];omega
theorem F2 {K:Fg}{H:Hp}{O:List Addr}:∀(cs:List Addr) (qs:List (Int×Int)),cs.length=qs.length->(∀x∈cs.zip qs,jN K H x.1 [.int x.2.1,.int x.2.2])->Rs K H O (qs.map Ol) (cs.map V.ref)
 |[],[],_,_=>.nil
 |[],_::_,h,_=>by cases h
 |_::_,[],h,_=>by cases h
 |c::cs,q::qs,h,k=>.cons (.tuple (k (c,q) (by simp)) (.cons (.int _) (.cons (.int _) .nil))) (F2 cs qs (by simpa using h) fun x hx=>k x (by simp[hx]))
theorem Je {K:Fg}{H:Hp}{bs:List Addr}{ps:List (Int×Int)}(h:L2.PrV K H bs ps):∀x∈bs.zip ps,jN K H x.1 [.int x.2.1,.int x.2.2]:=by
 induction h with
 |nil=>exact fun x hx=>by cases hx
 |cons q _ ih =>
  intro x hx;rw[Xa] at hx;rcases List.mem_cons.mp hx with z|z
  ·subst z;exact q
  ·exact ih x z
theorem DC:UD X (fun x H Q=>(fun xs H Q=>∃(kd:Bool) (a:Addr) (bs:List Addr) (ps:List (Int×Int)),xs=[.ref a]/\kf kd X.K H a (bs.map V.ref)/\bs.length<64/\L2.PrV X.K H bs ps ∧
  ∀(l:Addr) (cs:List Addr) (qs:List (Int×Int)),H l=none->(cs.zip qs).Perm (bs.zip ps)->cs.length=qs.length->qs.Pairwise (fun p q=>L2.Srt.pLt q p=false)->Q (.ref l) (eF H l (.lst (cs.map V.ref))):List V->Hp->VK->Prop) [x] H Q) ma:=by
 intro x vx H O r Q ne hx hf k;have go:∀{ds:List D}{vs:List V}{kd:Bool}{a:Addr},yL ds=some r->kf kd X.K H a vs->Rs X.K H O ds vs->∃(kd:Bool) (a':Addr) (bs:List Addr) (ps:List (Int×Int)),[V.ref a]=[.ref a']/\kf kd X.K H a' (bs.map V.ref)/\bs.length<64/\L2.PrV X.K H bs ps ∧
   ∀(l:Addr) (cs:List Addr) (qs:List (Int×Int)),H l=none->(cs.zip qs).Perm (bs.zip ps)->cs.length=qs.length->qs.Pairwise (fun p q=>L2.Srt.pLt q p=false)->Q (.ref l) (eF H l (.lst (cs.map V.ref))):=fun {ds vs kd a} hs ha qa=>by
  unfold yL at hs;obtain⟨ps,hp,hs⟩:=Option.bind_eq_some_iff.mp hs;split at hs
  ·rename_i JX;cases hs;obtain⟨bs,rfl,hv⟩:=D9 qa hp;refine⟨kd,a,bs,ps,rfl,ha,by rw[hv.len];exact JX,hv,fun l cs qs hl pm len st=>?_⟩;have pq:qs.Perm ps:=by
    have:=pm.map Prod.snd;rwa[List.map_snd_zip ⋯,List.map_snd_zip (by have:=hv.len;omega)] at this
   have eq:=FQ pq st;have s2:cY H (eF H l (.lst (cs.map V.ref))):=fun b o e=>by rw[cC (cE e hl)];exact e
   have rs:Rs X.K H O (qs.map Ol) (cs.map V.ref):=F2 cs qs len fun x hx=>Je hv x (pm.mem_iff.mp hx);rw[<-eq] at k;exact k _ _ s2 (.inr ⟨rfl,l,_,_,rfl,rfl,hl,cN,rs.ext (jO.fresh s2 hl)⟩)
  ·cases hs
 cases x <;> first|cases hf|skip
 ·obtain⟨a,vs,rfl,ha,qa⟩:=hx.list;exact go (kd:=true) hf ha qa
 ·obtain⟨a,vs,rfl,ha,qa⟩:=hx.tuple;exact go (kd:=false) hf ha qa
theorem EO (hm:X.mg "sorted" = none)(ha:DB X a fb)(hg:L2.Gl X "sorted" := by rfl)(he:starEach [a] X.env=(false,eval a X.env)::starEach [] X.env:=by rfl):DE X (.Call (.Name "sorted" p) [a] [] pos) (d1 ma fb):=qk L2.call_sortedP DC hm PyProof.Rows.boot_sorted ha hg (by decide) (by decide) he
end
end DL
namespace HT
open PySem PyProof.Rows
section
variable {prog:Program}{w:World}{A:Around}{E:Value->Shared->Prop}{s:Shared}
end
end HT
namespace L2
open PySem PySem.Spec PyProof.Rows
section
variable {X:Cx}
end
end L2
namespace DL
open PySem PySem.Spec PySem.SeqAt
open L2 (V Hp St HO VK TE TT TA TS TI TG Cx Inv PE PT PA PS PSs PI PG jN jT cY eF cN cC cE cV dQ EP TP AP SP kJ It kf)
section
variable {X:Cx}{e a b c:Expr}{es:List Expr}{f g:ED}{fb gb:BD}{t u:TD}{pos p p2:Pos}{lo hi:Option Expr}{pl ph:PD}
mutual
theorem R.lf {K:Fg}{H:Hp}{O O':List Addr}{d:D}{v:V}:R K H O d v->pR d=true->R K H O' d v
 |.none,_=>.none
 |.bool b,_=>.bool b
 |.int i,_=>.int i
 |.str x,_=>.str x
 |.tuple h r,l=>.tuple h (Rs.lf r (by simpa [pR] using l))
 |.list _ _,l=>by simp[pR] at l
 |.dict _ _ _,l=>by simp[pR] at l
theorem Rs.lf {K:Fg}{H:Hp}{O O':List Addr}{ds:List D}{vs:List V}:Rs K H O ds vs->kA ds=true->Rs K H O' ds vs
 |.nil,_=>.nil
 | .cons h r,l=>by
  simp only[kA,Bool.and_eq_true] at l;exact .cons (R.lf h l.1) (Rs.lf r l.2)
end
theorem Fz {s:Option Vl}{x:Vl}(h:IB s=some x):x.2=false/\(s=some x\/(∃xs,x.1=.list xs/\(s=some (.list xs,true)\/s=some (iP xs,true)\/s=some (Hr xs,true)))\/∃kvs,x.1=.dict kvs/\s=some (nY (.dict kvs),true)):=by
 unfold IB at h;split at h
 ·cases h;exact⟨rfl,.inl rfl⟩
 ·cases h;exact⟨rfl,.inr (.inl ⟨_,rfl,.inl rfl⟩)⟩
 ·cases h;exact⟨rfl,.inr (.inl ⟨_,rfl,.inr (.inl rfl)⟩)⟩
 ·cases h;exact⟨rfl,.inr (.inl ⟨_,rfl,.inr (.inr rfl)⟩)⟩
 ·cases h;exact⟨rfl,.inr (.inr ⟨_,rfl,rfl⟩)⟩
 ·cases h
theorem kh {ρ:Sl}{i:Nat}{x:Vl}(h:(unown ρ)[i]?=some (some x)):x.2=false/\(ρ[i]?=some (some x)\/(∃xs,x.1=.list xs/\(ρ[i]?=some (some (.list xs,true))\/ρ[i]?=some (some (iP xs,true))\/ρ[i]?=some (some (Hr xs,true))))\/∃kvs,x.1=.dict kvs/\ρ[i]?=some (some (nY (.dict kvs),true))):=by
 unfold unown at h;rw[ay] at h;cases hs:ρ[i]? with
 |none=>rw[hs] at h;cases h
 |some s =>
  rw[hs,au] at h;obtain⟨h1,h2⟩:=Fz (Option.some.inj h);refine⟨h1,?_⟩;rcases h2 with z|⟨xs,z1,z2|z2|z2⟩|⟨kvs,z1,z2⟩
  ·exact .inl (by rw[z])
  ·exact .inr (.inl ⟨xs,z1,.inl (by rw[z2])⟩)
  ·exact .inr (.inl ⟨xs,z1,.inr (.inl (by rw[z2]))⟩)
  ·exact .inr (.inl ⟨xs,z1,.inr (.inr (by rw[z2]))⟩)
  ·exact .inr (.inr ⟨kvs,z1,by rw[z2]⟩)
theorem Dp.UR {K:Fg}{H:Hp}{O M:List Addr}{ds:List D}{bs:List Addr}(h:Dp K H O M ds bs):Rs K H [] ds (bs.map V.ref):=by
 induction h with
 |nil=>exact .nil
 |cons h1 _ h3 _ ih=>exact .cons (.list (.inl ⟨h1,fun z=>nomatch z⟩) (h3.ext (.less fun b hb=>nomatch hb))) ih
theorem ER.unown {K:Fg}{H:Hp}{O M:List Addr}{cK:Nat->Addr}{ρ:Sl}{σ:St}(h:ER K H O M cK ρ σ):ER K H [] [] cK (unown ρ) σ where
 sh:=fun i d e=>by
  have less:jO [] O H [] H:=.less fun b hb=>nomatch hb;obtain⟨_,z|⟨xs,z1,z2|z2|z2⟩|⟨kvs,z1,z2⟩⟩:=kh e
  ·obtain⟨v,e1,q⟩:=h.sh i d z;exact⟨v,e1,q.ext less⟩
  ·obtain⟨a,vs,e1,e2,_,q⟩:=h.ow i xs z2;rw[show d=.list xs from z1];exact⟨_,e1,.list (.inl ⟨e2,fun z=>nomatch z⟩) (q.ext less)⟩
  ·obtain⟨e1,vs,e2,_,_,q⟩:=h.le i xs z2;rw[show d=.list xs from z1];exact⟨_,e1,.list (.inl ⟨e2,fun z=>nomatch z⟩) (q.ext less)⟩
  ·obtain⟨a,bs,e1,e2,_,_,q,_⟩:=h.dp.at_ i xs z2;rw[show d=.list xs from z1];exact⟨_,e1,.list (.inl ⟨e2,fun z=>nomatch z⟩) q.UR⟩
  ·obtain⟨a,es,e1,e2,_,q,_⟩:=h.dp.dc i kvs z2;rw[show d=.dict kvs from z1];exact⟨_,e1,.dict e2 (fun z=>nomatch z) (q.ext less)⟩
 ow:=fun i d e=>by cases (kh e).1
 le:=fun i d e=>by cases (kh e).1
 ap:=fun i j d e a e1=>by cases (kh e1).1
 tr:=fun a ha=>nomatch ha
 sub:=fun a ha=>nomatch ha
 len:=by unfold DL.unown;rw[ai];exact h.len
 dp:=.none_ fun i x e=>(kh e).1
theorem Hk (h:DT X e t):DT X e (Ax t):=h.imp fun σ H Q ⟨ρ,O,M,cK,c,hE,hf,k⟩=>⟨unown ρ,[],[],cK,c,hE.unown,hf,k⟩
end
end DL
namespace L2
open PySem PySem.Spec PyProof.Rows
section
variable {X:Cx}
end
end L2
namespace DL
open PySem PySem.Spec PySem.SeqAt
open L2 (V Hp St HO VK TE TT TA TS TI TG Cx Inv PE PT PA PS PSs PI PG jN jT cY eF cN cC cE cV dQ EP TP AP SP kJ It kf)
section
variable {X:Cx}{e a b c:Expr}{es:List Expr}{f g:ED}{fb gb:BD}{t u:TD}{pos p p2:Pos}
end
section
variable {X:Cx}{e a b c elt tg iter:Expr}{es ifs:List Expr}{f g:ED}{t u:TD}{pos:Pos}{it:AD}{gd:GD}{scope:Scope}{own caps:List Str}{ix:List Nat}{st:Stmt}{F:SD}
end
section
variable {X:Cx}{ek ex ev:Expr}{ke kx vx:ED}{pos p1 p2 p3 p4 p5 p6 p7 p8 p9:Pos}{i s:Nat}{x y:Str}
end
open PySem
end DL
namespace L2
open PySem PySem.Spec PyProof.Rows
section
variable {X:Cx}
end
end L2
namespace DL
open PySem PySem.Spec PySem.SeqAt
open L2 (V Hp St HO VK TE TT TA TS TI TG Cx Inv PE PT PA PS PSs PI PG jN jT cY eF cN cC cE cV dQ EP TP AP SP kJ It kf)
section
variable {X:Cx}
open Classical in
end
end DL
namespace L2
open PySem PySem.Spec PyProof.Rows
section
variable {prog:Program}{w:World}{A:Around}{E:Value->Shared->Prop}{s:Shared}
open AutoSeq1 (wpAny_loadPart')
set_option maxRecDepth 100000 in
end
section
variable {X:Cx}{a b:Expr}{ta:TA}{p p1 p2 pos:Pos}
theorem As {lo:Int}{n:Nat}{acc:Array Value}(h:ItemsOf (fun i v=>∃t,v=Value.int (lo+i*1) t) acc n):cV ((ao n).map fun (i:Nat)=>V.int (lo+i)) acc.toList:=by
 obtain⟨hz,hi⟩:=h;have key:∀(l:List Value) (k:Nat),(∀j v,l[j]?=some v->∃t,v=Value.int (lo+((k+j:Nat):Int)) t)->cV ((WT k l.length).map fun (i:Nat)=>V.int (lo+i)) l:=by
  intro l;induction l with
  |nil=>exact fun _ _=>.nil
  |cons x l ih =>
   intro k h;rw[aJ,Xg,aC];refine .cons (by obtain⟨t,e⟩:=h 0 x rfl;exact⟨t,by rw[e];rfl⟩) (ih (k+1) fun j v e=>?_);obtain⟨t,e'⟩:=h (j+1) v (by simpa using e);exact⟨t,by rw[e',show k+(j+1)=k+1+j by omega]⟩
 have:=key acc.toList 0 fun j v e=>by
  obtain⟨t,e'⟩:=hi j v (by simpa using e);exact⟨t,by rw[e',Int.mul_one,bJ]⟩
 rw[<-WR,aT,hz] at this;exact this
end
end L2
namespace DL
open PySem PySem.Spec PySem.SeqAt
open L2 (V Hp St HO VK TE TT TA TS TI TG Cx Inv PE PT PA PS PSs PI PG jN jT cY eF cN cC cE cV dQ EP TP AP SP kJ It kf)
section
variable {X:Cx}{a b:Expr}{f g:ED}{p p1 p2 pos:Pos}
theorem N9 {K:Fg}{H:Hp}{O:List Addr}(lo:Int)(n:Nat):Rs K H O (fK lo n) ((ao n).map fun (i:Nat)=>V.int (lo+i)):=by
 unfold fK;generalize ao n=l;induction l with
 |nil=>exact .nil
 |cons x l ih=>exact .cons (.int _) ih
end
end DL
theorem L2.Room.l4 {k}{A:PySem.Around}(r:L2.Room k A):A.units+200<PySem.cLine:=by have:=r.un;omega
namespace DL
open PySem PySem.Spec PySem.SeqAt
open L2 (V Hp St HO VK TE TT TA TS TI TG Cx Inv PE PT PA PS PSs PI PG jN jT cY eF cN cC cE cV dQ EP TP AP SP kJ It kf)
section
variable {X:Cx}
end
theorem v9 {r:Vl}{d:D}(h:qQ r=some d):r=(d,false)/\pR d=true:=by
 unfold qQ at h;split at h
 ·split at h
  ·rename_i l;cases h;exact⟨rfl,l⟩
  ·cases h
 ·cases h
section
variable {X:Cx}{e ek ex ev:Expr}{f ke kx vx:ED}{pos p1 p2 p3 p4:Pos}{i:Nat}{x:Str}
end
end DL
namespace L2
open PySem PySem.Spec PyProof.Rows
section
variable {X:Cx}
end
section
variable {X:Cx}{a b:Expr}{ta:TA}{p p1 p2 pos:Pos}
theorem Ek {pins:List (Addr×Obj)}{σ:St}{H:Hp}{s:Shared}{Q:VK}{lo hi:Int}{t u v:Tok}{tk:Nat}(hc:X.calm=true)(I:Inv X pins σ H s)(h1:-(2 ^ 62)<=lo)(h2:lo<2 ^ 62)(h3:-(2 ^ 62)<=hi)(h4:hi<2 ^ 62)(hn:(hi-lo).toNat<=1000000)
  (q:∀l,H l=none->Q (.ref l) (eF H l (.lst ((ao (hi-lo).toNat).map fun (i:Nat)=>V.int (lo+i))))) :
  wpAny (model X.prog X.w) X.A (call (.type "list") [.ref s.heap.objs.size]) (EP X pins σ Q) X.xe { s with heap:=s.heap.push { cls:=.type "range", data:=.fields #[.int lo t,.int hi u,.int 1 v] },toks:=tk }:=by
 have I1:Inv X pins σ H { s with heap:=s.heap.push { cls:=.type "range", data:=.fields #[.int lo t,.int hi u,.int 1 v] },toks:=tk }:=I.kept fun b o e=>af _ e;refine call_list_range (a:=lo) (b:=hi) (n:=(hi-lo).toNat) (I.ok.hd hc) (IsRange.new ..) (small_one h1 h2 h3 h4) (by rw[rangeSize_one];split <;> omega) ⋯ fun h' lK acc c' hk hS Mu=>?_;generalize hl:(s.heap.push { cls:=.type "range", data:=.fields #[.int lo t,.int hi u,.int 1 v] }).objs.size=l at hS ⊢;have I3:=I1.laid (t':=lK) (h':=h') (a:=l) (o:=.lst ((ao (hi-lo).toNat).map fun (i:Nat)=>V.int (lo+i))) hk (Nat.le_of_eq hl)
  (show ObjOk X.prog X.w _ _ _ (.lst _) from ⟨by rw[ai,aB,sizeLine_eq];omega,acc.toList,c',As Mu,by simpa using hS⟩)
 exact⟨.ref l,_,I3,rfl,q _ (I1.fT.fresh (Nat.le_of_eq hl))⟩
noncomputable def QY (ta:TA):TE:=fun σ H Q=>ta σ H fun vs H1=>∃j:Int,vs=[.int j]/\-(2 ^ 62)<=j/\j<2 ^ 62/\j.toNat<=1000000/\∀l,H1 l=none->Q (.ref l) (eF H1 l (.lst ((ao j.toNat).map fun (i:Nat)=>V.int (0+i))))
theorem pe_lstR1 (hc:X.calm=true)(Pg:Gl X "list")(O7:X.mg "list" = none)(Sk:Gl X "range")(R8:X.mg "range" = none)(ha:PA X [a] ta)(hs:starEach [a] X.env=[(false,eval a X.env)]:=by rfl)
  (oQ:starEach [.Call (.Name "range" p1) [a] [] p2] X.env=[(false,eval (.Call (.Name "range" p1) [a] [] p2) X.env)]:=by rfl):PE X (.Call (.Name "list" p) [.Call (.Name "range" p1) [a] [] p2] [] pos) (QY ta):=by
 intro pins s σ H Q I h;refine wpAny_Call_Name_kw (ld_blt I Pg O7 boot_list (PyProof.Rows.callWith_type1 ?_ oQ rfl));rw[oQ];refine Calls.spliced_cons (wpAny_Call_Name_kw (ld_blt I Sk R8 boot_range (PyProof.Rows.callWith_type1 (thn (ha p2 pins s σ H _ I h) fun us s1 ⟨vs,H1,I1,r1,q1⟩=>?_) hs rfl)));obtain⟨j,e,q1,q2,q3,q⟩:=q1;subst e;obtain⟨u,rfl,ru⟩:=cV.one r1;obtain⟨t,rfl⟩:=(show ∃t,u=Value.int j t from ru);refine call_range_1 (Calls.spliced_nil ?_);exact Ek hc I1 ⋯ ⋯ q1 q2 (by simpa using q3) (by simpa using q)
end
end L2
namespace DL
open PySem PySem.Spec PySem.SeqAt
open L2 (V Hp St HO VK TE TT TA TS TI TG Cx Inv PE PT PA PS PSs PI PG jN jT cY eF cN cC cE cV dQ EP TP AP SP kJ It kf)
section
variable {X:Cx}{a b:Expr}{f g:ED}{fb:BD}{p p1 p2 pos:Pos}
theorem Ht (hc:X.calm=true)(O7:X.mg "list" = none)(R8:X.mg "range" = none)(h:DE X a f)(Pg:L2.Gl X "list" := by rfl)(Sk:L2.Gl X "range" := by rfl)(hs:starEach [a] X.env=[(false,eval a X.env)]:=by rfl)
  (oQ:starEach [.Call (.Name "range" p1) [a] [] p2] X.env=[(false,eval (.Call (.Name "range" p1) [a] [] p2) X.env)]:=by rfl):DE X (.Call (.Name "list" p) [.Call (.Name "range" p1) [a] [] p2] [] pos) (uz (cR f)) :=
 (L2.pe_lstR1 hc Pg O7 Sk R8 (b7 h cz hs) hs oQ).imp fun σ H Q zz=>by
  obtain ⟨ρ,O,M,cK,r0,hE,hf,k⟩:=zz;unfold uz cR at hf;cases hr:f ρ with
  |none=>rw[hr] at hf;cases hf
  |some r =>
   rw[hr,ae] at hf;cases hj:yx r.1 with
   |none=>rw[hj] at hf;cases hf
   |some j =>
    rw[hj,ae] at hf;split at hf
    ·rename_i hb;rw[ae] at hf;split at hf
     ·rename_i hz;cases hf;refine⟨ρ,O,M,cK,[r.1],hE,by unfold b6;rw[hr];rfl,fun vs H1 s1 q1=>?_⟩;rw[z6 hj] at q1;cases q1 with
      |cons q qn =>
       cases q;cases qn;refine⟨j,rfl,hb.1,hb.2,by unfold fK at hz;rw[ai,aB] at hz;exact hz,fun l hl=>?_⟩;have s2:cY H1 (eF H1 l (.lst ((ao j.toNat).map fun (i:Nat)=>V.int (0+i)))):=fun b o e=>by rw[cC (cE e hl)];exact e
       exact k _ _ (s1.trans s2) (.inr ⟨rfl,l,_,_,rfl,rfl,s1.free hl,cN,N9 0 j.toNat⟩)
     ·cases hf
    ·cases hf
end
mutual
noncomputable def HZ:D->Nat->Bool
 |.int _,_=>true
 | .tuple ds,n=>match n with
  |0=>false
  |n+1=>zC ds n
 |_,_=>false
noncomputable def zC:List D->Nat->Bool
 |[],_=>true
 |d::ds,n=>HZ d n&&zC ds n
end
noncomputable def ie:D->Bool
 |.tuple ds=>zC ds 5
 |_=>false
noncomputable def dS (kvs:List (D×D)):Bool:=kvs.all fun p=>ie p.1
noncomputable def rQ (kvs:List (D×D))(k:D):Option D:=(kvs.find? fun p=>same p.1 k).map (·.2)
noncomputable def mB (kvs:List (D×D))(k v:D):List (D×D):=if (rQ kvs k).isSome=true then kvs.map fun p=>if same p.1 k=true then (p.1,v) else p else kvs++[(k,v)]
noncomputable def gJ:O2:=fun x y=>match x with
 |.dict kvs=>if (dS kvs&&ie y)=true then (rQ kvs y).map fun d=>(d,false) else none
 |_=>none
noncomputable def Gp:D->Option Vl
 |.dict kvs=>some (.int kvs.length,false)
 |_=>none
noncomputable def GN:D->Option (List D)
 |.dict kvs=>if dS kvs=true then some (kvs.map (·.1)) else none
 |_=>none
noncomputable def mJ (f:ED):AD:=fun ρ=>(f ρ).bind fun x=>GN x.1
noncomputable def wF (i:Nat)(ρ:Sl):Option (List (D×D)):=match ρ[i]? with
 |some (some (.dict [(.dict kvs,.bool true)],true))=>some kvs
 |_=>none
noncomputable def lC (i:Nat):SD:=fun ρ=>if oM (ρ.set i none)=true/\i<ρ.length then some (.next (ρ.set i (some (nY (.dict []),true)))) else none
noncomputable def kr (i:Nat)(k v:ED):SD:=fun ρ=>(wF i ρ).bind fun kvs=>(v (unown ρ)).bind fun r=>(qQ r).bind fun d=>(k (unown ρ)).bind fun z=>(qQ z).bind fun y =>
 if (dS kvs&&ie y)=true/\kvs.length<sizeLine then some (.next (ρ.set i (some (nY (.dict (mB kvs y d)),true)))) else none
noncomputable def qF (i:Nat)(ρ:Sl):Sl:=match ρ[i]? with
 |some (some (.dict [(.dict kvs,.bool true)],true))=>ρ.set i (some (.dict kvs,false))
 |_=>ρ
noncomputable def kU (i:Nat)(a:SD):SD:=fun ρ=>a (qF i ρ)
noncomputable def gA:List D->Option (List Int)
 |[]=>some []
 |d::ds=>(yx d).bind fun i=>(gA ds).map fun is=>i::is
noncomputable def ja:List Int->List Int
 |[]=>[]
 |i::is=>if i∈is then ja is else i::ja is
noncomputable def vP (is:List Int):List Int:=is.mergeSort fun a b=>decide (a<=b)
noncomputable def we:D->Option (List D)
 |.list ds=>some ds
 |_=>none
noncomputable def kz:D->Option Vl:=fun x=>(we x).bind fun ds=>(gA ds).bind fun is=>if is.length<1000/\(ja is).length<64 then some (.list ((vP (ja is)).map .int),true) else none
noncomputable def vt (k:Int):List Int->Option Nat
 |[]=>none
 |i::is=>if i=k then some 0 else (vt k is).map (·+1)
noncomputable def qO:O2:=fun x y=>(we x).bind fun ds=>(gA ds).bind fun is=>(yx y).bind fun k=>(vt k is).map fun (n:Nat)=>(.int (n:Int),false)
mutual
noncomputable def wD:D->Nat
 |.int _=>1
 |.tuple ds=>kE ds+1
 |_=>0
noncomputable def kE:List D->Nat
 |[]=>0
 |d::ds=>wD d+kE ds
end
theorem oS:∀xs ys:List D,iQ (xs++ys)=iQ xs++iQ ys
 |[],_=>rfl
 |x::xs,ys=>by rw[W4,iQ,iQ,oS xs ys];rfl
theorem o5:∀xs ys:List D,kE (xs++ys)=kE xs+kE ys
 |[],_=>by simp[kE]
 |x::xs,ys=>by rw[W4,kE,kE,o5 xs ys];omega
theorem Bj {prog:Program}{w:World}:∀(n:Nat) (d:D) (A:Around) (E:Value->Shared->Prop) (s:Shared) (v:Value) (as:List Addr) (Q:Int->Shared->Prop),Kb n d->Reads s.heap v d as->A.units+n<cLine->Q (tY d) { s with toks:=s.toks+wD d }->wpAny (model prog w) A (pyHash v) Q E s:=by
 intro n;induction n with
 |zero =>
  intro d A E s v as Q kb rd hu q;cases kb;cases rd;rw[tY,wD] at q;exact wpAny_pyHash_int q
 |succ n ih =>
  intro d A E s v as Q kb rd hu q;cases kb with
  |int _ i =>
   cases rd;rw[tY,wD] at q;exact wpAny_pyHash_int q
  |@tuple _ ds Vc =>
   cases rd with
   |@tuple a o items k _ _ g1 g2 g3 g4 =>
    have tt:s.TypeIs (.ref a) "tuple" := ⟨o,g1,g2⟩;unfold pyHash pyHashByItsType;refine aa (wpAny_cRoomFor_or (.inr ⋯) (aa (wpAny_specialOf tt F.slot_tuple_hash.lookup ?_)));show wpAny _ _ (if (some (Value.builtin "tuple.__hash__")==some Value.none)=true then _ else _) _ _ s;rw[if_neg (by rw[beq_builtin_none];exact Bool.false_ne_true)];refine aa (wpAny_specialOf tt F.slot_tuple_hash.lookup ?_);show wpAny _ _ (callSpecialIfBoundUnlessNone? (.ref a) "__hash__" _>>=_) _ _ s;refine aa (wpAny_callSpecialIfBoundUnlessNone?_slot tt F.slot_tuple_hash (wpAny_call_entry F.slot_tuple_hash tt F.entry_tuple_hash ?_ (F.args_tuple_hash_1 _)));show wpAny _ _ (Builtin.Tuple.tupleItemsOf (.ref a)>>=_) _ _ s;refine aa (wpAny_tupleItemsOf g1 g3 (aa ?_));rw[<-Xt];have TU:A.in1.units=A.units+1:=rfl;refine wpAny_forIn_list _ (fun gm (b:Array Int) s'=>∃done left bs,ds=done++left/\ym n left/\ReadsAll s.heap gm left bs/\b.toList=iQ done/\s'={ s with toks:=s.toks+kE done }) _ ?_ ?_ _ _ ⟨[],ds,_,rfl,Vc,g4,rfl,rfl⟩
    ·rintro x gm b s' ⟨done,left,bs,e,kl,rl,hb,rfl⟩;cases rl with
     |@cons _ _ y KH b1 b2 r1 r2 =>
      cases kl with
      |cons k1 k2 =>
       refine aa (ih y A.in1 _ _ x b1 _ k1 r1 ⋯ ?_)
       first
        |exact ah ⟨done++[y],KH,b2,by rw[e,bg];rfl,k2,r2,by rw[oS];simp[hb,iQ],by rw[o5];simp[kE,Nat.add_assoc]⟩
        |exact aa (ah (ah ⟨done++[y],KH,b2,by rw[e,bg];rfl,k2,r2,by rw[oS];simp[hb,iQ],by rw[o5];simp[kE,Nat.add_assoc]⟩))
    ·rintro b s' ⟨done,left,bs,e,kl,rl,hb,rfl⟩;cases rl;rw[bw] at e;subst e;show wpAny _ _ (retInt (Builtin.Tuple.tupleHashOf b.toList)) _ _ _;rw[hb];refine wpAny_ret_mkInt ?_;rw[tY,wD] at q;show wpAny _ _ (if (decide (-(2:Int) ^ 63<=Builtin.Tuple.tupleHashOf (iQ ds))&&decide (Builtin.Tuple.tupleHashOf (iQ ds)<2 ^ 63))=true then _ else _) _ _ _;unfold reduceHash at q;by_cases hr:(decide (-(2:Int) ^ 63<=Builtin.Tuple.tupleHashOf (iQ ds))&&decide (Builtin.Tuple.tupleHashOf (iQ ds)<2 ^ 63))=true
     ·rw[if_pos hr];rw[if_pos hr] at q;exact ah (by simpa [Nat.add_assoc] using q)
     ·rw[if_neg hr];rw[if_neg hr] at q;exact aa (wpAny_rule (ah (by simpa [Nat.add_assoc] using q)))
mutual
theorem Kb.nb {n:Nat}{d:D}:Kb n d->Nb n d
 |.int _ _=>.int _ _
 |.tuple h=>.tuple (ym.nb h)
theorem ym.nb {n:Nat}{ds:List D}:ym n ds->pE n ds
 |.nil=>.nil
 |.cons h hs=>.cons (Kb.nb h) (ym.nb hs)
end
mutual
theorem Kb.up {n:Nat}{d:D}:Kb n d->∀m,n<=m->Kb m d
 |.int _ _,_,_=>.int _ _
 | .tuple h,m,hm=>by
  obtain⟨m',rfl⟩:∃m',m=m'+1:=⟨m-1,by omega⟩;exact .tuple (ym.up h m' ⋯)
theorem ym.up {n:Nat}{ds:List D}:ym n ds->∀m,n<=m->ym m ds
 |.nil,_,_=>.nil
 |.cons h hs,m,hm=>.cons (Kb.up h m hm) (ym.up hs m hm)
end
theorem D0 {h:Heap}:∀(n:Nat) (x:D) (v:Value) (y:D) (as bs:List Addr),Kb n x->Kb n y->Reads h v x as->Reads h v y bs->x=y:=by
 intro n;induction n with
 |zero =>
  intro x v y as bs kx ky rx ry;cases kx;cases ky;cases rx;cases ry;rfl
 |succ n ih =>
  have all:∀(vs:List Value) (xs ys:List D) (as bs:List Addr),ym n xs->ym n ys->ReadsAll h vs xs as->ReadsAll h vs ys bs->xs=ys:=by
   intro vs;induction vs with
   |nil =>
    intro xs ys as bs _ _ rx ry;cases rx;cases ry;rfl
   |cons v vs RC =>
    intro xs ys as bs kx ky rx ry;cases rx with
    |cons r1 r2 =>
     cases ry with
     |cons r3 r4 =>
      cases kx with
      |cons k1 k2 =>
       cases ky with
       |cons k3 k4=>rw[ih _ _ _ _ _ k1 k3 r1 r3,RC _ _ _ _ k2 k4 r2 r4]
  intro x v y as bs kx ky rx ry;cases kx with
  |int _ i =>
   cases rx;cases ky with
   |int _ j=>cases ry;rfl
   |tuple k=>cases ry
  |tuple k1 =>
   cases rx with
   |tuple g1 g2 g3 g4 =>
    cases ky with
    |int _ j=>cases ry
    |tuple k2 =>
     cases ry with
     |tuple f1 f2 f3 f4 =>
      rw[g1] at f1;cases f1;rw[g3] at f3;cases f3;rw[all _ _ _ _ _ k1 k2 g4 f4]
theorem AM {h h':Heap}{d:Addr}{o:Obj}{es:Array DictEntry}{ep:Nat}(hd:h.get? d=some o)(ho:o.data=.dict es ep)(hs:Heap.SameBut d h h'):∀(n:Nat) (x:D) (v:Value) (as:List Addr),Kb n x->Reads h v x as->Reads h' v x as:=by
 intro n;induction n with
 |zero =>
  intro x v as kx rx;cases kx;cases rx;exact .int _ _
 |succ n ih =>
  have all:∀(vs:List Value) (xs:List D) (as:List Addr),ym n xs->ReadsAll h vs xs as->ReadsAll h' vs xs as:=by
   intro vs;induction vs with
   |nil =>
    intro xs as _ rx;cases rx;exact .nil
   |cons v vs RC =>
    intro xs as kx rx;cases rx with
    |cons r1 r2 =>
     cases kx with
     |cons k1 k2=>exact .cons (ih _ _ _ k1 r1) (RC _ _ k2 r2)
  intro x v as kx rx;cases kx with
  |int _ i=>cases rx;exact .int _ _
  |tuple k =>
   cases rx with
   |@tuple a o' _ _ _ _ g1 g2 g3 g4 =>
    have ne:a≠d:=fun z=>by
     subst z;rw[g1] at hd;cases hd;rw[g3] at ho;cases ho
    exact .tuple ((hs.2 a ne).trans g1) g2 g3 (all _ _ _ k g4)
theorem yV {prog:Program}{w:World}:∀(n:Nat) (x:D) (f:Nat) (A:Around) (E:Value->Shared->Prop) (s:Shared) (v:Value) (as:List Addr) (Q:Bool->Shared->Prop),Kb n x->n<=f->Reads s.heap v x as->Q true s->wpAny (model prog w) A (eqIsQuiet f v) Q E s:=by
 intro n;induction n with
 |zero =>
  intro x f A E s v as Q kx hf rx q;cases kx;cases rx;rw[eqIsQuiet_byValue _ rfl];exact ah q
 |succ n ih =>
  intro x f A E s v as Q kx hf rx q;cases kx with
  |int _ i =>
   cases rx;rw[eqIsQuiet_byValue _ rfl];exact ah q
  |@tuple _ ds k =>
   cases rx with
   |@tuple a o items m _ _ g1 g2 g3 g4 =>
    obtain⟨f',rfl⟩:∃f',f=f'+1:=⟨f-1,by omega⟩;have tt:s.TypeIs (.ref a) "tuple" := ⟨o,g1,g2⟩;unfold eqIsQuiet;refine aa (wpAny_specialOf tt F.slot_tuple_eq.lookup ?_);show wpAny _ _ (isInstance (.ref a) (.type "tuple")>>=_) _ _ s;refine aa (wpAny_isInstance tt isSubtype_tuple_tuple ?_);rw[if_neg (by decide)];refine aa (wpAny_seqItems g1 g3 (aa ?_));show wpAny _ _ (forIn items _ _) _ _ s;rw[<-Xt];refine wpAny_forIn_list _ (fun gm r s'=>r.1=none/\s'=s/\∃xs bs,ym n xs/\ReadsAll s.heap gm xs bs) _ ?_ ?_ _ _ ⟨rfl,rfl,ds,_,k,g4⟩
    ·rintro y gm r s' ⟨hr,rfl,xs,bs,kk,rr⟩;cases rr with
     |cons r1 r2 =>
      cases kk with
      |cons k1 k2 =>
       refine aa (ih _ f' _ _ _ _ _ _ k1 ⋯ r1 ?_);rw[if_neg (by decide)];exact ah ⟨rfl,rfl,_,_,k2,r2⟩
    ·rintro⟨c1,c2⟩ s' ⟨hr,rfl,_⟩;cases (show c1=none from hr);exact ah q
theorem He {n m:Nat}{x y:D}(kx:Kb n x)(ky:Kb m y):PyData.eqv x y=true<->x=y:=by
 rw[<-same_eq_eqv x y (kx.nb.mix ky.nb)];exact⟨fun e=>kx.nb.eq ky.nb e,fun e=>by rw[e];exact same_self _⟩
noncomputable instance WB:DecidableEq D:=fun _ _=>Classical.propDecidable _
def RB (h:Heap)(d:D)(a:Addr):Prop:=Kb 6 d/\∃as,Reads h (.ref a) d as
noncomputable def mZ (prog:Program)(w:World):HeapKind prog w D where
 is:=RB
 hash:=tY
 draws:=wD
 room:=fun A=>A.units+100<cLine
 inj:=fun⟨k1,_,r1⟩ ⟨k2,_,r2⟩=>D0 6 _ _ _ _ _ k1 k2 r1 r2
 keeps:=fun⟨k1,_,r1⟩ hd ho hs=>⟨k1,_,AM hd ho hs 6 _ _ _ k1 r1⟩
 pyHash:=fun hu ⟨k1,_,r1⟩ q=>Bj 6 _ _ _ _ _ _ _ k1 r1 ⋯ q
 eqBool:=fun {A E s x y a b Q} hu ⟨k1,_,r1⟩ ⟨k2,_,r2⟩ q=>by
  have e:PyData.eqv x y=decide (x=y):=by
   by_cases z:x=y
   ·rw[(He k1 k2).mpr z,decide_eq_true z]
   ·rw[decide_eq_false z];exact Bool.eq_false_iff.mpr fun q=>z ((He k1 k2).mp q)
  have dx:=k1.nb.deep;refine eqAt_reads x y A s _ _ _ _ r1 r2 k1.nb.lay k2.nb.lay ⋯ prog w _ _ ?_;rw[e];exact q
 quiet:=fun⟨k1,_,r1⟩ q=>yV 6 _ 8 _ _ _ _ _ _ k1 (by decide) r1 q
mutual
theorem OP:∀(d:D) (n:Nat),HZ d n=true->Kb n d
 |.int i,n,_=>.int n i
 |.tuple ds,0,h=>by simp[HZ] at h
 |.tuple ds,n+1,h=>.tuple (A9 ds n (by simpa [HZ] using h))
 |.none,n,h=>by simp[HZ] at h
 |.bool _,n,h=>by simp[HZ] at h
 |.str _,n,h=>by simp[HZ] at h
 |.list _,n,h=>by simp[HZ] at h
 |.dict _,n,h=>by simp[HZ] at h
theorem A9:∀(ds:List D) (n:Nat),zC ds n=true->ym n ds
 |[],n,_=>.nil
 | d::ds,n,h=>by
  simp only[zC,Bool.and_eq_true] at h;exact .cons (OP d n h.1) (A9 ds n h.2)
end
theorem key_of {d:D}(h:ie d=true):Kb 6 d:=by
 cases d <;> first|exact .tuple (A9 _ 5 h)|(simp[ie] at h)
theorem xF {K:Fg}{H:Hp}{O:List Addr}{d:D}{v:V}(h:ie d=true)(r:R K H O d v):∃b,v=.ref b:=by
 cases r <;> first|exact⟨_,rfl⟩|(simp[ie] at h)
theorem sr {x y:D}(hx:ie x=true)(hy:ie y=true):same x y=true<->x=y :=
 ⟨fun e=>(key_of hx).nb.eq (key_of hy).nb e,fun e=>by rw[e];exact same_self _⟩
noncomputable def n9 (es:List En)(k:D):Option V:=(es.find? fun p=>same p.1 k).map (·.2.2)
theorem Rd.look {K:Fg}{H:Hp}{O:List Addr}{k:D}:∀{kvs:List (D×D)}{es:List En},Rd K H O kvs es->(rQ kvs k=none/\n9 es k=none)\/∃d v,rQ kvs k=some d/\n9 es k=some v/\R K H O d v
 |_,_,.nil=>.inl ⟨rfl,rfl⟩
 | (k',d)::kvs,(_,u,v)::es,.cons h g r=>by
  by_cases e:Spec.same k' k=true
  ·exact .inr ⟨d,v,by simp[rQ,WV,e],by simp[n9,WV,e],g⟩
  ·rw[Bool.not_eq_true] at e;have:=Rd.look (k:=k) r;simpa [rQ,n9,WV,e] using this
theorem Rd.keys {K:Fg}{H:Hp}{O:List Addr}:∀{kvs:List (D×D)}{es:List En},Rd K H O kvs es->es.map (·.1)=kvs.map (·.1)
 |_,_,.nil=>rfl
 |_,_,.cons _ _ r=>by rw[aC,aC,Rd.keys r]
theorem Rd.GO {K:Fg}{H:Hp}{O:List Addr}:∀{kvs:List (D×D)}{es:List En}{p:En},Rd K H O kvs es->p∈es->R K H O p.1 p.2.1
 |_,_,_,.nil,h=>nomatch h
 | _,_,_,.cons h g r,hp=>by
  rcases List.mem_cons.mp hp with z|z
  ·subst z;exact h
  ·exact Rd.GO r z
theorem m7 {kvs:List (D×D)}{es:List En}(e:es.map (·.1)=kvs.map (·.1))(h:dS kvs=true):∀p∈es,ie p.1=true:=fun p hp=>by
 have:p.1∈kvs.map (·.1):=e▸List.mem_map_of_mem hp;obtain⟨q,hq,z⟩:=List.mem_map.mp this;rw[<-z];exact List.all_eq_true.mp h q hq
section
variable {X:Cx}{pins:List (Addr×Obj)}{σ:St}{H:Hp}{s:Shared}{O:List Addr}
theorem oG {α β:Type}{r:α->β->Prop}:∀{xs:List α}{ys:List β},Paired r xs ys->∀y∈ys,∃x∈xs,r x y
 |_,_,.nil,y,hy=>nomatch hy
 | _,_,.cons h hs,y,hy=>by
  rcases List.mem_cons.mp hy with z|z
  ·subst z;exact⟨_,aP,h⟩
  ·obtain⟨x,hx,q⟩:=oG hs y z;exact⟨x,aG _ hx,q⟩
theorem Hn {a:Addr}{es:Es}{kvs:List (D×D)}(I:Inv X pins σ H s)(h:H a=some (lT a es))(hr:Rd X.K H O kvs es.2)(hk:dS kvs=true) :
  ∃xs,Paired qA es.2 xs/\s.heap.DictOfH (mZ X.prog X.w) a xs/\es.2.length<=sizeLine/\(a==sysModules)=false:=by
 obtain⟨⟨z,y,e1,xs,p,ds,ep,e2,e3,e4,e5⟩,_,_⟩:=(show L2.ObjOk X.prog X.w H s.heap a (lT a es) from I.fT a _ h);refine⟨xs,p,⟨es.1,ds,ep,e1,e2,e3,e4,fun x hx=>?_,e5⟩,z,y⟩;obtain⟨q,hq,q1,q2,_⟩:=oG p x hx;have kq:=m7 hr.keys hk q hq;have rq:=hr.GO hq;rw[q2] at rq;rw[q1] at kq rq;exact⟨key_of kq,R.reads I rq (key_of kq).nb.lay _ rfl⟩
theorem uk {k:D}(hk:ie k=true):∀{es:List En}{xs:List (D×Addr×Value)},Paired qA es xs->(∀p∈es,ie p.1=true)->(n9 es k=none/\atKey xs k=none)\/∃v b u,n9 es k=some v/\atKey xs k=some (b,u)/\dQ v u
 |_,_,.nil,_=>.inl ⟨rfl,rfl⟩
 | p::es,x::xs,.cons h hs,ok=>by
  obtain⟨h1,h2,h3⟩:=h;have kp:=ok p aP;by_cases e:same p.1 k=true
  ·have e':x.1=k:=h1▸(sr kp hk).mp e;exact .inr ⟨p.2.2,x.2.1,x.2.2,by simp[n9,WV,e],by simp[atKey,WV,e'],h3⟩
  ·have e':x.1≠k:=fun z=>e ((sr kp hk).mpr (h1.trans z));rw[Bool.not_eq_true] at e;have:=uk hk hs fun p hp=>ok p (aG _ hp);simpa [n9,atKey,WV,e,e'] using this
noncomputable def Oh (K:Fg):L2.R2:=fun x y H Q=>∃a es kvs O k v,x=.ref a/\H a=some (lT a es)/\Rd K H O kvs es.2/\dS kvs=true/\ie k=true/\R K H O k y/\n9 es.2 k=some v/\Q v H
theorem Mi (hu:X.A.units+200<cLine):L2.IxR X (Oh X.K):=by
 intro value slice pins s σ H x y v u Q I rx ry h hs;obtain⟨a,es,kvs,O,k,w,rfl,ha,hr,hk,kk,rk,hl,q⟩:=h;cases rx;obtain⟨xs,p,dm,z,nm⟩:=Hn I ha hr hk;obtain⟨b,rfl⟩:=xF kk rk;cases ry;obtain⟨as,rd⟩:=R.reads I rk (key_of kk).nb.lay _ rfl;rcases uk kk p (m7 hr.keys hk) with ⟨e,_⟩|⟨v',b',u',e1,e2,e3⟩
 ·rw[hl] at e;cases e
 ·rw[hl] at e1;cases e1;refine PyProof.Rows.subscriptTail_builtinR (x:=u') dm.typeIs PySem.F.slot_dict_getitem.lookup
   (wpAny_getItem_heap (knd:=mZ X.prog X.w) (Q:=fun r s'=>r=u'/\EP X pins σ Q r s') (show X.A.in1.units+100<cLine by have:X.A.in1.units=X.A.units+1:=rfl;omega) ⟨key_of kk,as,rd⟩ dm e2 ⟨rfl,w,H,I.tok _,e3,q⟩) hs
end
section
variable {X:Cx}{a b:Expr}{fb gb:BD}{pos p:Pos}
theorem BR.key {K:Fg}{H:Hp}{O:List Addr}{d:D}{v:V}(k:ie d=true)(h:BR K H O d v):R K H O d v:=by
 rcases h with h|⟨a,ds,vs,e1,_⟩|⟨a,vp,es,e1,e2,e3,q⟩
 ·exact h
 ·rw[e1] at k;cases k
 ·rw[e1] at k;cases k
theorem LX:OD X (Oh X.K) gJ:=by
 intro x y vx vy H O r Q ne hx hy hf k;unfold gJ at hf;cases x <;> first|cases hf|skip
 rename_i kvs;dsimp only at hf;split at hf
 ·rename_i c;rw[Bool.and_eq_true] at c;obtain⟨a,es,rfl,ha,hr⟩:=hx.dict;rcases hr.look (k:=y) with ⟨e1,_⟩|⟨d,v,e1,e2,rv⟩
  ·rw[e1] at hf;cases hf
  ·rw[e1] at hf;cases hf;exact⟨a,es,kvs,O,y,v,rfl,ha,hr,c.1,c.2,hy.key c.2,e2,k _ H (.refl H) (.of rv)⟩
 ·cases hf
theorem jg (hu:X.A.units+200<cLine)(ha:DB X a fb)(hb:DB X b gb)(hs:L2.PlainIx b:=by exact fun _ _=>rfl):DE X (.Subscript a b pos) (d2 gJ fb gb):=(L2.pe_ix (Mi hu) ha hb hs).imp fun _ _ _ h=>ya LX h
theorem Jz {prog:Program}{w:World}{A:Around}{E:Value->Shared->Prop}{s:Shared}{d:Addr}{o:Obj}{ds:Array DictEntry}{ep n:Nat}{Q:Value->Shared->Prop}(hd:(d==sysModules)=false)(ho:s.heap.get? d=some o)(hc:o.ExactDict)(Bh:o.data=.dict ds ep)(hn:ds.size=n)(Pj:(n:Int)<2 ^ 63)
  (h:Q (.int n (s.toks+1)) { s with toks:=s.toks+1+1 }):wpAny (model prog w) A (call (.builtin "len") [.ref d]) Q E s:=by
 have tt:s.TypeIs (.ref d) "dict" := ⟨o,ho,hc.1⟩;refine Calls.call_function_entry kind_len plain_len entry_len (args_len1 _) ?_;unfold Builtin.«len»;refine aa (m:=oneArg "len" _) (ah ?_);have m:MeetsIn prog w (Builtin.«dict.__len__» ⟨[.ref d],[]⟩) (fun _ R s=>s.heap.get? d=some o/\R (.ok (.ret (.int n s.toks))) { s with toks:=s.toks+1 }) :=
  .of_wp fun A R s zz=>by
   obtain ⟨ho,h⟩:=zz;show wpAny _ _ (dictSize d>>=_) _ _ s;unfold dictSize;refine aa (aa (wpAny_dictEntries ho Bh (ah ?_)));show wpAny _ _ (Builtin.Dict.pendingCount d>>=_) _ _ s;refine aa (wpAny_pendingCount_other hd ?_);refine wpAny_ret_mkInt ?_;rw[Nat.add_zero,hn];exact h
 refine aa (m:=callSpecial? (.ref d) (Str.ofString "__len__")) (wpAny_callSpecial?_slot (name:=Str.ofString "__len__") tt F.slot_dict_len
  (call_meetsIn F.slot_dict_len tt F.entry_dict_len (F.args_dict_len_1 _) m ⟨ho,?_⟩))
 show wpAny _ _ _ _ _ { s with toks:=s.toks+1 };refine aa (bx (ah ?_));refine aa (wpAny_letGo ?_);show wpAny _ _ (if (n:Int)<0 then _ else _) _ _ _;rw[if_neg ⋯];show wpAny _ _ (if (n:Int) ≥ 2 ^ 63 then _ else _) _ _ _;rw[if_neg ⋯];exact aa (wpAny_mkInt (ah ⟨_,rfl,h⟩))
theorem BJ:L2.CallR X (.builtin "len") (fun xs H Q=>∃a es,xs=[V.ref a]/\H a=some (lT a es)/\Q (.int es.2.length) H):=by
 intro pins s σ H xs us Q I r h;obtain⟨a,es,rfl,ha,q⟩:=h;obtain⟨u,rfl,ru⟩:=L2.vals1 r;cases ru;obtain⟨⟨z,y,e1,xs,p,ds,ep,e2,e3,e4,e5⟩,_,_⟩:=(show L2.ObjOk X.prog X.w H s.heap a (lT a es) from I.fT a _ ha);have hl:=p.length;have hz:ds.size=es.2.length:=by rw[<-aT,e4,ai,hl]
 have hn:=L2.line63;exact Jz y e1 e2 e3 hz ⋯ ⟨.int es.2.length,H,I.tok _,⟨_,rfl⟩,q⟩
theorem IC:UD X (fun x H Q=>(fun xs H Q=>∃a es,xs=[V.ref a]/\H a=some (lT a es)/\Q (.int (es.2.length:Nat)) H:List V->Hp->VK->Prop) [x] H Q) Gp:=by
 intro x vx H O r Q ne hx hf k;cases x <;> first|cases hf|skip
 rename_i kvs;obtain⟨a,es,rfl,ha,hr⟩:=hx.dict;rw[hr.length] at k;exact⟨a,es,rfl,ha,k _ H (.refl H) (.of (.int _))⟩
theorem J7 (hm:X.mg "len" = none)(ha:DB X a fb)(hg:L2.Gl X "len" := by rfl)(he:starEach [a] X.env=(false,eval a X.env)::starEach [] X.env:=by rfl):DE X (.Call (.Name "len" p) [a] [] pos) (d1 Gp fb):=qk BJ IC hm PySem.boot_len ha hg (by decide) (by decide) he
noncomputable def qK (es:List En)(k:D)(u v:V):List En:=if (n9 es k).isSome=true then es.map fun p=>if same p.1 k=true then (p.1,p.2.1,v) else p else es++[(k,u,v)]
noncomputable def Ob (K:Fg):L2.TSet:=fun o i v H Q=>∃a es kvs O k,o=.ref a/\H a=some (lT a es)/\es.2.length<sizeLine/\Rd K H O kvs es.2/\dS kvs=true/\ie k=true/\R K H O k i/\∀ob,Q (eF H a (lT a (ob,qK es.2 k i v)))
theorem tE {k:D}{b:Addr}{v:V}{u:Value}(hk:ie k=true)(rv:dQ v u){es:List En}{xs:List (D×Addr×Value)}(h:Paired qA es xs)(ok:∀p∈es,ie p.1=true):Paired qA (qK es k (.ref b) v) (storedH xs k b u):=by
 have lk:=uk hk h ok;have go:∀{es:List En}{xs:List (D×Addr×Value)},Paired qA es xs->(∀p∈es,ie p.1=true)->Paired qA (es.map fun p=>if same p.1 k=true then (p.1,p.2.1,v) else p) (xs.map (putAt k u)):=fun {es xs} h=>by
  induction h with
  |nil=>intro _;exact .nil
  |@cons p x es xs hp hs ih =>
   intro ok;obtain⟨h1,h2,h3⟩:=hp;have kp:=ok p aP;refine .cons ?_ (ih fun p hp=>ok p (aG _ hp));by_cases e:same p.1 k=true
   ·have e':x.1=k:=h1▸(sr kp hk).mp e;dsimp only;rw[if_pos e];unfold putAt;rw[if_pos e'];exact⟨h1,h2,rv⟩
   ·have e':x.1≠k:=fun z=>e ((sr kp hk).mpr (h1.trans z));dsimp only;rw[if_neg e];unfold putAt;rw[if_neg e'];exact⟨h1,h2,h3⟩
 have app:∀{es:List En}{xs:List (D×Addr×Value)},Paired qA es xs->Paired qA (es++[(k,.ref b,v)]) (xs++[(k,b,u)]):=fun {es xs} h=>by
  induction h with
  |nil=>exact .cons ⟨rfl,rfl,rv⟩ .nil
  |cons hp _ ih=>exact .cons hp ih
 unfold qK storedH;rcases lk with ⟨e1,e2⟩|⟨v',b',u',e1,e2,e3⟩
 ·rw[e1,e2,if_neg (by simp),if_neg (by simp)];exact app h
 ·rw[e1,e2,if_pos (by rfl),if_pos (by rfl)];exact go h ok
theorem yW (es:List En)(k:D)(u v:V):(qK es k u v).length<=es.length+1:=by
 unfold qK;split
 ·rw[ai];omega
 ·rw[aw];simp
theorem IS (hu:X.A.units+200<cLine):L2.PSet X (Ob X.K):=by
 intro pins s σ H o i v ov iv u Q I ro ri rv h;obtain⟨a,es,kvs,O,k,rfl,ha,hz,hr,hk,kk,rk,q⟩:=h;cases ro;obtain⟨xs,p,dm,z,nm⟩:=Hn I ha hr hk;obtain⟨b,rfl⟩:=xF kk rk;cases ri;obtain⟨as,rd⟩:=R.reads I rk (key_of kk).nb.lay _ rfl;have hl:=p.length;refine wpAny_setItem_heap (knd:=mZ X.prog X.w) (show X.A.in1.units+100<cLine by have:X.A.in1.units=X.A.units+1:=rfl;omega) ⟨key_of kk,as,rd⟩ dm (fun h' WA sb=>?_) ⋯;obtain⟨o',ds,ep,e1,e2,e3,e4,_,e5⟩:=WA;have pl:=yW es.2 k (.ref b) v;have no:L2.ObjOk X.prog X.w (eF H a (lT a (o',qK es.2 k (.ref b) v))) h' a (lT a (o',qK es.2 k (.ref b) v)) :=
  Hz (es:=(o',qK es.2 k (.ref b) v)) ⟨by show (qK es.2 k (.ref b) v).length<=_;omega,nm,e1,storedH xs k b u,tE kk rv p (m7 hr.keys hk),ds,ep,e2,e3,e4,e5⟩
 exact⟨_,I.write (x:=a) (e:=a) (by rw[ha];trivial) (.inl rfl) (fun c o n e=>(sb.2 c n).trans e) ⟨_,e1⟩ no,q o'⟩
theorem Rd.F8 {K:Fg}{H:Hp}{O:List Addr}{k d:D}{v:V}(hv:R K H O d v):∀{kvs:List (D×D)}{es:List En},Rd K H O kvs es->Rd K H O (kvs.map fun p=>if Spec.same p.1 k=true then (p.1,d) else p) (es.map fun p=>if Spec.same p.1 k=true then (p.1,p.2.1,v) else p)
 |_,_,.nil=>.nil
 | (k',_)::_,(_,_,_)::_,.cons h1 h2 r=>by
  rw[aC,aC];by_cases e:Spec.same k' k=true
  ·simp only[e,if_true];exact .cons h1 hv (Rd.F8 hv r)
  ·simp only[e];exact .cons h1 h2 (Rd.F8 hv r)
theorem Rd.put {K:Fg}{H:Hp}{O:List Addr}{kvs:List (D×D)}{es:List En}{k d:D}{u v:V}(h:Rd K H O kvs es)(hk:R K H O k u)(hv:R K H O d v):Rd K H O (mB kvs k d) (qK es k u v):=by
 unfold mB qK;rcases h.look (k:=k) with ⟨e1,e2⟩|⟨d',v',e1,e2,_⟩
 ·rw[e1,e2,if_neg (by simp),if_neg (by simp)];exact h.append (.cons hk hv .nil)
 ·rw[e1,e2,if_pos (by rfl),if_pos (by rfl)];exact Rd.F8 hv h
end
section
variable {prog:Program}{w:World}{A:Around}{E:Value->Shared->Prop}{s:Shared}{d it:Addr}{od:Obj}{ds:Array DictEntry}{ep i n:Nat}
theorem GU {Q:Value->Shared->Prop}(hd:(d==sysModules)=false)(ho:s.heap.get? d=some od)(hc:od.ExactDict)(Bh:od.data=.dict ds ep)(hn:ds.size=n)
  (hQ:Q (.ref s.heap.objs.size) { s with heap:=s.heap.push { cls:=.type "dict_keyiterator", data:=.fields #[.ref d,.int 0 0,.int n 0,.int ep 0] } }):wpAny (model prog w) A (pyIter (.ref d)) Q E s:=by
 have hT:s.TypeIs (.ref d) "dict" := ⟨od,ho,hc.1⟩;refine wpAny_pyIter_slot hT F.slot_dict_iter (wpAny_call_entry F.slot_dict_iter hT F.entry_dict_iter ?_ (F.args_dict_iter_1 _));unfold Builtin.«dict.__iter__»;refine aa ?_;unfold Builtin.Dict.dictSlotNone;refine aa (wpAny_notOrdered_dict hT ?_);show wpAny _ _ (pure (Value.ref d)) _ _ s;refine ah ?_;show wpAny _ _ (Builtin.Dict.showsAll d>>=_) _ _ s;unfold Builtin.Dict.showsAll;rw[if_neg (by rw[hd];exact Bool.false_ne_true)];refine aa (ah ?_);refine aa (wpAny_dictEntries ho Bh (aa (wpAny_dictEpoch ho Bh (aa (bp (ah ⟨_,rfl, "dict_keyiterator", _,⟨_,az _ rfl,rfl⟩,F.slot_dict_keyiterator_next.lookup,?_⟩))))));simpa [rawInt,hn] using hQ
theorem Gy {Q:Option Value->Shared->Prop}(gC:s.heap.IsKeyIter it d i n ep)(GZ:s.heap.get? d=some od)(G5:od.data=.dict ds ep)(hn:ds.size=n)(hi:i<ds.size)
  (hQ:∀h',h'.IsKeyIter it d (i+1) n ep->Heap.SameBut it s.heap h'->Q (some ds[i].key) { s with heap:=h' }):wpAny (model prog w) A (pyNext (.ref it)) Q E s:=by
 obtain⟨o,ho,hc,hd⟩:=id gC;unfold pyNext;refine aa (wpAny_attempt (wpAny_callSpecial?_slot (name:=Str.ofString "__next__") gC.typeIs F.slot_dict_keyiterator_next (wpAny_call_entry F.slot_dict_keyiterator_next gC.typeIs F.entry_dict_keyiterator_next ?_ (F.args_dict_keyiterator_next_1 _))));refine aa (ah (aa (aa ?_)));first|refine aa (wpAny_typeNameOfWhole_keyiter gC.typeIs (ah ?_))|refine aa (wpAny_typeNameOf_keyiter gC.typeIs (ah ?_))
 refine aa (wpAny_fieldsOf ho hd ?_);have xO:Builtin.Dict_items.ownsTuple "dict_keyiterator" = false:=by decide
 simp only[xO,Bool.false_eq_true,if_false];show wpAny _ _ (if (Value.ref d==Value.none)=true then _ else _) _ _ s;rw[if_neg (show ¬((Value.ref d==Value.none)=true) from Bool.false_ne_true)];refine aa (ah (aa (wpAny_dictEntries GZ G5 ?_)));rw[if_neg (by rw[hn];simp)];refine aa (ah (aa (wpAny_dictEpoch GZ G5 ?_)));rw[if_neg (by simp)];refine ah ?_;simp only[show ¬((i:Int)<0) from by omega,if_false,aQ,aS hi];refine aa ?_
 first|refine aa (wpAny_typeNameOfWhole_keyiter gC.typeIs (ah ?_))|refine aa (wpAny_typeNameOf_keyiter gC.typeIs (ah ?_)) <;> skip
 refine aa (wpAny_isOneOf_keyiter gC.typeIs ?_);show wpAny _ _ (setField (.ref it) 1 (rawInt ((i:Int)+1))>>=_) _ _ s;refine aa (wpAny_setField ho hd (by simp) ?_);have Pf:(s.heap.update it (Obj.mapFields (·.setIfInBounds 1 (rawInt ((i:Int)+1))))).IsKeyIter it d (i+1) n ep:=⟨_,bA _ ho (Obj.isFreed_of_fields (Obj.data_mapFields hd _)),(Obj.cls_mapFields ..).trans hc,by rw[Obj.data_mapFields hd];simp[rawInt]⟩;refine aa (bx (aa (wpAny_isOneOf_keyiter (s:={ s with heap:=s.heap.update it (Obj.mapFields (·.setIfInBounds 1 (rawInt ((i:Int)+1)))) }) Pf.typeIs ?_)));show wpAny _ _ (pure ds[i].key) _ _ _;exact ah (ah ⟨_,rfl,ah (hQ _ Pf (Heap.SameBut.update ..))⟩)
theorem FK {Q:Option Value->Shared->Prop}(hh:A.handled=none)(gC:s.heap.IsKeyIter it d i n ep)(GZ:s.heap.get? d=some od)(G5:od.data=.dict ds ep)(hn:ds.size=n)(hi:ds.size<=i)
  (hQ:∀h',Heap.ExtBut it s.heap h'->Q none { s with heap:=h' }):wpAny (model prog w) A (pyNext (.ref it)) Q E s:=by
 obtain⟨o,ho,hc,hd⟩:=id gC;unfold pyNext;refine aa (wpAny_attempt (wpAny_callSpecial?_slot (name:=Str.ofString "__next__") gC.typeIs F.slot_dict_keyiterator_next (wpAny_call_entry F.slot_dict_keyiterator_next gC.typeIs F.entry_dict_keyiterator_next ?_ (F.args_dict_keyiterator_next_1 _))));refine aa (ah (aa (aa ?_)));first|refine aa (wpAny_typeNameOfWhole_keyiter gC.typeIs (ah ?_))|refine aa (wpAny_typeNameOf_keyiter gC.typeIs (ah ?_))
 refine aa (wpAny_fieldsOf ho hd ?_);have xO:Builtin.Dict_items.ownsTuple "dict_keyiterator" = false:=by decide
 simp only[xO,Bool.false_eq_true,if_false];show wpAny _ _ (if (Value.ref d==Value.none)=true then _ else _) _ _ s;rw[if_neg (show ¬((Value.ref d==Value.none)=true) from Bool.false_ne_true)];refine aa (ah (aa (wpAny_dictEntries GZ G5 ?_)));rw[if_neg (by rw[hn];simp)];refine aa (ah (aa (wpAny_dictEpoch GZ G5 ?_)));rw[if_neg (by simp)];refine ah ?_;simp only[show ¬((i:Int)<0) from by omega,if_false,aQ,Xe hi];refine aa ?_
 first|refine aa (wpAny_typeNameOfWhole_keyiter gC.typeIs (ah ?_))|refine aa (wpAny_typeNameOf_keyiter gC.typeIs (ah ?_)) <;> skip
 show wpAny _ _ (setField (.ref it) 0 .none>>=_) _ _ s;refine aa (wpAny_setField ho hd (by simp) ?_);show wpAny _ _ (newExc (.type "StopIteration") []>>=_) _ _ _;refine aa ?_;simp only[newExc,newTuple];refine aa (bp ?_ (by size_fits));refine aa (m:=firstArgMember _ _) (wpAny_of_eq (a:=Value.none) (by first|rfl|(simp only[firstArgMember];rfl)) ?_);refine bp ?_ (by size_fits);simp only[raiseNew];refine aa (wpAny_handled ?_);rw[show A.in1.handled=none from hh];refine aa (ah (wpAny_throw ?_));refine aa (wpAny_isInstance (T := "StopIteration") (b:=true) ⟨_,az _ rfl,rfl⟩ isSubtype_stop ?_);exact ah (hQ _ (((Heap.SameBut.update ..).extBut.push _).push _))
end
theorem oH {α β:Type}{r:α->β->Prop}:∀{xs:List α}{ys:List β}{i:Nat}{x:α},Paired r xs ys->xs[i]?=some x->∃y,ys[i]?=some y/\r x y
 |_,_,_,_,.nil,e=>by simp at e
 |_,_,0,_,.cons h _,e=>by simp at e;subst e;exact⟨_,rfl,h⟩
 |_,_,i+1,_,.cons _ hs,e=>by simpa using oH hs (by simpa using e)
noncomputable def Uu (a:Addr)(es:Es):It:=⟨fun i H=>H a=some (lT a es)/\i<es.2.length,fun i H x H'=>H'=H/\∃p,es.2[i]?=some p/\x=p.2.1,fun i H=>H a=some (lT a es)/\es.2.length<=i⟩
theorem FC {P:Program}{w:World}{K:Fg}{tg:Expr}(a it:Addr)(es:Es):L2.Turn P w K tg (Uu a es) [it] it (fun i h=>∃ep,(∃ds,es.1.data=.dict ds ep)/\h.IsKeyIter it a i es.2.length ep) where
 mem:=by simp
 obj:=fun i h st b hb=>by
  have e:b=it:=by simpa using hb
  subst e;obtain⟨ep,_,o,e,c,d⟩:=st;exact⟨o,e,fun v z=>by rw[d] at z;cases z⟩
 keep:=fun i h h' st k=>by
  obtain⟨ep,q,o,e,r⟩:=st;exact⟨ep,q,o,k it (by simp) o e,r⟩
 item:=by
  intro X hP hw hK hc i pins s σ H E I hf st hg;subst hP hw hK;obtain⟨ha,hi⟩:=hg;obtain⟨ep,⟨ds,wk⟩,st⟩:=st;obtain⟨⟨z,y,e1,xs,p,EM,J4,e2,e3,e4,e5⟩,_,_⟩:=(show L2.ObjOk X.prog X.w H s.heap a (lT a es) from I.fT a _ ha);rw[wk] at e3;cases e3;obtain⟨f0,f1,f2,f3,f4,f5⟩:=hf it (by simp);have hl:=p.length;have hz:ds.size=es.2.length:=by rw[<-aT,e4,ai,hl]
  have xS:i<ds.size:=by omega
  refine Gy st e1 wk hz xS fun h' vO sb=>?_;have I1:Inv X pins σ H { s with heap:=h' }:=I.turned (t':=s.toks) (fun b o hb e=>(sb.2 b hb).trans e) f0 f1 f3 f4 f5;obtain⟨o,e,c,dd⟩:=id vO;have OY:i<xs.length:=by omega
  have ek:ds[i].key=.ref (xs[i]).2.1:=by
   have:ds.toList[i]?=some (Bv xs[i]):=by rw[e4,ay,aq OY];rfl
   rw[b4,aS xS] at this;rw[Option.some.inj this];rfl
  have pe:qA es.2[i] xs[i]:=by
   obtain⟨x,hx,q⟩:=oH p (aq hi);rw[aq OY] at hx;cases hx;exact q
  rw[ek];exact⟨_,rfl,L2.go_of (s:={ s with heap:=h' }) e c dd (by decide) ⟨.ref (xs[i]).2.1,H,I1,rfl,⟨rfl,es.2[i],aq hi,pe.2.1.symm⟩,⟨ep,⟨ds,wk⟩,vO⟩,fun b hb=>(hf b hb).1⟩⟩
 done:=by
  intro X hP hw hK hc i pins s σ H E I hf st hg;subst hP hw hK;obtain⟨ha,hi⟩:=hg;obtain⟨ep,⟨ds,wk⟩,st⟩:=st;obtain⟨⟨z,y,e1,xs,p,EM,J4,e2,e3,e4,e5⟩,_,_⟩:=(show L2.ObjOk X.prog X.w H s.heap a (lT a es) from I.fT a _ ha);rw[wk] at e3;cases e3;obtain⟨f0,f1,f2,f3,f4,f5⟩:=hf it (by simp);have hl:=p.length;have hz:ds.size=es.2.length:=by rw[<-aT,e4,ai,hl]
  exact FK (I.ok.hd hc) st e1 wk hz ⋯ fun h' eb=>⟨rfl,I.turned (t':=s.toks) (fun b o hb e=>eb b o hb e) f0 f1 f3 f4 f5⟩
 self:=fun _ _ _ _ _ ⟨_,_,st⟩ h=>wpAny_pyIter_keyiter st h
theorem Bd {K:Fg}{H:Hp}{M O:List Addr}{a:Addr}{kvs:List (D×D)}{es:Es}(h:H a=some (lT a es))(n:a∉M)(q:Rd K H O kvs es.2):nG K (Uu a es) (kvs.map (·.1)) M O H:=by
 intro O2 H2 x;have h2:=x.ext _ _ n h;have q2:=q.ext x;have hl:=q.length;refine⟨fun i d e=>?_,h2,by rw[ai,hl];exact aE _⟩;rw[ay] at e;cases e':kvs[i]? with
 |none=>rw[e'] at e;cases e
 |some p =>
  rw[e'] at e;cases e;obtain⟨u,v,eu,r1,r2⟩:=q2.get e';have hi:=(List.getElem?_eq_some_iff.mp eu).1;refine⟨⟨h2,hi⟩,fun y H3 ⟨e3,p',hp,hy⟩=>?_⟩;subst e3;rw[eu] at hp;cases hp;subst hy;exact⟨.refl _,r1⟩
section
variable {X:Cx}{tg e:Expr}{f:ED}
theorem x4 (h:DE X e f):DI X tg e (mJ f):=by
 intro pins s σ H R I ⟨ρ,O,M,cK,ks,hE,hf,k⟩;unfold mJ at hf;obtain⟨r,hr,hf⟩:=Option.bind_eq_some_iff.mp hf;refine L2.thn (h pins s σ H _ I ⟨ρ,O,M,cK,r,hE,hr,fun v H1 s1 q1=>(⟨s1,q1⟩:cY H H1/\yl X.K H O H1 r v)⟩) fun v s1 zz=>?_;obtain ⟨x,H1,I1,r1,s2,q1⟩:=zz;have q:=q1.toR hE.ne;unfold GN at hf;cases e0:r.1 <;> rw[e0] at hf <;> first|cases hf|skip
 rename_i kvs;rw[e0] at q;dsimp only at hf;split at hf
 ·rename_i hk;cases hf;cases q with
  |@dict a _ es ha na hd =>
   cases (show v=Value.ref a from r1);obtain⟨⟨z,y,e1,xs,p,ds,ep,e2,e3,e4,e5⟩,_,_⟩:=(show L2.ObjOk X.prog X.w H1 s1.heap a (lT a es) from I1.fT a _ ha);have hl:=p.length;have hz:ds.size=es.2.length:=by rw[<-aT,e4,ai,hl]
   refine GU y e1 e2 e3 hz ?_;refine⟨s1.heap.objs.size,[s1.heap.objs.size],_,_,H1,rfl,I1.kept (t':=s1.toks) fun b o e=>af _ e,FC a _ es,⟨ep,⟨ds,e3⟩,_,az _ rfl,rfl,rfl⟩,fun b hb=>?_,k _ H1 s2 (Bd ha (fun z=>na ((hE.same s2).sub _ z)) hd)⟩;have e:b=s1.heap.objs.size:=by simpa using hb
   subst e;exact I1.zP (aE _) (I1.fT.fresh (aE _))
 ·cases hf
end
theorem Bx {i:Nat}{ρ:Sl}{kvs:List (D×D)}(h:wF i ρ=some kvs):ρ[i]?=some (some (nY (.dict kvs),true)):=by
 unfold wF at h;split at h
 ·rename_i e;cases h;exact e
 ·cases h
section
variable {K:Fg}{H:Hp}{B M:List Addr}{cK:Nat->Addr}{ρ:Sl}{σ:St}{i:Nat}
theorem ER.OL {kvs vp:List (D×D)}{a:Addr}{es es':Es}(h:ER K H (M++B) M cK ρ σ)(hr:ρ[i]?=some (some (nY (.dict kvs),true)))(e1:σ[i]?=some (some (.ref a)))(e2:H a=some (lT a es))(e3:a∈M)
  (ap:∀(j:Nat) (ys:List D) (c:Addr),ρ[j]?=some (some (.list ys,true))->σ[j]?=some (some (.ref c))->c≠a) (q:Rd K H (M++B) vp es'.2) :
  iB M H M (eF H a (lT a es'))/\ER K (eF H a (lT a es')) (M++B) M cK (ρ.set i (some (nY (.dict vp),true))) σ:=by
 have hi:i<ρ.length:=(List.getElem?_eq_some_iff.mp hr).1;have x:iB M H M (eF H a (lT a es')):=by
  refine⟨fun b o n e=>?_,fun b xs e=>?_,fun b o u e=>?_,fun b hb=>.inl hb,fun b hb=>?_⟩
  ·rw[cC (fun (z:b=a)=>n (by rw[z];exact e3))];exact e
  ·rw[cC (fun z=>by subst z;rw[e2] at e;cases e)];exact e
  ·rw[cC (fun z=>by subst z;rw[e2] at e;cases e)];exact e
  ·by_cases hz:b=a
   ·subst hz;rw[cN];simp
   ·rw[cC hz];exact hb
 have x':jO M (M++B) H (M++B) (eF H a (lT a es')):=x.ext;have ne:∀{j:Nat}{y:Vl},(∀c,y≠(nY c,true))->(ρ.set i (some (nY (.dict vp),true)))[j]?=some (some y)->i≠j:=fun {j y} hy ej z=>by subst z;rw[aA hi] at ej;exact hy _ (Option.some.inj (Option.some.inj ej)).symm
 refine⟨x,fun j d' ej=>?_,fun j d' ej=>?_,fun j d' ej=>?_,fun j k d' e' b e5 e6 e7 e8=>?_,fun b hb=>?_,h.sub,by rw[aX];exact h.len,⟨fun j c ej=>?_,fun j k c c' e5 e6=>?_⟩⟩
 ·have nj:=ne (by intro c z;cases z) ej;rw[aj nj] at ej;obtain⟨v,e5,q5⟩:=h.sh j d' ej;exact⟨v,e5,q5.ext x'⟩
 ·have nj:=ne (by intro c z;cases z) ej;rw[aj nj] at ej;obtain⟨b,Cj,e6,e7,e8,q5⟩:=h.ow j d' ej;refine⟨b,Cj,e6,?_,e8,q5.ext x'⟩;rw[cC (ap j d' b ej e6)];exact e7
 ·have nj:=ne (by intro c z;simp[iP,nY] at z) ej;rw[aj nj] at ej;obtain⟨e6,Cj,e7,e8,e9,q5⟩:=h.le j d' ej;refine⟨e6,Cj,?_,e8,e9,q5.ext x'⟩;rw[cC (fun (z:cK j=a)=>e9 (by rw[z];exact e3))];exact e7
 ·have nj:=ne (by intro c z;cases z) e5;have nk:=ne (by intro c z;cases z) e6;rw[aj nj] at e5;rw[aj nk] at e6;exact h.ap j k d' e' b e5 e6 e7 e8
 ·by_cases z:b=a
  ·subst z;exact⟨.inr _,cN⟩
  ·obtain⟨u,e⟩:=h.tr b hb;exact⟨u,by rw[cC z];exact e⟩
 ·by_cases hj:i=j
  ·subst hj;rw[aA hi] at ej;have e5:PyData.dict vp=c:=by
    have:=Option.some.inj (Option.some.inj ej);simpa [nY] using this
   subst e5;refine .inr ⟨_,rfl,a,es',e1,cN,e3,q.ext x',fun k ys c z1 z2=>?_⟩;have nk:=ne (by intro c z;cases z) z1;rw[aj nk] at z1;exact ap k ys c z1 z2
  ·rw[aj hj] at ej;exact absurd (h.dp.one i j (.dict kvs) c hr ej) hj
 ·have one:∀{j:Nat}{c:D},(ρ.set i (some (nY (.dict vp),true)))[j]?=some (some (nY c,true))->i=j:=fun {j c} ej=>by
   by_cases hj:i=j
   ·exact hj
   ·rw[aj hj] at ej;exact h.dp.one i j (.dict kvs) c hr ej
  exact (one e5).symm.trans (one e6)
theorem Eg (h:oM ρ=true){j:Nat}{c:D}:ρ[j]?≠some (some (nY c,true)):=fun e=>by
 have:=List.all_eq_true.mp h _ (aF e);simp[nY] at this
theorem ER.OG {p:Addr}(h:ER K H (M++B) M cK ρ σ)(hB:∀c∈M,c∉B)(hp:H p=none)(nd:oM (ρ.set i none)=true)(hi:i<ρ.length)(es:Es)(he:es.2=[]) :
  iB M H (p::M) (eF H p (lT p es))/\(∀c∈p::M,c∉B)/\ER K (eF H p (lT p es)) ((p::M)++B) (p::M) cK (ρ.set i (some (nY (.dict []),true))) (σ.set i (some (.ref p))):=by
 have xS:i<σ.length:=by rw[<-h.len];exact hi
 have s:cY H (eF H p (lT p es)):=fun b o e=>by rw[cC (cE e hp)];exact e
 have x:jO [] (M++B) H ((p::M)++B) (eF H p (lT p es)):=jO.fresh s hp;have rF:∀b,b∈M++B->b≠p:=fun b hb z=>h.ne b hb (z▸hp);have ne:∀{j:Nat}{y:Vl},(∀c,y≠(nY c,true))->(ρ.set i (some (nY (.dict []),true)))[j]?=some (some y)->i≠j:=fun {j y} hy ej z=>by subst z;rw[aA hi] at ej;exact hy _ (Option.some.inj (Option.some.inj ej)).symm
 have one:∀{j:Nat}{c:D},(ρ.set i (some (nY (.dict []),true)))[j]?=some (some (nY c,true))->i=j:=fun {j c} ej=>by
  by_cases hj:i=j
  ·exact hj
  ·rw[aj hj] at ej;exact absurd (by rw[aj hj];exact ej) (Eg nd (j:=j) (c:=c))
 refine⟨⟨fun b o _ e=>s b o e,fun b _ e=>s b _ e,fun b _ _ e=>s b _ e,fun b hb=>(List.mem_cons.mp hb).elim (fun z=>.inr (z▸hp)) .inl,(iB.same (M:=M) s).there⟩,fun b hb=>(List.mem_cons.mp hb).elim (fun z Sz=>rF b (aO _ Sz) z) (hB b),fun j d' ej=>?_,fun j d' ej=>?_,fun j d' ej=>?_,fun j k d' e' b e5 e6 e7 e8=>?_,fun b hb=>?_,fun b hb=>?_,by rw[aX,aX];exact h.len,⟨fun j c ej=>?_,fun j k c c' e5 e6=>(one e5).symm.trans (one e6)⟩⟩
 ·have nj:=ne (by intro c z;cases z) ej;rw[aj nj] at ej ⊢;obtain⟨v,e5,q5⟩:=h.sh j d' ej;exact⟨v,e5,q5.ext x⟩
 ·have nj:=ne (by intro c z;cases z) ej;rw[aj nj] at ej ⊢;obtain⟨b,Cj,e6,e7,e8,q5⟩:=h.ow j d' ej;exact⟨b,Cj,e6,s _ _ e7,aG _ e8,q5.ext x⟩
 ·have nj:=ne (by intro c z;simp[iP,nY] at z) ej;rw[aj nj] at ej ⊢;obtain⟨e6,Cj,e7,e8,e9,q5⟩:=h.le j d' ej;exact⟨e6,Cj,s _ _ e7,aG _ e8,fun z=>(List.mem_cons.mp z).elim (fun z=>rF _ e8 z) e9,q5.ext x⟩
 ·have nj:=ne (by intro c z;cases z) e5;have nk:=ne (by intro c z;cases z) e6;rw[aj nj] at e5 e7;rw[aj nk] at e6 e8;exact h.ap j k d' e' b e5 e6 e7 e8
 ·rcases mi hb with z|z
  ·subst z;exact⟨.inr _,cN⟩
  ·obtain⟨u,e⟩:=h.tr b z;exact⟨u,s _ _ e⟩
 ·rcases List.mem_cons.mp hb with z|z
  ·subst z;exact aV _ aP
  ·exact aV _ (aG _ z)
 ·have hj:=one ej;subst hj;rw[aA hi] at ej;have e5:PyData.dict []=c:=by
   have:=Option.some.inj (Option.some.inj ej);simpa [nY] using this
  subst e5;refine .inr ⟨_,rfl,p,es,aA xS,cN,aP,by rw[he];exact .nil,fun k ys c z1 z2 z3=>?_⟩;have nk:=ne (by intro c z;cases z) z1;rw[aj nk] at z1 z2;obtain⟨b,Cj,e6,e7,e8,q5⟩:=h.ow k ys z1;rw[z2] at e6;cases e6;exact rF _ (aV _ e8) z3
theorem ER.w8 (i:Nat)(h:ER K H (M++B) M cK ρ σ)(hB:∀c∈M,c∉B):∃M',(∀a∈M',a∈M)/\ER K H (M'++B) M' cK (qF i ρ) σ:=by
 unfold qF;split
 ·rename_i kvs hr;have hi:i<ρ.length:=(List.getElem?_eq_some_iff.mp hr).1;obtain⟨a,es,e1,e2,e3,q,ap⟩:=h.dp.dc i kvs hr;have sub:∀b∈M.filter (fun b=>decide (b≠a))++B,b∈M++B:=fun b hb=>(List.mem_append.mp hb).elim (fun z=>aV _ (List.mem_filter.mp z).1) fun z=>aO _ z;have out:∀{j:Nat}{x:Vl},x.2=true->(ρ.set i (some (.dict kvs,false)))[j]?=some (some x)->i≠j:=fun {j x} hx ej z=>by subst z;rw[aA hi] at ej;cases ej;cases hx
  refine⟨M.filter (fun b=>decide (b≠a)),fun b hb=>(List.mem_filter.mp hb).1,fun j d' ej=>?_,fun j d' ej=>?_,fun j d' ej=>?_,fun j k d' e' b e5 e6 e7 e8=>?_,fun b hb=>h.tr b (sub b hb),fun b hb=>aV _ hb,by rw[aX];exact h.len,⟨fun j c ej=>?_,fun j k c c' e5 e6=>?_⟩⟩
  ·by_cases hj:i=j
   ·subst hj;rw[aA hi] at ej;cases ej;refine⟨_,e1,.dict e2 (fun z=>?_) (q.ext (.less sub))⟩;rcases List.mem_append.mp z with z|z
    ·exact absurd rfl (of_decide_eq_true (List.mem_filter.mp z).2)
    ·exact hB a e3 z
   ·rw[aj hj] at ej;obtain⟨v,e5,q5⟩:=h.sh j d' ej;exact⟨v,e5,q5.ext (.less sub)⟩
  ·have hj:=out rfl ej;rw[aj hj] at ej;obtain⟨b,us,e6,e7,e8,q5⟩:=h.ow j d' ej;exact⟨b,us,e6,e7,List.mem_filter.mpr ⟨e8,decide_eq_true (ap j d' b ej e6)⟩,q5.ext (.less sub)⟩
  ·have hj:=out rfl ej;rw[aj hj] at ej;obtain⟨e6,us,e7,e8,e9,q5⟩:=h.le j d' ej;refine⟨e6,us,e7,?_,fun z=>e9 (List.mem_filter.mp z).1,q5.ext (.less sub)⟩;exact (List.mem_append.mp e8).elim (fun z=>absurd z e9) fun z=>aO _ z
  ·have nj:=out rfl e5;have nk:=out rfl e6;rw[aj nj] at e5;rw[aj nk] at e6;exact h.ap j k d' e' b e5 e6 e7 e8
  ·have nj:=out rfl ej;rw[aj nj] at ej;exact absurd (h.dp.one i j (.dict kvs) c hr ej) nj
  ·have nj:=out rfl e5;rw[aj nj] at e5;exact absurd (h.dp.one i j (.dict kvs) c hr e5) nj
 ·exact⟨M,fun _ h=>h,h⟩
end
theorem SR.w8 {K:Fg}{B:List Addr}{cM:Hp}{cT:List Addr}{cK:Nat->Addr}{ρ:Sl}{σ:St}{H:Hp}(i:Nat)(h:SR K B cM cT cK ρ σ H):SR K B cM cT cK (qF i ρ) σ H:=by
 obtain⟨M,hx,hB,hE⟩:=h;obtain⟨M',sub,E'⟩:=hE.w8 i hB;exact⟨M',⟨hx.keep,hx.tup,hx.frz,fun b hb=>hx.new b (sub b hb),hx.there⟩,fun a ha=>hB a (sub a ha),E'⟩
section
variable {X:Cx}{e ek ev:Expr}{f ke vx:ED}{pos p1 p2 py:Pos}{i:Nat}{x:Str}{st:Stmt}{F:SD}{FJ:List Stmt}
theorem qX (i:Nat)(h:DS X st F):DS X st (kU i F):=fun B cM cT cK=>(h B cM cT cK).imp fun E σ H ⟨ρ,fl,hR,hf,k⟩=>⟨_,fl,hR.w8 i,hf,k⟩
noncomputable def LB:TE:=fun _ H Q=>∀p es,H p=none->es.2=[]->Q (.ref p) (eF H p (lT p es))
theorem Ga:PE X (.Dict [] [] pos) LB:=fun pins s σ H Q I h=>by
 have no:L2.ObjOk X.prog X.w (eF H s.heap.objs.size (lT s.heap.objs.size ({ cls:=.type "dict", data:=.dict #[] },[]))) (s.heap.push { cls:=.type "dict", data:=.dict #[] }) s.heap.objs.size (lT s.heap.objs.size ({ cls:=.type "dict", data:=.dict #[] },[])) :=
  Hz (es:=({ cls:=.type "dict", data:=.dict #[] },[])) ⟨bB _,beq_eq_false_iff_ne.mpr (Ne.symm (aN (Nat.lt_trans (by decide) (I.mod.glob.keeps I.bk).lt))),az _ rfl,[],.nil,#[],0,⟨rfl,rfl,rfl⟩,rfl,rfl,WZ⟩
 exact wpAny_Dict_empty ⟨.ref s.heap.objs.size,_,I.laid (a:=s.heap.objs.size) (t':=s.toks) (fun _ _ q=>af _ q) (aE _) no,rfl,h _ _ (I.fT.fresh (aE _)) rfl⟩
theorem uq (hN:X.N.Nodup)(hi:X.N[i]?=some x:=by rfl)(hx:L2.Loc X.env.scope x:=by first|exact Or.inl rfl|exact Or.inr rfl)(hs:swapsWith (.Dict [] [] p1) (some (.Name x py)) pos.line X.env=pure false:=by rfl)
  (hf:X.fn x=true\/X.env.scope.names.lookup x=some .local:=by first|exact .inl rfl|exact .inr rfl|assumption):DS X (.Assign [.Name x py] (.Dict [] [] p1) pos) (lC i):=fun B cM cT cK=>(L2.ps_set hN hi hx Ga hs hf).imp fun E σ H zz=>by
 obtain ⟨ρ,fl,⟨M,hx,hB,hE⟩,hf,k⟩:=zz;unfold lC at hf;split at hf
 ·rename_i c;cases hf;intro p es hp he;obtain⟨y1,y2,y3⟩:=hE.OG hB hp c.1 c.2 es he;exact k _ _ ⟨_,hx.trans y1,y2,y3⟩
 ·cases hf
theorem nv (hu:X.A.units+200<cLine)(hk:DE X ek ke)(he:DE X ev vx)(hN:X.N[i]?=some x:=by rfl)(hv:L2.Vis X.env.scope x:=by first|exact Or.inl rfl|exact Or.inr (Or.inl rfl)|exact Or.inr (Or.inr rfl))(hd:(x==("__debug__" : Str))=false:=by decide)
  (n5:(x==("__classdict__" : Str))=false:=by decide)
  (ha:∀v,assign (.Subscript (.Name x p1) ek p2) X.env v=(do
   let ov <-holding [v] (eval (.Name x p1) X.env)
   let iv <-holding [v,ov] (eval ek X.env)
   standAt p2
   holding [v,ov,iv] (setItem ov iv v)
   release [v,ov,iv] []):=by intro _;rfl)
  (hs:swapsWithSole [.Subscript (.Name x p1) ek p2] ev pos.line X.env=pure false:=by rfl) (hw:swappedStores [.Subscript (.Name x p1) ek p2] ev X.env=pure none:=by rfl)
  (h1:(assignEach [.Subscript (.Name x p1) ek p2] X.env).map (·.2)=[assign (.Subscript (.Name x p1) ek p2) X.env]:=by rfl) :
  DS X (.Assign [.Subscript (.Name x p1) ek p2] ev pos) (kr i ke vx):=fun B cM cT cK =>
 (L2.ps_asg he (L2.pg_sub (L2.pe_var hN hv hd n5) hk (IS hu) ha) hs hw h1).imp fun E σ H zz=>by
  obtain ⟨ρ,fl,⟨M,hx,hB,hE⟩,hf,k⟩:=zz;have TF:∀{Hx:Hp},∀a∈([]:List Addr),Hx a≠none:=fun a ha=>nomatch ha;unfold kr at hf;obtain⟨kvs,RV,hf⟩:=Option.bind_eq_some_iff.mp hf;obtain⟨r,hr,hf⟩:=Option.bind_eq_some_iff.mp hf;obtain⟨d,ho,hf⟩:=Option.bind_eq_some_iff.mp hf;obtain⟨z,hz,hf⟩:=Option.bind_eq_some_iff.mp hf;obtain⟨y,hy,hf⟩:=Option.bind_eq_some_iff.mp hf;split at hf
  ·rename_i c;cases hf;rw[Bool.and_eq_true] at c;have TY:=Bx RV;obtain⟨a,es,e1,e2,e3,q,ap⟩:=hE.dp.dc i kvs TY;obtain⟨er,lf⟩:=v9 ho;obtain⟨ey,ly⟩:=v9 hy;subst er ey;refine⟨unown ρ,[],[],cK,_,hE.unown,hr,fun v H1 s1 q1=>⟨.ref a,e1,unown ρ,[],[],cK,_,hE.unown.same s1,hz,fun u H2 s2 q2=>?_⟩⟩;have S:cY H H2:=s1.trans s2;have rk:R X.K H2 (M++B) y u:=(q2.toR TF).lf ly;have rv:R X.K H2 (M++B) d v:=((q1.toR TF).lf lf).same s2;have rd:=q.same S;refine⟨a,es,kvs,M++B,y,rfl,S _ _ e2,by rw[<-rd.length];exact c.2,rd,c.1.1,c.1.2,rk,fun ob=>?_⟩;obtain⟨sx,E5⟩:=(hE.same S).OL (es':=(ob,qK es.2 y u v)) TY e1 (S _ _ e2) e3 ap (rd.put rk rv);exact k _ _ ⟨M,(hx.trans (.same S)).trans sx,hB,E5⟩
  ·cases hf
end
open PySem
def RT (t:SetTable):Prop:=t.place.toList.Pairwise (·<·)
theorem RT.at_ {xs:Array Nat}(h:xs.toList.Pairwise (·<·)){i j x y:Nat}(VE:i<j)(hi:xs[i]?=some x)(hj:xs[j]?=some y):x<y:=by
 obtain⟨a,ea⟩:=Array.getElem?_eq_some_iff.mp hi;obtain⟨b,eb⟩:=Array.getElem?_eq_some_iff.mp hj;have:=List.pairwise_iff_getElem.mp h i j (by simpa using a) (by simpa using b) VE;simp only[Array.getElem_toList] at this;rw[ea,eb] at this;exact this
theorem uV {xs:Array Nat}(h:xs.toList.Pairwise (·<·)){j:Nat}:∀(fuel lo hi:Nat),lo<=hi->hi<=xs.size->hi-lo<=fuel->(∀i x,i<lo->xs[i]?=some x->x<j)->(∀i x,hi<=i->xs[i]?=some x->j<=x) →
  SetTable.below.go xs j fuel lo hi<=xs.size/\(∀i x,i<SetTable.below.go xs j fuel lo hi->xs[i]?=some x->x<j)/\∀i x,SetTable.below.go xs j fuel lo hi<=i->xs[i]?=some x->j<=x
 | 0,lo,hi,h1,h2,h3,h4,h5=>by
  have:lo=hi:=by omega
  subst this;unfold SetTable.below.go;exact⟨h2,h4,h5⟩
 | fuel+1,lo,hi,h1,h2,h3,h4,h5=>by
  unfold SetTable.below.go;by_cases c:lo<hi
  ·rw[if_pos c];dsimp only;have hm:(lo+hi)/2<xs.size:=by omega
   have em:xs[(lo+hi)/2]?=some xs[(lo+hi)/2]:=aS hm;have eg:xs.getD ((lo+hi)/2) j=xs[(lo+hi)/2]:=by simp[Array.getD,hm]
   rw[eg];split
   ·rename_i l;refine uV h fuel _ hi ⋯ h2 ⋯ (fun i x xS e=>?_) h5;by_cases z:i=(lo+hi)/2
    ·subst z;rw[em] at e;cases e;exact l
    ·have:=RT.at_ h (show i<(lo+hi)/2 by omega) e em;omega
   ·rename_i l;refine uV h fuel lo _ ⋯ ⋯ ⋯ h4 fun i x xS e=>?_;by_cases z:i=(lo+hi)/2
    ·subst z;rw[em] at e;cases e;omega
    ·have:=RT.at_ h (show (lo+hi)/2<i by omega) em e;omega
  ·rw[if_neg c];have:lo=hi:=by omega
   subst this;exact⟨h2,h4,h5⟩
theorem uU {xs:Array Nat}(h:xs.toList.Pairwise (·<·))(j:Nat):SetTable.below xs j<=xs.size/\(∀i x,i<SetTable.below xs j->xs[i]?=some x->x<j)/\∀i x,SetTable.below xs j<=i->xs[i]?=some x->j<=x :=
 uV h xs.size 0 xs.size (bB _) (aE _) ⋯ (fun i x hi=>by omega) fun i x hi e=>by
  have:=(Array.getElem?_eq_some_iff.mp e).1;omega
theorem Ez {xs:Array Nat}(h:xs.toList.Pairwise (·<·)){j:Nat}(n:xs[SetTable.below xs j]?≠some j):(SetTable.insertAt xs (SetTable.below xs j) j).toList.Pairwise (·<·):=by
 obtain⟨b1,b2,b3⟩:=uU h j;have lo:∀x∈(xs.extract 0 (SetTable.below xs j)).toList,x<j:=fun x hx=>by
  obtain⟨i,hi,e⟩:=List.getElem_of_mem hx;have xS:i<SetTable.below xs j:=by simp at hi;omega
  have:xs[i]?=some x:=by
   rw[<-e];simp at hi ⊢
  exact b2 i x xS this
 have hi:∀x∈(xs.extract (SetTable.below xs j) xs.size).toList,j<x:=fun x hx=>by
  obtain⟨i,hi,e⟩:=List.getElem_of_mem hx;have hs:SetTable.below xs j+i<xs.size:=by simp at hi;omega
  have:xs[SetTable.below xs j+i]?=some x:=by
   rw[<-e,aS hs];simp[Array.getElem_extract]
  have le:=b3 _ x ⋯ this;rcases bW j x with z|z
  ·exact z
  ·have ex:x=j:=by omega
   subst ex;by_cases i0:i=0
   ·subst i0;exact absurd this n
   ·have h0:SetTable.below xs x<xs.size:=by omega
    have l0:=RT.at_ h (show SetTable.below xs x<SetTable.below xs x+i by omega) (aS h0) this;have:=b3 _ _ (aE _) (aS h0);omega
 unfold SetTable.insertAt;rw[Array.toList_append,Array.toList_push,bg];refine List.pairwise_append.mpr ⟨?_,List.pairwise_append.mpr ⟨List.pairwise_singleton _ _,?_,?_⟩,?_⟩
 ·rw[Array.toList_extract];exact h.sublist (List.Sublist.trans (List.take_sublist _ _) (List.drop_sublist _ _))
 ·rw[Array.toList_extract];exact h.sublist (List.Sublist.trans (List.take_sublist _ _) (List.drop_sublist _ _))
 ·intro x hx y hy;rw[List.mem_singleton.mp hx];exact hi y hy
 ·intro x hx y hy;rcases List.mem_append.mp hy with z|z
  ·rw[List.mem_singleton.mp z];exact lo x hx
  ·exact Nat.lt_trans (lo x hx) (hi y z)
theorem LJ {t:SetTable}{j:Nat}(h:RT t)(hd:t.dummies=#[])(n:t.slot j=.empty):RT (t.put j).1/\(t.put j).1.dummies=#[]/\(t.put j).1.led=t.led:=by
 refine⟨Ez h fun z=>?_,?_,rfl⟩
 ·unfold SetTable.slot at n;simp[z] at n
 ·show (if SetTable.has t.dummies j=true then _ else t.dummies)=_;rw[hd];simp[SetTable.has]
theorem rC {t:SetTable}{hashAt:Nat->Int}{h:Int}(hd:t.dummies=#[]):∀(fuel:Nat) (p:SetTable.Probe) (j:Nat) (dm:Option Nat),p.dummy=none->SetTable.probe.go t hashAt h fuel p=some (.empty j dm)->t.slot j=.empty/\dm=none
 |0,p,j,dm,_,e=>by cases e
 | fuel+1,p,j,dm,hp,e=>by
  unfold SetTable.probe.go at e;split at e
  ·rename_i s;simp only[Option.some.injEq,SetTable.Met.empty.injEq] at e;obtain⟨rfl,rfl⟩:=e;exact⟨s,hp⟩
  ·rename_i s;unfold SetTable.slot at s;rw[hd] at s;simp[SetTable.has] at s;split at s <;> cases s
  ·split at e
   ·cases e
   ·refine rC hd fuel _ j dm ?_ e;unfold SetTable.advance;split
    ·exact hp
    ·exact hp
structure yj (t:SetTable)(led:Bool):Prop where
 rt:RT t
 dm:t.dummies=#[]
 ld:t.led=led
theorem yj.standIn {t:SetTable}{led:Bool}(h:yj t led)(n:Nat):yj (t.standIn n) led:=⟨by
 show (Array.range n).toList.Pairwise _;rw[Array.toList_range];exact List.pairwise_lt_range,rfl,h.ld⟩
theorem yj.plain {t:SetTable}{led b:Bool}(h:yj t led):yj { t with plain:=b } led:=⟨h.rt,h.dm,h.ld⟩
theorem yj.orStandIn {t:SetTable}{led:Bool}(h:yj t led)(n:Nat):yj (t.orStandIn n) led:=by
 unfold SetTable.orStandIn;split
 ·exact h
 ·exact h.standIn n
theorem yj.layNew {t:SetTable}{led:Bool}(h:yj t led)(es:Array (Int×Value))(k:Int)(x:Value):yj (layNew t es k x).2.1 led:=by
 unfold PySem.layNew;split
 ·rename_i slot was e;unfold SetTable.freeSlot at e;split at e
  ·rename_i j dm pe;simp only[Option.some.injEq,Prod.mk.injEq] at e;obtain⟨e1,_⟩:=e;obtain⟨q1,q2⟩:=rC h.dm _ _ j dm (by rfl) (show SetTable.probe.go t _ k _ _=_ from pe);subst q2;have MA:j=slot:=e1;subst MA;obtain⟨r1,r2,r3⟩:=LJ h.rt h.dm q1;exact yj.orStandIn ⟨r1,r2,r3.trans h.ld⟩ _
  ·cases e
 ·exact h.standIn _
theorem yj.relayAll {t:SetTable}{led:Bool}(h:yj t led)(es:Array (Int×Value))(wanted:Nat):yj (relayAll t es wanted).2.1 led:=by
 unfold PySem.relayAll;split
 ·rename_i t' order e;dsimp only;split
  ·unfold SetTable.relaid SetTable.laid at e;cases ho:SetTable.layClean (SetTable.sizeAbove wanted-1) (es.map (·.1)) with
   |none=>rw[ho] at e;cases e
   |some owner =>
    rw[ho] at e;simp only[Option.bind_eq_bind,ae,Option.pure_def,Option.some.injEq,Prod.mk.injEq] at e;obtain⟨e1,_⟩:=e;subst e1;refine⟨?_,rfl,h.ld⟩;show List.Pairwise _ _;have:∀(l:List Nat),l.Pairwise (·<·)->((l.filterMap fun j=>(owner.getD j none).map fun x=>(j,x)).map (·.1)).Pairwise (·<·):=fun l=>by
     induction l with
     |nil=>intro _;exact List.Pairwise.nil
     |cons a l ih =>
      intro hp;obtain⟨p1,p2⟩:=List.pairwise_cons.mp hp;rw[Xq];split
      ·exact ih p2
      ·rename_i b hb;rw[aC];refine List.pairwise_cons.mpr ⟨fun y hy=>?_,ih p2⟩;obtain⟨q,hq,rfl⟩:=List.mem_map.mp hy;obtain⟨c,hc,e⟩:=List.mem_filterMap.mp hq;have h1:b.1=a:=by
        cases z:owner.getD a none with
        |none=>rw[z] at hb;cases hb
        |some v=>rw[z] at hb;cases hb;rfl
       have h2:q.1=c:=by
        cases z:owner.getD c none with
        |none=>rw[z] at e;cases e
        |some v=>rw[z] at e;cases e;rfl
       rw[h1,h2];exact p1 c hc
    simpa using this _ List.pairwise_lt_range
  ·exact h.standIn _
 ·exact h.standIn _
open PySem PyProof.Rows
noncomputable def JF (e:Int×Value):Int:=match e.2 with
 |.int k _=>k
 |_=>0
noncomputable def nF (σ:List Int)(k:Int):List Int:=if k∈σ then σ else σ++[k]
structure lH (P:Program)(w:World)(led:Bool)(σ:List Int)(o:Obj)(es:Array (Int×Value))(ep:Nat)(t:SetTable):Prop where
 ex:o.ExactSet
 dat:o.data=.set es ep t
 el:ElemsOf (intKind P w) es.toList
 pm:(es.toList.map JF).Perm σ
 bd:es.size<scanBound
 ft:t.fits es.size=true
 tb:yj t led
def qw (P:Program)(w:World)(h:Heap)(a:Addr)(led:Bool)(σ:List Int):Prop:=∃o es ep t,h.get? a=some o/\lH P w led σ o es ep t
theorem GQ {P:Program}{w:World}{l:List (Int×Value)}(h:ElemsOf (intKind P w) l){e:Int×Value}(he:e∈l)(k:Int):(intKind P w).is k e.2=true<->JF e=k:=by
 obtain⟨⟨k',hk,_⟩,_⟩:=h e he;obtain⟨t,ht⟩:=Value.isInt_shape (show Value.isInt k' e.2=true from hk);have e1:JF e=k':=by unfold JF;rw[ht]
 constructor
 ·intro q;obtain⟨t',TX⟩:=Value.isInt_shape (show Value.isInt k e.2=true from q);rw[ht] at TX;cases TX;exact e1
 ·intro q;rw[<-q,e1];exact hk
theorem lH.size {P:Program}{w:World}{led:Bool}{σ:List Int}{o:Obj}{es:Array (Int×Value)}{ep:Nat}{t:SetTable}(v:lH P w led σ o es ep t):es.size=σ.length:=by
 have:=v.pm.length_eq;rw[ai,aT] at this;exact this
section
variable {prog:Program}{w:World}{A:Around}{E:Value->Shared->Prop}{s:Shared}
theorem CC {h:Heap}{a:Addr}{o:Obj}{es:Array (Int×Value)}{ep:Nat}{t:SetTable}(ho:h.get? a=some o)(hex:o.ExactSet)(hd:o.data=.set es ep t){led:Bool}{σ:List Int}{es':Array (Int×Value)}{t':SetTable}(VL:ElemsOf (intKind prog w) es'.toList)(pm:(es'.toList.map JF).Perm σ)(hb:es'.size<scanBound)(hf:t'.fits es'.size=true)(tb:yj t' led) :
  (h.update a (Obj.putSet es' t')).get? a=some { o with data:=.set es' (ep+1) t' }/\lH prog w led σ { o with data:=.set es' (ep+1) t' } es' (ep+1) t':=by
 have hg:=bA (Obj.putSet es' t') ho (by rw[putSet_of es' t' hd];rfl);rw[putSet_of es' t' hd] at hg;exact⟨hg,hex,rfl,VL,pm,hb,hf,tb⟩
theorem Aa {g:Bool->Sem Unit}(hg:∀(b:Bool) (dO:Shared) (Q':Unit->Shared->Prop),Q' () dO->wpAny (model prog w) A (g b) Q' E dO){a:Addr}{o:Obj}{es:Array (Int×Value)}{ep:Nat}{t:SetTable}(ho:s.heap.get? a=some o)(hex:o.ExactSet)(hd:o.data=.set es ep t)
  {qV:Array (Int×Value)}{t2:SetTable}{led:Bool}{σ:List Int} (G4:ElemsOf (intKind prog w) qV.toList) (pm:(qV.toList.map JF).Perm σ) (Ig:qV.size<scanBound) (So:t2.fits qV.size=true) (tb:yj t2 led) {yD:Bool}{R:Option Bool->Shared->Prop}
  (h:∀h',Heap.SameBut a s.heap h'->qw prog w h' a led σ->R (some true) { s with heap:=h' }) :
  wpAny (model prog w) A (do
   storeSet a qV t2
   if (!yD&&t2.tooFull)=true then do
     g (relayAll t2 qV (SetTable.grown qV.size)).2.2
     storeSet a (relayAll t2 qV (SetTable.grown qV.size)).1 (relayAll t2 qV (SetTable.grown qV.size)).2.1
     pure (some true)
    else pure (some true)) R E s:=by
 refine aa (wpAny_storeSet_of ho hd ?_ (fits_of_scanBound Ig));obtain⟨Al,v1⟩:=CC (prog:=prog) (w:=w) ho hex hd G4 pm Ig So tb;have Ts:=Heap.SameBut.update s.heap a (Obj.putSet qV t2);split
 ·have hp:=relayAll_perm t2 qV (SetTable.grown qV.size);have Sn:=relayAll_fits t2 qV (SetTable.grown qV.size);have QS:=tb.relayAll qV (SetTable.grown qV.size);generalize relayAll t2 qV (SetTable.grown qV.size)=Rl at hp Sn QS ⊢;obtain⟨Ww,t3,Uj⟩:=Rl;dsimp only at hp Sn QS ⊢;have pT:Ww.size=qV.size:=by rw[<-aT,hp.length_eq,aT]
  refine aa (hg _ _ _ (aa (wpAny_storeSet_of Al rfl ?_ (fits_of_scanBound (by rw[pT];exact Ig)))));obtain⟨G0,v2⟩:=CC (prog:=prog) (w:=w) (t':=t3) Al hex rfl (G4.perm hp) ((hp.map JF).trans pm) (by rw[pT];exact Ig) Sn QS;exact ah (h _ (Ts.trans (Heap.SameBut.update _ a _)) ⟨_,_,_,_,G0,v2⟩)
 ·exact ah (h _ Ts ⟨_,_,_,_,Al,v1⟩)
theorem IT {a:Addr}{led:Bool}{σ:List Int}{k:Int}{tk:Tok}{Q:Bool->Shared->Prop}(hS:qw prog w s.heap a led σ)(O0:σ.length+1<scanBound)(h:∀(b:Bool) (h':Heap),Heap.SameBut a s.heap h'->qw prog w h' a led (nF σ k)->Q b { s with heap:=h' }) :
  wpAny (model prog w) A (setAddHashed a (.int k tk) (hashInt k)) Q E s:=by
 obtain⟨o,es,ep,t,ho,v⟩:=hS;have hk:(intKind prog w).is k (.int k tk)=true:=intKind_is _ _ _ _;have hn:=v.size;have Ig:es.size+1<scanBound:=by omega
 unfold setAddHashed setAddHashedIn;refine bx (aa (wpAny_setState_of ho v.dat v.ft ?_));dsimp only;rw[byScan_of (knd:=intKind prog w) (show (Value.int k tk).scannable=true from rfl) v.bd v.el];simp only[↓reduceIte];unfold setAddByScan;refine aa (aa (wpAny_rule (aa (wpAny_setScan_of (knd:=intKind prog w) (k:=k) hk ho v.dat v.ft v.el ?_))));cases hr:List.findIdx? (fun e=>(intKind prog w).is k e.2) es.toList with
 |some j =>
  dsimp only;obtain⟨hj,Vo,_⟩:=List.findIdx?_eq_some_iff_getElem.mp hr;have hm:k∈σ:=v.pm.mem_iff.mp (List.mem_map.mpr ⟨_,bY hj,(GQ v.el (bY hj) k).mp Vo⟩);have:=h false s.heap (Heap.SameBut.refl a s.heap) ⟨o,es,ep,t,ho,by unfold nF;rw[if_pos hm];exact v⟩;refine ah (ah ?_);have e:s={ s with heap:=s.heap }:=by cases s;rfl
  rw[e];exact this
 |none =>
  dsimp only;have hm:k∉σ:=fun z=>by
   obtain⟨e,he,q⟩:=List.mem_map.mp (v.pm.mem_iff.mpr z);have:=List.findIdx?_eq_none_iff.mp hr e he;rw[(GQ v.el he k).mpr q] at this;cases this
  have VF:∀(b:Bool) {dO:Shared}{Q':Unit->Shared->Prop},Q' () dO->wpAny (model prog w) A (match b with|true=>rule "set.scan.the-table-gave-way" | false=>pure ()) Q' E dO:=fun b dO Q' hq=>by cases b <;> first|exact ah hq|exact wpAny_rule hq
  have wg:=layNew_perm t es (hashInt k) (.int k tk);have zK:=layNew_fits t es (hashInt k) (.int k tk);have NV:=v.tb.layNew es (hashInt k) (.int k tk);generalize layNew t es (hashInt k) (.int k tk)=L at wg zK NV ⊢;obtain⟨qV,t1,yD,Wo⟩:=L;dsimp only at wg zK NV ⊢;rw[Array.toList_push] at wg;have G4:ElemsOf (intKind prog w) qV.toList:=(v.el.push hk rfl).perm wg;have Tw:(qV.toList.map JF).Perm (nF σ k):=by
   unfold nF;rw[if_neg hm];refine (wg.map JF).trans ?_;rw[aU];exact v.pm.append_right _
  have KW:qV.size<scanBound:=by rw[<-aT,wg.length_eq,aw,aT];simpa using Ig
  refine aa (VF _ ?_);split
  ·refine aa ?_;rw[hashByValue_scannable 8 (show (Value.int k tk).scannable=true from rfl)];refine ah (Aa ?_ ho v.ex v.dat G4 Tw KW ?_ (led:=led) ?_ ?_)
   ·intro b dO Q' hq;cases b <;> first|exact ah hq|exact wpAny_rule hq
   ·split
    ·exact zK
    ·exact SetTable.fits_plain_off zK
   ·split
    ·exact NV
    ·exact NV.plain
   ·intro h' Ia ua;dsimp only;exact ah (h true h' Ia ua)
  ·refine aa (ah ?_);simp only[↓reduceIte];refine Aa ?_ ho v.ex v.dat G4 Tw KW zK NV ?_
   ·intro b dO Q' hq;cases b <;> first|exact ah hq|exact wpAny_rule hq
   ·intro h' Ia ua;dsimp only;exact ah (h true h' Ia ua)
end
end DL
set_option maxHeartbeats 3200000
namespace DL
open PySem PyProof.Rows
noncomputable def m4 (val:Nat->Int)(i:Nat):List Int:=((ao i).map val).foldl nF []
theorem wd (val:Nat->Int)(i:Nat):m4 val (i+1)=nF (m4 val i) (val i):=by
 unfold m4;rw[W8,aU,List.foldl_append];rfl
theorem HV (σ:List Int)(k:Int):(nF σ k).length<=σ.length+1:=by
 unfold nF;split
 ·omega
 ·rw[aw];simp
theorem zu (val:Nat->Int):∀i,(m4 val i).length<=i
 |0=>aE _
 |i+1=>by rw[wd];have:=HV (m4 val i) (val i);have:=zu val i;omega
theorem qw.keep {P:Program}{w:World}{h h':Heap}{a:Addr}{led:Bool}{σ:List Int}(x:qw P w h a led σ)(k:∀o,h.get? a=some o->h'.get? a=some o):qw P w h' a led σ:=by
 obtain⟨o,es,ep,t,ho,v⟩:=x;exact⟨o,es,ep,t,k o ho,v⟩
section
variable {prog:Program}{w:World}{A:Around}{R:Result->Shared->Prop}{I:Addr}{fp wr:List Addr}{G:Array GenState->Array GenState->Prop}{n:Nat}{P:Nat->Value->Prop}{St:Nat->Shared->Prop}{led:Bool}
theorem yM (W:WalksS prog w A.in1 I fp wr G n P St)(S:Addr)(JW:S∉fp)(val:Nat->Int)(GX:∀i v,P i v->∃t,v=.int (val i) t)(hb:n+1<scanBound):∀(k i:Nat) (s:Shared),n-i=k->i<=n->St i s->qw prog w s.heap S led (m4 val i) →
  (∀s',Moved (S::wr) G s s'->qw prog w s'.heap S led (m4 val n)->R (.ok (.ret .none)) s')->codeAny (model prog w) A (.builtin "set.update.loop" ⟨[.ref S,.ref I],[]⟩) R s:=by
 have T9:S∉wr:=fun h=>JW (W.sub _ h);have xN:∀b∈wr,b∈S::wr:=fun b hb=>aG _ hb;intro k;induction k with
 |zero =>
  intro i s hk hi GY hS hR;have VC:i=n:=by omega
  subst VC;refine codeAny_builtin F.entry_set_update_loop ?_;rw[Around.under_plainId F.plain_set_update_loop _];show wpAny _ A.in1 (pyNext (.ref I)>>=_) _ _ s;refine aa (W.done s _ _ GY fun s' hm=>?_);show wpAny _ A.in1 (ret Value.none) _ _ s';exact ah (hR s' (hm.mono xN) (hS.keep fun o ho=>hm.heap S _ T9 ho))
 |succ k ih =>
  intro i s hk hi GY hS hR;have kX:i<n:=by omega
  refine codeAny_builtin F.entry_set_update_loop ?_;rw[Around.under_plainId F.plain_set_update_loop _];show wpAny _ A.in1 (pyNext (.ref I)>>=_) _ _ s;refine aa (W.item i s _ _ kX GY fun v s' hP RP hm=>?_);obtain⟨t,rfl⟩:=GX i v hP;have ua:=hS.keep (h':=s'.heap) fun o ho=>hm.heap S _ T9 ho;show wpAny _ A.in1 (holding [Value.int (val i) t] (setAdd S (.int (val i) t))>>=_) _ _ s';refine aa (bx ?_);unfold setAdd;refine bx (aa ((intKind prog w).pyHash (k:=val i) (intKind_is _ _ _ _) ?_));have O0:=zu val i;refine IT (s:={ s' with toks:=s'.toks+1 }) ua ⋯ fun _ h' Ia Uc=>?_;rw[<-wd] at Uc;refine ah ⟨plainId_quiet F.plain_set_update_loop _,ih (i+1) _ ⋯ kX (W.frame _ s' _ _ RP (bR _) fun b hb o e=>?_) Uc fun LG Sa SG=>?_⟩
  ·rw[Ia.2 b (fun h:b=S=>JW (by rw[<-h];exact hb))];exact e
  ·refine hR LG (Moved.trans W.gtrans ((hm.mono xN).then_heap (bR _) fun b o hb e=>?_) Sa) SG;rw[Ia.2 b (fun h:b=S=>hb (by rw[h];exact aP))];exact e
end
noncomputable def byT (w:World):Bool:=w.params.followText "set-order"
noncomputable abbrev lP (w:World):Obj:={ cls:=.type "set", dict:=none,data:=.set #[] 0 (.fresh 0 0 (!byT w)) }
section
variable {prog:Program}{w:World}{A:Around}{E:Value->Shared->Prop}{s:Shared}
theorem rR (a:Value){Q₁:Value->Shared->Prop}(h:Q₁ (.ref s.heap.objs.size) { s with heap:=s.heap.push (lP w) }):codeAny (model prog w) A (.call (.builtin "set.__new__") ⟨[.type "set", a],[]⟩) (wants Q₁ E) s:=by
 refine codeAny_of_tree ?_;show wpAny _ A.in1 (do checkBuiltinCall "set.__new__" ⟨[.type "set", a],[]⟩;again (.builtin "set.__new__" ⟨[.type "set", a],[]⟩)) _ _ s;refine aa (wpAny_of_eq (F.newCall_set_1 a) (ah ⟨plainId_quiet F.plain_set_new _,codeAny_builtin F.entry_set_new ?_⟩));rw[Around.under_plainId F.plain_set_new _];unfold Builtin.«set.__new__» Builtin.Frozenset.newClass;have xN:=sub_set_self;obtain⟨hp,g,d,tk,os⟩:=s;dsimp only
 wp_walk
 refine wpAny_askSetting (ah ?_);dsimp only;simp only[newObj];refine aa (wpAny_alloc (ah ?_));exact ah h
theorem C5:lH prog w (!byT w) [] (lP w) #[] 0 (.fresh 0 0 (!byT w)):=⟨⟨rfl,rfl,rfl⟩,rfl,fun e he=>by simp at he,List.Perm.nil,by decide,rfl,⟨List.Pairwise.nil,rfl,rfl⟩⟩
theorem EU {l:Addr}{items:Array Value}{ns:List Int}{Q:Value->Shared->Prop}(hh:A.handled=none)(hl:s.heap.IsList l items)(hi:IntsAre items.toList ns)(hb:items.size+1<scanBound)
  (h:∀(h':Heap) (tk:Nat),qw prog w h' s.heap.objs.size (!byT w) (m4 (fun i=>ns.getD i 0) items.size)->(∀b o,b<s.heap.objs.size->s.heap.get? b=some o->h'.get? b=some o)->Q (.ref s.heap.objs.size) { s with heap:=h',toks:=tk }) :
  wpAny (model prog w) A (call (.type "set") [.ref l]) Q E s:=by
 obtain⟨c,tl,R5⟩:=F.called_set.mro;have O6:=F.called_set.made;have xN:=F.called_set.sub;refine wpAny_call (codeAny_of_tree ?_);show wpAny _ _ (callAny (.type "set") _) _ _ _;refine ah ⟨Code.quiet_builtin _ (by decide +kernel),codeAny_builtin F.entry_type_call ?_⟩;rw[Around.under_plain (weight_type_call_type "set" [.ref l] []) rfl];have h1:=F.called_set.notType;have h2:=F.called_set.canCreate;have VP:=F.typeCall_set_1 (.ref l)
 repeat (any_goals (first|assumption|wp_step))
 refine codeAny_mono (rR (.ref l) (E:=E) (Q₁:=fun obj dO=>obj=.ref s.heap.objs.size/\dO={ s with heap:=s.heap.push (lP w) }) ⟨rfl,rfl⟩) fun r dO hr=>?_;cases r with
 |error e=>exact hr
 |ok fl =>
  cases fl with
  |ret obj =>
   obtain⟨rfl,rfl⟩:=hr;have hS:(s.heap.push (lP w)).get? s.heap.objs.size=some (lP w):=az _ rfl;have hT:Shared.TypeIs { s with heap:=s.heap.push (lP w) } (.ref s.heap.objs.size) "set" := ⟨_,hS,rfl⟩;have Vw:=F.called_set.init.lookup;have VQ:=F.called_set.init.bind (.ref s.heap.objs.size)
   repeat (any_goals (first|assumption|wp_step))
   refine codeAny_mono (codeAny_call_builtin (R:=wants (fun r sW=>r=.none/\∃h' tk,sW={ s with heap:=h',toks:=tk }/\qw prog w h' s.heap.objs.size (!byT w) (m4 (fun i=>ns.getD i 0) items.size)/\(∀b o,b<s.heap.objs.size->s.heap.get? b=some o->h'.get? b=some o)) E) F.called_set.init.plain F.entry_set_init (check_set_init_1 hT ?_)) fun LH sW tV=>?_
   ·obtain⟨ol,O1,Bi,nl,Pm⟩:=hl;obtain⟨Rm,Gj,Oz,AO⟩:=ol;simp only at Bi Pm;subst Bi;subst Pm;have Mn:(s.heap.push (lP w)).get? l=some { cls:=.type "list", dict:=Gj,data:=.seq items nl,slots:=AO }:=af _ O1;have RQ:=F.sub_list_set;have RS:=F.sub_list_frozenset;have og:(Value.type "list" == Value.type "dict")=false:=by decide
    have Pb:(s.heap.push (lP w)).IsList l items:=⟨_,Mn,rfl,nl,rfl⟩;unfold Builtin.«set.__init__» noKeywords Builtin.Frozenset.updateFrom;generalize SH:pyIter=PI
    wp_walk
    subst SH;refine wpAny_pyIter_list Pb (aa (wpAny_runValue ?_));have Pa:l<s.heap.objs.size:=aD O1;have Si:A.in1.in1.in1.handled=none:=by simp[hh]
    have Mp:l≠(s.heap.push (lP w)).objs.size:=by rw[bf];exact aN (bE Pa)
    have JW:s.heap.objs.size∉[(s.heap.push (lP w)).objs.size,l]:=by
     rw[bf];simp only[bj,Xb,bC,or_false,not_or];exact⟨aN (bQ _),br Pa⟩
    have GX:∀(i:Nat) (v:Value),items[i]?=some v->∃t,v=.int ((fun i=>ns.getD i 0) i) t:=fun i v hv=>IntsAre.int_at hi i v (by rw[b4];exact hv);refine yM (led:=!byT w) ((Walks.list Si _ l Mp items).toS) s.heap.objs.size JW (fun i=>ns.getD i 0) GX hb (items.size-0) 0 _ ⋯ (bB _) ⟨⟨_,az _ rfl,rfl,rfl⟩,(Pb.push _)⟩ ?hS0 ?hR
    case hS0=>exact⟨lP w,_,_,_,af _ hS,C5⟩
    case hR =>
     intro s' hm ua;obtain⟨h',g',d',lK,Ou⟩:=s';have eg:g'=s.gens:=hm.gens;have ed:d'=s.drawn:=hm.drawn;have eo:Ou=s.os:=hm.os;subst eg;subst ed;subst eo;show wpAny _ _ _ _ _ _;refine ah ?_;show wpAny _ _ (ret Value.none) _ _ _;refine ah ⟨rfl,h',lK,rfl,ua,fun b o hb e=>?_⟩;exact hm.heap b o (by simp only[bj,Xb,bC,or_false,not_or];exact⟨aN hb,by rw[bf];exact aN (bE hb)⟩) (af _ (af _ e))
   ·cases LH with
    |error e=>exact tV
    |ok Hb =>
     cases Hb with
     |ret r =>
      obtain⟨rfl,h',tk,rfl,ua,wj⟩:=tV
      repeat (any_goals (first|assumption|wp_step))
      exact h _ _ ua wj
     |_=>exact tV.elim
  |_=>exact hr.elim
end
theorem v5:Manifest.owners.lookup (String.ofList ['r','o','t','a','r','e','t','i','_','t','e','s'].reverse)=some Manifest.sig_set_iterator:=by kernel_rfl
theorem dX:Slot "set_iterator" "__next__" "set_iterator.__next__" :=
 .of (owner := "set_iterator") (n := "__next__") (by rw[typeLookup_type,builtinLookup_eq_fast];kernel_rfl) (by decide +kernel) (by decide +kernel) (by decide +kernel) (by first|exact .inl (by decide +kernel)|exact .inr (by decide +kernel)) (by rw[isSubtype_type];kernel_rfl)
theorem jt:entryFor table "set_iterator.__next__" = some Builtin.«set_iterator.__next__»:=entryFor_of_tree (by kernel_rfl)
theorem j9 (a:Value):argsOk "set_iterator.__next__" ⟨[a],[]⟩:=by
 unfold argsOk;rw[signature?_of (id := "set_iterator.__next__") (n:=['_','_','t','x','e','n','_','_']) (o:=['r','o','t','a','r','e','t','i','_','t','e','s']) (by kernel_rfl) v5];kernel_rfl
theorem vA:entryFor table "set.__iter__" = some Builtin.«frozenset.__iter__»:=entryFor_alias (id' := "frozenset.__iter__") (by kernel_rfl) rfl (by decide +kernel) (by kernel_rfl)
theorem uh {α:Type}{xs:List α}{i:Nat}{x:α}(h:xs[i]?=some x):(x::xs.eraseIdx i).Perm xs:=by
 induction xs generalizing i with
 |nil=>simp at h
 |cons a xs ih =>
  cases i with
  |zero=>simp at h;subst h;exact .refl _
  |succ i=>exact (List.Perm.swap a x _).trans (.cons a (ih (by simpa using h)))
theorem ur {α:Type}{M:Model}{A:Around}{E:Value->Shared->Prop}:∀(n:Nat) (xs:List α) (s:Shared) (Q:List α->Shared->Prop),xs.length=n->(∀(ys:List α) (d':Drawn),ys.Perm xs->Q ys { s with drawn:=d' })->wpAny M A (drawOrder n xs) Q E s
 | 0,xs,s,Q,hl,h=>by
  have:xs=[]:=List.eq_nil_of_length_eq_zero hl;subst this;exact ah (h [] s.drawn .nil)
 | n+1,xs,s,Q,hl,h=>by
  cases xs with
  |nil=>simp at hl
  |cons a xs =>
   show wpAny M A (choose .order (a::xs).length>>=_) Q E s;refine aa ?_;intro Γ p hΓ;refine⟨by simp,?_⟩;have kX:M.w.draws .order (s.drawn.get .order)%(a::xs).length<(a::xs).length:=Nat.mod_lt _ (by simp);have key:wpAny M A (match (a::xs)[M.w.draws .order (s.drawn.get .order)%(a::xs).length]? with|some x=>do return x::(<-drawOrder n ((a::xs).eraseIdx (M.w.draws .order (s.drawn.get .order)%(a::xs).length)))|none=>unsupported "internal:drawOrder") Q E { s with drawn:=s.drawn.bump .order }:=by
    have ee:=aq kX;rw[ee];dsimp only;refine aa (ur n _ _ _ (by rw[List.length_eraseIdx_of_lt kX,hl];omega) fun ys d' hp=>ah (h _ d' ?_));exact (List.Perm.cons _ hp).trans (uh ee)
   exact key
theorem CG {α:Type}(next:Nat->Nat):∀(fuel k:Nat) (left:List α) (out:Array α),left.length=fuel->(pickOrder.go next fuel k left out).toList.Perm (out.toList++left)
 | 0,k,left,out,h=>by
  have:left=[]:=List.eq_nil_of_length_eq_zero h;subst this;rw[pickOrder.go,bw]
 | fuel+1,k,left,out,h=>by
  have kX:next k%left.length<left.length:=Nat.mod_lt _ ⋯
  have ee:=aq kX;rw[pickOrder.go,ee];dsimp only;refine (CG next fuel (k+1) _ _ (by rw[List.length_eraseIdx_of_lt kX,h];omega)).trans ?_;rw[Array.toList_push,bg];exact List.Perm.append_left _ (uh ee)
theorem qL {α:Type}(next:Nat->Nat)(xs:Array α):(pickOrder next xs).toList.Perm xs.toList:=by
 have:=CG next xs.size 0 xs.toList #[] (by simp)
 simpa [pickOrder] using this
def An (h:Heap)(it a:Addr)(first:Value)(i n ep:Nat):Prop:=∃o,h.get? it=some o/\o.cls=.type "set_iterator" ∧ o.data=.fields #[first,.int i 0,.ref a,.int n 0,.int ep 0]
theorem An.typeIs {s:Shared}{it a:Addr}{first:Value}{i n ep:Nat}(x:An s.heap it a first i n ep):s.TypeIs (.ref it) "set_iterator" := let ⟨o,ho,hc,_⟩:=x;⟨o,ho,hc⟩
section
variable {prog:Program}{w:World}{A:Around}{E:Value->Shared->Prop}{s:Shared}{a it:Addr}{o:Obj}{es:Array (Int×Value)}{ep i:Nat}{t:SetTable}{led:Bool}{σ:List Int}
theorem sI {Q:Bool->Shared->Prop}(h:Q (byT w) s):wpAny (model prog w) A setsByText Q E s:=by
 unfold setsByText;exact aa (wpAny_askSetting (ah h))
theorem vS {Q:Option (Value×Nat)->Shared->Prop}(ho:s.heap.get? a=some o)(v:lH prog w led σ o es ep t)(hb:byT w=false)(hl:led=true)(hd:t.plain=true\/es.size<=1){slot given:Nat}(h:Q (match es[SetTable.below t.place slot]?,t.place[SetTable.below t.place slot]? with|some (_,x),some j=>some (x,j+1)|_,_=>none) s) :
  wpAny (model prog w) A (setNext a slot given ep) Q E s:=by
 unfold setNext;refine aa (wpAny_setState_of ho v.dat v.ft ?_);dsimp only;refine aa (sI ?_);rw[hb];simp only[Bool.false_eq_true,if_false];have nd:¬((!t.plain&&decide (es.size>1))=true):=by
  rcases hd with z|z
  ·rw[z];simp
  ·simp;omega
 refine wpAny_ite_split (fun z=>absurd z nd) fun _=>?_;refine aa ?_;show wpAny _ _ (if (!t.led&&!es.isEmpty)=true then unsupported _ else pure ()) _ _ _;rw[if_neg (by rw[v.tb.ld,hl];simp)];exact ah (ah h)
theorem vR {Q:Option (Value×Nat)->Shared->Prop}(ho:s.heap.get? a=some o)(v:lH prog w led σ o es ep t)(hb:byT w=true){slot given:Nat}(h:Q (((pickOrder (w.params.setOrder a ep) es)[given]?).map fun e=>(e.2,slot)) s):wpAny (model prog w) A (setNext a slot given ep) Q E s:=by
 unfold setNext;refine aa (wpAny_setState_of ho v.dat v.ft ?_);dsimp only;refine aa (sI ?_);rw[hb];simp only[if_true,bne_self_eq_false,Bool.false_eq_true,if_false];refine aa ?_;unfold setWalk;refine aa (wpAny_setState_of ho v.dat v.ft ?_);dsimp only;refine aa (sI ?_);rw[hb];simp only[if_true];exact aa (wpAny_askSetting (ah (ah h)))
variable {n slot:Nat}
theorem vT {x:Value}{nx:Nat}{Q:Option Value->Shared->Prop}(gC:An s.heap it a (.int slot 0) i n ep)(ho:s.heap.get? a=some o)(v:lH prog w led σ o es ep t)(hn:es.size=n)(R0:∀(A:Around) (E:Value->Shared->Prop) (Q:Option (Value×Nat)->Shared->Prop),Q (some (x,nx)) s->wpAny (model prog w) A (setNext a slot i ep) Q E s)
  (hQ:∀h',An h' it a (.int nx 0) (i+1) n ep->Heap.SameBut it s.heap h'->Q (some x) { s with heap:=h' }):wpAny (model prog w) A (pyNext (.ref it)) Q E s:=by
 obtain⟨ob,tW,hc,hd⟩:=id gC;unfold pyNext;refine aa (wpAny_attempt (wpAny_callSpecial?_slot (name:=Str.ofString "__next__") gC.typeIs dX (wpAny_call_entry dX gC.typeIs jt ?_ (j9 _))));unfold Builtin.«set_iterator.__next__»;refine aa (ah (aa (wpAny_fieldsOf tW hd ?_)));dsimp only;refine aa (wpAny_setEntries_of ho v.dat v.ft ?_);rw[if_neg (by rw[hn];simp)];refine aa ?_;rw[aQ,aQ,aQ];refine R0 _ _ _ ?_;dsimp only;refine aa (wpAny_setField tW hd (by simp) ?_);have Al:=bA (Obj.mapFields (·.setIfInBounds 0 (rawInt (nx:Int)))) tW (Obj.isFreed_of_fields (Obj.data_mapFields hd _));have Ms:=Obj.data_mapFields hd (·.setIfInBounds 0 (rawInt (nx:Int)));refine aa (wpAny_setField Al Ms (by simp) ?_);have G0:=bA (Obj.mapFields (·.setIfInBounds 1 (rawInt ((i:Int)+1)))) Al (Obj.isFreed_of_fields (Obj.data_mapFields Ms _));have hd2:=Obj.data_mapFields Ms (·.setIfInBounds 1 (rawInt ((i:Int)+1)));exact ah ⟨x,rfl,ah (hQ _ ⟨_,G0,((Obj.cls_mapFields ..).trans (Obj.cls_mapFields ..)).trans hc,by rw[hd2];simp[rawInt]⟩ ((Heap.SameBut.update ..).trans (Heap.SameBut.update ..)))⟩
theorem vQ {Q:Option Value->Shared->Prop}(hh:A.handled=none)(gC:An s.heap it a (.int slot 0) i n ep)(ho:s.heap.get? a=some o)(v:lH prog w led σ o es ep t)(hn:es.size=n)(R0:∀(A:Around) (E:Value->Shared->Prop) (Q:Option (Value×Nat)->Shared->Prop),Q none s->wpAny (model prog w) A (setNext a slot i ep) Q E s)
  (hQ:∀h',Heap.ExtBut it s.heap h'->Q none { s with heap:=h' }):wpAny (model prog w) A (pyNext (.ref it)) Q E s:=by
 obtain⟨ob,tW,hc,hd⟩:=id gC;unfold pyNext;refine aa (wpAny_attempt (wpAny_callSpecial?_slot (name:=Str.ofString "__next__") gC.typeIs dX (wpAny_call_entry dX gC.typeIs jt ?_ (j9 _))));unfold Builtin.«set_iterator.__next__»;refine aa (ah (aa (wpAny_fieldsOf tW hd ?_)));dsimp only;refine aa (wpAny_setEntries_of ho v.dat v.ft ?_);rw[if_neg (by rw[hn];simp)];refine aa ?_;rw[aQ,aQ,aQ];refine R0 _ _ _ ?_;dsimp only;refine aa (wpAny_setField tW hd (by simp) ?_);show wpAny _ _ (newExc (.type "StopIteration") []>>=_) _ _ _;refine aa ?_;simp only[newExc,newTuple];refine aa (bp ?_ (by size_fits));refine aa (m:=firstArgMember _ _) (wpAny_of_eq (a:=Value.none) (by first|rfl|(simp only[firstArgMember];rfl)) ?_);refine bp ?_ (by size_fits);simp only[raiseNew];refine aa (wpAny_handled ?_);rw[show A.in1.handled=none from hh];refine aa (ah (wpAny_throw ?_));refine aa (wpAny_isInstance (T := "StopIteration") (b:=true) ⟨_,az _ rfl,rfl⟩ isSubtype_stop ?_);exact ah (hQ _ (((Heap.SameBut.update ..).extBut.push _).push _))
theorem DU {tp:Addr}{ot:Obj}{pl:Array Value}{c p:Nat}{tk:Tok}{e:Int×Value}{Q:Option Value->Shared->Prop}(gC:An s.heap it a (.ref tp) i n ep)(ho:s.heap.get? a=some o)(v:lH prog w led σ o es ep t)(hn:es.size=n)(ht:s.heap.get? tp=some ot)(RO:ot.data=.seq pl c)(hp:pl[i]?=some (.int (p:Int) tk))(he:es[p]?=some e)
  (hQ:∀h',An h' it a (.ref tp) (i+1) n ep->Heap.SameBut it s.heap h'->Q (some e.2) { s with heap:=h' }):wpAny (model prog w) A (pyNext (.ref it)) Q E s:=by
 obtain⟨ob,tW,hc,hd⟩:=id gC;unfold pyNext;refine aa (wpAny_attempt (wpAny_callSpecial?_slot (name:=Str.ofString "__next__") gC.typeIs dX (wpAny_call_entry dX gC.typeIs jt ?_ (j9 _))));unfold Builtin.«set_iterator.__next__»;refine aa (ah (aa (wpAny_fieldsOf tW hd ?_)));dsimp only;refine aa (wpAny_setEntries_of ho v.dat v.ft ?_);rw[if_neg (by rw[hn];simp)];refine aa (wpAny_seqItems ht RO ?_);dsimp only;rw[aQ,hp];dsimp only;refine aa ?_;unfold setNextDrawn;refine aa (wpAny_setState_of ho v.dat v.ft ?_);dsimp only;rw[aQ,aQ,if_neg (by simp)];rw[he];obtain⟨e1,e2⟩:=e;refine ah (aa (wpAny_setField tW hd (by simp) ?_));have Al:=bA (Obj.mapFields (·.setIfInBounds 1 (rawInt ((i:Int)+1)))) tW (Obj.isFreed_of_fields (Obj.data_mapFields hd _));have Ms:=Obj.data_mapFields hd (·.setIfInBounds 1 (rawInt ((i:Int)+1)));exact ah ⟨e2,rfl,ah (hQ _ ⟨_,Al,(Obj.cls_mapFields ..).trans hc,by rw[Ms];simp[rawInt]⟩ (Heap.SameBut.update ..))⟩
theorem DR {tp:Addr}{ot:Obj}{pl:Array Value}{c:Nat}{Q:Option Value->Shared->Prop}(hh:A.handled=none)(gC:An s.heap it a (.ref tp) i n ep)(ho:s.heap.get? a=some o)(v:lH prog w led σ o es ep t)(hn:es.size=n)(ht:s.heap.get? tp=some ot)(RO:ot.data=.seq pl c)(hp:pl[i]?=none)
  (hQ:∀h',Heap.ExtBut it s.heap h'->Q none { s with heap:=h' }):wpAny (model prog w) A (pyNext (.ref it)) Q E s:=by
 obtain⟨ob,tW,hc,hd⟩:=id gC;unfold pyNext;refine aa (wpAny_attempt (wpAny_callSpecial?_slot (name:=Str.ofString "__next__") gC.typeIs dX (wpAny_call_entry dX gC.typeIs jt ?_ (j9 _))));unfold Builtin.«set_iterator.__next__»;refine aa (ah (aa (wpAny_fieldsOf tW hd ?_)));dsimp only;refine aa (wpAny_setEntries_of ho v.dat v.ft ?_);rw[if_neg (by rw[hn];simp)];refine aa (wpAny_seqItems ht RO ?_);dsimp only;rw[aQ,hp];dsimp only;refine aa (wpAny_setField tW hd (by simp) ?_);have Al:=bA (Obj.mapFields (·.setIfInBounds 0 (rawInt 0))) tW (Obj.isFreed_of_fields (Obj.data_mapFields hd _));have Ms:=Obj.data_mapFields hd (·.setIfInBounds 0 (rawInt 0));refine aa (wpAny_setField Al Ms (by simp) ?_);show wpAny _ _ (newExc (.type "StopIteration") []>>=_) _ _ _;refine aa ?_;simp only[newExc,newTuple];refine aa (bp ?_ (by size_fits));refine aa (m:=firstArgMember _ _) (wpAny_of_eq (a:=Value.none) (by first|rfl|(simp only[firstArgMember];rfl)) ?_);refine bp ?_ (by size_fits);simp only[raiseNew];refine aa (wpAny_handled ?_);rw[show A.in1.handled=none from hh];refine aa (ah (wpAny_throw ?_));refine aa (wpAny_isInstance (T := "StopIteration") (b:=true) ⟨_,az _ rfl,rfl⟩ isSubtype_stop ?_);exact ah (hQ _ ((((Heap.SameBut.update ..).trans (Heap.SameBut.update ..)).extBut.push _).push _))
end
noncomputable abbrev Nj (first:Value)(a:Addr)(n ep:Nat):Obj:={ cls:=.type "set_iterator", data:=.fields #[first,.int 0 0,.ref a,.int n 0,.int ep 0] }
noncomputable abbrev Kr (order:List Nat):Obj:={ cls:=.type "tuple", data:=.seq (order.map fun (i:Nat)=>rawInt (i:Int)).toArray }
section
variable {prog:Program}{w:World}{A:Around}{E:Value->Shared->Prop}{s:Shared}{a it:Addr}{o:Obj}{es:Array (Int×Value)}{ep n:Nat}{t:SetTable}{led:Bool}{σ:List Int}
theorem FV {Q:Value->Shared->Prop}(ho:s.heap.get? a=some o)(v:lH prog w led σ o es ep t)(hn:es.size=n)
  (h1:(byT w=true\/t.plain=true\/es.size<=1)->Q (.ref s.heap.objs.size) { s with heap:=s.heap.push (Nj (.int 0 0) a n ep) })
  (h2:∀(order:List Nat) (d':Drawn),order.Perm (ao n)->Q (.ref (s.heap.push (Kr order)).objs.size) { s with heap:=(s.heap.push (Kr order)).push (Nj (.ref s.heap.objs.size) a n ep),drawn:=d' }) :
  wpAny (model prog w) A (pyIter (.ref a)) Q E s:=by
 have hT:s.TypeIs (.ref a) "set" := ⟨o,ho,v.ex.1⟩;refine wpAny_pyIter_slot hT F.slot_set_iter (wpAny_call_entry F.slot_set_iter hT vA ?_ (F.args_set_iter_1 _));unfold Builtin.«frozenset.__iter__»;refine aa (ah ?_);refine aa ?_;unfold Builtin.Frozenset.sizeOf;refine aa (wpAny_setEntries_of ho v.dat v.ft (ah ?_));refine aa ?_;unfold setDrawn;refine aa (wpAny_setState_of ho v.dat v.ft ?_);dsimp only;refine aa (sI (ah ?_));show wpAny _ _ (if (!byT w&&(!t.plain&&decide (es.size>1)))=true then _ else _) _ _ _;by_cases c:(!byT w&&(!t.plain&&decide (es.size>1)))=true
 ·rw[if_pos c,hn];refine aa (ur n (ao n) _ _ aB fun order d' hp=>?_);have hl:order.length=n:=by rw[hp.length_eq,aB]
  have hz:n<scanBound:=by rw[<-hn];exact v.bd
  refine aa (wpAny_newTuple ?_ (by rw[ai,hl];exact fits_of_scanBound hz));have Al:(s.heap.push (Kr order)).get? a=some o:=af _ ho;refine aa (wpAny_setEpoch_of (s:={ s with heap:=s.heap.push (Kr order),drawn:=d' }) Al v.dat v.ft ?_);show wpAny _ _ (newFields "set_iterator" _>>=_) _ _ _;unfold newFields;refine aa (bp (ah ⟨_,rfl, "set_iterator", _,⟨_,az _ rfl,rfl⟩,dX.lookup,?_⟩));exact h2 order d' hp
 ·rw[if_neg c];refine aa (ah (aa (wpAny_setEpoch_of ho v.dat v.ft ?_)));unfold newFields;refine aa (bp (ah ⟨_,rfl, "set_iterator", _,⟨_,az _ rfl,rfl⟩,dX.lookup,?_⟩));rw[hn];refine h1 ?_;cases e:byT w with
  |true=>exact .inl rfl
  |false =>
   refine .inr ?_;cases f:t.plain with
   |true=>exact .inl rfl
   |false =>
    refine .inr (Nat.le_of_not_lt fun z=>c ?_);rw[e,f];simpa using z
end
theorem pK:Slot "set_iterator" "__iter__" "set_iterator.__iter__" :=
 .of (owner := "set_iterator") (n := "__iter__") (by rw[typeLookup_type,builtinLookup_eq_fast];kernel_rfl) (by decide +kernel) (by decide +kernel) (by decide +kernel) (by first|exact .inl (by decide +kernel)|exact .inr (by decide +kernel)) (by rw[isSubtype_type];kernel_rfl)
theorem vw:entryFor table "set_iterator.__iter__" = some Builtin.«dict_keyiterator.__iter__»:=entryFor_alias (id' := "dict_keyiterator.__iter__") (by kernel_rfl) rfl (by decide +kernel) (by kernel_rfl)
theorem yi (a:Value):argsOk "set_iterator.__iter__" ⟨[a],[]⟩:=by
 unfold argsOk;rw[signature?_of (id := "set_iterator.__iter__") (n:=['_','_','r','e','t','i','_','_']) (o:=['r','o','t','a','r','e','t','i','_','t','e','s']) (by kernel_rfl) v5];kernel_rfl
theorem An.at {h h':Heap}{it a:Addr}{first:Value}{i n ep:Nat}(x:An h it a first i n ep)(e:∀o,h.get? it=some o->h'.get? it=some o):An h' it a first i n ep:=let ⟨o,ho,r⟩:=x;⟨o,e _ ho,r⟩
section
variable {prog:Program}{w:World}{A:Around}{E:Value->Shared->Prop}{s:Shared}{a it:Addr}{o:Obj}{es:Array (Int×Value)}{ep n:Nat}{t:SetTable}{led:Bool}{σ:List Int}
theorem tf {first:Value}{i:Nat}{Q:Value->Shared->Prop}(gC:An s.heap it a first i n ep)(h:Q (.ref it) s):wpAny (model prog w) A (pyIter (.ref it)) Q E s:=by
 refine wpAny_pyIter_slot gC.typeIs pK (wpAny_call_entry pK gC.typeIs vw ?_ (yi _));show wpAny _ _ (ret (.ref it)) _ _ s;exact ah ⟨_,rfl, "set_iterator", _,gC.typeIs,dX.lookup,h⟩
theorem FW {Q:Bool->Shared->Prop}(hT:s.TypeIs (.ref a) "set")(h:Q false s):wpAny (model prog w) A (Builtin.List.listLengthHint (.ref a)) Q E s:=by
 unfold Builtin.List.listLengthHint;refine aa (wpAny_specialOf hT PySem.F.slot_set_len.lookup ?_);generalize T3:("set.__len__" : String)=Vd
 wp_delta
 rw[show splitId Vd=some ("set", "__len__") from by subst T3;decide +kernel];subst T3;refine aa (wpAny_isInstance (T := "set") (b:=true) hT (by rw[isSubtype_type];kernel_rfl) ?_);refine wpAny_ite_split (fun SE=>absurd SE (by decide)) (fun _=>?_);refine wpAny_ite_split (fun _=>?_) (fun SE=>absurd (by decide +kernel) SE);refine aa (wpAny_typeOf hT ?_);exact ah h
theorem Ln (hh:A.handled=none)(og:a≠it)(v:lH prog w led σ o es ep t)(hn:es.size=n)(hb:byT w=true) :
  Walks prog w A it [it,a] [it] n (fun i x=>((pickOrder (w.params.setOrder a ep) es).toList.map (·.2))[i]?=some x) (fun i h=>An h it a (.int (0:Nat) 0) i n ep/\h.get? a=some o) where
 sub:=fun b hb=>by simp at hb;simp[hb]
 frame:=fun _ _ _ st hk=>⟨st.1.at fun o e=>hk it (by simp) o e,hk a (by simp) _ st.2⟩
 item:=fun i s Q E hi st hQ=>by
  have hl:(pickOrder (w.params.setOrder a ep) es).size=n:=by
   have:=(qL (w.params.setOrder a ep) es).length_eq;rw[aT,aT] at this;omega
  have hg:(pickOrder (w.params.setOrder a ep) es)[i]?=some (pickOrder (w.params.setOrder a ep) es)[i]:=aS ⋯;refine vT st.1 st.2 v hn (fun A E Q q=>vR st.2 v hb (by rw[hg];exact q)) fun h' vO sb=>?_;exact hQ _ h' s.toks (by rw[ay,b4,hg];rfl) ⟨vO,(sb.2 a og).trans st.2⟩ fun b o hb e=>(sb.2 b fun z=>hb (by simp[z])).trans e
 done:=fun s Q E st hQ=>by
  have hl:(pickOrder (w.params.setOrder a ep) es).size=n:=by
   have:=(qL (w.params.setOrder a ep) es).length_eq;rw[aT,aT] at this;omega
  have hg:(pickOrder (w.params.setOrder a ep) es)[n]?=none:=Xe ⋯;exact vQ hh st.1 st.2 v hn (fun A E Q q=>vR st.2 v hb (by rw[hg];exact q)) fun h' eb=>hQ h' s.toks fun b o hb e=>eb b o (fun z=>hb (by simp[z])) e
 self:=fun _ _ _ _ st hQ=>tf st.1 hQ
theorem BZ {xs:Array Nat}(h:xs.toList.Pairwise (·<·)){i j:Nat}(hi:xs[i]?=some j):SetTable.below xs (j+1)=i+1:=by
 obtain⟨b1,b2,b3⟩:=uU h (j+1);have l1:i<SetTable.below xs (j+1):=Nat.lt_of_not_le fun z=>by have:=b3 i j z hi;omega
 rcases bW (i+1) (SetTable.below xs (j+1)) with z|z
 ·have hs:i+1<xs.size:=by omega
  have e:xs[i+1]?=some xs[i+1]:=aS hs;have x1:=b2 (i+1) _ z e;have x2:=RT.at_ h (bQ i) hi e;omega
 ·omega
theorem BY {xs:Array Nat}(h:xs.toList.Pairwise (·<·)):SetTable.below xs 0=0:=by
 obtain⟨b1,b2,b3⟩:=uU h 0;rcases Nat.eq_zero_or_pos (SetTable.below xs 0) with z|z
 ·exact z
 ·have hs:0<xs.size:=by omega
  have:=b2 0 _ z (aS hs);omega
theorem Lo (hh:A.handled=none)(og:a≠it)(v:lH prog w led σ o es ep t)(hn:es.size=n)(hb:byT w=false)(hl:led=true)(hd:t.plain=true\/es.size<=1) :
  Walks prog w A it [it,a] [it] n (fun i x=>(es.toList.map (·.2))[i]?=some x) (fun i h=>(∃slot:Nat,An h it a (.int slot 0) i n ep/\SetTable.below t.place slot=i)/\h.get? a=some o) where
 sub:=fun b hb=>by simp at hb;simp[hb]
 frame:=fun _ _ _ st hk=>by
  obtain⟨⟨slot,x,y⟩,z⟩:=st;exact⟨⟨slot,x.at fun o e=>hk it (by simp) o e,y⟩,hk a (by simp) _ z⟩
 item:=fun i s Q E hi st hQ=>by
  obtain⟨⟨slot,x,y⟩,z⟩:=st;have hp:t.place.size=n:=by
   have:=v.ft;simp only[SetTable.fits,Bool.and_eq_true,beq_iff_eq] at this;omega
  have hg:es[i]?=some es[i]:=aS ⋯;have hj:t.place[i]?=some t.place[i]:=aS ⋯;refine vT x z v hn (x:=es[i].2) (nx:=t.place[i]+1) (fun A E Q q=>vS z v hb hl hd (by rw[y,hg,hj];exact q)) fun h' vO sb=>?_;exact hQ _ h' s.toks (by rw[ay,b4,hg];rfl) ⟨⟨_,vO,BZ v.tb.rt hj⟩,(sb.2 a og).trans z⟩ fun b o hb e=>(sb.2 b fun z=>hb (by simp[z])).trans e
 done:=fun s Q E st hQ=>by
  obtain⟨⟨slot,x,y⟩,z⟩:=st;have hg:es[n]?=none:=Xe ⋯;exact vQ hh x z v hn (fun A E Q q=>vS z v hb hl hd (by rw[y,hg];exact q)) fun h' eb=>hQ h' s.toks fun b o hb e=>eb b o (fun z=>hb (by simp[z])) e
 self:=fun _ _ _ _ st hQ=>by
  obtain⟨⟨slot,x,y⟩,z⟩:=st;exact tf x hQ
noncomputable def M7 (es:Array (Int×Value))(p:Nat):Value:=match es[p]? with
 |some e=>e.2
 |none=>.none
theorem Lp {tp:Addr}{order:List Nat}(hh:A.handled=none)(og:a≠it)(Vq:tp≠it)(v:lH prog w led σ o es ep t)(hn:es.size=n)(hp:order.Perm (ao n)) :
  Walks prog w A it [it,a,tp] [it] n (fun i x=>(order.map (M7 es))[i]?=some x) (fun i h=>An h it a (.ref tp) i n ep/\h.get? a=some o/\h.get? tp=some (Kr order)) where
 sub:=fun b hb=>by simp at hb;simp[hb]
 frame:=fun _ _ _ st hk=>⟨st.1.at fun o e=>hk it (by simp) o e,hk a (by simp) _ st.2.1,hk tp (by simp) _ st.2.2⟩
 item:=fun i s Q E hi st hQ=>by
  have hl:order.length=n:=by rw[hp.length_eq,aB]
  have hg:order[i]?=some order[i]:=aq ⋯;have hm:order[i]<es.size:=by rw[hn];exact List.mem_range.mp (hp.mem_iff.mp (bY _))
  have he:es[order[i]]?=some es[order[i]]:=aS hm;refine DU st.1 st.2.1 v hn st.2.2 rfl (p:=order[i]) (tk:=0) (e:=es[order[i]]) (by rw[Xf,ay,hg];rfl) he fun h' vO sb=>?_;exact hQ _ h' s.toks (by rw[ay,hg];show some (M7 es order[i])=_;unfold M7;rw[he]) ⟨vO,(sb.2 a og).trans st.2.1,(sb.2 tp Vq).trans st.2.2⟩ fun b o hb e=>(sb.2 b fun z=>hb (by simp[z])).trans e
 done:=fun s Q E st hQ=>by
  have hl:order.length=n:=by rw[hp.length_eq,aB]
  have hg:order[n]?=none:=aW ⋯;exact DR hh st.1 st.2.1 v hn st.2.2 rfl (by rw[Xf,ay,hg];rfl) fun h' eb=>hQ h' s.toks fun b o hb e=>eb b o (fun z=>hb (by simp[z])) e
 self:=fun _ _ _ _ st hQ=>tf st.1 hQ
theorem Dz:(ao es.size).map (M7 es)=es.toList.map (·.2):=by
 refine bI fun i=>?_;rw[ay,ay];rcases bW i es.size with z|z
 ·have e:es[i]?=some es[i]:=aS z;have e2:es.toList[i]?=some es[i]:=Array.getElem?_toList.trans e;rw[ba z,e2];show some (M7 es i)=some es[i].2;unfold M7;rw[e]
 ·have e2:es.toList[i]?=none:=aW (by rw[aT];exact z);have e1:(ao es.size)[i]?=none:=aW (by rw[aB];exact z);rw[e1,e2];rfl
theorem FU {Q:Value->Shared->Prop}(hh:A.handled=none)(ho:s.heap.get? a=some o)(v:lH prog w (!byT w) σ o es ep t)(hn:es.size=n)
  (h:∀(I:Addr) (fp:List Addr) (St:Nat->Heap->Prop) (vs:List Value) (h':Heap) (d':Drawn),Walks prog w A I fp [I] n (fun i x=>vs[i]?=some x) St->St 0 h'->vs.Perm (es.toList.map (·.2))->(∀b o,s.heap.get? b=some o->h'.get? b=some o)->s.heap.objs.size<=I->(∀b∈fp,b<h'.objs.size/\(b=a\/s.heap.objs.size<=b))->Q (.ref I) { s with heap:=h',drawn:=d' }) :
  wpAny (model prog w) A (pyIter (.ref a)) Q E s:=by
 have Np:=aD ho;refine FV ho v hn (fun c=>?_) fun order d' hp=>?_
 ·have og:a≠s.heap.objs.size:=aN Np;have hk:∀b o,s.heap.get? b=some o->(s.heap.push (Nj (.int 0 0) a n ep)).get? b=some o:=fun b o e=>af _ e;have hf:∀b∈[s.heap.objs.size,a],b<(s.heap.push (Nj (.int 0 0) a n ep)).objs.size/\(b=a\/s.heap.objs.size<=b):=fun b hb=>by
   rw[bf];rcases List.mem_cons.mp hb with e|hb
   ·rw[e];exact⟨bQ _,.inr (aE _)⟩
   ·rw[List.mem_singleton.mp hb];exact⟨bE Np,.inl rfl⟩
  have st:An (s.heap.push (Nj (.int 0 0) a n ep)) s.heap.objs.size a (.int (0:Nat) 0) 0 n ep:=⟨_,az _ rfl,rfl,rfl⟩;cases hb:byT w with
  |true=>exact h _ _ _ _ _ s.drawn (Ln hh og v hn hb) ⟨st,hk _ _ ho⟩ ((qL _ es).map _) hk (aE _) hf
  |false =>
   have c':t.plain=true\/es.size<=1:=by
    rcases c with z|z
    ·rw[hb] at z;cases z
    ·exact z
   exact h _ _ _ _ _ s.drawn (Lo hh og v hn hb (by rw[hb];rfl) c') ⟨⟨0,st,BY v.tb.rt⟩,hk _ _ ho⟩ (.refl _) hk (aE _) hf
 ·have hz:(s.heap.push (Kr order)).objs.size=s.heap.objs.size+1:=bf ..;have T2:∀b o,s.heap.get? b=some o->(s.heap.push (Kr order)).get? b=some o:=fun b o e=>af _ e;have hk:∀b o,s.heap.get? b=some o->((s.heap.push (Kr order)).push (Nj (.ref s.heap.objs.size) a n ep)).get? b=some o:=fun b o e=>af _ (T2 b o e);refine h _ _ _ _ _ d' (Lp (tp:=s.heap.objs.size) hh (aN (by rw[hz];exact bE Np)) (aN (by rw[hz];exact bQ _)) v hn hp) ⟨⟨_,az _ rfl,rfl,rfl⟩,hk _ _ ho,af _ (az _ rfl)⟩ ?_ hk (by rw[hz];exact bR _) fun b hb=>?_
  ·rw[<-Dz,hn];exact hp.map _
  ·rw[bf,hz];rcases List.mem_cons.mp hb with e|hb
   ·rw[e,hz];exact⟨bQ _,.inr (bR _)⟩
   ·rcases List.mem_cons.mp hb with e|hb
    ·rw[e];exact⟨bE (bE Np),.inl rfl⟩
    ·rw[List.mem_singleton.mp hb];exact⟨bE (bQ _),.inr (aE _)⟩
end
open PySem PySem.W PySem.Calls PyProof.Rows PyProof.V PySem.Spec
theorem GV {vs:List Value}{acc:Array Value}{n:Nat}(hl:vs.length=n)(h:ItemsOf (fun i x=>vs[i]?=some x) acc n):acc.toList=vs:=by
 have hz:acc.toList.length=vs.length:=by rw[aT,hl];exact h.1
 refine bI fun i=>?_;rcases bW i acc.toList.length with z|z
 ·have e:acc.toList[i]?=some acc.toList[i]:=aq z;rw[e];exact (h.2 i _ (Array.getElem?_toList.symm.trans e)).symm
 ·rw[aW z,aW ⋯]
section
variable {prog:Program}{w:World}{A:Around}{E:Value->Shared->Prop}{s:Shared}{a it:Addr}{o:Obj}{es:Array (Int×Value)}{ep n:Nat}{t:SetTable}{σ:List Int}
theorem AF {R:Result->Shared->Prop}(hh:A.handled=none)(ho:s.heap.get? a=some o)(v:lH prog w (!byT w) σ o es ep t)(hz:es.size=n)(S:Addr)(Ub:S≠a)(res:Value)(c₀:Nat)(hS:s.heap.get? S=some { cls:=.type "list", data:=.seq #[] c₀ })
  (hR:∀(h':Heap) (tk:Nat) (d':Drawn) (vs:List Value) (c':Nat),(∀b o,b≠S->s.heap.get? b=some o->h'.get? b=some o)->h'.get? S=some { cls:=.type "list", dict:=none,data:=.seq vs.toArray c',slots:=#[] }->vs.Perm (es.toList.map (·.2))->R (.ok (.ret res)) { s with heap:=h',toks:=tk,drawn:=d' }) (hn:n<=sizeLine) :
  wpAny (model prog w) A.in1 (Builtin.List.listExtendWith (.ref S) (.ref a) res)
   (fun fin s'=>match fin with|.done f=>R (.ok f) s'|.again c'=>c'.quiet=true/\codeAny (model prog w) A c' R s') (fun e s'=>R (.error e) s') s:=by
 have hT:s.TypeIs (.ref a) "set" := ⟨o,ho,v.ex.1⟩;unfold Builtin.List.listExtendWith;refine aa (wpAny_typeOf (T := "set") hT ?_);have h1:Builtin.List.listSameRef (.ref S) (.ref a)=false:=by simp[Builtin.List.listSameRef,Ub]
 have n1:(Value.type "set" == Value.type "list")=false:=by decide
 have n2:(Value.type "set" == Value.type "tuple")=false:=by decide
 simp only[h1,n1,n2,Bool.or_false,Bool.false_eq_true,if_false];refine aa (FU (A:=A.in1) hh ho v hz fun I fp St vs hI d' W st hp hk T4 VH=>?_);have Vv:vs.length=n:=by rw[hp.length_eq,ai,aT];exact hz
 have Ua:=aD hS;have JW:S∉fp:=fun hm=>by
  rcases (VH S hm).2 with e|e
  ·exact Ub e
  ·exact absurd Ua (Nat.not_lt.mpr e)
 have hSI:S≠I:=fun e=>absurd Ua (Nat.not_lt.mpr (e▸T4));have key:∀(h:Heap) (c₁ tk:Nat),St 0 h->(∀b o,b≠S->s.heap.get? b=some o->h.get? b=some o) →
   h.get? S=some { cls:=.type "list", data:=.seq #[] c₁ }->codeAny (model prog w) A (.builtin "list.extend.loop" ⟨[.ref S,.ref I,res],[]⟩) R { s with heap:=h,toks:=tk,drawn:=d' }:=by
  intro h c₁ tk GY wj tZ;refine codeAny_extend_loopS W.toS hn S JW res n 0 _ #[] c₁ rfl (bB _) GY tZ (ItemsOf.nil _) fun s' Kj c' hm ua Mu=>?_;rw[Moved.eq_with hm];have e:=GV Vv Mu;refine hR s'.heap s'.toks d' vs c' (fun b o hb e=>hm.heap b o (fun hmem=>?_) (wj b o hb e)) (by rw[<-e];exact ua) hp;rcases List.mem_cons.mp hmem with e'|hmem
  ·exact hb e'
  ·exact absurd (aD e) (by rw[List.mem_singleton.mp hmem];exact Nat.not_lt.mpr T4)
 have tZ:=hk _ _ hS;have Pu:({ s with heap:=hI,drawn:=d' }:Shared).TypeIs (.ref a) "set" := ⟨o,hk _ _ ho,v.ex.1⟩;refine aa (bx (FW Pu ?_));refine wpAny_ite_split (fun _=>?_) (fun _=>ah ⟨plainId_quiet PySem.F.plain_extend_loop _,key _ c₀ _ st (fun b o _ e=>hk b o e) tZ⟩);refine aa (wpAny_rule ?_);refine aa ?_;show wpAny _ _ (updateSeq S (·.push .none)>>=fun _=>updateSeq S (·.pop)) _ _ _;refine aa (wpAny_updateSeq tZ rfl ?_);have K0:=bA (Obj.mapSeq (·.push Value.none)) tZ rfl;refine wpAny_updateSeq (hz:=by seq_fits) K0 rfl ?_;have Pw:=bA (Obj.mapSeq (·.pop)) K0 rfl;refine ah ⟨plainId_quiet PySem.F.plain_extend_loop _,key _ _ _ ?_ (fun b o hb e=>?_) Pw⟩
 ·refine W.frame 0 _ _ st fun b hb o e=>?_;have T6:b≠S:=fun h=>JW (h▸hb);exact (bX _ _ (Ne.symm T6)).trans ((bX _ _ (Ne.symm T6)).trans e)
 ·exact (bX _ _ (Ne.symm hb)).trans ((bX _ _ (Ne.symm hb)).trans (hk b o e))
theorem yN {R:List Value->Shared->Prop}(hh:A.handled=none)(ho:s.heap.get? a=some o)(v:lH prog w (!byT w) σ o es ep t)(hz:es.size=n)(hn:n<=sizeLine)
  (h:∀(h':Heap) (tk:Nat) (d':Drawn) (vs:List Value),(∀b o,s.heap.get? b=some o->h'.get? b=some o)->s.heap.objs.size<h'.objs.size->vs.Perm (es.toList.map (·.2))->R vs { s with heap:=h',toks:=tk,drawn:=d' }) :
  wpAny (model prog w) A (collect (.ref a)) R E s:=by
 have Np:=aD ho;unfold collect;refine aa (wpAny_runValue (codeAny_builtin entry_proto_collect' ?_));rw[Around.under_plainId PySem.F.plain_proto_collect _];show wpAny _ A.in1 (newList []>>=fun l=>again (.builtin "list.__iadd__" ⟨[l,.ref a],[]⟩)) _ _ s;refine aa (bp ?_);refine ah ⟨plainId_quiet PySem.F.plain_list_iadd _,codeAny_builtin entry_list_iadd' ?_⟩;rw[Around.under_plainId PySem.F.plain_list_iadd _];have tZ:(s.heap.push { cls:=.type "list", data:=.seq ([]:List Value).toArray }).get? s.heap.objs.size=some { cls:=.type "list", data:=.seq #[] }:=az _ rfl;show wpAny _ A.in1 (Builtin.List.listExtendWith (.ref s.heap.objs.size) (.ref a) (.ref s.heap.objs.size)) _ _ _;have key:=AF (A:=A) (s:={ s with heap:=s.heap.push { cls:=.type "list", data:=.seq ([]:List Value).toArray } })
  (R:=fun (q:Result) (s':Shared)=>∃(h':Heap) (tk:Nat) (d':Drawn) (vs:List Value) (c':Nat),q=.ok (.ret (.ref s.heap.objs.size))/\s'={ s with heap:=h',toks:=tk,drawn:=d' } ∧
   (∀b o,s.heap.get? b=some o->h'.get? b=some o)/\h'.get? s.heap.objs.size=some { cls:=.type "list", dict:=none,data:=.seq vs.toArray c',slots:=#[] }/\vs.Perm (es.toList.map (·.2)))
  hh (af _ ho) v hz s.heap.objs.size (br Np) (.ref s.heap.objs.size) 0 tZ
  (fun h' tk d' vs c' hk ua hp=>⟨h',tk,d',vs,c',rfl,rfl,fun b o e=>hk b o (aN (aD e)) (af _ e),ua,hp⟩) hn
 refine wpAny_mono key (fun fin s' x=>?_) fun e s' x=>?_
 ·cases fin with
  |done f =>
   obtain⟨h',tk,d',vs,c',e,rfl,hk,ua,hp⟩:=x;cases e;show wpAny _ A (load s.heap.objs.size>>=_) _ _ _;refine aa (wpAny_load ua ?_);exact ah (h h' tk d' vs hk (aD ua) hp)
  |again c₁ =>
   refine⟨x.1,codeAny_mono x.2 fun q sW y=>?_⟩;obtain⟨h',tk,d',vs,c',rfl,rfl,hk,ua,hp⟩:=y;show wpAny _ A (load s.heap.objs.size>>=_) _ _ _;refine aa (wpAny_load ua ?_);exact ah (h h' tk d' vs hk (aD ua) hp)
 ·obtain⟨_,_,_,_,_,e',_⟩:=x;cases e'
noncomputable def Qv (v:Value):Int:=match v with
 |.int k _=>k
 |_=>0
theorem CW:∀{vs:List Value},(∀v∈vs,∃k t,v=Value.int k t)->IntsAre vs (vs.map Qv)
 |[],_=>.nil
 | v::r,h=>by
  obtain⟨k,t,rfl⟩:=h v (aP ..);exact .cons k t (CW fun x hx=>h x (aG _ hx))
theorem lH.ints {led:Bool}(v:lH prog w led σ o es ep t){vs:List Value}(hp:vs.Perm (es.toList.map (·.2))):IntsAre vs (vs.map Qv)/\(vs.map Qv).Perm σ:=by
 refine⟨CW fun x hx=>?_,((hp.map Qv).trans ?_).trans v.pm⟩
 ·obtain⟨e,he,rfl⟩:=List.mem_map.mp (hp.mem_iff.mp hx);obtain⟨⟨k,hk,_⟩,_⟩:=v.el e he;obtain⟨tk,ht⟩:=Value.isInt_shape (show Value.isInt k e.2=true from hk);exact⟨k,tk,ht⟩
 ·rw[bt];exact .of_eq rfl
theorem AE {Q:Value->Shared->Prop}(hh:A.handled=none)(ho:s.heap.get? a=some o)(v:lH prog w (!byT w) σ o es ep t)(JX:σ.length<64)
  (h:∀(h':Heap) (tk:Nat) (d':Drawn) (D:Addr) (out:Array Value) (ns:List Int) (c:Nat),(∀b o,s.heap.get? b=some o->h'.get? b=some o)->s.heap.objs.size<=D->h'.get? D=some (seqObj "list" out c)->IntsAre out.toList ns->ns.Perm σ->ns.Pairwise (·<=·)->Q (.ref D) { s with heap:=h',toks:=tk,drawn:=d' }) :
  wpAny (model prog w) A (call (.builtin "sorted") [.ref a]) Q E s:=by
 refine call_function_entry kind_sorted plain_sorted entry_sorted (args_sorted1 _) ?_;unfold Builtin.«sorted»;refine aa (m:=checkCount "sorted" 1 1 _) (ah ?_);have pT:es.size=σ.length:=v.size;refine aa (yN (A:=A.in1) hh ho v pT (by have:=fits_of_scanBound v.bd;rw[pT] at this;exact this) fun h' tk d' vs hk kX hp=>?_);obtain⟨hi,hq⟩:=v.ints hp;have hl:vs.length=σ.length:=by have:=hq.length_eq;rw[ai] at this;exact this
 refine aa (wpAny_newList ?_ (by have:=fits_of_scanBound v.bd;rw[pT] at this;rw[hl];exact this));have Al:(h'.push { cls:=.type "list", data:=.seq vs.toArray }).get? h'.objs.size=some (seqObj "list" vs.toArray 0):=az _ rfl;refine aa (bx ?_);refine wpAny_call_entry PyProof.Rows.slot_list_sort ⟨_,Al,rfl⟩ PyProof.Rows.entry_list_sort (list_sort_tree (n:=0) (vs:=vs) (s:={ s with heap:=h'.push { cls:=.type "list", data:=.seq vs.toArray },toks:=tk,drawn:=d' }) Al hi ⋯ fun out U7 hI zI hP=>⟨.none,rfl,?_⟩) (PyProof.Rows.args_list_sort _);refine ah ⟨_,rfl,?_⟩;obtain⟨c,hc⟩:=sortedHeap_at (out:=out) Al;refine h _ tk d' h'.objs.size out U7 c (fun b ob e=>?_) (Xd kX) hc hI (zI.trans hq) hP;have e1:(h'.push { cls:=.type "list", data:=.seq vs.toArray }).get? b=some ob:=af _ (hk b ob e);exact (sortedHeap_old (aN (aD (hk b ob e))) (aD e1)).trans e1
end
section
variable {prog:Program}{w:World}{A:Around}{E:Value->Shared->Prop}{s:Shared}
theorem ET {l:Addr}{items:Array Value}{ns:List Int}{Q:Value->Shared->Prop}(hh:A.handled=none)(hl:s.heap.IsTuple l items)(hi:IntsAre items.toList ns)(hb:items.size+1<scanBound)
  (h:∀(h':Heap) (tk:Nat),qw prog w h' s.heap.objs.size (!byT w) (m4 (fun i=>ns.getD i 0) items.size)->(∀b o,b<s.heap.objs.size->s.heap.get? b=some o->h'.get? b=some o)->Q (.ref s.heap.objs.size) { s with heap:=h',toks:=tk }) :
  wpAny (model prog w) A (call (.type "set") [.ref l]) Q E s:=by
 obtain⟨c,tl,R5⟩:=F.called_set.mro;have O6:=F.called_set.made;have xN:=F.called_set.sub;refine wpAny_call (codeAny_of_tree ?_);show wpAny _ _ (callAny (.type "set") _) _ _ _;refine ah ⟨Code.quiet_builtin _ (by decide +kernel),codeAny_builtin F.entry_type_call ?_⟩;rw[Around.under_plain (weight_type_call_type "set" [.ref l] []) rfl];have h1:=F.called_set.notType;have h2:=F.called_set.canCreate;have VP:=F.typeCall_set_1 (.ref l)
 repeat (any_goals (first|assumption|wp_step))
 refine codeAny_mono (rR (.ref l) (E:=E) (Q₁:=fun obj dO=>obj=.ref s.heap.objs.size/\dO={ s with heap:=s.heap.push (lP w) }) ⟨rfl,rfl⟩) fun r dO hr=>?_;cases r with
 |error e=>exact hr
 |ok fl =>
  cases fl with
  |ret obj =>
   obtain⟨rfl,rfl⟩:=hr;have hS:(s.heap.push (lP w)).get? s.heap.objs.size=some (lP w):=az _ rfl;have hT:Shared.TypeIs { s with heap:=s.heap.push (lP w) } (.ref s.heap.objs.size) "set" := ⟨_,hS,rfl⟩;have Vw:=F.called_set.init.lookup;have VQ:=F.called_set.init.bind (.ref s.heap.objs.size)
   repeat (any_goals (first|assumption|wp_step))
   refine codeAny_mono (codeAny_call_builtin (R:=wants (fun r sW=>r=.none/\∃h' tk,sW={ s with heap:=h',toks:=tk }/\qw prog w h' s.heap.objs.size (!byT w) (m4 (fun i=>ns.getD i 0) items.size)/\(∀b o,b<s.heap.objs.size->s.heap.get? b=some o->h'.get? b=some o)) E) F.called_set.init.plain F.entry_set_init (check_set_init_1 hT ?_)) fun LH sW tV=>?_
   ·obtain⟨ol,O1,Bi,nl,Pm⟩:=hl;obtain⟨Rm,Gj,Oz,AO⟩:=ol;simp only at Bi Pm;subst Bi;subst Pm;have Mn:(s.heap.push (lP w)).get? l=some { cls:=.type "tuple", dict:=Gj,data:=.seq items nl,slots:=AO }:=af _ O1;have RQ:=F.sub_tuple_set;have RS:=F.sub_tuple_frozenset;have og:(Value.type "tuple" == Value.type "dict")=false:=by decide
    have Pb:(s.heap.push (lP w)).IsTuple l items:=⟨_,Mn,rfl,nl,rfl⟩;unfold Builtin.«set.__init__» noKeywords Builtin.Frozenset.updateFrom;generalize SH:pyIter=PI
    wp_walk
    subst SH;refine wpAny_pyIter_tuple Pb (aa (wpAny_runValue ?_));have Pa:l<s.heap.objs.size:=aD O1;have Si:A.in1.in1.in1.handled=none:=by simp[hh]
    have Mp:l≠(s.heap.push (lP w)).objs.size:=by rw[bf];exact aN (bE Pa)
    have JW:s.heap.objs.size∉[(s.heap.push (lP w)).objs.size,l]:=by
     rw[bf];simp only[bj,Xb,bC,or_false,not_or];exact⟨aN (bQ _),br Pa⟩
    have GX:∀(i:Nat) (v:Value),items[i]?=some v->∃t,v=.int ((fun i=>ns.getD i 0) i) t:=fun i v hv=>IntsAre.int_at hi i v (by rw[b4];exact hv);refine yM (led:=!byT w) ((Walks.tuple Si _ l Mp items).toS) s.heap.objs.size JW (fun i=>ns.getD i 0) GX hb (items.size-0) 0 _ ⋯ (bB _) ⟨⟨_,az _ rfl,rfl,rfl⟩,(Pb.push _)⟩ ?hS0 ?hR
    case hS0=>exact⟨lP w,_,_,_,af _ hS,C5⟩
    case hR =>
     intro s' hm ua;obtain⟨h',g',d',lK,Ou⟩:=s';have eg:g'=s.gens:=hm.gens;have ed:d'=s.drawn:=hm.drawn;have eo:Ou=s.os:=hm.os;subst eg;subst ed;subst eo;show wpAny _ _ _ _ _ _;refine ah ?_;show wpAny _ _ (ret Value.none) _ _ _;refine ah ⟨rfl,h',lK,rfl,ua,fun b o hb e=>?_⟩;exact hm.heap b o (by simp only[bj,Xb,bC,or_false,not_or];exact⟨aN hb,by rw[bf];exact aN (bE hb)⟩) (af _ (af _ e))
   ·cases LH with
    |error e=>exact tV
    |ok Hb =>
     cases Hb with
     |ret r =>
      obtain⟨rfl,h',tk,rfl,ua,wj⟩:=tV
      repeat (any_goals (first|assumption|wp_step))
      exact h _ _ ua wj
     |_=>exact tV.elim
  |_=>exact hr.elim
end
open PySem PySem.Spec PySem.SeqAt PyProof.Rows
open L2 (V Hp St HO VK TE TT TA TS TI TG Cx Inv PE PT PA PS PSs PI PG jN jT cY eF cN cC cE cV dQ EP TP AP SP kJ It kf)
theorem nN {k:Int}:∀{is:List Int},k∈ja is<->k∈is
 |[]=>Iff.rfl
 | i::is=>by
  unfold ja;split
  ·rename_i h;rw[nN,bj];exact⟨.inr,fun z=>z.elim (fun e=>e▸h) id⟩
  ·rw[bj,bj,nN]
theorem mY:∀is:List Int,(ja is).Nodup
 |[]=>WZ
 | i::is=>by
  unfold ja;split
  ·exact mY is
  ·rename_i h;exact List.nodup_cons.mpr ⟨fun z=>h (nN.mp z),mY is⟩
theorem GH {k j:Int}{ks:List Int}:k∈nF ks j<->k∈ks\/k=j:=by
 unfold nF;split
 ·rename_i h;exact⟨.inl,fun z=>z.elim id fun e=>e▸h⟩
 ·rw[List.mem_append,Xb]
theorem A1 {j:Int}{ks:List Int}(h:ks.Nodup):(nF ks j).Nodup:=by
 unfold nF;split
 ·exact h
 ·rename_i n;exact List.nodup_append.mpr ⟨h,by simp,fun a ha b hb e=>n (by rw[List.mem_singleton.mp hb] at e;exact e▸ha)⟩
theorem ue:∀(is ks:List Int),(ks.Nodup->(is.foldl nF ks).Nodup)/\∀k,k∈is.foldl nF ks<->k∈ks\/k∈is
 |[],ks=>⟨id,fun k=>by simp⟩
 | i::is,ks=>by
  obtain⟨a,b⟩:=ue is (nF ks i);refine⟨fun h=>a (A1 h),fun k=>?_⟩;show k∈is.foldl nF (nF ks i)<->_;rw[b k,GH,bj,or_assoc]
theorem rE:∀{a b:List Int},a.Nodup->b.Nodup->(∀k,k∈a<->k∈b)->a.Perm b
 | [],b,_,_,h=>by
  cases b with
  |nil=>exact .nil
  |cons x b=>exact absurd ((h x).mpr (aP ..)) (by simp)
 | x::a,b,ha,hb,h=>by
  have hx:x∈b:=(h x).mp (aP ..);have n:=List.nodup_cons.mp ha;refine ((rE n.2 (hb.erase x) fun k=>?_).cons x).trans (List.perm_cons_erase hx).symm;rw[hb.mem_erase_iff];constructor
  ·exact fun z=>⟨fun e=>n.1 (e▸z),(h k).mp (aG _ z)⟩
  ·exact fun z=>(List.mem_cons.mp ((h k).mpr z.2)).elim (fun e=>absurd e z.1) id
theorem Ej (is:List Int):(ao is.length).map (fun i=>is.getD i 0)=is:=by
 refine bI fun i=>?_;rw[ay];rcases bW i is.length with z|z
 ·rw[ba z,aq z];simp[List.getD,aq z]
 ·rw[aW (by rw[aB];exact z),aW z];rfl
theorem Ei (is:List Int):(m4 (fun i=>is.getD i 0) is.length).Perm (ja is):=by
 unfold m4;rw[Ej];obtain⟨a,b⟩:=ue is [];exact rE (a WZ) (mY is) fun k=>by rw[b k,nN];simp
theorem FR {ns is:List Int}(p:ns.Perm is)(o:ns.Pairwise (·<=·)):ns=vP is:=by
 unfold vP;refine PySem.W.lks_uniq (p.trans (Xo is _).symm) o ?_;have:=Xc (le:=fun a b:Int=>decide (a<=b)) (fun a b c x y=>by simp at x y ⊢;omega) (fun a b=>by simp;omega) is;exact this.imp fun z=>by simpa using z
theorem _root_.L2.Inv.drew {X:Cx}{pins:List (Addr×Obj)}{σ:L2.St}{H:Hp}{s:Shared}(d':Drawn)(I:Inv X pins σ H s):Inv X pins σ H { s with drawn:=d' }:=⟨I.ok,I.os,I.bare,I.base,I.loc,I.cell,I.free,I.m9,I.pin,I.fT,I.len⟩
theorem pF {is:List Int}:∀{us:List Value},cV (is.map V.int) us->IntsAre us is:=by
 induction is with
 |nil =>
  intro us h;cases h;exact .nil
 |cons i is ih =>
  intro us h;cases h with
  |cons r q =>
   obtain⟨t,rfl⟩:=(show ∃t,_=Value.int i t from r);exact .cons i t (ih q)
theorem Ey {us:List Value}{is:List Int}(h:IntsAre us is):cV (is.map V.int) us:=by
 induction h with
 |nil=>exact .nil
 |cons n t _ ih=>exact .cons ⟨t,rfl⟩ ih
noncomputable def FX (P:Program)(w:World)(a:Addr)(ks:List Int):HO:=.ext fun h=>qw P w h a (!byT w) ks
noncomputable def Oc (X:Cx):List V->Hp->VK->Prop:=fun xs H Q=>∃(kd:Bool) (a:Addr) (is:List Int),xs=[.ref a]/\kf kd X.K H a (is.map V.int)/\is.length<1000/\∀l,H l=none->Q (.ref l) (eF H l (FX X.prog X.w l (m4 (fun i=>is.getD i 0) is.length)))
noncomputable def tD (X:Cx):List V->Hp->VK->Prop:=fun xs H Q=>∃(a:Addr) (ks:List Int),xs=[.ref a]/\H a=some (FX X.prog X.w a ks)/\ks.length<64/\∀l (ns:List Int),H l=none->ns.Perm ks->ns.Pairwise (·<=·)->Q (.ref l) (eF H l (.lst (ns.map V.int)))
section
variable {X:Cx}
theorem HJ (hc:X.calm=true):L2.CallR X (.type "set") (Oc X):=by
 intro pins s σ H xs us Q I rx h;obtain⟨kd,a,is,rfl,hq,hl,q⟩:=h;obtain⟨u,rfl,ru⟩:=cV.one rx;cases ru;obtain⟨its,rv,ob,hz⟩:=I.mM hq;have hi:=pF rv;have hn:its.length=is.length:=hi.length;have hs:its.toArray.size=is.length:=by rw[aL,hn]
 have hb:its.toArray.size+1<scanBound:=by rw[hs,show scanBound=4096 from rfl];omega
 have go:∀(h':Heap) (tk:Nat),qw X.prog X.w h' s.heap.objs.size (!byT X.w) (m4 (fun i=>is.getD i 0) its.toArray.size)->(∀b o,b<s.heap.objs.size->s.heap.get? b=some o->h'.get? b=some o)->EP X pins σ Q (.ref s.heap.objs.size) { s with heap:=h',toks:=tk }:=by
  intro h' tk hS hk;rw[hs] at hS;have I':=I.laid (h':=h') (t':=tk) (a:=s.heap.objs.size) (o:=FX X.prog X.w s.heap.objs.size (m4 (fun i=>is.getD i 0) is.length)) (fun b o e=>hk b o (aD e) e) (aE _)
   ⟨hS,(let ⟨o,_,_,_,e,_⟩:=hS;⟨o,e⟩),fun h1 h2 x k=>x.keep k⟩
  exact⟨.ref _,_,I',rfl,q _ I.fresh⟩
 cases kd with
 |true=>exact EU (I.ok.hd hc) ob (by simpa using hi) hb go
 |false=>exact ET (I.ok.hd hc) ob (by simpa using hi) hb go
theorem yd (hc:X.calm=true):L2.CallR X (.builtin "sorted") (tD X):=by
 intro pins s σ H xs us Q I rx h;obtain⟨a,ks,rfl,ha,hl,q⟩:=h;obtain⟨u,rfl,ru⟩:=cV.one rx;cases ru;obtain⟨⟨o,es,ep,t,ho,v⟩,_,_⟩:=(show L2.ObjOk X.prog X.w H s.heap a (FX X.prog X.w a ks) from I.fT a _ ha);refine AE (I.ok.hd hc) ho v hl fun h' tk d' D out ns c hk hD hg hI hp hP=>?_;have hv:=Ey hI;have I':=(I.drew d').laid (h':=h') (t':=tk) (a:=D) (o:=.lst (ns.map V.int)) hk hD ⟨by rw[ai,hp.length_eq];exact fits_of_scanBound (Nat.lt_trans hl (by decide)),out.toList,c,hv,by rw[Array.toArray_toList];exact hg⟩;exact⟨.ref _,_,I',rfl,q D ns (I.fT.fresh hD) hp hP⟩
variable {a b:Expr}{fb gb:BD}{pos p p2 p3:Pos}
theorem jA {K:Fg}{H:Hp}{O:List Addr}:∀{ds:List D}{vs:List V}{is:List Int},gA ds=some is->Rs K H O ds vs->vs=is.map V.int:=by
 intro ds;induction ds with
 |nil =>
  intro vs is h q;cases h;cases q;rfl
 |cons d ds ih =>
  intro vs is h q;unfold gA at h;obtain⟨i,hd,h⟩:=Option.bind_eq_some_iff.mp h;cases hs:gA ds with
  |none=>rw[hs] at h;cases h
  |some js =>
   rw[hs,au] at h;cases h;cases d <;> first|(cases hd;done)|skip
   cases hd;cases q with
   |cons r rs =>
    cases r;rw[ih hs rs];rfl
theorem zF {K:Fg}{H:Hp}{O:List Addr}:∀(is:List Int),Rs K H O (is.map .int) (is.map V.int)
 |[]=>.nil
 |i::is=>.cons (.int i) (zF is)
theorem FY {H:Hp}{l:Addr}{o:HO}(h:H l=none):cY H (eF H l o):=fun b u e=>by rw[cC (cE e h)];exact e
theorem By (hm:X.mg "sorted" = none)(O8:X.mg "set" = none)(ha:DB X a fb)(hc:X.calm=true:=by rfl)(hg:L2.Gl X "sorted" := by rfl)(VG:L2.Gl X "set" := by rfl)
  (he:starEach [a] X.env=(false,eval a X.env)::starEach [] X.env:=by rfl) (vc:starEach [.Call (.Name "set" p2) [a] [] p3] X.env=(false,eval (.Call (.Name "set" p2) [a] [] p3) X.env)::starEach [] X.env:=by rfl) :
  DE X (.Call (.Name "sorted" p) [.Call (.Name "set" p2) [a] [] p3] [] pos) (d1 kz fb) :=
 (L2.pe_callB (yd hc) hg hm boot_sorted (L2.pa_cons (L2.pe_callTy (HJ hc) VG O8 boot_set (L2.pa_cons ha L2.pa_nil he) (by decide) (by decide) he) L2.pa_nil vc) (by decide) (by decide) vc).imp fun σ H Q h=>by
  obtain⟨ρ,O,M,cK,res,hE,hf,k⟩:=h;unfold d1 at hf;obtain⟨x,hx,hf⟩:=Option.bind_eq_some_iff.mp hf;refine⟨ρ,O,M,cK,x,hE,hx,fun vx H1 s1 q1=>?_⟩;cases x <;> first|(cases hf;done)|skip
  rename_i ds;obtain⟨c,vs,rfl,hq,rs⟩:=q1.list;unfold kz we at hf;rw[ae] at hf;obtain⟨is,hi,hf⟩:=Option.bind_eq_some_iff.mp hf;split at hf
  ·rename_i hz;cases hf;have ev:=jA hi rs;subst ev;show Oc X [.ref c] H1 fun y H2=>tD X [y] H2 Q;refine⟨true,c,is,rfl,hq,hz.1,fun l hl=>?_⟩;show tD X [.ref l] _ Q;have pm:=Ei is;refine⟨l,_,rfl,cN,by rw[pm.length_eq];exact hz.2,fun l2 ns Se hp hP=>?_⟩;have e:=FR (hp.trans pm) hP;subst e;have s2:cY H1 (eF H1 l (FX X.prog X.w l (m4 (fun i=>is.getD i 0) is.length))):=FY hl;exact zr (s1.trans s2) (zF _) k l2 Se
  ·cases hf
theorem JL {k:Int}:∀{is:List Int}{j:Nat},vt k is=some j->k∈is/\is.idxOf k=j:=by
 intro is;induction is with
 |nil=>intro j h;cases h
 |cons i is ih =>
  intro j h;unfold vt at h;split at h
  ·rename_i e;cases h;subst e;exact⟨aP ..,by simp⟩
  ·rename_i e;cases hi:vt k is with
   |none=>rw[hi] at h;cases h
   |some n =>
    rw[hi,au] at h;cases h;obtain⟨m,q⟩:=ih hi;refine⟨aG _ m,?_⟩;rw[List.idxOf_cons,show (i==k)=false from by simpa using e,q];rfl
noncomputable def F7 (X:Cx):V->List V->Hp->VK->Prop:=fun x xs H Q=>∃(c:Addr) (is:List Int) (k:Int) (j:Nat),x=.ref c/\xs=[.int k]/\jT X.K H c (is.map V.int)/\vt k is=some j/\Q (.int (j:Nat)) H
theorem GF:L2.MtR X "list.index" (F7 X):=by
 intro pins s σ H x xs v us Q I rx rv h;obtain⟨c,is,k,j,rfl,rfl,hq,hi,q⟩:=h;cases rx;obtain⟨u,rfl,ru⟩:=cV.one rv;obtain⟨t,rfl⟩:=(show ∃t,u=Value.int k t from ru);obtain⟨its,r,p,z⟩:=I.list hq;have ia:=pF r;obtain⟨hk,rfl⟩:=JL hi;obtain⟨⟨cls,dd,data,sl⟩,ho,hc,n,hd⟩:=p.isList;simp only at hc hd;subst hc hd;have hlen:=ia.length;have hj:is.idxOf k<is.length:=List.idxOf_lt_length_iff.mpr hk;rw[ai] at z;have hz:(is.length:Int)<2 ^ 63-1:=by
  have:sizeLine<2 ^ 62:=by decide
  omega
 refine call_meets PySem.F.slot_list_index ⟨_,ho,rfl⟩ PySem.F.entry_list_index (PySem.F.args_list_index_2 _ _)
  (list_indexAt c its.toArray n dd sl (.int k t) (isInt k) (is.idxOf k) (by simpa [hlen] using hj) ⋯ ?_ ?_) ⟨ho,fun y hy=>(eq_isInt k t ia y (by simpa using hy)).at _ _,⟨.int (is.idxOf k:Nat),H,I.tok _,⟨_,rfl⟩,q⟩⟩
 ·show isInt k its[is.idxOf k]=true;rw[isInt_at k ia _ ⋯ hj];simpa using bq hj
 ·intro j VB kX;show isInt k its[j]=false;rw[isInt_at k ia j (by simpa using VB) ⋯];exact ne_of_lt_idxOf kX _
theorem FN {K:Fg}{H H':Hp}{c:Addr}{vs:List V}(h:jT K H c vs)(s:cY H H'):jT K H' c vs:=by
 rcases h with (h|⟨o,h⟩)|h
 ·exact .inl (.inl (s _ _ h))
 ·exact .inl (.inr ⟨o,s _ _ h⟩)
 ·exact .inr h
theorem Hu (ha:DB X a fb)(hb:DB X b gb)(pV:attributeBase a "index" X.env (eval a X.env)=eval a X.env:=by rfl)
  (Bg:((backTo pos (starEach [b] X.env)).all (fun x=>!x.1)&&(backToKw pos (keywordEach [] X.env)).all (fun x=>x.1.isSome)
   && decide ([b].length+([]:List Keyword).length+(if ([]:List Keyword).isEmpty then 0 else 1)<30))=true:=by rfl)
  (pU:(p2.endLine==pos.line)=true:=by rfl) (hs:starEach [b] X.env=(false,eval b X.env)::starEach [] X.env:=by rfl) (oR:(backTo pos (starEach [] X.env)).any (·.1)=false:=by rfl) :
  DE X (.Call (.Attribute a "index" p2) [b] [] pos) (d2 qO fb gb) :=
 (L2.pe_bm PySem.F.plainAttrs_list PySem.F.slot_list_index PySem.F.type_list_index GF ha (L2.pa_cons hb L2.pa_nil hs) pV Bg pU hs oR).imp fun σ H Q h=>by
  obtain⟨ρ,O,M,cK,res,hE,hf,kk⟩:=h;unfold d2 at hf;cases hx:fb ρ with
  |none=>rw[hx] at hf;cases hf
  |some x =>
   rw[hx,ae] at hf;cases hy:gb ρ with
   |none=>rw[hy] at hf;cases hf
   |some y =>
    rw[hy,ae] at hf;refine⟨ρ,O,M,cK,x,hE,hx,fun vx H1 s1 q1=>?_⟩;cases x <;> first|(cases hf;done)|skip
    rename_i ds;obtain⟨c,vs,rfl,hq,rs⟩:=q1.list;refine⟨.inl ⟨rfl,vs,hq⟩,ρ,O,M,cK,y,hE.same s1,hy,fun vy H2 s2 q2=>?_⟩;unfold qO we at hf;rw[ae] at hf;cases hi:gA ds with
    |none=>rw[hi] at hf;cases hf
    |some is =>
     rw[hi,ae] at hf;cases y <;> first|(cases hf;done)|skip
     rename_i k;cases q2.int;rw[show yx (.int k)=some k from rfl,ae] at hf;cases hj:vt k is with
     |none=>rw[hj] at hf;cases hf
     |some j =>
      rw[hj,au] at hf;cases hf;have ev:=jA hi rs;subst ev;show F7 X (.ref c) [.int k] H2 Q;exact⟨c,is,k,j,rfl,rfl,FN hq s2,hj,kk _ _ (s1.trans s2) (.of (.int _))⟩
end
end DL
namespace L2
open PySem PySem.Spec PyProof.Rows
section
variable {prog:Program}{w:World}{A:Around}{E:Value->Shared->Prop}{s:Shared}
end
end L2
namespace DL
open PySem PySem.Spec PySem.SeqAt PyProof.Rows
open L2 (V Hp HO VK TE TT TA TS TI TG Cx Inv PE PT PA PS PSs PI PG jN jT cY eF cN cC cE cV dQ EP TP AP SP kJ It kf)
section
variable {X:Cx}{a:Expr}{fb:BD}{pos p:Pos}
end
end DL
namespace L2
open PySem PySem.Spec PyProof.Rows
section
variable {X:Cx}{a b:Expr}{ta:TA}{p p1 p2 pos:Pos}
end
end L2
namespace DL
open PySem PySem.Spec PySem.SeqAt
open L2 (V Hp St HO VK TE TT TA TS TI TG Cx Inv PE PT PA PS PSs PI PG jN jT cY eF cN cC cE cV dQ EP TP AP SP kJ It kf)
section
variable {X:Cx}{a b:Expr}{f g:ED}{p p1 p2 pos:Pos}
end
noncomputable def Be:D->Option (List D)
 |.dict kvs=>if dS kvs=true then some (kvs.map fun p=>.tuple [p.1,p.2]) else none
 |_=>none
noncomputable def xK (f:ED):AD:=fun ρ=>(f ρ).bind fun x=>Be x.1
noncomputable def fB (p:Nat)(ρ:Sl):Option (List Int):=match ρ[p]? with
 |some (some (.dict [(.list xs,.none)],true))=>gA xs
 |_=>none
noncomputable def sA (p:Nat)(ρ:Sl):Option (List Int):=match ρ[p]? with
 |some (some (.list xs,true))=>gA xs
 |_=>none
noncomputable def mI (ns:List Int):D:=iP (ns.map .int)
noncomputable abbrev MD:=List Int->List D->Option (D×List Int)
noncomputable def nE (i:Nat):BD:=fun ρ=>match ρ[i]? with
 |some (some (.dict [(.list xs,.none)],true))=>some (.list xs)
 |_=>none
noncomputable def rB (i:Nat)(k f:ED):SD:=fun ρ=>(f ρ).bind fun x=>(yx x.1).bind fun n=>(k ρ).bind fun y=>(yx y.1).bind fun j=>(fB i ρ).bind fun ns=>(yu ns.length j).bind fun p =>
 if jc (ρ.set i none)=true then some (.next (ρ.set i (some (mI (ns.set p n),true)))) else none
noncomputable def ku (i:Nat)(G:MD)(t:AD)(j:Nat):SD:=fun ρ=>(fB i ρ).bind fun ns=>(t ρ).bind fun ds=>(G ns ds).bind fun r =>
 if jc (ρ.set i none)=true/\i≠j then some (.next ((ρ.set i (some (mI r.2,true))).set j (some (r.1,false)))) else none
noncomputable def xf (i:Nat)(G:MD)(t:AD):SD:=fun ρ=>(sA i ρ).bind fun ns=>(t ρ).bind fun ds=>(G ns ds).bind fun r=>some (.next (ρ.set i (some (.list (r.2.map .int),true))))
noncomputable def yR (p:Nat)(it:AD)(g:GD)(b:SD):SD:=fun ρ=>if jc (ρ.set p none)=true/\(fB p ρ).isSome=true then (it (ρ.set p none)).bind fun ds=>fo g b ds ρ else none
noncomputable def uC (G:MD)(f1 f2:ED):ED:=fun ρ=>(f1 ρ).bind fun x=>(f2 ρ).bind fun y=>(Rk y).bind fun ds=>(gA ds).bind fun ns=>(G ns [x.1]).map fun r=>(r.1,false)
noncomputable def yX (n1:Nat)(ns:List Int)(ds:List D)(m:Nat):Sl:=(ds.take n1).map (fun d=>some (d,false))++some (mI ns,true)::((ds.drop n1).map (fun d=>some (d,false))++aK m none)
noncomputable def My (n n1 m:Nat)(b:SD)(f:ED):MD:=fun ns ds=>if ds.length+1=n/\n1<=ds.length then (b (yX n1 ns ds m)).bind fun fl=>match fl with
 |.next ρ=>(f ρ).bind fun r=>(fB n1 ρ).map fun ms=>(r.1,ms)
 |_=>none else none
noncomputable def kg:List D->List D->List (D×D)->Option (List (D×D))
 |x::xs,y::ys,kvs=>if ie x=true then kg xs ys (mB kvs x y) else none
 |_,_,kvs=>some kvs
noncomputable def BF (f g:AD):ED:=fun ρ=>(f ρ).bind fun xs=>(g ρ).bind fun ys=>if xs.length<=sizeLine then (kg xs ys []).map fun kvs=>(.dict kvs,false) else none
section
variable {prog:Program}{w:World}{A:Around}{E:Value->Shared->Prop}{s:Shared}{d it v:Addr}{od:Obj}{ds:Array DictEntry}{ep i n:Nat}{ok ov:Value}
theorem BK {Q:Value->Shared->Prop}(hd:(d==sysModules)=false)(ho:s.heap.get? d=some od)(hc:od.ExactDict)
  (hQ:Q (.ref s.heap.objs.size) { s with heap:=s.heap.push { cls:=.type "dict_items", data:=.fields #[.ref d] } }):wpAny (model prog w) A (call (.builtin "dict.items") [.ref d]) Q E s:=by
 have hT:s.TypeIs (.ref d) "dict" := ⟨od,ho,hc.1⟩;refine wpAny_call_entry F.slot_dict_items hT F.entry_dict_items ?_ (F.args_dict_items_1 _);unfold Builtin.«dict.items»;refine aa ?_;unfold Builtin.Dict.noArgs;refine aa (wpAny_notOrdered_dict hT ?_);show wpAny _ _ (pure d) _ _ s;refine ah ?_;show wpAny _ _ (Builtin.Dict.showsAll d>>=_) _ _ s;unfold Builtin.Dict.showsAll;rw[if_neg (by rw[hd];exact Bool.false_ne_true)];refine aa (ah ?_);exact aa (bp (ah ⟨_,rfl,hQ⟩))
theorem Bc {Q:Value->Shared->Prop}(hv:s.heap.IsItemsView v d)(ho:s.heap.get? d=some od)(Bh:od.data=.dict ds ep)(hn:ds.size=n)
  (hQ:Q (.ref s.heap.objs.size) { s with heap:=s.heap.push { cls:=.type "dict_itemiterator", data:=.fields #[.none,.bool false,.ref d,.int 0 0,.int n 0,.int ep 0,.none,.none] } }):wpAny (model prog w) A (pyIter (.ref v)) Q E s:=by
 obtain⟨oV,Vp,hcV,VN⟩:=id hv;refine wpAny_pyIter_slot hv.typeIs F.slot_dict_items_iter (wpAny_call_entry F.slot_dict_items_iter hv.typeIs F.entry_dict_items_iter ?_ (F.args_dict_items_iter_1 _));unfold Builtin.«dict_items.__iter__»;refine aa (ah (aa ?_));unfold Builtin.Dict_items.dictOf;refine aa (bh Vp VN (x:=.ref d) rfl (ah (aa ?_)));unfold Builtin.Dict_items.newIterator;refine aa (wpAny_dictEntries ho Bh (aa (wpAny_dictEpoch ho Bh ?_)));have xO:Builtin.Dict_items.ownsTuple "dict_itemiterator" = true:=by decide
 simp only[xO,if_true];refine bp (ah ⟨_,rfl, "dict_itemiterator", _,⟨_,az _ rfl,rfl⟩,F.slot_dict_itemiterator_next.lookup,?_⟩) (by simp only[sizeOk,Builtin.Dict_items.ownedTupleFields,aL,aw,aJ,WO,sizeLine_eq];omega);simpa [rawInt,hn,Builtin.Dict_items.ownedTupleFields] using hQ
theorem A2 {Q:Option Value->Shared->Prop}(gC:IsItemIter s.heap it d i n ep ok ov)(GZ:s.heap.get? d=some od)(G5:od.data=.dict ds ep)(hn:ds.size=n)(hi:i<ds.size)
  (hQ:∀h',IsItemIterOut h' it d (i+1) n ep ds[i].key ds[i].val s.heap.objs.size->h'.get? s.heap.objs.size=some { cls:=.type "tuple", data:=.seq #[ds[i].key,ds[i].val] }->h'.objs.size=s.heap.objs.size+1 →
   (∀b o,b≠it->s.heap.get? b=some o->h'.get? b=some o)->Q (some (.ref s.heap.objs.size)) { s with heap:=h' }):wpAny (model prog w) A (pyNext (.ref it)) Q E s:=by
 obtain⟨hp,g,dr,tk,os⟩:=s;have hT:Shared.TypeIs ⟨hp,g,dr,tk,os⟩ (.ref it) "dict_itemiterator" := ⟨_,gC,rfl⟩;unfold pyNext;refine aa (wpAny_attempt (wpAny_callSpecial?_slot (name:=Str.ofString "__next__") hT F.slot_dict_itemiterator_next (wpAny_call_entry F.slot_dict_itemiterator_next hT F.entry_dict_itemiterator_next ?_ (F.args_dict_itemiterator_next_1 _))));refine aa (ah (aa (aa ?_)));first|refine aa (wpAny_typeNameOfWhole_itemiter hT (ah ?_))|refine aa (wpAny_typeNameOf_itemiter hT (ah ?_)) <;> skip
 refine aa (wpAny_fieldsOf gC rfl ?_);have xO:Builtin.Dict_items.ownsTuple "dict_itemiterator" = true:=by decide
 simp only[xO,if_true];show wpAny _ _ (if (Value.ref d==Value.none)=true then _ else _) _ _ _;rw[if_neg (show ¬((Value.ref d==Value.none)=true) from Bool.false_ne_true)];refine aa (ah (aa (wpAny_dictEntries GZ G5 ?_)));rw[if_neg (by rw[hn];simp)];refine aa (ah (aa (wpAny_dictEpoch GZ G5 ?_)));rw[if_neg (by simp)];refine ah ?_;simp only[show ¬((i:Int)<0) from by omega,if_false,aQ,aS hi];refine aa ?_
 first|refine aa (wpAny_typeNameOfWhole_itemiter hT (ah ?_))|refine aa (wpAny_typeNameOf_itemiter hT (ah ?_)) <;> skip
 refine aa (wpAny_isOneOf_itemiter hT ?_);show wpAny _ _ (setField (.ref it) 3 (rawInt ((i:Int)+1))>>=_) _ _ ⟨hp,g,dr,tk,os⟩;refine aa (bc gC (by simp) fun h1 Pk Fh=>?_)
 replace Fh:Heap.SameBut it hp h1:=Fh
 replace Pk:IsItemIter h1 it d (i+1) n ep ok ov:=by
  have e:((i+1:Nat):Int)=(i:Int)+1:=by omega
  unfold IsItemIter;rw[e];simpa [rawInt] using Pk
 have Pu:Shared.TypeIs ⟨h1,g,dr,tk,os⟩ (.ref it) "dict_itemiterator" := ⟨_,Pk,rfl⟩;refine aa (bx (aa (wpAny_isOneOf_itemiter Pu (aa (wpAny_isOneOf_itemiter Pu ?_)))));show wpAny _ _ (Builtin.Dict_items.pairFromOwner (.ref it) 6 ds[i].key ds[i].val) _ _ ⟨h1,g,dr,tk,os⟩;unfold Builtin.Dict_items.pairFromOwner;refine aa (wpAny_newTuple ?_);have vc:IsItemIter (h1.push { cls:=.type "tuple", data:=.seq #[ds[i].key,ds[i].val] }) it d (i+1) n ep ok ov:=af _ Pk;generalize QA:h1.push { cls:=.type "tuple", data:=.seq #[ds[i].key,ds[i].val] }=h2 at vc;have xM:h1.objs.size=hp.objs.size:=Fh.1;have VD:it<hp.objs.size:=aD gC;have Vj:h2.get? hp.objs.size=some { cls:=.type "tuple", data:=.seq #[ds[i].key,ds[i].val] }:=by rw[<-QA,<-xM];exact az _ rfl
 have zH:h2.objs.size=hp.objs.size+1:=by rw[<-QA,bf,xM]
 have Ic:∀b o,b≠it->hp.get? b=some o->h2.get? b=some o:=fun b o hb e=>by rw[<-QA];exact af _ (Fh.extBut b o hb e)
 show wpAny _ _ (Builtin.Dict_items.ownedTupleIsFree (.ref it)>>=_) _ _ ⟨h2,g,dr,tk,os⟩;rw[xM];clear QA Pk Fh Pu xM h1;refine aa ?_;unfold Builtin.Dict_items.ownedTupleIsFree;refine aa (bh vc rfl (x:=.none) rfl (ah ?_));simp only[if_true];refine aa (bh vc rfl (x:=ok) rfl (aa (bh vc rfl (x:=ov) rfl (aa (bc vc (by simp) fun h3 Ss C1=>?_)))))
 replace C1:Heap.SameBut it h2 h3:=C1
 replace Ss:IsItemIter h3 it d (i+1) n ep ds[i].key ov:=Ss
 refine aa (bc Ss (by simp) fun h4 Sr Qz=>?_)
 replace Qz:Heap.SameBut it h3 h4:=Qz
 replace Sr:IsItemIter h4 it d (i+1) n ep ds[i].key ds[i].val:=Sr
 refine aa (bc Sr (by simp) fun h5 Sq Qy=>?_)
 replace Qy:Heap.SameBut it h4 h5:=Qy
 replace Sq:IsItemIterOut h5 it d (i+1) n ep ds[i].key ds[i].val hp.objs.size:=Sq
 refine aa (bc Sq (by simp) fun h6 VM Qx=>?_)
 replace Qx:Heap.SameBut it h5 h6:=Qx
 have st:∀b o,b≠it->h2.get? b=some o->h6.get? b=some o:=fun b o hb e=>Qx.extBut b o hb (Qy.extBut b o hb (Qz.extBut b o hb (C1.extBut b o hb e)));refine aa (wpAny_letGo (ah (ah ⟨_,rfl,ah (hQ h6 VM (st _ _ (br VD) Vj) ?_ fun b o hb e=>st b o hb (Ic b o hb e))⟩)));show h6.objs.size=hp.objs.size+1;rw[Qx.1,Qy.1,Qz.1,C1.1,zH]
theorem Az {Q:Option Value->Shared->Prop}(hh:A.handled=none)(gC:IsItemIter s.heap it d i n ep ok ov)(GZ:s.heap.get? d=some od)(G5:od.data=.dict ds ep)(hn:ds.size=n)(hi:ds.size<=i)
  (hQ:∀h',Heap.ExtBut it s.heap h'->Q none { s with heap:=h' }):wpAny (model prog w) A (pyNext (.ref it)) Q E s:=by
 have hT:s.TypeIs (.ref it) "dict_itemiterator" := ⟨_,gC,rfl⟩;unfold pyNext;refine aa (wpAny_attempt (wpAny_callSpecial?_slot (name:=Str.ofString "__next__") hT F.slot_dict_itemiterator_next (wpAny_call_entry F.slot_dict_itemiterator_next hT F.entry_dict_itemiterator_next ?_ (F.args_dict_itemiterator_next_1 _))));refine aa (ah (aa (aa ?_)));first|refine aa (wpAny_typeNameOfWhole_itemiter hT (ah ?_))|refine aa (wpAny_typeNameOf_itemiter hT (ah ?_)) <;> skip
 refine aa (wpAny_fieldsOf gC rfl ?_);have xO:Builtin.Dict_items.ownsTuple "dict_itemiterator" = true:=by decide
 simp only[xO,if_true];show wpAny _ _ (if (Value.ref d==Value.none)=true then _ else _) _ _ s;rw[if_neg (show ¬((Value.ref d==Value.none)=true) from Bool.false_ne_true)];refine aa (ah (aa (wpAny_dictEntries GZ G5 ?_)));rw[if_neg (by rw[hn];simp)];refine aa (ah (aa (wpAny_dictEpoch GZ G5 ?_)));rw[if_neg (by simp)];refine ah ?_;simp only[show ¬((i:Int)<0) from by omega,if_false,aQ,Xe hi];refine aa ?_
 first|refine aa (wpAny_typeNameOfWhole_itemiter hT (ah ?_))|refine aa (wpAny_typeNameOf_itemiter hT (ah ?_)) <;> skip
 show wpAny _ _ (setField (.ref it) 2 .none>>=_) _ _ s;refine aa (wpAny_setField gC rfl (by simp) ?_);show wpAny _ _ (newExc (.type "StopIteration") []>>=_) _ _ _;refine aa ?_;simp only[newExc,newTuple];refine aa (bp ?_ (by size_fits));refine aa (m:=firstArgMember _ _) (wpAny_of_eq (a:=Value.none) (by first|rfl|(simp only[firstArgMember];rfl)) ?_);refine bp ?_ (by size_fits);simp only[raiseNew];refine aa (wpAny_handled ?_);rw[show A.in1.handled=none from hh];refine aa (ah (wpAny_throw ?_));refine aa (wpAny_isInstance (T := "StopIteration") (b:=true) ⟨_,az _ rfl,rfl⟩ isSubtype_stop ?_);exact ah (hQ _ (((Heap.SameBut.update ..).extBut.push _).push _))
theorem AH:entryFor table "dict_itemiterator.__iter__" = some Builtin.«dict_keyiterator.__iter__»:=entryFor_alias (id' := "dict_keyiterator.__iter__") (by kernel_rfl) (by first|rfl|decide +kernel|(unfold String.splitOn;simp +decide [String.splitOnAux])) (by decide +kernel) (by kernel_rfl)
theorem AG {Q:Value->Shared->Prop}(gC:IsItemIter s.heap it d i n ep ok ov)(h:Q (.ref it) s):wpAny (model prog w) A (pyIter (.ref it)) Q E s:=by
 have hT:s.TypeIs (.ref it) "dict_itemiterator" := ⟨_,gC,rfl⟩;refine wpAny_pyIter_slot hT F.slot_dict_itemiterator_iter (wpAny_call_entry F.slot_dict_itemiterator_iter hT AH ?_ (F.args_dict_itemiterator_iter_1 _));show wpAny _ _ (ret (.ref it)) _ _ s;exact ah ⟨_,rfl, "dict_itemiterator", _,hT,F.slot_dict_itemiterator_next.lookup,h⟩
end
noncomputable def Ut (a:Addr)(es:Es):It:=⟨fun i H=>H a=some (lT a es)/\i<es.2.length,fun i H x H'=>∃T p,x=.ref T/\H T=none/\H'=eF H T (.tup [p.2.1,p.2.2])/\es.2[i]?=some p,fun i H=>H a=some (lT a es)/\es.2.length<=i⟩
theorem Av {P:Program}{w:World}{K:Fg}{yG:List Expr}{tk:Nat}{tp:Pos}(a it:Addr)(es:Es)(QB:a≠it):L2.Turn P w K (.Tuple yG tk tp) (Ut a es) [it] it (fun i h=>∃ep ok ov,(∃ds,es.1.data=.dict ds ep)/\IsItemIter h it a i es.2.length ep ok ov) where
 mem:=by simp
 obj:=fun i h st b hb=>by
  have e:b=it:=by simpa using hb
  subst e;obtain⟨ep,ok,ov,_,st⟩:=st;exact⟨_,st,fun v z=>by cases z⟩
 keep:=fun i h h' st k=>by
  obtain⟨ep,ok,ov,q,st⟩:=st;exact⟨ep,ok,ov,q,k it (by simp) _ st⟩
 item:=by
  intro X hP hw hK hc i pins s σ H E I hf st hg;subst hP hw hK;obtain⟨ha,hi⟩:=hg;obtain⟨ep,ok,ov,⟨ds,wk⟩,st⟩:=st;obtain⟨⟨z,y,e1,xs,p,EM,J4,e2,e3,e4,e5⟩,_,_⟩:=(show L2.ObjOk X.prog X.w H s.heap a (lT a es) from I.fT a _ ha);rw[wk] at e3;cases e3;have fe:=hf it (by simp);have hl:=p.length;have hz:ds.size=es.2.length:=by rw[<-aT,e4,ai,hl]
  have xS:i<ds.size:=by omega
  have OY:i<xs.length:=by omega
  have ek:ds[i]=Bv xs[i]:=by
   have:ds.toList[i]?=some (Bv xs[i]):=by rw[e4,ay,aq OY];rfl
   rw[b4,aS xS] at this;exact Option.some.inj this
  obtain⟨x,hx,pe⟩:=oH p (aq hi);rw[aq OY] at hx;cases hx;have TQ:it<s.heap.objs.size:=aD st;have fr:H s.heap.objs.size=none:=I.fT.fresh (aE _);refine A2 st e1 wk hz xS fun h' ho hT pT hk=>⟨_,rfl,?_⟩;have I1:Inv X pins σ (eF H s.heap.objs.size (.tup [es.2[i].2.1,es.2[i].2.2])) { s with heap:=h',toks:=s.toks }:=by
   refine I.qD (fp:=[it]) (fun b o hb q=>hk b o (fun z=>hb (by simp[z])) q) (fun b hb=>?_) hf (aE _) ⟨L2.sz2',[ds[i].key,ds[i].val],?_,⟨_,hT,rfl,_,rfl⟩⟩
   ·have z:b=it:=by simpa using hb
    subst z;exact⟨_,ho⟩
   ·rw[ek,pe.2.1];exact .cons rfl (.cons pe.2.2 .nil)
  refine wpAny_letOwnedTupleGo_items (s:={ s with heap:=h',toks:=s.toks }) ho fun h2 vc oQ=>?_;have I2:Inv X pins σ (eF H s.heap.objs.size (.tup [es.2[i].2.1,es.2[i].2.2])) { s with heap:=h2,toks:=s.toks } :=
   Inv.turned (s:={ s with heap:=h',toks:=s.toks }) (it:=it) (t':=s.toks) I1 (fun b o hb q=>(oQ.2 b hb).trans q) (by rw[cC (aN TQ)];exact fe.1) fe.2.1 fe.2.2.2.1 fe.2.2.2.2.1 fe.2.2.2.2.2
  refine⟨.ref s.heap.objs.size,_,I2,rfl,⟨_,es.2[i],rfl,fr,rfl,aq hi⟩,⟨ep,_,_,⟨ds,wk⟩,vc⟩,fun b hb=>?_⟩;have z:b=it:=by simpa using hb
  subst z;rw[cC (aN TQ)];exact fe.1
 done:=by
  intro X hP hw hK hc i pins s σ H E I hf st hg;subst hP hw hK;obtain⟨ha,hi⟩:=hg;obtain⟨ep,ok,ov,⟨ds,wk⟩,st⟩:=st;obtain⟨⟨z,y,e1,xs,p,EM,J4,e2,e3,e4,e5⟩,_,_⟩:=(show L2.ObjOk X.prog X.w H s.heap a (lT a es) from I.fT a _ ha);rw[wk] at e3;cases e3;obtain⟨f0,f1,f2,f3,f4,f5⟩:=hf it (by simp);have hl:=p.length;have hz:ds.size=es.2.length:=by rw[<-aT,e4,ai,hl]
  exact Az (I.ok.hd hc) st e1 wk hz ⋯ fun h' eb=>⟨rfl,I.turned (t':=s.toks) (fun b o hb e=>eb b o hb e) f0 f1 f3 f4 f5⟩
 self:=fun _ _ _ _ _ st h=>by
  obtain⟨_,_,_,_,st⟩:=st;exact AG st h
theorem xI {K:Fg}{H:Hp}{M O:List Addr}{a:Addr}{kvs:List (D×D)}{es:Es}(h:H a=some (lT a es))(n:a∉M)(q:Rd K H O kvs es.2):nG K (Ut a es) (kvs.map fun p=>.tuple [p.1,p.2]) M O H:=by
 intro O2 H2 x;have h2:=x.ext _ _ n h;have q2:=q.ext x;have hl:=q.length;refine⟨fun i d e=>?_,h2,by rw[ai,hl];exact aE _⟩;rw[ay] at e;cases e':kvs[i]? with
 |none=>rw[e'] at e;cases e
 |some p =>
  rw[e'] at e;cases e;obtain⟨u,v,eu,r1,r2⟩:=q2.get e';have hi:=(List.getElem?_eq_some_iff.mp eu).1;refine⟨⟨h2,hi⟩,fun y H3 ⟨T,p',ey,hT,eH,hp⟩=>?_⟩;subst ey eH;rw[eu] at hp;cases hp;have s2:cY H2 (eF H2 T (.tup [u,v])):=fun b o e=>by rw[cC (cE e hT)];exact e
  exact⟨s2,.tuple (.inl (.inl cN)) (.cons (r1.same s2) (.cons (r2.same s2) .nil))⟩
section
variable {X:Cx}{e:Expr}{f:ED}{p pos tp:Pos}{yG:List Expr}{tk:Nat}
theorem Hq (h:DE X e f)(pV:attributeBase e "items" X.env (eval e X.env)=eval e X.env:=by rfl)(pU:(p.endLine==pos.line)=true:=by rfl):DI X (.Tuple yG tk tp) (.Call (.Attribute e "items" p) [] [] pos) (xK f):=by
 intro pins s σ H R I ⟨ρ,O,M,cK,ks,hE,hf,k⟩;unfold xK at hf;obtain⟨r,hr,hf⟩:=Option.bind_eq_some_iff.mp hf;refine wpAny_Call_method0_late pV pU (L2.thn (h pins s σ H _ I ⟨ρ,O,M,cK,r,hE,hr,fun v H1 s1 q1=>(⟨s1,q1⟩:cY H H1/\yl X.K H O H1 r v)⟩) fun v s1 zz=>?_);obtain ⟨x,H1,I1,r1,s2,q1⟩:=zz;have q:=q1.toR hE.ne;unfold Be at hf;cases e0:r.1 <;> rw[e0] at hf <;> first|cases hf|skip
 rename_i kvs;rw[e0] at q;dsimp only at hf;split at hf
 ·rename_i hk;cases hf;cases q with
  |@dict a _ es ha na hd =>
   cases (show v=Value.ref a from r1);obtain⟨⟨z,y,e1,xs,p,ds,ep,e2,e3,e4,e5⟩,_,_⟩:=(show L2.ObjOk X.prog X.w H1 s1.heap a (lT a es) from I1.fT a _ ha);have hl:=p.length;have hz:ds.size=es.2.length:=by rw[<-aT,e4,ai,hl]
   have alt:a<s1.heap.objs.size:=aD e1;refine⟨"dict", "dict.items", F.plainAttrs_dict,F.slot_dict_items,F.type_dict_items,⟨_,e1,e2.1⟩,fun b eb=>by cases eb;exact⟨_,e1,e2.2.1⟩,PySem.Calls.callWith_builtin rfl (PySem.evalArgs_none (BK y e1 e2 ?_))⟩;refine Bc (s:={ s1 with heap:=s1.heap.push { cls:=.type "dict_items", data:=.fields #[.ref a] } }) ⟨_,az _ rfl,rfl,rfl⟩ (af _ e1) e3 hz ?_;have pT:(s1.heap.push { cls:=.type "dict_items", data:=.fields #[.ref a] }).objs.size=s1.heap.objs.size+1:=bf ..;rw[pT];refine⟨s1.heap.objs.size+1,[s1.heap.objs.size+1],_,_,H1,rfl,I1.kept (t':=s1.toks) fun b o e=>af _ (af _ e),Av a _ es (aN (bE alt)),⟨ep,.none,.none,⟨ds,e3⟩,?_⟩,fun b hb=>?_,k _ H1 s2 (xI ha (fun z=>na ((hE.same s2).sub _ z)) hd)⟩
   ·have q:=az (s1.heap.push { cls:=.type "dict_items", data:=.fields #[.ref a] }) (o:={ cls:=.type "dict_itemiterator", data:=.fields #[.none,.bool false,.ref a,.int 0 0,.int es.2.length 0,.int ep 0,.none,.none] }) rfl;rw[pT] at q;exact q
   ·have e:b=s1.heap.objs.size+1:=by simpa using hb
    subst e;exact I1.zP (bR _) (I1.fT.fresh (bR _))
 ·cases hf
end
theorem lO (K:Fg)(H:Hp)(O:List Addr):∀ns:List Int,Rs K H O (ns.map .int) (ns.map V.int)
 |[]=>.nil
 |n::ns=>.cons (.int n) (lO K H O ns)
theorem tT:∀ns:List Int,gA (ns.map .int)=some ns
 |[]=>rfl
 |n::ns=>by simp only[aC,gA,yx,ae,tT ns,au]
theorem iq {p:Nat}{ρ:Sl}{ns:List Int}(h:fB p ρ=some ns):∃xs,ρ[p]?=some (some (iP xs,true))/\gA xs=some ns:=by
 unfold fB at h;split at h
 ·rename_i xs e;exact⟨xs,e,h⟩
 ·cases h
theorem xl {p:Nat}{ρ:Sl}{ns:List Int}(h:sA p ρ=some ns):∃xs,ρ[p]?=some (some (.list xs,true))/\gA xs=some ns:=by
 unfold sA at h;split at h
 ·rename_i xs e;exact⟨xs,e,h⟩
 ·cases h
theorem Ef {ρ:Sl}{i j:Nat}{xs:List D}(no:jc (ρ.set i none)=true)(e:ρ[j]?=some (some (iP xs,true))):i=j:=by
 by_cases z:i=j
 ·exact z
 ·exact (wb no (by rw[aj z];exact e)).elim
theorem ER.OK {K:Fg}{H:Hp}{O M:List Addr}{cK:Nat->Addr}{ρ:Sl}{σ:St}{i:Nat}{ds EM:List D}{Dx:List V}(h:ER K H O M cK ρ σ)(hr:ρ[i]?=some (some (iP ds,true)))(no:jc (ρ.set i none)=true)(q:Rs K H O EM Dx) :
  ER K (eF H (cK i) (.lst Dx)) O M cK (ρ.set i (some (iP EM,true))) σ:=by
 have hi:i<ρ.length:=(List.getElem?_eq_some_iff.mp hr).1;obtain⟨e1,us,e2,e3,e4,q0⟩:=h.le i _ hr;generalize ha:cK i=a at e1 e2 e3 e4;have x:jO [a] O H O (eF H a (.lst Dx)):=by
  refine⟨fun b xs e=>?_,fun b o u e=>?_,fun b xs n e=>?_,fun b φ n e=>?_,fun b hb=>.inl hb,fun b hb=>(List.mem_singleton.mp hb)▸e3⟩
  ·rw[cC (fun (z:b=a)=>by rw[z,e2] at e;cases e)];exact e
  ·rw[cC (fun (z:b=a)=>by rw[z,e2] at e;cases e)];exact e
  ·rw[cC (fun (z:b=a)=>n (by rw[z];exact List.mem_singleton.mpr rfl))];exact e
  ·rw[cC (fun (z:b=a)=>n (by rw[z];exact List.mem_singleton.mpr rfl))];exact e
 have ne:∀b∈M,b≠a:=fun b hb z=>e4 (z▸hb);refine⟨fun j d' ej=>?_,fun j d' ej=>?_,fun j d' ej=>?_,fun j k d' e' b e5 e6 e7 e8=>?_,fun b hb=>?_,h.sub,by rw[aX];exact h.len,h.dp.go x (fun j c ej=>?_) (fun b hb _=>⟨hb,fun _ e=>by rw[cC (ne b hb)];exact e⟩) fun j es c ej ec=>.inr ?_⟩
 ·have nj:i≠j:=fun z=>by subst z;rw[aA hi] at ej;cases ej
  rw[aj nj] at ej;obtain⟨v,e5,q5⟩:=h.sh j d' ej;exact⟨v,e5,q5.ext x⟩
 ·have nj:i≠j:=fun z=>by subst z;rw[aA hi] at ej;cases ej
  rw[aj nj] at ej;obtain⟨b,Cj,e6,e7,e8,q5⟩:=h.ow j d' ej;exact⟨b,Cj,e6,by rw[cC (ne b e8)];exact e7,e8,q5.ext x⟩
 ·by_cases hj:i=j
  ·subst hj;rw[aA hi] at ej;cases ej;rw[ha];exact⟨e1,Dx,cN,e3,e4,q.ext x⟩
  ·rw[aj hj] at ej;exact absurd (Ef no ej) hj
 ·have nj:i≠j:=fun z=>by subst z;rw[aA hi] at e5;cases e5
  have nk:i≠k:=fun z=>by subst z;rw[aA hi] at e6;cases e6
  rw[aj nj] at e5;rw[aj nk] at e6;exact h.ap j k d' e' b e5 e6 e7 e8
 ·by_cases hz:b=a
  ·subst hz;exact⟨.inl Dx,cN⟩
  ·rw[cC hz];exact h.tr b hb
 ·have nj:i≠j:=fun z=>by
   subst z;rw[aA hi] at ej;have:=congrArg (fun (x:Option (Option Vl))=>match x with|some (some (.dict [(_,.none)],_))=>true|_=>false) ej;simp[iP,nY] at this
  rw[aj nj] at ej;exact⟨ej,rfl⟩
 ·have nj:i≠j:=fun z=>by subst z;rw[aA hi] at ej;cases ej
  rw[aj nj] at ej;exact⟨j,es,ej,ec⟩
theorem iB.putL {cT M:List Addr}{cM H:Hp}{a:Addr}{us vs:List V}(x:iB cT cM M H)(ha:a∈cT)(e:H a=some (.lst us)):iB cT cM M (eF H a (.lst vs)) where
 keep:=fun b o n q=>by rw[cC (fun (z:b=a)=>n (z▸ha))];exact x.keep b o n q
 tup:=fun b xs q=>by
  have:=x.tup b xs q;rw[cC (fun (z:b=a)=>by rw[z,e] at this;cases this)];exact this
 frz:=fun b o u q=>by
  have:=x.frz b o u q;rw[cC (fun (z:b=a)=>by rw[z,e] at this;cases this)];exact this
 new:=x.new
 there:=fun b hb=>by
  by_cases z:b=a
  ·subst z;rw[cN];simp
  ·rw[cC z];exact x.there b hb
def Ld (p:Nat)(X:Cx)(st:Stmt)(F:SD):Prop:=∀B cM cT cK,cK p∈cT->PS X st (uS X.K B cM cT cK F)
def Ah (p:Nat)(X:Cx)(st:List Stmt)(F:SD):Prop:=∀B cM cT cK,cK p∈cT->PSs X st (uS X.K B cM cT cK F)
section
variable {X:Cx}{p:Nat}{e c tg iter:Expr}{es:List Expr}{f:ED}{t:TD}{pos:Pos}{st:Stmt}{gm body:List Stmt}{F G:SD}{it:AD}{gd:GD}
theorem Dg (h:DS X st F):Ld p X st F:=fun B cM cT cK _=>h B cM cT cK
theorem qh (h1:Ld p X st F)(h2:Ah p X gm G):Ah p X (st::gm) (cI F G):=fun B cM cT cK hp=>(L2.pss_cons (h1 B cM cT cK hp) (h2 B cM cT cK hp)).imp fun E σ H zz=>by
 obtain ⟨ρ,fl,hR,hf,k⟩:=zz;unfold cI at hf;obtain⟨xW,hx,hf⟩:=Option.bind_eq_some_iff.mp hf;refine⟨ρ,xW,hR,hx,?_⟩;cases xW with
 |next de=>exact fun eX H' r=>⟨de,fl,r,hf,k⟩
 |ret r=>cases hf;exact k
 |brk de=>cases hf;exact k
 |cont de=>cases hf;exact k
theorem xY (h1:Ld p X st F):Ah p X [st] F:=fun B cM cT cK hp=>L2.pss_one (h1 B cM cT cK hp)
theorem EL (hc:DT X c t)(hb:Ah p X body F)(hp:PassesOwn (model X.prog X.w) X.A X.env X.xe:=by exact PassesOwn.never):Ld p X (.While c body [] pos) (km t F):=fun B cM cT cK hm=>(L2.ps_while hp hc (hb B cM cT cK hm)).imp fun E σ H zz=>by
 obtain ⟨ρ,fl,hR,hf,k⟩:=zz;obtain⟨n,hn⟩:=rA hf;refine⟨fun m eX H'=>∃de,SR X.K B cM cT cK de eX H'/\eL t F m de=some fl,⟨n,ρ,hR,hn⟩,?_⟩;rintro m eX H' ⟨de,⟨M,hx,hB,hE⟩,hw⟩;cases m with
 |zero=>cases hw
 |succ m =>
  unfold eL at hw;obtain⟨c,ht,hw⟩:=Option.bind_eq_some_iff.mp hw;refine⟨de,_,M,cK,c,hE,ht,fun H1 s1=>?_⟩;have r1:SR X.K B cM cT cK de eX H1:=⟨M,hx.trans (.same s1),hB,hE.same s1⟩;cases c with
  |false =>
   dsimp only at hw ⊢;rw[if_neg Bool.false_ne_true] at hw ⊢;cases hw;exact k eX H1 r1
  |true =>
   dsimp only at hw ⊢;rw[if_pos rfl] at hw ⊢;obtain⟨xW,hF,hw⟩:=Option.bind_eq_some_iff.mp hw;refine⟨fun sg H2=>∃hZ,SR X.K B cM cT cK hZ sg H2/\eL t F m hZ=some fl,fun sg H2 r2=>⟨m,bQ m,r2⟩,de,xW,r1,hF,?_⟩;cases xW with
   |next hZ=>exact fun Fn H4 r4=>⟨hZ,r4,hw⟩
   |cont hZ=>exact fun Fn H4 r4=>⟨hZ,r4,hw⟩
   |brk hZ=>cases hw;exact k
   |ret r=>cases hw;exact k
theorem ER.hide {K:Fg}{H:Hp}{B M:List Addr}{cK:Nat->Addr}{ρ:Sl}{σ:St}{ds:List D}(h:ER K H (M++B) M cK ρ σ)(hr:ρ[p]?=some (some (iP ds,true)))(no:jc (ρ.set p none)=true) :
  ER K H ((cK p::M)++B) (cK p::M) cK (ρ.set p none) σ:=by
 obtain⟨e1,us,e2,e3,e4,q0⟩:=h.le p _ hr;have hi:p<ρ.length:=(List.getElem?_eq_some_iff.mp hr).1;have back:∀{j:Nat}{x:Vl},(ρ.set p none)[j]?=some (some x)->ρ[j]?=some (some x):=fun {j x} ej=>by
  by_cases z:p=j
  ·subst z;rw[aA hi] at ej;cases ej
  ·rw[aj z] at ej;exact ej
 have m:∀b∈(cK p::M)++B,b∈M++B:=fun b hb=>(mi hb).elim (fun z=>z▸e3) id;have x:jO [] (M++B) H ((cK p::M)++B) H:=.less m;refine⟨fun j d ej=>?_,fun j d ej=>?_,fun j d ej=>(wb no ej).elim,fun j k d e a e5 e6=>h.ap j k d e a (back e5) (back e6),fun b hb=>h.tr b (m b hb),fun b hb=>aV _ hb,by rw[aX];exact h.len,h.dp.go x (fun j c ej=>⟨back ej,rfl⟩) (fun b hb _=>⟨aG _ hb,fun _ e=>e⟩) fun j es c ej ec=>.inr ⟨j,es,back ej,ec⟩⟩
 ·obtain⟨v,e5,q5⟩:=h.sh j d (back ej);exact⟨v,e5,q5.ext x⟩
 ·obtain⟨a,vs,e5,e6,e7,q5⟩:=h.ow j d (back ej);exact⟨a,vs,e5,e6,aG _ e7,q5.ext x⟩
noncomputable def UE (K:Fg)(p:Nat)(F:SD):TS:=fun E σ H=>∃B cM cT cK,cK p∈cT/\uS K B cM cT cK F E σ H
theorem Ah.x (h:Ah p X gm F):PSs X gm (UE X.K p F):=fun pins s σ H D I ⟨B,cM,cT,cK,hp,q⟩=>h B cM cT cK hp pins s σ H D I q
theorem J5 (hc:X.calm=true)(hi:DI X tg iter it)(hg:DG X tg gd)(hb:Ah p X body F)(hp:PassesOwn (model X.prog X.w) X.A X.env X.xe:=by exact PassesOwn.never)
  (hs:∀x,foldedSetIterable iter X.env x=pure x:=by intro _;rfl):Ld p X (.For tg iter body [] pos) (yR p it gd F):=fun B cM cT cK hm=>(L2.ps_for hp hc hi hg hb.x hs).imp fun E σ H zz=>by
 obtain ⟨ρ,fl,⟨M,hx,hB,hE⟩,hf,k⟩:=zz;unfold yR at hf;split at hf
 ·rename_i Vr;obtain⟨no,nP⟩:=Vr;obtain⟨ds,hd,hf⟩:=Option.bind_eq_some_iff.mp hf;obtain⟨ns0,Vt⟩:=Option.isSome_iff_exists.mp nP;obtain⟨xs0,RV,_⟩:=iq Vt
  ·refine⟨ρ.set p none,_,cK p::M,cK,ds,hE.hide RV no,hd,fun J H1 s1 OR=>?_⟩;have x1:iB cT cM (cK p::M) H1:=by
    have z:=hx.trans (.same s1);exact⟨z.keep,z.tup,z.frz,fun b hb=>(List.mem_cons.mp hb).elim (fun q=>.inl (q▸hm)) (z.new b),z.there⟩
   have x0:iB (cK p::M) H1 M H1:=⟨fun _ _ _ e=>e,fun _ _ e=>e,fun _ _ _ e=>e,fun b hb=>.inl (aG _ hb),fun _ h=>h⟩;refine⟨fun i m eX H'=>m=ds.length-i/\i<=ds.length/\∃de,SR X.K B H1 (cK p::M) cK de eX H'/\fo gd F (ds.drop i) de=some fl,⟨ds.length,by simp,bB _,ρ,⟨M,x0,hB,hE.same s1⟩,by simpa using hf⟩,?_⟩;rintro i m eX H' ⟨rfl,hi,de,hR,hl⟩;obtain⟨M',x',SK,SI⟩:=id hR;obtain⟨go,stop⟩:=OR _ _ x'.ext;by_cases kX:i<ds.length
   ·have ed:ds.drop i=ds[i]::ds.drop (i+1):=WN kX;rw[ed] at hl;unfold fo at hl;obtain⟨gE,KR,hl⟩:=Option.bind_eq_some_iff.mp hl;obtain⟨xW,hF,hl⟩:=Option.bind_eq_some_iff.mp hl;obtain⟨g1,g2⟩:=go i ds[i] (by simp[kX]);refine .inr ⟨g1,fun sg H2=>∃hZ,SR X.K B H1 (cK p::M) cK hZ sg H2/\fo gd F (ds.drop (i+1)) hZ=some fl,fun sg H2 ⟨hZ,r2,l2⟩=>⟨ds.length-(i+1),by omega,rfl,kX,hZ,r2,l2⟩,fun x H2 hy=>?_⟩;obtain⟨s2,q2⟩:=g2 x H2 hy;refine⟨de,_,M',cK,ds[i],gE,SI.same s2,q2,KR,fun rm H3 s3 E3=>⟨B,H1,cK p::M,cK,aP,gE,xW,⟨M',(x'.trans (.same s2)).trans (.same s3),SK,E3⟩,hF,?_⟩⟩;cases xW with
    |next hZ=>exact fun Fn H4 r4=>⟨hZ,r4,hl⟩
    |cont hZ=>exact fun Fn H4 r4=>⟨hZ,r4,hl⟩
    |brk hZ =>
     cases hl;exact fun Fn H4 r4=>k Fn H4 (r4.up x1)
    |ret r =>
     cases hl;exact fun v H4 r4=>k v H4 (r4.up x1)
   ·have e:i=ds.length:=by omega
    subst e;rw[Xi] at hl;cases hl;exact .inl ⟨stop,k eX H' (hR.up x1)⟩
 ·cases hf
theorem sH (i:Nat){x:Str}(hN:X.N[i]?=some x:=by rfl)(hv:L2.Vis X.env.scope x:=by first|exact Or.inl rfl|exact Or.inr (Or.inl rfl)|exact Or.inr (Or.inr rfl))(hd:(x==("__debug__" : Str))=false:=by decide)
  (n5:(x==("__classdict__" : Str))=false:=by decide):DB X (.Name x pos) (nE i):=(L2.pe_var hN hv hd n5).imp fun σ H Q zz=>by
 obtain ⟨ρ,O,M,cK,d,hE,hf,k⟩:=zz;unfold nE at hf;split at hf
 ·rename_i ds hr;cases hf;obtain⟨e2,vs,e3,e4,e5,q⟩:=hE.le i _ hr;exact⟨_,e2,k _ H (.refl H) (.inr (.inl ⟨_,ds,vs,rfl,rfl,e3,q⟩))⟩
 ·cases hf
theorem MX {d:D}{j:Int}(h:yx d=some j):d=.int j:=by
 cases d <;> first|(cases h;rfl)|cases h
theorem yl.int {K:Fg}{H H':Hp}{O:List Addr}{r:Vl}{v:V}{j:Int}(tr:∀a∈O,H a≠none)(h:yx r.1=some j)(q:yl K H O H' r v):v=.int j:=by
 have:=q.toR tr;rw[MX h] at this;cases this;rfl
theorem zv (ns:List Int)(p:Nat)(n:Int):(ns.map V.int).set p (.int n)=(ns.set p n).map V.int:=by rw[List.map_set]
theorem Df {x:Str}{p1 p2:Pos}{kx:ED}{ke:Expr}(hk:DE X ke kx)(he:DE X e f)(hN:X.N[p]?=some x:=by rfl)(hv:L2.Vis X.env.scope x:=by first|exact Or.inl rfl|exact Or.inr (Or.inl rfl)|exact Or.inr (Or.inr rfl))(hd:(x==("__debug__" : Str))=false:=by decide)
  (n5:(x==("__classdict__" : Str))=false:=by decide)
  (ha:∀v,assign (.Subscript (.Name x p1) ke p2) X.env v=(do
   let ov <-holding [v] (eval (.Name x p1) X.env)
   let iv <-holding [v,ov] (eval ke X.env)
   standAt p2
   holding [v,ov,iv] (setItem ov iv v)
   release [v,ov,iv] []):=by intro _;rfl)
  (hs:swapsWithSole [.Subscript (.Name x p1) ke p2] e pos.line X.env=pure false:=by rfl) (hw:swappedStores [.Subscript (.Name x p1) ke p2] e X.env=pure none:=by rfl)
  (h1:(assignEach [.Subscript (.Name x p1) ke p2] X.env).map (·.2)=[assign (.Subscript (.Name x p1) ke p2) X.env]:=by rfl) :
  Ld p X (.Assign [.Subscript (.Name x p1) ke p2] e pos) (rB p kx f):=fun B cM cT cK hm =>
 (L2.ps_asg he (L2.pg_sub (L2.pe_var hN hv hd n5) hk L2.set_list ha) hs hw h1).imp fun E σ H zz=>by
  obtain ⟨ρ,fl,⟨M,hx,hB,hE⟩,hf,k⟩:=zz;unfold rB at hf;simp only[bN] at hf;obtain⟨r,hr,n,hn,y,hy,j,hj,ns,Ib,q,hq,hf⟩:=hf;split at hf
  ·rename_i no;cases hf;obtain⟨xs,hi,hint⟩:=iq Ib;obtain⟨e1,vs,e2,e3,e4,qs⟩:=hE.le p _ hi;have ev:=jA hint qs;subst ev;refine⟨ρ,_,M,cK,r,hE,hr,fun v H1 s1 q1=>⟨_,e1,ρ,_,M,cK,y,hE.same s1,hy,fun u H2 s2 q2=>?_⟩⟩;have E2:=(hE.same s1).same s2;have Hg:=s2 _ _ (s1 _ _ e2);refine⟨cK p,ns.map V.int,j,q,rfl,q2.int (hE.same s1).ne hj,Hg,by rw[ai];exact hq,?_⟩;rw[q1.int hE.ne hn,zv];exact k _ _ ⟨M,(hx.trans (.same (s1.trans s2))).putL hm Hg,hB,E2.OK hi no (lO _ _ _ _)⟩
  ·cases hf
noncomputable def LF (K:Fg)(n1:Nat)(G:MD):L2.Sp:=fun vs H Q _=>∃sP Ci a ns ds B r,vs=sP++.ref a::Ci/\sP.length=n1/\H a=some (.lst (ns.map V.int))/\a∉B/\Rs K H (a::B) ds (sP++Ci)/\(∀b∈a::B,∃u,H b=some (oW u))/\G ns ds=some r ∧
 ∀v H',(∀b o,b≠a->H b=some o->H' b=some o)->H' a=some (.lst (r.2.map V.int))->R K H' (a::B) r.1 v->Q v H'
structure rS (P:Program)(w:World)(K:Fg)(mg:Str->Option Value)(base:Heap)(k:Nat)(x:Str)(ps:List Str)(n1:Nat)(G:MD):Prop where
 ex:∃(fa:Addr) (fd:FuncData),L2.FnOk P w K mg base L2.CX0 k fa fd ps (LF K n1 G)/\mg x=some (.ref fa)/\PySem.W.keepIn K (.ref fa)=true/\L2.Binds K fd ps []
theorem cY.AV {H H1 H':Hp}{a:Addr}{vs:List V}(k:∀b o,b≠a->H b=some o->H' b=some o)(e:H' a=some (.lst vs)):cY (eF H a (.lst vs)) H':=fun b o q=>by
 by_cases z:b=a
 ·subst z;rw[cN] at q;cases q;exact e
 ·rw[cC z] at q;exact k b o z q
theorem um {x y:Str}{k j i:Nat}{ps:List Str}{g:MD}{t:AD}{p1 p2 p3 py:Pos}(Gf:rS X.prog X.w X.K X.mg X.base k y ps 0 g)(hr:L2.Room j X.A)(VY:X.N.Nodup)(ha:DA X es t)(hj:k<=j:=by decide){z:Str}(hN:X.N[p]?=some x:=by rfl)(hv:L2.Vis X.env.scope x:=by first|exact Or.inl rfl|exact Or.inr (Or.inl rfl)|exact Or.inr (Or.inr rfl))(hd:(x==("__debug__" : Str))=false:=by decide)
  (n5:(x==("__classdict__" : Str))=false:=by decide) (hg:L2.Gl X y:=by rfl) (vv:(y==("__debug__" : Str))=false:=by decide) (he:starEach (.Name x p1::es) X.env=(false,eval (.Name x p1) X.env)::starEach es X.env:=by rfl) (nP:(backTo p3 (starEach es X.env)).any (·.1)=false:=by rfl)
  (hi:X.N[i]?=some z:=by rfl) (hx:L2.Loc X.env.scope z:=by first|exact Or.inl rfl|exact Or.inr rfl) (hs:swapsWith (.Call (.Name y p2) (.Name x p1::es) [] p3) (some (.Name z py)) pos.line X.env=pure false:=by rfl) (Nr:X.fn z=true\/X.env.scope.names.lookup z=some .local:=by first|exact .inl rfl|exact .inr rfl|assumption) :
  Ld p X (.Assign [.Name z py] (.Call (.Name y p2) (.Name x p1::es) [] p3) pos) (ku p g t i):=by
 obtain⟨fa,fd,h1,h2,h3,h4⟩:=Gf.ex;refine fun B cM cT cK hm=>(L2.ps_set VY hi hx (L2.pe_call h1 (hr.mono hj) hg h2 h3 h4 (.nil:cV [] []) L2.pass0 (L2.pa_cons (L2.pe_var hN hv hd n5) ha he) vv he nP) hs Nr).imp fun E σ H zz=>?_;obtain ⟨ρ,fl,⟨M,hx,hB,hE⟩,hf,kk⟩:=zz;unfold ku at hf;simp only[bN] at hf;obtain⟨ns,Ib,ds,wk,r,hr,hf⟩:=hf;split at hf
 ·rename_i no;obtain⟨no,nij⟩:=no;cases hf;obtain⟨xs,hi,hint⟩:=iq Ib;obtain⟨e1,vs,e2,e3,e4,qs⟩:=hE.le p _ hi;have ev:=jA hint qs;subst ev;refine⟨_,e1,ρ,_,M,cK,ds,hE,wk,fun us H1 s1 q1=>?_⟩;have E1:=hE.same s1;have Hg:=s1 _ _ e2;have FI:∀b∈cK p::(M++B).filter (fun b=>decide (b≠cK p)),b∈M++B:=fun b hb=>(List.mem_cons.mp hb).elim (fun z=>z▸e3) fun z=>(List.mem_filter.mp z).1;have Q3:∀b∈M++B,b∈cK p::(M++B).filter (fun b=>decide (b≠cK p)):=fun b hb=>by
   by_cases z:b=cK p
   ·subst z;exact aP
   ·exact aG _ (List.mem_filter.mpr ⟨hb,decide_eq_true z⟩)
  dsimp only;rw[bw];refine⟨[],us,cK p,ns,ds,(M++B).filter (fun b=>decide (b≠cK p)),r,rfl,rfl,Hg,fun z=>absurd rfl (of_decide_eq_true (List.mem_filter.mp z).2),q1.ext (.less FI),fun b hb=>E1.tr b (FI b hb),hr,fun v H' kp ea rv=>?_⟩;have E2:=(E1.OK hi no (lO X.K H1 (M++B) r.2)).same (cY.AV (H1:=H1) kp ea);have x2:iB cT cM M H':=((hx.trans (.same s1)).putL hm Hg (vs:=r.2.map V.int)).trans (.same (cY.AV (H1:=H1) kp ea));obtain⟨M',x3,B3,E3⟩:=E2.set i hB (.refl _) (.of (rv.ext (.less Q3)));exact kk _ _ ⟨M',x2.trans x3,B3,E3⟩
 ·cases hf
theorem Hm {x y:Str}{k j i:Nat}{ps:List Str}{g:MD}{t:AD}{p1 p2 p3:Pos}(Gf:rS X.prog X.w X.K X.mg X.base k y ps 0 g)(hr:L2.Room j X.A)(ha:DA X es t)(hj:k<=j:=by decide)(hN:X.N[i]?=some x:=by rfl)(hv:L2.Vis X.env.scope x:=by first|exact Or.inl rfl|exact Or.inr (Or.inl rfl)|exact Or.inr (Or.inr rfl))(hd:(x==("__debug__" : Str))=false:=by decide)
  (n5:(x==("__classdict__" : Str))=false:=by decide) (hg:L2.Gl X y:=by rfl) (vv:(y==("__debug__" : Str))=false:=by decide) (he:starEach (.Name x p1::es) X.env=(false,eval (.Name x p1) X.env)::starEach es X.env:=by rfl) (nP:(backTo p3 (starEach es X.env)).any (·.1)=false:=by rfl)
  (hs:swapsWith (.Call (.Name y p2) (.Name x p1::es) [] p3) none pos.line X.env=pure false:=by rfl) :
  DS X (.Expr (.Call (.Name y p2) (.Name x p1::es) [] p3) pos) (xf i g t):=by
 obtain⟨fa,fd,h1,h2,h3,h4⟩:=Gf.ex;refine fun B cM cT cK=>(L2.ps_expr (L2.pe_call h1 (hr.mono hj) hg h2 h3 h4 (.nil:cV [] []) L2.pass0 (L2.pa_cons (L2.pe_var hN hv hd n5) ha he) vv he nP) hs).imp fun E σ H zz=>?_;obtain ⟨ρ,fl,⟨M,hx,hB,hE⟩,hf,kk⟩:=zz;unfold xf at hf;simp only[bN] at hf;obtain⟨ns,Ib,ds,wk,r,hr,hf⟩:=hf;cases hf;obtain⟨xs,hi,hint⟩:=xl Ib;obtain⟨a,vs,e1,e2,e4,qs⟩:=hE.ow i _ hi;have ev:=jA hint qs;subst ev;refine⟨_,e1,ρ,_,M,cK,ds,hE,wk,fun us H1 s1 q1=>?_⟩;have E1:=hE.same s1;have Hg:=s1 _ _ e2;have e3:a∈M++B:=aV _ e4;have FI:∀b∈a::(M++B).filter (fun b=>decide (b≠a)),b∈M++B:=fun b hb=>(List.mem_cons.mp hb).elim (fun z=>z▸e3) fun z=>(List.mem_filter.mp z).1;dsimp only;rw[bw];refine⟨[],us,a,ns,ds,(M++B).filter (fun b=>decide (b≠a)),r,rfl,rfl,Hg,fun z=>absurd rfl (of_decide_eq_true (List.mem_filter.mp z).2),q1.ext (.less FI),fun b hb=>E1.tr b (FI b hb),hr,fun v H' kp ea rv=>?_⟩;obtain⟨x2,E2⟩:=E1.mut hi e1 (lO X.K H1 (M++B) r.2);have s2:=cY.AV (H1:=H1) kp ea;exact kk _ _ ⟨M,((hx.trans (.same s1)).trans x2).trans (.same s2),hB,E2.same s2⟩
theorem Hy {y:Str}{k j:Nat}{ps:List Str}{g:MD}{f1 f2:ED}{p2 p3:Pos}{a b:Expr}(Gf:rS X.prog X.w X.K X.mg X.base k y ps 1 g)(hr:L2.Room j X.A)(ha:DE X a f1)(hb:DE X b f2)(hj:k<=j:=by decide)
  (hg:L2.Gl X y:=by rfl) (vv:(y==("__debug__" : Str))=false:=by decide) (he:starEach (a::[b]) X.env=(false,eval a X.env)::starEach [b] X.env:=by rfl) (vc:starEach [b] X.env=(false,eval b X.env)::starEach [] X.env:=by rfl) (nP:(backTo p3 (starEach [b] X.env)).any (·.1)=false:=by rfl) :
  DE X (.Call (.Name y p2) [a,b] [] p3) (uC g f1 f2):=by
 obtain⟨fa,fd,h1,h2,h3,h4⟩:=Gf.ex;refine (L2.pe_call h1 (hr.mono hj) hg h2 h3 h4 (.nil:cV [] []) L2.pass0 (L2.pa_cons ha (L2.pa_cons hb L2.pa_nil vc) he) vv he nP).imp fun σ H Q zz=>?_;obtain ⟨ρ,O,M,cK,res,hE,hf,k⟩:=zz;unfold uC at hf;simp only[bN,Option.map_eq_some_iff] at hf;obtain⟨x,hx,z,hz,ds,wk,ns,Ib,r,hr,hf⟩:=hf;subst hf;refine⟨ρ,O,M,cK,x,hE,hx,fun v H1 s1 q1=>⟨ρ,O,M,cK,z,hE.same s1,hz,fun u H2 s2 q2=>?_⟩⟩;have R1:=(q1.toR hE.ne).same s2;obtain⟨zd,zb⟩:=z;cases zb with
 |false=>cases zd <;> cases wk
 |true =>
  rcases q2 with ⟨e0,_⟩|⟨_,c,es',ws,e1,e2,e3,e4,q⟩
  ·cases e0
  ·cases e1;cases wk;have ev:=jA Ib q;subst ev e2;have nO:c∉O:=fun m=>(hE.same s1).ne c m e3;have UH:∀b∈c::O,∃u,H2 b=some (oW u):=fun b hb=>(List.mem_cons.mp hb).elim (fun z=>⟨.inl _,z▸e4⟩) fun m=>((hE.same s1).same s2).tr b m;have R2:R X.K H2 (c::O) x.1 v:=by
    have xx:jO [] O H1 (c::O) H2:=jO.fresh s2 e3;exact (q1.toR hE.ne).ext xx
   refine⟨[v],[],c,ns,[x.1],O,r,rfl,rfl,e4,nO,.cons R2 .nil,UH,hr,fun w H' kp ea rv=>k _ _ (fun b o e=>?_) (.of (rv.ext (.less fun b hb=>aG _ hb)))⟩;have eb:=s1 _ _ e;exact kp b o (fun z=>by subst z;rw[e3] at eb;cases eb) (s2 _ _ eb)
noncomputable def uR (K:Fg)(B:List Addr)(cM:Hp)(cT:List Addr)(cK:Nat->Addr)(F:SD)(f:ED):TS:=fun E σ H=>∃ρ de r,SR K B cM cT cK ρ σ H/\F ρ=some (.next de)/\f de=some r ∧
 ∀v eX H' M,iB cT cM M H'->ER K H' (M++B) M cK de eX->R K H' (M++B) r.1 v->E.rt v H'
def NF (p:Nat)(X:Cx)(FJ:List Stmt)(F:SD)(f:ED):Prop:=∀B cM cT cK,cK p∈cT->PSs X FJ (uR X.K B cM cT cK F f)
theorem Dh (he:DE X e f):NF p X [.Return (some e) pos] gH f:=fun B cM cT cK _=>(L2.pss_one (L2.ps_ret he)).imp fun E σ H zz=>by
 obtain ⟨ρ,de,r,⟨M,hx,hB,hE⟩,hF,hf,k⟩:=zz;cases hF;exact⟨ρ,_,M,cK,r,hE,hf,fun v H1 s1 q1=>k v σ H1 M (hx.trans (.same s1)) (hE.same s1) (q1.toR hE.ne)⟩
theorem qi (h1:Ld p X st F)(h2:NF p X gm G f):NF p X (st::gm) (cI F G) f:=fun B cM cT cK hp=>(L2.pss_cons (h1 B cM cT cK hp) (h2 B cM cT cK hp)).imp fun E σ H zz=>by
 obtain ⟨ρ,de,r,hR,hF,hf,k⟩:=zz;unfold cI at hF;obtain⟨xW,hx,hF⟩:=Option.bind_eq_some_iff.mp hF;cases xW with
 |next gE=>exact⟨ρ,.next gE,hR,hx,fun eX H' r'=>⟨gE,de,r,r',hF,hf,k⟩⟩
 |ret r=>cases hF
 |brk gE=>cases hF
 |cont gE=>cases hF
end
theorem pO {kD qY:List D}{ns:List Int}{m:Nat}{i:Nat}{x:Vl}(e:(kD.map (fun d=>some (d,false))++some (mI ns,true)::(qY.map (fun d=>some (d,false))++aK m none):Sl)[i]?=some (some x)) :
  (i=kD.length/\x=(mI ns,true))\/(x.2=false/\(kD++qY)[if i<kD.length then i else i-1]?=some x.1/\i≠kD.length/\i<kD.length+qY.length+1):=by
 rcases Nat.lt_trichotomy i kD.length with h|h|h
 ·refine .inr ?_;rw[aZ (by rw[ai];exact h),ay,aq h] at e;cases e;rw[if_pos h,aZ h];exact⟨rfl,aq h,by omega,by omega⟩
 ·refine .inl ⟨h,?_⟩;rw[aR (by rw[ai];omega),ai,h,Xr] at e;cases e;rfl
 ·refine .inr ?_;rw[aR (by rw[ai];omega),ai,show i-kD.length=(i-kD.length-1)+1 by omega,aH] at e;by_cases hi:i-kD.length-1<qY.length
  ·rw[aZ (by rw[ai];exact hi),ay,aq hi] at e;cases e;rw[if_neg ⋯,aR ⋯,show i-1-kD.length=i-kD.length-1 by omega];exact⟨rfl,aq hi,by omega,by omega⟩
  ·rw[aR (by rw[ai];omega),bT] at e;split at e <;> cases e
theorem F9 {K:Fg}{H:Hp}{B:List Addr}{a:Addr}{m:Nat}{kD qY:List D}{sP Ci:List V}{ns:List Int}(hl:kD.length=sP.length)(q:Rs K H (a::B) (kD++qY) (sP++Ci))(ea:H a=some (.lst (ns.map V.int)))(tr:∀b∈a::B,∃u,H b=some (oW u)) :
  ER K H ([]++(a::B)) [] (fun _=>a) (kD.map (fun d=>some (d,false))++some (mI ns,true)::(qY.map (fun d=>some (d,false))++aK m none)) ((sP++.ref a::Ci).map some++aK m none):=by
 have lq:=q.length;rw[aw,aw] at lq;have at_:∀{i:Nat}{v:V},i≠sP.length->(sP++Ci)[if i<sP.length then i else i-1]?=some v->((sP++.ref a::Ci).map some++aK m none:St)[i]?=some (some v):=fun {i v} ni e=>by
  by_cases h:i<sP.length
  ·rw[if_pos h,aZ h] at e;rw[aZ (by simp;omega),ay,aZ h,e];rfl
  ·rw[if_neg h,aR ⋯] at e;have kX:=(List.getElem?_eq_some_iff.mp e).1;rw[aZ (by simp;omega),ay,aR ⋯,show i-sP.length=(i-1-sP.length)+1 by omega,aH,e];rfl
 have nt:∀{i:Nat}{d:List D},(kD.map (fun d=>some (d,false))++some (mI ns,true)::(qY.map (fun d=>some (d,false))++aK m none):Sl)[i]?≠some (some (.list d,true)):=fun {i d} e=>by
  rcases pO e with ⟨_,z⟩|⟨z,_⟩
  ·cases z
  ·cases z
 refine⟨fun i d e=>?_,fun i d e=>(nt e).elim,fun i d e=>?_,fun i j d e b e1=>(nt e1).elim,tr,(fun b hb=>nomatch hb),by simp;omega,⟨fun i c e=>?_,fun i j c c' e=>?_⟩⟩
 ·rcases pO e with ⟨_,z⟩|⟨_,z,ni,_⟩
  ·cases z
  ·obtain⟨v,ev,rv⟩:=q.get z;rw[hl] at ev ni;exact⟨v,at_ ni ev,rv⟩
 ·rcases pO e with ⟨hi,z⟩|⟨z,_⟩
  ·have z':iP d=mI ns:=(Prod.mk.inj z).1;unfold mI iP at z';simp only[PyData.dict.injEq,List.cons.injEq,Prod.mk.injEq,PyData.list.injEq,and_true] at z';subst z';refine⟨?_,ns.map V.int,ea,aO _ aP,(fun h=>nomatch h),lO _ _ _ _⟩;rw[hi,hl,aZ (by simp),ay,aR (aE _),Xr];rfl
  ·cases z
 ·exfalso;rcases pO e with ⟨_,z⟩|⟨z,_⟩
  ·have z':=(Prod.mk.inj z).1;simp[mI,iP,nY] at z'
  ·cases z
 ·exfalso;rcases pO e with ⟨_,z⟩|⟨z,_⟩
  ·have z':=(Prod.mk.inj z).1;simp[mI,iP,nY] at z'
  ·cases z
theorem qc {n n1 m:Nat}{b:SD}{f:ED}{ns:List Int}{ds:List D}{r:D×List Int}(h:My n n1 m b f ns ds=some r):ds.length+1=n/\n1<=ds.length/\∃ρ v ms,b (yX n1 ns ds m)=some (.next ρ)/\f ρ=some v/\fB n1 ρ=some ms/\r=(v.1,ms):=by
 unfold My at h;split at h
 ·rename_i hl;simp only[bN] at h;obtain⟨fl,hb,h⟩:=h;cases fl with
  |next ρ =>
   simp only[bN,Option.map_eq_some_iff] at h;obtain⟨v,hv,ms,hm,rfl⟩:=h;exact⟨hl.1,hl.2,ρ,v,ms,hb,hv,hm,rfl⟩
  |ret r=>cases h
  |brk ρ=>cases h
  |cont ρ=>cases h
 ·cases h
theorem yJ {K:Fg}{H:Hp}{O:List Addr}{ds:List D}{sP Ci:List V}{n1:Nat}(q:Rs K H O ds (sP++Ci))(hn:sP.length=n1)(hl:n1<=ds.length):(ds.take n1).length=sP.length/\Rs K H O (ds.take n1++ds.drop n1) (sP++Ci):=by
 refine⟨by rw[List.length_take,W7 hl,hn],by rw[List.take_append_drop];exact q⟩
theorem Ha {P:Program}{w:World}{K:Fg}{mg:Str->Option Value}{base:Heap}{x qual:Str}{st:Stmt}{f:Addr}{fd:FuncData}{N ps:List Str}{k n1:Nat}{b:SD}{fe:ED}(F:L2.Fun K x qual st f fd)(S:L2.FnScope N ps (L2.defScope st))
  (hb:∀(gD:Value) (A:Around) (outer:List Env) (s:Shared) (H:Hp) (E:L2.XK),L2.Room k (A.deeper (PyProof.Rows.envOfC qual (L2.defScope st) s.heap.objs.size f gD))->NF n1 (L2.cxOf L2.CX0 P w K mg base N qual (L2.defScope st) f gD A outer s H E).Gu (L2.defBody st) b fe) :
  L2.FnOk P w K mg base L2.CX0 (k+1) f fd ps (LF K n1 (My ps.length n1 (N.length-ps.length) b fe)):=by
 refine F.ok S (fun vs H Q E ⟨sP,Ci,a,ns,ds,B,r,e,en,ea,na,q,tr,hF,_⟩=>?_) fun gD A outer s H vs Q E hr ⟨sP,Ci,a,ns,ds,B,r,e,en,ea,na,q,tr,hF,kk⟩=>?_
 ·obtain⟨h1,h2,_⟩:=qc hF;have:=q.length;rw[e];simp at this ⊢;omega
 ·obtain⟨h1,h2,ρ,v,ms,Pp,hv,hm,rfl⟩:=qc hF;obtain⟨l1,q1⟩:=yJ q en h2;have hlen:vs.length=ps.length:=by
   have:=q.length;rw[e];simp at this ⊢;omega
  refine⟨_,hb gD A outer s H E hr (a::B) H [a] (fun _=>a) aP,_,ρ,v,⟨[],⟨fun _ _ _ e=>e,fun _ _ e=>e,fun _ _ _ e=>e,(fun b hb=>nomatch hb),fun _ h=>h⟩,(fun _ z=>nomatch z),?_⟩,Pp,hv,fun u eX H' M xx E' rv=>?_⟩
  ·have z:=F9 (m:=N.length-ps.length) l1 q1 ea tr;unfold L2.start;rw[hlen,e];exact z
  ·obtain⟨xs,hi,hint⟩:=iq hm;obtain⟨_,ws,e2,_,_,qs⟩:=E'.le n1 _ hi;have ev:=jA hint qs;subst ev;exact kk u H' (fun b o nb e=>xx.keep b o (fun z=>nb (List.mem_singleton.mp z)) e) e2 (rv.ext (.less fun b hb=>aO _ hb))
theorem JZ {P:Program}{w:World}{K:Fg}{mg:Str->Option Value}{base:Heap}{x qual:Str}{st:Stmt}{f:Addr}{fd:FuncData}{N ps:List Str}{k n1:Nat}{b:SD}(F:L2.Fun K x qual st f fd)(S:L2.FnScope N ps (L2.defScope st))
  (hb:∀(gD:Value) (A:Around) (outer:List Env) (s:Shared) (H:Hp) (E:L2.XK),L2.Room k (A.deeper (PyProof.Rows.envOfC qual (L2.defScope st) s.heap.objs.size f gD))->Ah n1 (L2.cxOf L2.CX0 P w K mg base N qual (L2.defScope st) f gD A outer s H E).Gu (L2.defBody st) b) :
  L2.FnOk P w K mg base L2.CX0 (k+1) f fd ps (LF K n1 (My ps.length n1 (N.length-ps.length) b (dC .none))):=by
 refine F.ok S (fun vs H Q E ⟨sP,Ci,a,ns,ds,B,r,e,en,ea,na,q,tr,hF,_⟩=>?_) fun gD A outer s H vs Q E hr ⟨sP,Ci,a,ns,ds,B,r,e,en,ea,na,q,tr,hF,kk⟩=>?_
 ·obtain⟨h1,h2,_⟩:=qc hF;have:=q.length;rw[e];simp at this ⊢;omega
 ·obtain⟨h1,h2,ρ,v,ms,Pp,hv,hm,rfl⟩:=qc hF;obtain⟨l1,q1⟩:=yJ q en h2;have hlen:vs.length=ps.length:=by
   have:=q.length;rw[e];simp at this ⊢;omega
  cases hv;refine⟨_,hb gD A outer s H E hr (a::B) H [a] (fun _=>a) aP,_,.next ρ,⟨[],⟨fun _ _ _ e=>e,fun _ _ e=>e,fun _ _ _ e=>e,(fun b hb=>nomatch hb),fun _ h=>h⟩,(fun _ z=>nomatch z),?_⟩,Pp,fun eX H' ⟨M,xx,_,E'⟩=>?_⟩
  ·have z:=F9 (m:=N.length-ps.length) l1 q1 ea tr;unfold L2.start;rw[hlen,e];exact z
  ·obtain⟨xs,hi,hint⟩:=iq hm;obtain⟨_,ws,e2,_,_,qs⟩:=E'.le n1 _ hi;have ev:=jA hint qs;subst ev;exact kk _ H' (fun b o nb e=>xx.keep b o (fun z=>nb (List.mem_singleton.mp z)) e) e2 .none
end DL
namespace L2
open PySem PySem.Spec PyProof.Rows
noncomputable abbrev B6 (h:Heap)(z TI TO T:Addr)(b:Bool):Prop :=
 h.get? z=some { cls:=.type "zip", dict:=none,data:=.fields #[rawInt T,.bool b,.bool false,.ref TI,.ref TO],slots:=#[] }
theorem HU {M:Model}{A:Around}{E:Value->Shared->Prop}{s:Shared}{a:Addr}{Q:Option Obj->Shared->Prop}(h:Q (s.heap.get? a) s):wpAny M A (loadIfAlive a) Q E s:=fun Γ p _=>by
 unfold loadIfAlive;rw[Sem.wp_loadIfAlive];exact h
section
variable {prog:Program}{w:World}{A:Around}{E:Value->Shared->Prop}{s:Shared}{z TI TO i1 i2 T:Addr}{n1 n2 k:Nat}{rM rL:List Addr}{P1 P2:Nat->Value->Prop}{S1 S2:Nat->Heap->Prop}
theorem yz {b:Bool}{oT:Obj}{Q:Bool->Shared->Prop}(hz:B6 s.heap z TI TO T b)(hT:s.heap.get? T=some oT)(h:∀h',B6 h' z TI TO T true->Heap.SameBut z s.heap h'->Q false { s with heap:=h' }) :
  wpAny (model prog w) A (Builtin.SmallTypes.ownedTupleIsFree (.ref z)) Q E s:=by
 unfold Builtin.SmallTypes.ownedTupleIsFree;refine aa (bh hz rfl (x:=rawInt T) rfl ?_);show wpAny _ _ (loadIfAlive (T:Int).toNat>>=_) _ _ _;rw[aQ];refine aa (HU ?_);rw[hT];refine aa (bh hz rfl (x:=.bool b) rfl ?_);cases b with
 |true =>
  rw[show (Value.bool true != Value.bool true)=false by decide];refine ah ?_;exact h s.heap hz ⟨rfl,fun _ _=>rfl⟩
 |false =>
  rw[show (Value.bool false != Value.bool true)=true by decide];refine aa (bc hz (by simp) fun h' JM JO=>ah (h h' JM JO))
theorem zipItem2 {b:Bool}{oT:Obj}{Q:Value->Shared->Prop}(Z:MZ z TI TO i1 i2)(D1:Draws prog w A i1 rM n1 P1 S1)(D2:Draws prog w A i2 rL n2 P2 S2)(f1:z∉rM/\i2∉rM)(f2:z∉rL/\i1∉rL)
  (hz:B6 s.heap z TI TO T b) (hT:s.heap.get? T=some oT) (yw:IsPair s.heap TI (.ref i1) (.ref i2)) (t1:S1 k s.heap) (t2:S2 k s.heap) (l1:k<n1) (l2:k<n2)
  (hQ:∀x y h' tk,P1 k x->P2 k y->B6 h' z TI TO T true->S1 (k+1) h'->S2 (k+1) h'->IsPair h' s.heap.objs.size x y->(∀c o,c≠z->c≠i1->c≠i2->s.heap.get? c=some o->h'.get? c=some o)->Q (.ref s.heap.objs.size) { s with heap:=h',toks:=tk }) :
  wpAny (model prog w) A (Builtin.«zip.__next__» ⟨[.ref z],[]⟩) (fun fin s'=>∃v,fin=.done (.ret v)/\Q v s') E s:=by
 show wpAny _ _ (field (.ref z) 2>>=_) _ _ _;refine aa (bh hz rfl (x:=.bool false) rfl ?_);show wpAny _ _ (field (.ref z) 3>>=_) _ _ _;refine aa (bh hz rfl (x:=.ref TI) rfl ?_);refine aa (wpAny_seqItems yw rfl ?_);show wpAny _ _ (Builtin.SmallTypes.ownedTupleIsFree (.ref z)>>=_) _ _ _;refine aa (yz hz hT fun g1 xM e1=>?_);simp only[Bool.false_eq_true,if_false];refine aa ?_;rw[<-Xt];simp only[WQ,W0];refine aa (aa (bx ?_));show wpAny _ _ (Builtin.SmallTypes.nextOf (.ref i1)>>=_) _ _ _;have Ay:S1 k g1:=D1.frame _ _ _ t1 fun c hc o q=>e1.extBut c o (fun w'=>f1.1 (w'▸hc)) q;refine aa (D1.item k _ _ _ l1 Ay fun x g2 FE px u1 e2=>ah ?_);refine ah ?_;refine aa (aa (bx ?_));show wpAny _ _ (Builtin.SmallTypes.nextOf (.ref i2)>>=_) _ _ _;have DK:S2 k g2:=D2.frame _ _ _ t2 fun c hc o q=>e2.extBut c o (fun w'=>f2.2 (w'▸hc)) (e1.extBut c o (fun w'=>f2.1 (w'▸hc)) q);refine aa (D2.item k _ _ _ l2 DK fun y g3 tk3 py u2 e3=>ah ?_);refine ah (ah ?_);refine aa (wpAny_newTuple ?_ (show 2<=sizeLine from sz2'));have pT:g3.objs.size=s.heap.objs.size:=by rw[e3.1,e2.1,e1.1]
 have up:∀c o,c≠z->c≠i1->c≠i2->s.heap.get? c=some o->(g3.push { cls:=.type "tuple", data:=.seq #[x,y] }).get? c=some o:=fun c o c1 c2 c3 q =>
  af _ (e3.extBut _ _ c3 (e2.extBut _ _ c2 (e1.extBut _ _ c1 q)))
 refine ah ⟨_,rfl,?_⟩;show Q (.ref g3.objs.size) _;have hP:IsPair (g3.push { cls:=.type "tuple", data:=.seq #[x,y] }) g3.objs.size x y:=az _ rfl;rw[pT] at hP ⊢;refine hQ x y _ _ px py (af _ (e3.extBut _ _ Z.a4.symm (e2.extBut _ _ Z.a3.symm xM))) (D1.frame _ _ _ u1 fun c hc o q=>?_) (D2.frame _ _ _ u2 fun c hc o q=>af _ q) hP up;exact af _ (e3.extBut c o (fun w'=>f1.2 (w'▸hc)) q)
theorem zipEnd2 {b:Bool}{oT:Obj}{Q:Fin->Shared->Prop}(Z:MZ z TI TO i1 i2)(D1:Draws prog w A i1 rM n1 P1 S1)(D2:Draws prog w A i2 rL n2 P2 S2)(f1:z∉rM/\i2∉rM)(f2:z∉rL/\i1∉rL)
  (hz:B6 s.heap z TI TO T b) (hT:s.heap.get? T=some oT) (yw:IsPair s.heap TI (.ref i1) (.ref i2)) (t1:S1 k s.heap) (t2:S2 k s.heap) (tX:k=n1\/(k<n1/\k=n2))
  (hE:∀h' tk e,(∀c o,c≠z->c≠i1->c≠i2->s.heap.get? c=some o->h'.get? c=some o)->(∃o,h'.get? e=some o/\o.cls=.type "StopIteration")->E (.ref e) { s with heap:=h',toks:=tk }) :
  wpAny (model prog w) A (Builtin.«zip.__next__» ⟨[.ref z],[]⟩) Q E s:=by
 show wpAny _ _ (field (.ref z) 2>>=_) _ _ _;refine aa (bh hz rfl (x:=.bool false) rfl ?_);show wpAny _ _ (field (.ref z) 3>>=_) _ _ _;refine aa (bh hz rfl (x:=.ref TI) rfl ?_);refine aa (wpAny_seqItems yw rfl ?_);show wpAny _ _ (Builtin.SmallTypes.ownedTupleIsFree (.ref z)>>=_) _ _ _;refine aa (yz hz hT fun g1 xM e1=>?_);simp only[Bool.false_eq_true,if_false];refine aa ?_;rw[<-Xt];simp only[WQ,W0];refine aa (aa (bx ?_));show wpAny _ _ (Builtin.SmallTypes.nextOf (.ref i1)>>=_) _ _ _;have Ay:S1 k g1:=D1.frame _ _ _ t1 fun c hc o q=>e1.extBut c o (fun w'=>f1.1 (w'▸hc)) q;rcases tX with e|⟨l1,e⟩
 ·subst e;refine aa (D1.done _ _ _ Ay fun h' e hb hx=>?_);exact hE h' _ e (fun c o c1 c2 _ q=>hb c o c2 (e1.extBut _ _ c1 q)) hx
 ·subst e;refine aa (D1.item k _ _ _ l1 Ay fun x g2 FE px u1 e2=>ah ?_);refine ah ?_;refine aa (aa (bx ?_));show wpAny _ _ (Builtin.SmallTypes.nextOf (.ref i2)>>=_) _ _ _;have DK:S2 k g2:=D2.frame _ _ _ t2 fun c hc o q=>e2.extBut c o (fun w'=>f2.2 (w'▸hc)) (e1.extBut c o (fun w'=>f2.1 (w'▸hc)) q);refine aa (D2.done _ _ _ DK fun h' e hb hx=>?_);exact hE h' _ e (fun c o c1 c2 c3 q=>hb c o c3 (e2.extBut _ _ c2 (e1.extBut _ _ c1 q))) hx
end
theorem Lh:entryFor table "zip.__getattribute__" = some Builtin.«object.__getattribute__»:=entryFor_alias (id' := "object.__getattribute__") (by kernel_rfl) (by first|rfl|decide +kernel) (by decide +kernel) (by kernel_rfl)
theorem Fp:typeLookup (.type "zip") "keys" = pure none:=by rw[typeLookup_type,builtinLookup_eq_fast];kernel_rfl
theorem yy:typeLookup (.type "zip") "__getattr__" = pure none:=by rw[typeLookup_type,builtinLookup_eq_fast];kernel_rfl
theorem Ap (a:Addr)(fs:Array Value)(sl:Array (Option Value))(u:Tok) :
  Meets (Builtin.«object.__getattribute__» ⟨[.ref a,.str "keys" u],[]⟩) (fun A R s=>s.heap.get? a=some { cls:=.type "zip", dict:=none,data:=.fields fs,slots:=sl }/\raisesAttr (.ref a) "keys" A R s) :=
 Meets.of_wp fun prog w A R s hs=>by
  obtain⟨hp,g,d,tk,os⟩:=s;obtain⟨hx,hs⟩:=hs;have hT:(⟨hp,g,d,tk,os⟩:Shared).TypeIs (.ref a) "zip" := ⟨_,hx,rfl⟩;have hm:=Fp;have O4 : (["__module__", "__name__", "__qualname__", "__doc__", "__annotations__"] : List Str).contains (Str.ofString "keys") = false := by decide +kernel
  unfold Builtin.«object.__getattribute__»
  repeat (any_goals (first|assumption|wp_step))
  all_goals (try simp only[O4,Bool.false_eq_true,if_false])
  repeat (any_goals (first|assumption|wp_step))
  exact wpAny_raiseAttrError hs.1 hs.2 (attrMsg_fits (by decide +kernel) (by decide +kernel))
theorem zip_nokeys {prog:Program}{w:World}{A:Around}{E:Value->Shared->Prop}{s:Shared}{a:Addr}{fs:Array Value}{sl:Array (Option Value)}{Q:Option Value->Shared->Prop}(hx:s.heap.get? a=some { cls:=.type "zip", dict:=none,data:=.fields fs,slots:=sl })(hA:A.handled=none)
  (h:∀h' tk,(∀b o,s.heap.get? b=some o->h'.get? b=some o)->Q none { s with heap:=h',toks:=tk }):wpAny (model prog w) A (getAttr? (.ref a) "keys") Q E s:=by
 obtain⟨hp,g,d,tk,os⟩:=s;have hT:∀lK,(⟨hp,g,d,lK,os⟩:Shared).TypeIs (.ref a) "zip" := fun _=>⟨_,hx,rfl⟩;have f1:=sub_AttributeError;have f3:=F.slot_zip_getattribute.lookup;have f4:=F.slot_zip_getattribute.bind (.ref a);have f5:=yy;unfold getAttr? getAttrBy? getAttrBy
 repeat (any_goals (first|assumption|exact hT _|((with_reducible show wpAny _ _ (call (Value.builtin "zip.__getattribute__") _ _) _ _ _);refine call_meets F.slot_zip_getattribute (hT _) Lh (F.args_zip_getattribute_2 _ _) (Ap a fs sl _) ⟨hx,hA,fun h' lK e JN=>?_⟩)|wp_step))
 obtain⟨t',u',he⟩:=JN.there;show wpAny _ _ (getattributeRaised _ _ _ _ _ _ _) _ _ _;unfold getattributeRaised
 repeat (any_goals (first|assumption|wp_step))
 exact h _ _ JN.keeps
end L2
namespace DL
open PySem PySem.Spec PySem.SeqAt
open L2 (V Hp St HO VK TE TT TA TS TI TG Cx Inv PE PT PA PS PSs PI PG jN jT cY eF cN cC cE cV dQ EP TP AP SP kJ It kf B6 MZ ItK lJ)
theorem tM:mroOf (.type "dict")=pure [.type "dict", .type "object"]:=by rw[mroOf_type];kernel_rfl
theorem vm:typeLookup (.type "dict") "__new__" = pure (some (.builtin "dict.__new__")):=by rw[typeLookup_type,builtinLookup_eq_fast];kernel_rfl
theorem zV:TypeCalled "dict" "dict.__new__" "dict.__init__" := ⟨by decide +kernel,by decide +kernel,⟨_,_,tM⟩,madeBy_type tM vm (by decide +kernel),by decide +kernel,by rw[isSubtype_type];kernel_rfl,F.slot_dict_init⟩
theorem vg (a:Value):checkTypeCall "dict" ⟨[a],[]⟩=pure ():=by kernel_rfl
theorem xA (a:Value):checkBuiltinCall "dict.__new__" ⟨[.type "dict", a],[]⟩=pure ():=by kernel_rfl
theorem uj:entryFor table "dict.__new__" = some Builtin.«dict.__new__»:=entryFor_of_tree (by kernel_rfl)
theorem mV:plainId "dict.__new__" = true:=by decide +kernel
theorem wB:entryFor table "dict.update.loop" = some Builtin.«dict.update.loop»:=entryFor_of_tree (by kernel_rfl)
theorem nK:plainId "dict.update.loop" = true:=by decide +kernel
theorem vh:isSubtype (.type "dict") (.type "dict")=pure true:=by rw[isSubtype_type];kernel_rfl
theorem sQ:typeOf (.type "dict")=pure (.type "type"):=by kernel_rfl
noncomputable abbrev vl:Obj:={ cls:=.type "dict", dict:=none,data:=.dict #[] }
section
variable {prog:Program}{w:World}{A:Around}{E:Value->Shared->Prop}{s:Shared}
theorem yc (a:Value){Q₁:Value->Shared->Prop}(h:Q₁ (.ref s.heap.objs.size) { s with heap:=s.heap.push vl }):codeAny (model prog w) A (.call (.builtin "dict.__new__") ⟨[.type "dict", a],[]⟩) (wants Q₁ E) s:=by
 refine codeAny_of_tree ?_;show wpAny _ A.in1 (do checkBuiltinCall "dict.__new__" ⟨[.type "dict", a],[]⟩;again (.builtin "dict.__new__" ⟨[.type "dict", a],[]⟩)) _ _ s;refine aa (wpAny_of_eq (xA a) (ah ⟨plainId_quiet mV _,codeAny_builtin uj ?_⟩));rw[Around.under_plainId mV _];unfold Builtin.«dict.__new__»;have xN:=vh;have hm:=tM;have TV:=sQ;obtain⟨hp,g,d,tk,os⟩:=s;dsimp only
 wp_walk
 exact h
end
def WD (h:Heap)(z TI TO i1 i2 dd:Addr):Prop:=(IsZip h z TI TO .none/\∃x y,IsPair h TO x y)\/∃T b oT,B6 h z TI TO T b/\h.get? T=some oT/\T≠z/\T≠i1/\T≠i2/\T≠dd
structure M0 (X:Cx)(s0:Shared)(z TI TO i1 i2 dd:Addr)(k1 k2:Bool)(a b:Addr)(i:Nat)(zs:List (D×Addr×Value))(h:Heap):Prop where
 keep:∀c o,s0.heap.get? c=some o->h.get? c=some o
 QL:WD h z TI TO i1 i2 dd
 ti:IsPair h TI (.ref i1) (.ref i2)
 Eu:ItK k1 h i1 a i
 Et:ItK k2 h i2 b i
 SX:∃od ds ep,h.get? dd=some od/\od.ExactDict/\od.data=.dict ds ep/\ds.toList=zs.map Bv/\(zs.map (·.1)).Nodup
structure QH (n:Nat)(z TI TO i1 i2 dd:Addr):Prop where
 Z:MZ z TI TO i1 i2
 le:n<=z/\n<=TI/\n<=TO/\n<=i1/\n<=i2/\n<=dd
 nd:dd≠z/\dd≠TI/\dd≠TO/\dd≠i1/\dd≠i2
section
variable {X:Cx}{pins:List (Addr×Obj)}{σ:St}{H:Hp}{s0:Shared}{O:List Addr}{A:Around}{R':Result->Shared->Prop}{z TI TO i1 i2 dd a b:Addr}{k1 k2:Bool}{kD qY:List D}{Iz Iy:List V}{A7:List (D×D)}
theorem A8 {kvs:List (D×D)}{k d:D}(h:dS kvs=true)(hk:ie k=true):dS (mB kvs k d)=true:=by
 unfold dS mB at *;rw[WS] at *;intro p hp;split at hp
 ·obtain⟨q,hq,e⟩:=List.mem_map.mp hp;have:=h q hq;split at e <;> (subst e;exact this)
 ·rcases List.mem_append.mp hp with z|z
  ·exact h p z
  ·have z':=List.mem_singleton.mp z;subst z';exact hk
theorem Jw {i:Nat}{zs:List (D×Addr×Value)}{h:Heap}{tk:Nat}{Q:Option Value->Shared->Prop}{E:Value->Shared->Prop}{its rH:List Value}(hh:A.handled=none)(Zf:QH s0.heap.objs.size z TI TO i1 i2 dd)(L:M0 X s0 z TI TO i1 i2 dd k1 k2 a b i zs h)
  (oa:lJ k1 s0.heap a its.toArray) (ob:lJ k2 s0.heap b rH.toArray) {x y:Value} (hx:its[i]?=some x) (hy:rH[i]?=some y)
  (hQ:∀h' lK T,M0 X s0 z TI TO i1 i2 dd k1 k2 a b (i+1) zs h'->IsPair h' T x y->T≠dd->Q (some (.ref T)) { s0 with heap:=h',toks:=lK }) :
  wpAny (model X.prog X.w) A (pyNext (.ref z)) Q E { s0 with heap:=h,toks:=tk }:=by
 have alt:=oa.lt;have blt:=ob.lt;obtain⟨Fe,TK,KI,JC,JB,Ry⟩:=Zf.le;obtain⟨L5,Rr,OH,Ng,Nf⟩:=Zf.nd;have Z:=Zf.Z;have an:∀{c:Addr},s0.heap.objs.size<=c->a≠c:=fun h z=>bF _ (aM (z▸alt) h);have bn:∀{c:Addr},s0.heap.objs.size<=c->b≠c:=fun h z=>bF _ (aM (z▸blt) h);have OB:lJ k1 h a its.toArray:=oa.at fun o q=>L.keep a o q;have Jn:lJ k2 h b rH.toArray:=ob.at fun o q=>L.keep b o q;have hi:i<its.toArray.size:=by rw[aL];exact (List.getElem?_eq_some_iff.mp hx).1
 have hj:i<rH.toArray.size:=by rw[aL];exact (List.getElem?_eq_some_iff.mp hy).1
 have KQ:A.in1.handled=none:=hh;have D1:=L2.draws_sq (prog:=X.prog) (w:=X.w) (A:=A.in1) KQ i1 a (an JC) its.toArray;have D2:=L2.draws_sq (prog:=X.prog) (w:=X.w) (A:=A.in1) KQ i2 b (bn JB) rH.toArray;have HR:z∉[i1,a]/\TO∉[i1,a]/\i2∉[i1,a]:=⟨by simp[Z.a3.symm,(an Fe).symm],by simp[Z.a8,(an KI).symm],by simp[Z.b1.symm,(an JB).symm]⟩;have HQ:z∉[i2,b]/\TO∉[i2,b]/\i1∉[i2,b]:=⟨by simp[Z.a4.symm,(bn Fe).symm],by simp[Z.a9,(bn KI).symm],by simp[Z.b1,(bn JC).symm]⟩;have same:∀{x':Value},its.toArray[i]?=some x'->x'=x:=fun e=>by rw[Xf,hx] at e;exact (Option.some.inj e).symm
 have Kv:∀{x':Value},rH.toArray[i]?=some x'->x'=y:=fun e=>by rw[Xf,hy] at e;exact (Option.some.inj e).symm
 have kX:∀{c o},h.get? c=some o->c<h.objs.size:=fun e=>aD e;obtain⟨od,es,ep,ho,hc,hd,he,hn⟩:=L.SX;have apart:∀{c d:Addr},c<s0.heap.objs.size->s0.heap.objs.size<=d->c≠d:=fun h1 h2=>aN (aM h1 h2);rcases L.QL with ⟨q1,ox,oy,q3⟩|⟨T,bb,oT,q1,qT,n1,n2,n3,n4⟩
 ·have hT:Shared.TypeIs { s0 with heap:=h,toks:=tk } (.ref z) "zip" := ⟨_,q1,rfl⟩;unfold pyNext;refine aa (wpAny_attempt (wpAny_callSpecial?_slot (name:=Str.ofString "__next__") hT F.slot_zip_next (wpAny_call_entry F.slot_zip_next hT F.entry_zip_next
   (L2.zipItem (s:={ s0 with heap:=h,toks:=tk }) Z D1 D2 HR HQ q1 L.ti q3 (L.Eu.with OB) (L.Et.with Jn) hi hj fun x' y' h' lK px py nz Ru m1 m2 nT hk=>ah ?_) (F.args_zip_next_1 _))))
  have ex:=same px;have ey:=Kv py;subst ex ey;have kp:∀c o,c≠z->c≠TO->c≠i1->c≠i2->h.get? c=some o->h'.get? c=some o:=hk;have k0:∀c o,s0.heap.get? c=some o->h'.get? c=some o:=fun c o q=>by
   have lt:c<s0.heap.objs.size:=aD q;exact kp c o (apart lt Fe) (apart lt KI) (apart lt JC) (apart lt JB) (L.keep c o q)
  refine hQ h' lK h.objs.size ⟨k0,.inr ⟨h.objs.size,false,_,nz,nT,(br (kX q1)),?_,?_,(br (kX ho))⟩,kp TI _ Z.a1 Z.a5 Z.a6 Z.a7 L.ti,L2.ItK.of m1 (oa.at fun o q=>k0 a o q),L2.ItK.of m2 (ob.at fun o q=>k0 b o q),?_⟩ nT (br (kX ho))
  ·obtain⟨o,q,_⟩:=L.Eu.obj;exact br (kX q)
  ·obtain⟨o,q,_⟩:=L.Et.obj;exact br (kX q)
  ·exact⟨od,es,ep,kp dd _ L5 OH Ng Nf ho,hc,hd,he,hn⟩
 ·have hT:Shared.TypeIs { s0 with heap:=h,toks:=tk } (.ref z) "zip" := ⟨_,q1,rfl⟩;unfold pyNext;refine aa (wpAny_attempt (wpAny_callSpecial?_slot (name:=Str.ofString "__next__") hT F.slot_zip_next (wpAny_call_entry F.slot_zip_next hT F.entry_zip_next
   (L2.zipItem2 (s:={ s0 with heap:=h,toks:=tk }) Z D1 D2 ⟨HR.1,HR.2.2⟩ ⟨HQ.1,HQ.2.2⟩ q1 qT L.ti (L.Eu.with OB) (L.Et.with Jn) hi hj fun x' y' h' lK px py nz m1 m2 nT hk=>ah ?_) (F.args_zip_next_1 _))))
  have ex:=same px;have ey:=Kv py;subst ex ey;have kp:∀c o,c≠z->c≠i1->c≠i2->h.get? c=some o->h'.get? c=some o:=hk;have k0:∀c o,s0.heap.get? c=some o->h'.get? c=some o:=fun c o q=>by
   have lt:c<s0.heap.objs.size:=aD q;exact kp c o (apart lt Fe) (apart lt JC) (apart lt JB) (L.keep c o q)
  refine hQ h' lK h.objs.size ⟨k0,.inr ⟨T,true,_,nz,kp T _ n1 n2 n3 qT,n1,n2,n3,n4⟩,kp TI _ Z.a1 Z.a6 Z.a7 L.ti,L2.ItK.of m1 (oa.at fun o q=>k0 a o q),L2.ItK.of m2 (ob.at fun o q=>k0 b o q),?_⟩ nT (br (kX ho));exact⟨od,es,ep,kp dd _ L5 Ng Nf ho,hc,hd,he,hn⟩
theorem Jv {i:Nat}{zs:List (D×Addr×Value)}{h:Heap}{tk:Nat}{Q:Option Value->Shared->Prop}{E:Value->Shared->Prop}{its rH:List Value}(hh:A.handled=none)(Zf:QH s0.heap.objs.size z TI TO i1 i2 dd)(L:M0 X s0 z TI TO i1 i2 dd k1 k2 a b i zs h)
  (oa:lJ k1 s0.heap a its.toArray) (ob:lJ k2 s0.heap b rH.toArray) (tX:i=its.length\/(i<its.length/\i=rH.length))
  (hQ:∀h' lK,(∀c o,s0.heap.get? c=some o->h'.get? c=some o)->(∀o,h.get? dd=some o->h'.get? dd=some o)->Q none { s0 with heap:=h',toks:=lK }) :
  wpAny (model X.prog X.w) A (pyNext (.ref z)) Q E { s0 with heap:=h,toks:=tk }:=by
 have alt:=oa.lt;have blt:=ob.lt;obtain⟨Fe,TK,KI,JC,JB,Ry⟩:=Zf.le;obtain⟨L5,Rr,OH,Ng,Nf⟩:=Zf.nd;have Z:=Zf.Z;have an:∀{c:Addr},s0.heap.objs.size<=c->a≠c:=fun h z=>bF _ (aM (z▸alt) h);have bn:∀{c:Addr},s0.heap.objs.size<=c->b≠c:=fun h z=>bF _ (aM (z▸blt) h);have apart:∀{c d:Addr},c<s0.heap.objs.size->s0.heap.objs.size<=d->c≠d:=fun h1 h2=>aN (aM h1 h2);have OB:lJ k1 h a its.toArray:=oa.at fun o q=>L.keep a o q;have Jn:lJ k2 h b rH.toArray:=ob.at fun o q=>L.keep b o q;have KQ:A.in1.handled=none:=hh;have D1:=L2.draws_sq (prog:=X.prog) (w:=X.w) (A:=A.in1) KQ i1 a (an JC) its.toArray;have D2:=L2.draws_sq (prog:=X.prog) (w:=X.w) (A:=A.in1) KQ i2 b (bn JB) rH.toArray;have HR:z∉[i1,a]/\TO∉[i1,a]/\i2∉[i1,a]:=⟨by simp[Z.a3.symm,(an Fe).symm],by simp[Z.a8,(an KI).symm],by simp[Z.b1.symm,(an JB).symm]⟩;have HQ:z∉[i2,b]/\TO∉[i2,b]/\i1∉[i2,b]:=⟨by simp[Z.a4.symm,(bn Fe).symm],by simp[Z.a9,(bn KI).symm],by simp[Z.b1,(bn JC).symm]⟩;have KS:i=its.toArray.size\/(i<its.toArray.size/\i=rH.toArray.size):=by rw[aL,aL];exact tX
 have fin:∀(h':Heap) (lK:Nat) (e:Addr),(∀c o,c≠z->c≠TO->c≠i1->c≠i2->h.get? c=some o->h'.get? c=some o)->(∃o,h'.get? e=some o/\o.cls=.type "StopIteration") →
   wpAny (model X.prog X.w) A (do if <-isInstance (.ref e) (.type "StopIteration") then pure none else throw (.ref e):Sem (Option Value)) Q E { s0 with heap:=h',toks:=lK }:=fun h' lK e hk he=>by
  obtain⟨o,ho,yv⟩:=he;refine aa (wpAny_isInstance (s:={ s0 with heap:=h',toks:=lK }) (T := "StopIteration") (b:=true) ⟨o,ho,yv⟩ isSubtype_stop ?_);exact ah (hQ h' lK (fun c o q=>have lt:c<s0.heap.objs.size:=aD q;hk c o (apart lt Fe) (apart lt KI) (apart lt JC) (apart lt JB) (L.keep c o q)) fun o q=>hk dd o L5 OH Ng Nf q)
 rcases L.QL with ⟨q1,ox,oy,q3⟩|⟨T,bb,oT,q1,qT,n1,n2,n3,n4⟩
 ·have hT:Shared.TypeIs { s0 with heap:=h,toks:=tk } (.ref z) "zip" := ⟨_,q1,rfl⟩;unfold pyNext;exact aa (wpAny_attempt (wpAny_callSpecial?_slot (name:=Str.ofString "__next__") hT F.slot_zip_next (wpAny_call_entry F.slot_zip_next hT F.entry_zip_next (L2.zipEnd (s:={ s0 with heap:=h,toks:=tk }) Z D1 D2 HR HQ q1 L.ti q3 (L.Eu.with OB) (L.Et.with Jn) KS fun h' lK ex hk he=>fin h' lK ex hk he) (F.args_zip_next_1 _))))
 ·have hT:Shared.TypeIs { s0 with heap:=h,toks:=tk } (.ref z) "zip" := ⟨_,q1,rfl⟩;unfold pyNext;exact aa (wpAny_attempt (wpAny_callSpecial?_slot (name:=Str.ofString "__next__") hT F.slot_zip_next (wpAny_call_entry F.slot_zip_next hT F.entry_zip_next (L2.zipEnd2 (s:={ s0 with heap:=h,toks:=tk }) Z D1 D2 ⟨HR.1,HR.2.2⟩ ⟨HQ.1,HQ.2.2⟩ q1 qT L.ti (L.Eu.with OB) (L.Et.with Jn) KS fun h' lK ex hk he=>fin h' lK ex (fun c o c1 _ c3 c4 q=>hk c o c1 c3 c4 q) he) (F.args_zip_next_1 _))))
theorem Fq (I:Inv X pins σ H s0)(hh:A.handled=none)(hu:A.units+120<cLine)(Zf:QH s0.heap.objs.size z TI TO i1 i2 dd)(sx:kf k1 X.K H a Iz)(sy:kf k2 X.K H b Iy)(q1:Rs X.K H O kD Iz)(q2:Rs X.K H O qY Iy)(hlen:kD.length<=sizeLine) :
  ∀(m i:Nat) (h:Heap) (tk:Nat) (kvs:List (D×D)) (es:List En) (zs:List (D×Addr×Value)),kD.length-i=m->i<=kD.length->i<=qY.length->es.length<=i->dS kvs=true->Rd X.K H O kvs es->Paired qA es zs->kg (kD.drop i) (qY.drop i) kvs=some A7 →
   M0 X s0 z TI TO i1 i2 dd k1 k2 a b i zs h →
   (∀h' lK J3 Il,Rd X.K H O A7 J3->Paired qA J3 Il->J3.length<=kD.length->(∀c o,s0.heap.get? c=some o->h'.get? c=some o)->(∃od ds ep,h'.get? dd=some od/\od.ExactDict/\od.data=.dict ds ep/\ds.toList=Il.map Bv/\(Il.map (·.1)).Nodup)->R' (.ok (.ret .none)) { s0 with heap:=h',toks:=lK }) →
   codeAny (model X.prog X.w) A (.builtin "dict.update.loop" ⟨[.ref dd,.ref z,rawInt i,.none],[]⟩) R' { s0 with heap:=h,toks:=tk }:=by
 obtain⟨its,r1,oa,_⟩:=I.mM sx;obtain⟨rH,r2,ob,_⟩:=I.mM sy;have Va:kD.length=its.length:=q1.length.trans r1.length;have ln2:qY.length=rH.length:=q2.length.trans r2.length;have KQ:A.in1.handled=none:=hh;have stop:∀(i:Nat) (h:Heap) (tk:Nat) (es:List En) (zs:List (D×Addr×Value)),(i=its.length\/(i<its.length/\i=rH.length))->es.length<=kD.length->Rd X.K H O A7 es->Paired qA es zs->M0 X s0 z TI TO i1 i2 dd k1 k2 a b i zs h →
   (∀h' lK J3 Il,Rd X.K H O A7 J3->Paired qA J3 Il->J3.length<=kD.length->(∀c o,s0.heap.get? c=some o->h'.get? c=some o)->(∃od ds ep,h'.get? dd=some od/\od.ExactDict/\od.data=.dict ds ep/\ds.toList=Il.map Bv/\(Il.map (·.1)).Nodup)->R' (.ok (.ret .none)) { s0 with heap:=h',toks:=lK }) →
   codeAny (model X.prog X.w) A (.builtin "dict.update.loop" ⟨[.ref dd,.ref z,rawInt i,.none],[]⟩) R' { s0 with heap:=h,toks:=tk }:=by
  intro i h tk es zs tX he hr hp L hR;refine codeAny_builtin wB ?_;rw[Around.under_plainId nK _];show wpAny _ A.in1 (pyNext (.ref z)>>=_) _ _ _;refine aa (Jv KQ Zf L oa ob tX fun h' lK k0 kd=>?_);obtain⟨od,ds,ep,d1,d2,d3,d4,d5⟩:=L.SX;exact ah (hR h' lK es zs hr hp he k0 ⟨od,ds,ep,kd _ d1,d2,d3,d4,d5⟩)
 intro m;induction m with
 |zero =>
  intro i h tk kvs es zs hm hi hj hl hk hr hp hz L hR;have e:i=kD.length:=by omega
  have ed:kD.drop i=[]:=by rw[e,Xi]
  rw[ed] at hz;unfold kg at hz;cases hz;exact stop i h tk es zs (.inl (e.trans Va)) ⋯ hr hp L hR
 |succ m ih =>
  intro i h tk kvs es zs hm hi hj hl hk hr hp hz L hR;have kX:i<kD.length:=by omega
  have ed:kD.drop i=kD[i]::kD.drop (i+1):=WN kX;by_cases Mq:i<qY.length
  ·have SW:qY.drop i=qY[i]::qY.drop (i+1):=WN Mq;rw[ed,SW] at hz;unfold kg at hz;split at hz
   ·rename_i kk;obtain⟨v1,e1,rk⟩:=q1.get (aq kX);obtain⟨v2,e2,rv⟩:=q2.get (aq Mq);obtain⟨x,hx,rx⟩:=r1.get e1;obtain⟨y,hy,ry⟩:=r2.get e2;obtain⟨kb,rfl⟩:=xF kk rk;cases (show x=Value.ref kb from rx);refine codeAny_builtin wB ?_;rw[Around.under_plainId nK _];show wpAny _ A.in1 (pyNext (.ref z)>>=_) _ _ _;refine aa (Jw KQ Zf L oa ob hx hy fun h' lK T L' hT nT=>?_);refine aa (bx ?_);refine aa (wpAny_tryCatch ?_);unfold Builtin.Dict.pairItems;refine aa (wpAny_typeOf (s:={ s0 with heap:=h',toks:=lK }) ⟨_,hT,rfl⟩ ?_);rw[show (Value.type "tuple" == Value.type "list" || Value.type "tuple" == Value.type "tuple")=true by decide];rw[if_pos rfl];refine aa (wpAny_seqItems (s:={ s0 with heap:=h',toks:=lK }) hT rfl (ah ?_));show wpAny _ _ (holding [Value.ref kb,y] (dictSet dd (.ref kb) y)) _ _ _;refine bx ?_;have I':Inv X pins σ H { s0 with heap:=h',toks:=lK }:=I.kept (t':=lK) L'.keep;obtain⟨as,rd⟩:=R.reads I' rk (key_of kk).nb.lay _ rfl;obtain⟨od,Wy,ep,d1,d2,d3,d4,d5⟩:=L'.SX;have dm:Heap.DictOfH (mZ X.prog X.w) h' dd zs:=⟨od,Wy,ep,d1,d2,d3,d4,fun x hx=>by
     obtain⟨q,hq,p1,p2,_⟩:=oG hp x hx;have kq:=m7 hr.keys hk q hq;have rq:=hr.GO hq;rw[p2] at rq;rw[p1] at kq rq;exact⟨key_of kq,R.reads I' rq (key_of kq).nb.lay _ rfl⟩,d5⟩
    have pl:=hp.length;refine wpAny_dictSet_heap (s:={ s0 with heap:=h',toks:=lK }) (knd:=mZ X.prog X.w) (show A.in1.units+100<cLine by have:A.in1.units=A.units+1:=rfl;omega) ⟨key_of kk,as,rd⟩ dm (fun h2 Wz sb=>?_) ⋯;obtain⟨Fe,TK,KI,JC,JB,Ry⟩:=Zf.le;obtain⟨L5,Rr,OH,Ng,Nf⟩:=Zf.nd;have kp:∀c o,c≠dd->h'.get? c=some o->h2.get? c=some o:=fun c o n e=>(sb.2 c n).trans e;obtain⟨o',EM,J4,g1,g2,g3,g4,_,g5⟩:=Wz;have WG:M0 X s0 z TI TO i1 i2 dd k1 k2 a b (i+1) (storedH zs kD[i] kb y) h2:=by
     refine⟨fun c o e=>kp c o (aN (aM (aD e) Ry)) (L'.keep c o e),?_,kp TI _ Rr.symm L'.ti,L'.Eu.at fun o e=>kp i1 o Ng.symm e,L'.Et.at fun o e=>kp i2 o Nf.symm e,⟨o',EM,J4,g1,g2,g3,g4,g5⟩⟩;rcases L'.QL with ⟨w1,x',y',w3⟩|⟨T',bb,oT,w1,wT,n1,n2,n3,n4⟩
     ·exact .inl ⟨kp z _ L5.symm w1,x',y',kp TO _ OH.symm w3⟩
     ·exact .inr ⟨T',bb,oT,kp z _ L5.symm w1,kp T' _ n4 wT,n1,n2,n3,n4⟩
    refine ah ⟨plainId_quiet nK _,?_⟩;have ec:(Value.int ((i:Int)+1) 0)=rawInt ((i+1:Nat):Int):=by unfold rawInt;rw[Int.natCast_add];rfl
    show codeAny _ A (.builtin "dict.update.loop" ⟨[.ref dd,.ref z,Value.int ((i:Int)+1) 0,.none],[]⟩) R' _;rw[ec];have pz:=yW es kD[i] (.ref kb) v2;exact ih (i+1) h2 _ (mB kvs kD[i] qY[i]) (qK es kD[i] (.ref kb) v2) _ ⋯ kX Mq ⋯ (A8 hk kk) (hr.put rk rv) (tE kk ry hp (m7 hr.keys hk)) hz WG hR
   ·cases hz
  ·have e2:i=qY.length:=by omega
   have SW:qY.drop i=[]:=by rw[e2,Xi]
   rw[ed,SW] at hz;unfold kg at hz;cases hz;exact stop i h tk es zs (.inr ⟨by omega,by omega⟩) ⋯ hr hp L hR
end
section
variable {X:Cx}{pins:List (Addr×Obj)}{σ:St}{H:Hp}{s0:Shared}{O:List Addr}{A:Around}{a b:Addr}{k1 k2:Bool}{kD qY:List D}{Iz Iy:List V}{A7:List (D×D)}
theorem BM {h:Heap}{tk:Nat}{Q:Value->Shared->Prop}{E:Value->Shared->Prop}{n:Nat}(hn:s0.heap.objs.size=n)(I:Inv X pins σ H s0)(hh:A.handled=none)(hu:A.units+130<cLine)(sx:kf k1 X.K H a Iz)(sy:kf k2 X.K H b Iy)(q1:Rs X.K H O kD Iz)(q2:Rs X.K H O qY Iy)(hlen:kD.length<=sizeLine)(RW:kg kD qY []=some A7)
  (hz:IsZip h (n+4) (n+2) (n+3) .none) (yw:IsPair h (n+2) (.ref n) (.ref (n+1))) (Am:IsPair h (n+3) .none .none) (Eu:ItK k1 h n a 0) (Et:ItK k2 h (n+1) b 0) (hk:∀c o,s0.heap.get? c=some o->h.get? c=some o)
  (hQ:∀(h':Heap) (lK:Nat) (dd:Addr) (es:Es),n<=dd->Rd X.K H O A7 es.2->(∀c o,s0.heap.get? c=some o->h'.get? c=some o)->rT dd es.1 es.2 h'->Q (.ref dd) { s0 with heap:=h',toks:=lK }) :
  wpAny (model X.prog X.w) A (call (.type "dict") [.ref (n+4)]) Q E { s0 with heap:=h,toks:=tk }:=by
 have Lg:n+4<h.objs.size:=aD hz;refine callType_codes zV (vg _) F.entry_dict_init (yc (s:={ s0 with heap:=h,toks:=tk }) _ (Q₁:=fun obj dO=>obj=.ref h.objs.size/\dO={ s0 with heap:=h.push vl,toks:=tk }) ⟨rfl,rfl⟩) fun obj dO zz=>?_;obtain ⟨e1,e2⟩:=zz;subst e1 e2;have hD:(h.push vl).get? h.objs.size=some vl:=az _ rfl;have T8:Shared.TypeIs { s0 with heap:=h.push vl,toks:=tk } (.ref h.objs.size) "dict" := ⟨_,hD,rfl⟩;refine⟨T8,F.args_dict_init_2 _ _,?_⟩;have JM:IsZip (h.push vl) (n+4) (n+2) (n+3) .none:=af _ hz;have VV:Shared.TypeIs { s0 with heap:=h.push vl,toks:=tk } (.ref (n+4)) "zip" := ⟨_,JM,rfl⟩;unfold Builtin.«dict.__init__»;refine aa ?_;unfold Builtin.Dict.selfAndRest;refine aa (wpAny_notOrdered_dict T8 ?_);show wpAny _ _ (pure (h.objs.size,[Value.ref (n+4)])) _ _ _;refine ah ?_;show wpAny _ _ (Builtin.Dict.updateFrom "dict.__init__" h.objs.size (.ref (n+4)) [] .none) _ _ _;unfold Builtin.Dict.updateFrom;refine aa (wpAny_typeOf VV ?_);rw[show (Value.type "zip" != Value.type "dict")=true by decide];rw[if_pos rfl];refine aa (L2.zip_nokeys (s:={ s0 with heap:=h.push vl,toks:=tk }) JM hh fun h2 FE kp=>?_);rw[show (Option.isNone (none:Option Value))=true from rfl,if_pos rfl];refine aa (wpAny_rule ?_);have Rz:∀c o,(h.push vl).get? c=some o->h2.get? c=some o:=kp;refine aa (wpAny_pyIter_zip (s:={ s0 with heap:=h2,toks:=FE }) (Rz _ _ JM) ?_);have up:∀c o,h.get? c=some o->h2.get? c=some o:=fun c o e=>Rz c o (af _ e);refine ah ⟨plainId_quiet nK _,?_⟩;have Zf:QH s0.heap.objs.size (n+4) (n+2) (n+3) n (n+1) h.objs.size:=by
  rw[hn];have t1:n+3<h.objs.size:=aD Am;refine⟨⟨by simp,by simp,by simp,by simp,by simp,by simp,by simp,by simp,by simp,by simp⟩,⟨W2 _ _,W2 _ _,W2 _ _,aE _,W2 _ _,by omega⟩,br Lg,br (show n+2<h.objs.size by omega),br t1,br (show n<h.objs.size by omega),br (show n+1<h.objs.size by omega)⟩
 have L:M0 X s0 (n+4) (n+2) (n+3) n (n+1) h.objs.size k1 k2 a b 0 [] h2:=⟨fun c o e=>up c o (hk c o e),.inl ⟨up _ _ hz,_,_,up _ _ Am⟩,up _ _ yw,Eu.at fun o e=>up n o e,Et.at fun o e=>up (n+1) o e,⟨vl,#[],0,Rz _ _ hD,⟨rfl,rfl,rfl⟩,rfl,rfl,WZ⟩⟩;refine Fq (A:=A.in1) I hh (show A.in1.units+120<cLine by have:A.in1.units=A.units+1:=rfl;omega) Zf sx sy q1 q2 hlen kD.length 0 h2 FE [] [] [] ⋯ (bB _) (bB _) (bB _) rfl .nil .nil (by rw[List.drop_zero,List.drop_zero];exact RW) L fun h' lK J3 Il rd pr le k0 dc=>?_;obtain⟨od,ds,ep,g1,g2,g3,g4,g5⟩:=dc;refine⟨rfl,hQ h' lK h.objs.size (od,J3) ⋯ rd k0 ⟨bK le hlen,?_,g1,Il,pr,ds,ep,g2,g3,g4,g5⟩⟩;exact beq_eq_false_iff_ne.mpr (Ne.symm (aN (aM (Nat.lt_trans (by decide) (I.mod.glob.keeps I.bk).lt) ⋯)))
end
section
variable {X:Cx}{e1 e2:Expr}{ta:TA}{p p1 p2 pos:Pos}{f g:AD}
noncomputable def UJ (K:Fg)(ta:TA):TE:=fun σ H Q=>ta σ H fun vs H1=>∃(k1 k2:Bool) (a b:Addr) (Iz Iy:List V) (kD qY:List D) (O:List Addr) (kvs:List (D×D)),vs=[.ref a,.ref b]/\kf k1 K H1 a Iz/\kf k2 K H1 b Iy/\Rs K H1 O kD Iz/\Rs K H1 O qY Iy/\kD.length<=sizeLine/\kg kD qY []=some kvs ∧
 ∀(l:Addr) (es:Es),H1 l=none->Rd K H1 O kvs es.2->Q (.ref l) (eF H1 l (lT l es))
theorem Gb (hu:X.A.units+200<cLine)(hc:X.calm=true)(Sm:L2.Gl X "dict")(R9:X.mg "dict" = none)(Sj:L2.Gl X "zip")(R7:X.mg "zip" = none)(ha:PA X [e1,e2] ta)(hs:starEach [e1,e2] X.env=[(false,eval e1 X.env),(false,eval e2 X.env)]:=by rfl)(Fh:starEach [e2] X.env=[(false,eval e2 X.env)]:=by rfl)
  (oQ:starEach [.Call (.Name "zip" p1) [e1,e2] [] p2] X.env=[(false,eval (.Call (.Name "zip" p1) [e1,e2] [] p2) X.env)]:=by rfl):PE X (.Call (.Name "dict" p) [.Call (.Name "zip" p1) [e1,e2] [] p2] [] pos) (UJ X.K ta):=by
 intro pins s σ H Q I h;refine wpAny_Call_Name_kw (L2.ld_blt I Sm R9 PyProof.Rows.boot_dict (PyProof.Rows.callWith_type1 ?_ oQ rfl));rw[oQ];refine Calls.spliced_cons (wpAny_Call_Name_kw (L2.ld_blt I Sj R7 PyProof.Rows.boot_zip (PyProof.Rows.callWith_type1 (L2.thn (ha p2 pins s σ H _ I h) fun us s1 z=>?_) (by rw[hs,Fh]) (by rw[Fh];rfl))));obtain⟨vs,H1,I1,r1,k1,k2,a,b,Iz,Iy,kD,qY,O,kvs,e,sx,sy,q1,q2,hl,hp,q⟩:=z;subst e;obtain⟨u,v,rfl,ru,rv⟩:=cV.two r1;cases ru;cases rv;obtain⟨its,_,oa,_⟩:=I1.mM sx;obtain⟨rH,_,ob,_⟩:=I1.mM sy;refine L2.call_zipK oa ob fun h' hz yw Am Eu Et hk=>Calls.spliced_nil ?_;refine BM (s0:=s1) (h:=h') (tk:=s1.toks) rfl I1 (I1.ok.hd hc) ⋯ sx sy q1 q2 hl hp hz yw Am Eu Et hk fun h2 FE dd es le rd k0 di=>?_;have fr:H1 dd=none:=I1.fT.fresh le;exact⟨.ref dd,_,I1.laid (t':=FE) k0 le (Hz di),rfl,q dd es fr rd⟩
theorem Hv (hu:X.A.units+200<cLine)(hc:X.calm=true)(R9:X.mg "dict" = none)(R7:X.mg "zip" = none)(h1:DQ X e1 f)(h2:DQ X e2 g)(Sm:L2.Gl X "dict" := by rfl)(Sj:L2.Gl X "zip" := by rfl)(hs:starEach [e1,e2] X.env=[(false,eval e1 X.env),(false,eval e2 X.env)]:=by rfl)(Fh:starEach [e2] X.env=[(false,eval e2 X.env)]:=by rfl)
  (oQ:starEach [.Call (.Name "zip" p1) [e1,e2] [] p2] X.env=[(false,eval (.Call (.Name "zip" p1) [e1,e2] [] p2) X.env)]:=by rfl):DE X (.Call (.Name "dict" p) [.Call (.Name "zip" p1) [e1,e2] [] p2] [] pos) (BF f g) :=
 (Gb hu hc Sm R9 Sj R7 (L2.pa_cons h1 (L2.pa_cons h2 L2.pa_nil (by rw[Fh];rfl)) (by rw[hs,Fh])) hs Fh oQ).imp fun σ H Q zz=>by
  obtain ⟨ρ,O,M,cK,res,hE,hf,k⟩:=zz;unfold BF at hf;simp only[bN] at hf;obtain⟨xs,hx,ys,hy,hf⟩:=hf;split at hf
  ·rename_i hl;rw[Option.map_eq_some_iff] at hf;obtain⟨kvs,hz,rfl⟩:=hf;refine⟨ρ,O,M,cK,xs,hE,hx,fun v H1 k1 s1 ⟨a,vs,ev,Rc,g1⟩=>⟨ρ,O,M,cK,ys,hE.same s1,hy,fun u H2 k2 s2 ⟨b,us,eu,Rb,g2⟩=>?_⟩⟩;subst ev eu;have i2:=jO.id M O H2 ((hE.same s1).same s2).sub;refine⟨k1,k2,a,b,vs,us,xs,ys,O,kvs,rfl,g1 _ _ (i2.back s2),g2 _ _ i2,Rc.same s2,Rb,hl,hz,fun l es Nq rd=>?_⟩;have s3:cY H2 (eF H2 l (lT l es)):=fun c o e=>by rw[cC (cE e Nq)];exact e
   have nO:l∉O:=fun z=>((hE.same s1).same s2).ne l z Nq;exact k _ _ ((s1.trans s2).trans s3) (.of (.dict cN nO (rd.same s3)))
  ·cases hf
theorem EN {q:Nat}{FJ:List Stmt}{F:SD}{fe:ED}(i:Nat)(h:NF q X FJ F fe):NF q X FJ (qI i F) fe:=fun B cM cT cK hp=>(h B cM cT cK hp).imp fun E σ H ⟨ρ,de,r,hR,hF,hf,k⟩=>⟨_,de,r,hR.share i,hF,hf,k⟩
end
open PySem
def FH (K:Fg)(x:Str)(st:Stmt):Prop:=∃(f:Addr) (oc:Value) (od:Option Addr) (kV dc pm:Value) (an:Option Addr) (cd ct:Value) (sl:Array (Option Value)),PySem.W.nsIn K mainGlobals x=some (some (.ref f)) ∧
 K.lookup f=some ⟨oc,od,.func (PySem.W.fnOf x x (L2.defArgs st) (L2.defBody st) (L2.defScope st) .none kV dc pm an cd ct),sl⟩/\PySem.W.codeIn K cd x=true/\PySem.W.keepIn K (.ref f)=true
def Le (x:Str)(st:Stmt)(ps:List Str):Prop:=∀(kV doc pm:Value) (an:Option Addr) (gD ct:Value) (us:List Value),us.length=ps.length->bindArgs (PySem.W.fnOf x x (L2.defArgs st) (L2.defBody st) (L2.defScope st) .none kV doc pm an gD ct) ⟨us,[]⟩=pure (ps.zip us)
section
variable {K:Fg}{mg:Str->Option Value}{h:Heap}{x:Str}{st:Stmt}{ps:List Str}{k n1:Nat}{F:FD}{G':MD}
theorem jd (P:Program)(w:World)(base:Heap)(X:K.In h)(G:h.Ns mainGlobals mg)(H:FH K x st)(hb:Le x st ps)(ok:∀f fd,L2.Fun K x x st f fd->L2.FnOk P w K mg base L2.CX0 k f fd ps (spD K F)):gf P w K mg base k x ps F:=by
 obtain⟨f,oc,od,kV,dc,pm,an,cd,ct,sl,a,l,c,kp⟩:=H;have Fu:=L2.fun_mk (st:=st) l c kp;exact⟨_,_,ok _ _ Fu,PySem.W.mg_of X G a,kp,Fu.binds (ps:=ps) hb⟩
theorem GG (P:Program)(w:World)(base:Heap)(X:K.In h)(G:h.Ns mainGlobals mg)(H:FH K x st)(hb:Le x st ps)(ok:∀f fd,L2.Fun K x x st f fd->L2.FnOk P w K mg base L2.CX0 k f fd ps (LF K n1 G')):rS P w K mg base k x ps n1 G':=by
 obtain⟨f,oc,od,kV,dc,pm,an,cd,ct,sl,a,l,c,kp⟩:=H;have Fu:=L2.fun_mk (st:=st) l c kp;exact⟨_,_,ok _ _ Fu,PySem.W.mg_of X G a,kp,Fu.binds (ps:=ps) hb⟩
end
end DL
local macro_rules | `(tactic| trivial) => `(tactic| first | (intro _ _ _ _ _ _ us hl; first | (obtain ⟨_, e⟩ := DL.len1 hl; subst e; rfl) | (obtain ⟨_, _, e⟩ := DL.len2 hl; subst e; rfl) | (obtain ⟨_, _, _, e⟩ := DL.len3 hl; subst e; rfl) | (obtain ⟨_, _, _, _, e⟩ := DL.len4 hl; subst e; rfl) | (obtain ⟨_, _, _, _, _, e⟩ := DL.len5 hl; subst e; rfl) | (obtain ⟨_, _, _, _, _, _, e⟩ := DL.len6 hl; subst e; rfl)) | fail)
local macro_rules | `(tactic| trivial) => `(tactic| first | exact ⟨_, _, _, _, _, _, _, _, _, _, by k_is, by k_is, by k_is, by k_is⟩ | fail)
namespace Lw
open PySem DL
noncomputable section
noncomputable def nC:SD :=
 (cI (cH 3 (d2 nZ (cx (d2 eQ (cx (d2 pP (cc 0) (cc 2))) (cx (dC (.int 7919))))) (cx (dC (.int 2147483647)))))
  (cI (cH 3 (d2 nZ (cx (d2 pP (cx (d2 nZ (cx (d2 pP (cc 3) (cc 3))) (cx (dC (.int 2147483647))))) (cx (dC (.int 40692))))) (cx (dC (.int 2147483399)))))
  (cH 1 (d2 eQ (cx (d2 pP (cc 1) (cx (d2 Gm (cx (dC (.int 10))) (cx (dC (.int 9))))))) (cx (d2 AZ (cc 3) (cx (dC (.int 7)))))))))
noncomputable def uv:SD :=
 (cI (cH 1 (dC (.int 0)))
  (cI (eI (dq (gS (cZ (b6 (dC (.int 48271)) (b6 (dC (.int 69621)) (b6 (dC (.int 39373)) (b6 (dC (.int 44488)) cv))))))) (gN 2) nC)
  (fi (cg 1))))
noncomputable def jj:FD:=lR 1 3 uv
noncomputable def pj:SD :=
 (cI (kK (dH (cc 1) [(QF,(cx (d1 gn (cc 0))))]) (fi (cF jj (b6 (d2 cP (cc 0) (cc 1)) cv))) gH)
  (fi (cF jj (b6 (dC (.int 0)) cv))))
noncomputable def cL:FD:=lR 2 0 pj
noncomputable def nD:SD :=
 (cH 3 (d2 nZ (cx (d2 pP (cc 3) (cx (dC (.int 48271))))) (cx (dC (.int 2147483647)))))
noncomputable def uw:SD :=
 (cI (cH 3 (d2 nZ (cx (d2 eQ (cx (d2 eQ (cx (d2 nZ (cc 0) (cx (dC (.int 2147483629))))) (cx (dC (.int 1))))) (cx (d2 pP (cc 1) (cx (dC (.int 1000003))))))) (cx (dC (.int 2147483647)))))
  (cI (eI (cR (dC (.int 3))) (gN 4) nD)
  (fi (d2 nZ (cx (d2 AZ (cc 3) (cx (dC (.int 97))))) (cc 2)))))
noncomputable def cX:FD:=lR 3 2 uw
noncomputable def lx:SD :=
 (cI (cH 7 (cF cX (b6 (cF cL (b6 (cg 0) (b6 (d2 eQ (cc 1) (cx (dC (.int 1)))) cv))) (b6 (cg 6) (b6 (d2 Gk (cc 4) (cx (dC (.int 1)))) cv)))))
  (cI (cH 8 (d2 eQ (cx (d2 eQ (cc 7) (cx (dC (.int 1))))) (cx (cF cX (b6 (cF cL (b6 (cg 0) (b6 (d2 eQ (cc 1) (cx (dC (.int 2)))) cv))) (b6 (cg 6) (b6 (d2 Gk (cx (d2 Gk (cc 4) (cx (dC (.int 1))))) (cc 7)) cv)))))))
  (gv 5 (dj (b6 (cg 7) (b6 (cg 8) cv))))))
noncomputable def pd:SD :=
 (cI (cH 4 (d2 eQ (cx (dC (.int 1))) (cx (d2 nZ (cx (cF cL (b6 (cg 0) (b6 (cg 1) cv)))) (cc 2)))))
  (cI (cH 5 (cZ cv))
  (cI (kK (dH (cc 4) [(Ik,(cx (dC (.int 1))))]) (eI (cR (d2 nZ (cx (d2 AZ (cx (cF cL (b6 (cg 0) (b6 (cg 1) cv)))) (cc 2))) (cx (d2 eQ (cc 3) (cx (dC (.int 1))))))) (gN 6) lx) gH)
  (fi (dj (b6 (cg 4) (b6 (d1 dh (cc 5)) cv)))))))
noncomputable def gk:FD:=lR 4 5 pd
noncomputable def iV:SD :=
 (kK (dH (cx (d2 cP (cc 9) (cx (dC (.int 0))))) [(om,(cc 7))]) (gv 5 (dj (b6 (d2 eQ (cc 6) (cx (dj (b6 (cg 8) cv)))) (b6 (d2 cP (cc 9) (cx (dC (.int 1)))) cv)))) gH)
noncomputable def j8:SD :=
 (cI (kK (dH (cc 7) [(om,(cc 2))]) (gv 3 (cg 6)) gH)
  (eI (eO (gS (d2 cP (cc 0) (cx (dC (.int 1)))))) (gT [(gN 8),(gN 9)]) iV))
noncomputable def j7:SD :=
 (cI (cH 5 (cZ cv))
  (cI (eI (dq (fj 4)) (gT [(gN 6),(gN 7)]) j8)
  (qI 5 (cH 4 (cg 5)))))
noncomputable def jW:TD :=
 (dH (cc 4) [(zZ,(cx (cZ cv)))])
noncomputable def nA:SD :=
 (cI (cH 3 (cZ cv))
  (cI (gc 4 (cH 4 (cZ (b6 (dj (b6 (dj cv) (b6 (cg 1) cv))) cv))))
  (cI (km jW j7)
  (ko 3))))
noncomputable def dF:FD:=lR 3 7 nA
noncomputable def iI:SD :=
 (kK (rW (dH (cc 6) [(om,(cc 3))]) (dH (cx (cF dF (b6 (cg 0) (b6 (d2 cP (cc 1) (cc 5)) (b6 (cg 4) cv))))) [(om,(cx (cZ cv)))])) (fi (dC (.bool false))) gH)
noncomputable def pf:SD :=
 (cI (eI (dq (fj 2)) (gT [(gN 5),(gN 6)]) iI)
  (fi (dC (.bool true))))
noncomputable def fS:FD:=lR 5 2 pf
noncomputable def iU:SD :=
 (kK (Ax (kM (si (cF fS (b6 (cg 3) (b6 (cg 4) (b6 (d2 cP (cc 2) (cx (dC (.int 1)))) (b6 (cg 5) (b6 (cg 6) cv))))))))) (cH 6 (d2 nZ (cx (d2 eQ (cc 6) (cx (dC (.int 1))))) (cx (d2 cP (cc 3) (cx (dC (.int 0))))))) gH)
noncomputable def iT:SD :=
 (cI (cH 6 (cF cX (b6 (cF cL (b6 (cg 0) (b6 (cg 1) cv))) (b6 (cg 5) (b6 (d2 cP (cc 3) (cx (dC (.int 0)))) cv)))))
  (cI (eI (cR (d2 cP (cc 3) (cx (dC (.int 0))))) (gN 7) iU)
  (cI (kK (Ax (kM (si (cF fS (b6 (cg 3) (b6 (cg 4) (b6 (d2 cP (cc 2) (cx (dC (.int 1)))) (b6 (cg 5) (b6 (cg 6) cv))))))))) (fi (dj (b6 (d1 dh (cx (rP (KJ (cZ (b6 (cg 6) cv))) (cx (d2 cP (cc 2) (cx (dC (.int 0)))))))) (b6 (d1 dh (cx (rP (KJ (cZ (b6 (dj cv) cv))) (cx (d1 gn (cx (d2 cP (cc 2) (cx (dC (.int 1)))))))))) cv)))) gH)
  (gv 4 (cg 6)))))
noncomputable def j6:SD :=
 (cI (gc 11 (cH 11 (cF dF (b6 (cg 3) (b6 (d2 cP (cc 4) (cx (d2 cP (cc 10) (cx (dC (.int 0)))))) (b6 (d2 cP (cc 4) (cx (d2 cP (cc 10) (cx (dC (.int 1)))))) cv))))))
  (gv 8 (d2 cP (cc 11) (cx (cF cX (b6 (cF cL (b6 (cg 0) (b6 (d2 eQ (cc 1) (cx (dC (.int 1)))) cv))) (b6 (cg 9) (b6 (d1 gn (cc 11)) cv))))))))
noncomputable def ny:SD :=
 (cI (cH 4 (cZ cv))
  (cI (eI (cR (d2 cP (cc 2) (cx (dC (.int 0))))) (gN 5) iT)
  (cI (cH 8 (cZ cv))
  (cI (eI (eO (gS (d2 cP (cc 2) (cx (dC (.int 1)))))) (gT [(gN 9),(gN 10)]) j6)
  (fi (dj (b6 (d1 dh (cc 4)) (b6 (d1 dh (cc 8)) cv))))))))
noncomputable def iJ:FD:=lR 4 8 ny
noncomputable def jD:ED :=
 (cF cX (b6 (cF cL (b6 (cg 1) (b6 (cg 2) cv))) (b6 (cg 0) (b6 (d2 eQ (cc 3) (cx (dC (.int 1)))) cv))))
noncomputable def gQ:SD :=
 (kK (rW (dH (cx (d2 cP (cc 4) (cc 5))) [(Ik,(cx (dC (.int 0))))]) (dH (cx (d2 cP (cc 4) (cc 6))) [(om,(cx (dC (.int 0))))])) (IU 4 (cg 6) (dC (.int 1))) gH)
noncomputable def k6:ED :=
 (cF cX (b6 (cg 1) (b6 (d2 eQ (cx (d2 pP (cx (dC (.int 61))) (cc 3))) (cc 0)) (b6 (d2 cP (cc 2) (cx (d2 cP (cc 4) (cx (dC (.int 1)))))) cv))))
noncomputable def jJ:SD :=
 (cI (cH 10 (cF cL (b6 (cg 0) (b6 (d2 eQ (cc 1) (cx (dC (.int 1)))) cv))))
  (gv 7 (d1 dh (cx (da (cR (d2 cP (cc 4) (cx (d2 cP (cc 9) (cx (dC (.int 0))))))) 1 [10,4,8,9] (gN 0) f9 k6)))))
noncomputable def pw:SD :=
 (cI (cH 4 (da (cR (d2 cP (cc 2) (cx (dC (.int 0))))) 1 [0,1,3] (gN 0) f9 jD))
  (cI (eI (dq (gS (d1 ma (cx (d2 cP (cc 2) (cx (dC (.int 1)))))))) (gT [(gN 5),(gN 6)]) gQ)
  (cI (cH 7 (cZ cv))
  (cI (eI (eO (gS (d2 cP (cc 2) (cx (dC (.int 1)))))) (gT [(gN 8),(gN 9)]) jJ)
  (fi (dj (b6 (d1 dh (cc 4)) (b6 (d1 dh (cc 7)) cv))))))))
noncomputable def iD:FD:=lR 4 7 pw
noncomputable def lh:SD :=
 (cI (cH 10 (dj (b6 (d2 cP (cc 7) (cx (dC (.int 0)))) (b6 (d2 eQ (cx (d2 cP (cx (d2 cP (cc 2) (cx (dC (.int 1))))) (cc 6))) (cc 8)) (b6 (cg 9) cv)))))
  (gv 5 (dj (b6 (cg 10) (b6 (dj (b6 (d2 cP (cc 7) (cx (dC (.int 1)))) (b6 (cg 8) (b6 (d2 cP (cx (d2 cP (cx (d2 cP (cc 3) (cx (dC (.int 1))))) (cc 6))) (cc 9)) cv)))) cv)))))
noncomputable def lg:SD :=
 (eI (cR (d2 cP (cx (d2 cP (cc 3) (cx (dC (.int 0))))) (cx (d2 cP (cc 7) (cx (dC (.int 0))))))) (gN 9) lh)
noncomputable def k9:SD :=
 (eI (dq (gS (cF dF (b6 (cg 1) (b6 (d2 cP (cx (d2 cP (cc 2) (cx (dC (.int 0))))) (cx (d2 cP (cc 7) (cx (dC (.int 1)))))) (b6 (cg 4) cv)))))) (gN 8) lg)
noncomputable def o8:SD :=
 (cI (cH 5 (cZ cv))
  (cI (eI (eO (gS (d2 cP (cc 0) (cx (dC (.int 1)))))) (gT [(gN 6),(gN 7)]) k9)
  (ko 5)))
noncomputable def gR:FD:=lR 5 6 o8
noncomputable def lu:SD :=
 (kr 5 (dj (b6 (cg 6) (b6 (cg 7) (b6 (cg 8) cv)))) (d1 Gp (cc 5)))
noncomputable def ll:SD :=
 (eI (cR (d2 cP (cx (d2 cP (cc 3) (cx (dC (.int 0))))) (cc 6))) (gN 8) lu)
noncomputable def jI:SD :=
 (eI (dq (gS (cF dF (b6 (cg 1) (b6 (d2 cP (cx (d2 cP (cc 2) (cx (dC (.int 0))))) (cc 6)) (b6 (cg 4) cv)))))) (gN 7) ll)
noncomputable def jH:SD :=
 (kK (dH (cx (d2 gJ (cc 5) (cc 11))) [(zZ,(cx (d2 gJ (cc 5) (cc 12))))]) (cI (cH 13 (d2 xu (cx (d2 gJ (cc 5) (cc 11))) (cx (d2 gJ (cc 5) (cc 12)))))
  (cI (kr 5 (cg 11) (cg 13))
  (cI (kr 5 (cg 12) (cg 13))
  (cH 10 (dC (.bool true)))))) gH)
noncomputable def lj:SD :=
 (cI (cH 10 (dC (.bool false)))
  (eI (dq (fj 9)) (gT [(gN 11),(gN 12)]) jH))
noncomputable def mP:TD :=
 (si (cg 10))
noncomputable def k5:ED :=
 (d2 gJ (cc 1) (cc 0))
noncomputable def jG:SD :=
 (kr 15 (cg 16) (d2 qO (cc 14) (cx (d2 gJ (cc 5) (cc 16)))))
noncomputable def o9:SD :=
 (cI (lC 5)
  (cI (eI (cR (d2 cP (cc 0) (cx (dC (.int 0))))) (gN 6) jI)
  (cI (gc 9 (cH 9 (cF gR (b6 (cg 0) (b6 (cg 1) (b6 (cg 2) (b6 (cg 3) (b6 (cg 4) cv))))))))
  (cI (cH 10 (dC (.bool true)))
  (cI (km mP lj)
  (cI (kU 5 (gc 14 (cH 14 (d1 kz (cx (da (mJ (cg 5)) 1 [5] (gN 0) f9 k5))))))
  (cI (lC 15)
  (cI (kU 5 (eI (mJ (cg 5)) (gN 16) jG))
  (kU 15 (ko 15))))))))))
noncomputable def jo:FD:=lR 5 12 o9
noncomputable def mL:ED :=
 (cF jo (b6 (cg 1) (b6 (cg 2) (b6 (cg 3) (b6 (cg 4) (b6 (cg 0) cv))))))
noncomputable def kF:SD :=
 (fi (da (cR (d2 cP (cc 1) (cx (dC (.int 0))))) 1 [0,1,2,3] (gN 0) f9 mL))
noncomputable def f7:FD:=lR 4 0 kF
noncomputable def rO:SD :=
 (fi (vB (d1 (md "int") (cc 0)) (J9 (d1 (md "bool") (cc 0)))))
noncomputable def jL:FD:=lR 1 0 rO
noncomputable def gK:ED :=
 (cF jL (b6 (cg 0) cv))
noncomputable def lE:SD :=
 (fi (vB (d1 (md "tuple") (cc 0)) (d1 qP (cx (da (dq (fj 0)) 1 [] (gN 0) f9 gK)))))
noncomputable def eT:FD:=lR 1 0 lE
noncomputable def iR:ED :=
 (cF eT (b6 (cg 0) cv))
noncomputable def nB:SD :=
 (fi (vB (d1 (md "tuple") (cc 0)) (vB (d1 qP (cx (da (dq (fj 0)) 1 [] (gN 0) f9 iR))) (uy (dH (cc 0) [(om,(cc 1))])))))
noncomputable def iK:FD:=lR 2 0 nB
noncomputable def iH:ED :=
 (cF eT (b6 (cg 0) cv))
noncomputable def pb:SD :=
 (cI (kK (Fc (kM (si (d1 (md "tuple") (cc 0)))) (Fc (dH (cx (d1 gn (cc 0))) [(zZ,(cx (dC (.int 2))))]) (kM (si (cF eT (b6 (d2 cP (cc 0) (cx (dC (.int 0)))) cv)))))) (fi (dC (.bool false))) gH)
  (cI (kK (Fc (kM (si (d1 (md "tuple") (cx (d2 cP (cc 0) (cx (dC (.int 1)))))))) (kM (si (d1 qP (cx (da (dq (gS (d2 cP (cc 0) (cx (dC (.int 1)))))) 1 [] (gN 0) f9 iH)))))) (fi (dC (.bool false))) gH)
  (fi (uy (dH (cc 0) [(om,(cc 1))])))))
noncomputable def kI:FD:=lR 2 0 pb
noncomputable def je:ED :=
 (dj (b6 (cg 1) (b6 (cg 2) (b6 (cg 0) cv))))
noncomputable def g9:SD :=
 (xc 2 (da (cR (d2 cP (cx (d2 cP (cc 1) (cx (dC (.int 0))))) (cc 3))) 1 [3,5] (gN 0) f9 je))
noncomputable def gZ:SD :=
 (eI (dq (fj 4)) (gN 5) g9)
noncomputable def jR:SD :=
 (cI (cH 2 (cZ cv))
  (cI (eI (eO (fj 0)) (gT [(gN 3),(gN 4)]) gZ)
  (ko 2)))
noncomputable def fh:FD:=lR 2 4 jR
noncomputable def ux:SD :=
 (cI (kK (dH (cx (d1 gn (cc 2))) [(om,(cx (dC (.int 0))))]) (fi (cg 1)) gH)
  (cI (cH 3 (d2 cP (cx (d2 cP (cc 0) (cx (dC (.int 1))))) (cx (d2 cP (cc 2) (cx (d1 LZ (cx (dC (.int 1)))))))))
  (fi (d2 cP (cc 3) (cx (dC (.int 1)))))))
noncomputable def gp:FD:=lR 3 1 ux
noncomputable def ir:ED :=
 (d2 eQ (cc 2) (cx (dj (b6 (cg 0) cv))))
noncomputable def gr:SD :=
 (cI (cH 5 (cF gp (b6 (cg 0) (b6 (cg 1) (b6 (cg 4) cv)))))
  (xc 3 (da (eO (gS (d2 cP (cc 0) (cx (dC (.int 1)))))) 2 [4,5] (gT [(gN 0),(gN 1)]) (dH (cx (d2 cP (cc 1) (cx (dC (.int 0))))) [(om,(cc 3))]) ir)))
noncomputable def my:SD :=
 (cI (cH 3 (cZ cv))
  (cI (eI (dq (fj 2)) (gN 4) gr)
  (ko 3)))
noncomputable def i5:FD:=lR 3 3 my
noncomputable def lS:ED :=
 (cg 0)
noncomputable def qt:SD :=
 (cI (xc 3 (da (dq (fj 4)) 1 [2,0,1] (gN 0) (dH (cx (cF gp (b6 (cg 2) (b6 (cg 3) (b6 (cg 0) cv))))) [(om,(cc 1))]) lS))
  (gc 4 (cH 4 (cF i5 (b6 (cg 0) (b6 (cg 1) (b6 (cg 4) cv)))))))
noncomputable def pJ:TD :=
 (dH (cx (d1 gn (cc 4))) [(Ik,(cx (dC (.int 0))))])
noncomputable def x9:SD :=
 (cI (cH 3 (cZ cv))
  (cI (gc 4 (cH 4 (cZ (b6 (dj cv) cv))))
  (cI (km pJ qt)
  (ko 3))))
noncomputable def nX:FD:=lR 3 2 x9
noncomputable def kG:SD :=
 (cI (rB 0 (cg 1) (d2 cP (nE 0) (cx (d2 cP (nE 0) (cc 1)))))
  (cH 1 (d2 cP (nE 0) (cc 1))))
noncomputable def ki:TD :=
 (dH (cx (d2 cP (nE 0) (cc 1))) [(zZ,(cc 1))])
noncomputable def rf:SD :=
 (cI (km ki kG)
  gH)
noncomputable def qC:ED:=(cg 1)
noncomputable def eZ:MD:=My 2 0 0 rf qC
noncomputable def jF:SD :=
 (cI (ku 1 eZ (b6 (cg 4) cv) 5)
  (kK (dH (cc 5) [(om,(cc 4))]) (cI (gv 2 (cg 3))
  (cH 3 (d2 eQ (cc 3) (cx (dC (.int 1)))))) (gv 2 (d2 cP (cc 2) (cc 5)))))
noncomputable def o6:SD :=
 (cI (cH 2 (cZ cv))
  (cI (cH 3 (dC (.int 0)))
  (cI (yR 1 (cR (d1 gn (cc 0))) (gN 4) jF)
  (qI 2 gH))))
noncomputable def lZ:ED:=(BF (fj 0) (fj 2))
noncomputable def iC:MD:=My 2 1 4 o6 lZ
noncomputable def HA:SD :=
 (cI (ku 0 eZ (b6 (cg 1) cv) 3)
  (cI (ku 0 eZ (b6 (cg 2) cv) 4)
  (rB 0 (d2 AY (cc 3) (cc 4)) (d2 xu (cc 3) (cc 4)))))
noncomputable def Kp:ED:=(dC .none)
noncomputable def wX:MD:=My 3 0 2 HA Kp
noncomputable def qq:SD :=
 (kr 5 (cg 7) (cg 6))
noncomputable def sN:SD :=
 (xf 8 wX (b6 (d2 gJ (cc 5) (cx (dj (b6 (d2 cP (cc 9) (cx (dC (.int 0)))) (b6 (d2 eQ (cc 10) (cc 12)) (b6 (cg 13) cv)))))) (b6 (d2 gJ (cc 5) (cx (dj (b6 (d2 cP (cc 9) (cx (dC (.int 1)))) (b6 (cg 12) (b6 (cg 14) cv)))))) cv)))
noncomputable def sM:SD :=
 (eI (eO (fj 11)) (gT [(gN 13),(gN 14)]) sN)
noncomputable def sL:SD :=
 (eI (dq (gS (d2 cP (cc 3) (cx (d2 cP (cc 9) (cx (dC (.int 1)))))))) (gN 12) sM)
noncomputable def BC:SD :=
 (cI (lC 5)
  (cI (eI (eO (fj 4)) (gT [(gN 6),(gN 7)]) qq)
  (cI (cH 8 (uz (cR (d1 gn (cc 4)))))
  (cI (eI (zG (gS (d2 cP (cc 0) (cx (dC (.int 1))))) (gS (d2 cP (cc 1) (cx (dC (.int 1))))) (gS (d2 cP (cc 2) (cx (dC (.int 1)))))) (gT [(gN 9),(gN 10),(gN 11)]) sL)
  (ko 8)))))
noncomputable def pC:FD:=lR 5 10 BC
noncomputable def ju:ED :=
 (cF nX (b6 (cg 1) (b6 (cg 0) (b6 (cg 2) cv))))
noncomputable def jy:SD :=
 (cI (gc 6 (cH 6 (da (dq (gS (d2 cP (cc 2) (cx (dC (.int 0)))))) 1 [1,5] (gN 0) f9 ju)))
  (cI (gc 7 (cH 7 (cF fh (b6 (cg 6) (b6 (cg 3) cv)))))
  (gv 4 (uC iC (cg 7) (cF pC (b6 (cg 0) (b6 (cg 2) (b6 (cg 3) (b6 (cg 6) (b6 (cg 7) cv))))))))))
noncomputable def mw:SD :=
 (cI (cH 4 (cZ cv))
  (cI (eI (cR (d2 cP (cc 1) (cx (dC (.int 0))))) (gN 5) jy)
  (ko 4)))
noncomputable def eA:FD:=lR 4 4 mw
noncomputable def sF:ED :=
 (d2 gJ (cx (d2 cP (cc 1) (cc 2))) (cx (dj (b6 (cg 3) (b6 (dj cv) (b6 (cg 0) cv))))))
noncomputable def sJ:SD :=
 (gv 5 (d1 dh (cx (da (cR (d2 cP (cx (d2 cP (cc 3) (cx (dC (.int 0))))) (cc 6))) 1 [4,7,6] (gN 0) f9 sF))))
noncomputable def BB:SD :=
 (cI (gc 4 (cH 4 (cF eA (b6 (cg 0) (b6 (cg 1) (b6 (cg 2) (b6 (cg 3) cv)))))))
  (cI (cH 5 (cZ cv))
  (cI (eI (eO (gS (d2 cP (cc 2) (cx (dC (.int 0)))))) (gT [(gN 6),(gN 7)]) sJ)
  (fi (d1 dh (cc 5))))))
noncomputable def vb:FD:=lR 4 4 BB
noncomputable def jC:ED :=
 (d2 gJ (cx (d2 cP (cc 1) (cc 2))) (cx (dj (b6 (cg 3) (b6 (dj cv) (b6 (cg 0) cv))))))
noncomputable def k8:SD :=
 (gv 3 (d1 dh (cx (da (cR (d2 cP (cx (d2 cP (cc 1) (cx (dC (.int 0))))) (cc 4))) 1 [2,5,4] (gN 0) f9 jC))))
noncomputable def o7:SD :=
 (cI (cH 3 (cZ cv))
  (cI (eI (eO (gS (d2 cP (cc 0) (cx (dC (.int 0)))))) (gT [(gN 4),(gN 5)]) k8)
  (fi (d1 dh (cc 3)))))
noncomputable def kH:FD:=lR 3 3 o7
noncomputable def hU:SD :=
 (kK (dH (cc 3) [(om,(cx (d1 gn (cc 1))))]) (gv 1 (cg 2)) gH)
noncomputable def jS:SD :=
 (cI (cH 1 (cZ cv))
  (cI (eI (xK (cg 0)) (gT [(gN 2),(gN 3)]) hU)
  (ko 1)))
noncomputable def fN:FD:=lR 1 3 jS
noncomputable def oZ:ED :=
 (cF fN (b6 (cg 0) cv))
noncomputable def mv:ED :=
 (d2 gJ (cc 3) (cx (dj (b6 (cg 0) (b6 (d2 eQ (cc 1) (cx (dj (b6 (cg 4) cv)))) (b6 (cg 2) cv))))))
noncomputable def mF:SD :=
 (cI (cH 9 (d2 cP (cc 4) (cx (d2 cP (cc 8) (cx (dC (.int 1)))))))
  (gv 6 (d1 dh (cx (da (dq (gS (d2 cP (cc 5) (cx (d2 cP (cc 8) (cx (dC (.int 0)))))))) 3 [9,7] (gT [(gN 0),(gN 1),(gN 2)]) f9 mv)))))
noncomputable def oY:ED :=
 (d1 gn (cc 0))
noncomputable def rg:SD :=
 (cI (gc 4 (cH 4 (cF eA (b6 (cg 0) (b6 (cg 1) (b6 (cg 2) (b6 (cg 3) cv)))))))
  (cI (gc 5 (cH 5 (da (dq (fj 4)) 1 [] (gN 0) f9 oZ)))
  (cI (cH 6 (cZ cv))
  (cI (eI (eO (gS (d2 cP (cc 1) (cx (dC (.int 1)))))) (gT [(gN 7),(gN 8)]) mF)
  (fi (dj (b6 (d1 dh (cx (da (dq (fj 5)) 1 [] (gN 0) f9 oY))) (b6 (d1 dh (cc 6)) cv))))))))
noncomputable def lY:FD:=lR 4 6 rg
noncomputable def gu:SD :=
 (kK (dH (cx (d2 gJ (cc 0) (cc 2))) [(om,(cx (d1 gn (cc 1))))]) (gv 1 (cg 2)) gH)
noncomputable def mz:SD :=
 (cI (cH 1 (cZ cv))
  (cI (eI (mJ (cg 0)) (gN 2) gu)
  (ko 1)))
noncomputable def hV:FD:=lR 1 2 mz
noncomputable def kC:ED :=
 (cF hV (b6 (cg 0) cv))
noncomputable def iX:SD :=
 (gv 6 (d2 gJ (cx (d2 cP (cc 1) (cx (d2 cP (cc 5) (cx (dC (.int 1))))))) (cx (dj (b6 (cg 7) (b6 (d2 eQ (cc 8) (cx (dj (b6 (cg 4) cv)))) (b6 (cg 9) cv)))))))
noncomputable def iW:SD :=
 (cI (cH 6 (cZ cv))
  (cI (eI (dq (gS (d2 cP (cc 2) (cx (d2 cP (cc 5) (cx (dC (.int 0)))))))) (gT [(gN 7),(gN 8),(gN 9)]) iX)
  (gv 3 (d1 dh (cc 6)))))
noncomputable def kB:ED :=
 (d1 gn (cc 0))
noncomputable def lF:SD :=
 (cI (gc 2 (cH 2 (da (dq (fj 1)) 1 [] (gN 0) f9 kC)))
  (cI (cH 3 (cZ cv))
  (cI (eI (eO (gS (d2 cP (cc 0) (cx (dC (.int 1)))))) (gT [(gN 4),(gN 5)]) iW)
  (fi (dj (b6 (d1 dh (cx (da (dq (fj 2)) 1 [] (gN 0) f9 kB))) (b6 (d1 dh (cc 3)) cv)))))))
noncomputable def iw:FD:=lR 2 8 lF
noncomputable def Dj:SD :=
 (cI (cH 1 (cF gk (b6 (cg 0) (b6 (dC (.int 0)) (b6 (dC (.int 3)) (b6 (dC (.int 3)) cv))))))
  (cI (cH 2 (cF gk (b6 (cg 0) (b6 (dC (.int 3)) (b6 (dC (.int 4)) (b6 (dC (.int 4)) cv))))))
  (cI (cH 3 (cF iJ (b6 (cg 0) (b6 (dC (.int 6)) (b6 (cg 1) (b6 (cg 2) cv))))))
  (cI (cH 4 (cF iD (b6 (cg 0) (b6 (dC (.int 8)) (b6 (cg 1) (b6 (d2 eQ (cx (dC (.int 2))) (cx (d2 nZ (cx (cF cL (b6 (cg 0) (b6 (dC (.int 10)) cv)))) (cx (dC (.int 2)))))) cv))))))
  (cI (gc 5 (cH 5 (cF f7 (b6 (cg 1) (b6 (cg 2) (b6 (cg 3) (b6 (cg 4) cv)))))))
  (cI (kK (kM (si (cF kI (b6 (cF lY (b6 (cg 1) (b6 (cg 2) (b6 (cg 3) (b6 (cg 4) cv))))) (b6 (cF iw (b6 (cg 2) (b6 (cg 5) cv))) cv))))) (fi (dC (.bool false))) gH)
  (fi (cF iK (b6 (cF vb (b6 (cg 1) (b6 (cg 2) (b6 (cg 3) (b6 (cg 4) cv))))) (b6 (cF kH (b6 (cg 3) (b6 (cg 4) (b6 (cg 5) cv)))) cv))))))))))
noncomputable def F_law:FD:=lR 1 5 Dj
end
noncomputable def Nc (c f found:Int):Int :=
 found*1000000000+(((c*f+7919)%2147483647*((c*f+7919)%2147483647))%2147483647*40692%2147483399)/7
noncomputable def LC (c:Int):Int:=Nc c 44488 (Nc c 39373 (Nc c 69621 (Nc c 48271 0)))
theorem yI {c f found:Int}{x:Option Vl}(hf:-(2 ^ 64)<f)(So:f<2 ^ 64):nC [some (.int c,false),some (.int found,false),some (.int f,false),x] =
  some (.next [some (.int c,false),some (.int (Nc c f found),false),some (.int f,false),some (.int ((((c*f+7919)%2147483647*((c*f+7919)%2147483647))%2147483647*40692%2147483399)),false)]):=by
 have b1:0<=(c*f+7919)%2147483647:=W9 _ (by decide);have b2:(c*f+7919)%2147483647<2147483647:=WU _ (by decide);simp[nC,cI,cH,d2,cx,cc,dC,xt hf So,eQ,iO,tK,LY,Gn (i:=(c*f+7919)%2147483647) (j:=(c*f+7919)%2147483647) ⋯ ⋯,xt,Nc]
theorem Cs (c:Int):jj [.int c]=some (.int (LC c),false):=by
 simp[jj,lR,fQ,uv,cI,cH,eI,dq,cZ,b6,cv,dC,UL,dM,gS,fo,gN,yI,fi,cg,LC]
noncomputable def cell (ns:List Int)(k:Nat):Int:=LC (ns.getD k 0)
theorem xH {n k:Nat}(h:k<n):yu n (k:Int)=some k:=by
 unfold yu;rw[if_pos ⋯,if_pos ⋯];simp
theorem yh {xs:List D}{k:Nat}{d:D}(h:xs[k]?=some d):vd xs (k:Int)=some d:=by
 unfold vd;have:k<xs.length:=(List.getElem?_eq_some_iff.mp h).1;rw[xH this,ae,h]
theorem k7 (ns:List Int)(k:Nat):cL [.list (ns.map .int),.int (k:Int)]=some (.int (cell ns k),false):=by
 by_cases h:k<ns.length
 ·have h':(k:Int)<(ns.length:Int):=by omega
  have e:vd (ns.map PyData.int) (k:Int)=some (.int (ns.getD k 0)):=yh (by rw[ay,aq h,av,aq h];rfl);simp[cL,lR,fQ,pj,cI,kK,dH,dR,cc,cx,d1,gn,QF,h',fi,cF,b6,cv,d2,cP,e,Cs,cell]
 ·have h':¬(k:Int)<(ns.length:Int):=by omega
  have e:ns[k]?=none:=aW ⋯;simp[cL,lR,fQ,pj,cI,kK,dH,dR,cc,cx,d1,gn,QF,h',gH,fi,cF,b6,cv,dC,Cs,cell,e]
noncomputable def PM (s:Int):Int:=s*48271%2147483647
noncomputable def qj (c k b:Int):Int:=PM (PM (PM ((c%2147483629+1+k*1000003)%2147483647)))/97%b
theorem zR {s c k b:Int}{x:Option Vl}:nD [some (.int c,false),some (.int k,false),some (.int b,false),some (.int s,false),x] =
  some (.next [some (.int c,false),some (.int k,false),some (.int b,false),some (.int (PM s),false),x]):=by
 simp[nD,cH,d2,cx,cc,dC,xt,iO,PM]
theorem nS {c k b:Int}(hb:0<b):cX [.int c,.int k,.int b]=some (.int (qj c k b),false):=by
 simp[cX,lR,fQ,uw,cI,cH,d2,cx,cc,dC,iO,eQ,xt,eI,cR,yx,fK,ao,List.range.loop,fo,gN,zR,fi,tK,iO hb,qj]
theorem nQ {c k b:Int}(hb:0<b):0<=qj c k b:=W9 _ ⋯
theorem nR {c k b:Int}(hb:0<b):qj c k b<b:=WU _ hb
noncomputable def cD (p:Int×Int):D:=.tuple [.int p.1,.int p.2]
noncomputable def cp (k:Int)(ar:List (Int×Int)):D:=.tuple [.int k,.tuple (ar.map cD)]
structure Wf (k:Int)(ar:List (Int×Int)):Prop where
 lo:1<=k
 ok:∀p∈ar,0<=p.1/\p.1<p.2/\p.2<k
theorem zE (n:Nat):fK 0 n=(ao n).map fun (k:Nat)=>.int (k:Int):=by
 unfold fK;simp
theorem zQ {ns:List Int}{first i most many kinds a b:Int}{ca cb:Int}{ar:List (Int×Int)}{y z:Option Vl}(c1:cL [.list (ns.map .int),.int (first+1)]=some (.int ca,false))(c2:cL [.list (ns.map .int),.int (first+2)]=some (.int cb,false))
  (NC:cX [.int ca,.int i,.int (kinds-1)]=some (.int a,false)) (QE:cX [.int cb,.int i,.int (kinds-1-a)]=some (.int b,false)) (hz:ar.length<sizeLine) :
  lx [some (.list (ns.map .int),false),some (.int first,false),some (.int most,false),some (.int many,false),some (.int kinds,false),some (.list (ar.map cD),true),some (.int i,false),y,z] =
   some (.next [some (.list (ns.map .int),false),some (.int first,false),some (.int most,false),some (.int many,false),some (.int kinds,false),some (.list ((ar++[(a,a+1+b)]).map cD),true),some (.int i,false),some (.int a,false),some (.int (a+1+b),false)]):=by
 simp[lx,cI,cH,cF,b6,cv,cg,d2,cx,cc,dC,eQ,Gk,c1,c2,NC,QE,gv,dj,lN,hz,IK,cD]
theorem G9 {ns:List Int}{first:Nat}{most many kinds:Int}(hk:1<kinds)(n:Nat):∀(i:Nat) (ar:List (Int×Int)) (x y z:Option Vl),Wf kinds ar->ar.length+n<=1000->∃P8 x' y' z',Wf kinds P8/\P8.length=ar.length+n ∧
  fo (gN 6) lx ((WT i n).map fun (k:Nat)=>.int (k:Int)) [some (.list (ns.map .int),false),some (.int (first:Int),false),some (.int most,false),some (.int many,false),some (.int kinds,false),some (.list (ar.map cD),true),x,y,z] =
   some (.next [some (.list (ns.map .int),false),some (.int (first:Int),false),some (.int most,false),some (.int many,false),some (.int kinds,false),some (.list (P8.map cD),true),x',y',z']):=by
 induction n with
 |zero=>exact fun i ar x y z w _=>⟨ar,x,y,z,w,rfl,rfl⟩
 |succ n ih =>
  intro i ar x y z w hn;have c1:=k7 ns (first+1);have c2:=k7 ns (first+2);rw[show (((first+1:Nat)):Int)=(first:Int)+1 by omega] at c1;rw[show (((first+2:Nat)):Int)=(first:Int)+2 by omega] at c2;generalize cell ns (first+1)=ca at c1;generalize cell ns (first+2)=cb at c2;have Ig:0<kinds-1:=by omega
  have a0:=nQ (c:=ca) (k:=(i:Int)) Ig;have a1:=nR (c:=ca) (k:=(i:Int)) Ig;have NC:=nS (c:=ca) (k:=(i:Int)) Ig;generalize qj ca (i:Int) (kinds-1)=a at a0 a1 NC;have KW:0<kinds-1-a:=by omega
  have b0:=nQ (c:=cb) (k:=(i:Int)) KW;have b1:=nR (c:=cb) (k:=(i:Int)) KW;have QE:=nS (c:=cb) (k:=(i:Int)) KW;generalize qj cb (i:Int) (kinds-1-a)=b at b0 b1 QE;have w':Wf kinds (ar++[(a,a+1+b)]):=⟨w.lo,fun p hp=>by
   rcases List.mem_append.mp hp with h|h
   ·exact w.ok p h
   ·cases List.mem_singleton.mp h;dsimp only;omega⟩
  have hz:ar.length<sizeLine:=wZ ⋯;obtain⟨P8,x',y',z',w2,l2,e2⟩:=ih (i+1) (ar++[(a,a+1+b)]) (some (.int (i:Int),false)) (some (.int a,false)) (some (.int (a+1+b),false)) w' (by rw[aw,aY];omega);refine⟨P8,x',y',z',w2,by rw[l2,aw,aY];omega,?_⟩;rw[Xg,aC,fo];simp only[gN,bV,ae];rw[zQ c1 c2 NC QE hz,ae];exact e2
theorem C6 (ns:List Int)(first:Nat){most many:Int}(hm:0<most)(O8:most<1073741824)(hy:0<=many)(hy2:many<1000):∃k ar,gk [.list (ns.map .int),.int (first:Int),.int most,.int many]=some (cp k ar,false)/\Wf k ar/\k<=most/\(ar.length:Int)<=many:=by
 have c0:=k7 ns first
 have k0:0<=cell ns first%most:=W9 _ ⋯
 have k1:cell ns first%most<most:=WU _ hm
 have n0:0<=cell ns first/most%(many+1):=W9 _ ⋯
 have n1:cell ns first/most%(many+1)<many+1:=WU _ ⋯
 have R6:=iO (i:=cell ns first/most) (j:=many+1) ⋯;by_cases hk:1<1+cell ns first%most
 ·obtain⟨ar,x,y,z,w,l,e⟩:=G9 (ns:=ns) (first:=first) (most:=most) (many:=many) (kinds:=1+cell ns first%most) hk (cell ns first/most%(many+1)).toNat 0 [] none none none ⟨by omega,fun p hp=>by cases hp⟩ (by simp;omega);refine⟨1+cell ns first%most,ar,?_,w,by omega,by rw[l];simp;omega⟩;have Pp:-4611686018427387904<=cell ns first/most%(many+1)/\cell ns first/most%(many+1)<4611686018427387904:=by omega
  rw[bD,<-WR] at e;have ei:=zE (cell ns first/most%(many+1)).toNat;simp[gk,lR,fQ,pd,cI,cH,cF,b6,cv,cg,d2,cx,cc,dC,eQ,c0,iO hm,tK hm O8,R6,cZ,kK,dH,dR,Ik,hk,eI,cR,yx,Pp,ei,e,fi,dj,d1,dh,IK,cp]
 ·refine⟨1+cell ns first%most,[],?_,⟨by omega,fun p hp=>by cases hp⟩,by omega,by simpa using hy⟩;simp[gk,lR,fQ,pd,cI,cH,cF,b6,cv,cg,d2,cx,cc,dC,eQ,c0,iO hm,cZ,kK,dH,dR,Ik,hk,gH,fi,dj,d1,dh,IK,cp]
noncomputable abbrev Ar:=List (Int×Int)
noncomputable def tU (n:Nat):D:=.int (n:Int)
noncomputable def cj (p:List Nat):D:=.tuple (p.map tU)
noncomputable def du (ar:Ar)(kind:Int)(p:List Nat):Int:=match p.getLast? with
 |none=>kind
 |some i=>(ar.getD i (0,0)).2
def i4 (ar:Ar)(p:List Nat):Prop:=∀i∈p,i<ar.length
theorem xB (p:List Nat):Nb 1 (cj p):=.tuple (mf (f:=tU) (fun n=>.int 0 _) p)
theorem GB (ps:List (List Nat)):Nb 2 (.list (ps.map cj)):=.list (mf xB ps)
theorem pY (k:Int)(ar:Ar):cP (cp k ar) (.int 0)=some (.int k,false):=by simp[cp,cP,vd,yu]
theorem kZ (k:Int)(ar:Ar):cP (cp k ar) (.int 1)=some (.tuple (ar.map cD),false):=by simp[cp,cP,vd,yu]
theorem mW (p:Int×Int):cP (cD p) (.int 0)=some (.int p.1,false):=by simp[cD,cP,vd,yu]
theorem n8 (p:Int×Int):cP (cD p) (.int 1)=some (.int p.2,false):=by simp[cD,cP,vd,yu]
theorem nq (ar:Ar)(kind:Int):du ar kind []=kind:=rfl
theorem qW (ar:Ar)(kind:Int)(p:List Nat)(i:Nat):du ar kind (p++[i])=(ar.getD i (0,0)).2:=by
 unfold du;rw[List.getLast?_concat]
theorem P7 {ar:Ar}{i:Nat}(h:i<ar.length):vd (ar.map cD) (i:Int)=some (cD (ar.getD i (0,0))) :=
 yh (by rw[ay,aq h,av,aq h];rfl)
theorem Kg (xs:List D)(d:D):vd (xs++[d]) (-1)=some d:=by
 unfold vd yu;rw[if_neg ⋯,if_pos (by rw[aw,aY];omega),aw,aY,ae,show ((-1:Int)+((xs.length+1:Nat):Int)).toNat=xs.length by omega];simp
noncomputable def i8 (e:Int)(p:List Nat)(s:Nat):Ar->List (List Nat)
 |[]=>[]
 |a::r=>if a.1=e then (p++[s])::i8 e p (s+1) r else i8 e p (s+1) r
theorem nh (e:Int)(p:List Nat):∀(r:Ar) (s:Nat),(i8 e p s r).length<=r.length
 |[],s=>by simp[i8]
 | a::r,s=>by
  have:=nh e p r (s+1);unfold i8;split <;> simp <;> omega
theorem ng {e:Int}{p q:List Nat}:∀{r:Ar}{s:Nat},q∈i8 e p s r->∃i a,q=p++[s+i]/\r[i]?=some a/\a.1=e
 |[],s,h=>by simp[i8] at h
 | a::r,s,h=>by
  unfold i8 at h;split at h
  ·rename_i ha;rcases List.mem_cons.mp h with z|z
   ·exact⟨0,a,z,rfl,ha⟩
   ·obtain⟨i,b,e1,e2,e3⟩:=ng z;exact⟨i+1,b,by rw[e1,show s+1+i=s+(i+1) by omega],by simpa using e2,e3⟩
  ·obtain⟨i,b,e1,e2,e3⟩:=ng h;exact⟨i+1,b,by rw[e1,show s+1+i=s+(i+1) by omega],by simpa using e2,e3⟩
noncomputable def step (ar:Ar)(kind:Int)(r:List (List Nat)):List (List Nat):=r.flatMap fun p=>i8 (du ar kind p) p 0 ar
theorem sZ (ar:Ar)(kind:Int):∀r:List (List Nat),(step ar kind r).length<=ar.length*r.length
 |[]=>by simp[step]
 | p::r=>by
  have h1:=sZ ar kind r;have h2:=nh (du ar kind p) p ar 0;unfold step at h1 ⊢;rw[bP,aw,aJ,Nat.mul_succ];omega
theorem lL {ar:Ar}{kind:Int}{r:List (List Nat)}{q:List Nat}(h:q∈step ar kind r):∃p i a,p∈r/\q=p++[i]/\ar[i]?=some a/\a.1=du ar kind p/\du ar kind q=a.2:=by
 obtain⟨p,hp,hq⟩:=List.mem_flatMap.mp h;obtain⟨i,a,e1,e2,e3⟩:=ng hq;rw[bJ] at e1;refine⟨p,i,a,hp,e1,e2,e3,?_⟩;rw[e1,qW,av,e2];rfl
theorem Ct {ar:Ar}{kind:Int}{r:List (List Nat)}(h:∀p∈r,i4 ar p):∀q∈step ar kind r,i4 ar q:=fun q hq i hi=>by
 obtain⟨p,j,a,hp,e1,e2,_⟩:=lL hq;subst e1;rcases List.mem_append.mp hi with z|z
 ·exact h p hp i z
 ·cases List.mem_singleton.mp z;exact (List.getElem?_eq_some_iff.mp e2).1
theorem sY {ar:Ar}{kind:Int}{r:List (List Nat)}{b:Nat}(h:∀p∈r,p.length+1<=b):∀q∈step ar kind r,q.length<=b:=fun q hq=>by
 obtain⟨p,j,a,hp,e1,_⟩:=lL hq;have:=h p hp;rw[e1,aw,aY];exact this
noncomputable def lay (ar:Ar)(kind:Int):Nat->List (List Nat)->List (List Nat)
 |0,r=>r
 |m+1,r=>lay ar kind m (step ar kind r)
theorem xD {k:Int}{ar:Ar}{kind:Int}(w:Wf k ar):∀(m:Nat) (r:List (List Nat)),(∀p∈r,k-m<=du ar kind p/\du ar kind p<k)->lay ar kind m r=[]
 | 0,r,h=>by
  cases r with
  |nil=>rfl
  |cons p r =>
   have:=h p (by simp);omega
 | m+1,r,h=>by
  refine xD w m (step ar kind r) fun q hq=>?_;obtain⟨p,i,a,hp,e1,e2,e3,e4⟩:=lL hq;have h1:=h p hp;have h2:=w.ok a (aF e2);rw[e4];omega
noncomputable def gC (ar:Ar)(kind other:Int)(r:List (List Nat)):List (List Nat):=r.filter fun p=>decide (du ar kind p=other)
noncomputable def run (ar:Ar)(kind other:Int):Nat->List (List Nat)->List (List Nat)->List (List Nat)
 |0,_,f=>f
 |m+1,r,f=>run ar kind other m (step ar kind r) (f++gC ar kind other r)
theorem xg (ar:Ar)(kind other:Int):∀(m:Nat) (f:List (List Nat)),run ar kind other m [] f=f
 |0,f=>rfl
 | m+1,f=>by
  show run ar kind other m [] (f++[])=f;rw[bw];exact xg ar kind other m f
theorem qg:∀(ds:List D) (s:Nat),(fG s ds).length=ds.length
 |[],_=>rfl
 |d::ds,s=>by rw[fG,aJ,aJ,qg ds]
theorem sD (ar:Ar)(kind other:Int)(r:List (List Nat)):(gC ar kind other r).length<=r.length:=WW _ _
theorem vN {k kind:Int}{ar:Ar}(hk:0<=kind)(Ic:kind<k):∀p∈([[]]:List (List Nat)),k-(k.toNat:Int)<=du ar kind p/\du ar kind p<k:=fun p hp=>by
 cases List.mem_singleton.mp hp;rw[nq];omega
noncomputable def fu (k:Int)(ar:Ar)(kind other:Int):List (List Nat):=run ar kind other k.toNat [[]] []
theorem vX {m:Nat}(h:m<=4):6 ^ m<=1296:=Nat.pow_le_pow_right (by decide) h
theorem Cy {ar:Ar}{kind other:Int}{b:Nat}:∀(m:Nat) (r f:List (List Nat)),(∀q∈r,i4 ar q/\q.length+m<=b)->(∀q∈f,du ar kind q=other/\i4 ar q/\q.length<=b)->∀p∈run ar kind other m r f,du ar kind p=other/\i4 ar p/\p.length<=b
 |0,r,f,_,hf,p,hp=>hf p hp
 | m+1,r,f,hr,hf,p,hp=>by
  refine Cy m (step ar kind r) (f++gC ar kind other r) (fun q hq=>⟨Ct (fun p hp=>(hr p hp).1) q hq,?_⟩) (fun q hq=>?_) p hp
  ·obtain⟨p',_,_,zI,e1,_⟩:=lL hq;have:=(hr p' zI).2;rw[e1,aw,aY];omega
  ·rcases List.mem_append.mp hq with z|z
   ·exact hf q z
   ·obtain⟨z1,z2⟩:=List.mem_filter.mp z;have:=(hr q z1).2;exact⟨of_decide_eq_true z2,(hr q z1).1,by omega⟩
theorem z8 {k:Int}{ar:Ar}{kind other:Int}(h4:k<=4):∀p∈fu k ar kind other,du ar kind p=other/\i4 ar p/\p.length<=4 :=
 Cy _ _ _ (fun q hq=>by cases List.mem_singleton.mp hq;exact⟨fun i hi=>(by cases hi),(by simp;omega)⟩) (fun q hq=>by cases hq)
noncomputable def fy (ar:Ar)(kind:Int)(p:List Nat):D:=.tuple [cj p,.int (du ar kind p)]
theorem Jr (ar:Ar)(kind:Int)(p:List Nat):Nb 2 (fy ar kind p):=.tuple (.cons (xB p) (.cons (.int 1 _) .nil))
theorem Jx {s0 s1 s2 s3 s4:Option Vl}{G:List D}{p:List Nat}{e:Int}{s:Nat}{a:Int×Int}(hp:p.length+1<=1000000)(hG:G.length<1000000) :
  iV [s0,s1,s2,s3,s4,some (.list G,true),some (cj p,false),some (.int e,false),some (.int (s:Int),false),some (cD a,false)] =
   some (.next [s0,s1,s2,s3,s4,some (.list (if a.1=e then G++[.tuple [cj (p++[s]),.int a.2]] else G),true),some (cj p,false),some (.int e,false),some (.int (s:Int),false),some (cD a,false)]):=by
 have hz:p.length+1<=sizeLine:=Aj hp;have zH:G.length<sizeLine:=wZ hG;have ho:eQ (cj p) (.tuple [.int (s:Int)])=some (cj (p++[s]),false):=by simp[cj,eQ,hz,tU]
 by_cases h:a.1=e
 ·simp[iV,kK,dH,dR,cx,d2,cc,dC,mW,n8,fF,h,gv,dj,b6,cv,cg,ho,Kt,IK,lN,zH]
 ·simp[iV,kK,dH,dR,cx,d2,cc,dC,mW,fF,h,gH]
theorem tO {s0 s1 s2 s3 s4:Option Vl}{ar:Ar}{kind e:Int}{p:List Nat}(hp:p.length+1<=1000000):∀(r:Ar) (s:Nat) (g:List (List Nat)) (x y:Option Vl),ar.drop s=r->g.length+r.length<=1000000->∃x' y',
  fo (gT [gN 8,gN 9]) iV (fG s (r.map cD)) [s0,s1,s2,s3,s4,some (.list (g.map (fy ar kind)),true),some (cj p,false),some (.int e,false),x,y] =
   some (.next [s0,s1,s2,s3,s4,some (.list ((g++i8 e p s r).map (fy ar kind)),true),some (cj p,false),some (.int e,false),x',y'])
 |[],s,g,x,y,_,_=>⟨x,y,by simp[fG,fo,i8]⟩
 | a::r,s,g,x,y,hd,hz=>by
  rw[aJ] at hz;have Pq:ar[s]?=some a:=by
   have:=congrArg (fun l=>l[0]?) hd;simpa using this
  have hd2:ar.drop (s+1)=r:=by
   rw[<-List.drop_drop,hd];rfl
  have hn:fy ar kind (p++[s])=.tuple [cj (p++[s]),.int a.2]:=by
   unfold fy;rw[qW,av,Pq];rfl
  have hb:=Jx (s0:=s0) (s1:=s1) (s2:=s2) (s3:=s3) (s4:=s4) (G:=g.map (fy ar kind)) (p:=p) (e:=e) (s:=s) (a:=a) hp (by rw[ai];omega);rw[aC,fG,fo];simp only[gT,pX,gN,bV,ae];rw[hb,ae];by_cases h:a.1=e
  ·obtain⟨x',y',q⟩:=tO (s0:=s0) (s1:=s1) (s2:=s2) (s3:=s3) (s4:=s4) (kind:=kind) (e:=e) hp r (s+1) (g++[p++[s]]) (some (.int (s:Int),false)) (some (cD a,false)) hd2 (by rw[aw,aY];omega);refine⟨x',y',?_⟩;rw[aU,aC,bD,hn] at q;rw[if_pos h];dsimp only;refine Eq.trans q ?_;rw[i8,if_pos h,bg];rfl
  ·obtain⟨x',y',q⟩:=tO (s0:=s0) (s1:=s1) (s2:=s2) (s3:=s3) (s4:=s4) (kind:=kind) (e:=e) hp r (s+1) g (some (.int (s:Int),false)) (some (cD a,false)) hd2 ⋯;refine⟨x',y',?_⟩;rw[if_neg h];dsimp only;refine Eq.trans q ?_;rw[i8,if_neg h]
theorem Ma {k kind other:Int}{ar:Ar}{s1 s4 x y:Option Vl}{f g:List (List Nat)}{p:List Nat}(hp:p.length+1<=1000000)(hf:f.length<1000000)(hg:g.length+ar.length<=1000000):∃x' y',
  j8 [some (cp k ar,false),s1,some (.int other,false),some (.list (f.map cj),true),s4,some (.list (g.map (fy ar kind)),true),some (cj p,false),some (.int (du ar kind p),false),x,y] =
   some (.next [some (cp k ar,false),s1,some (.int other,false),some (.list ((f++gC ar kind other [p]).map cj),true),s4,some (.list ((g++i8 (du ar kind p) p 0 ar).map (fy ar kind)),true),some (cj p,false),some (.int (du ar kind p),false),x',y']):=by
 have hz:(f.map cj).length<sizeLine:=wZ (by rw[ai];exact hf);obtain⟨x',y',q⟩:=tO (s0:=some (cp k ar,false)) (s1:=s1) (s2:=some (.int other,false)) (s3:=some (.list ((f++gC ar kind other [p]).map cj),true)) (s4:=s4) (kind:=kind) (e:=du ar kind p) hp ar 0 g x y rfl hg;refine⟨x',y',?_⟩;have UO:(kK (dH (cc 7) [(om,(cc 2))]) (gv 3 (cg 6)) gH) [some (cp k ar,false),s1,some (.int other,false),some (.list (f.map cj),true),s4,some (.list (g.map (fy ar kind)),true),some (cj p,false),some (.int (du ar kind p),false),x,y] =
   some (.next [some (cp k ar,false),s1,some (.int other,false),some (.list ((f++gC ar kind other [p]).map cj),true),s4,some (.list (g.map (fy ar kind)),true),some (cj p,false),some (.int (du ar kind p),false),x,y]):=by
  rw[ai] at hz;by_cases h:du ar kind p=other
  ·simp[kK,dH,dR,cc,fF,h,gv,cg,lN,hz,gC]
  ·simp[kK,dH,dR,cc,fF,h,gH,gC]
 rw[j8,cI,UO,ae];dsimp only;rw[eI];have hi:∀ρ:Sl,(eO (gS (d2 cP (cc 0) (cx (dC (.int 1)))))) (some (cp k ar,false)::ρ)=some (fG 0 (ar.map cD)):=fun ρ=>by
  simp[eO,gS,d2,cc,cx,dC,kZ,dM]
 rw[hi,ae,q]
theorem G2 (ar:Ar)(kind other:Int)(p:List Nat)(r:List (List Nat)):gC ar kind other (p::r)=gC ar kind other [p]++gC ar kind other r:=by
 unfold gC;rw[<-bZ];rfl
theorem DM (ar:Ar)(kind:Int)(p:List Nat)(r:List (List Nat)):step ar kind (p::r)=i8 (du ar kind p) p 0 ar++step ar kind r:=by
 unfold step;rw[bP]
theorem GJ {k kind other:Int}{ar:Ar}{s1 s4:Option Vl}:∀(r f g:List (List Nat)) (a b x y:Option Vl),(∀p∈r,p.length+1<=1000000)->f.length+r.length<=1000000->g.length+ar.length*r.length<=1000000->∃a' b' x' y',
  fo (gT [gN 6,gN 7]) j8 (r.map (fy ar kind)) [some (cp k ar,false),s1,some (.int other,false),some (.list (f.map cj),true),s4,some (.list (g.map (fy ar kind)),true),a,b,x,y] =
   some (.next [some (cp k ar,false),s1,some (.int other,false),some (.list ((f++gC ar kind other r).map cj),true),s4,some (.list ((g++step ar kind r).map (fy ar kind)),true),a',b',x',y'])
 |[],f,g,a,b,x,y,_,_,_=>⟨a,b,x,y,by simp[fo,gC,step]⟩
 | p::r,f,g,a,b,x,y,hl,hf,hg=>by
  rw[aJ,Nat.mul_succ] at hg;rw[aJ] at hf;have hx:=nh (du ar kind p) p ar 0;have hh:=sD ar kind other [p];rw[aY] at hh;obtain⟨x1,y1,q1⟩:=Ma (k:=k) (kind:=kind) (other:=other) (ar:=ar) (s1:=s1) (s4:=s4) (x:=x) (y:=y) (f:=f) (g:=g) (p:=p) (hl p (by simp)) ⋯ ⋯;obtain⟨a',b',x',y',q2⟩:=GJ (k:=k) (kind:=kind) (other:=other) (ar:=ar) (s1:=s1) (s4:=s4) r (f++gC ar kind other [p]) (g++i8 (du ar kind p) p 0 ar) (some (cj p,false)) (some (.int (du ar kind p),false)) x1 y1 (fun q hq=>hl q (by simp[hq])) (by rw[aw];omega) (by rw[aw];omega);refine⟨a',b',x',y',?_⟩;rw[aC,fo];have ht:gT [gN 6,gN 7] (fy ar kind p) [some (cp k ar,false),s1,some (.int other,false),some (.list (f.map cj),true),s4,some (.list (g.map (fy ar kind)),true),a,b,x,y] =
    some [some (cp k ar,false),s1,some (.int other,false),some (.list (f.map cj),true),s4,some (.list (g.map (fy ar kind)),true),some (cj p,false),some (.int (du ar kind p),false),x,y]:=by
   simp[fy,gT,pX,gN]
  rw[ht,ae,q1,ae];dsimp only;rw[q2,G2 ar kind other p r,DM ar kind p r,bg f,bg g]
theorem L9 {k kind other:Int}{ar:Ar}{s1 b5 a b x y:Option Vl}{r f:List (List Nat)}(hl:∀p∈r,p.length+1<=1000000)(hf:f.length+r.length<=1000000)(hg:ar.length*r.length<=1000000):∃S6 a' b' x' y',
  j7 [some (cp k ar,false),s1,some (.int other,false),some (.list (f.map cj),true),some (.list (r.map (fy ar kind)),false),b5,a,b,x,y] =
   some (.next [some (cp k ar,false),s1,some (.int other,false),some (.list ((f++gC ar kind other r).map cj),true),some (.list ((step ar kind r).map (fy ar kind)),false),S6,a',b',x',y']):=by
 obtain⟨a',b',x',y',q⟩:=GJ (k:=k) (kind:=kind) (other:=other) (ar:=ar) (s1:=s1) (s4:=some (.list (r.map (fy ar kind)),false)) r f [] a b x y hl hf (by simpa using hg);rw[bD] at q;refine⟨some (.list ((step ar kind r).map (fy ar kind)),false),a',b',x',y',?_⟩;have e1:(cH 5 (cZ cv)) [some (cp k ar,false),s1,some (.int other,false),some (.list (f.map cj),true),some (.list (r.map (fy ar kind)),false),b5,a,b,x,y] =
   some (.next [some (cp k ar,false),s1,some (.int other,false),some (.list (f.map cj),true),some (.list (r.map (fy ar kind)),false),some (.list [],true),a,b,x,y]):=by simp[cH,cZ,cv]
 have e2:(dq (fj 4)) [some (cp k ar,false),s1,some (.int other,false),some (.list (f.map cj),true),some (.list (r.map (fy ar kind)),false),some (.list [],true),a,b,x,y]=some (r.map (fy ar kind)):=by simp[dq,fj]
 rw[j7,cI,e1,ae];dsimp only;rw[cI,eI,e2,ae,q,ae];simp[qI,share,cH,cg]
theorem CO {k kind other:Int}{ar:Ar}{s1:Option Vl}(ha:ar.length<=5):∀(m:Nat) (r f:List (List Nat)) (b5 a b x y:Option Vl),lay ar kind m r=[]->(∀p∈r,p.length+m<=1000)->r.length*6 ^ m+f.length<=100000->∃S6 a' b' x' y',
  eL jW j7 (m+1) [some (cp k ar,false),s1,some (.int other,false),some (.list (f.map cj),true),some (.list (r.map (fy ar kind)),false),b5,a,b,x,y] =
   some (.next [some (cp k ar,false),s1,some (.int other,false),some (.list ((run ar kind other m r f).map cj),true),some (.list [],false),S6,a',b',x',y'])
 | m,r,f,b5,a,b,x,y,hl,hs,hz=>by
  have nb:Nb 3 (.list (r.map (fy ar kind))):=.list (mf (Jr ar kind) r);have OJ:Nb 3 (.list []):=.list .nil;have ht:jW [some (cp k ar,false),s1,some (.int other,false),some (.list (f.map cj),true),some (.list (r.map (fy ar kind)),false),b5,a,b,x,y]=some (decide (r≠[])):=by
   have:zZ (.list (r.map (fy ar kind))) (.list [])=some (decide (r≠[])):=by
    by_cases hr:r=[]
    ·subst hr;exact HK OJ
    ·rw[MN nb OJ (by simpa using hr),decide_eq_true hr]
   simp only[jW,dH,dR,cx,cc,cZ,cv,aH,aI,ae,WO,Cp,if_true,au,this]
  by_cases hr:r=[]
  ·subst hr;refine⟨b5,a,b,x,y,?_⟩;rw[eL,ht,ae,if_neg (by simp),xg];rfl
  ·have h0:0<r.length:=List.length_pos_iff.mpr hr;cases m with
   |zero=>exact absurd hl hr
   |succ m =>
    obtain⟨p0,RX⟩:=Xu r hr;have Nm:=hs p0 RX;have GY:=sZ ar kind r;have hh:=sD ar kind other r;have hp:1<=6 ^ m:=Nat.one_le_pow _ _ (by decide);have q1:r.length<=r.length*6 ^ m:=Nat.le_mul_of_pos_right _ ⋯;have q2:ar.length*r.length<=5*r.length:=Xj _ ha;have q3:(step ar kind r).length*6 ^ m<=(5*r.length)*6 ^ m:=Xj _ ⋯;rw[Nat.pow_succ,<-Nat.mul_assoc] at hz;have q4:5*r.length*6 ^ m=5*(r.length*6 ^ m):=Nat.mul_assoc ..;obtain⟨c5,c6,c7,c8,c9,e1⟩:=L9 (k:=k) (kind:=kind) (other:=other) (ar:=ar) (s1:=s1) (b5:=b5) (a:=a) (b:=b) (x:=x) (y:=y) (r:=r) (f:=f) (fun p hp=>by have:=hs p hp;omega) ⋯ ⋯;obtain⟨d5,d6,d7,d8,d9,e2⟩:=CO (k:=k) (kind:=kind) (other:=other) (s1:=s1) ha m (step ar kind r) (f++gC ar kind other r) c5 c6 c7 c8 c9 hl (fun q hq=>by have:=sY (b:=1000-m) (fun p hp=>by have:=hs p hp;omega) q hq;omega) (by rw[aw];omega);refine⟨d5,d6,d7,d8,d9,?_⟩;rw[eL,ht,ae,if_pos (decide_eq_true hr),e1,ae];exact e2
theorem j3 {k kind other:Int}{ar:Ar}(w:Wf k ar)(h4:k<=4)(ha:ar.length<=5)(hk:0<=kind)(Ic:kind<k):dF [cp k ar,.int kind,.int other]=some (.list ((fu k ar kind other).map cj),true):=by
 have hp:=vX (m:=k.toNat) ⋯;obtain⟨c5,c6,c7,c8,c9,e⟩:=CO (k:=k) (kind:=kind) (other:=other) (s1:=some (.int kind,false)) ha k.toNat [[]] [] none none none none none (xD w _ _ (vN hk Ic)) (fun p hp=>by cases List.mem_singleton.mp hp;simp;omega) (by simp;omega);have rn:dF [cp k ar,.int kind,.int other]=(nA [some (cp k ar,false),some (.int kind,false),some (.int other,false),none,none,none,none,none,none,none]).bind fQ:=rfl;rw[rn];unfold nA;have s1:(cH 3 (cZ cv)) [some (cp k ar,false),some (.int kind,false),some (.int other,false),none,none,none,none,none,none,none]=some (.next [some (cp k ar,false),some (.int kind,false),some (.int other,false),some (.list [],true),none,none,none,none,none,none]):=by
  simp[cH,cZ,cv]
 have s2:(gc 4 (cH 4 (cZ (b6 (dj (b6 (dj cv) (b6 (cg 1) cv))) cv)))) [some (cp k ar,false),some (.int kind,false),some (.int other,false),some (.list [],true),none,none,none,none,none,none] =
   some (.next [some (cp k ar,false),some (.int kind,false),some (.int other,false),some (.list [],true),some (.list ([[]].map (fy ar kind)),false),none,none,none,none,none]):=by
  simp[gc,cH,cZ,b6,dj,cv,cg,Kt,IK,share,cj,fy,du]
 rw[bD] at e;rw[cI,s1,ae];dsimp only;rw[cI,s2,ae];dsimp only;rw[cI,nJ e,ae];simp[ko,fQ,fu]
noncomputable def dI (xs:List Int):D:=.tuple (xs.map .int)
noncomputable def dW (rows:List Int)(steps:List (List Int)):D:=.tuple [dI rows,.tuple (steps.map dI)]
noncomputable def gI (xs:List Int)(i:Int):Int:=xs.getD i.toNat 0
theorem wN (rows:List Int)(steps:List (List Int)):cP (dW rows steps) (.int 0)=some (dI rows,false):=by simp[dW,cP,vd,yu]
theorem Ds (rows:List Int)(steps:List (List Int)):cP (dW rows steps) (.int 1)=some (.tuple (steps.map dI),false):=by simp[dW,cP,vd,yu]
theorem xU {xs:List Int}{i:Int}(h0:0<=i)(h1:i<xs.length):xs[i.toNat]?=some (gI xs i):=by
 have hl:i.toNat<xs.length:=by omega
 unfold gI;rw[av,aq hl];rfl
theorem rz {xs:List Int}{i:Int}(h0:0<=i)(h1:i<xs.length):cP (dI xs) (.int i)=some (.int (gI xs i),false):=by
 unfold dI cP;dsimp only;rw[rJ h0 (d:=.int (gI xs i)) (by rw[ay,xU h0 h1];rfl)];rfl
theorem tN {xs:List Int}{i:Int}(h0:0<=i)(h1:i<xs.length):cP (.list (xs.map .int)) (.int i)=some (.int (gI xs i),false):=by
 unfold cP;dsimp only;rw[rJ h0 (d:=.int (gI xs i)) (by rw[ay,xU h0 h1];rfl)];rfl
theorem N7 {ss:List (List Int)}{i:Nat}{s:List Int}(h:ss[i]?=some s):cP (.tuple (ss.map dI)) (.int (i:Int))=some (dI s,false):=by
 unfold cP;dsimp only;rw[rJ ⋯ (d:=dI s) (by rw[aQ,ay,h];rfl)];rfl
theorem KD (xs:List Int):Nb 1 (dI xs):=.tuple (mf (f:=PyData.int) (fun n=>.int 0 _) xs)
theorem Js (rows:List Int)(steps:List (List Int)):Nb 3 (dW rows steps):=.tuple (.cons (.tuple (mf (f:=PyData.int) (fun n=>.int 1 _) rows)) (.cons (.tuple (mf KD steps)) .nil))
theorem Mv {xs:List Int}{i j v:Int}(hi:0<=i)(hj:0<=j)(hl:i<xs.length):gI (xs.set i.toNat v) j=if j=i then v else gI xs j:=by
 unfold gI;rw[av,av];by_cases h:j=i
 ·subst h;rw[aA ⋯,if_pos rfl];rfl
 ·rw[aj ⋯,if_neg h]
theorem mK {xs:List Int}(h:∀r∈xs,0<=r)(i:Int):0<=gI xs i:=by
 unfold gI;rw[av];cases e:xs[i.toNat]? with
 |none=>exact Int.le_refl 0
 |some r=>exact h r (aF e)
theorem rK {xs:List Int}{m:Int}(hm:0<=m)(h:∀r∈xs,r<=m)(i:Int):gI xs i<=m:=by
 unfold gI;rw[av];cases e:xs[i.toNat]? with
 |none=>exact hm
 |some r=>exact h r (aF e)
structure yp (k:Int)(ar:Ar)(rows:List Int)(steps:List (List Int)):Prop where
 len:(rows.length:Int)=k
 nn:∀r∈rows,0<=r
 sl:steps.length=ar.length
 st:∀(i:Nat) (a:Int×Int) (s:List Int),ar[i]?=some a->steps[i]?=some s->(s.length:Int)=gI rows a.1/\∀x∈s,0<=x/\x<gI rows a.2
theorem FL (xs:List Int):dM (dI xs)=some (xs.map .int):=rfl
noncomputable def n6 (c:Int)(k most:Int):List Int:=(ao k.toNat).map fun (i:Nat)=>qj c (i:Int) (most+1)
noncomputable def mq (rows:List Int)(p:Int×Int):List Int:=if 0<gI rows p.1/\gI rows p.2=0 then rows.set p.2.toNat 1 else rows
structure iZ (k most:Int)(rows:List Int):Prop where
 len:(rows.length:Int)=k
 nn:∀r∈rows,0<=r
 le:∀r∈rows,r<=most
theorem qe {k most:Int}{rows:List Int}{p:Int×Int}(h:iZ k most rows)(hm:1<=most):iZ k most (mq rows p):=by
 unfold mq;split
 ·refine⟨by rw[aX];exact h.len,fun r hr=>?_,fun r hr=>?_⟩
  ·rcases List.mem_or_eq_of_mem_set hr with z|z
   ·exact h.nn r z
   ·omega
  ·rcases List.mem_or_eq_of_mem_set hr with z|z
   ·exact h.le r z
   ·omega
 ·exact h
theorem C8 {k most:Int}(hm:1<=most):∀(l:List (Int×Int)) (rows:List Int),iZ k most rows->iZ k most (l.foldl mq rows)
 |[],_,h=>h
 |p::l,rows,h=>C8 hm l (mq rows p) (qe h hm)
theorem sE {k most:Int}{rows:List Int}{p:Int×Int}(h:iZ k most rows)(hp:0<=p.2/\p.2<k){j:Int}(hj:0<=j):gI (mq rows p) j=if j=p.2/\0<gI rows p.1/\gI rows p.2=0 then 1 else gI rows j:=by
 have hl:=h.len;unfold mq;by_cases c:0<gI rows p.1/\gI rows p.2=0
 ·rw[if_pos c,Mv hp.1 hj ⋯];by_cases e:j=p.2
  ·rw[if_pos e,if_pos ⟨e,c⟩]
  ·rw[if_neg e,if_neg fun z=>e z.1]
 ·rw[if_neg c,if_neg fun z=>c z.2]
theorem J0 {k most:Int}{rows:List Int}{p:Int×Int}(h:iZ k most rows)(hp:0<=p.2/\p.2<k){j:Int}(hj:0<=j)(c:0<gI rows j):0<gI (mq rows p) j:=by
 rw[sE h hp hj];split
 ·decide
 ·exact c
theorem C7 {k most:Int}(hm:1<=most):∀(l:List (Int×Int)) (rows:List Int),iZ k most rows->(∀p∈l,0<=p.2/\p.2<k)->∀{j:Int},0<=j->0<gI rows j->0<gI (l.foldl mq rows) j
 |[],_,_,_,_,_,c=>c
 |p::l,rows,h,hp,j,hj,c=>C7 hm l (mq rows p) (qe h hm) (fun q hq=>hp q (by simp[hq])) hj (J0 h (hp p (by simp)) hj c)
theorem wq {k most:Int}(hm:1<=most):∀(l:List (Int×Int)) (rows:List Int),iZ k most rows->(∀p∈l,0<=p.2/\p.2<k)->∀{j:Int},0<=j->(∀p∈l,p.2≠j)->gI (l.foldl mq rows) j=gI rows j
 |[],_,_,_,_,_,_=>rfl
 | p::l,rows,h,hp,j,hj,c=>by
  rw[List.foldl_cons,wq hm l (mq rows p) (qe h hm) (fun q hq=>hp q (by simp[hq])) hj fun q hq=>c q (by simp[hq]),sE h (hp p (by simp)) hj,if_neg fun z=>c p (by simp) z.1.symm]
theorem wt {k most:Int}(hm:1<=most):∀(l:List (Int×Int)) (rows:List Int),iZ k most rows->(∀p∈l,0<=p.1/\p.1<p.2/\p.2<k)->l.Pairwise (fun p q=>p.1<=q.1)->∀p∈l,0<gI (l.foldl mq rows) p.1->0<gI (l.foldl mq rows) p.2
 |[],_,_,_,_,p,hp,_=>by cases hp
 | q::l,rows,h,hl,hs,p,hp,c=>by
  obtain⟨s1,s2⟩:=List.pairwise_cons.mp hs;have h':=qe (p:=q) h hm;have Nq:∀p∈l,0<=p.1/\p.1<p.2/\p.2<k:=fun p hp=>hl p (by simp[hp]);have hb:∀p∈l,0<=p.2/\p.2<k:=fun p hp=>by have:=Nq p hp;omega
  rw[List.foldl_cons] at c ⊢;rcases List.mem_cons.mp hp with z|z
  ·subst z;obtain⟨a0,a1,a2⟩:=hl p (by simp);rw[wq hm l _ h' hb a0 fun q hq=>by have:=Nq q hq;have:=s1 q hq;omega] at c;rw[sE h ⟨by omega,a2⟩ a0,if_neg fun z=>by omega] at c;refine C7 hm l _ h' hb ⋯ ?_;rw[sE h ⟨by omega,a2⟩ ⋯];have nn:=mK h.nn p.2;by_cases e:gI rows p.2=0
   ·rw[if_pos ⟨rfl,c,e⟩];decide
   ·rw[if_neg fun z=>e z.2.2];omega
  ·exact wt hm l _ h' Nq s2 p z c
theorem yZ:∀ar:Ar,oF (ar.map cD)=some ar
 |[]=>rfl
 | p::ar=>by
  rw[aC,oF,yZ ar];rfl
theorem IQ {ar:Ar}(h:ar.length<64):ma (.tuple (ar.map cD))=some (.list ((lM ar).map cD),true):=by
 unfold ma yL;dsimp only;rw[yZ,ae,if_pos h];rfl
theorem yK {ar:Ar}{p:Int×Int}:p∈lM ar<->p∈ar:=(Xo ar Fd).mem_iff
theorem IM (ar:Ar):(lM ar).Pairwise (fun p q=>p.1<=q.1):=by
 refine (Xc (le:=Fd) (fun a b c h1 h2=>?_) (fun a b=>?_) ar).imp fun h=>?_
 ·simp only[Fd,decide_eq_true_eq] at *;omega
 ·simp only[Fd,Bool.or_eq_true,decide_eq_true_eq];omega
 ·simp only[Fd,decide_eq_true_eq] at h;omega
noncomputable def qE (c:Int)(i:Nat)(n m:Int):List Int:=(ao n.toNat).map fun (x:Nat)=>qj c (61*(i:Int)+(x:Int)) m
noncomputable def w4 (c:Int)(rows:List Int)(ar:Ar):List (List Int):=(ar.zipIdx).map fun p=>qE c p.2 (gI rows p.1.1) (gI rows p.1.2)
theorem MS {nI:D}{first c x most y:Int}(hc:cL [nI,.int first]=some (.int c,false))(hf:cX [.int c,.int x,.int (most+1)]=some (.int y,false)):jD [some (.int x,false),some (nI,false),some (.int first,false),some (.int most,false)]=some (.int y,false):=by
 simp[jD,cF,b6,cv,cg,hc,d2,cc,cx,dC,eQ,hf]
theorem MR {c x i y:Int}{rows:List Int}{a:Int×Int}(i2:cP (.list (rows.map .int)) (.int a.2)=some (.int (gI rows a.2),false))(hf:cX [.int c,.int (61*i+x),.int (gI rows a.2)]=some (.int y,false)):k6 [some (.int x,false),some (.int c,false),some (.list (rows.map .int),true),some (.int i,false),some (cD a,false)]=some (.int y,false):=by
 have hm:pP (.int 61) (.int i)=some (.int (61*i),false):=Gn (by decide) (by decide);simp[k6,cF,b6,cv,cg,d2,cc,cx,dC,eQ,hm,n8,i2,hf]
noncomputable def tx (f:Nat->Int)(k:Int):List Int:=(ao k.toNat).map f
theorem EY {nI:D}{first c k most:Int}{ar:Ar}{f:Nat->Int}(hc:cL [nI,.int first]=some (.int c,false))(hf:∀x:Nat,cX [.int c,.int (x:Int),.int (most+1)]=some (.int (f x),false))(hk:0<=k)(Ic:k<1000) :
  (cH 4 (da (cR (d2 cP (cc 2) (cx (dC (.int 0))))) 1 [0,1,3] (gN 0) f9 jD)) [some (nI,false),some (.int first,false),some (cp k ar,false),some (.int most,false),none,none,none,none,none,none,none] =
   some (.next [some (nI,false),some (.int first,false),some (cp k ar,false),some (.int most,false),some (.list ((tx f k).map .int),true),none,none,none,none,none,none]):=by
 have hi:(cR (d2 cP (cc 2) (cx (dC (.int 0))))) [some (nI,false),some (.int first,false),some (cp k ar,false),some (.int most,false),none,none,none,none,none,none,none]=some (fK 0 k.toNat):=by
  exact dZ (o:=false) (by simp[d2,cc,cx,dC,pY]) hk ⋯
 have hz:(fK 0 k.toNat).length<=sizeLine:=Aj (by rw[dE,ai,aB];omega);have G6:fI 1 [0,1,3] [some (nI,false),some (.int first,false),some (cp k ar,false),some (.int most,false),none,none,none,none,none,none,none]=[none,some (nI,false),some (.int first,false),some (.int most,false)]:=by simp[fI]
 have Sw:jE (gN 0) f9 jD [none,some (nI,false),some (.int first,false),some (.int most,false)] (fK 0 k.toNat)=some ((tx f k).map .int):=by
  rw[dE,tx,bt];exact lU (ao k.toNat) fun x _=>⟨_,false,rfl,MS hc (hf x)⟩
 rw[cH,da,hi,ae,if_pos hz,G6,Sw];rfl
theorem F3 {c k most:Int}(hk:0<=k)(hm:0<=most):iZ k most (n6 c k most):=by
 refine⟨by rw[n6,ai,aB];omega,fun r hr=>?_,fun r hr=>?_⟩
 ·obtain⟨x,_,rfl⟩:=List.mem_map.mp hr;exact nQ ⋯
 ·obtain⟨x,_,rfl⟩:=List.mem_map.mp hr;have:=nR (c:=c) (k:=(x:Int)) (b:=most+1) ⋯;omega
theorem HM {k most:Int}{rows:List Int}{s0 s1 s2 s3 s7 s8 s9 s10:Option Vl}{p:Int×Int}(h:iZ k most rows)(hp:0<=p.1/\p.1<p.2/\p.2<k) :
  gQ [s0,s1,s2,s3,some (.list (rows.map .int),true),some (.int p.1,false),some (.int p.2,false),s7,s8,s9,s10]=some (.next [s0,s1,s2,s3,some (.list ((mq rows p).map .int),true),some (.int p.1,false),some (.int p.2,false),s7,s8,s9,s10]):=by
 have hl:=h.len;have i1:=tN (xs:=rows) (i:=p.1) hp.1 ⋯;have i2:=tN (xs:=rows) (i:=p.2) ⋯ ⋯;have hx:yu (rows.map PyData.int).length p.2=some p.2.toNat:=by
  unfold yu;rw[if_pos ⋯,if_pos (by rw[ai];omega)]
 rw[ai] at hx;unfold mq;by_cases c1:0<gI rows p.1
 ·by_cases c2:gI rows p.2=0
  ·rw[if_pos ⟨c1,c2⟩];simp[gQ,kK,rW,dH,dR,cx,d2,cc,dC,i1,i2,Ik,c1,fF,c2,IU,cg,yx,lN,hx,List.map_set]
  ·rw[if_neg fun z=>c2 z.2];simp[gQ,kK,rW,dH,dR,cx,d2,cc,dC,i1,i2,Ik,c1,fF,c2,gH]
 ·rw[if_neg fun z=>c1 z.1];simp[gQ,kK,rW,dH,dR,cx,d2,cc,dC,i1,Ik,c1,gH]
theorem EX {k most c:Int}{rows:List Int}{nI:D}{first:Int}{s2 s3 s5 s6 s10:Option Vl}{a:Int×Int}{i:Nat}{g:List (List Int)}{f:Nat->Int}(hc:cL [nI,.int (first+1)]=some (.int c,false))(hf:0<gI rows a.1->∀x:Nat,cX [.int c,.int (61*(i:Int)+(x:Int)),.int (gI rows a.2)]=some (.int (f x),false))(h:iZ k most rows)(hm:most<1000)(ha:0<=a.1/\a.1<a.2/\a.2<k)(hg:g.length<1000000) :
  jJ [some (nI,false),some (.int first,false),s2,s3,some (.list (rows.map .int),true),s5,s6,some (.list (g.map dI),true),some (.int (i:Int),false),some (cD a,false),s10] =
   some (.next [some (nI,false),some (.int first,false),s2,s3,some (.list (rows.map .int),true),s5,s6,some (.list ((g++[tx f (gI rows a.1)]).map dI),true),some (.int (i:Int),false),some (cD a,false),some (.int c,false)]):=by
 have hl:=h.len;have i1:=tN (xs:=rows) (i:=a.1) ha.1 ⋯;have i2:=tN (xs:=rows) (i:=a.2) ⋯ ⋯;have n0:=mK h.nn a.1;have n1:=rK (m:=most) (by have:=mK h.nn a.1;have:=h.le;by_cases e:rows=[];(subst e;simp at hl;omega);obtain⟨r,hr⟩:=Xu rows e;have:=h.le r hr;have:=h.nn r hr;omega) h.le a.1;have e1:(cH 10 (cF cL (b6 (cg 0) (b6 (d2 eQ (cc 1) (cx (dC (.int 1)))) cv)))) [some (nI,false),some (.int first,false),s2,s3,some (.list (rows.map .int),true),s5,s6,some (.list (g.map dI),true),some (.int (i:Int),false),some (cD a,false),s10] =
   some (.next [some (nI,false),some (.int first,false),s2,s3,some (.list (rows.map .int),true),s5,s6,some (.list (g.map dI),true),some (.int (i:Int),false),some (cD a,false),some (.int c,false)]):=by
  simp[cH,cF,b6,cv,cg,d2,cc,cx,dC,eQ,hc]
 have hi:(cR (d2 cP (cc 4) (cx (d2 cP (cc 9) (cx (dC (.int 0))))))) [some (nI,false),some (.int first,false),s2,s3,some (.list (rows.map .int),true),s5,s6,some (.list (g.map dI),true),some (.int (i:Int),false),some (cD a,false),some (.int c,false)]=some (fK 0 (gI rows a.1).toNat):=by
  exact dZ (o:=false) (by simp[d2,cc,cx,dC,mW,i1]) n0 ⋯
 have hz:(fK 0 (gI rows a.1).toNat).length<=sizeLine:=Aj (by rw[dE,ai,aB];omega);have G6:fI 1 [10,4,8,9] [some (nI,false),some (.int first,false),s2,s3,some (.list (rows.map .int),true),s5,s6,some (.list (g.map dI),true),some (.int (i:Int),false),some (cD a,false),some (.int c,false)] =
   [none,some (.int c,false),some (.list (rows.map .int),true),some (.int (i:Int),false),some (cD a,false)]:=by simp[fI]
 have Sw:jE (gN 0) f9 k6 [none,some (.int c,false),some (.list (rows.map .int),true),some (.int (i:Int),false),some (cD a,false)] (fK 0 (gI rows a.1).toNat)=some ((tx f (gI rows a.1)).map .int):=by
  rw[dE,tx,bt];refine lU (ao (gI rows a.1).toNat) fun x hx=>⟨_,false,rfl,MR i2 (hf ?_ x)⟩;rw[bz] at hx;omega
 have VS:(g.map dI).length<sizeLine:=wZ (by rw[ai];exact hg);rw[jJ,cI,e1,ae];dsimp only;rw[gv,d1,cx,da,hi,ae,if_pos hz,G6,Sw];simp only[au,ae,dh,lN,aH,aI,VS,if_true,bV,aU,aC,bD,dI]
theorem DN {c n m:Int}{i:Nat}(hn:0<=n)(go:0<n->0<m):((qE c i n m).length:Int)=n/\∀x∈qE c i n m,0<=x/\x<m:=by
 refine⟨by rw[qE,ai,aB];omega,fun x hx=>?_⟩;obtain⟨y,hy,rfl⟩:=List.mem_map.mp hx;rw[bz] at hy;have hm:=go ⋯;exact⟨nQ hm,nR hm⟩
theorem uP {k most c:Int}{rows:List Int}{nI:D}{first:Int}{s2 s3 s5 s6:Option Vl}(hc:cL [nI,.int (first+1)]=some (.int c,false))(h:iZ k most rows)(hm:most<1000):∀(l:List ((Int×Int)×Nat)) (g:List (List Int)) (x y z:Option Vl),(∀p∈l,(0<=p.1.1/\p.1.1<p.1.2/\p.1.2<k)/\(0<gI rows p.1.1->0<gI rows p.1.2))->g.length+l.length<=1000->∃x' y' z',
  fo (gT [gN 8,gN 9]) jJ (l.map fun p=>.tuple [.int (p.2:Int),cD p.1]) [some (nI,false),some (.int first,false),s2,s3,some (.list (rows.map .int),true),s5,s6,some (.list (g.map dI),true),x,y,z] =
   some (.next [some (nI,false),some (.int first,false),s2,s3,some (.list (rows.map .int),true),s5,s6,some (.list ((g++l.map fun p=>qE c p.2 (gI rows p.1.1) (gI rows p.1.2)).map dI),true),x',y',z'])
 |[],g,x,y,z,_,_=>⟨x,y,z,by simp[fo]⟩
 | p::l,g,x,y,z,hp,hg=>by
  rw[aJ] at hg;obtain⟨x',y',z',e⟩:=uP (s2:=s2) (s3:=s3) (s5:=s5) (s6:=s6) hc h hm l (g++[qE c p.2 (gI rows p.1.1) (gI rows p.1.2)]) (some (.int (p.2:Int),false)) (some (cD p.1,false)) (some (.int c,false)) (fun q hq=>hp q (by simp[hq])) (by rw[aw,aY];omega);refine⟨x',y',z',?_⟩;rw[aC,fo];simp only[gT,pX,gN,bV,ae];rw[EX (f:=fun x=>qj c (61*(p.2:Int)+(x:Int)) (gI rows p.1.2)) hc (fun z x=>nS ((hp p (by simp)).2 z)) h hm (hp p (by simp)).1 ⋯,ae];dsimp only;refine Eq.trans e ?_;rw[bg];rfl
theorem Kf (ns:List Int)(first:Nat){k most:Int}{ar:Ar}(w:Wf k ar)(Ic:k<1000)(ha:ar.length<64)(hm:1<=most)(O8:most<1000):∃rows steps,iD [.list (ns.map .int),.int (first:Int),cp k ar,.int most]=some (dW rows steps,false)/\yp k ar rows steps/\(∀r∈rows,r<=most):=by
 have c1:=k7 ns first
 have c2:=k7 ns (first+1);rw[show (((first+1:Nat)):Int)=(first:Int)+1 by omega] at c2;generalize cell ns first=c at c1
 generalize cell ns (first+1)=c' at c2;generalize PyData.list (ns.map .int)=nI at c1 c2;have k0:0<=k:=by have:=w.lo;omega
 have t1:=EY (ar:=ar) (most:=most) (f:=fun (i:Nat)=>qj c (i:Int) (most+1)) c1 (fun x=>nS ⋯) k0 Ic;rw[show tx (fun (i:Nat)=>qj c (i:Int) (most+1)) k=n6 c k most from rfl] at t1;have r0:=F3 (c:=c) (most:=most) k0 ⋯;have mem:∀p∈lM ar,0<=p.1/\p.1<p.2/\p.2<k:=fun p hp=>w.ok p (yK.mp hp);have r1:=C8 (k:=k) hm (lM ar) (n6 c k most) r0;have go:∀p∈ar,0<gI ((lM ar).foldl mq (n6 c k most)) p.1->0<gI ((lM ar).foldl mq (n6 c k most)) p.2:=fun p hp=>wt hm (lM ar) _ r0 mem (IM ar) p (yK.mpr hp);obtain⟨gE,l1,⟨x5,x6,e1⟩,_⟩:=pZ (g:=gT [gN 5,gN 6]) (b:=gQ) (d:=cD) (f:=mq) (P:=fun rows ρ=>(∃x y,ρ=[some (nI,false),some (.int (first:Int),false),some (cp k ar,false),some (.int most,false),some (.list (rows.map .int),true),x,y,none,none,none,none])/\iZ k most rows) (lM ar) (n6 c k most) _ ⟨⟨none,none,rfl⟩,r0⟩ (fun p hp rows ρ zz=>by
  obtain ⟨⟨x,y,e⟩,ro⟩:=zz;subst e;exact⟨_,_,rfl,HM ro (mem p hp),⟨_,_,rfl⟩,qe ro hm⟩)
 generalize (lM ar).foldl mq (n6 c k most)=rows at r1 go e1;subst e1;have OM:∀p∈ar.zipIdx,p.1∈ar:=fun p hp=>by
  obtain⟨q,j⟩:=p;exact (List.mem_zipIdx hp).2.2▸bY _
 obtain⟨y8,y9,Ux,l2⟩:=uP (s2:=some (cp k ar,false)) (s3:=some (.int most,false)) (s5:=x5) (s6:=x6) c2 r1 O8 ar.zipIdx [] none none none (fun p hp=>⟨w.ok _ (OM p hp),go _ (OM p hp)⟩) (by rw[bM];simp;omega);rw[<-gW] at l2;have t2:(eI (dq (gS (d1 ma (cx (d2 cP (cc 2) (cx (dC (.int 1)))))))) (gT [(gN 5),(gN 6)]) gQ) [some (nI,false),some (.int (first:Int),false),some (cp k ar,false),some (.int most,false),some (.list ((n6 c k most).map .int),true),none,none,none,none,none,none] =
   some (.next [some (nI,false),some (.int (first:Int),false),some (cp k ar,false),some (.int most,false),some (.list (rows.map .int),true),x5,x6,none,none,none,none]):=by
  have hi:(dq (gS (d1 ma (cx (d2 cP (cc 2) (cx (dC (.int 1)))))))) [some (nI,false),some (.int (first:Int),false),some (cp k ar,false),some (.int most,false),some (.list ((n6 c k most).map .int),true),none,none,none,none,none,none]=some ((lM ar).map cD):=by
   simp[dq,gS,d1,cx,d2,cc,dC,kZ,IQ ha,dM]
  rw[eI,hi,ae,l1]
 have t3:(cH 7 (cZ cv)) [some (nI,false),some (.int (first:Int),false),some (cp k ar,false),some (.int most,false),some (.list (rows.map .int),true),x5,x6,none,none,none,none] =
   some (.next [some (nI,false),some (.int (first:Int),false),some (cp k ar,false),some (.int most,false),some (.list (rows.map .int),true),x5,x6,some (.list ([].map dI),true),none,none,none]):=by simp[cH,cZ,cv]
 have t4:(eI (eO (gS (d2 cP (cc 2) (cx (dC (.int 1)))))) (gT [(gN 8),(gN 9)]) jJ) [some (nI,false),some (.int (first:Int),false),some (cp k ar,false),some (.int most,false),some (.list (rows.map .int),true),x5,x6,some (.list ([].map dI),true),none,none,none] =
   some (.next [some (nI,false),some (.int (first:Int),false),some (cp k ar,false),some (.int most,false),some (.list (rows.map .int),true),x5,x6,some (.list ((w4 c' rows ar).map dI),true),y8,y9,Ux]):=by
  have hi:(eO (gS (d2 cP (cc 2) (cx (dC (.int 1)))))) [some (nI,false),some (.int (first:Int),false),some (cp k ar,false),some (.int most,false),some (.list (rows.map .int),true),x5,x6,some (.list ([].map dI),true),none,none,none]=some (fG 0 (ar.map cD)):=by
   simp[eO,gS,d2,cx,cc,dC,kZ,dM]
  rw[eI,hi,ae,l2];rfl
 refine⟨rows,w4 c' rows ar,?_,⟨r1.len,r1.nn,by rw[w4,ai,bM],fun i a s e1 e2=>?_⟩,r1.le⟩
 ·have run:iD [nI,.int (first:Int),cp k ar,.int most]=(pw [some (nI,false),some (.int (first:Int),false),some (cp k ar,false),some (.int most,false),none,none,none,none,none,none,none]).bind fQ:=rfl;rw[run,pw,cI,t1,ae];dsimp only;rw[cI,t2,ae];dsimp only;rw[cI,t3,ae];dsimp only;rw[cI,t4,ae];simp[fi,dj,b6,cv,d1,cc,dh,IK,fQ,dW,dI]
 ·unfold w4 at e2;rw[ay,bS,e1] at e2;simp only[au,Option.some.injEq] at e2;subst e2;have hp:a∈ar:=aF e1;exact DN (mK r1.nn _) (go a hp)
theorem Fv (i:Int):jL [.int i]=some (.bool true,false):=by
 simp[jL,lR,fQ,rO,fi,vB,d1,md,CV,cc,B0,J9]
theorem Gq (x:Int):gK [some (.int x,false)]=some (.bool true,false):=by
 simp[gK,cF,b6,cv,cg,Fv]
theorem rj {α:Type}(xs:List α):qP (.list (xs.map fun _=>.bool true))=some (.bool true,false):=by
 rw[qP,wL (fun _=>true) xs];simp
theorem oK {xs:List Int}(h:xs.length<=1000000):eT [dI xs]=some (.bool true,false):=by
 have hz:(xs.map PyData.int).length<=sizeLine:=Aj (by rw[ai];exact h);have hc:(da (dq (fj 0)) 1 [] (gN 0) f9 gK) [some (dI xs,false)]=some (.list (xs.map fun _=>.bool true),true):=by
  have hi:(dq (fj 0)) [some (dI xs,false)]=some (xs.map .int):=by simp[dq,fj,dI]
  have G6:fI 1 [] [some (dI xs,false)]=[none]:=by simp[fI]
  rw[da,hi,ae,if_pos hz,G6,lU xs fun x _=>⟨_,false,rfl,Gq x⟩];rfl
 have run:eT [dI xs]=(lE [some (dI xs,false)]).bind fQ:=rfl;have h1:(d1 (md "tuple") (cc 0)) [some (dI xs,false)]=some (.bool true,false):=by simp[d1,cc,dI,md,CV]
 have h2:(d1 qP (cx (da (dq (fj 0)) 1 [] (gN 0) f9 gK))) [some (dI xs,false)]=some (.bool true,false):=by
  rw[d1,cx,hc,au,ae,rj]
 rw[run,lE,fi,vB,h1,ae];simp[B0,h2,fQ]
theorem Oq {xs:List Int}(h:xs.length<=1000000):iH [some (dI xs,false)]=some (.bool true,false):=by
 simp[iH,cF,b6,cv,cg,oK h]
theorem Jg {rows:List Int}{steps:List (List Int)}(hr:rows.length<=1000000)(hl:steps.length<=1000000)(hs:∀s∈steps,s.length<=1000000):kI [dW rows steps,dW rows steps]=some (.bool true,false):=by
 have run:kI [dW rows steps,dW rows steps]=(pb [some (dW rows steps,false),some (dW rows steps,false)]).bind fQ:=rfl;have l2:gn (dW rows steps)=some (.int 2,false):=by simp[dW,gn]
 have a1:md "tuple" (dW rows steps)=some (.bool true,false):=by simp[dW,md,CV]
 have a2:md "tuple" (.tuple (steps.map dI))=some (.bool true,false):=by simp[md,CV]
 have t1:(Fc (kM (si (d1 (md "tuple") (cc 0)))) (Fc (dH (cx (d1 gn (cc 0))) [(zZ,(cx (dC (.int 2))))]) (kM (si (cF eT (b6 (d2 cP (cc 0) (cx (dC (.int 0)))) cv)))))) [some (dW rows steps,false),some (dW rows steps,false)]=some false:=by
  simp[Fc,kM,si,d1,cc,a1,B0,dH,dR,cx,l2,dC,Dr,cF,b6,cv,d2,wN,oK hr]
 have hi:(dq (gS (d2 cP (cc 0) (cx (dC (.int 1)))))) [some (dW rows steps,false),some (dW rows steps,false)]=some (steps.map dI):=by simp[dq,gS,d2,cc,cx,dC,Ds,dM]
 have hz:(steps.map dI).length<=sizeLine:=Aj (by rw[ai];exact hl);have G6:fI 1 [] [some (dW rows steps,false),some (dW rows steps,false)]=[none]:=by simp[fI]
 have hc:(da (dq (gS (d2 cP (cc 0) (cx (dC (.int 1)))))) 1 [] (gN 0) f9 iH) [some (dW rows steps,false),some (dW rows steps,false)]=some (.list (steps.map fun _=>.bool true),true):=by
  rw[da,hi,ae,if_pos hz,G6,lU (β:=fun _=>.bool true) steps fun x hx=>⟨_,false,rfl,Oq (hs x hx)⟩];rfl
 have h2:(si (d1 qP (cx (da (dq (gS (d2 cP (cc 0) (cx (dC (.int 1)))))) 1 [] (gN 0) f9 iH)))) [some (dW rows steps,false),some (dW rows steps,false)]=some true:=by
  rw[si,d1,cx,hc,au,ae,rj];rfl
 have t2:(Fc (kM (si (d1 (md "tuple") (cx (d2 cP (cc 0) (cx (dC (.int 1)))))))) (kM (si (d1 qP (cx (da (dq (gS (d2 cP (cc 0) (cx (dC (.int 1)))))) 1 [] (gN 0) f9 iH)))))) [some (dW rows steps,false),some (dW rows steps,false)]=some false:=by
  have h3:(si (d1 (md "tuple") (cx (d2 cP (cc 0) (cx (dC (.int 1))))))) [some (dW rows steps,false),some (dW rows steps,false)]=some true:=by simp[si,d1,cx,d2,cc,dC,Ds,a2,B0]
  simp only[Fc,kM,h3,h2,ae,Bool.not_true,Bool.false_eq_true,if_false]
 have e3:=uO (Js rows steps);rw[run,pb,cI,kK,t1,ae,if_neg Bool.false_ne_true,gH,ae];dsimp only;rw[cI,kK,t2,ae,if_neg Bool.false_ne_true,gH,ae];simp[fi,uy,dH,dR,cc,e3,fQ]
noncomputable def eK (ar:Ar):Int->List Nat->Prop
 |_,[]=>True
 |kd,i::p=>∃a,ar[i]?=some a/\a.1=kd/\eK ar a.2 p
theorem gX {ar:Ar}{kd:Int}{i:Nat}{p:List Nat}{a:Int×Int}(h:ar[i]?=some a):du ar kd (i::p)=du ar a.2 p:=by
 have e:(ar.getD i (0,0))=a:=by rw[av,h];rfl
 cases p with
 |nil =>
  show (ar.getD i (0,0)).2=a.2;rw[e]
 |cons j p =>
  unfold du;rw[List.getLast?_cons_cons];cases hq:(j::p).getLast? with
  |none=>simp at hq
  |some q=>rfl
theorem eK.snoc {ar:Ar}:∀{p:List Nat}{kd:Int}{i:Nat}{a:Int×Int},eK ar kd p->ar[i]?=some a->a.1=du ar kd p->eK ar kd (p++[i])
 |[],kd,i,a,_,h1,h2=>⟨a,h1,h2,trivial⟩
 |j::p,kd,i,a,⟨b,g1,g2,g3⟩,h1,h2=>⟨b,g1,g2,eK.snoc g3 h1 (by rw[h2,gX g1])⟩
theorem vW {ar:Ar}{kind other:Int}:∀(m:Nat) (r f:List (List Nat)),(∀q∈r,eK ar kind q)->(∀q∈f,eK ar kind q)->∀p∈run ar kind other m r f,eK ar kind p
 |0,r,f,_,hf,p,hp=>hf p hp
 | m+1,r,f,hr,hf,p,hp=>by
  refine vW m (step ar kind r) (f++gC ar kind other r) (fun q hq=>?_) (fun q hq=>?_) p hp
  ·obtain⟨p',i,a,zI,e1,e2,e3,_⟩:=lL hq;rw[e1];exact (hr p' zI).snoc e2 e3
  ·rcases List.mem_append.mp hq with z|z
   ·exact hf q z
   ·exact hr q (List.mem_filter.mp z).1
theorem B1 {k:Int}{ar:Ar}{kind other:Int}:∀p∈fu k ar kind other,eK ar kind p:=vW _ _ _ (fun q hq=>by cases List.mem_singleton.mp hq;trivial) (fun q hq=>by cases hq)
theorem Cu {k:Int}{ar:Ar}{rows:List Int}{steps:List (List Int)}(b:yp k ar rows steps){i:Nat}{a:Int×Int}(h:ar[i]?=some a):∃s,steps[i]?=some s/\steps.getD i []=s/\(s.length:Int)=gI rows a.1/\∀x∈s,0<=x/\x<gI rows a.2:=by
 have hi:i<ar.length:=(List.getElem?_eq_some_iff.mp h).1;have Sh:i<steps.length:=by rw[b.sl];exact hi
 have e:=aq Sh;obtain⟨h1,h2⟩:=b.st i a _ h e;exact⟨_,e,by rw[av,e];rfl,h1,h2⟩
theorem xV {xs:List Int}{i:Int}(h0:0<=i)(h1:i<xs.length):gI xs i∈xs:=aF (xU h0 h1)
open PySem.SeqAt (shaped noMix)
open PySem.Spec (same same_self)
theorem Dc {e:Int}{p:List Nat}:∀{r:Ar}{s i:Nat}{a:Int×Int},r[i]?=some a->a.1=e->p++[s+i]∈i8 e p s r
 |[],s,i,a,h,_=>by simp at h
 | b::r,s,0,a,h,he=>by
  rw[aI,Option.some.injEq] at h;subst h;unfold i8;rw[if_pos he];simp
 | b::r,s,i+1,a,h,he=>by
  have q:=Dc (p:=p) (s:=s+1) (r:=r) (i:=i) (a:=a) (by simpa using h) he;rw[show s+1+i=s+(i+1) by omega] at q;unfold i8;split
  ·exact aG _ q
  ·exact q
theorem IL {ar:Ar}{kind:Int}{r:List (List Nat)}{p:List Nat}{i:Nat}{a:Int×Int}(hp:p∈r)(hi:ar[i]?=some a)(ha:a.1=du ar kind p):p++[i]∈step ar kind r:=by
 refine List.mem_flatMap.mpr ⟨p,hp,?_⟩;have:=Dc (p:=p) (s:=0) hi ha;rwa[bJ] at this
theorem zx {ar:Ar}{kind:Int}:∀(n:Nat) (r:List (List Nat)),lay ar kind (n+1) r=step ar kind (lay ar kind n r)
 |0,r=>rfl
 |n+1,r=>zx n (step ar kind r)
theorem Cw {ar:Ar}{kind other:Int}{p:List Nat}:∀(m:Nat) (r f:List (List Nat)),p∈f->p∈run ar kind other m r f
 |0,_,_,h=>h
 |m+1,r,f,h=>Cw m _ _ (aV _ h)
theorem Cz {ar:Ar}{kind other:Int}{p:List Nat}:∀(m:Nat) (r f:List (List Nat)) (j:Nat),j<m->p∈lay ar kind j r->du ar kind p=other->p∈run ar kind other m r f
 |0,_,_,_,h,_,_=>by omega
 |m+1,r,f,0,_,hp,he=>Cw m _ _ (aO _ (List.mem_filter.mpr ⟨hp,decide_eq_true he⟩))
 |m+1,r,f,j+1,h,hp,he=>Cz m (step ar kind r) _ j ⋯ hp he
theorem eK.Fx {ar:Ar}:∀{p:List Nat}{kd:Int}{i:Nat},eK ar kd (p++[i])->eK ar kd p/\∃a,ar[i]?=some a/\a.1=du ar kd p
 |[],kd,i,⟨a,h1,h2,_⟩=>⟨trivial,a,h1,h2⟩
 | j::p,kd,i,⟨b,g1,g2,g3⟩=>by
  obtain⟨h1,a,h2,h3⟩:=eK.Fx (p:=p) g3;exact⟨⟨b,g1,g2,h1⟩,a,h2,by rw[h3,gX g1]⟩
theorem wJ {ar:Ar}{kind:Int}:∀(n:Nat) (p:List Nat),p.length=n->eK ar kind p->p∈lay ar kind n [[]]
 | 0,p,hl,_=>by
  rw[List.length_eq_zero_iff] at hl;subst hl;exact List.mem_singleton.mpr rfl
 | n+1,p,hl,h=>by
  have og:p≠[]:=fun e=>by rw[e] at hl;simp at hl
  have e:=List.dropLast_concat_getLast og;generalize p.dropLast=q at e;generalize p.getLast og=i at e;subst e;obtain⟨h1,a,h2,h3⟩:=h.Fx;rw[zx];exact IL (wJ n q (by simpa using hl) h1) h2 h3
theorem qo {k:Int}{ar:Ar}(w:Wf k ar):∀(p:List Nat) (kd:Int),eK ar kd p->kd+p.length<=du ar kd p
 |[],kd,_=>by rw[nq];simp
 | i::p,kd,⟨a,g1,g2,g3⟩=>by
  have h1:=qo w p a.2 g3;have h2:=w.ok a (aF g1);rw[gX g1,aJ];omega
theorem qp {k:Int}{ar:Ar}(w:Wf k ar):∀(p:List Nat) (kd:Int),eK ar kd p->kd<k->du ar kd p<k
 |[],kd,_,h=>h
 | i::p,kd,⟨a,g1,g2,g3⟩,h=>by
  rw[gX g1];exact qp w p a.2 g3 (w.ok a (aF g1)).2.2
theorem Kh {k:Int}{ar:Ar}(w:Wf k ar){kind other:Int}(h0:0<=kind)(h1:kind<k){p:List Nat}(hc:eK ar kind p)(he:du ar kind p=other):p∈fu k ar kind other:=by
 have a:=qo w p kind hc;have b:=qp w p kind hc h1;exact Cz _ _ _ p.length ⋯ (wJ p.length p rfl hc) he
theorem jK {k:Int}{ar:Ar}(w:Wf k ar)(h4:k<=4){kind other:Int}(h0:0<=kind)(h1:kind<k){p:List Nat}:p∈fu k ar kind other<->eK ar kind p/\du ar kind p=other :=
 ⟨fun h=>⟨B1 p h,(z8 h4 p h).1⟩,fun h=>Kh w h0 h1 h.1 h.2⟩
theorem nr {ar:Ar}:∀(p q:List Nat) (kd:Int),eK ar kd p->du ar kd (p++q)=du ar (du ar kd p) q
 |[],q,kd,_=>rfl
 | i::p,q,kd,⟨a,g1,g2,g3⟩=>by
  rw[W4,gX g1,gX g1];exact nr p q a.2 g3
theorem eK.append {ar:Ar}:∀{p q:List Nat}{kd:Int},eK ar kd p->eK ar (du ar kd p) q->eK ar kd (p++q)
 |[],q,kd,_,h=>h
 |i::p,q,kd,⟨a,g1,g2,g3⟩,h=>⟨a,g1,g2,eK.append g3 (by rw[gX g1] at h;exact h)⟩
theorem eK.ok {ar:Ar}:∀{p:List Nat}{kd:Int},eK ar kd p->i4 ar p
 |[],_,_,j,hj=>by cases hj
 | i::p,kd,⟨a,g1,g2,g3⟩,j,hj=>by
  rcases List.mem_cons.mp hj with z|z
  ·subst z;exact (List.getElem?_eq_some_iff.mp g1).1
  ·exact eK.ok g3 j z
theorem nV {k:Int}{ar:Ar}(w:Wf k ar){kd:Int}(h0:0<=kd)(h1:kd<k){p:List Nat}(h:eK ar kd p):(p.length:Int)<k:=by
 have a:=qo w p kd h;have b:=qp w p kd h h1;omega
theorem D8 {p q:List Nat}(h:cj p=cj q):p=q:=by
 unfold cj at h;injection h with h
 have hi:Function.Injective tU:=fun a b e=>by
  unfold tU at e;injection e with e
  omega
 exact (List.map_inj_right hi).mp h
structure yk (k:Int)(ar:Ar)(k2:Int)(cW:Ar)(pl:List Int)(ws:List (List Nat)):Prop where
 len:(pl.length:Int)=k
 nn:∀x∈pl,0<=x/\x<k2
 wl:ws.length=ar.length
 way:∀(i:Nat) (a:Int×Int) (p:List Nat),ar[i]?=some a->ws[i]?=some p->eK cW (gI pl a.1) p/\du cW (gI pl a.1) p=gI pl a.2
noncomputable def vH (ws:List (List Nat)):D:=.tuple (ws.map cj)
noncomputable def gF (pl:List Int)(ws:List (List Nat)):D:=.tuple [dI pl,vH ws]
theorem td (pl:List Int)(ws:List (List Nat)):cP (gF pl ws) (.int 0)=some (dI pl,false):=by simp[gF,cP,vd,yu]
theorem FT (pl:List Int)(ws:List (List Nat)):cP (gF pl ws) (.int 1)=some (vH ws,false):=by simp[gF,cP,vd,yu]
theorem NP {ws:List (List Nat)}{i:Nat}{p:List Nat}(h:ws[i]?=some p):cP (vH ws) (.int (i:Int))=some (cj p,false):=by
 unfold cP vH;dsimp only;rw[rJ ⋯ (d:=cj p) (by rw[aQ,ay,h];rfl)];rfl
theorem PB {k:Int}{xs:List Int}(hl:(xs.length:Int)=k){P:Int->Prop}(h:∀x∈xs,P x){i:Int}(h0:0<=i)(h1:i<k):P (gI xs i):=h _ (xV h0 ⋯)
noncomputable def Hc (k2:Int)(cW:Ar)(pl:List Int)(kind dg:Int)(a:Int×Int):Bool:=!(decide (a.2=kind)&&decide (fu k2 cW (gI pl a.1) dg=[]))
noncomputable def qf (k2:Int)(cW:Ar)(pl:List Int)(ar:Ar)(kind dg:Int):Bool:=ar.all (Hc k2 cW pl kind dg)
theorem Ke {ps:List (List Nat)}:om (.list (ps.map cj)) (.list [])=some (decide (ps=[])):=by
 have OJ:Nb 2 (.list []):=.list .nil;by_cases h:ps=[]
 ·subst h;rw[decide_eq_true rfl];exact uO OJ
 ·rw[MQ (GB ps) OJ (by simpa using h),decide_eq_false h]
theorem EH {k2 kind dg:Int}{cW:Ar}{pl:List Int}{s2:Option Vl}{a:Int×Int}(w2:Wf k2 cW)(h4:k2<=4)(zL:cW.length<=5)(nP:∀x∈pl,0<=x/\x<k2)(ha:a.2=kind->0<=a.1/\a.1<pl.length) :
  iI [some (cp k2 cW,false),some (.list (pl.map .int),false),s2,some (.int kind,false),some (.int dg,false),some (.int a.1,false),some (.int a.2,false)] =
   if Hc k2 cW pl kind dg a=true then some (.next [some (cp k2 cW,false),some (.list (pl.map .int),false),s2,some (.int kind,false),some (.int dg,false),some (.int a.1,false),some (.int a.2,false)]) else some (.ret (.bool false,false)):=by
 unfold Hc;by_cases h:a.2=kind
 ·obtain⟨h0,h1⟩:=ha h;have i1:=tN (xs:=pl) h0 h1;have hp:=nP _ (xV h0 h1);have e:=j3 (other:=dg) w2 h4 zL hp.1 hp.2;have c:=Ke (ps:=fu k2 cW (gI pl a.1) dg);by_cases hq:fu k2 cW (gI pl a.1) dg=[]
  ·rw[decide_eq_true hq] at c ⊢;simp[iI,kK,rW,dH,dR,cc,fF,h,cx,cF,b6,cv,cg,d2,i1,e,cZ,c,fi,dC]
  ·rw[decide_eq_false hq] at c ⊢;simp[iI,kK,rW,dH,dR,cc,fF,h,cx,cF,b6,cv,cg,d2,i1,e,cZ,c,gH]
 ·simp[iI,kK,rW,dH,dR,cc,fF,h,gH]
theorem J1 {k2 kind dg:Int}{cW ar:Ar}{pl:List Int}(w2:Wf k2 cW)(h4:k2<=4)(zL:cW.length<=5)(nP:∀x∈pl,0<=x/\x<k2)(ha:∀a∈ar,a.2=kind->0<=a.1/\a.1<pl.length) :
  fS [cp k2 cW,.list (pl.map .int),.tuple (ar.map cD),.int kind,.int dg]=some (.bool (qf k2 cW pl ar kind dg),false):=by
 have l:=wm (g:=gT [gN 5,gN 6]) (b:=iI) (d:=cD) (ok:=Hc k2 cW pl kind dg) (r:=(.bool false,false))
  (P:=fun ρ=>∃x y,ρ=[some (cp k2 cW,false),some (.list (pl.map .int),false),some (.tuple (ar.map cD),false),some (.int kind,false),some (.int dg,false),x,y]) ar _ ⟨none,none,rfl⟩
  (fun a VU ρ ⟨x,y,e⟩=>⟨[some (cp k2 cW,false),some (.list (pl.map .int),false),some (.tuple (ar.map cD),false),some (.int kind,false),some (.int dg,false),some (.int a.1,false),some (.int a.2,false)],by rw[e];rfl,by
   rw[EH w2 h4 zL nP (ha a VU)];split
   ·exact⟨_,rfl,_,_,rfl⟩
   ·rfl⟩)
 have run:fS [cp k2 cW,.list (pl.map .int),.tuple (ar.map cD),.int kind,.int dg]=(pf [some (cp k2 cW,false),some (.list (pl.map .int),false),some (.tuple (ar.map cD),false),some (.int kind,false),some (.int dg,false),none,none]).bind fQ:=rfl;have hi:(dq (fj 2)) [some (cp k2 cW,false),some (.list (pl.map .int),false),some (.tuple (ar.map cD),false),some (.int kind,false),some (.int dg,false),none,none]=some (ar.map cD):=by simp[dq,fj]
 rw[run,pf,cI,eI,hi,ae];unfold qf;split at l
 ·rename_i hl;obtain⟨de,l,_⟩:=l;rw[l,hl];simp[fi,dC,fQ]
 ·rename_i hl;rw[l,Bool.eq_false_iff.mpr hl];rfl
structure Ac (k2:Int)(cW ar:Ar)(pl:List Int):Prop where
 nn:∀x∈pl,0<=x/\x<k2
 go:∀a∈ar,a.2<pl.length->fu k2 cW (gI pl a.1) (gI pl a.2)≠[]
theorem qS {xs:List Int}{x i:Int}(h1:i<xs.length)(hp:0<xs.length):gI (xs++[x]) i=gI xs i:=by
 unfold gI;rw[av,av,aZ ⋯]
theorem EF {xs:List Int}{x:Int}:gI (xs++[x]) (xs.length:Int)=x:=by
 unfold gI;rw[av,aQ];simp
theorem Ac.snoc {k k2:Int}{cW ar:Ar}{pl:List Int}{dg:Int}(w:Wf k ar)(h:Ac k2 cW ar pl)(h0:0<=dg)(h1:dg<k2)(hf:qf k2 cW pl ar (pl.length:Int) dg=true):Ac k2 cW ar (pl++[dg]):=by
 refine⟨fun x hx=>?_,fun a ha hl=>?_⟩
 ·rcases List.mem_append.mp hx with z|z
  ·exact h.nn x z
  ·cases List.mem_singleton.mp z;exact⟨h0,h1⟩
 ·rw[aw,aY] at hl;have wa:=w.ok a ha;by_cases c:a.2=(pl.length:Int)
  ·have hq:=List.all_eq_true.mp hf a ha;unfold Hc at hq;rw[c,decide_eq_true rfl,Bool.true_and,Bool.not_eq_true',decide_eq_false_iff_not] at hq;rw[c,EF,qS ⋯ ⋯];exact hq
  ·rw[qS ⋯ ⋯,qS ⋯ ⋯];exact h.go a ha ⋯
theorem DJ {k k2 kind dg:Int}{cW ar:Ar}{pl:List Int}{s0 s1 s7 s8 s9 s10 s11:Option Vl}{b:Bool}(h2:0<k2)(hf:fS [cp k2 cW,.list (pl.map .int),.tuple (ar.map cD),.int kind,.int dg]=some (.bool b,false)) :
  iU [s0,s1,some (cp k ar,false),some (cp k2 cW,false),some (.list (pl.map .int),true),some (.int kind,false),some (.int dg,false),s7,s8,s9,s10,s11] =
   some (.next [s0,s1,some (cp k ar,false),some (cp k2 cW,false),some (.list (pl.map .int),true),some (.int kind,false),some (.int (if b=true then dg else (dg+1)%k2),false),s7,s8,s9,s10,s11]):=by
 cases b <;> simp[iU,kK,Ax,unown,IB,kM,si,cF,b6,cv,cg,d2,cc,cx,dC,kZ,pY,hf,B0,cH,eQ,iO h2,gH]
theorem DF {k k2 kind:Int}{cW ar:Ar}{pl:List Int}{s0 s1 s8 s9 s10 s11:Option Vl}(h2:0<k2)(hf:∀dg,fS [cp k2 cW,.list (pl.map .int),.tuple (ar.map cD),.int kind,.int dg]=some (.bool (qf k2 cW pl ar kind dg),false))(n:Nat){dg:Int}(q0:0<=dg)(q1:dg<k2)(s7:Option Vl):∃FO UN,0<=FO/\FO<k2 ∧
  fo (gN 7) iU (fK 0 n) [s0,s1,some (cp k ar,false),some (cp k2 cW,false),some (.list (pl.map .int),true),some (.int kind,false),some (.int dg,false),s7,s8,s9,s10,s11] =
   some (.next [s0,s1,some (cp k ar,false),some (cp k2 cW,false),some (.list (pl.map .int),true),some (.int kind,false),some (.int FO,false),UN,s8,s9,s10,s11]):=by
 rw[dE];obtain⟨de,l,⟨t,e⟩,g⟩:=pZ (g:=gN 7) (b:=iU) (d:=fun (i:Nat)=>.int (i:Int)) (f:=fun (st:Int) (_:Nat)=>if qf k2 cW pl ar kind st=true then st else (st+1)%k2)
  (P:=fun st ρ=>(∃t,ρ=[s0,s1,some (cp k ar,false),some (cp k2 cW,false),some (.list (pl.map .int),true),some (.int kind,false),some (.int st,false),t,s8,s9,s10,s11])/\0<=st/\st<k2) (ao n) dg _ ⟨⟨s7,rfl⟩,q0,q1⟩
  (fun i _ st ρ zz=>by
   obtain ⟨⟨t,e⟩,g⟩:=zz;subst e;refine⟨_,_,rfl,DJ h2 (hf st),⟨_,rfl⟩,?_⟩;split
   ·exact g
   ·exact⟨W9 _ ⋯,WU _ h2⟩)
 exact⟨_,t,g.1,g.2,by rw[l,e]⟩
theorem Jp (n:Nat):(aK n [PyData.tuple []]).flatten=(aK n ([]:List Nat)).map cj:=by
 rw[List.map_replicate];show _=aK n (PyData.tuple []);induction n with
 |zero=>rfl
 |succ n ih=>rw[bH,bU,ih];rfl
theorem JJ (n:Nat)(i:Int):(aK n [PyData.int i]).flatten=(aK n i).map PyData.int:=by
 rw[List.map_replicate];induction n with
 |zero=>rfl
 |succ n ih=>rw[bH,bU,ih];rfl
theorem DZ {k dg:Int}{ar:Ar}{ρ:Sl}(k0:0<=k)(k1:k<=100)(Ff:ρ[2]?=some (some (cp k ar,false)))(h6:ρ[6]?=some (some (.int dg,false))):rP (KJ (cZ (b6 (cg 6) cv))) (cx (d2 cP (cc 2) (cx (dC (.int 0))))) ρ=some (.list ((aK k.toNat dg).map .int),true):=by
 have n1:((k.toNat:Nat):Int)=k:=by omega
 rw[<-JJ];refine wG (xs:=[.int dg]) (n:=k.toNat) (by simp[KJ,cZ,b6,cv,cg,h6,Kt]) ?_ ⋯ (Aj (by rw[aY];omega));rw[n1];simp[d2,cc,cx,dC,pY,Ff]
theorem F5 {k:Int}{ar:Ar}{ρ:Sl}(h:ar.length<=100)(Ff:ρ[2]?=some (some (cp k ar,false))):rP (KJ (cZ (b6 (dj cv) cv))) (cx (d1 gn (cx (d2 cP (cc 2) (cx (dC (.int 1))))))) ρ=some (.list ((aK ar.length []).map cj),true):=by
 rw[<-Jp];exact wG (xs:=[.tuple []]) (n:=ar.length) (by simp[KJ,cZ,b6,dj,cv,Kt]) (by simp[d2,d1,gn,cc,cx,dC,kZ,Ff]) ⋯ (Aj (by rw[aY];omega))
theorem AN {ns:List Int}{first:Nat}{k k2 c:Int}{cW ar:Ar}{pl:List Int}{s6 s7 s8 s9 s10 s11:Option Vl}(w:Wf k ar)(Pd:k<=4)(KY:ar.length<=5)(w2:Wf k2 cW)(h4:k2<=4)(zL:cW.length<=5)(hc:cL [.list (ns.map .int),.int (first:Int)]=some (.int c,false))(ok:Ac k2 cW ar pl)(hl:pl.length<4):∃dg t,0<=dg/\dg<k2 ∧
  iT [some (.list (ns.map .int),false),some (.int (first:Int),false),some (cp k ar,false),some (cp k2 cW,false),some (.list (pl.map .int),true),some (.int (pl.length:Int),false),s6,s7,s8,s9,s10,s11] =
   if qf k2 cW pl ar (pl.length:Int) dg=true then some (.next [some (.list (ns.map .int),false),some (.int (first:Int),false),some (cp k ar,false),some (cp k2 cW,false),some (.list ((pl++[dg]).map .int),true),some (.int (pl.length:Int),false),some (.int dg,false),t,s8,s9,s10,s11])
   else some (.ret (gF (aK k.toNat dg) (aK ar.length []),false)):=by
 have h2:0<k2:=by have:=w2.lo;omega
 have h1:0<k:=by have:=w.lo;omega
 have hf:∀dg,fS [cp k2 cW,.list (pl.map .int),.tuple (ar.map cD),.int (pl.length:Int),.int dg]=some (.bool (qf k2 cW pl ar (pl.length:Int) dg),false):=fun dg=>J1 w2 h4 zL ok.nn fun a ha e=>by have:=w.ok a ha;omega
 have dr:=nS (c:=c) (k:=(pl.length:Int)) h2;obtain⟨dg,t,q0,q1,l⟩:=DF (k:=k) (s0:=some (.list (ns.map .int),false)) (s1:=some (.int (first:Int),false)) (s8:=s8) (s9:=s9) (s10:=s10) (s11:=s11) h2 hf k2.toNat (nQ (c:=c) (k:=(pl.length:Int)) h2) (nR (c:=c) (k:=(pl.length:Int)) h2) s7;refine⟨dg,t,q0,q1,?_⟩;have e1:(cH 6 (cF cX (b6 (cF cL (b6 (cg 0) (b6 (cg 1) cv))) (b6 (cg 5) (b6 (d2 cP (cc 3) (cx (dC (.int 0)))) cv))))) [some (.list (ns.map .int),false),some (.int (first:Int),false),some (cp k ar,false),some (cp k2 cW,false),some (.list (pl.map .int),true),some (.int (pl.length:Int),false),s6,s7,s8,s9,s10,s11] =
   some (.next [some (.list (ns.map .int),false),some (.int (first:Int),false),some (cp k ar,false),some (cp k2 cW,false),some (.list (pl.map .int),true),some (.int (pl.length:Int),false),some (.int (qj c (pl.length:Int) k2),false),s7,s8,s9,s10,s11]):=by
  have u3:(cF cL (b6 (cg 0) (b6 (cg 1) cv))) [some (.list (ns.map .int),false),some (.int (first:Int),false),some (cp k ar,false),some (cp k2 cW,false),some (.list (pl.map .int),true),some (.int (pl.length:Int),false),s6,s7,s8,s9,s10,s11]=some (.int c,false):=by
   simp only[cF,b6,cg,aH,aI,ae,cv,hc]
  have u8:(b6 (cF cL (b6 (cg 0) (b6 (cg 1) cv))) (b6 (cg 5) (b6 (d2 cP (cc 3) (cx (dC (.int 0)))) cv))) [some (.list (ns.map .int),false),some (.int (first:Int),false),some (cp k ar,false),some (cp k2 cW,false),some (.list (pl.map .int),true),some (.int (pl.length:Int),false),s6,s7,s8,s9,s10,s11]=some [.int c,.int (pl.length:Int),.int k2]:=by
   have u2:(d2 cP (cc 3) (cx (dC (.int 0)))) [some (.list (ns.map .int),false),some (.int (first:Int),false),some (cp k ar,false),some (cp k2 cW,false),some (.list (pl.map .int),true),some (.int (pl.length:Int),false),s6,s7,s8,s9,s10,s11]=some (.int k2,false):=by
    simp only[d2,cc,cx,dC,aH,aI,ae,au,pY]
   have u9:(b6 (cg 5) (b6 (d2 cP (cc 3) (cx (dC (.int 0)))) cv)) [some (.list (ns.map .int),false),some (.int (first:Int),false),some (cp k ar,false),some (cp k2 cW,false),some (.list (pl.map .int),true),some (.int (pl.length:Int),false),s6,s7,s8,s9,s10,s11]=some [.int (pl.length:Int),.int k2]:=by
    rw[b6,b6,u2];simp only[cg,aH,aI,ae,cv]
   rw[b6,u3,ae,u9,ae]
  rw[cH,cF,u8,ae,dr,ae];rfl
 have e2:(cR (d2 cP (cc 3) (cx (dC (.int 0))))) [some (.list (ns.map .int),false),some (.int (first:Int),false),some (cp k ar,false),some (cp k2 cW,false),some (.list (pl.map .int),true),some (.int (pl.length:Int),false),some (.int (qj c (pl.length:Int) k2),false),s7,s8,s9,s10,s11]=some (fK 0 k2.toNat) :=
  dZ (o:=false) (by simp[d2,cc,cx,dC,pY]) ⋯ ⋯
 have Nr:=hf dg;rw[iT,cJ e1];rw[cI,eI,e2,ae,l,ae];dsimp only;cases b:qf k2 cW pl ar (pl.length:Int) dg with
 |true =>
  rw[b] at Nr;have hz:pl.length<sizeLine:=wZ ⋯;simp[cI,kK,Ax,unown,IB,kM,si,cF,b6,cv,cg,d2,cc,cx,dC,kZ,Nr,B0,gH,gv,lN,hz]
 |false =>
  rw[b] at Nr;have e3:(Ax (kM (si (cF fS (b6 (cg 3) (b6 (cg 4) (b6 (d2 cP (cc 2) (cx (dC (.int 1)))) (b6 (cg 5) (b6 (cg 6) cv))))))))) [some (.list (ns.map .int),false),some (.int (first:Int),false),some (cp k ar,false),some (cp k2 cW,false),some (.list (pl.map .int),true),some (.int (pl.length:Int),false),some (.int dg,false),t,s8,s9,s10,s11]=some true:=by
   simp[Ax,unown,IB,kM,si,cF,b6,cv,cg,d2,cc,cx,dC,kZ,Nr,B0]
  rw[cI,kK,e3,ae,if_pos rfl,fi,dj,b6,d1,cx,DZ (ar:=ar) ⋯ ⋯ rfl rfl,au,ae,dh,ae,b6,d1,cx,F5 (k:=k) ⋯ rfl,au,ae,dh];simp[cv,IK,gF,dI,vH]
theorem tF {ns:List Int}{first:Nat}{k k2 c:Int}{cW ar:Ar}{s8 s9 s10 s11:Option Vl}(w:Wf k ar)(Pd:k<=4)(KY:ar.length<=5)(w2:Wf k2 cW)(h4:k2<=4)(zL:cW.length<=5)(hc:cL [.list (ns.map .int),.int (first:Int)]=some (.int c,false)):∀(n:Nat) (pl:List Int) (s5 s6 s7:Option Vl),Ac k2 cW ar pl->pl.length+n<=4 →
  (∃Om t5 t6 t7,Ac k2 cW ar Om/\Om.length=pl.length+n/\fo (gN 5) iT ((WT pl.length n).map fun (i:Nat)=>.int (i:Int)) [some (.list (ns.map .int),false),some (.int (first:Int),false),some (cp k ar,false),some (cp k2 cW,false),some (.list (pl.map .int),true),s5,s6,s7,s8,s9,s10,s11] =
   some (.next [some (.list (ns.map .int),false),some (.int (first:Int),false),some (cp k ar,false),some (cp k2 cW,false),some (.list (Om.map .int),true),t5,t6,t7,s8,s9,s10,s11])) ∨
  (∃dg,0<=dg/\dg<k2/\fo (gN 5) iT ((WT pl.length n).map fun (i:Nat)=>.int (i:Int)) [some (.list (ns.map .int),false),some (.int (first:Int),false),some (cp k ar,false),some (cp k2 cW,false),some (.list (pl.map .int),true),s5,s6,s7,s8,s9,s10,s11] =
   some (.ret (gF (aK k.toNat dg) (aK ar.length []),false)))
 |0,pl,s5,s6,s7,ok,_=>.inl ⟨pl,s5,s6,s7,ok,rfl,rfl⟩
 | n+1,pl,s5,s6,s7,ok,hl=>by
  obtain⟨dg,t,q0,q1,e⟩:=AN (s6:=s6) (s7:=s7) (s8:=s8) (s9:=s9) (s10:=s10) (s11:=s11) w Pd KY w2 h4 zL hc ok ⋯;rw[Xg,aC,fo];simp only[gN,bV,ae];cases b:qf k2 cW pl ar (pl.length:Int) dg with
  |false =>
   rw[b,if_neg Bool.false_ne_true] at e;exact .inr ⟨dg,q0,q1,by rw[e];rfl⟩
  |true =>
   rw[b,if_pos rfl] at e;have U3:=ok.snoc w q0 q1 b;have ih:=tF (s8:=s8) (s9:=s9) (s10:=s10) (s11:=s11) w Pd KY w2 h4 zL hc n (pl++[dg]) (some (.int (pl.length:Int),false)) (some (.int dg,false)) t U3 (by rw[aw,aY];omega);rw[show (pl++[dg]).length=pl.length+1 by simp] at ih;rw[e,ae];rcases ih with ⟨Om,t5,t6,t7,i1,i2,i3⟩|⟨sp,i1,i2,i3⟩
   ·exact .inl ⟨Om,t5,t6,t7,i1,by omega,i3⟩
   ·exact .inr ⟨sp,i1,i2,i3⟩
theorem LK {ps:List (List Nat)}{i:Int}{p:List Nat}(h0:0<=i)(h:ps[i.toNat]?=some p):cP (.list (ps.map cj)) (.int i)=some (cj p,false):=by
 unfold cP;dsimp only;rw[rJ h0 (d:=cj p) (by rw[ay,h];rfl)];rfl
theorem Fw {ns:List Int}{first:Nat}{k k2 c:Int}{cW ar:Ar}{pl:List Int}{s5 s6 s7 s11:Option Vl}{ws:List (List Nat)}{i:Nat}{a:Int×Int}(w:Wf k ar)(Nn:(pl.length:Int)=k)(w2:Wf k2 cW)(h4:k2<=4)(zL:cW.length<=5)(hc:cL [.list (ns.map .int),.int ((first:Int)+1)]=some (.int c,false))(ok:Ac k2 cW ar pl)(ha:a∈ar)(hw:ws.length<1000):∃p t,eK cW (gI pl a.1) p/\du cW (gI pl a.1) p=gI pl a.2 ∧
  j6 [some (.list (ns.map .int),false),some (.int (first:Int),false),some (cp k ar,false),some (cp k2 cW,false),some (.list (pl.map .int),true),s5,s6,s7,some (.list (ws.map cj),true),some (.int (i:Int),false),some (cD a,false),s11] =
   some (.next [some (.list (ns.map .int),false),some (.int (first:Int),false),some (cp k ar,false),some (cp k2 cW,false),some (.list (pl.map .int),true),s5,s6,s7,some (.list ((ws++[p]).map cj),true),some (.int (i:Int),false),some (cD a,false),t]):=by
 have wa:=w.ok a ha;have i1:=tN (xs:=pl) (i:=a.1) wa.1 ⋯;have i2:=tN (xs:=pl) (i:=a.2) ⋯ ⋯;have hp:=ok.nn _ (xV (xs:=pl) (i:=a.1) wa.1 ⋯);have e:=j3 (other:=gI pl a.2) w2 h4 zL hp.1 hp.2;have og:=ok.go a ha ⋯;have hm:∀p,p∈fu k2 cW (gI pl a.1) (gI pl a.2)<->_:=fun p=>jK (p:=p) (other:=gI pl a.2) w2 h4 hp.1 hp.2;generalize fu k2 cW (gI pl a.1) (gI pl a.2)=ps at e og hm;have Mm:(0:Int)<(ps.length:Int):=by
  have:=List.length_pos_iff.mpr og;omega
 have dr:=nS (c:=c) (k:=(i:Int)) Mm;have d0:=nQ (c:=c) (k:=(i:Int)) Mm;have NC:=nR (c:=c) (k:=(i:Int)) Mm;generalize qj c (i:Int) (ps.length:Int)=j at dr d0 NC;have hj:j.toNat<ps.length:=by omega
 have g:=LK (ps:=ps) d0 (aq hj);have T1:=(hm _).mp (bY hj);refine⟨ps[j.toNat],some (.list (ps.map cj),false),T1.1,T1.2,?_⟩;have hz:(ws.map cj).length<sizeLine:=wZ (by rw[ai];omega);have t1:(gc 11 (cH 11 (cF dF (b6 (cg 3) (b6 (d2 cP (cc 4) (cx (d2 cP (cc 10) (cx (dC (.int 0)))))) (b6 (d2 cP (cc 4) (cx (d2 cP (cc 10) (cx (dC (.int 1)))))) cv)))))) [some (.list (ns.map .int),false),some (.int (first:Int),false),some (cp k ar,false),some (cp k2 cW,false),some (.list (pl.map .int),true),s5,s6,s7,some (.list (ws.map cj),true),some (.int (i:Int),false),some (cD a,false),s11] =
   some (.next [some (.list (ns.map .int),false),some (.int (first:Int),false),some (cp k ar,false),some (cp k2 cW,false),some (.list (pl.map .int),true),s5,s6,s7,some (.list (ws.map cj),true),some (.int (i:Int),false),some (cD a,false),some (.list (ps.map cj),false)]):=by
  simp only[gc,cH,cF,b6,cv,cg,d2,cc,cx,dC,aH,aI,ae,au,mW,n8,i1,i2,e,bV,share]
 have u3:(cF cL (b6 (cg 0) (b6 (d2 eQ (cc 1) (cx (dC (.int 1)))) cv))) [some (.list (ns.map .int),false),some (.int (first:Int),false),some (cp k ar,false),some (cp k2 cW,false),some (.list (pl.map .int),true),s5,s6,s7,some (.list (ws.map cj),true),some (.int (i:Int),false),some (cD a,false),some (.list (ps.map cj),false)]=some (.int c,false):=by
  have u1:(d2 eQ (cc 1) (cx (dC (.int 1)))) [some (.list (ns.map .int),false),some (.int (first:Int),false),some (cp k ar,false),some (cp k2 cW,false),some (.list (pl.map .int),true),s5,s6,s7,some (.list (ws.map cj),true),some (.int (i:Int),false),some (cD a,false),some (.list (ps.map cj),false)]=some (.int ((first:Int)+1),false):=by
   simp only[d2,cc,cx,dC,aH,aI,ae,au,eQ]
  simp only[cF,b6,u1,cg,aH,aI,ae,cv,hc]
 have u8:(b6 (cF cL (b6 (cg 0) (b6 (d2 eQ (cc 1) (cx (dC (.int 1)))) cv))) (b6 (cg 9) (b6 (d1 gn (cc 11)) cv))) [some (.list (ns.map .int),false),some (.int (first:Int),false),some (cp k ar,false),some (cp k2 cW,false),some (.list (pl.map .int),true),s5,s6,s7,some (.list (ws.map cj),true),some (.int (i:Int),false),some (cD a,false),some (.list (ps.map cj),false)]=some [.int c,.int (i:Int),.int (ps.length:Int)]:=by
  have u2:(d1 gn (cc 11)) [some (.list (ns.map .int),false),some (.int (first:Int),false),some (cp k ar,false),some (cp k2 cW,false),some (.list (pl.map .int),true),s5,s6,s7,some (.list (ws.map cj),true),some (.int (i:Int),false),some (cD a,false),some (.list (ps.map cj),false)]=some (.int (ps.length:Int),false):=by
   simp only[d1,cc,aH,aI,ae,au,gn,ai]
  have u9:(b6 (cg 9) (b6 (d1 gn (cc 11)) cv)) [some (.list (ns.map .int),false),some (.int (first:Int),false),some (cp k ar,false),some (cp k2 cW,false),some (.list (pl.map .int),true),s5,s6,s7,some (.list (ws.map cj),true),some (.int (i:Int),false),some (cD a,false),some (.list (ps.map cj),false)]=some [.int (i:Int),.int (ps.length:Int)]:=by
   rw[b6,b6,u2];simp only[cg,aH,aI,ae,cv]
  rw[b6,u3,ae,u9,ae]
 have t2:(d2 cP (cc 11) (cx (cF cX (b6 (cF cL (b6 (cg 0) (b6 (d2 eQ (cc 1) (cx (dC (.int 1)))) cv))) (b6 (cg 9) (b6 (d1 gn (cc 11)) cv)))))) [some (.list (ns.map .int),false),some (.int (first:Int),false),some (cp k ar,false),some (cp k2 cW,false),some (.list (pl.map .int),true),s5,s6,s7,some (.list (ws.map cj),true),some (.int (i:Int),false),some (cD a,false),some (.list (ps.map cj),false)]=some (cj ps[j.toNat],false):=by
  have u5:(cc 11) [some (.list (ns.map .int),false),some (.int (first:Int),false),some (cp k ar,false),some (cp k2 cW,false),some (.list (pl.map .int),true),s5,s6,s7,some (.list (ws.map cj),true),some (.int (i:Int),false),some (cD a,false),some (.list (ps.map cj),false)]=some (.list (ps.map cj)):=by
   simp only[cc,aH,aI]
  rw[d2,u5,ae,cx,cF,u8,ae,dr,au,ae,g]
 rw[j6,cJ t1,gv,t2,ae,lN];simp only[aH,aI,if_pos hz,au,bV,aU,aC,bD]
theorem yC {ns:List Int}{first:Nat}{k k2 c:Int}{cW ar:Ar}{pl:List Int}{s5 s6 s7:Option Vl}(w:Wf k ar)(Nn:(pl.length:Int)=k)(w2:Wf k2 cW)(h4:k2<=4)(zL:cW.length<=5)(hc:cL [.list (ns.map .int),.int ((first:Int)+1)]=some (.int c,false))(ok:Ac k2 cW ar pl)(KY:ar.length<=5):∀(r:Ar) (s:Nat) (ws:List (List Nat)) (x y z:Option Vl),ar.drop s=r->ws.length=s->(∀(i:Nat) (a:Int×Int) (p:List Nat),ar[i]?=some a->ws[i]?=some p->eK cW (gI pl a.1) p/\du cW (gI pl a.1) p=gI pl a.2)->∃(NQ:List (List Nat)) (x' y' z':Option Vl),NQ.length=s+r.length/\(∀(i:Nat) (a:Int×Int) (p:List Nat),ar[i]?=some a->NQ[i]?=some p->eK cW (gI pl a.1) p/\du cW (gI pl a.1) p=gI pl a.2) ∧
  fo (gT [gN 9,gN 10]) j6 (fG s (r.map cD)) [some (.list (ns.map .int),false),some (.int (first:Int),false),some (cp k ar,false),some (cp k2 cW,false),some (.list (pl.map .int),true),s5,s6,s7,some (.list (ws.map cj),true),x,y,z] =
   some (.next [some (.list (ns.map .int),false),some (.int (first:Int),false),some (cp k ar,false),some (cp k2 cW,false),some (.list (pl.map .int),true),s5,s6,s7,some (.list (NQ.map cj),true),x',y',z'])
 |[],s,ws,x,y,z,_,hw,h=>⟨ws,x,y,z,by simpa using hw,h,rfl⟩
 | a::r,s,ws,x,y,z,hd,hw,h=>by
  have Pq:ar[s]?=some a:=by
   have:=congrArg (fun l=>l[0]?) hd;simpa using this
  have hd2:ar.drop (s+1)=r:=by
   rw[<-List.drop_drop,hd];rfl
  have hs:s<ar.length:=(List.getElem?_eq_some_iff.mp Pq).1;obtain⟨p,t,c1,c2,e⟩:=Fw (s5:=s5) (s6:=s6) (s7:=s7) (s11:=z) (ws:=ws) (i:=s) w Nn w2 h4 zL hc ok (aF Pq) ⋯;obtain⟨NQ,x',y',z',l1,l2,l3⟩:=yC (s5:=s5) (s6:=s6) (s7:=s7) w Nn w2 h4 zL hc ok KY r (s+1) (ws++[p]) (some (.int (s:Int),false)) (some (cD a,false)) t hd2 (by simp[hw]) (fun i b q hi hq=>by
   by_cases kX:i<ws.length
   ·rw[aZ kX] at hq;exact h i b q hi hq
   ·have Sh:i<(ws++[p]).length:=(List.getElem?_eq_some_iff.mp hq).1;rw[aw,aY] at Sh;have:i=s:=by omega
    subst this;rw[Pq] at hi;cases hi;rw[<-hw,List.getElem?_concat_length] at hq;cases hq;exact⟨c1,c2⟩)
  refine⟨NQ,x',y',z',by rw[l1,aJ];omega,l2,?_⟩;rw[aC,fG,fo];simp only[gT,pX,gN,bV,ae];rw[e,ae];exact l3
theorem xh {k k2 dg:Int}{ar cW:Ar}(w:Wf k ar)(h0:0<=dg)(h1:dg<k2):yk k ar k2 cW (aK k.toNat dg) (aK ar.length []):=by
 have k0:=w.lo;have g:∀i:Int,0<=i->i<k->gI (aK k.toNat dg) i=dg:=fun i i0 i1=>by
  unfold gI;rw[av,bT,if_pos ⋯];rfl
 refine⟨by rw[bu];omega,fun x hx=>by cases (List.mem_replicate.mp hx).2;exact⟨h0,h1⟩,by rw[bu],fun i a p hi hp=>?_⟩;have wa:=w.ok a (aF hi);have:p=[]:=(List.mem_replicate.mp (aF hp)).2;subst this;rw[g a.1 wa.1 ⋯,g a.2 ⋯ wa.2.2];exact⟨trivial,rfl⟩
theorem xE (ns:List Int)(first:Nat){k k2:Int}{cW ar:Ar}(w:Wf k ar)(Pd:k<=4)(KY:ar.length<=5)(w2:Wf k2 cW)(h4:k2<=4)(zL:cW.length<=5):∃pl ws,iJ [.list (ns.map .int),.int (first:Int),cp k ar,cp k2 cW]=some (gF pl ws,false)/\yk k ar k2 cW pl ws:=by
 have c1:=k7 ns first
 have c2:=k7 ns (first+1);rw[show (((first+1:Nat)):Int)=(first:Int)+1 by omega] at c2;have run:iJ [.list (ns.map .int),.int (first:Int),cp k ar,cp k2 cW]=(ny [some (.list (ns.map .int),false),some (.int (first:Int),false),some (cp k ar,false),some (cp k2 cW,false),none,none,none,none,none,none,none,none]).bind fQ:=rfl;have k0:=w.lo;have e1:(cH 4 (cZ cv)) [some (.list (ns.map .int),false),some (.int (first:Int),false),some (cp k ar,false),some (cp k2 cW,false),none,none,none,none,none,none,none,none] =
   some (.next [some (.list (ns.map .int),false),some (.int (first:Int),false),some (cp k ar,false),some (cp k2 cW,false),some (.list (([]:List Int).map .int),true),none,none,none,none,none,none,none]):=by simp[cH,cZ,cv]
 have e2:(cR (d2 cP (cc 2) (cx (dC (.int 0))))) [some (.list (ns.map .int),false),some (.int (first:Int),false),some (cp k ar,false),some (cp k2 cW,false),some (.list (([]:List Int).map .int),true),none,none,none,none,none,none,none]=some (fK 0 k.toNat) :=
  dZ (o:=false) (by simp[d2,cc,cx,dC,pY]) ⋯ ⋯
 have l:=tF (s8:=none) (s9:=none) (s10:=none) (s11:=none) w Pd KY w2 h4 zL c1 k.toNat [] none none none ⟨fun x hx=>(by cases hx),fun a ha hl=>by have:=w.ok a ha;simp at hl;omega⟩ (by simp;omega);rw[show ([]:List Int).length=0 from rfl,<-WR,<-dE] at l;rw[run,ny,cJ e1,cI,eI,e2,ae];rcases l with ⟨pl,t5,t6,t7,ok,hl,l⟩|⟨dg,q0,q1,l⟩
 ·rw[l,ae];dsimp only;have Nn:(pl.length:Int)=k:=by rw[hl];omega
  obtain⟨ws,x,y,z,m1,m2,m3⟩:=yC (s5:=t5) (s6:=t6) (s7:=t7) w Nn w2 h4 zL c2 ok KY ar 0 [] none none none rfl rfl (fun i a p _ h=>by simp at h);rw[bJ] at m1;have e3:(cH 8 (cZ cv)) [some (.list (ns.map .int),false),some (.int (first:Int),false),some (cp k ar,false),some (cp k2 cW,false),some (.list (pl.map .int),true),t5,t6,t7,none,none,none,none] =
    some (.next [some (.list (ns.map .int),false),some (.int (first:Int),false),some (cp k ar,false),some (cp k2 cW,false),some (.list (pl.map .int),true),t5,t6,t7,some (.list (([]:List (List Nat)).map cj),true),none,none,none]):=by simp[cH,cZ,cv]
  have e4:(eO (gS (d2 cP (cc 2) (cx (dC (.int 1)))))) [some (.list (ns.map .int),false),some (.int (first:Int),false),some (cp k ar,false),some (cp k2 cW,false),some (.list (pl.map .int),true),t5,t6,t7,some (.list (([]:List (List Nat)).map cj),true),none,none,none]=some (fG 0 (ar.map cD)):=by
   simp[eO,gS,d2,cc,cx,dC,kZ,dM]
  refine⟨pl,ws,?_,Nn,ok.nn,m1,m2⟩;rw[cJ e3,cI,eI,e4,ae,m3,ae];simp[fi,dj,b6,cv,d1,cc,dh,IK,fQ,gF,vH,dI]
 ·refine⟨_,_,?_,xh w q0 q1⟩;rw[l];rfl
theorem me {α β:Type}{f:α->List β}(g:β->α):∀{l:List α},l.Nodup->(∀a∈l,(f a).Nodup)->(∀a∈l,∀b∈f a,g b=a)->(l.flatMap f).Nodup
 |[],_,_,_=>by simp
 | a::l,nd,h1,h2=>by
  rw[bP,List.nodup_append];rw[List.nodup_cons] at nd;refine⟨h1 a (by simp),me g nd.2 (fun b hb=>h1 b (by simp[hb])) (fun b hb=>h2 b (by simp[hb])),fun x hx y hy z=>?_⟩;subst z;obtain⟨b,hb,Vh⟩:=List.mem_flatMap.mp hy;have e1:=h2 a (by simp) x hx;have e2:=h2 b (by simp[hb]) x Vh;exact nd.1 (by rw[<-e1,e2];exact hb)
theorem oX {e:Int}{p:List Nat}:∀{r:Ar}{s:Nat},(i8 e p s r).Nodup
 |[],s=>WZ
 | a::r,s=>by
  unfold i8;split
  ·refine List.nodup_cons.mpr ⟨fun h=>?_,oX⟩;obtain⟨i,_,e1,_⟩:=ng h;have:=List.append_cancel_left e1;simp at this;omega
  ·exact oX
theorem AA {ar:Ar}{kind:Int}{r:List (List Nat)}(h:r.Nodup):(step ar kind r).Nodup:=by
 unfold step;refine me List.dropLast h (fun _ _=>oX) fun p _ q hq=>?_;obtain⟨i,_,rfl,_⟩:=ng hq;rw[List.dropLast_concat]
theorem vV {ar:Ar}{kind other:Int}:∀(m n:Nat) (r f:List (List Nat)),r.Nodup->f.Nodup->(∀p∈r,p.length=n)->(∀p∈f,p.length<n)->(run ar kind other m r f).Nodup
 |0,_,_,_,_,hf,_,_=>hf
 | m+1,n,r,f,hr,hf,lr,lf=>by
  refine vV m (n+1) _ _ (AA hr) (List.nodup_append.mpr ⟨hf,hr.sublist List.filter_sublist,fun x hx y hy z=>?_⟩) (fun q hq=>?_) fun q hq=>?_
  ·have a:=lf x hx;have b:=lr y (List.mem_filter.mp hy).1;rw[z] at a;omega
  ·obtain⟨p,i,_,hp,e,_⟩:=lL hq;rw[e,aw,aY,lr p hp]
  ·rcases List.mem_append.mp hq with z|z
   ·have:=lf q z;omega
   ·have:=lr q (List.mem_filter.mp z).1;omega
theorem pA {k:Int}{ar:Ar}{kind other:Int}:(fu k ar kind other).Nodup:=vV _ 0 _ _ (by simp) WZ (fun p hp=>by cases List.mem_singleton.mp hp;rfl) fun p hp=>nomatch hp
end Lw
namespace Td
inductive Cn {α:Type}(r:α->α->Prop):α->α->Prop where
 |refl (i:α):Cn r i i
 |tie {i j k:α}:r i j->Cn r j k->Cn r i k
 |eit {i j k:α}:r j i->Cn r j k->Cn r i k
section
variable {α β:Type}{r:α->α->Prop}
theorem Cn.trans {i j k:α}(h:Cn r i j)(g:Cn r j k):Cn r i k:=by
 induction h with
 |refl=>exact g
 |tie t _ ih=>exact .tie t (ih g)
 |eit t _ ih=>exact .eit t (ih g)
theorem Cn.one {i j:α}(h:r i j):Cn r i j:=.tie h (.refl _)
theorem Cn.symm {i j:α}(h:Cn r i j):Cn r j i:=by
 induction h with
 |refl=>exact .refl _
 |tie t _ ih=>exact ih.trans (.eit t (.refl _))
 |eit t _ ih=>exact ih.trans (.tie t (.refl _))
theorem Cn.map {s:β->β->Prop}(f:α->β)(h:∀i j,r i j->Cn s (f i) (f j)){i j:α}(c:Cn r i j):Cn s (f i) (f j):=by
 induction c with
 |refl=>exact .refl _
 |tie t _ ih=>exact (h _ _ t).trans ih
 |eit t _ ih=>exact (h _ _ t).symm.trans ih
theorem Cn.eq (f:α->β)(h:∀i j,r i j->f i=f j){i j:α}(c:Cn r i j):f i=f j:=by
 induction c with
 |refl=>rfl
 |tie t _ ih=>exact (h _ _ t).trans ih
 |eit t _ ih=>exact (h _ _ t).symm.trans ih
end
section
variable {α:Type}[DecidableEq α]
open Classical in
noncomputable def dB (ts:List α)(r:α->α->Prop)(t:α):Bool:=decide (∀u∈ts,Cn r u t->ts.idxOf t<=ts.idxOf u)
noncomputable def fD (ts:List α)(r:α->α->Prop):List α:=ts.filter (dB ts r)
open Classical in
noncomputable def xv (ts:List α)(r:α->α->Prop)(t:α):Nat:=(fD ts r).findIdx fun u=>decide (Cn r u t)
variable {ts:List α}{r:α->α->Prop}
open Classical in
theorem oU {t:α}:dB ts r t=true<->∀u∈ts,Cn r u t->ts.idxOf t<=ts.idxOf u:=by
 unfold dB;exact decide_eq_true_iff (p:=∀u∈ts,Cn r u t->ts.idxOf t<=ts.idxOf u)
theorem mem_firsts {t:α}:t∈fD ts r<->t∈ts/\∀u∈ts,Cn r u t->ts.idxOf t<=ts.idxOf u:=by
 unfold fD;rw[List.mem_filter,oU]
theorem EE:∀(n:Nat) (t:α),t∈ts->ts.idxOf t<=n->∃u∈fD ts r,Cn r u t:=by
 intro n;induction n with
 |zero =>
  intro t ht hn;exact⟨t,mem_firsts.mpr ⟨ht,fun u _ _=>by omega⟩,.refl t⟩
 |succ n ih =>
  intro t ht hn;by_cases h:∀u∈ts,Cn r u t->ts.idxOf t<=ts.idxOf u
  ·exact⟨t,mem_firsts.mpr ⟨ht,h⟩,.refl t⟩
  ·simp only[Classical.not_forall] at h;obtain⟨u,hu,c,l⟩:=h;obtain⟨v,hv,d⟩:=ih u hu ⋯;exact⟨v,hv,d.trans c⟩
theorem CJ {t:α}(ht:t∈ts):xv ts r t<(fD ts r).length:=by
 obtain⟨u,hu,c⟩:=EE (r:=r) _ t ht (aE _);exact List.findIdx_lt_length_of_exists ⟨u,hu,@decide_eq_true _ (Classical.propDecidable _) c⟩
theorem sC {t:α}(ht:t∈ts):∃u,(fD ts r)[xv ts r t]?=some u/\u∈ts/\Cn r u t:=by
 have h:=CJ (r:=r) ht;refine⟨_,aq h,(mem_firsts.mp (bY h)).1,?_⟩;have:=List.findIdx_getElem (w:=h);exact @of_decide_eq_true _ (Classical.propDecidable _) this
theorem Bq {t u:α}(ht:t∈fD ts r)(hu:u∈fD ts r)(c:Cn r t u):t=u:=by
 obtain⟨h1,h2⟩:=mem_firsts.mp ht;obtain⟨g1,g2⟩:=mem_firsts.mp hu;have a:=h2 u g1 c.symm;have b:=g2 t h1 c;have e:ts.idxOf t=ts.idxOf u:=by omega
 have x1:=bq (List.idxOf_lt_length_iff.mpr h1);have x2:=bq (List.idxOf_lt_length_iff.mpr g1);rw[<-x1,<-x2];simp only[e]
theorem Jo {t u:α}(ht:t∈ts)(hu:u∈ts):xv ts r t=xv ts r u<->Cn r t u:=by
 refine⟨fun e=>?_,fun c=>?_⟩
 ·obtain⟨v,h1,_,h2⟩:=sC (r:=r) ht;obtain⟨w,g1,_,g2⟩:=sC (r:=r) hu;rw[e,g1] at h1;cases h1;exact h2.symm.trans g2
 ·unfold xv;congr 1;funext v;exact (@decide_eq_decide _ _ (Classical.propDecidable _) (Classical.propDecidable _)).mpr ⟨fun d=>d.trans c,fun d=>d.trans c.symm⟩
theorem qU (nd:ts.Nodup){i:Nat}{u:α}(h:(fD ts r)[i]?=some u):u∈ts/\xv ts r u=i:=by
 have hm:=aF h;have ht:=(mem_firsts.mp hm).1;refine⟨ht,?_⟩;obtain⟨v,h1,_,h2⟩:=sC (r:=r) ht;have e:=Bq (aF h1) hm h2;subst e;have nf:(fD ts r).Nodup:=List.Nodup.sublist List.filter_sublist nd;have hi:=(List.getElem?_eq_some_iff.mp h).1;have hj:=(List.getElem?_eq_some_iff.mp h1).1;have e1:=(List.getElem?_eq_some_iff.mp h).2;have e2:=(List.getElem?_eq_some_iff.mp h1).2;exact (Xh nf).mp (e2.trans e1.symm)
end
end Td
namespace Lw
open Td
noncomputable abbrev Tr:=Int×List Nat×Int
structure Sb where
 k1:Int
 qu:Ar
 k2:Int
 cW:Ar
 pl:List Int
 ws:List (List Nat)
 rows:List Int
 steps:List (List Int)
structure eS (e:Sb):Prop where
 w1:Wf e.k1 e.qu
 w2:Wf e.k2 e.cW
 h4:e.k2<=4
 s:yk e.k1 e.qu e.k2 e.cW e.pl e.ws
 b:yp e.k1 e.qu e.rows e.steps
structure B7 (e:Sb)(d:Int)(t:Tr):Prop where
 c0:0<=t.1
 c1:t.1<e.k1
 ch:eK e.cW (gI e.pl t.1) t.2.1
 en:du e.cW (gI e.pl t.1) t.2.1=d
 x0:0<=t.2.2
 x1:t.2.2<gI e.rows t.1
noncomputable def b8 (e:Sb)(d:Int):List Tr:=(ao e.k1.toNat).flatMap fun (c:Nat)=>(fu e.k2 e.cW (gI e.pl (c:Int)) d).flatMap fun p=>(ao (gI e.rows (c:Int)).toNat).map fun (x:Nat)=>((c:Int),p,(x:Int))
structure Tb (e:Sb)(d:Int)(t u:Tr)(i:Nat)(a:Int×Int)(w q:List Nat)(s:List Int)(x:Int):Prop where
 ha:e.qu[i]?=some a
 hw:e.ws[i]?=some w
 hs:e.steps[i]?=some s
 ch:eK e.cW (gI e.pl a.2) q
 en:du e.cW (gI e.pl a.2) q=d
 x0:0<=x
 x1:x<gI e.rows a.1
 et:t=(a.1,w++q,x)
 eu:u=(a.2,q,gI s x)
def ik (e:Sb)(d:Int)(t u:Tr):Prop:=∃i a w q s x,Tb e d t u i a w q s x
noncomputable def fs (e:Sb)(d:Int):List Tr:=fD (b8 e d) (ik e d)
noncomputable def kN (e:Sb)(d:Int)(t:Tr):Int:=(xv (b8 e d) (ik e d) t:Int)
noncomputable def JY (t:Tr)(q:List Nat):Tr:=(t.1,t.2.1++q,t.2.2)
section
variable {e:Sb}{d:Int}{t u:Tr}
theorem fv (ok:eS e){c:Int}(h0:0<=c)(h1:c<e.k1):0<=gI e.pl c/\gI e.pl c<e.k2:=PB ok.s.len (P:=fun x=>0<=x/\x<e.k2) ok.s.nn h0 h1
theorem eM (ok:eS e):t∈b8 e d<->B7 e d t:=by
 obtain⟨c,p,x⟩:=t;unfold b8;simp only[List.mem_flatMap,bz,List.mem_map,Prod.mk.injEq];constructor
 ·rintro⟨c',hc,p',hp,x',hx,rfl,rfl,rfl⟩;have pk:=fv ok (c:=(c':Int)) ⋯ ⋯;have:=(jK ok.w2 ok.h4 pk.1 pk.2).mp hp;exact⟨by show (0:Int)<=c';omega,by show (c':Int)<_;omega,this.1,this.2,by show (0:Int)<=x';omega,by show (x':Int)<gI e.rows (c':Int);omega⟩
 ·rintro⟨c0,c1,ch,en,x0,x1⟩;dsimp only at c0 c1 ch en x0 x1;have pk:=fv ok c0 c1;have ec:((c.toNat:Nat):Int)=c:=by omega
  refine⟨c.toNat,by omega,p,?_,x.toNat,?_,ec,rfl,by omega⟩
  ·rw[ec];exact (jK ok.w2 ok.h4 pk.1 pk.2).mpr ⟨ch,en⟩
  ·rw[ec];omega
theorem gg (e:Sb)(d:Int):(b8 e d).Nodup:=by
 unfold b8;refine me (fun t=>t.1.toNat) List.nodup_range (fun c _=>?_) fun c _ t ht=>?_
 ·refine me (fun t=>t.2.1) pA (fun p _=>?_) fun p _ t ht=>?_
  ·refine List.Pairwise.map _ (fun x y h z=>?_) List.nodup_range;simp only[Prod.mk.injEq,true_and] at z;omega
  ·obtain⟨x,_,rfl⟩:=List.mem_map.mp ht;rfl
 ·obtain⟨p,_,hp⟩:=List.mem_flatMap.mp ht;obtain⟨x,_,rfl⟩:=List.mem_map.mp hp;simp
theorem sS (ok:eS e)(h:ik e d t u):B7 e d t/\B7 e d u:=by
 obtain⟨i,a,w,q,s,x,ha,hw,hs,ch,en,x0,x1,rfl,rfl⟩:=h;have wa:=ok.w1.ok a (aF ha);obtain⟨c1,c2⟩:=ok.s.way i a w ha hw;obtain⟨l,m⟩:=ok.b.st i a s ha hs;have mx:=m _ (xV x0 ⋯);exact⟨⟨wa.1,by show a.1<_;omega,c1.append (by rw[c2];exact ch),by show du _ _ (w++q)=d;rw[nr _ _ _ c1,c2];exact en,x0,x1⟩,⟨by show 0<=a.2;omega,wa.2.2,ch,en,mx.1,mx.2⟩⟩
theorem OF (ok:eS e)(h:B7 e d t):0<=kN e d t/\kN e d t<(fs e d).length:=by
 have:=CJ (r:=ik e d) ((eM ok).mpr h);unfold kN fs;omega
theorem PF (ok:eS e){i:Nat}(h:(fs e d)[i]?=some t):B7 e d t/\kN e d t=i:=by
 obtain⟨h1,h2⟩:=qU (gg e d) h;exact⟨(eM ok).mp h1,by unfold kN;rw[h2]⟩
theorem Bo (ok:eS e)(h:t∈fs e d):B7 e d t:=by
 obtain⟨i,hi⟩:=List.getElem?_of_mem h;exact (PF ok hi).1
theorem Pz (h:B7 e d t){q:List Nat}(c:eK e.cW d q):B7 e (du e.cW d q) (JY t q):=by
 obtain⟨c0,c1,ch,en,x0,x1⟩:=h;refine⟨c0,c1,ch.append (by rw[en];exact c),?_,x0,x1⟩;show du e.cW (gI e.pl t.1) (t.2.1++q)=_;rw[nr _ _ _ ch,en]
end
noncomputable def uF (e:Sb):List Int:=(ao e.k2.toNat).map fun (d:Nat)=>((fs e (d:Int)).length:Int)
noncomputable def rh (e:Sb)(p:(Int×Int)×Nat):List Int:=(fs e p.1.1).map fun t=>kN e p.1.2 (JY t [p.2])
noncomputable def mO (e:Sb):List (List Int):=e.cW.zipIdx.map (rh e)
section
variable {e:Sb}{d:Int}{t u:Tr}
theorem Mw {n:Int}(f:Nat->Int){i:Int}(h0:0<=i)(h1:i<n):gI ((ao n.toNat).map f) i=f i.toNat:=by
 unfold gI;rw[av,ay,ba ⋯];rfl
theorem Dq (h0:0<=d)(h1:d<e.k2):gI (uF e) d=((fs e d).length:Int):=by
 unfold uF;rw[Mw _ h0 h1,show ((d.toNat:Nat):Int)=d by omega]
theorem Ka {b:Nat}{a:Int×Int}(h:e.cW[b]?=some a):(mO e)[b]?=some (rh e (a,b)):=by
 unfold mO;rw[ay,bS,h];simp
theorem Ea {ar:Ar}{b:Nat}{a:Int×Int}(h:ar[b]?=some a):eK ar a.1 [b]/\du ar a.1 [b]=a.2:=⟨⟨a,h,rfl,trivial⟩,by rw[gX h,nq]⟩
theorem Bl (h:B7 e d t){b:Nat}{a:Int×Int}(hb:e.cW[b]?=some a)(hd:a.1=d):B7 e a.2 (JY t [b]):=by
 obtain⟨c,en⟩:=Ea hb;subst hd;have:=Pz h c;rwa[en] at this
theorem MI (ok:eS e):yp e.k2 e.cW (uF e) (mO e):=by
 have w:=ok.w2;refine⟨?_,fun r hr=>?_,?_,fun b a s ha hs=>?_⟩
 ·unfold uF;rw[ai,aB];have:=w.lo;omega
 ·obtain⟨n,_,rfl⟩:=List.mem_map.mp hr;omega
 ·unfold mO;rw[ai,bM]
 ·rw[Ka ha] at hs;cases hs;have wa:=w.ok a (aF ha);rw[Dq wa.1 ⋯,Dq ⋯ wa.2.2];unfold rh;refine⟨by rw[ai],fun x hx=>?_⟩;obtain⟨t,ht,rfl⟩:=List.mem_map.mp hx;exact OF ok (Bl (Bo ok ht) ha rfl)
end
noncomputable def pH (e:Sb):List (List Int):=(ao e.k1.toNat).map fun (c:Nat)=>(ao (gI e.rows (c:Int)).toNat).map fun (x:Nat)=>kN e (gI e.pl (c:Int)) ((c:Int),[],(x:Int))
section
variable {e:Sb}{d:Int}{t u:Tr}
theorem Ck {c x:Int}(h0:0<=c)(h1:c<e.k1)(x0:0<=x)(x1:x<gI e.rows c):B7 e (gI e.pl c) (c,[],x):=⟨h0,h1,trivial,nq _ _,x0,x1⟩
end
end Lw
namespace Td
noncomputable abbrev iY:=List (Nat×Nat)
inductive i9 (ts:iY):Nat->Nat->Prop where
 |refl (i:Nat):i9 ts i i
 |tie {i j k:Nat}:(i,j)∈ts->i9 ts j k->i9 ts i k
 |eit {i j k:Nat}:(j,i)∈ts->i9 ts j k->i9 ts i k
theorem i9.trans {ts:iY}{i j k:Nat}(h:i9 ts i j)(g:i9 ts j k):i9 ts i k:=by
 induction h with
 |refl=>exact g
 |tie t _ ih=>exact .tie t (ih g)
 |eit t _ ih=>exact .eit t (ih g)
theorem i9.symm {ts:iY}{i j:Nat}(h:i9 ts i j):i9 ts j i:=by
 induction h with
 |refl=>exact .refl _
 |tie t _ ih=>exact ih.trans (.eit t (.refl _))
 |eit t _ ih=>exact ih.trans (.tie t (.refl _))
theorem i9.one {ts:iY}{i j:Nat}(h:(i,j)∈ts):i9 ts i j:=.tie h (.refl _)
noncomputable def mark (m:List Nat)(i:Nat):Nat:=m.getD i 0
theorem eV {m:List Nat}{i j v:Nat}(hi:i<m.length):mark (m.set i v) j=if j=i then v else mark m j:=by
 unfold mark;rw[av,av];by_cases h:j=i
 ·subst h;rw[aA hi,if_pos rfl];rfl
 ·rw[aj (Ne.symm h),if_neg h]
noncomputable def tie1 (m:List Nat)(p:Nat×Nat):List Nat:=if mark m p.1=mark m p.2 then m else (m.set p.1 (min (mark m p.1) (mark m p.2))).set p.2 (min (mark m p.1) (mark m p.2))
theorem yF (m:List Nat)(p:Nat×Nat):(tie1 m p).length=m.length:=by
 unfold tie1;split
 ·rfl
 ·rw[aX,aX]
structure qv (ts:iY)(n:Nat)(m:List Nat):Prop where
 len:m.length=n
 Nk:∀i<n,i9 ts i (mark m i)
 le:∀i<n,mark m i<=i
theorem QN (ts:iY)(n:Nat):qv ts n (ao n):=by
 have e:∀i<n,mark (ao n) i=i:=fun i hi=>by
  unfold mark;rw[av,ba hi];rfl
 exact⟨aB,fun i hi=>by rw[e i hi];exact .refl i,fun i hi=>by rw[e i hi];exact aE i⟩
theorem qv.tie1 {ts:iY}{n:Nat}{m:List Nat}(h:qv ts n m){p:Nat×Nat}(hp:p∈ts)(h1:p.1<n)(h2:p.2<n):qv ts n (tie1 m p)/\(∀i<n,mark (Td.tie1 m p) i<=mark m i)/\(Td.tie1 m p≠m->∃i<n,mark (Td.tie1 m p) i<mark m i):=by
 obtain⟨a,b⟩:=p;unfold Td.tie1;dsimp only at h1 h2 ⊢;by_cases e:mark m a=mark m b
 ·rw[if_pos e];exact⟨h,fun i _=>aE _,fun z=>absurd rfl z⟩
 ·rw[if_neg e];have la:a<m.length:=by rw[h.len];exact h1
  have lb:b<(m.set a (min (mark m a) (mark m b))).length:=by rw[aX,h.len];exact h2
  have at_:∀i,mark ((m.set a (min (mark m a) (mark m b))).set b (min (mark m a) (mark m b))) i=if i=b then min (mark m a) (mark m b) else if i=a then min (mark m a) (mark m b) else mark m i:=fun i=>by rw[eV lb,eV la]
  have ia:=h.Nk a h1;have ib:=h.Nk b h2;have ab:i9 ts a b:=.one hp;have low:∀i,i=a\/i=b->i9 ts i (min (mark m a) (mark m b)):=fun i hi=>by
   have c:i9 ts a (min (mark m a) (mark m b)):=by
    rcases Xs (mark m a) (mark m b) with z|z
    ·rw[W7 z];exact ia
    ·rw[Nat.min_eq_right z];exact ab.trans ib
   rcases hi with rfl|rfl
   ·exact c
   ·exact ab.symm.trans c
  have lea:=h.le a h1;have leb:=h.le b h2;refine⟨⟨by rw[aX,aX];exact h.len,fun i hi=>?_,fun i hi=>?_⟩,fun i hi=>?_,fun _=>?_⟩
  ·rw[at_];split
   ·exact low i (.inr (by assumption))
   ·split
    ·exact low i (.inl (by assumption))
    ·exact h.Nk i hi
  ·rw[at_];split
   ·omega
   ·split
    ·omega
    ·exact h.le i hi
  ·rw[at_];split
   ·subst i;omega
   ·split
    ·subst i;omega
    ·exact aE _
  ·rcases bW (mark m a) (mark m b) with z|z
   ·exact⟨b,h2,by rw[at_,if_pos rfl];omega⟩
   ·refine⟨a,h1,?_⟩;rw[at_];by_cases q:a=b
    ·subst q;exact absurd rfl e
    ·rw[if_neg q,if_pos rfl];omega
def fX (ts:iY)(m:List Nat):Prop:=∀p∈ts,mark m p.1=mark m p.2
theorem qv.least {ts:iY}{n:Nat}{m:List Nat}(h:qv ts n m)(s:fX ts m){i:Nat}(hi:i<n):i9 ts i (mark m i)/\∀j<n,i9 ts i j->mark m i<=j:=by
 have same:∀{i j:Nat},i9 ts i j->mark m i=mark m j:=fun {i j} c=>by
  induction c with
  |refl=>rfl
  |tie t _ ih=>exact (s _ t).trans ih
  |eit t _ ih=>exact (s _ t).symm.trans ih
 exact⟨h.Nk i hi,fun j hj c=>by rw[same c];exact h.le j hj⟩
noncomputable def fY (m:List Nat):Nat:=m.sum
theorem qB:∀{m m':List Nat},m.length=m'.length->(∀i<m.length,mark m i<=mark m' i)->fY m<=fY m'
 |[],[],_,_=>aE _
 |[],_::_,h,_=>by simp at h
 |_::_,[],h,_=>by simp at h
 | a::m,b::m',h,g=>by
  have g0:a<=b:=g 0 (by simp);have ih:fY m<=fY m':=qB (by simpa using h) fun i hi=>g (i+1) (by simpa using hi);unfold fY at ih ⊢;rw[List.sum_cons,List.sum_cons];omega
theorem vG:∀{m m':List Nat},m.length=m'.length->(∀i<m.length,mark m i<=mark m' i)->(∃i<m.length,mark m i<mark m' i)->fY m<fY m'
 |[],_,_,_,⟨i,hi,_⟩=>by simp at hi
 |_::_,[],h,_,_=>by simp at h
 | a::m,b::m',h,g,⟨i,hi,l⟩=>by
  have g0:a<=b:=g 0 (by simp);have h':m.length=m'.length:=by simpa using h
  have g':∀i<m.length,mark m i<=mark m' i:=fun i hi=>g (i+1) (by simpa using hi);unfold fY;rw[List.sum_cons,List.sum_cons];cases i with
  |zero =>
   have l':a<b:=l;have:=qB h' g';unfold fY at this;omega
  |succ i =>
   have:=vG h' g' ⟨i,by simpa using hi,l⟩;unfold fY at this;omega
noncomputable def ic (st:List Nat×Bool)(p:Nat×Nat):List Nat×Bool:=(tie1 st.1 p,if mark st.1 p.1=mark st.1 p.2 then st.2 else true)
theorem Ge {ts:iY}{n:Nat}(pD:∀p∈ts,p.1<n/\p.2<n):∀(l:iY),(∀p∈l,p∈ts)->∀(m:List Nat) (a:Bool),qv ts n m →
  qv ts n (l.foldl ic (m,a)).1/\fY (l.foldl ic (m,a)).1<=fY m/\((l.foldl ic (m,a)).2=a/\(l.foldl ic (m,a)).1=m/\fX l m\/(l.foldl ic (m,a)).2=true/\fY (l.foldl ic (m,a)).1<fY m)
 |[],_,m,a,h=>⟨h,aE _,.inl ⟨rfl,rfl,fun p hp=>nomatch hp⟩⟩
 | p::l,hl,m,a,h=>by
  have hp:=hl p (by simp);obtain⟨w1,Fe,ch⟩:=h.tie1 hp (pD p hp).1 (pD p hp).2;have len1:=yF m p;have wl:fY (tie1 m p)<=fY m:=qB len1 fun i hi=>Fe i (by rw[w1.len] at hi;exact hi);rw[List.foldl_cons];by_cases e:mark m p.1=mark m p.2
  ·have e1:ic (m,a) p=(m,a):=by
    unfold ic tie1;simp[e]
   rw[e1];obtain⟨q1,q2,q3⟩:=Ge pD l (fun q hq=>hl q (by simp[hq])) m a h;refine⟨q1,q2,q3.imp (fun⟨x,y,z⟩=>⟨x,y,fun q hq=>?_⟩) id⟩;rcases List.mem_cons.mp hq with rfl|hq
   ·exact e
   ·exact z q hq
  ·have e1:ic (m,a) p=(tie1 m p,true):=by
    unfold ic;simp[e]
   have ne:tie1 m p≠m:=fun z=>by
    have la:p.1<m.length:=by rw[h.len];exact (pD p hp).1
    have lb:p.2<(m.set p.1 (min (mark m p.1) (mark m p.2))).length:=by rw[aX,h.len];exact (pD p hp).2
    have z1:=congrArg (fun m=>mark m p.1) z;have z2:=congrArg (fun m=>mark m p.2) z;unfold tie1 at z1 z2;simp only[if_neg e,eV lb,eV la] at z1 z2;rw[if_pos trivial] at z2;split at z1
    ·rename_i q;rw[q] at e;exact e rfl
    ·rw[if_pos trivial] at z1;omega
   obtain⟨i,hi,lt⟩:=ch ne;have wlt:fY (tie1 m p)<fY m:=vG len1 (fun i hi=>Fe i (by rw[w1.len] at hi;exact hi)) ⟨i,by rw[w1.len];exact hi,lt⟩;rw[e1];obtain⟨q1,q2,q3⟩:=Ge pD l (fun q hq=>hl q (by simp[hq])) (tie1 m p) true w1;refine⟨q1,by omega,.inr ⟨?_,by omega⟩⟩;rcases q3 with ⟨x,_,_⟩|⟨x,_⟩ <;> exact x
noncomputable def ml (m:List Nat)(i:Nat):Bool:=mark m i==i
noncomputable def dU (m:List Nat):List Nat:=(ao m.length).filter (ml m)
noncomputable def mN (m:List Nat)(i:Nat):Nat:=(dU m).idxOf (mark m i)
theorem xX (m:List Nat){i:Nat}(h:i<=m.length):dU m=(ao i).filter (ml m)++(WT i (m.length-i)).filter (ml m):=by
 unfold dU;have a:=List.range'_append_1 (s:=0) (m:=i) (n:=m.length-i);rw[bJ,show i+(m.length-i)=m.length by omega] at a;rw[<-bZ,WR,WR,a]
theorem qv.qR {ts:iY}{n:Nat}{m:List Nat}(h:qv ts n m)(s:fX ts m){i:Nat}(hi:i<n):mark m (mark m i)=mark m i:=by
 have l:=h.le i hi;have a:=h.least s hi;have b:=h.least s (i:=mark m i) ⋯;have l2:=h.le (mark m i) ⋯;exact Nat.le_antisymm l2 (a.2 _ ⋯ (a.1.trans b.1))
theorem qv.mem_firsts {ts:iY}{n:Nat}{m:List Nat}(h:qv ts n m)(s:fX ts m){i:Nat}(hi:i<n):mark m i∈dU m:=by
 have l:=h.le i hi;refine List.mem_filter.mpr ⟨List.mem_range.mpr (by rw[h.len];omega),?_⟩;unfold ml;rw[beq_iff_eq];exact h.qR s hi
theorem qv.Ed {ts:iY}{n:Nat}{m:List Nat}(h:qv ts n m)(s:fX ts m){i:Nat}(hi:i<n):(mN m i==((ao i).filter (ml m)).length)=ml m i:=by
 have l:=h.le i hi;have hl:i<m.length:=by rw[h.len];exact hi
 unfold mN;rw[xX m (Xd hl)];cases e:ml m i with
 |true =>
  have e':mark m i=i:=by unfold ml at e;exact beq_iff_eq.mp e
  have ni:i∉(ao i).filter (ml m):=fun z=>by
   have:=List.mem_range.mp (List.mem_filter.mp z).1;omega
  have hr:WT i (m.length-i)=i::WT (i+1) (m.length-i-1):=by
   rw[show m.length-i=(m.length-i-1)+1 by omega,Xg];rfl
  rw[e',WY,if_neg ni,hr,bO,if_pos e,Xk];simp
 |false =>
  have ne:mark m i≠i:=fun z=>by unfold ml at e;rw[z] at e;simp at e
  have mem:mark m i∈(ao i).filter (ml m):=by
   refine List.mem_filter.mpr ⟨List.mem_range.mpr ⋯,?_⟩;unfold ml;rw[beq_iff_eq];exact h.qR s hi
  rw[WY,if_pos mem];have:=List.idxOf_lt_length_iff.mpr mem;exact beq_eq_false_iff_ne.mpr ⋯
theorem qv.L0 {ts:iY}{n:Nat}{m:List Nat}(h:qv ts n m)(s:fX ts m){i:Nat}(hi:i<n):mN m i<(dU m).length:=List.idxOf_lt_length_iff.mpr (h.mem_firsts s hi)
theorem qv.A0 {ts:iY}{n:Nat}{m:List Nat}(h:qv ts n m)(s:fX ts m){i j:Nat}(hi:i<n)(hj:j<n):mN m i=mN m j<->i9 ts i j:=by
 have e:mark m i=mark m j<->i9 ts i j:=by
  have same:∀{i j:Nat},i9 ts i j->mark m i=mark m j:=fun {i j} c=>by
   induction c with
   |refl=>rfl
   |tie t _ ih=>exact (s _ t).trans ih
   |eit t _ ih=>exact (s _ t).symm.trans ih
  exact⟨fun e=>(h.Nk i hi).trans (e▸(h.Nk j hj).symm),same⟩
 rw[<-e];refine⟨fun q=>?_,fun q=>by unfold mN;rw[q]⟩;have a:=h.mem_firsts s hi;have b:=h.mem_firsts s hj;have ga:=bq (List.idxOf_lt_length_iff.mpr a);have gb:=bq (List.idxOf_lt_length_iff.mpr b);unfold mN at q;rw[<-ga,<-gb];simp only[q]
structure uY {α:Type}(ts:List α)(r:α->α->Prop)(its:iY):Prop where
 nd:ts.Nodup
 pD:∀p∈its,p.1<ts.length/\p.2<ts.length
 to:∀p∈its,∀t u,ts[p.1]?=some t->ts[p.2]?=some u->r t u
 Uk:∀t u,r t u->∃p∈its,ts[p.1]?=some t/\ts[p.2]?=some u
section
variable {α:Type}{ts:List α}{r:α->α->Prop}{its:iY}
theorem uW (nd:ts.Nodup){i j:Nat}{t:α}(hi:ts[i]?=some t)(hj:ts[j]?=some t):i=j:=by
 obtain⟨a,ea⟩:=List.getElem?_eq_some_iff.mp hi;obtain⟨b,eb⟩:=List.getElem?_eq_some_iff.mp hj;exact (Xh nd).mp (ea.trans eb.symm)
theorem uY.conn (h:uY ts r its){i j:Nat}(c:i9 its i j):∀t u,ts[i]?=some t->ts[j]?=some u->Cn r t u:=by
 induction c with
 |refl i =>
  intro t u ht hu;rw[ht] at hu;cases hu;exact .refl _
 |@tie i j k p _ ih =>
  intro t u ht hu;have e:=aq (h.pD _ p).2;exact .tie (h.to _ p _ _ ht e) (ih _ _ e hu)
 |@eit i j k p _ ih =>
  intro t u ht hu;have e:=aq (h.pD _ p).1;exact .eit (h.to _ p _ _ e ht) (ih _ _ e hu)
theorem uY.cn (h:uY ts r its){t u:α}(c:Cn r t u):∀i j,ts[i]?=some t->ts[j]?=some u->i9 its i j:=by
 induction c with
 |refl t =>
  intro i j hi hj;rw[uW h.nd hi hj];exact .refl _
 |@tie t v u q _ ih =>
  intro i j hi hj;obtain⟨p,hp,h1,h2⟩:=h.Uk _ _ q;rw[uW h.nd hi h1];exact .tie hp (ih _ _ h2 hj)
 |@eit t v u q _ ih =>
  intro i j hi hj;obtain⟨p,hp,h1,h2⟩:=h.Uk _ _ q;rw[uW h.nd hi h2];exact .eit hp (ih _ _ h1 hj)
variable [DecidableEq α]
theorem xJ (nd:ts.Nodup){i:Nat}{t:α}(h:ts[i]?=some t):ts.idxOf t=i:=by
 have hm:=aF h;have hl:=List.idxOf_lt_length_iff.mpr hm;have:=bq hl;exact uW nd (by rw[aq hl,this]) h
theorem uY.first (h:uY ts r its){m:List Nat}(w:qv its ts.length m)(s:fX its m){i:Nat}{t:α}(hi:ts[i]?=some t):dB ts r t=ml m i:=by
 have hl:=(List.getElem?_eq_some_iff.mp hi).1;have le:=w.le i hl;have ls:=w.least s hl;rw[Bool.eq_iff_iff,oU,ml,beq_iff_eq];constructor
 ·intro q;have e:=aq (show mark m i<ts.length by omega);have:=q _ (aF e) (h.conn ls.1.symm _ _ e hi);rw[xJ h.nd hi,xJ h.nd e] at this;omega
 ·intro q u hu c;obtain⟨j,hj⟩:=List.getElem?_of_mem hu;have jl:=(List.getElem?_eq_some_iff.mp hj).1;rw[xJ h.nd hi,xJ h.nd hj];have:=ls.2 j jl (h.cn c.symm _ _ hi hj);omega
theorem wy {f:α->Bool}{g:Nat->Bool}:∀(l:List α) (n:Nat),(∀(i:Nat) (t:α),l[i]?=some t->f t=g (n+i))->(l.filter f).map some=((WT n l.length).filter g).map fun i=>l[i-n]?
 |[],n,_=>rfl
 | a::l,n,h=>by
  have h0:=h 0 a rfl;have ih:=wy (f:=f) (g:=g) l (n+1) fun i t e=>by
   have:=h (i+1) t (by simpa using e);rw[this];congr 1;omega
  have tail:((WT (n+1) l.length).filter g).map (fun i=>l[i-(n+1)]?)=((WT (n+1) l.length).filter g).map fun i=>(a::l)[i-n]?:=by
   refine W5 fun i hi=>?_;have:=(List.mem_range'_1.mp (List.mem_filter.mp hi).1).1;rw[show i-n=(i-(n+1))+1 by omega,aH]
  rw[aJ,Xg,bO,bO,h0,Nat.add_zero];cases g n with
  |true =>
   rw[if_pos rfl,if_pos rfl,aC,aC,ih,tail];simp
  |false =>
   rw[if_neg Bool.false_ne_true,if_neg Bool.false_ne_true,ih,tail]
theorem uY.EJ (h:uY ts r its){m:List Nat}(w:qv its ts.length m)(s:fX its m):(fD ts r).map some=(dU m).map fun i=>ts[i]?:=by
 have:=wy (f:=dB ts r) (g:=ml m) ts 0 fun i t e=>by rw[bJ];exact h.first w s e
 unfold fD dU;rw[this,w.len,WR];rfl
theorem uY.A0 (h:uY ts r its){m:List Nat}(w:qv its ts.length m)(s:fX its m){i:Nat}{t:α}(hi:ts[i]?=some t):xv ts r t=mN m i:=by
 have hl:=(List.getElem?_eq_some_iff.mp hi).1;have le:=w.le i hl;have ls:=w.least s hl;have e:=aq (show mark m i<ts.length by omega);have hf:=h.EJ w s;have nl:=w.L0 s hl;have g:(dU m)[mN m i]?=some (mark m i):=by
  have:=bq nl;exact (aq nl).trans (congrArg some this)
 have g2:(fD ts r)[mN m i]?=some ts[mark m i]:=by
  have x:((fD ts r).map some)[mN m i]?=((dU m).map fun i=>ts[i]?)[mN m i]?:=by rw[hf]
  rw[ay,ay,g,au,e] at x;cases y:(fD ts r)[mN m i]? with
  |none=>rw[y] at x;cases x
  |some z=>rw[y] at x;cases x;rfl
 have f:=qU h.nd g2;rw[<-f.2];exact (Jo (aF hi) f.1).mpr (h.conn ls.1 _ _ hi e)
end
end Td
namespace Lw
open PySem DL Td
open PySem.Spec (same same_self)
noncomputable def cG (t:Tr):D:=.tuple [.int t.1,cj t.2.1,.int t.2.2]
noncomputable def i7 (p:Tr×Tr):D:=.tuple [cG p.1,cG p.2]
theorem GP (p:List Nat)(n:Nat):zC (p.map tU) n=true:=by
 induction p with
 |nil=>rfl
 |cons a p ih=>rw[aC,zC,ih];rfl
theorem kP (t:Tr):ie (cG t)=true:=by
 simp[ie,cG,zC,HZ,cj,GP]
theorem GA (t:Tr):Nb 2 (cG t):=.tuple (.cons (.int 1 _) (.cons (xB t.2.1) (.cons (.int 1 _) .nil)))
theorem ID {t u:Tr}(h:cG t=cG u):t=u:=by
 obtain⟨c,p,x⟩:=t;obtain⟨c',p',x'⟩:=u;unfold cG at h;simp only[PyData.tuple.injEq,List.cons.injEq,PyData.int.injEq,and_true] at h;obtain⟨h1,h2,h3⟩:=h;rw[h1,D8 h2,h3]
theorem yQ (t u:Tr):same (cG t) (cG u)=decide (t=u):=by
 by_cases h:t=u
 ·rw[h,decide_eq_true rfl];exact same_self _
 ·rw[decide_eq_false h];exact Bool.eq_false_iff.mpr fun q=>h (ID ((GA t).eq (GA u) q))
noncomputable def ig (ts:List Tr)(f:Tr->D):List (D×D):=ts.map fun t=>(cG t,f t)
theorem fL (ts:List Tr)(f:Tr->D):dS (ig ts f)=true:=by
 unfold dS ig;rw[List.all_map,WS];exact fun t _=>kP t
theorem m6 {ts:List Tr}{f:Tr->D}{t:Tr}:rQ (ig ts f) (cG t)=if t∈ts then some (f t) else none:=by
 unfold ig rQ;induction ts with
 |nil=>rfl
 |cons u ts ih =>
  rw[aC,WV];dsimp only;rw[yQ];by_cases h:u=t
  ·subst h;simp
  ·rw[decide_eq_false h];dsimp only;rw[ih];have:t∈u::ts<->t∈ts:=by simp[Ne.symm h]
   simp only[this]
theorem sv {ts:List Tr}{f:Tr->D}{t:Tr}{v:D}(h:t∈ts):mB (ig ts f) (cG t) v=ig ts fun u=>if u=t then v else f u:=by
 unfold mB;rw[m6,if_pos h,if_pos (by rfl)];unfold ig;rw[bt];refine W5 fun u _=>?_;simp only[Function.comp,yQ];by_cases e:u=t
 ·simp[e]
 ·simp[e]
theorem xj {ts:List Tr}{f:Tr->D}{t:Tr}{v:D}(h:t∉ts):mB (ig ts f) (cG t) v=ig ts f++[(cG t,v)]:=by
 unfold mB;rw[m6,if_neg h,if_neg (by simp)]
theorem uu {ts:List Tr}{f g:Tr->D}(h:∀t∈ts,f t=g t):ig ts f=ig ts g:=W5 fun t ht=>by rw[h t ht]
noncomputable def eG (e:Sb)(d:Int):List (Tr×Tr):=e.qu.zipIdx.flatMap fun p=>(fu e.k2 e.cW (gI e.pl p.1.2) d).flatMap fun q=>(ao (gI e.rows p.1.1).toNat).map fun (x:Nat)=>((p.1.1,e.ws.getD p.2 []++q,(x:Int)),(p.1.2,q,gI (e.steps.getD p.2 []) (x:Int)))
theorem lQ {e:Sb}{d:Int}(ok:eS e){t u:Tr}:(t,u)∈eG e d<->ik e d t u:=by
 unfold eG;simp only[List.mem_flatMap,List.mem_map,bz,Prod.mk.injEq];constructor
 ·rintro⟨⟨a,i⟩,hp,q,hq,x,hx,e1,e2⟩;have ha:e.qu[i]?=some a:=List.mem_zipIdx_iff_getElem?.mp hp;have wa:=ok.w1.ok a (aF ha);have pk:=fv ok (show 0<=a.2 by omega) wa.2.2;have hl:i<e.ws.length:=by rw[ok.s.wl];exact (List.getElem?_eq_some_iff.mp ha).1
  have hw:=aq hl;obtain⟨s,h1,h2,_,_⟩:=Cu ok.b ha;have:=(jK ok.w2 ok.h4 pk.1 pk.2).mp hq;have n0:=mK ok.b.nn a.1;dsimp only at hx e1 e2;refine⟨i,a,_,q,s,(x:Int),ha,hw,h1,this.1,this.2,by omega,by omega,?_,?_⟩
  ·rw[<-e1,av,hw];rfl
  ·rw[<-e2,h2]
 ·rintro⟨i,a,w,q,s,x,ha,hw,hs,ch,en,x0,x1,rfl,rfl⟩;have wa:=ok.w1.ok a (aF ha);have pk:=fv ok (show 0<=a.2 by omega) wa.2.2;have ex:((x.toNat:Nat):Int)=x:=by omega
  refine⟨(a,i),List.mem_zipIdx_iff_getElem?.mpr ha,q,(jK ok.w2 ok.h4 pk.1 pk.2).mpr ⟨ch,en⟩,x.toNat,by dsimp only;omega,?_,?_⟩
  ·rw[ex,av,hw];rfl
  ·rw[ex,av,hs];rfl
theorem tH {p q:List Nat}(h:p.length+q.length<=1000000):eQ (cj p) (cj q)=some (cj (p++q),false):=by
 have hz:(p.map tU).length+(q.map tU).length<=sizeLine:=Aj (by rw[ai,ai];exact h);unfold cj eQ;dsimp only;rw[if_pos hz,<-aU]
theorem Lm {e:Sb}(ok:eS e){i:Nat}{a:Int×Int}(ha:e.qu[i]?=some a):∃w,e.ws[i]?=some w/\e.ws.getD i []=w/\w.length<=3:=by
 have hl:i<e.ws.length:=by rw[ok.s.wl];exact (List.getElem?_eq_some_iff.mp ha).1
 have hw:=aq hl;have wa:=ok.w1.ok a (aF ha);have pk:=fv ok wa.1 (show a.1<e.k1 by omega);have c:=(ok.s.way i a _ ha hw).1;have h4:=ok.h4;have:=nV ok.w2 pk.1 pk.2 c;exact⟨_,hw,by rw[av,hw];rfl,by omega⟩
structure kO (e:Sb):Prop where
 k1:e.k1<=4
 a1:e.qu.length<=5
 a2:e.cW.length<=5
 rw:∀r∈e.rows,r<=1000
theorem HB {f g:ED}{x y:D}{o o':Bool}{ρ:Sl}(h1:f ρ=some (x,o))(h2:g ρ=some (y,o')):dj (b6 f (b6 g cv)) ρ=some (.tuple [x,y],false):=by
 simp[dj,b6,cv,h1,h2,IK]
theorem oh {f g h:ED}{x y z:D}{o o' o'':Bool}{ρ:Sl}(h1:f ρ=some (x,o))(h2:g ρ=some (y,o'))(h3:h ρ=some (z,o'')):dj (b6 f (b6 g (b6 h cv))) ρ=some (.tuple [x,y,z],false):=by
 simp[dj,b6,cv,h1,h2,h3,UM]
section
variable {e:Sb}{d:Int}
noncomputable abbrev kQ (e:Sb):D:=cp e.k1 e.qu
noncomputable abbrev kL (e:Sb):D:=cp e.k2 e.cW
noncomputable abbrev jX (e:Sb):D:=gF e.pl e.ws
noncomputable abbrev jM (e:Sb):D:=dW e.rows e.steps
noncomputable def fO (e:Sb)(p:(Int×Int)×Nat)(q:List Nat)(x:Nat):Tr×Tr:=((p.1.1,e.ws.getD p.2 []++q,(x:Int)),(p.1.2,q,gI (e.steps.getD p.2 []) (x:Int)))
noncomputable def i6 (e:Sb)(d:Int)(acc:List (Tr×Tr))(s6 s7 s8 s9 s10:Option Vl):Sl:=[some (kQ e,false),some (kL e,false),some (jX e,false),some (jM e,false),some (.int d,false),some (.list (acc.map i7),true),s6,s7,s8,s9,s10]
theorem IG (ok:eS e){a:Int×Int}{i x:Nat}{q:List Nat}{acc:List (Tr×Tr)}{s10:Option Vl}(ha:e.qu[i]?=some a)(hx:(x:Int)<gI e.rows a.1)(hq:q.length<=4)(hn:acc.length<1000000):∃Ai,
  lh (i6 e d acc (some (.int (i:Int),false)) (some (cD a,false)) (some (cj q,false)) (some (.int (x:Int),false)) s10) =
   some (.next (i6 e d (acc++[fO e (a,i) q x]) (some (.int (i:Int),false)) (some (cD a,false)) (some (cj q,false)) (some (.int (x:Int),false)) Ai)):=by
 obtain⟨w,hw,gw,lw⟩:=Lm ok ha;obtain⟨st,hs,gs,ls,ms⟩:=Cu ok.b ha;have pa:=tH (p:=w) (q:=q) ⋯;have ix:=rz (xs:=st) (i:=(x:Int)) ⋯ ⋯;have wx:=NP hw;have sx:=N7 hs;refine⟨some (cG (fO e (a,i) q x).1,false),?_⟩;have e1:cG (fO e (a,i) q x).1=.tuple [.int a.1,cj (w++q),.int (x:Int)]:=by
  unfold fO;dsimp only;rw[gw];rfl
 have e2:cG (fO e (a,i) q x).2=.tuple [.int a.2,cj q,.int (gI st (x:Int))]:=by
  unfold fO;dsimp only;rw[gs];rfl
 have q1:(dj (b6 (d2 cP (cc 7) (cx (dC (.int 0)))) (b6 (d2 eQ (cx (d2 cP (cx (d2 cP (cc 2) (cx (dC (.int 1))))) (cc 6))) (cc 8)) (b6 (cg 9) cv)))) (i6 e d acc (some (.int (i:Int),false)) (some (cD a,false)) (some (cj q,false)) (some (.int (x:Int),false)) s10)=some (cG (fO e (a,i) q x).1,false):=by
  rw[e1];exact oh (o:=false) (o':=false) (o'':=false) (by simp[i6,d2,cc,cx,dC,mW]) (by simp[i6,d2,cc,cx,dC,FT,wx,pa]) (by simp[i6,cg])
 have q2:(dj (b6 (cg 10) (b6 (dj (b6 (d2 cP (cc 7) (cx (dC (.int 1)))) (b6 (cg 8) (b6 (d2 cP (cx (d2 cP (cx (d2 cP (cc 3) (cx (dC (.int 1))))) (cc 6))) (cc 9)) cv)))) cv))) (i6 e d acc (some (.int (i:Int),false)) (some (cD a,false)) (some (cj q,false)) (some (.int (x:Int),false)) (some (cG (fO e (a,i) q x).1,false)))=some (i7 (fO e (a,i) q x),false):=by
  unfold i7;refine HB (o:=false) (o':=false) (by simp[i6,cg]) ?_;rw[e2];exact oh (o:=false) (o':=false) (o'':=false) (by simp[i6,d2,cc,cx,dC,n8]) (by simp[i6,cg]) (by simp[i6,d2,cc,cx,dC,Ds,sx,ix])
 have hz:(acc.map i7).length<sizeLine:=wZ (by rw[ai];exact hn);rw[lh,cJ (de:=i6 e d acc (some (.int (i:Int),false)) (some (cD a,false)) (some (cj q,false)) (some (.int (x:Int),false)) (some (cG (fO e (a,i) q x).1,false))) (by rw[cH,q1];rfl),gv,q2,ae,lN];simp only[i6,aH,aI,hz,if_true,au,bV,aU,aC,bD]
theorem IF (ok:eS e)(sm:kO e){a:Int×Int}{i:Nat}{q:List Nat}{acc:List (Tr×Tr)}{s9 s10:Option Vl}(ha:e.qu[i]?=some a)(hq:q.length<=4)(hn:acc.length+(gI e.rows a.1).toNat<=1000000):∃t9 Ai,
  lg (i6 e d acc (some (.int (i:Int),false)) (some (cD a,false)) (some (cj q,false)) s9 s10) =
   some (.next (i6 e d (acc++(ao (gI e.rows a.1).toNat).map (fO e (a,i) q)) (some (.int (i:Int),false)) (some (cD a,false)) (some (cj q,false)) t9 Ai)):=by
 have wa:=ok.w1.ok a (aF ha);have l:=ok.b.len;have n0:=mK ok.b.nn a.1;have n1:=rK (m:=1000) ⋯ sm.rw a.1;have ix:=rz (xs:=e.rows) (i:=a.1) wa.1 ⋯;have hr:(cR (d2 cP (cx (d2 cP (cc 3) (cx (dC (.int 0))))) (cx (d2 cP (cc 7) (cx (dC (.int 0))))))) (i6 e d acc (some (.int (i:Int),false)) (some (cD a,false)) (some (cj q,false)) s9 s10)=some ((ao (gI e.rows a.1).toNat).map fun (x:Nat)=>.int (x:Int)):=by
  rw[<-dE];exact dZ (o:=false) (by simp[i6,d2,cc,cx,dC,wN,mW,ix]) n0 ⋯
 obtain⟨de,h1,t9,Ai,h2⟩:=j5 (g:=gN 9) (b:=lh) (d:=fun (x:Nat)=>.int (x:Int)) (f:=fO e (a,i) q) (P:=fun acc ρ=>∃s9 s10,ρ=i6 e d acc (some (.int (i:Int),false)) (some (cD a,false)) (some (cj q,false)) s9 s10) 1000000 (ao (gI e.rows a.1).toNat) acc _ ⟨s9,s10,rfl⟩ (by rw[aB];exact hn)
  (fun x hx acc ρ ⟨u9,M8,eq⟩ hl=>by
   rw[bz] at hx;obtain⟨Ai,h⟩:=IG (d:=d) (s10:=M8) (x:=x) ok ha ⋯ hq hl;exact⟨_,_,by rw[eq];rfl,h,_,Ai,rfl⟩)
 refine⟨t9,Ai,?_⟩;rw[lg,eD hr,h1,h2]
theorem IE (ok:eS e)(sm:kO e){a:Int×Int}{i:Nat}{acc:List (Tr×Tr)}{s8 s9 s10:Option Vl}(ha:e.qu[i]?=some a)(hn:acc.length+((fu e.k2 e.cW (gI e.pl a.2) d).flatMap fun q=>(ao (gI e.rows a.1).toNat).map (fO e (a,i) q)).length<=1000000):∃t8 t9 Ai,
  k9 (i6 e d acc (some (.int (i:Int),false)) (some (cD a,false)) s8 s9 s10) =
   some (.next (i6 e d (acc++(fu e.k2 e.cW (gI e.pl a.2) d).flatMap fun q=>(ao (gI e.rows a.1).toNat).map (fO e (a,i) q)) (some (.int (i:Int),false)) (some (cD a,false)) t8 t9 Ai)):=by
 have wa:=ok.w1.ok a (aF ha);have l:=ok.s.len;have pk:=fv ok (show 0<=a.2 by omega) wa.2.2;have ix:=rz (xs:=e.pl) (i:=a.2) ⋯ ⋯;have lp:=j3 (other:=d) ok.w2 ok.h4 sm.a2 pk.1 pk.2;have hr:(dq (gS (cF dF (b6 (cg 1) (b6 (d2 cP (cx (d2 cP (cc 2) (cx (dC (.int 0))))) (cx (d2 cP (cc 7) (cx (dC (.int 1)))))) (b6 (cg 4) cv)))))) (i6 e d acc (some (.int (i:Int),false)) (some (cD a,false)) s8 s9 s10)=some ((fu e.k2 e.cW (gI e.pl a.2) d).map cj):=by
  simp[dq,gS,cF,b6,cv,i6,cg,d2,cc,cx,dC,td,n8,ix,lp,dM]
 obtain⟨de,h1,t8,t9,Ai,h2⟩:=mm (g:=gN 8) (b:=lg) (d:=cj) (f:=fun q=>(ao (gI e.rows a.1).toNat).map (fO e (a,i) q)) (P:=fun acc ρ=>∃s8 s9 s10,ρ=i6 e d acc (some (.int (i:Int),false)) (some (cD a,false)) s8 s9 s10) 1000000 (fu e.k2 e.cW (gI e.pl a.2) d) acc _ ⟨s8,s9,s10,rfl⟩ hn
  (fun q hq acc ρ ⟨u8,u9,M8,eq⟩ hl=>by
   rw[ai,aB] at hl;obtain⟨t9,Ai,h⟩:=IF (d:=d) (s9:=u9) (s10:=M8) ok sm ha (z8 ok.h4 q hq).2.2 hl;exact⟨_,_,by rw[eq];rfl,h,_,t9,Ai,rfl⟩)
 refine⟨t8,t9,Ai,?_⟩;rw[k9,eD hr,h1,h2]
theorem zA (ok:eS e)(sm:kO e)(hn:(eG e d).length<=1000000):gR [kQ e,kL e,jX e,jM e,.int d]=some (.list ((eG e d).map i7),true):=by
 have run:gR [kQ e,kL e,jX e,jM e,.int d]=(o8 [some (kQ e,false),some (kL e,false),some (jX e,false),some (jM e,false),some (.int d,false),none,none,none,none,none,none]).bind fQ:=rfl;have h0:cH 5 (cZ cv) [some (kQ e,false),some (kL e,false),some (jX e,false),some (jM e,false),some (.int d,false),none,none,none,none,none,none]=some (.next (i6 e d [] none none none none none)):=by
  simp[cH,cZ,cv,Cp,i6]
 have hr:(eO (gS (d2 cP (cc 0) (cx (dC (.int 1)))))) (i6 e d [] none none none none none)=some (e.qu.zipIdx.map fun p=>.tuple [.int (p.2:Int),cD p.1]):=by
  rw[<-gW];simp[eO,gS,d2,cc,cx,dC,i6,kZ,dM]
 have KO:([]:List (Tr×Tr)).length+(e.qu.zipIdx.flatMap fun p=>(fu e.k2 e.cW (gI e.pl p.1.2) d).flatMap fun q=>(ao (gI e.rows p.1.1).toNat).map (fO e p q)).length<=1000000:=by rw[WO,bJ];exact hn
 obtain⟨de,h1,t6,t7,t8,t9,Ai,h2⟩:=mm (g:=gT [gN 6,gN 7]) (b:=k9) (d:=fun (p:(Int×Int)×Nat)=>.tuple [.int (p.2:Int),cD p.1]) (f:=fun p=>(fu e.k2 e.cW (gI e.pl p.1.2) d).flatMap fun q=>(ao (gI e.rows p.1.1).toNat).map (fO e p q)) (P:=fun acc ρ=>∃s6 s7 s8 s9 s10,ρ=i6 e d acc s6 s7 s8 s9 s10) 1000000 e.qu.zipIdx [] _ ⟨none,none,none,none,none,rfl⟩ KO
  (fun p hp acc ρ ⟨u6,u7,u8,u9,M8,eq⟩ hl=>by
   obtain⟨t8,t9,Ai,h⟩:=IE (d:=d) (s8:=u8) (s9:=u9) (s10:=M8) ok sm (List.mem_zipIdx_iff_getElem?.mp hp) hl;exact⟨_,_,by rw[eq];rfl,h,_,_,t8,t9,Ai,rfl⟩)
 rw[run,o8,cJ h0,cI,eD hr,h1,ae,h2,bL];rfl
end
theorem j4 {α:Type}{g:GD}{b:SD}{d:α->D}{P:List α->Sl->Prop}(whole:List α):∀(l pre:List α) (ρ:Sl),pre++l=whole->P pre ρ->(∀pre x post ρ,pre++x::post=whole->P pre ρ->∃gE hZ,g (d x) ρ=some gE/\b gE=some (.next hZ)/\P (pre++[x]) hZ)->∃de,fo g b (l.map d) ρ=some (.next de)/\P whole de
 |[],pre,ρ,e,h,_=>⟨ρ,rfl,by rw[bw] at e;rw[<-e];exact h⟩
 | x::l,pre,ρ,e,h,k=>by
  obtain⟨gE,hZ,h1,h2,h3⟩:=k pre x l ρ e h;obtain⟨de,h4,h5⟩:=j4 (g:=g) (b:=b) whole l (pre++[x]) hZ (by rw[bg];exact e) h3 k;exact⟨de,by rw[aC,ud h1 h2];exact h4,h5⟩
noncomputable def cU (acc:List Tr):List (D×D):=ig acc fun t=>.int (acc.idxOf t:Int)
theorem oO (acc:List Tr):(cU acc).length=acc.length:=by unfold cU ig;rw[ai]
theorem rG {acc:List Tr}{t:Tr}(h:t∉acc):mB (cU acc) (cG t) (.int (acc.length:Int))=cU (acc++[t]):=by
 unfold cU;rw[xj h];unfold ig;rw[aU,List.map_singleton];congr 1
 ·refine W5 fun u hu=>?_;dsimp only;rw[WY,if_pos hu]
 ·dsimp only;rw[WY,if_neg h,Xk,bJ]
theorem Aw (t:Tr):pR (cG t)=true:=by
 have:kA (t.2.1.map tU)=true:=by
  induction t.2.1 with
  |nil=>rfl
  |cons a p ih=>rw[aC,kA,ih];rfl
 simp[cG,pR,kA,cj,this]
def Pl (s:Option Vl):Prop:=∀c,s≠some (nY c,true)
theorem kW:Pl none:=fun c h=>by cases h
theorem rD {x:D}:Pl (some (x,false)):=fun c h=>by cases h
theorem wc {ρ:Sl}(h:∀s∈ρ,Pl s):oM ρ=true:=by
 unfold oM;rw[WS];intro s hs;split
 ·exact absurd rfl (h _ hs _)
 ·rfl
theorem DP {ρ:Sl}{i:Nat}{x:D}(h:ρ[i]?=some (some (x,false))):qF i ρ=ρ:=by
 unfold qF;split
 ·rename_i kvs e;rw[h] at e;cases e
 ·rfl
section
variable {e:Sb}{d:Int}
noncomputable def dA (e:Sb)(d:Int)(m s6 s7 s8 s9 s10 s11 s12 s13 s14 s15 s16:Option Vl):Sl:=[some (kQ e,false),some (kL e,false),some (jX e,false),some (jM e,false),some (.int d,false),m,s6,s7,s8,s9,s10,s11,s12,s13,s14,s15,s16]
noncomputable abbrev eU (kvs:List (D×D)):Option Vl:=some (nY (.dict kvs),true)
theorem xi {e:Sb}{d:Int}{kvs:List (D×D)}{s6 s7 s8 s9 s10 s11 s12 s13 s14 s15 s16:Option Vl}{k v:ED}{t:Tr}{x:Int}(hv:v (unown (dA e d (eU kvs) s6 s7 s8 s9 s10 s11 s12 s13 s14 s15 s16))=some (.int x,false))(hk:k (unown (dA e d (eU kvs) s6 s7 s8 s9 s10 s11 s12 s13 s14 s15 s16))=some (cG t,false))(ok:dS kvs=true)(hz:kvs.length<1000000) :
  kr 5 k v (dA e d (eU kvs) s6 s7 s8 s9 s10 s11 s12 s13 s14 s15 s16)=some (.next (dA e d (eU (mB kvs (cG t) (.int x))) s6 s7 s8 s9 s10 s11 s12 s13 s14 s15 s16)):=by
 have h1:wF 5 (dA e d (eU kvs) s6 s7 s8 s9 s10 s11 s12 s13 s14 s15 s16)=some kvs:=rfl;have h2:qQ ((PyData.int x,false):Vl)=some (.int x):=rfl;have h3:qQ ((cG t,false):Vl)=some (cG t):=by simp[qQ,Aw]
 rw[kr,h1,ae,hv,ae,h2,ae,hk,ae,h3,ae,ok,kP,if_pos ⟨rfl,wZ hz⟩];rfl
theorem Jb {acc:List Tr}{c x:Nat}{p:List Nat}{s9 s10 s11 s12 s13 s14 s15 s16:Option Vl}(hn:acc.length<1000000)(h:(((c:Int),p,(x:Int)):Tr)∉acc) :
  lu (dA e d (eU (cU acc)) (some (.int (c:Int),false)) (some (cj p,false)) (some (.int (x:Int),false)) s9 s10 s11 s12 s13 s14 s15 s16) =
   some (.next (dA e d (eU (cU (acc++[((c:Int),p,(x:Int))]))) (some (.int (c:Int),false)) (some (cj p,false)) (some (.int (x:Int),false)) s9 s10 s11 s12 s13 s14 s15 s16)):=by
 rw[lu,xi (kvs:=cU acc) (t:=((c:Int),p,(x:Int))) (x:=(acc.length:Int)) ?_ ?_ (fL _ _) (by rw[oO];exact hn),rG h]
 ·show some ((PyData.int ((cU acc).length:Int),false):Vl)=_;rw[oO]
 ·exact oh (o:=false) (o':=false) (o'':=false) (by simp[cg,unown,dA,IB]) (by simp[cg,unown,dA,IB]) (by simp[cg,unown,dA,IB])
theorem Ja (ok:eS e)(sm:kO e){acc:List Tr}{c:Nat}{p:List Nat}{s8 s9 s10 s11 s12 s13 s14 s15 s16:Option Vl}(hc:(c:Int)<e.k1)(hn:acc.length+(gI e.rows (c:Int)).toNat<1000000)(h:∀u∈acc,¬(u.1=(c:Int)/\u.2.1=p))(p8:Pl s8):∃t8,Pl t8 ∧
  ll (dA e d (eU (cU acc)) (some (.int (c:Int),false)) (some (cj p,false)) s8 s9 s10 s11 s12 s13 s14 s15 s16) =
   some (.next (dA e d (eU (cU (acc++(ao (gI e.rows (c:Int)).toNat).map fun (x:Nat)=>((c:Int),p,(x:Int))))) (some (.int (c:Int),false)) (some (cj p,false)) t8 s9 s10 s11 s12 s13 s14 s15 s16)):=by
 have l:=ok.b.len;have n0:=mK ok.b.nn (c:Int);have n1:=rK (m:=1000) ⋯ sm.rw (c:Int);have ix:=rz (xs:=e.rows) (i:=(c:Int)) ⋯ ⋯;have hr:(cR (d2 cP (cx (d2 cP (cc 3) (cx (dC (.int 0))))) (cc 6))) (dA e d (eU (cU acc)) (some (.int (c:Int),false)) (some (cj p,false)) s8 s9 s10 s11 s12 s13 s14 s15 s16)=some ((ao (gI e.rows (c:Int)).toNat).map fun (x:Nat)=>.int (x:Int)):=by
  rw[<-dE];exact dZ (o:=false) (by simp[dA,d2,cc,cx,dC,wN,ix]) n0 ⋯
 obtain⟨de,h1,t8,Ot,h2⟩:=j4 (g:=gN 8) (b:=lu) (d:=fun (x:Nat)=>.int (x:Int)) (P:=fun pre ρ=>∃s8,Pl s8/\ρ=dA e d (eU (cU (acc++pre.map fun (x:Nat)=>((c:Int),p,(x:Int))))) (some (.int (c:Int),false)) (some (cj p,false)) s8 s9 s10 s11 s12 s13 s14 s15 s16) (ao (gI e.rows (c:Int)).toNat) (ao (gI e.rows (c:Int)).toNat) [] _ rfl ⟨s8,p8,by rw[bD,bw]⟩
  (fun pre x post ρ hw zz=>by
   obtain ⟨u8,_,eq⟩:=zz;have nd:(pre++x::post).Nodup:=hw▸List.nodup_range;have hl:(pre++x::post).length=(gI e.rows (c:Int)).toNat:=by rw[hw,aB]
   rw[aw,aJ] at hl;have nx:x∉pre:=fun z=>(List.nodup_append.mp nd).2.2 x z x (by simp) rfl;refine⟨_,_,by rw[eq];rfl,Jb (by rw[aw,ai];omega) (fun z=>?_),_,rD,by rw[bg,aU];rfl⟩;rcases List.mem_append.mp z with z|z
   ·exact h _ z ⟨rfl,rfl⟩
   ·obtain⟨y,hy,ey⟩:=List.mem_map.mp z;simp only[Prod.mk.injEq,true_and] at ey;have:y=x:=by omega
    exact nx (this▸hy))
 refine⟨t8,Ot,?_⟩;rw[ll,eD hr,h1,h2]
theorem I0 (ok:eS e)(sm:kO e){acc:List Tr}{c:Nat}{s7 s8 s9 s10 s11 s12 s13 s14 s15 s16:Option Vl}(hc:(c:Int)<e.k1)(hn:acc.length+((fu e.k2 e.cW (gI e.pl (c:Int)) d).flatMap fun p=>(ao (gI e.rows (c:Int)).toNat).map fun (x:Nat)=>(((c:Int),p,(x:Int)):Tr)).length<1000000)(h:∀u∈acc,u.1≠(c:Int))(p7:Pl s7)(p8:Pl s8):∃t7 t8,Pl t7/\Pl t8 ∧
  jI (dA e d (eU (cU acc)) (some (.int (c:Int),false)) s7 s8 s9 s10 s11 s12 s13 s14 s15 s16) =
   some (.next (dA e d (eU (cU (acc++(fu e.k2 e.cW (gI e.pl (c:Int)) d).flatMap fun p=>(ao (gI e.rows (c:Int)).toNat).map fun (x:Nat)=>((c:Int),p,(x:Int))))) (some (.int (c:Int),false)) t7 t8 s9 s10 s11 s12 s13 s14 s15 s16)):=by
 have l:=ok.s.len;have pk:=fv ok (show 0<=(c:Int) by omega) hc;have ix:=rz (xs:=e.pl) (i:=(c:Int)) ⋯ ⋯;have lp:=j3 (other:=d) ok.w2 ok.h4 sm.a2 pk.1 pk.2;have hr:(dq (gS (cF dF (b6 (cg 1) (b6 (d2 cP (cx (d2 cP (cc 2) (cx (dC (.int 0))))) (cc 6)) (b6 (cg 4) cv)))))) (dA e d (eU (cU acc)) (some (.int (c:Int),false)) s7 s8 s9 s10 s11 s12 s13 s14 s15 s16)=some ((fu e.k2 e.cW (gI e.pl (c:Int)) d).map cj):=by
  simp[dq,gS,cF,b6,cv,dA,cg,d2,cc,cx,dC,td,ix,lp,dM]
 obtain⟨de,h1,t7,t8,Rg,Ot,h2⟩:=j4 (g:=gN 7) (b:=ll) (d:=cj) (P:=fun pre ρ=>∃s7 s8,Pl s7/\Pl s8/\ρ=dA e d (eU (cU (acc++pre.flatMap fun p=>(ao (gI e.rows (c:Int)).toNat).map fun (x:Nat)=>((c:Int),p,(x:Int))))) (some (.int (c:Int),false)) s7 s8 s9 s10 s11 s12 s13 s14 s15 s16) (fu e.k2 e.cW (gI e.pl (c:Int)) d) (fu e.k2 e.cW (gI e.pl (c:Int)) d) [] _ rfl ⟨s7,s8,p7,p8,by rw[List.flatMap_nil,bw]⟩
  (fun pre p post ρ hw zz=>by
   obtain ⟨u7,u8,_,v8,eq⟩:=zz;have nd:(pre++p::post).Nodup:=hw▸pA;have np:p∉pre:=fun z=>(List.nodup_append.mp nd).2.2 p z p (by simp) rfl;have KO:=hn;rw[<-hw,Xp,bP,aw,aw,ai,aB] at KO;obtain⟨t8,QO,hb⟩:=Ja (d:=d) (p:=p) (s8:=u8) (s9:=s9) (s10:=s10) (s11:=s11) (s12:=s12) (s13:=s13) (s14:=s14) (s15:=s15) (s16:=s16) (acc:=acc++pre.flatMap fun p=>(ao (gI e.rows (c:Int)).toNat).map fun (x:Nat)=>((c:Int),p,(x:Int))) ok sm hc (by rw[aw];omega) (fun u hu=>by
    rcases List.mem_append.mp hu with z|z
    ·exact fun q=>h u z q.1
    ·obtain⟨p',zI,hz⟩:=List.mem_flatMap.mp z;obtain⟨x,_,rfl⟩:=List.mem_map.mp hz;exact fun q=>np ((show p'=p from q.2)▸zI)) v8
   exact⟨_,_,by rw[eq];rfl,hb,_,t8,rD,QO,by rw[Xp,List.flatMap_singleton,bg]⟩)
 refine⟨t7,t8,Rg,Ot,?_⟩;rw[jI,eD hr,h1,h2]
theorem AL (ok:eS e)(sm:kO e){s6 s7 s8 s9 s10 s11 s12 s13 s14 s15 s16:Option Vl}(hn:(b8 e d).length<1000000)(p6:Pl s6)(p7:Pl s7)(p8:Pl s8):∃t6 t7 t8,Pl t6/\Pl t7/\Pl t8 ∧
  (eI (cR (d2 cP (cc 0) (cx (dC (.int 0))))) (gN 6) jI) (dA e d (eU (cU [])) s6 s7 s8 s9 s10 s11 s12 s13 s14 s15 s16)=some (.next (dA e d (eU (cU (b8 e d))) t6 t7 t8 s9 s10 s11 s12 s13 s14 s15 s16)):=by
 have k0:=ok.w1.lo;have hr:(cR (d2 cP (cc 0) (cx (dC (.int 0))))) (dA e d (eU (cU [])) s6 s7 s8 s9 s10 s11 s12 s13 s14 s15 s16)=some ((ao e.k1.toNat).map fun (x:Nat)=>.int (x:Int)):=by
  rw[<-dE];have:=sm.k1;exact dZ (o:=false) (by simp[dA,d2,cc,cx,dC,pY]) ⋯ ⋯
 obtain⟨de,h1,t6,t7,t8,U0,Rg,Ot,h2⟩:=j4 (g:=gN 6) (b:=jI) (d:=fun (x:Nat)=>.int (x:Int)) (P:=fun pre ρ=>∃s6 s7 s8,Pl s6/\Pl s7/\Pl s8/\ρ=dA e d (eU (cU (pre.flatMap fun (c:Nat)=>(fu e.k2 e.cW (gI e.pl (c:Int)) d).flatMap fun p=>(ao (gI e.rows (c:Int)).toNat).map fun (x:Nat)=>((c:Int),p,(x:Int))))) s6 s7 s8 s9 s10 s11 s12 s13 s14 s15 s16) (ao e.k1.toNat) (ao e.k1.toNat) [] _ rfl ⟨s6,s7,s8,p6,p7,p8,rfl⟩
  (fun pre c post ρ hw zz=>by
   obtain ⟨u6,u7,u8,_,v7,v8,eq⟩:=zz;have nd:(pre++c::post).Nodup:=hw▸List.nodup_range;have nc:c∉pre:=fun z=>(List.nodup_append.mp nd).2.2 c z c (by simp) rfl;have hc:c∈ao e.k1.toNat:=hw▸by simp
   rw[bz] at hc;have KO:(b8 e d).length<1000000:=hn;unfold b8 at KO;rw[<-hw,Xp,bP,aw,aw] at KO;obtain⟨t7,t8,Uz,QO,hb⟩:=I0 (d:=d) (c:=c) (s7:=u7) (s8:=u8) (s9:=s9) (s10:=s10) (s11:=s11) (s12:=s12) (s13:=s13) (s14:=s14) (s15:=s15) (s16:=s16) (acc:=pre.flatMap fun (c:Nat)=>(fu e.k2 e.cW (gI e.pl (c:Int)) d).flatMap fun p=>(ao (gI e.rows (c:Int)).toNat).map fun (x:Nat)=>((c:Int),p,(x:Int))) ok sm ⋯ ⋯ (fun u hu z=>by
    obtain⟨c',Nu,hz⟩:=List.mem_flatMap.mp hu;obtain⟨p',_,hz⟩:=List.mem_flatMap.mp hz;obtain⟨x,_,rfl⟩:=List.mem_map.mp hz;have:c'=c:=by
     have:(c':Int)=c:=z;omega
    exact nc (this▸Nu)) v7 v8
   exact⟨_,_,by rw[eq];rfl,hb,_,t7,t8,rD,Uz,QO,by rw[Xp,List.flatMap_singleton]⟩)
 refine⟨t6,t7,t8,U0,Rg,Ot,?_⟩;rw[eD hr];exact h1.trans (by rw[h2];rfl)
end
noncomputable def dN (ts:List Tr)(m:List Nat):List (D×D):=ig ts fun t=>.int (mark m (ts.idxOf t):Int)
theorem Ho (ts:List Tr)(m:List Nat):(dN ts m).length=ts.length:=by unfold dN ig;rw[ai]
theorem eR {ts:List Tr}{t:Tr}(h:t∈ts):ts.idxOf t<ts.length:=List.idxOf_lt_length_iff.mpr h
theorem CZ {ts:List Tr}{t u:Tr}(ht:t∈ts)(hu:u∈ts)(h:ts.idxOf t=ts.idxOf u):t=u:=by
 have x1:=bq (eR ht);have x2:=bq (eR hu);rw[<-x1,<-x2];simp only[h]
theorem GI (ts:List Tr):cU ts=dN ts (ao ts.length):=by
 refine uu fun t ht=>?_;unfold mark;rw[av,ba (eR ht)];rfl
theorem JH {ts:List Tr}{m:List Nat}{t:Tr}(h:t∈ts):gJ (.dict (dN ts m)) (cG t)=some (.int (mark m (ts.idxOf t):Int),false):=by
 unfold gJ;dsimp only;rw[show dS (dN ts m)=true from fL _ _,kP,if_pos (by rfl)];unfold dN;rw[m6,if_pos h];rfl
theorem NS {ts:List Tr}{m:List Nat}{t u:Tr}(hl:m.length=ts.length)(ht:t∈ts)(hu:u∈ts)(ne:mark m (ts.idxOf t)≠mark m (ts.idxOf u)) :
  mB (mB (dN ts m) (cG t) (.int ((min (mark m (ts.idxOf t)) (mark m (ts.idxOf u)):Nat):Int))) (cG u) (.int ((min (mark m (ts.idxOf t)) (mark m (ts.idxOf u)):Nat):Int))=dN ts (tie1 m (ts.idxOf t,ts.idxOf u)):=by
 unfold dN;rw[sv ht,sv hu];refine uu fun v hv=>?_;have la:ts.idxOf t<m.length:=by rw[hl];exact eR ht
 have lb:ts.idxOf u<(m.set (ts.idxOf t) (min (mark m (ts.idxOf t)) (mark m (ts.idxOf u)))).length:=by rw[aX,hl];exact eR hu
 unfold tie1;rw[if_neg ne,eV lb,eV la];by_cases e1:v=u
 ·subst e1;simp
 ·have n1:ts.idxOf v≠ts.idxOf u:=fun z=>e1 (CZ hv hu z);rw[if_neg e1,if_neg n1];by_cases e2:v=t
  ·subst e2;simp
  ·have n2:ts.idxOf v≠ts.idxOf t:=fun z=>e2 (CZ hv ht z);rw[if_neg e2,if_neg n2]
theorem CN (a b:Nat):xu (.int (a:Int)) (.int (b:Int))=some (.int ((min a b:Nat):Int),false):=by
 unfold xu;dsimp only;by_cases h:(b:Int)<(a:Int)
 ·rw[if_pos h,Nat.min_eq_right ⋯]
 ·rw[if_neg h,W7 ⋯]
section
variable {e:Sb}{d:Int}
theorem IZ {ts:List Tr}{m:List Nat}{t u:Tr}{s6 s7 s8 s9 s13 s14 s15 s16:Option Vl}{ag:Bool}(hl:m.length=ts.length)(hz:ts.length<1000000)(ht:t∈ts)(hu:u∈ts)(Nd:Pl s13):∃sV,Pl sV ∧
  jH (dA e d (eU (dN ts m)) s6 s7 s8 s9 (some (.bool ag,false)) (some (cG t,false)) (some (cG u,false)) s13 s14 s15 s16) =
   some (.next (dA e d (eU (dN ts (ic (m,ag) (ts.idxOf t,ts.idxOf u)).1)) s6 s7 s8 s9 (some (.bool (ic (m,ag) (ts.idxOf t,ts.idxOf u)).2,false)) (some (cG t,false)) (some (cG u,false)) sV s14 s15 s16)):=by
 have i1:∀{s13:Option Vl},(d2 gJ (cc 5) (cc 11)) (dA e d (eU (dN ts m)) s6 s7 s8 s9 (some (.bool ag,false)) (some (cG t,false)) (some (cG u,false)) s13 s14 s15 s16)=some (.int (mark m (ts.idxOf t):Int),false):=JH ht;have i2:∀{s13:Option Vl},(d2 gJ (cc 5) (cc 12)) (dA e d (eU (dN ts m)) s6 s7 s8 s9 (some (.bool ag,false)) (some (cG t,false)) (some (cG u,false)) s13 s14 s15 s16)=some (.int (mark m (ts.idxOf u):Int),false):=JH hu;have tt:(dH (cx (d2 gJ (cc 5) (cc 11))) [(zZ,(cx (d2 gJ (cc 5) (cc 12))))]) (dA e d (eU (dN ts m)) s6 s7 s8 s9 (some (.bool ag,false)) (some (cG t,false)) (some (cG u,false)) s13 s14 s15 s16)=some (!decide (mark m (ts.idxOf t)=mark m (ts.idxOf u))):=by
  simp only[dH,dR,cx,i1,i2,au,ae,Dr];congr 1;rw[<-decide_not];exact decide_eq_decide.mpr ⟨fun z q=>z ⋯,fun z q=>z ⋯⟩
 by_cases h:mark m (ts.idxOf t)=mark m (ts.idxOf u)
 ·refine⟨s13,Nd,?_⟩;have e1:ic (m,ag) (ts.idxOf t,ts.idxOf u)=(m,ag):=by
   unfold ic tie1;simp[h]
  rw[e1,jH,CY (by rw[tt,decide_eq_true h];rfl)];rfl
 ·have e1:ic (m,ag) (ts.idxOf t,ts.idxOf u)=(tie1 m (ts.idxOf t,ts.idxOf u),true):=by
   unfold ic;simp[h]
  refine⟨some (.int ((min (mark m (ts.idxOf t)) (mark m (ts.idxOf u)):Nat):Int),false),rD,?_⟩;have q1:(cH 13 (d2 xu (cx (d2 gJ (cc 5) (cc 11))) (cx (d2 gJ (cc 5) (cc 12))))) (dA e d (eU (dN ts m)) s6 s7 s8 s9 (some (.bool ag,false)) (some (cG t,false)) (some (cG u,false)) s13 s14 s15 s16)=some (.next (dA e d (eU (dN ts m)) s6 s7 s8 s9 (some (.bool ag,false)) (some (cG t,false)) (some (cG u,false)) (some (.int ((min (mark m (ts.idxOf t)) (mark m (ts.idxOf u)):Nat):Int),false)) s14 s15 s16)):=by
   rw[cH,d2,cx,i1,au,ae,cx,i2,au,ae,CN,ae];rfl
  have U2:dS (dN ts m)=true:=fL _ _;have p1:=xi (e:=e) (d:=d) (s6:=s6) (s7:=s7) (s8:=s8) (s9:=s9) (s10:=some (.bool ag,false)) (s11:=some (cG t,false)) (s12:=some (cG u,false)) (s13:=some (.int ((min (mark m (ts.idxOf t)) (mark m (ts.idxOf u)):Nat):Int),false)) (s14:=s14) (s15:=s15) (s16:=s16) (k:=cg 11) (v:=cg 13) (t:=t) (x:=((min (mark m (ts.idxOf t)) (mark m (ts.idxOf u)):Nat):Int)) (kvs:=dN ts m) rfl rfl U2 (by rw[Ho];exact hz);have U1:dS (mB (dN ts m) (cG t) (.int ((min (mark m (ts.idxOf t)) (mark m (ts.idxOf u)):Nat):Int)))=true:=by unfold dN;rw[sv ht];exact fL _ _
  have p2:=xi (e:=e) (d:=d) (s6:=s6) (s7:=s7) (s8:=s8) (s9:=s9) (s10:=some (.bool ag,false)) (s11:=some (cG t,false)) (s12:=some (cG u,false)) (s13:=some (.int ((min (mark m (ts.idxOf t)) (mark m (ts.idxOf u)):Nat):Int),false)) (s14:=s14) (s15:=s15) (s16:=s16) (k:=cg 12) (v:=cg 13) (t:=u) (x:=((min (mark m (ts.idxOf t)) (mark m (ts.idxOf u)):Nat):Int)) (kvs:=mB (dN ts m) (cG t) (.int ((min (mark m (ts.idxOf t)) (mark m (ts.idxOf u)):Nat):Int))) rfl rfl U1 (by unfold dN;rw[sv ht];unfold ig;rw[ai];exact hz);rw[NS hl ht hu h] at p2;rw[e1,jH,Bf (by rw[tt,decide_eq_false h];rfl),cJ q1,cJ p1,cJ p2];rfl
noncomputable def jB (e:Sb)(d:Int):iY:=(eG e d).map fun p=>((b8 e d).idxOf p.1,(b8 e d).idxOf p.2)
theorem Ba (ok:eS e):∀p∈jB e d,p.1<(b8 e d).length/\p.2<(b8 e d).length:=fun p hp=>by
 obtain⟨q,hq,rfl⟩:=List.mem_map.mp hp;have:=sS ok ((lQ ok).mp hq);exact⟨eR ((eM ok).mpr this.1),eR ((eM ok).mpr this.2)⟩
theorem Co (ok:eS e):uY (b8 e d) (ik e d) (jB e d):=by
 refine⟨gg e d,Ba ok,fun p hp t u ht hu=>?_,fun t u r=>?_⟩
 ·obtain⟨q,hq,rfl⟩:=List.mem_map.mp hp;have ti:=sS ok ((lQ ok).mp hq);have m1:=(eM ok).mpr ti.1;have m2:=(eM ok).mpr ti.2;have e1:t=q.1:=by
   have:=bq (eR m1);rw[aq (eR m1),this] at ht;exact (Option.some.inj ht).symm
  have e2:u=q.2:=by
   have:=bq (eR m2);rw[aq (eR m2),this] at hu;exact (Option.some.inj hu).symm
  rw[e1,e2];exact (lQ ok).mp hq
 ·have ti:=sS ok r;have m1:=(eM ok).mpr ti.1;have m2:=(eM ok).mpr ti.2;refine⟨_,List.mem_map_of_mem ((lQ ok).mpr r),?_,?_⟩
  ·rw[aq (eR m1)];exact congrArg some (bq (eR m1))
  ·rw[aq (eR m2)];exact congrArg some (bq (eR m2))
theorem IY (ok:eS e){m:List Nat}{s6 s7 s8 s10 s11 s12 s13 s14 s15 s16:Option Vl}(hl:m.length=(b8 e d).length)(hz:(b8 e d).length<1000000)(Qo:Pl s11)(Qn:Pl s12)(Nd:Pl s13):∃yq sj sV,Pl yq/\Pl sj/\Pl sV ∧
  lj (dA e d (eU (dN (b8 e d) m)) s6 s7 s8 (some (.list ((eG e d).map i7),false)) s10 s11 s12 s13 s14 s15 s16) =
   some (.next (dA e d (eU (dN (b8 e d) ((jB e d).foldl ic (m,false)).1)) s6 s7 s8 (some (.list ((eG e d).map i7),false)) (some (.bool ((jB e d).foldl ic (m,false)).2,false)) yq sj sV s14 s15 s16)):=by
 have q0:(cH 10 (dC (.bool false))) (dA e d (eU (dN (b8 e d) m)) s6 s7 s8 (some (.list ((eG e d).map i7),false)) s10 s11 s12 s13 s14 s15 s16)=some (.next (dA e d (eU (dN (b8 e d) m)) s6 s7 s8 (some (.list ((eG e d).map i7),false)) (some (.bool false,false)) s11 s12 s13 s14 s15 s16)):=rfl;have hr:(dq (fj 9)) (dA e d (eU (dN (b8 e d) m)) s6 s7 s8 (some (.list ((eG e d).map i7),false)) (some (.bool false,false)) s11 s12 s13 s14 s15 s16)=some ((eG e d).map i7):=rfl;obtain⟨de,h1,hlen,yq,sj,sV,Rj,Ri,Rh,h2⟩:=pZ (g:=gT [gN 11,gN 12]) (b:=jH) (d:=i7) (f:=fun (st:List Nat×Bool) (p:Tr×Tr)=>ic st ((b8 e d).idxOf p.1,(b8 e d).idxOf p.2)) (P:=fun st ρ=>st.1.length=(b8 e d).length/\∃s11 s12 s13,Pl s11/\Pl s12/\Pl s13/\ρ=dA e d (eU (dN (b8 e d) st.1)) s6 s7 s8 (some (.list ((eG e d).map i7),false)) (some (.bool st.2,false)) s11 s12 s13 s14 s15 s16) (eG e d) (m,false) _ ⟨hl,s11,s12,s13,Qo,Qn,Nd,rfl⟩
  (fun p hp st ρ zz=>by
   obtain ⟨hl,QQ,NR,Kq,_,_,UA,eq⟩:=zz;have ti:=sS ok ((lQ ok).mp (show (p.1,p.2)∈eG e d from hp));obtain⟨sV,QP,hb⟩:=IZ (e:=e) (d:=d) (s6:=s6) (s7:=s7) (s8:=s8) (s9:=some (.list ((eG e d).map i7),false)) (s13:=Kq) (s14:=s14) (s15:=s15) (s16:=s16) (ag:=st.2) (m:=st.1) hl hz ((eM ok).mpr ti.1) ((eM ok).mpr ti.2) UA;exact⟨_,_,by rw[eq];rfl,hb,by rw[<-hl];exact yF _ _,_,_,sV,rD,rD,QP,rfl⟩)
 have ef:∀(l:List (Tr×Tr)) (st:List Nat×Bool),l.foldl (fun (st:List Nat×Bool) (p:Tr×Tr)=>ic st ((b8 e d).idxOf p.1,(b8 e d).idxOf p.2)) st=(l.map fun p=>((b8 e d).idxOf p.1,(b8 e d).idxOf p.2)).foldl ic st:=fun l st=>by rw[List.foldl_map]
 rw[ef] at h2;refine⟨yq,sj,sV,Rj,Ri,Rh,?_⟩;rw[lj,cJ q0,eD hr,h1,h2];rfl
theorem tw (ok:eS e){s6 s7 s8 s14 s15 s16:Option Vl}(hz:(b8 e d).length<1000000):∀(n:Nat) (m:List Nat) (s11 s12 s13:Option Vl),fY m<n->qv (jB e d) (b8 e d).length m->Pl s11->Pl s12->Pl s13->∃m' yq sj sV,Pl yq/\Pl sj/\Pl sV/\qv (jB e d) (b8 e d).length m'/\fX (jB e d) m' ∧
  eL mP lj (n+1) (dA e d (eU (dN (b8 e d) m)) s6 s7 s8 (some (.list ((eG e d).map i7),false)) (some (.bool true,false)) s11 s12 s13 s14 s15 s16) =
   some (.next (dA e d (eU (dN (b8 e d) m')) s6 s7 s8 (some (.list ((eG e d).map i7),false)) (some (.bool false,false)) yq sj sV s14 s15 s16))
 |0,m,_,_,_,hw,_,_,_,_=>by omega
 | n+1,m,s11,s12,s13,hw,w,Qo,Qn,Nd=>by
  obtain⟨yq,sj,sV,Qm,Tu,Tt,hb⟩:=IY (s6:=s6) (s7:=s7) (s8:=s8) (s10:=some (.bool true,false)) (s11:=s11) (s12:=s12) (s13:=s13) (s14:=s14) (s15:=s15) (s16:=s16) ok w.len hz Qo Qn Nd;obtain⟨w1,_,h⟩:=Ge (Ba ok) (jB e d) (fun _ h=>h) m false w;have t1:∀{b:Bool}{m:List Nat}{s11 s12 s13:Option Vl},mP (dA e d (eU (dN (b8 e d) m)) s6 s7 s8 (some (.list ((eG e d).map i7),false)) (some (.bool b,false)) s11 s12 s13 s14 s15 s16)=some b:=rfl;rcases h with ⟨h1,h2,h3⟩|⟨h1,h2⟩
  ·rw[h1,h2] at hb;refine⟨m,yq,sj,sV,Qm,Tu,Tt,w,h3,?_⟩;rw[eL,t1,ae,if_pos rfl,hb,ae];dsimp only;rw[eL,t1,ae,if_neg Bool.false_ne_true]
  ·rw[h1] at hb;obtain⟨m',QQ,NR,Kq,UU,UT,US,x1,x2,x3⟩:=tw ok hz n ((jB e d).foldl ic (m,false)).1 yq sj sV ⋯ w1 Qm Tu Tt;refine⟨m',QQ,NR,Kq,UU,UT,US,x1,x2,?_⟩;rw[eL,t1,ae,if_pos rfl,hb,ae];exact x3
end
theorem pQ {x:Int}:∀{l:List Int},x∈ja l<->x∈l
 |[]=>Iff.rfl
 | a::l=>by
  unfold ja;split
  ·rename_i h;rw[pQ,bj];exact⟨.inr,fun z=>z.elim (fun q=>q▸h) id⟩
  ·rw[bj,pQ,bj]
theorem oI:∀(l:List Int),(ja l).Nodup
 |[]=>WZ
 | a::l=>by
  unfold ja;split
  ·exact oI l
  ·rename_i h;exact List.nodup_cons.mpr ⟨fun z=>h (pQ.mp z),oI l⟩
theorem yY:∀{l l':List Int},l.Nodup->l'.Nodup->(∀x,x∈l<->x∈l')->l.Perm l'
 | [],l',_,_,h=>by
  cases l' with
  |nil=>exact .nil
  |cons a l'=>exact absurd ((h a).mpr (by simp)) (by simp)
 | a::l,l',n,n',h=>by
  rw[List.nodup_cons] at n;have ha:a∈l':=(h a).mp (by simp);have p:=List.perm_cons_erase ha;have nd:=(List.nodup_cons.mp (p.nodup n'));refine (List.Perm.cons a (yY n.2 nd.2 fun x=>?_)).trans p.symm;have q:x∈l'<->x=a\/x∈l'.erase a:=by rw[p.mem_iff,bj]
  have r:=h x;rw[bj,q] at r;constructor
  ·intro hx;exact (r.mp (.inr hx)).resolve_left fun z=>n.1 (z▸hx)
  ·intro hx;exact (r.mpr (.inr hx)).resolve_left fun z=>nd.1 (z▸hx)
theorem DO {l l':List Int}(h:∀x,x∈l<->x∈l')(s:l'.Pairwise (·<·)):vP (ja l)=l':=by
 have U8:l'.Nodup:=s.imp fun h z=>by omega
 have p:(vP (ja l)).Perm l':=(Xo _ _).trans (yY (oI l) U8 fun x=>pQ.trans (h x));have s1:(vP (ja l)).Pairwise fun a b=>decide (a<=b)=true:=Xc (fun a b c h1 h2=>by simp at h1 h2 ⊢;omega) (fun a b=>by simp;omega) _;exact List.Perm.eq_of_pairwise (le:=fun a b=>decide (a<=b)=true) (fun a b _ _ h1 h2=>by simp at h1 h2;omega) s1 (s.imp fun h=>by simp;omega) p
theorem C0 {k:Nat}:∀{l:List Nat},k∈l->vt (k:Int) (l.map fun (n:Nat)=>(n:Int))=some (l.idxOf k)
 |[],h=>nomatch h
 | a::l,h=>by
  rw[aC,vt];by_cases e:a=k
  ·subst e;rw[if_pos rfl,Xk]
  ·rw[if_neg ⋯,C0 ((List.mem_cons.mp h).resolve_left (Ne.symm e))];rw[List.idxOf_cons,show (a==k)=false from beq_eq_false_iff_ne.mpr e];rfl
theorem tS {α:Type}(f:α->Int):∀l:List α,gA (l.map fun x=>.int (f x))=some (l.map f)
 |[]=>rfl
 | x::l=>by
  rw[aC,gA,tS f l];rfl
theorem EI (m:List Nat):((dU m).map fun (n:Nat)=>(n:Int)).Pairwise (·<·):=by
 refine List.pairwise_map.mpr ?_;have:(dU m).Pairwise (·<·):=List.Pairwise.sublist List.filter_sublist List.pairwise_lt_range;exact this.imp fun h=>by omega
section
variable {e:Sb}{d:Int}
theorem xC {ts:List Tr}{its:iY}(nd:ts.Nodup){m:List Nat}(w:qv its ts.length m)(s:fX its m)(x:Int):x∈ts.map (fun t=>(mark m (ts.idxOf t):Int))<->x∈(dU m).map fun (n:Nat)=>(n:Int):=by
 rw[List.mem_map,List.mem_map];constructor
 ·rintro⟨t,ht,rfl⟩;exact⟨_,w.mem_firsts s (eR ht),rfl⟩
 ·rintro⟨n,hn,rfl⟩;obtain⟨h1,h2⟩:=List.mem_filter.mp hn;rw[bz,w.len] at h1;refine⟨ts[n],bY h1,?_⟩;have hm:=bY h1;have ix:ts.idxOf ts[n]=n:=uW nd (by rw[aq (eR hm)];exact congrArg some (bq (eR hm))) (aq h1);rw[ix];unfold ml at h2;rw[beq_iff_eq.mp h2]
theorem Br {its:iY}{n:Nat}{m:List Nat}(w:qv its n m):(dU m).length<=n:=by
 unfold dU;refine bK (WW _ _) ?_;rw[aB,w.len];exact aE _
theorem y0:∀l:List Int,(ja l).length<=l.length
 |[]=>aE _
 | a::l=>by
  have:=y0 l;unfold ja;split
  ·rw[aJ];omega
  ·rw[aJ,aJ];omega
noncomputable def dP (e:Sb)(d:Int):List (D×D):=ig (b8 e d) fun t=>.int (kN e d t)
theorem AK (ok:eS e){m:List Nat}{s6 s7 s8 s9 s10 s11 s12 s13 s14 s15 s16:Option Vl}(hz:(b8 e d).length<64)(w:qv (jB e d) (b8 e d).length m)(s:fX (jB e d) m) :
  (kU 5 (gc 14 (cH 14 (d1 kz (cx (da (mJ (cg 5)) 1 [5] (gN 0) f9 k5)))))) (dA e d (eU (dN (b8 e d) m)) s6 s7 s8 s9 s10 s11 s12 s13 s14 s15 s16) =
   some (.next (dA e d (some (.dict (dN (b8 e d) m),false)) s6 s7 s8 s9 s10 s11 s12 s13 (some (.list ((dU m).map fun (n:Nat)=>.int (n:Int)),false)) s15 s16)):=by
 have ks:(mJ (cg 5)) (dA e d (some (.dict (dN (b8 e d) m),false)) s6 s7 s8 s9 s10 s11 s12 s13 s14 s15 s16)=some ((b8 e d).map cG):=by
  show (if dS (dN (b8 e d) m)=true then some ((dN (b8 e d) m).map (·.1)) else none)=_;rw[show dS (dN (b8 e d) m)=true from fL _ _,if_pos rfl];unfold dN ig;rw[bt];rfl
 have cm:=fM (it:=mJ (cg 5)) (n:=1) (ix:=[5]) (g:=gN 0) (e:=k5) (ρ:=dA e d (some (.dict (dN (b8 e d) m),false)) s6 s7 s8 s9 s10 s11 s12 s13 s14 s15 s16) (d:=cG) (β:=fun t=>.int (mark m ((b8 e d).idxOf t):Int)) (b8 e d) ks ⋯ (fun t ht=>⟨_,false,rfl,JH ht⟩);have so:kz (.list ((b8 e d).map fun t=>.int (mark m ((b8 e d).idxOf t):Int)))=some (.list ((dU m).map fun (n:Nat)=>.int (n:Int)),true):=by
  have fl:=Br w;have ol:=y0 ((b8 e d).map fun t=>(mark m ((b8 e d).idxOf t):Int));rw[ai] at ol;unfold kz;rw[we,ae,tS,ae,if_pos ⟨by rw[ai];omega,by omega⟩,DO (xC (gg e d) w s) (EI m),bt];rfl
 have q:(cH 14 (d1 kz (cx (da (mJ (cg 5)) 1 [5] (gN 0) f9 k5)))) (dA e d (some (.dict (dN (b8 e d) m),false)) s6 s7 s8 s9 s10 s11 s12 s13 s14 s15 s16)=some (.next (dA e d (some (.dict (dN (b8 e d) m),false)) s6 s7 s8 s9 s10 s11 s12 s13 (some (.list ((dU m).map fun (n:Nat)=>.int (n:Int)),true)) s15 s16)):=by
  rw[cH,d1,cx,cm,au,ae,so,ae];rfl
 rw[kU];show (gc 14 _) (dA e d (some (.dict (dN (b8 e d) m),false)) s6 s7 s8 s9 s10 s11 s12 s13 s14 s15 s16)=_;rw[gc,q];rfl
theorem IX (ok:eS e){m:List Nat}{t:Tr}{kvs:List (D×D)}{s6 s7 s8 s9 s10 s11 s12 s13:Option Vl}(w:qv (jB e d) (b8 e d).length m)(s:fX (jB e d) m)(ht:t∈b8 e d)(hk:dS kvs=true)(hl:kvs.length<1000000) :
  jG (dA e d (some (.dict (dN (b8 e d) m),false)) s6 s7 s8 s9 s10 s11 s12 s13 (some (.list ((dU m).map fun (n:Nat)=>.int (n:Int)),false)) (eU kvs) (some (cG t,false))) =
   some (.next (dA e d (some (.dict (dN (b8 e d) m),false)) s6 s7 s8 s9 s10 s11 s12 s13 (some (.list ((dU m).map fun (n:Nat)=>.int (n:Int)),false)) (eU (mB kvs (cG t) (.int (kN e d t)))) (some (cG t,false)))):=by
 have hn:kN e d t=(mN m ((b8 e d).idxOf t):Int):=by
  have:=(Co (d:=d) ok).A0 w s (i:=(b8 e d).idxOf t) (t:=t) (by rw[aq (eR ht)];exact congrArg some (bq (eR ht)));unfold kN;rw[this]
 have oi:qO (.list ((dU m).map fun (n:Nat)=>.int (n:Int))) (.int (mark m ((b8 e d).idxOf t):Int))=some (.int (kN e d t),false):=by
  unfold qO;rw[we,ae,tS (fun (n:Nat)=>(n:Int)),ae];show (vt _ _).map _=_;rw[C0 (w.mem_firsts s (eR ht)),hn];rfl
 have hv:(d2 qO (cc 14) (cx (d2 gJ (cc 5) (cc 16)))) (unown (dA e d (some (.dict (dN (b8 e d) m),false)) s6 s7 s8 s9 s10 s11 s12 s13 (some (.list ((dU m).map fun (n:Nat)=>.int (n:Int)),false)) (eU kvs) (some (cG t,false))))=some (.int (kN e d t),false):=by
  have q:(d2 gJ (cc 5) (cc 16)) (unown (dA e d (some (.dict (dN (b8 e d) m),false)) s6 s7 s8 s9 s10 s11 s12 s13 (some (.list ((dU m).map fun (n:Nat)=>.int (n:Int)),false)) (eU kvs) (some (cG t,false))))=some (.int (mark m ((b8 e d).idxOf t):Int),false):=JH ht;rw[d2];show (cx (d2 gJ (cc 5) (cc 16)) _).bind _=_;rw[cx,q,au,ae];exact oi
 have h1:wF 15 (dA e d (some (.dict (dN (b8 e d) m),false)) s6 s7 s8 s9 s10 s11 s12 s13 (some (.list ((dU m).map fun (n:Nat)=>.int (n:Int)),false)) (eU kvs) (some (cG t,false)))=some kvs:=rfl;have h2:qQ ((PyData.int (kN e d t),false):Vl)=some (.int (kN e d t)):=rfl;have h3:qQ ((cG t,false):Vl)=some (cG t):=by simp[qQ,Aw]
 have Vy:(cg 16) (unown (dA e d (some (.dict (dN (b8 e d) m),false)) s6 s7 s8 s9 s10 s11 s12 s13 (some (.list ((dU m).map fun (n:Nat)=>.int (n:Int)),false)) (eU kvs) (some (cG t,false))))=some (cG t,false):=rfl;rw[jG,kr,h1,ae,hv,ae,h2,ae,Vy,ae,h3,ae,hk,kP,if_pos ⟨rfl,wZ hl⟩];rfl
theorem zB (ok:eS e)(sm:kO e)(hz:(b8 e d).length<64)(hn:(eG e d).length<=1000000):jo [kQ e,kL e,jX e,jM e,.int d]=some (.dict (dP e d),false):=by
 have run:jo [kQ e,kL e,jX e,jM e,.int d]=(o9 (dA e d none none none none none none none none none none none none)).bind fQ:=rfl;have n1:(lC 5) (dA e d none none none none none none none none none none none none)=some (.next (dA e d (eU (cU [])) none none none none none none none none none none none)):=rfl;obtain⟨t6,t7,t8,p6,p7,p8,f1⟩:=AL (d:=d) (s6:=none) (s7:=none) (s8:=none) (s9:=none) (s10:=none) (s11:=none) (s12:=none) (s13:=none) (s14:=none) (s15:=none) (s16:=none) ok sm ⋯ kW kW kW;rw[GI (b8 e d)] at f1;have q9:(gc 9 (cH 9 (cF gR (b6 (cg 0) (b6 (cg 1) (b6 (cg 2) (b6 (cg 3) (b6 (cg 4) cv)))))))) (dA e d (eU (dN (b8 e d) (ao (b8 e d).length))) t6 t7 t8 none none none none none none none none)=some (.next (dA e d (eU (dN (b8 e d) (ao (b8 e d).length))) t6 t7 t8 (some (.list ((eG e d).map i7),false)) none none none none none none none)):=by
  have ca:(cF gR (b6 (cg 0) (b6 (cg 1) (b6 (cg 2) (b6 (cg 3) (b6 (cg 4) cv)))))) (dA e d (eU (dN (b8 e d) (ao (b8 e d).length))) t6 t7 t8 none none none none none none none none)=some (.list ((eG e d).map i7),true):=(show _=gR [kQ e,kL e,jX e,jM e,.int d] from rfl).trans (zA ok sm hn);rw[gc,cH,ca,ae];rfl
 have Rf:(cH 10 (dC (.bool true))) (dA e d (eU (dN (b8 e d) (ao (b8 e d).length))) t6 t7 t8 (some (.list ((eG e d).map i7),false)) none none none none none none none)=some (.next (dA e d (eU (dN (b8 e d) (ao (b8 e d).length))) t6 t7 t8 (some (.list ((eG e d).map i7),false)) (some (.bool true,false)) none none none none none none)):=rfl;obtain⟨m,yq,sj,sV,Qo,Qn,Nd,w,s,wh⟩:=tw (d:=d) (s6:=t6) (s7:=t7) (s8:=t8) (s14:=none) (s15:=none) (s16:=none) ok ⋯ (fY (ao (b8 e d).length)+1) (ao (b8 e d).length) none none none ⋯ (QN _ _) kW kW kW;have Uy:=nJ wh;have kn:=AK (d:=d) (s6:=t6) (s7:=t7) (s8:=t8) (s9:=some (.list ((eG e d).map i7),false)) (s10:=some (.bool false,false)) (s11:=yq) (s12:=sj) (s13:=sV) (s14:=none) (s15:=none) (s16:=none) ok hz w s;have U9:(lC 15) (dA e d (some (.dict (dN (b8 e d) m),false)) t6 t7 t8 (some (.list ((eG e d).map i7),false)) (some (.bool false,false)) yq sj sV (some (.list ((dU m).map fun (n:Nat)=>.int (n:Int)),false)) none none)=some (.next (dA e d (some (.dict (dN (b8 e d) m),false)) t6 t7 t8 (some (.list ((eG e d).map i7),false)) (some (.bool false,false)) yq sj sV (some (.list ((dU m).map fun (n:Nat)=>.int (n:Int)),false)) (eU []) none)):=by
  have nd:oM ((dA e d (some (.dict (dN (b8 e d) m),false)) t6 t7 t8 (some (.list ((eG e d).map i7),false)) (some (.bool false,false)) yq sj sV (some (.list ((dU m).map fun (n:Nat)=>.int (n:Int)),false)) none none).set 15 none)=true:=wc fun s hs=>by
   simp only[dA,List.set_cons_succ,List.set_cons_zero,bj,bC,or_false] at hs;rcases hs with z|z|z|z|z|z|z|z|z|z|z|z|z|z|z|z|z <;> subst z <;> first|exact rD|exact kW|assumption
  rw[lC,if_pos ⟨nd,by show 15<17;decide⟩];rfl
 have hr:(mJ (cg 5)) (dA e d (some (.dict (dN (b8 e d) m),false)) t6 t7 t8 (some (.list ((eG e d).map i7),false)) (some (.bool false,false)) yq sj sV (some (.list ((dU m).map fun (n:Nat)=>.int (n:Int)),false)) (eU []) none)=some ((b8 e d).map cG):=by
  show (if dS (dN (b8 e d) m)=true then some ((dN (b8 e d) m).map (·.1)) else none)=_;rw[show dS (dN (b8 e d) m)=true from fL _ _,if_pos rfl];unfold dN ig;rw[bt];rfl
 obtain⟨de,h1,t16,h2⟩:=j4 (g:=gN 16) (b:=jG) (d:=cG) (P:=fun pre ρ=>∃s16,ρ=dA e d (some (.dict (dN (b8 e d) m),false)) t6 t7 t8 (some (.list ((eG e d).map i7),false)) (some (.bool false,false)) yq sj sV (some (.list ((dU m).map fun (n:Nat)=>.int (n:Int)),false)) (eU (ig pre fun t=>.int (kN e d t))) s16) (b8 e d) (b8 e d) [] _ rfl ⟨none,rfl⟩
  (fun pre t post ρ hw zz=>by
   obtain ⟨u16,eq⟩:=zz;have nd:(pre++t::post).Nodup:=hw▸gg e d;have nt:t∉pre:=fun z=>(List.nodup_append.mp nd).2.2 t z t (by simp) rfl;have ht:t∈b8 e d:=hw▸by simp
   have hl:(pre++t::post).length=(b8 e d).length:=by rw[hw]
   rw[aw,aJ] at hl;refine⟨_,_,by rw[eq];rfl,IX ok w s ht (fL _ _) (by unfold ig;rw[ai];omega),some (cG t,false),?_⟩;have ep:ig (pre++[t]) (fun t=>.int (kN e d t))=mB (ig pre fun t=>.int (kN e d t)) (cG t) (.int (kN e d t)):=by
    rw[xj nt];unfold ig;rw[aU];rfl
   rw[ep])
 have fin:(kU 5 (eI (mJ (cg 5)) (gN 16) jG)) (dA e d (some (.dict (dN (b8 e d) m),false)) t6 t7 t8 (some (.list ((eG e d).map i7),false)) (some (.bool false,false)) yq sj sV (some (.list ((dU m).map fun (n:Nat)=>.int (n:Int)),false)) (eU []) none)=some (.next de):=by
  rw[kU,DP (x:=.dict (dN (b8 e d) m)) rfl,eD hr];exact h1
 rw[run,o9,cJ n1,cJ f1,cJ q9,cJ Rf,cJ Uy,cJ kn,cJ U9,cJ fin,h2];rfl
end
end Lw
namespace Td
section
variable {α:Type}[DecidableEq α]{ts:List α}{r:α->α->Prop}
theorem uf (nd:ts.Nodup){pre post:List α}{t:α}(hw:pre++t::post=ts):xv ts r t=(pre.filter (dB ts r)).length<->dB ts r t=true:=by
 have ht:t∈ts:=hw▸by simp
 have sp:fD ts r=pre.filter (dB ts r)++(t::post).filter (dB ts r):=by
  unfold fD;rw[<-bZ,hw]
 constructor
 ·intro h;obtain⟨u,h1,h2,h3⟩:=sC (r:=r) ht;rw[sp,h,aR (aE _),Xr] at h1;have hu:u∈(t::post).filter (dB ts r):=aF h1;obtain⟨TU,TR⟩:=List.mem_filter.mp hu;have le:=oU.mp TR t ht h3.symm;have np:∀x∈t::post,x∉pre:=fun x hx z=>(List.nodup_append.mp (hw▸nd:(pre++t::post).Nodup)).2.2 x z x hx rfl;have i1:ts.idxOf t=pre.length:=by rw[<-hw,WY,if_neg (np t (by simp)),Xk,bJ]
  have i2:ts.idxOf u=(t::post).idxOf u+pre.length:=by rw[<-hw,WY,if_neg (np u TU)]
  have:(t::post).idxOf u=0:=by omega
  rw[List.idxOf_cons] at this;cases e:t==u with
  |true=>rw[eq_of_beq e];exact TR
  |false=>rw[e] at this;simp at this
 ·intro h;refine (qU nd (i:=(pre.filter (dB ts r)).length) ?_).2;rw[sp,aR (aE _),Xr,bO,if_pos h];rfl
end
end Td
namespace Lw
open PySem DL Td
section
variable {e:Sb}{d:Int}
def qx (e:Sb):Prop:=∀d:Int,0<=d->d<e.k2->(b8 e d).length<64/\(eG e d).length<=1000000
noncomputable def fH (e:Sb):D:=.list ((ao e.k2.toNat).map fun (d:Nat)=>.dict (dP e (d:Int)))
theorem rZ (ok:eS e)(sm:kO e)(fw:qx e):f7 [kQ e,kL e,jX e,jM e]=some (fH e,true):=by
 have k0:=ok.w2.lo;have k4:=ok.h4;have hr:(cR (d2 cP (cc 1) (cx (dC (.int 0))))) [some (kQ e,false),some (kL e,false),some (jX e,false),some (jM e,false)]=some ((ao e.k2.toNat).map fun (x:Nat)=>.int (x:Int)):=by
  rw[<-dE];exact dZ (o:=false) (by simp[d2,cc,cx,dC,pY]) ⋯ ⋯
 have c:=fM (it:=cR (d2 cP (cc 1) (cx (dC (.int 0))))) (n:=1) (ix:=[0,1,2,3]) (g:=gN 0) (e:=mL) (ρ:=[some (kQ e,false),some (kL e,false),some (jX e,false),some (jM e,false)]) (d:=fun (x:Nat)=>.int (x:Int)) (β:=fun (d:Nat)=>.dict (dP e (d:Int))) (ao e.k2.toNat) hr (by rw[aB];omega) (fun x hx=>by
  rw[bz] at hx;have f:=fw (x:Int) ⋯ ⋯;exact⟨_,false,rfl,(show _=jo [kQ e,kL e,jX e,jM e,.int (x:Int)] from rfl).trans (zB ok sm f.1 f.2)⟩)
 have run:f7 [kQ e,kL e,jX e,jM e]=(kF [some (kQ e,false),some (kL e,false),some (jX e,false),some (jM e,false)]).bind fQ:=rfl;rw[run,kF,fi,c];rfl
theorem GS {t:Tr}(ok:eS e)(h:B7 e d t):gJ (.dict (dP e d)) (cG t)=some (.int (kN e d t),false):=by
 unfold gJ;dsimp only;rw[show dS (dP e d)=true from fL _ _,kP,if_pos (by rfl)];unfold dP;rw[m6,if_pos ((eM ok).mpr h)];rfl
theorem Mb (e:Sb)(d:Int):GN (.dict (dP e d))=some ((b8 e d).map cG):=by
 show (if dS (dP e d)=true then some ((dP e d).map (·.1)) else none)=_;rw[show dS (dP e d)=true from fL _ _,if_pos rfl];unfold dP ig;rw[bt];rfl
theorem vo (ok:eS e)(hz:(b8 e d).length<64):hV [.dict (dP e d)]=some (.list ((fs e d).map cG),true):=by
 have hr:(mJ (cg 0)) [some (.dict (dP e d),false),some (.list [],true),none]=some ((b8 e d).map cG):=Mb e d;obtain⟨de,h1,s2,h2⟩:=j4 (g:=gN 2) (b:=gu) (d:=cG) (P:=fun pre ρ=>∃s2,ρ=[some (.dict (dP e d),false),some (.list ((pre.filter (dB (b8 e d) (ik e d))).map cG),true),s2]) (b8 e d) (b8 e d) [] _ rfl ⟨none,rfl⟩
  (fun pre t post ρ hw zz=>by
   obtain ⟨u2,eq⟩:=zz;have ht:t∈b8 e d:=hw▸by simp
   have hl:(pre++t::post).length=(b8 e d).length:=by rw[hw]
   rw[aw,aJ] at hl;have lf:=WW (dB (b8 e d) (ik e d)) pre;have fst:=uf (r:=ik e d) (gg e d) hw;have tt:(dH (cx (d2 gJ (cc 0) (cc 2))) [(om,(cx (d1 gn (cc 1))))]) [some (.dict (dP e d),false),some (.list ((pre.filter (dB (b8 e d) (ik e d))).map cG),true),some (cG t,false)]=some (dB (b8 e d) (ik e d) t):=by
    have q1:(d2 gJ (cc 0) (cc 2)) [some (.dict (dP e d),false),some (.list ((pre.filter (dB (b8 e d) (ik e d))).map cG),true),some (cG t,false)]=some (.int (kN e d t),false):=GS ok ((eM ok).mp ht);have q2:(d1 gn (cc 1)) [some (.dict (dP e d),false),some (.list ((pre.filter (dB (b8 e d) (ik e d))).map cG),true),some (cG t,false)]=some (.int ((pre.filter (dB (b8 e d) (ik e d))).length:Int),false):=by
     show some ((PyData.int (((pre.filter (dB (b8 e d) (ik e d))).map cG).length:Int),false):Vl)=_;rw[ai]
    simp only[dH,dR,cx,q1,q2,au,ae,fF];congr 1;rw[Bool.eq_iff_iff,decide_eq_true_eq,<-fst];unfold kN;omega
   refine⟨_,[some (.dict (dP e d),false),some (.list (((pre++[t]).filter (dB (b8 e d) (ik e d))).map cG),true),some (cG t,false)],by rw[eq];rfl,?_,_,rfl⟩;rw[bZ];show gu [some (.dict (dP e d),false),some (.list ((pre.filter (dB (b8 e d) (ik e d))).map cG),true),some (cG t,false)]=_;cases c:dB (b8 e d) (ik e d) t with
   |true =>
    have zH:((pre.filter (dB (b8 e d) (ik e d))).map cG).length<sizeLine:=wZ (by rw[ai];omega);rw[gu,Bf (by rw[tt,c]),bO,if_pos c,List.filter_nil,aU];simp only[gv,cg,lN,aH,aI,ae,zH,if_true,au,bV,aC,bD]
   |false =>
    rw[gu,CY (by rw[tt,c]),bO,if_neg (by rw[c];exact Bool.false_ne_true),List.filter_nil,bw];rfl)
 have run:hV [.dict (dP e d)]=(mz [some (.dict (dP e d),false),none,none]).bind fQ:=rfl;have h0:(cH 1 (cZ cv)) [some (.dict (dP e d),false),none,none]=some (.next [some (.dict (dP e d),false),some (.list [],true),none]):=by simp[cH,cZ,cv,Cp]
 rw[run,mz,cJ h0,cI,eD hr,show fo (gN 2) gu ((b8 e d).map cG) [some (.dict (dP e d),false),some (.list [],true),none]=_ from h1,ae,h2];rfl
end
section
variable {e:Sb}{d:Int}
theorem sG (e:Sb){d:Int}(h0:0<=d)(h1:d<e.k2):cP (fH e) (.int d)=some (.dict (dP e d),false):=by
 unfold fH cP;dsimp only;rw[rJ h0 (d:=.dict (dP e d)) (by rw[ay,ba ⋯,au,show ((d.toNat:Nat):Int)=d by omega])];rfl
noncomputable def Nw (e:Sb):D:=.list ((ao e.k2.toNat).map fun (d:Nat)=>.list ((fs e (d:Int)).map cG))
theorem K1 (e:Sb){d:Int}(h0:0<=d)(h1:d<e.k2):cP (Nw e) (.int d)=some (.list ((fs e d).map cG),false):=by
 unfold Nw cP;dsimp only;rw[rJ h0 (d:=.list ((fs e d).map cG)) (by rw[ay,ba ⋯,au,show ((d.toNat:Nat):Int)=d by omega])];rfl
theorem Bp (e:Sb)(d:Int):(fs e d).length<=(b8 e d).length:=WW _ _
theorem vZ {p:List Nat}(b:Nat)(h:p.length<=4):eQ (cj p) (.tuple [.int (b:Int)])=some (cj (p++[b]),false):=tH (p:=p) (q:=[b]) (by simp;omega)
theorem oq (ok:eS e){t:Tr}(h:B7 e d t):t.2.1.length<=4:=by
 have pk:=fv ok h.c0 h.c1;have:=nV ok.w2 pk.1 pk.2 h.ch;have:=ok.h4;omega
noncomputable def iL (e:Sb)(s3 s4 s5 s6 s7 s8 s9:Option Vl):Sl:=[some (kL e,false),some (fH e,false),some (Nw e,false),s3,s4,s5,s6,s7,s8,s9]
theorem MK (ok:eS e){a:Int×Int}{b:Nat}{acc:List Int}{t:Tr}{s3:Option Vl}(ha:e.cW[b]?=some a)(ht:B7 e a.1 t)(hn:acc.length<1000000) :
  iX (iL e s3 (some (.int (b:Int),false)) (some (cD a,false)) (some (.list (acc.map .int),true)) (some (.int t.1,false)) (some (cj t.2.1,false)) (some (.int t.2.2,false))) =
   some (.next (iL e s3 (some (.int (b:Int),false)) (some (cD a,false)) (some (.list ((acc++[kN e a.2 (JY t [b])]).map .int),true)) (some (.int t.1,false)) (some (cj t.2.1,false)) (some (.int t.2.2,false)))):=by
 have wa:=ok.w2.ok a (aF ha);have sh:=oq ok ht;have pa:=vZ b sh;have x1:=sG e (d:=a.2) ⋯ wa.2.2;have x2:=GS ok (Bl ht ha rfl);have ek:cG (JY t [b])=.tuple [.int t.1,cj (t.2.1++[b]),.int t.2.2]:=rfl;have q1:(dj (b6 (cg 4) cv)) (iL e s3 (some (.int (b:Int),false)) (some (cD a,false)) (some (.list (acc.map .int),true)) (some (.int t.1,false)) (some (cj t.2.1,false)) (some (.int t.2.2,false)))=some (.tuple [.int (b:Int)],false):=by simp[dj,b6,cv,cg,iL,Kt]
 have q2:(dj (b6 (cg 7) (b6 (d2 eQ (cc 8) (cx (dj (b6 (cg 4) cv)))) (b6 (cg 9) cv)))) (iL e s3 (some (.int (b:Int),false)) (some (cD a,false)) (some (.list (acc.map .int),true)) (some (.int t.1,false)) (some (cj t.2.1,false)) (some (.int t.2.2,false)))=some (cG (JY t [b]),false):=by
  rw[ek];exact oh (o:=false) (o':=false) (o'':=false) (by simp[cg,iL]) (by rw[d2,cx,q1];simp[cc,iL,pa]) (by simp[cg,iL])
 have hz:(acc.map PyData.int).length<sizeLine:=wZ (by rw[ai];exact hn);rw[iX,gv,d2,cx,cx,q2];simp only[d2,cc,cx,dC,iL,aH,aI,au,ae,n8,x1,x2,lN,hz,if_true,bV,aU,aC,bD]
theorem MJ (ok:eS e)(fw:qx e){a:Int×Int}{b:Nat}{acc:List (List Int)}{s6 s7 s8 s9:Option Vl}(ha:e.cW[b]?=some a)(hn:acc.length<1000000):∃t6 t7 t8 t9,
  iW (iL e (some (.list (acc.map dI),true)) (some (.int (b:Int),false)) (some (cD a,false)) s6 s7 s8 s9) =
   some (.next (iL e (some (.list ((acc++[rh e (a,b)]).map dI),true)) (some (.int (b:Int),false)) (some (cD a,false)) t6 t7 t8 t9)):=by
 have wa:=ok.w2.ok a (aF ha);have fl:=Bp e a.1;have f1:=(fw a.1 wa.1 ⋯).1;have x0:=K1 e (d:=a.1) wa.1 ⋯;have h0:(cH 6 (cZ cv)) (iL e (some (.list (acc.map dI),true)) (some (.int (b:Int),false)) (some (cD a,false)) s6 s7 s8 s9)=some (.next (iL e (some (.list (acc.map dI),true)) (some (.int (b:Int),false)) (some (cD a,false)) (some (.list (([]:List Int).map .int),true)) s7 s8 s9)):=by simp[cH,cZ,cv,Cp,iL]
 have hr:(dq (gS (d2 cP (cc 2) (cx (d2 cP (cc 5) (cx (dC (.int 0)))))))) (iL e (some (.list (acc.map dI),true)) (some (.int (b:Int),false)) (some (cD a,false)) (some (.list (([]:List Int).map .int),true)) s7 s8 s9)=some ((fs e a.1).map cG):=by
  simp[dq,gS,d2,cc,cx,dC,iL,mW,x0,dM]
 obtain⟨de,h1,t7,t8,t9,h2⟩:=j5 (g:=gT [gN 7,gN 8,gN 9]) (b:=iX) (d:=cG) (f:=fun t=>kN e a.2 (JY t [b])) (P:=fun Kj ρ=>∃s7 s8 s9,ρ=iL e (some (.list (acc.map dI),true)) (some (.int (b:Int),false)) (some (cD a,false)) (some (.list (Kj.map .int),true)) s7 s8 s9) 1000000 (fs e a.1) [] _ ⟨s7,s8,s9,rfl⟩ (by simp;omega)
  (fun t ht Kj ρ ⟨u7,u8,u9,eq⟩ hl=>⟨_,_,by rw[eq];rfl,MK ok ha (Bo ok ht) hl,_,_,_,rfl⟩)
 refine⟨some (.list ((rh e (a,b)).map .int),true),t7,t8,t9,?_⟩;have hz:(acc.map dI).length<sizeLine:=wZ (by rw[ai];exact hn);rw[iW,cJ h0,cI,eD hr,h1,ae,h2,bL];show (gv 3 (d1 dh (cc 6))) (iL e (some (.list (acc.map dI),true)) (some (.int (b:Int),false)) (some (cD a,false)) (some (.list ((rh e (a,b)).map .int),true)) t7 t8 t9)=_;simp only[gv,d1,cc,iL,aH,aI,ae,dh,lN,hz,if_true,au,bV,aU,aC,bD];rfl
theorem tP (ok:eS e)(sm:kO e)(fw:qx e):iw [kL e,fH e]=some (dW (uF e) (mO e),false):=by
 have k0:=ok.w2.lo;have k4:=ok.h4;have run:iw [kL e,fH e]=(lF [some (kL e,false),some (fH e,false),none,none,none,none,none,none,none,none]).bind fQ:=rfl;have hi:(dq (fj 1)) [some (kL e,false),some (fH e,false),none,none,none,none,none,none,none,none]=some ((ao e.k2.toNat).map fun (d:Nat)=>.dict (dP e (d:Int))):=rfl;have c1:=fM (it:=dq (fj 1)) (n:=1) (ix:=[]) (g:=gN 0) (e:=kC) (ρ:=[some (kL e,false),some (fH e,false),none,none,none,none,none,none,none,none]) (d:=fun (d:Nat)=>.dict (dP e (d:Int))) (β:=fun (d:Nat)=>.list ((fs e (d:Int)).map cG)) (ao e.k2.toNat) hi (by rw[aB];omega) (fun x hx=>by
  rw[bz] at hx;have f:=fw (x:Int) ⋯ ⋯;exact⟨_,true,rfl,(show _=hV [.dict (dP e (x:Int))] from rfl).trans (vo ok f.1)⟩)
 have q1:(gc 2 (cH 2 (da (dq (fj 1)) 1 [] (gN 0) f9 kC))) [some (kL e,false),some (fH e,false),none,none,none,none,none,none,none,none]=some (.next (iL e none none none none none none none)):=by
  rw[gc,cH,c1,ae];rfl
 have h0:(cH 3 (cZ cv)) (iL e none none none none none none none)=some (.next (iL e (some (.list (([]:List (List Int)).map dI),true)) none none none none none none)):=by simp[cH,cZ,cv,Cp,iL]
 have hr:(eO (gS (d2 cP (cc 0) (cx (dC (.int 1)))))) (iL e (some (.list (([]:List (List Int)).map dI),true)) none none none none none none)=some (e.cW.zipIdx.map fun p=>.tuple [.int (p.2:Int),cD p.1]):=by
  rw[<-gW];simp[eO,gS,d2,cc,cx,dC,iL,kZ,dM]
 have a2:=sm.a2;obtain⟨de,h1,t4,t5,t6,t7,t8,t9,h2⟩:=j5 (g:=gT [gN 4,gN 5]) (b:=iW) (d:=fun (p:(Int×Int)×Nat)=>.tuple [.int (p.2:Int),cD p.1]) (f:=rh e) (P:=fun acc ρ=>∃s4 s5 s6 s7 s8 s9,ρ=iL e (some (.list (acc.map dI),true)) s4 s5 s6 s7 s8 s9) 1000000 e.cW.zipIdx [] _ ⟨none,none,none,none,none,none,rfl⟩ (by rw[bM];simp;omega)
  (fun p hp acc ρ ⟨u4,u5,u6,u7,u8,u9,eq⟩ hl=>by
   obtain⟨t6,t7,t8,t9,hb⟩:=MJ (s6:=u6) (s7:=u7) (s8:=u8) (s9:=u9) ok fw (List.mem_zipIdx_iff_getElem?.mp hp) hl;exact⟨_,_,by rw[eq];rfl,hb,_,_,t6,t7,t8,t9,rfl⟩)
 have c2:=fM (it:=dq (fj 2)) (n:=1) (ix:=[]) (g:=gN 0) (e:=kB) (ρ:=iL e (some (.list ((mO e).map dI),true)) t4 t5 t6 t7 t8 t9) (d:=fun (d:Nat)=>.list ((fs e (d:Int)).map cG)) (β:=fun (d:Nat)=>.int ((fs e (d:Int)).length:Int)) (ao e.k2.toNat) rfl (by rw[aB];omega) (fun x hx=>⟨_,false,rfl,by
  show some ((PyData.int (((fs e (x:Int)).map cG).length:Int),false):Vl)=_;rw[ai]⟩)
 have q3:(d1 dh (cx (da (dq (fj 2)) 1 [] (gN 0) f9 kB))) (iL e (some (.list ((mO e).map dI),true)) t4 t5 t6 t7 t8 t9)=some (dI (uF e),false):=by
  rw[d1,cx,c2,au,ae];unfold uF dI;rw[bt];rfl
 have q4:(d1 dh (cc 3)) (iL e (some (.list ((mO e).map dI),true)) t4 t5 t6 t7 t8 t9)=some (.tuple ((mO e).map dI),false):=rfl;rw[run,lF,cJ q1,cJ h0,cI,eD hr,h1,ae,h2,bL];show ((fi _) (iL e (some (.list ((mO e).map dI),true)) t4 t5 t6 t7 t8 t9)).bind fQ=_;rw[fi,HB q3 q4];rfl
noncomputable def pI (e:Sb)(s3 s4 s5:Option Vl):Sl:=[some (jX e,false),some (jM e,false),some (fH e,false),s3,s4,s5]
noncomputable def ve (e:Sb)(p:Int×Nat):List Int:=(ao (gI e.rows (p.2:Int)).toNat).map fun (x:Nat)=>kN e p.1 ((p.2:Int),[],(x:Int))
theorem Lq (ok:eS e)(sm:kO e){p:Int×Nat}{acc:List (List Int)}(hp:p∈e.pl.zipIdx)(hn:acc.length<1000000) :
  k8 (pI e (some (.list (acc.map dI),true)) (some (.int (p.2:Int),false)) (some (.int p.1,false)))=some (.next (pI e (some (.list ((acc++[ve e p]).map dI),true)) (some (.int (p.2:Int),false)) (some (.int p.1,false)))):=by
 have zI:e.pl[p.2]?=some p.1:=List.mem_zipIdx_iff_getElem?.mp hp;have l:=ok.s.len;have lb:=ok.b.len;have hl:=(List.getElem?_eq_some_iff.mp zI).1;have pg:gI e.pl (p.2:Int)=p.1:=by
  unfold gI;rw[aQ,av,zI];rfl
 have pk:=fv ok (show 0<=(p.2:Int) by omega) ⋯;rw[pg] at pk;have n0:=mK ok.b.nn (p.2:Int);have n1:=rK (m:=1000) ⋯ sm.rw (p.2:Int);have ix:=rz (xs:=e.rows) (i:=(p.2:Int)) ⋯ ⋯;have x1:=sG e pk.1 pk.2;have hr:(cR (d2 cP (cx (d2 cP (cc 1) (cx (dC (.int 0))))) (cc 4))) (pI e (some (.list (acc.map dI),true)) (some (.int (p.2:Int),false)) (some (.int p.1,false)))=some ((ao (gI e.rows (p.2:Int)).toNat).map fun (x:Nat)=>.int (x:Int)):=by
  rw[<-dE];exact dZ (o:=false) (by simp[pI,d2,cc,cx,dC,wN,ix]) n0 ⋯
 have c:=fM (it:=cR (d2 cP (cx (d2 cP (cc 1) (cx (dC (.int 0))))) (cc 4))) (n:=1) (ix:=[2,5,4]) (g:=gN 0) (e:=jC) (ρ:=pI e (some (.list (acc.map dI),true)) (some (.int (p.2:Int),false)) (some (.int p.1,false))) (d:=fun (x:Nat)=>.int (x:Int)) (β:=fun (x:Nat)=>.int (kN e p.1 ((p.2:Int),[],(x:Int)))) (ao (gI e.rows (p.2:Int)).toNat) hr (by rw[aB];omega) (fun x hx=>by
  rw[bz] at hx;have it:=Ck (e:=e) (c:=(p.2:Int)) (x:=(x:Int)) ⋯ ⋯ ⋯ ⋯;rw[pg] at it;have x2:=GS ok it;refine⟨_,false,rfl,?_⟩;have q0:(dj cv:ED) [some (.int (x:Int),false),some (fH e,false),some (.int p.1,false),some (.int (p.2:Int),false)]=some (.tuple [],false):=by simp[dj,cv,Cp]
  have q2:(dj (b6 (cg 3) (b6 (dj cv) (b6 (cg 0) cv)))) [some (.int (x:Int),false),some (fH e,false),some (.int p.1,false),some (.int (p.2:Int),false)]=some (cG ((p.2:Int),[],(x:Int)),false):=oh (o:=false) (o':=false) (o'':=false) (by simp[cg]) q0 (by simp[cg]);show jC [some (.int (x:Int),false),some (fH e,false),some (.int p.1,false),some (.int (p.2:Int),false)]=_;rw[jC,d2,cx,cx,q2];simp only[d2,cc,aH,aI,ae,au,x1,x2])
 have hz:(acc.map dI).length<sizeLine:=wZ (by rw[ai];exact hn);have q:(d1 dh (cx (da (cR (d2 cP (cx (d2 cP (cc 1) (cx (dC (.int 0))))) (cc 4))) 1 [2,5,4] (gN 0) f9 jC))) (pI e (some (.list (acc.map dI),true)) (some (.int (p.2:Int),false)) (some (.int p.1,false)))=some (dI (ve e p),false):=by
  rw[d1,cx,c,au,ae];unfold ve dI;rw[bt];rfl
 rw[k8,gv,q,ae,lN];simp only[pI,aH,aI,hz,if_true,au,bV,aU,aC,bD]
theorem Fy (ok:eS e):e.pl.zipIdx.map (ve e)=pH e:=by
 have l:=ok.s.len;unfold pH;refine bI fun i=>?_;rw[ay,ay,bS];by_cases hi:i<e.pl.length
 ·rw[aq hi,ba ⋯];have pg:gI e.pl (i:Int)=e.pl[i]:=by
   unfold gI;rw[aQ,av,aq hi];rfl
  show some (ve e (e.pl[i],0+i))=_;rw[bJ,<-pg];rfl
 ·rw[aW ⋯,aW (by rw[aB];omega)];rfl
theorem zy (ok:eS e)(sm:kO e):kH [jX e,jM e,fH e]=some (.tuple ((pH e).map dI),false):=by
 have l:=ok.s.len;have k1:=sm.k1;have run:kH [jX e,jM e,fH e]=(o7 (pI e none none none)).bind fQ:=rfl;have h0:(cH 3 (cZ cv)) (pI e none none none)=some (.next (pI e (some (.list (([]:List (List Int)).map dI),true)) none none)):=by simp[cH,cZ,cv,Cp,pI]
 have hr:(eO (gS (d2 cP (cc 0) (cx (dC (.int 0)))))) (pI e (some (.list (([]:List (List Int)).map dI),true)) none none)=some (e.pl.zipIdx.map fun p=>.tuple [.int (p.2:Int),.int p.1]):=by
  rw[<-gW];simp[eO,gS,d2,cc,cx,dC,pI,td,FL]
 obtain⟨de,h1,t4,t5,h2⟩:=j5 (g:=gT [gN 4,gN 5]) (b:=k8) (d:=fun (p:Int×Nat)=>.tuple [.int (p.2:Int),.int p.1]) (f:=ve e) (P:=fun acc ρ=>∃s4 s5,ρ=pI e (some (.list (acc.map dI),true)) s4 s5) 1000000 e.pl.zipIdx [] _ ⟨none,none,rfl⟩ (by rw[bM];simp;omega)
  (fun p hp acc ρ ⟨u4,u5,eq⟩ hl=>⟨_,_,by rw[eq];rfl,Lq ok sm hp hl,_,_,rfl⟩)
 rw[run,o7,cJ h0,cI,eD hr,h1,ae,h2,bL,Fy ok];rfl
end
noncomputable def HE (ar:Ar):Nat->Int->Int->Nat
 |0,_,_=>0
 |n+1,a,b=>(if a=b then 1 else 0)+(ar.map fun p=>if p.1=a then HE ar n p.2 b else 0).sum
noncomputable def LN:Ar:=[(0,1),(0,2),(0,3),(1,2),(1,3),(2,3)]
noncomputable def EZ:Nat->List Ar
 |0=>[[]]
 |n+1=>[]::(EZ n).flatMap fun r=>LN.map fun p=>p::r
noncomputable def Qs:List Int:=[0,1,2,3]
noncomputable def Oy:Bool:=(EZ 4).all fun ar=>Qs.all fun a=>Qs.all fun b=>decide (HE ar 4 a b<=4)
theorem LS:Oy=true:=by decide +kernel
theorem LM {p:Int×Int}(h0:0<=p.1)(h1:p.1<p.2)(h2:p.2<4):p∈LN:=by
 obtain⟨a,b⟩:=p;dsimp only at h0 h1 h2;have:(a=0/\b=1)\/(a=0/\b=2)\/(a=0/\b=3)\/(a=1/\b=2)\/(a=1/\b=3)\/(a=2/\b=3):=by omega
 rcases this with ⟨rfl,rfl⟩|⟨rfl,rfl⟩|⟨rfl,rfl⟩|⟨rfl,rfl⟩|⟨rfl,rfl⟩|⟨rfl,rfl⟩ <;> simp[LN]
theorem HP:∀(n:Nat) (ar:Ar),ar.length<=n->(∀p∈ar,0<=p.1/\p.1<p.2/\p.2<4)->ar∈EZ n
 |0,[],_,_=>by simp[EZ]
 |0,p::ar,h,_=>by simp at h
 |n+1,[],_,_=>by simp[EZ]
 | n+1,p::ar,h,w=>by
  rw[EZ,bj];have wp:=w p (by simp);exact .inr (List.mem_flatMap.mpr ⟨ar,HP n ar (by simpa using h) fun q hq=>w q (by simp[hq]),List.mem_map.mpr ⟨p,LM wp.1 wp.2.1 wp.2.2,rfl⟩⟩)
noncomputable def K7 (ar:Ar):Nat->Int->Int->List (List Nat)
 |0,_,_=>[]
 |n+1,a,b=>(if a=b then [[]] else [])++ar.zipIdx.flatMap fun p=>if p.1.1=a then (K7 ar n p.1.2 b).map fun q=>p.2::q else []
theorem Dm (ar:Ar):∀(n:Nat) (a b:Int),(K7 ar n a b).length=HE ar n a b
 |0,_,_=>rfl
 | n+1,a,b=>by
  have go:∀(l:Ar) (s:Nat),((l.zipIdx s).flatMap fun p=>if p.1.1=a then (K7 ar n p.1.2 b).map fun q=>p.2::q else []).length=(l.map fun p=>if p.1=a then HE ar n p.2 b else 0).sum:=fun l=>by
   induction l with
   |nil=>intro s;rfl
   |cons p l ih =>
    intro s;rw[W3,bP,aw,ih,aC,List.sum_cons];congr 1;dsimp only;split
    ·rw[ai,Dm ar n]
    ·rfl
  rw[K7,HE,aw,go];congr 1;split <;> rfl
theorem K6 {ar:Ar}:∀(n:Nat) (p:List Nat) (a b:Int),p.length<n->eK ar a p->du ar a p=b->p∈K7 ar n a b
 |0,_,_,_,h,_,_=>by omega
 | n+1,[],a,b,_,_,e=>by
  rw[nq] at e;subst e;rw[K7,if_pos rfl];simp
 | n+1,i::p,a,b,h,⟨c,g1,g2,g3⟩,e=>by
  rw[gX g1] at e;rw[K7,List.mem_append];refine .inr (List.mem_flatMap.mpr ⟨(c,i),List.mem_zipIdx_iff_getElem?.mpr g1,?_⟩);dsimp only;rw[if_pos g2];exact List.mem_map.mpr ⟨p,K6 n p c.2 b (by simpa using h) g3 e,rfl⟩
theorem Cq {α:Type}[DecidableEq α]:∀{l l':List α},l.Nodup->(∀x∈l,x∈l')->l.length<=l'.length
 |[],_,_,_=>bB _
 | a::l,l',n,h=>by
  rw[List.nodup_cons] at n;have ha:=h a (by simp);have:=Cq (l:=l) (l':=l'.erase a) n.2 fun x hx=>(List.mem_erase_of_ne (fun (z:x=a)=>n.1 (z▸hx))).mpr (h x (by simp[hx]));rw[List.length_erase_of_mem ha] at this;have:=List.length_pos_of_mem ha;rw[aJ];omega
theorem z9 {k:Int}{ar:Ar}(w:Wf k ar)(h4:k<=4)(ha:ar.length<=4){kind other:Int}(h0:0<=kind)(h1:kind<k):(fu k ar kind other).length<=4:=by
 by_cases ho:0<=other/\other<4
 ·have l:=Cq (l:=fu k ar kind other) (l':=K7 ar 4 kind other) pA fun p hp=>by
   obtain⟨c,e⟩:=(jK w h4 h0 h1).mp hp;have:=nV w h0 h1 c;exact K6 4 p kind other ⋯ c e
  rw[Dm] at l;have m:=HP 4 ar ha fun p hp=>by
   have:=w.ok p hp;omega
  have q:=List.all_eq_true.mp LS ar m;have Nh:∀{x:Int},0<=x->x<4->x∈Qs:=fun {x} x0 x1=>by
   have:x=0\/x=1\/x=2\/x=3:=by omega
   rcases this with rfl|rfl|rfl|rfl <;> simp[Qs]
  have q:=List.all_eq_true.mp (List.all_eq_true.mp q kind (Nh h0 ⋯)) other (Nh ho.1 ho.2);have:=of_decide_eq_true q;omega
 ·have:fu k ar kind other=[]:=by
   refine List.eq_nil_iff_forall_not_mem.mpr fun p hp=>ho ?_;obtain⟨c,e⟩:=(jK w h4 h0 h1).mp hp;have a:=qo w p kind c;have b:=qp w p kind c h1;omega
  rw[this];exact bB _
theorem qd {α β:Type}{f:α->List β}{m:Nat}:∀{l:List α},(∀x∈l,(f x).length<=m)->(l.flatMap f).length<=l.length*m
 |[],_=>by simp
 | x::l,h=>by
  have a:=h x (by simp);have b:=qd (l:=l) (f:=f) (m:=m) fun y hy=>h y (by simp[hy]);rw[bP,aw,aJ,Nat.succ_mul];omega
theorem Mz {e:Sb}(ok:eS e)(k3:e.k1<=3)(a1:e.qu.length<=5)(a2:e.cW.length<=4)(r4:∀r∈e.rows,r<=4):qx e:=by
 intro d d0 d1;have rl:∀c:Int,(gI e.rows c).toNat<=4:=fun c=>by
  have:=rK (m:=4) ⋯ r4 c;omega
 constructor
 ·have h:(b8 e d).length<=(ao e.k1.toNat).length*16:=by
   unfold b8;refine qd fun c hc=>?_;rw[bz] at hc;have pk:=fv ok (c:=(c:Int)) ⋯ ⋯;refine bK (qd (m:=4) fun p _=>?_) ?_
   ·rw[ai,aB];exact rl _
   ·have:=z9 ok.w2 ok.h4 a2 (other:=d) pk.1 pk.2;omega
  rw[aB] at h;omega
 ·have h:(eG e d).length<=e.qu.zipIdx.length*16:=by
   unfold eG;refine qd fun p hp=>?_;have ha:=List.mem_zipIdx_iff_getElem?.mp hp;have wa:=ok.w1.ok p.1 (aF ha);have pk:=fv ok (c:=p.1.2) ⋯ wa.2.2;refine bK (qd (m:=4) fun q _=>?_) ?_
   ·rw[ai,aB];exact rl _
   ·have:=z9 ok.w2 ok.h4 a2 (other:=d) pk.1 pk.2;omega
  rw[bM] at h;omega
end Lw
namespace Td
structure Uf (n:Nat)(h:List Nat):Prop where
 len:h.length=n
 le:∀i<n,mark h i<=i
inductive Rt (h:List Nat):Nat->Nat->Prop where
 |here {i:Nat}:mark h i=i->Rt h i i
 |up {i r:Nat}:mark h i≠i->Rt h (mark h i) r->Rt h i r
theorem Rt.one {h:List Nat}{i r s:Nat}(a:Rt h i r)(b:Rt h i s):r=s:=by
 induction a with
 |here e =>
  cases b with
  |here _=>rfl
  |up ne _=>exact absurd e ne
 |up ne _ ih =>
  cases b with
  |here e=>exact absurd e ne
  |up _ b=>exact ih b
theorem Rt.fix {h:List Nat}{i r:Nat}(a:Rt h i r):mark h r=r:=by
 induction a with
 |here e=>exact e
 |up _ _ ih=>exact ih
section
variable {n:Nat}{h:List Nat}
theorem Uf.has (u:Uf n h):∀i<n,∃r,Rt h i r/\r<=i:=by
 intro i;induction i using Nat.strongRecOn with
 |_ i ih =>
  intro hi;by_cases e:mark h i=i
  ·exact⟨i,.here e,aE _⟩
  ·have l:=u.le i hi;obtain⟨r,a,b⟩:=ih (mark h i) ⋯ ⋯;exact⟨r,.up e a,by omega⟩
theorem Uf.CS (u:Uf n h){i r:Nat}(hi:i<n)(a:Rt h i r):r<=i:=by
 obtain⟨s,b,l⟩:=u.has i hi;rw[a.one b];exact l
theorem Uf.range (n:Nat):Uf n (ao n):=⟨aB,fun i hi=>by
 unfold mark;rw[av,ba hi];exact aE _⟩
theorem Uf.half (u:Uf n h){s:Nat}(hs:s<n)(ne:mark h s≠s):Uf n (h.set s (mark h (mark h s)))/\∀i r,Rt h i r->Rt (h.set s (mark h (mark h s))) i r:=by
 have l:=u.le s hs;have l2:=u.le (mark h s) ⋯;have hl:s<h.length:=by rw[u.len];exact hs
 refine⟨⟨by rw[aX];exact u.len,fun i hi=>?_⟩,fun i r a=>?_⟩
 ·rw[eV hl];split
  ·omega
  ·exact u.le i hi
 ·induction a with
  |@here i e =>
   refine .here ?_;rw[eV hl,if_neg (fun z=>ne (by rw[<-z];exact e))];exact e
  |@up i r ne' a ih =>
   by_cases z:i=s
   ·subst z;have e:mark (h.set i (mark h (mark h i))) i=mark h (mark h i):=by rw[eV hl,if_pos rfl]
    have ep:mark (h.set i (mark h (mark h i))) (mark h i)=mark h (mark h i):=by rw[eV hl,if_neg ne]
    refine .up (by rw[e];omega) ?_;rw[e];generalize hg:mark h (mark h i)=g at *;cases ih with
    |here q=>rw[ep] at q;subst q;exact .here ep
    |up _ b=>rw[ep] at b;exact b
   ·have e:mark (h.set s (mark h (mark h s))) i=mark h i:=by rw[eV hl,if_neg z]
    exact .up (by rw[e];exact ne') (by rw[e];exact ih)
theorem Uf.tie (u:Uf n h){p q:Nat}(hp:p<n)(hq:q<n)(fp:mark h p=p)(fq:mark h q=q):Uf n (h.set (max p q) (min p q))/\∀i r,Rt h i r->Rt (h.set (max p q) (min p q)) i (if r=max p q then min p q else r):=by
 have hm:max p q<h.length:=by rw[u.len];omega
 have fm:mark h (max p q)=max p q:=by rcases Xs p q with z|z <;> simp[z,fp,fq]
 have fn:mark h (min p q)=min p q:=by rcases Xs p q with z|z <;> simp[z,fp,fq]
 refine⟨⟨by rw[aX];exact u.len,fun i hi=>?_⟩,fun i r a=>?_⟩
 ·rw[eV hm];split
  ·omega
  ·exact u.le i hi
 ·induction a with
  |@here i e =>
   by_cases z:i=max p q
   ·rw[if_pos z];have e2:mark (h.set (max p q) (min p q)) i=min p q:=by rw[eV hm,if_pos z]
    by_cases y:min p q=max p q
    ·have:i=min p q:=by omega
     rw[this] at e2 ⊢;exact .here e2
    ·refine .up (by rw[e2];omega) ?_;rw[e2];refine .here ?_;rw[eV hm,if_neg y];exact fn
   ·rw[if_neg z];refine .here ?_;rw[eV hm,if_neg z];exact e
  |@up i r ne a ih =>
   have z:i≠max p q:=fun z=>ne (by rw[z];exact fm);have e:mark (h.set (max p q) (min p q)) i=mark h i:=by rw[eV hm,if_neg z]
   exact .up (by rw[e];exact ne) (by rw[e];exact ih)
end
structure wV (its done:iY)(n:Nat)(h:List Nat):Prop where
 u:Uf n h
 cn:∀i<n,∀r,Rt h i r->i9 its i r
 dn:∀p∈done,∃r,Rt h p.1 r/\Rt h p.2 r
theorem wV.start (its:iY)(n:Nat):wV its [] n (ao n):=by
 refine⟨.range n,fun i hi r a=>?_,fun p hp=>nomatch hp⟩;have e:mark (ao n) i=i:=by
  unfold mark;rw[av,ba hi];rfl
 cases a with
 |here _=>exact .refl _
 |up ne _=>exact absurd e ne
theorem wV.same {its done:iY}{n:Nat}{h h':List Nat}(t:wV its done n h)(pD:∀p∈done,p.1<n/\p.2<n)(u:Uf n h')(k:∀i r,Rt h i r->Rt h' i r):wV its done n h':=by
 refine⟨u,fun i hi r a=>?_,fun p hp=>?_⟩
 ·obtain⟨s,b,_⟩:=t.u.has i hi;rw[a.one (k i s b)];exact t.cn i hi s b
 ·obtain⟨r,a,b⟩:=t.dn p hp;exact⟨r,k _ _ a,k _ _ b⟩
theorem wV.tie {its done:iY}{n:Nat}{h:List Nat}(t:wV its done n h){a b p q:Nat}(hm:(a,b)∈its)(ha:a<n)(hb:b<n)(ra:Rt h a p)(rb:Rt h b q):wV its (done++[(a,b)]) n (h.set (max p q) (min p q)):=by
 have lp:=t.u.CS ha ra;have lq:=t.u.CS hb rb;obtain⟨u',k⟩:=t.u.tie (p:=p) (q:=q) ⋯ ⋯ ra.fix rb.fix;refine⟨u',fun i hi r c=>?_,fun x hx=>?_⟩
 ·obtain⟨s,d,_⟩:=t.u.has i hi;rw[c.one (k i s d)];have cs:=t.cn i hi s d;split
  ·rename_i z;subst z;have Uo:i9 its p q:=((t.cn a ha p ra).symm.trans (.one hm)).trans (t.cn b hb q rb);rcases Xs p q with z|z
   ·rw[Nat.max_eq_right z] at cs;rw[W7 z];exact cs.trans Uo.symm
   ·rw[Nat.max_eq_left z] at cs;rw[Nat.min_eq_right z];exact cs.trans Uo
  ·exact cs
 ·rcases List.mem_append.mp hx with z|z
  ·obtain⟨r,c,d⟩:=t.dn x z;exact⟨_,k _ _ c,k _ _ d⟩
  ·have z':=List.mem_singleton.mp z;subst z';refine⟨min p q,?_,?_⟩
   ·have:=k _ _ ra;split at this
    ·exact this
    ·rename_i y;rcases Xs p q with w|w
     ·have e:=W7 w;generalize min p q=x at *;subst e;exact this
     ·exact absurd (Nat.max_eq_left w).symm y
   ·have:=k _ _ rb;split at this
    ·exact this
    ·rename_i y;rcases Xs p q with w|w
     ·exact absurd (Nat.max_eq_right w).symm y
     ·have e:=Nat.min_eq_right w;generalize min p q=x at *;subst e;exact this
noncomputable def yT:Nat->List Nat->Nat->Nat
 |0,_,i=>i
 |f+1,h,i=>if mark h i=i then i else yT f h (mark h i)
theorem yS {n:Nat}{h:List Nat}(u:Uf n h):∀(f i:Nat),i<n->i<f->Rt h i (yT f h i)
 |0,_,_,hf=>by omega
 | f+1,i,hi,hf=>by
  unfold yT;split
  ·rename_i e;exact .here e
  ·rename_i ne;have l:=u.le i hi;exact .up ne (yS u f (mark h i) ⋯ ⋯)
noncomputable def fJ (n:Nat)(h:List Nat):List Nat:=(ao n).map fun i=>yT n h i
theorem DY {n:Nat}(h:List Nat){i:Nat}(hi:i<n):mark (fJ n h) i=yT n h i:=by
 unfold mark fJ;rw[av,ay,ba hi];rfl
theorem Rt.mark {n:Nat}{h:List Nat}(u:Uf n h){i r:Nat}(hi:i<n)(a:Rt h i r):Td.mark (fJ n h) i=r:=by
 rw[DY h hi];exact (yS u n i hi hi).one a
theorem wV.way {its:iY}{n:Nat}{h:List Nat}(t:wV its its n h)(pD:∀p∈its,p.1<n/\p.2<n):qv its n (fJ n h)/\fX its (fJ n h):=by
 refine⟨⟨by unfold fJ;rw[ai,aB],fun i hi=>?_,fun i hi=>?_⟩,fun p hp=>?_⟩
 ·obtain⟨r,a,_⟩:=t.u.has i hi;rw[a.mark t.u hi];exact t.cn i hi r a
 ·obtain⟨r,a,l⟩:=t.u.has i hi;rw[a.mark t.u hi];exact l
 ·obtain⟨r,a,b⟩:=t.dn p hp;rw[a.mark t.u (pD p hp).1,b.mark t.u (pD p hp).2]
end Td
namespace Lw
open PySem DL
theorem wC {k kind:Int}{ar:Ar}{p:List Nat}(h:i4 ar p):gp [cp k ar,.int kind,cj p]=some (.int (du ar kind p),false):=by
 rcases List.eq_nil_or_concat p with rfl|⟨q,i,rfl⟩
 ·simp[gp,lR,fQ,ux,cI,kK,dH,dR,cx,cc,d1,gn,cj,dC,fF,fi,cg,du]
 ·have hi:i<ar.length:=h i (by simp);have e1:gn (cj (q++[i]))=some (.int ((q.length+1:Nat):Int),false):=by simp[gn,cj]
  have e2:cP (cj (q++[i])) (.int (-1))=some (.int (i:Int),false):=by
   simp only[cj,cP,aU,aC,bD,Kg];rfl
  have e3:cP (.tuple (ar.map cD)) (.int (i:Int))=some (cD (ar.getD i (0,0)),false):=by
   simp only[cP,P7 hi];rfl
  have n0:¬((q.length+1:Nat):Int)=0:=by omega
  have Rq:LZ (.int 1)=some (.int (-1),false):=rfl;rw[List.concat_eq_append,qW];simp only[gp,lR,aJ,WO,if_true,aC,bD,aK,W4,bL,ux,cI,kK,dH,dR,cx,cc,d1,d2,dC,aI,aH,ae,au,e1,fF,n0,decide_false,Bool.false_eq_true,if_false,gH,cH,kZ,Rq,e2,e3,bV,fi,n8,fQ]
theorem CQ {p:List Nat}{e:Int}(hp:p.length+1<=1000000):∀(r:Ar) (s:Nat) , jE (gT [gN 0,gN 1]) (dH (cx (d2 cP (cc 1) (cx (dC (.int 0))))) [(om,cc 3)]) ir [none,none,some (cj p,false),some (.int e,false)] (fG s (r.map cD))=some ((i8 e p s r).map cj)
 |[],s=>rfl
 | a::r,s=>by
  have ih:=CQ (e:=e) hp r (s+1);have hz:(p.map tU).length+1<=sizeLine:=Aj (by rw[ai];exact hp);have el:ir [some (.int (s:Int),false),some (cD a,false),some (cj p,false),some (.int e,false)]=some (cj (p++[s]),false):=by
   simp only[ai] at hz;simp[ir,d2,cc,cx,dj,b6,cv,cg,Kt,cj,eQ,hz,tU]
  rw[aC,fG,jE,ih];by_cases h:a.1=e
  ·simp[gT,pX,gN,dH,dR,cx,d2,cc,dC,mW,fF,h,el,i8]
  ·simp[gT,pX,gN,dH,dR,cx,d2,cc,dC,mW,fF,h,i8]
theorem JA {k kind:Int}{ar:Ar}{rs:D}{p:List Nat}{g:List (List Nat)}{y:Option Vl}(hp:i4 ar p)(hl:p.length+1<=1000000)(ha:ar.length<=1000)(hg:g.length+ar.length<=1000000) :
  gr [some (cp k ar,false),some (.int kind,false),some (rs,false),some (.list (g.map cj),true),some (cj p,false),y] =
   some (.next [some (cp k ar,false),some (.int kind,false),some (rs,false),some (.list ((g++i8 (du ar kind p) p 0 ar).map cj),true),some (cj p,false),some (.int (du ar kind p),false)]):=by
 have e1:=wC (k:=k) (kind:=kind) hp;have e2:=CQ (p:=p) (e:=du ar kind p) hl ar 0;have hz:(fG 0 (ar.map cD)).length<=sizeLine:=Aj (by rw[qg,ai];omega);have hx:=nh (du ar kind p) p ar 0;have zH:(g.map cj).length+((i8 (du ar kind p) p 0 ar).map cj).length<=sizeLine:=Aj (by rw[ai,ai];omega);have hc:(da (eO (gS (d2 cP (cc 0) (cx (dC (.int 1)))))) 2 [4,5] (gT [gN 0,gN 1]) (dH (cx (d2 cP (cc 1) (cx (dC (.int 0))))) [(om,cc 3)]) ir)
   [some (cp k ar,false),some (.int kind,false),some (rs,false),some (.list (g.map cj),true),some (cj p,false),some (.int (du ar kind p),false)]=some (.list ((i8 (du ar kind p) p 0 ar).map cj),true):=by
  have hi:(eO (gS (d2 cP (cc 0) (cx (dC (.int 1)))))) [some (cp k ar,false),some (.int kind,false),some (rs,false),some (.list (g.map cj),true),some (cj p,false),some (.int (du ar kind p),false)]=some (fG 0 (ar.map cD)):=by
   simp[eO,gS,d2,cc,cx,dC,kZ,dM]
  rw[da,hi,ae,if_pos hz];have G6:fI 2 [4,5] [some (cp k ar,false),some (.int kind,false),some (rs,false),some (.list (g.map cj),true),some (cj p,false),some (.int (du ar kind p),false)]=[none,none,some (cj p,false),some (.int (du ar kind p),false)]:=by simp[fI]
  rw[G6,e2];rfl
 have s1:(cH 5 (cF gp (b6 (cg 0) (b6 (cg 1) (b6 (cg 4) cv))))) [some (cp k ar,false),some (.int kind,false),some (rs,false),some (.list (g.map cj),true),some (cj p,false),y] =
   some (.next [some (cp k ar,false),some (.int kind,false),some (rs,false),some (.list (g.map cj),true),some (cj p,false),some (.int (du ar kind p),false)]):=by
  simp[cH,cF,b6,cv,cg,e1]
 rw[gr,cI,s1,ae];dsimp only;rw[xc,hc,ae];dsimp only;simp only[lN,aH,aI,zH,if_true,au,bV,aU]
theorem CP {k kind:Int}{ar:Ar}{rs:D}(ha:ar.length<=1000):∀(r g:List (List Nat)) (x y:Option Vl),(∀p∈r,i4 ar p)->(∀p∈r,p.length+1<=1000000)->g.length+ar.length*r.length<=1000000->∃x' y',
  fo (gN 4) gr (r.map cj) [some (cp k ar,false),some (.int kind,false),some (rs,false),some (.list (g.map cj),true),x,y] =
   some (.next [some (cp k ar,false),some (.int kind,false),some (rs,false),some (.list ((g++step ar kind r).map cj),true),x',y'])
 |[],g,x,y,_,_,_=>⟨x,y,by simp[fo,step]⟩
 | p::r,g,x,y,fT,hl,hz=>by
  rw[aJ,Nat.mul_succ] at hz;have hx:=nh (du ar kind p) p ar 0;obtain⟨x',y',e⟩:=CP (rs:=rs) (k:=k) (kind:=kind) ha r (g++i8 (du ar kind p) p 0 ar) (some (cj p,false)) (some (.int (du ar kind p),false)) (fun q hq=>fT q (by simp[hq])) (fun q hq=>hl q (by simp[hq])) (by rw[aw];omega);refine⟨x',y',?_⟩;rw[aC,fo];simp only[gN,bV,ae];rw[JA (fT p (by simp)) (hl p (by simp)) ha ⋯,ae];dsimp only;rw[e,bg];rfl
theorem vn {k kind:Int}{ar:Ar}{r:List (List Nat)}(ha:ar.length<=1000)(fT:∀p∈r,i4 ar p)(hl:∀p∈r,p.length+1<=1000000)(hz:ar.length*r.length<=1000000) :
  i5 [cp k ar,.int kind,.list (r.map cj)]=some (.list ((step ar kind r).map cj),true):=by
 obtain⟨x,y,e⟩:=CP (rs:=.list (r.map cj)) (k:=k) (kind:=kind) ha r [] none none fT hl (by simpa using hz);have run:i5 [cp k ar,.int kind,.list (r.map cj)]=(my [some (cp k ar,false),some (.int kind,false),some (.list (r.map cj),false),none,none,none]).bind fQ:=rfl;rw[run];unfold my;have s1:(cH 3 (cZ cv)) [some (cp k ar,false),some (.int kind,false),some (.list (r.map cj),false),none,none,none]=some (.next [some (cp k ar,false),some (.int kind,false),some (.list (r.map cj),false),some (.list [],true),none,none]):=by
  simp[cH,cZ,cv]
 rw[cI,s1,ae];dsimp only;have s2:(eI (dq (fj 2)) (gN 4) gr) [some (cp k ar,false),some (.int kind,false),some (.list (r.map cj),false),some (.list [],true),none,none]=fo (gN 4) gr (r.map cj) [some (cp k ar,false),some (.int kind,false),some (.list (r.map cj),false),some (.list [],true),none,none]:=by
  simp[eI,dq,fj]
 rw[cI,s2];rw[bD] at e;rw[e,ae];simp[ko,fQ]
theorem C3 {k kind other:Int}{ar:Ar}:∀r:List (List Nat),(∀p∈r,i4 ar p)->jE (gN 0) (dH (cx (cF gp (b6 (cg 2) (b6 (cg 3) (b6 (cg 0) cv))))) [(om,(cc 1))]) lS [none,some (.int other,false),some (cp k ar,false),some (.int kind,false)] (r.map cj)=some ((gC ar kind other r).map cj)
 |[],_=>rfl
 | p::r,h=>by
  have ih:=C3 (k:=k) (kind:=kind) (other:=other) r fun q hq=>h q (by simp[hq]);have e1:=wC (k:=k) (kind:=kind) (h p (by simp));rw[aC,jE,ih];by_cases he:du ar kind p=other
  ·simp[gN,dH,dR,cx,cF,b6,cv,cg,cc,e1,fF,he,lS,gC]
  ·simp[gN,dH,dR,cx,cF,b6,cv,cg,cc,e1,fF,he,lS,gC]
theorem D7 {k kind other:Int}{ar:Ar}{r f:List (List Nat)}(ha:ar.length<=1000)(fT:∀p∈r,i4 ar p)(hl:∀p∈r,p.length+1<=1000000)(hz:ar.length*r.length<=1000000)(hr:r.length+f.length<=1000000) :
  qt [some (cp k ar,false),some (.int kind,false),some (.int other,false),some (.list (f.map cj),true),some (.list (r.map cj),false)] =
   some (.next [some (cp k ar,false),some (.int kind,false),some (.int other,false),some (.list ((f++gC ar kind other r).map cj),true),some (.list ((step ar kind r).map cj),false)]):=by
 have e1:=C3 (k:=k) (kind:=kind) (other:=other) r fT;have e2:=vn (k:=k) (kind:=kind) ha fT hl hz;have hh:=sD ar kind other r;have xM:(r.map cj).length<=sizeLine:=Aj (by rw[ai];omega);have zH:(f.map cj).length+((gC ar kind other r).map cj).length<=sizeLine:=Aj (by rw[ai,ai];omega);have hc:(da (dq (fj 4)) 1 [2,0,1] (gN 0) (dH (cx (cF gp (b6 (cg 2) (b6 (cg 3) (b6 (cg 0) cv))))) [(om,(cc 1))]) lS)
   [some (cp k ar,false),some (.int kind,false),some (.int other,false),some (.list (f.map cj),true),some (.list (r.map cj),false)]=some (.list ((gC ar kind other r).map cj),true):=by
  have hi:(dq (fj 4)) [some (cp k ar,false),some (.int kind,false),some (.int other,false),some (.list (f.map cj),true),some (.list (r.map cj),false)]=some (r.map cj):=by simp[dq,fj]
  rw[da,hi,ae,if_pos xM];have G6:fI 1 [2,0,1] [some (cp k ar,false),some (.int kind,false),some (.int other,false),some (.list (f.map cj),true),some (.list (r.map cj),false)]=[none,some (.int other,false),some (cp k ar,false),some (.int kind,false)]:=by simp[fI]
  rw[G6,e1];rfl
 have s1:(xc 3 (da (dq (fj 4)) 1 [2,0,1] (gN 0) (dH (cx (cF gp (b6 (cg 2) (b6 (cg 3) (b6 (cg 0) cv))))) [(om,(cc 1))]) lS))
   [some (cp k ar,false),some (.int kind,false),some (.int other,false),some (.list (f.map cj),true),some (.list (r.map cj),false)] =
   some (.next [some (cp k ar,false),some (.int kind,false),some (.int other,false),some (.list ((f++gC ar kind other r).map cj),true),some (.list (r.map cj),false)]):=by
  rw[xc,hc,ae];dsimp only;simp only[lN,aH,aI,zH,if_true,au,bV,aU]
 rw[qt,cI,s1,ae];dsimp only;simp[gc,cH,cF,b6,cv,cg,e2,share]
theorem vY {k kind other:Int}{ar:Ar}(ha:ar.length<=5):∀(m:Nat) (r f:List (List Nat)),lay ar kind m r=[]->(∀p∈r,i4 ar p)->(∀p∈r,p.length+m<=1000)->r.length*6 ^ m+f.length<=100000 →
  eL pJ qt (m+1) [some (cp k ar,false),some (.int kind,false),some (.int other,false),some (.list (f.map cj),true),some (.list (r.map cj),false)] =
   some (.next [some (cp k ar,false),some (.int kind,false),some (.int other,false),some (.list ((run ar kind other m r f).map cj),true),some (.list [],false)])
 | m,r,f,hl,fT,hs,hz=>by
  have ht:pJ [some (cp k ar,false),some (.int kind,false),some (.int other,false),some (.list (f.map cj),true),some (.list (r.map cj),false)]=some (decide (0<r.length)):=by
   have:(0<(r.length:Int))<->0<r.length:=by omega
   simp only[pJ,dH,dR,cx,d1,cc,aH,aI,ae,gn,au,dC,Ik,ai,this]
  rw[eL,ht,ae];by_cases hr:r=[]
  ·subst hr;rw[if_neg (by simp),xg];rfl
  ·have h0:0<r.length:=List.length_pos_iff.mpr hr;rw[if_pos (decide_eq_true h0)];cases m with
   |zero=>exact absurd hl hr
   |succ m =>
    obtain⟨p0,RX⟩:=Xu r hr;have Nm:=hs p0 RX;have GY:=sZ ar kind r;have hh:=sD ar kind other r;have hp:1<=6 ^ m:=Nat.one_le_pow _ _ (by decide);have q1:r.length<=r.length*6 ^ m:=Nat.le_mul_of_pos_right _ ⋯;have q2:ar.length*r.length<=5*r.length:=Xj _ ha;have q3:(step ar kind r).length*6 ^ m<=(5*r.length)*6 ^ m:=Xj _ ⋯;rw[Nat.pow_succ,<-Nat.mul_assoc] at hz;have q4:5*r.length*6 ^ m=5*(r.length*6 ^ m):=Nat.mul_assoc ..;rw[D7 ⋯ fT (fun p hp=>by have:=hs p hp;omega) ⋯ ⋯,ae];exact vY ha m (step ar kind r) (f++gC ar kind other r) hl (Ct fT) (fun q hq=>by have:=sY (b:=1000-m) (fun p hp=>by have:=hs p hp;omega) q hq;omega) (by rw[aw];omega)
theorem Gd {k kind other:Int}{ar:Ar}(w:Wf k ar)(h4:k<=4)(ha:ar.length<=5)(hk:0<=kind)(Ic:kind<k):nX [cp k ar,.int kind,.int other]=some (.list ((fu k ar kind other).map cj),true):=by
 have hp:=vX (m:=k.toNat) ⋯;have e:=vY (k:=k) (kind:=kind) (other:=other) ha k.toNat [[]] [] (xD w _ _ (vN hk Ic)) (fun p hp i hi=>by cases List.mem_singleton.mp hp;cases hi) (fun p hp=>by cases List.mem_singleton.mp hp;simp;omega) (by simp;omega);have rn:nX [cp k ar,.int kind,.int other]=(x9 [some (cp k ar,false),some (.int kind,false),some (.int other,false),none,none]).bind fQ:=rfl;rw[rn];unfold x9;have s1:(cH 3 (cZ cv)) [some (cp k ar,false),some (.int kind,false),some (.int other,false),none,none]=some (.next [some (cp k ar,false),some (.int kind,false),some (.int other,false),some (.list [],true),none]):=by
  simp[cH,cZ,cv]
 have s2:(gc 4 (cH 4 (cZ (b6 (dj cv) cv)))) [some (cp k ar,false),some (.int kind,false),some (.int other,false),some (.list [],true),none]=some (.next [some (cp k ar,false),some (.int kind,false),some (.int other,false),some (.list [],true),some (.list ([[]].map cj),false)]):=by
  simp[gc,cH,cZ,b6,dj,cv,Kt,share,cj]
 rw[bD] at e;rw[cI,s1,ae];dsimp only;rw[cI,s2,ae];dsimp only;rw[cI,nJ e,ae];simp[ko,fQ,fu]
open PySem DL Td
noncomputable def fA (h:List Nat):List Int:=h.map fun (n:Nat)=>(n:Int)
noncomputable def GK (h:List Nat):Option Vl:=some (mI (fA h),true)
theorem zt (h:List Nat)(i v:Nat):(fA h).set i (v:Int)=fA (h.set i v):=by unfold fA;rw[List.map_set]
theorem tL (h:List Nat):(fA h).length=h.length:=by unfold fA;rw[ai]
theorem A4 {h:List Nat}{s:Nat}(hs:s<h.length):cP (.list ((fA h).map .int)) (.int (s:Int))=some (.int (mark h s:Int),false):=by
 unfold cP;dsimp only;rw[yh (k:=s) (d:=.int (mark h s:Int)) (by
  unfold fA mark;rw[bt,ay,aq hs,av,aq hs];rfl)]
 rfl
theorem L4 (a b:Int):zZ (.int a) (.int b)=some (!decide (a=b)):=by
 have h:∀x:Int,SeqAt.shaped (.int x)=true:=fun x=>by simp[SeqAt.shaped,PyData.canLay0,PyData.depth]
 unfold zZ;rw[h,h];simp[SeqAt.noMix,Spec.same];by_cases e:a=b <;> simp[e]
theorem tR (h:List Nat):gA ((fA h).map .int)=some (fA h):=tT _
theorem j0 {h:List Nat}{p:Nat}{ρ:Sl}(e:ρ[p]?=some (GK h)):fB p ρ=some (fA h):=by
 unfold fB;rw[e];exact tR h
noncomputable def zJ (h:List Nat)(s:Nat):Sl:=[GK h,some (.int (s:Int),false)]
theorem xQ {h:List Nat}{s:Nat}(hs:s<h.length):(d2 cP (nE 0) (cc 1)) (zJ h s)=some (.int (mark h s:Int),false):=by
 show (cP (.list ((fA h).map .int)) (.int (s:Int)))=_;exact A4 hs
theorem JQ {h:List Nat}{s:Nat}(hs:s<h.length):ki (zJ h s)=some (!decide (mark h s=s)):=by
 rw[ki,dH,cx,xQ hs];show zZ (.int (mark h s:Int)) (.int (s:Int))=_;rw[L4];congr 2;exact decide_eq_decide.mpr ⋯
theorem JR {h:List Nat}{s:Nat}(hs:s<h.length)(h2:mark h s<h.length):kG (zJ h s)=some (.next (zJ (h.set s (mark h (mark h s))) (mark (h.set s (mark h (mark h s))) s))):=by
 have q1:(d2 cP (nE 0) (cx (d2 cP (nE 0) (cc 1)))) (zJ h s)=some (.int (mark h (mark h s):Int),false):=by
  rw[d2,cx,xQ hs];show (cP (.list ((fA h).map .int)) (.int (mark h s:Int)))=_;exact A4 h2
 have q2:rB 0 (cg 1) (d2 cP (nE 0) (cx (d2 cP (nE 0) (cc 1)))) (zJ h s)=some (.next (zJ (h.set s (mark h (mark h s))) s)):=by
  have dv:cg 1 (zJ h s)=some (.int (s:Int),false):=rfl;have no:jc ((zJ h s).set 0 none)=true:=rfl;simp only[rB,q1,dv,yx,ae,j0 (h:=h) (p:=0) (ρ:=zJ h s) rfl,xH (show s<(fA h).length by rw[tL];exact hs),no,if_true,zt];rfl
 rw[kG,cJ q2,cH,xQ (by rw[aX];exact hs)];rfl
theorem EC {n:Nat}:∀(s:Nat) (h:List Nat),Uf n h->s<n->∃(h':List Nat) (r:Nat),eL ki kG (s+1) (zJ h s)=some (.next (zJ h' r))/\Uf n h'/\Rt h s r/\∀i r,Rt h i r->Rt h' i r:=by
 intro s;induction s using Nat.strongRecOn with
 |_ s ih =>
  intro h u hs;have hl:s<h.length:=by rw[u.len];exact hs
  have l:=u.le s hs;unfold eL;rw[JQ hl,ae];by_cases e:mark h s=s
  ·rw[decide_eq_true e];exact⟨h,s,rfl,u,.here e,fun _ _ a=>a⟩
  ·rw[decide_eq_false e];obtain⟨u1,k1⟩:=u.half hs e;have e1:mark (h.set s (mark h (mark h s))) s=mark h (mark h s):=by rw[eV hl,if_pos rfl]
   have l2:=u.le (mark h s) ⋯;obtain⟨h',r,w,u',rt,k2⟩:=ih (mark h (mark h s)) ⋯ _ u1 ⋯;refine⟨h',r,?_,u',?_,fun i r a=>k2 i r (k1 i r a)⟩
   ·rw[show (!false)=true from rfl,if_pos rfl,JR hl ⋯,ae];dsimp only;rw[e1];have:=jz w (s-(mark h (mark h s)+1));rwa[show mark h (mark h s)+1+(s-(mark h (mark h s)+1))=s by omega] at this
   ·obtain⟨r',a,_⟩:=u.has s hs;have b:=k1 s r' a;cases b with
    |here q=>exact absurd (e1.symm.trans q) ⋯
    |up _ b =>
     rw[e1] at b;rw[rt.one b];exact a
theorem xT {n:Nat}{h:List Nat}{s:Nat}(u:Uf n h)(hs:s<n):∃(h':List Nat) (r:Nat),eZ (fA h) [.int (s:Int)]=some (.int (r:Int),fA h')/\Uf n h'/\Rt h s r/\∀i r,Rt h i r->Rt h' i r:=by
 obtain⟨h',r,w,u',rt,k⟩:=EC s h u hs;refine⟨h',r,?_,u',rt,k⟩;have e:km ki kG (zJ h s)=some (.next (zJ h' r)):=nJ w;have run:eZ (fA h) [.int (s:Int)]=(rf (zJ h s)).bind fun fl=>match fl with
  |.next ρ=>(qC ρ).bind fun r=>(fB 0 ρ).map fun ms=>(r.1,ms)
  |_=>none:=rfl
 rw[run,rf,cJ e];show ((qC (zJ h' r)).bind fun x=>(fB 0 (zJ h' r)).map fun ms=>(x.1,ms))=_;rw[j0 (h:=h') rfl];rfl
noncomputable def E9 (h:List Nat)(a b:Nat)(s3 s4:Option Vl):Sl:=[GK h,some (.int (a:Int),false),some (.int (b:Int),false),s3,s4]
theorem Jt (a b:Nat):AY (.int (a:Int)) (.int (b:Int))=some (.int ((max a b:Nat):Int),false):=by
 unfold AY;dsimp only;congr 3;split <;> omega
theorem Ly {its done:iY}{n:Nat}{h:List Nat}{a b:Nat}(t:wV its done n h)(pD:∀p∈done,p.1<n/\p.2<n)(hm:(a,b)∈its)(ha:a<n)(hb:b<n):∃(h':List Nat),wX (fA h) [.int (a:Int),.int (b:Int)]=some (.none,fA h')/\wV its (done++[(a,b)]) n h':=by
 obtain⟨h1,p,e1,u1,r1,k1⟩:=xT t.u ha;have t1:=t.same pD u1 k1;obtain⟨h2,q,e2,u2,r2,k2⟩:=xT u1 hb;have t2:=t1.same pD u2 k2;have rp:=k2 _ _ (k1 _ _ r1);have rq:=k2 _ _ r2;have lp:=u2.CS ha rp;have lq:=u2.CS hb rq;refine⟨h2.set (max p q) (min p q),?_,t2.tie hm ha hb rp rq⟩;have q1:ku 0 eZ (b6 (cg 1) cv) 3 (E9 h a b none none)=some (.next (E9 h1 a b (some (.int (p:Int),false)) none)):=by
  rw[ku,j0 (h:=h) rfl,ae];show ((eZ (fA h) [.int (a:Int)]).bind _)=_;rw[e1];rfl
 have q2:ku 0 eZ (b6 (cg 2) cv) 4 (E9 h1 a b (some (.int (p:Int),false)) none)=some (.next (E9 h2 a b (some (.int (p:Int),false)) (some (.int (q:Int),false)))):=by
  rw[ku,j0 (h:=h1) rfl,ae];show ((eZ (fA h1) [.int (b:Int)]).bind _)=_;rw[e2];rfl
 have q3:rB 0 (d2 AY (cc 3) (cc 4)) (d2 xu (cc 3) (cc 4)) (E9 h2 a b (some (.int (p:Int),false)) (some (.int (q:Int),false)))=some (.next (E9 (h2.set (max p q) (min p q)) a b (some (.int (p:Int),false)) (some (.int (q:Int),false)))):=by
  have m1:(d2 xu (cc 3) (cc 4)) (E9 h2 a b (some (.int (p:Int),false)) (some (.int (q:Int),false)))=some (.int ((min p q:Nat):Int),false):=CN p q;have m2:(d2 AY (cc 3) (cc 4)) (E9 h2 a b (some (.int (p:Int),false)) (some (.int (q:Int),false)))=some (.int ((max p q:Nat):Int),false):=Jt p q;have no:jc ((E9 h2 a b (some (.int (p:Int),false)) (some (.int (q:Int),false))).set 0 none)=true:=rfl;simp only[rB,m1,m2,yx,ae,j0 (h:=h2) (p:=0) (ρ:=E9 h2 a b (some (.int (p:Int),false)) (some (.int (q:Int),false))) rfl,xH (show max p q<(fA h2).length by rw[tL,u2.len];omega),no,if_true,zt];rfl
 have run:wX (fA h) [.int (a:Int),.int (b:Int)]=(HA (E9 h a b none none)).bind fun fl=>match fl with
  |.next ρ=>(Kp ρ).bind fun r=>(fB 0 ρ).map fun ms=>(r.1,ms)
  |_=>none:=rfl
 rw[run,HA,cJ q1,cJ q2,q3];show ((some ((PyData.none,false):Vl)).bind fun x=>(fB 0 (E9 (h2.set (max p q) (min p q)) a b (some (.int (p:Int),false)) (some (.int (q:Int),false)))).map fun ms=>(x.1,ms))=_;rw[j0 (h:=h2.set (max p q) (min p q)) rfl];rfl
theorem yU {n:Nat}{pre post:List Nat}{x:Nat}(h:pre++x::post=ao n):pre=ao x/\x<n:=by
 have hl:pre.length<n:=by
  have:=congrArg List.length h;rw[aw,aJ,aB] at this;omega
 have hx:x=pre.length:=by
  have:=congrArg (fun l=>l[pre.length]?) h;rw[aR (aE _),Xr,aI,ba hl] at this;exact Option.some.inj this
 refine⟨?_,by omega⟩;have:=congrArg (fun l=>l.take pre.length) h;rw[List.take_append_of_le_length (aE _),List.take_length,List.take_range,W7 (Xd hl)] at this;rw[hx];exact this
theorem sO {f:Tr->D}:∀(l pre:List Tr),(pre++l).Nodup->kg (l.map cG) (l.map f) (ig pre f)=some (ig (pre++l) f)
 |[],pre,_=>by rw[bw];rfl
 | t::l,pre,nd=>by
  have nt:t∉pre:=fun z=>(List.nodup_append.mp nd).2.2 t z t (by simp) rfl;rw[aC,aC,kg,if_pos (kP t),xj nt];have e:ig pre f++[(cG t,f t)]=ig (pre++[t]) f:=by unfold ig;rw[aU];rfl
  rw[e,sO l (pre++[t]) (by rw[bg];exact nd),bg];rfl
def NL (s:Option Vl):Prop:=∀c,s≠some (.dict [(c,.none)],true)
theorem Ee {ρ:Sl}(h:∀s∈ρ,NL s):jc ρ=true:=by
 unfold jc;rw[WS];intro s hs;split
 ·exact absurd rfl (h _ hs _)
 ·rfl
theorem CK:NL none:=fun c h=>by cases h
theorem Gw {x:D}:NL (some (x,false)):=fun c h=>by cases h
theorem L3 {xs:List D}:NL (some (.list xs,true)):=fun c h=>by cases h
noncomputable def pv (s:Option D):Option Vl:=s.map fun d=>(d,false)
noncomputable def Ak (ts:List Tr)(h:List Nat)(rows:List Nat)(Mr:Nat)(s4 s5:Option D):Sl:=[some (.list (ts.map cG),false),GK h,some (.list ((fA rows).map .int),true),some (.int (Mr:Int),false),pv s4,pv s5]
theorem KC (s:Option D):NL (pv s):=by
 cases s with
 |none=>exact CK
 |some d=>exact Gw
theorem KA {ts:List Tr}{h rows:List Nat}{c:Nat}{s4 s5:Option D}:jc ((Ak ts h rows c s4 s5).set 1 none)=true:=by
 refine Ee fun s hs=>?_;have JO:s∈[some (.list (ts.map cG),false),none,some (.list ((fA rows).map .int),true),some (.int (c:Int),false),pv s4,pv s5]:=hs;simp only[bj,bC,or_false] at JO;rcases JO with rfl|rfl|rfl|rfl|rfl|rfl
 ·exact Gw
 ·exact CK
 ·exact L3
 ·exact Gw
 ·exact KC _
 ·exact KC _
theorem Gr {its:iY}{n:Nat}{m:List Nat}(w:qv its n m)(s:fX its m){i:Nat}(hi:i<n):mN m (mark m i)=mN m i:=by
 unfold mN;rw[w.qR s hi]
theorem A5 {m:Nat->Nat}{x r:Nat}(h:r<x):mark ((ao x).map m) r=m r:=by
 unfold mark;rw[av,ay,ba h];rfl
theorem Gs {its:iY}{n:Nat}{h h':List Nat}{ts:List Tr}{x:Nat}{s5:Option D}(t:wV its its n h)(pD:∀p∈its,p.1<n/\p.2<n)(u:Uf n h')(k:∀i r,Rt h i r->Rt h' i r)(hx:x<n)(hn:n<1000000) :
  ∃(h2:List Nat) (t5:Option D),Uf n h2/\(∀i r,Rt h i r->Rt h2 i r)/\jF (Ak ts h' ((ao x).map (mN (fJ n h))) ((ao x).filter (ml (fJ n h))).length (some (.int (x:Int))) s5) =
   some (.next (Ak ts h2 ((ao (x+1)).map (mN (fJ n h))) ((ao (x+1)).filter (ml (fJ n h))).length (some (.int (x:Int))) t5)):=by
 obtain⟨w,st⟩:=t.way pD;obtain⟨h2,r,e1,u2,r1,k2⟩:=xT u hx;obtain⟨r0,a0,l0⟩:=t.u.has x hx;have er:r=r0:=r1.one (k _ _ a0);subst er;have em:mark (fJ n h) x=r:=a0.mark t.u hx;refine⟨h2,some (.int (r:Int)),u2,fun i r a=>k2 _ _ (k _ _ a),?_⟩;generalize hm:fJ n h=m at *;have q1:ku 1 eZ (b6 (cg 4) cv) 5 (Ak ts h' ((ao x).map (mN m)) ((ao x).filter (ml m)).length (some (.int (x:Int))) s5)=some (.next (Ak ts h2 ((ao x).map (mN m)) ((ao x).filter (ml m)).length (some (.int (x:Int))) (some (.int (r:Int))))):=by
  rw[ku,j0 (h:=h') rfl,ae];show ((eZ (fA h') [.int (x:Int)]).bind _)=_;rw[e1,ae,if_pos ⟨KA,by decide⟩];rfl
 have M9:(dH (cc 5) [(om,(cc 4))]) (Ak ts h2 ((ao x).map (mN m)) ((ao x).filter (ml m)).length (some (.int (x:Int))) (some (.int (r:Int))))=some (decide (r=x)):=by
  show om (.int (r:Int)) (.int (x:Int))=_;rw[fF];exact congrArg some (decide_eq_decide.mpr ⋯)
 have hz:((fA ((ao x).map (mN m))).map PyData.int).length<sizeLine:=wZ (by rw[ai,tL,ai,aB];omega);have CL:∀(l:List Nat) (v:Nat),(fA l).map PyData.int++[.int (v:Int)]=(fA (l++[v])).map .int:=fun l v=>by unfold fA;rw[aU,aU];rfl
 rw[jF,cJ q1,kK,M9,ae];by_cases e:r=x
 ·rw[decide_eq_true e,if_pos rfl];have Qu:ml m x=true:=by unfold ml;rw[em,e];exact beq_self_eq_true _
  have nf:=w.Ed st hx;rw[Qu,beq_iff_eq] at nf;have a1:gv 2 (cg 3) (Ak ts h2 ((ao x).map (mN m)) ((ao x).filter (ml m)).length (some (.int (x:Int))) (some (.int (r:Int))))=some (.next (Ak ts h2 ((ao (x+1)).map (mN m)) ((ao x).filter (ml m)).length (some (.int (x:Int))) (some (.int (r:Int))))):=by
   rw[W8,aU,List.map_singleton,nf];show ((if ((fA ((ao x).map (mN m))).map PyData.int).length<sizeLine then some ((fA ((ao x).map (mN m))).map PyData.int++[.int (((ao x).filter (ml m)).length:Int)]) else none).map fun ys=>Fl.next _)=_;rw[if_pos hz,CL];rfl
  rw[cJ a1];have e2:((ao (x+1)).filter (ml m)).length=((ao x).filter (ml m)).length+1:=by rw[W8,bZ,aw,bO,Qu];rfl
  rw[e2];rfl
 ·rw[decide_eq_false e,if_neg Bool.false_ne_true];have Qu:ml m x=false:=by unfold ml;rw[em];exact beq_eq_false_iff_ne.mpr e
  have e2:((ao (x+1)).filter (ml m)).length=((ao x).filter (ml m)).length:=by rw[W8,bZ,aw,bO,Qu];rfl
  rw[e2];have rx:(d2 cP (cc 2) (cc 5)) (Ak ts h2 ((ao x).map (mN m)) ((ao x).filter (ml m)).length (some (.int (x:Int))) (some (.int (r:Int))))=some (.int (mN m x:Int),false):=by
   show cP (.list ((fA ((ao x).map (mN m))).map .int)) (.int (r:Int))=_;rw[A4 (by rw[ai,aB];omega),A5 ⋯,<-em,Gr w st hx]
  rw[gv,rx,ae,W8,aU,List.map_singleton];show ((if ((fA ((ao x).map (mN m))).map PyData.int).length<sizeLine then some ((fA ((ao x).map (mN m))).map PyData.int++[.int (mN m x:Int)]) else none).map fun ys=>Fl.next _)=_;rw[if_pos hz,CL];rfl
section
variable {e:Sb}{d:Int}
theorem zm (ok:eS e){h:List Nat}(t:wV (jB e d) (jB e d) (b8 e d).length h)(hz:(b8 e d).length<1000000):∃ms,iC (fA h) [.list ((b8 e d).map cG)]=some (.dict (dP e d),ms):=by
 have pD:=Ba (d:=d) ok;obtain⟨w,st⟩:=t.way pD;have h0:(cH 2 (cZ cv)) [some (.list ((b8 e d).map cG),false),GK h,none,none,none,none]=some (.next [some (.list ((b8 e d).map cG),false),GK h,some (.list [],true),none,none,none]):=by simp[cH,cZ,cv,Cp]
 have h1:(cH 3 (dC (.int 0))) [some (.list ((b8 e d).map cG),false),GK h,some (.list [],true),none,none,none]=some (.next (Ak (b8 e d) h [] 0 none none)):=rfl;have hr:(cR (d1 gn (cc 0))) ((Ak (b8 e d) h [] 0 none none).set 1 none)=some ((ao (b8 e d).length).map fun (x:Nat)=>.int (x:Int)):=by
  rw[<-dE];have hl:(d1 gn (cc 0)) ((Ak (b8 e d) h [] 0 none none).set 1 none)=some (.int ((b8 e d).length:Int),false):=by
   show some ((PyData.int (((b8 e d).map cG).length:Int),false):Vl)=_;rw[ai]
  have:=dZ (o:=false) hl ⋯ ⋯;rwa[aQ] at this
 obtain⟨de,f1,h',s4,s5,u',k',eq⟩:=j4 (g:=gN 4) (b:=jF) (d:=fun (x:Nat)=>.int (x:Int)) (P:=fun pre ρ=>∃h' s4 s5,Uf (b8 e d).length h'/\(∀i r,Rt h i r->Rt h' i r)/\ρ=Ak (b8 e d) h' (pre.map (mN (fJ (b8 e d).length h))) (pre.filter (ml (fJ (b8 e d).length h))).length s4 s5) (ao (b8 e d).length) (ao (b8 e d).length) [] _ rfl ⟨h,none,none,t.u,fun _ _ a=>a,rfl⟩
  (fun pre x post ρ hw zz=>by
   obtain ⟨h',s4,s5,u',k',eq⟩:=zz;obtain⟨ep,hx⟩:=yU hw;obtain⟨h2,t5,u2,k2,hb⟩:=Gs (ts:=b8 e d) (s5:=s5) t pD u' k' hx hz;refine⟨Ak (b8 e d) h' ((ao x).map (mN (fJ (b8 e d).length h))) ((ao x).filter (ml (fJ (b8 e d).length h))).length (some (.int (x:Int))) s5,_,by rw[eq,ep];rfl,hb,h2,some (.int (x:Int)),t5,u2,k2,?_⟩;rw[ep,<-W8])
 have f2:yR 1 (cR (d1 gn (cc 0))) (gN 4) jF (Ak (b8 e d) h [] 0 none none)=some (.next de):=by
  rw[yR,j0 (h:=h) rfl,if_pos ⟨KA,rfl⟩,hr,ae];exact f1
 have rows:(fA ((ao (b8 e d).length).map (mN (fJ (b8 e d).length h)))).map PyData.int=(b8 e d).map fun t=>.int (kN e d t):=by
  unfold fA;rw[bt,bt];refine bI fun i=>?_;rw[ay,ay];by_cases hi:i<(b8 e d).length
  ·rw[ba hi,aq hi];have:=(Co (d:=d) ok).A0 w st (aq hi);unfold kN;rw[au,au,this];rfl
  ·rw[aW (by rw[aB];omega),aW ⋯];rfl
 have zp:=sO (f:=fun t=>.int (kN e d t)) (b8 e d) [] (gg e d);have sh:(qI 2 gH) (Ak (b8 e d) h' ((ao (b8 e d).length).map (mN (fJ (b8 e d).length h))) ((ao (b8 e d).length).filter (ml (fJ (b8 e d).length h))).length s4 s5)=some (.next [some (.list ((b8 e d).map cG),false),GK h',some (.list ((b8 e d).map fun t=>.int (kN e d t)),false),some (.int (((ao (b8 e d).length).filter (ml (fJ (b8 e d).length h))).length:Int),false),pv s4,pv s5]):=by
  rw[<-rows];rfl
 have v:lZ [some (.list ((b8 e d).map cG),false),GK h',some (.list ((b8 e d).map fun t=>.int (kN e d t)),false),some (.int (((ao (b8 e d).length).filter (ml (fJ (b8 e d).length h))).length:Int),false),pv s4,pv s5]=some (.dict (dP e d),false):=by
  show (if ((b8 e d).map cG).length<=sizeLine then (kg ((b8 e d).map cG) ((b8 e d).map fun t=>.int (kN e d t)) []).map fun kvs=>((.dict kvs,false):Vl) else none)=_;rw[if_pos (Aj (by rw[ai];omega)),show ([]:List (D×D))=ig [] (fun t=>.int (kN e d t)) from rfl,zp];rfl
 refine⟨fA h',?_⟩;have run:iC (fA h) [.list ((b8 e d).map cG)]=(o6 [some (.list ((b8 e d).map cG),false),GK h,none,none,none,none]).bind fun fl=>match fl with
  |.next ρ=>(lZ ρ).bind fun r=>(fB 1 ρ).map fun ms=>(r.1,ms)
  |_=>none:=rfl
 rw[run,o6,cJ h0,cJ h1,cJ f2,eq,sh];show ((lZ _).bind fun r=>(fB 1 [some (.list ((b8 e d).map cG),false),GK h',some (.list ((b8 e d).map fun t=>.int (kN e d t)),false),some (.int (((ao (b8 e d).length).filter (ml (fJ (b8 e d).length h))).length:Int),false),pv s4,pv s5]).map fun ms=>(r.1,ms))=_;rw[v,j0 (h:=h') rfl];rfl
end
theorem ui (n:Nat)(f:Nat->D):fG 0 ((ao n).map f)=(ao n).map fun (c:Nat)=>.tuple [.int (c:Int),f c]:=by
 rw[gW];refine bI fun i=>?_;rw[ay,ay,bS];by_cases h:i<n
 ·rw[ba h];simp
 ·rw[aW (by rw[aB];omega)];rfl
theorem uc {α:Type}(l:List α):l.zipIdx.map (·.1)=l:=by
 refine bI fun i=>?_;rw[ay,bS];cases l[i]? <;> rfl
theorem yA {α β γ:Type}(f:α->D)(g:β->D)(h:γ->D):∀(xs:List α) (ys:List β) (zs:List γ),jU (xs.map f) (ys.map g) (zs.map h)=(xs.zip (ys.zip zs)).map fun p=>.tuple [f p.1,g p.2.1,h p.2.2]
 |[],_,_=>rfl
 |_::_,[],_=>rfl
 |_::_,_::_,[]=>rfl
 |x::xs,y::ys,z::zs=>by rw[aC,aC,aC,jU,yA f g h xs ys zs];rfl
section
variable {e:Sb}{d:Int}
noncomputable def mU (e:Sb)(c:Nat)(p:List Nat):List Tr:=(ao (gI e.rows (c:Int)).toNat).map fun (x:Nat)=>((c:Int),p,(x:Int))
noncomputable def l9 (e:Sb)(d:Int)(c:Nat):D:=.list ((fu e.k2 e.cW (gI e.pl (c:Int)) d).map cj)
noncomputable def dJ (e:Sb)(d:Int):D:=.list ((ao e.k1.toNat).map (l9 e d))
noncomputable def Fb (e:Sb)(d:Int)(acc:List Tr)(s3 s4 s5:Option Vl):Sl:=[some (dJ e d,false),some (jM e,false),some (.list (acc.map cG),true),s3,s4,s5]
theorem NX (ok:eS e)(sm:kO e){acc:List Tr}{c:Nat}{p:List Nat}{s4:Option Vl}(hc:(c:Int)<e.k1)(hn:acc.length+(mU e c p).length<=1000000) :
  g9 (Fb e d acc (some (.int (c:Int),false)) s4 (some (cj p,false)))=some (.next (Fb e d (acc++mU e c p) (some (.int (c:Int),false)) s4 (some (cj p,false)))):=by
 have lb:=ok.b.len;have n0:=mK ok.b.nn (c:Int);have n1:=rK (m:=1000) ⋯ sm.rw (c:Int);have ix:=rz (xs:=e.rows) (i:=(c:Int)) ⋯ ⋯;have hr:(cR (d2 cP (cx (d2 cP (cc 1) (cx (dC (.int 0))))) (cc 3))) (Fb e d acc (some (.int (c:Int),false)) s4 (some (cj p,false)))=some ((ao (gI e.rows (c:Int)).toNat).map fun (x:Nat)=>.int (x:Int)):=by
  rw[<-dE];exact dZ (o:=false) (by simp[Fb,d2,cc,cx,dC,wN,ix]) n0 ⋯
 have cm:=fM (it:=cR (d2 cP (cx (d2 cP (cc 1) (cx (dC (.int 0))))) (cc 3))) (n:=1) (ix:=[3,5]) (g:=gN 0) (e:=je) (ρ:=Fb e d acc (some (.int (c:Int),false)) s4 (some (cj p,false))) (d:=fun (x:Nat)=>.int (x:Int)) (β:=fun (x:Nat)=>cG ((c:Int),p,(x:Int))) (ao (gI e.rows (c:Int)).toNat) hr (by rw[aB];omega) (fun x hx=>⟨_,false,rfl,by
  show je [some (.int (x:Int),false),some (.int (c:Int),false),some (cj p,false)]=_;exact oh (o:=false) (o':=false) (o'':=false) (by simp[cg]) (by simp[cg]) (by simp[cg])⟩)
 have er:(ao (gI e.rows (c:Int)).toNat).map (fun (x:Nat)=>cG ((c:Int),p,(x:Int)))=(mU e c p).map cG:=by unfold mU;rw[bt];rfl
 rw[er] at cm;have hz:(acc.map cG).length+((mU e c p).map cG).length<=sizeLine:=Aj (by rw[ai,ai];exact hn);rw[g9,xc,cm,ae];show ((if (acc.map cG).length+((mU e c p).map cG).length<=sizeLine then some (acc.map cG++(mU e c p).map cG) else none).map fun ys=>Fl.next _)=_;rw[if_pos hz,<-aU];rfl
theorem NW (ok:eS e)(sm:kO e){acc:List Tr}{c:Nat}{s5:Option Vl}(hc:(c:Int)<e.k1)(hn:acc.length+((fu e.k2 e.cW (gI e.pl (c:Int)) d).flatMap (mU e c)).length<=1000000):∃t5,
  gZ (Fb e d acc (some (.int (c:Int),false)) (some (l9 e d c,false)) s5)=some (.next (Fb e d (acc++(fu e.k2 e.cW (gI e.pl (c:Int)) d).flatMap (mU e c)) (some (.int (c:Int),false)) (some (l9 e d c,false)) t5)):=by
 obtain⟨de,h1,t5,h2⟩:=mm (g:=gN 5) (b:=g9) (d:=cj) (f:=mU e c) (P:=fun acc ρ=>∃s5,ρ=Fb e d acc (some (.int (c:Int),false)) (some (l9 e d c,false)) s5) 1000000 (fu e.k2 e.cW (gI e.pl (c:Int)) d) acc _ ⟨s5,rfl⟩ hn
  (fun p _ Kj ρ ⟨u5,eq⟩ hl=>⟨_,_,by rw[eq];rfl,NX ok sm hc hl,_,rfl⟩)
 refine⟨t5,?_⟩;rw[gZ,eD (ds:=(fu e.k2 e.cW (gI e.pl (c:Int)) d).map cj) rfl,h1,h2]
theorem HS (ok:eS e)(sm:kO e)(hz:(b8 e d).length<=1000000):fh [dJ e d,jM e]=some (.list ((b8 e d).map cG),true):=by
 have k0:=ok.w1.lo;have k1:=sm.k1;have h0:(cH 2 (cZ cv)) [some (dJ e d,false),some (jM e,false),none,none,none,none]=some (.next (Fb e d [] none none none)):=by simp[cH,cZ,cv,Cp,Fb]
 have hr:(eO (fj 0)) (Fb e d [] none none none)=some ((ao e.k1.toNat).map fun (c:Nat)=>.tuple [.int (c:Int),l9 e d c]):=by
  rw[<-ui];rfl
 obtain⟨de,h1,t3,t4,t5,h2⟩:=mm (g:=gT [gN 3,gN 4]) (b:=gZ) (d:=fun (c:Nat)=>.tuple [.int (c:Int),l9 e d c]) (f:=fun c=>(fu e.k2 e.cW (gI e.pl (c:Int)) d).flatMap (mU e c)) (P:=fun acc ρ=>∃s3 s4 s5,ρ=Fb e d acc s3 s4 s5) 1000000 (ao e.k1.toNat) [] _ ⟨none,none,none,rfl⟩ (by rw[WO,bJ];exact hz)
  (fun c hc acc ρ ⟨u3,u4,u5,eq⟩ hl=>by
   rw[bz] at hc;obtain⟨t5,hb⟩:=NW (d:=d) (s5:=u5) ok sm (c:=c) ⋯ hl;exact⟨_,_,by rw[eq];rfl,hb,_,_,t5,rfl⟩)
 have run:fh [dJ e d,jM e]=(jR [some (dJ e d,false),some (jM e,false),none,none,none,none]).bind fQ:=rfl;rw[run,jR,cJ h0,cI,eD hr,h1,ae,h2,bL];rfl
noncomputable def sT (e:Sb)(d:Int)(kvs:List (D×D))(s6 s7 s8 s9 s10 s11 s12 s13 s14:Option Vl):Sl:=[some (kQ e,false),some (jX e,false),some (jM e,false),some (dJ e d,false),some (.list ((b8 e d).map cG),false),eU kvs,s6,s7,s8,s9,s10,s11,s12,s13,s14]
noncomputable def Fi (h:List Nat):Option Vl:=some (.list ((fA h).map .int),true)
theorem II {acc:List Tr}{t:Tr}{s8 s9 s10 s11 s12 s13 s14:Option Vl}(hn:acc.length<1000000)(h:t∉acc) :
  qq (sT e d (cU acc) (some (.int (acc.length:Int),false)) (some (cG t,false)) s8 s9 s10 s11 s12 s13 s14)=some (.next (sT e d (cU (acc++[t])) (some (.int (acc.length:Int),false)) (some (cG t,false)) s8 s9 s10 s11 s12 s13 s14)):=by
 have h1:wF 5 (sT e d (cU acc) (some (.int (acc.length:Int),false)) (some (cG t,false)) s8 s9 s10 s11 s12 s13 s14)=some (cU acc):=rfl;have h2:qQ ((PyData.int (acc.length:Int),false):Vl)=some (.int (acc.length:Int)):=rfl;have h3:qQ ((cG t,false):Vl)=some (cG t):=by simp[qQ,Aw]
 have hv:(cg 6) (unown (sT e d (cU acc) (some (.int (acc.length:Int),false)) (some (cG t,false)) s8 s9 s10 s11 s12 s13 s14))=some (.int (acc.length:Int),false):=rfl;have hk:(cg 7) (unown (sT e d (cU acc) (some (.int (acc.length:Int),false)) (some (cG t,false)) s8 s9 s10 s11 s12 s13 s14))=some (cG t,false):=rfl;rw[qq,kr,h1,ae,hv,ae,h2,ae,hk,ae,h3,ae,show dS (cU acc)=true from fL _ _,kP,if_pos ⟨rfl,wZ (by rw[oO];exact hn)⟩,rG h];rfl
theorem FF (hz:(b8 e d).length<1000000):∃s6 s7,(eI (eO (fj 4)) (gT [(gN 6),(gN 7)]) qq) (sT e d [] none none none none none none none none none)=some (.next (sT e d (cU (b8 e d)) s6 s7 none none none none none none none)):=by
 have hr:(eO (fj 4)) (sT e d [] none none none none none none none none none)=some ((b8 e d).zipIdx.map fun p=>.tuple [.int (p.2:Int),cG p.1]):=by
  rw[<-gW];rfl
 obtain⟨de,h1,s6,s7,h2⟩:=j4 (g:=gT [gN 6,gN 7]) (b:=qq) (d:=fun (p:Tr×Nat)=>.tuple [.int (p.2:Int),cG p.1]) (P:=fun pre ρ=>∃s6 s7,ρ=sT e d (cU (pre.map (·.1))) s6 s7 none none none none none none none) (b8 e d).zipIdx (b8 e d).zipIdx [] _ rfl ⟨none,none,rfl⟩
  (fun pre p post ρ hw zz=>by
   obtain ⟨u6,u7,eq⟩:=zz;have hi:(b8 e d).zipIdx[pre.length]?=some p:=by rw[<-hw,aR (aE _),Xr];rfl
   have hl:pre.length<(b8 e d).length:=by
    have:=congrArg List.length hw;rw[aw,aJ,bM] at this;omega
   rw[bS,aq hl,au,bJ] at hi;have ep:=(Option.some.inj hi).symm;have nt:p.1∉pre.map (·.1):=by
    have nd:=gg e d;have e1:pre.map (·.1)++p.1::post.map (·.1)=b8 e d:=by
     have:=congrArg (List.map (·.1)) hw;rw[aU,aC,uc] at this;exact this
    rw[<-e1] at nd;exact fun z=>(List.nodup_append.mp nd).2.2 _ z _ (by simp) rfl
   have e2:(p.2:Int)=((pre.map (·.1)).length:Int):=by rw[ai,ep]
   have hb:=II (e:=e) (d:=d) (acc:=pre.map (·.1)) (t:=p.1) (s8:=none) (s9:=none) (s10:=none) (s11:=none) (s12:=none) (s13:=none) (s14:=none) (by rw[ai];omega) nt;refine⟨_,_,?_,hb,_,_,by rw[aU];rfl⟩;rw[eq,e2];rfl)
 refine⟨s6,s7,?_⟩;rw[uc] at h2;rw[eD hr];exact h1.trans (by rw[h2])
noncomputable def vq (e:Sb)(d:Int)(p:Tr×Tr):Nat×Nat:=((b8 e d).idxOf p.1,(b8 e d).idxOf p.2)
theorem KG (ok:eS e){t:Tr}(h:B7 e d t):gJ (.dict (cU (b8 e d))) (cG t)=some (.int ((b8 e d).idxOf t:Int),false):=by
 unfold gJ;dsimp only;rw[show dS (cU (b8 e d))=true from fL _ _,kP,if_pos (by rfl)];unfold cU;rw[m6,if_pos ((eM ok).mpr h)];rfl
def ND (e:Sb)(d:Int)(s6 s7 s9 s10 s11 s12:Option Vl)(done:List (Nat×Nat))(ρ:Sl):Prop:=∃h s13 s14,wV (jB e d) done (b8 e d).length h/\(∀p∈done,p.1<(b8 e d).length/\p.2<(b8 e d).length)/\ρ=sT e d (cU (b8 e d)) s6 s7 (Fi h) s9 s10 s11 s12 s13 s14
theorem Lz (ok:eS e){a:Int×Int}{i x:Nat}{q:List Nat}{w:List Nat}{s:List Int}{h:List Nat}{done:List (Nat×Nat)}{s6 s7:Option Vl}(ha:e.qu[i]?=some a)(hw:e.ws[i]?=some w)(hs:e.steps[i]?=some s)(hq:q∈fu e.k2 e.cW (gI e.pl a.2) d)(hx:x<s.length)
  (t:wV (jB e d) done (b8 e d).length h) (pD:∀p∈done,p.1<(b8 e d).length/\p.2<(b8 e d).length):∃h',wV (jB e d) (done++[vq e d (fO e (a,i) q x)]) (b8 e d).length h'/\(∀p∈done++[vq e d (fO e (a,i) q x)],p.1<(b8 e d).length/\p.2<(b8 e d).length) ∧
   sN (sT e d (cU (b8 e d)) s6 s7 (Fi h) (some (cD a,false)) (some (cj w,false)) (some (dI s,false)) (some (cj q,false)) (some (.int (x:Int),false)) (some (.int (gI s (x:Int)),false))) =
    some (.next (sT e d (cU (b8 e d)) s6 s7 (Fi h') (some (cD a,false)) (some (cj w,false)) (some (dI s,false)) (some (cj q,false)) (some (.int (x:Int),false)) (some (.int (gI s (x:Int)),false)))):=by
 have wa:=ok.w1.ok a (aF ha);have pk:=fv ok (show 0<=a.2 by omega) wa.2.2;have cq:=(jK ok.w2 ok.h4 pk.1 pk.2).mp hq;obtain⟨ls,ms⟩:=ok.b.st i a s ha hs;have n0:=mK ok.b.nn a.1;have r:ik e d (a.1,w++q,(x:Int)) (a.2,q,gI s (x:Int)):=⟨i,a,w,q,s,(x:Int),ha,hw,hs,cq.1,cq.2,by omega,by omega,rfl,rfl⟩;obtain⟨i1,i2⟩:=sS ok r;have et:fO e (a,i) q x=((a.1,w++q,(x:Int)),(a.2,q,gI s (x:Int))):=by
  unfold fO;rw[av,hw,av,hs];rfl
 have m1:=List.idxOf_lt_length_iff.mpr ((eM ok).mpr i1);have m2:=List.idxOf_lt_length_iff.mpr ((eM ok).mpr i2);have hm:vq e d (fO e (a,i) q x)∈jB e d:=by
  rw[et];exact List.mem_map.mpr ⟨((a.1,w++q,(x:Int)),(a.2,q,gI s (x:Int))),(lQ ok).mpr r,rfl⟩
 rw[et] at hm ⊢;obtain⟨h',e1,t'⟩:=Ly t pD hm m1 m2;refine⟨h',t',fun p hp=>?_,?_⟩
 ·rcases List.mem_append.mp hp with z|z
  ·exact pD p z
  ·rw[List.mem_singleton.mp z];exact⟨m1,m2⟩
 ·have sq:=oq ok i2;have Tx:=fv ok wa.1 (show a.1<e.k1 by omega);have cw:=nV ok.w2 Tx.1 Tx.2 (ok.s.way i a w ha hw).1;have h4:=ok.h4;have pa:=tH (p:=w) (q:=q) (by dsimp only at sq;omega);generalize Ff:sT e d (cU (b8 e d)) s6 s7 (Fi h) (some (cD a,false)) (some (cj w,false)) (some (dI s,false)) (some (cj q,false)) (some (.int (x:Int),false)) (some (.int (gI s (x:Int)),false))=ρ;have b9:cc 9 ρ=some (cD a):=by rw[<-Ff];rfl
  have k1:(dj (b6 (d2 cP (cc 9) (cx (dC (.int 0)))) (b6 (d2 eQ (cc 10) (cc 12)) (b6 (cg 13) cv)))) ρ=some (cG (a.1,w++q,(x:Int)),false) :=
   oh (o:=false) (o':=false) (o'':=false) (by rw[d2,b9];exact mW a) (by rw[d2,<-Ff];exact pa) (by rw[<-Ff];rfl)
  have k2:(dj (b6 (d2 cP (cc 9) (cx (dC (.int 1)))) (b6 (cg 12) (b6 (cg 14) cv)))) ρ=some (cG (a.2,q,gI s (x:Int)),false) :=
   oh (o:=false) (o':=false) (o'':=false) (by rw[d2,b9];exact n8 a) (by rw[<-Ff];rfl) (by rw[<-Ff];rfl)
  have b5:cc 5 ρ=some (.dict (cU (b8 e d))):=by rw[<-Ff];rfl
  have l1:(d2 gJ (cc 5) (cx (dj (b6 (d2 cP (cc 9) (cx (dC (.int 0)))) (b6 (d2 eQ (cc 10) (cc 12)) (b6 (cg 13) cv)))))) ρ=some (.int ((b8 e d).idxOf (a.1,w++q,(x:Int)):Int),false):=by
   rw[d2,b5,cx,k1];exact KG ok i1
  have l2:(d2 gJ (cc 5) (cx (dj (b6 (d2 cP (cc 9) (cx (dC (.int 1)))) (b6 (cg 12) (b6 (cg 14) cv)))))) ρ=some (.int ((b8 e d).idxOf (a.2,q,gI s (x:Int)):Int),false):=by
   rw[d2,b5,cx,k2];exact KG ok i2
  have ow:sA 8 ρ=some (fA h):=by rw[<-Ff];exact tR h
  rw[sN,xf,ow,ae,b6,l1,b6,l2];show ((wX (fA h) [.int ((b8 e d).idxOf (a.1,w++q,(x:Int)):Int),.int ((b8 e d).idxOf (a.2,q,gI s (x:Int)):Int)]).bind _)=_;rw[e1,<-Ff];rfl
theorem NU (ok:eS e){a:Int×Int}{i:Nat}{q:List Nat}{w:List Nat}{s:List Int}{done:List (Nat×Nat)}{ρ:Sl}{s6 s7:Option Vl}(ha:e.qu[i]?=some a)(hw:e.ws[i]?=some w)(hs:e.steps[i]?=some s)(hq:q∈fu e.k2 e.cW (gI e.pl a.2) d)
  (hn:done.length+(gI e.rows a.1).toNat<=1000000) (hP:ND e d s6 s7 (some (cD a,false)) (some (cj w,false)) (some (dI s,false)) (some (cj q,false)) done ρ) :
  ∃de,sM ρ=some (.next de)/\ND e d s6 s7 (some (cD a,false)) (some (cj w,false)) (some (dI s,false)) (some (cj q,false)) (done++(ao (gI e.rows a.1).toNat).map fun x=>vq e d (fO e (a,i) q x)) de:=by
 obtain⟨ls,ms⟩:=ok.b.st i a s ha hs;have n0:=mK ok.b.nn a.1;have hr:(eO (fj 11)) ρ=some ((ao (gI e.rows a.1).toNat).map fun (x:Nat)=>.tuple [.int (x:Int),.int (gI s (x:Int))]):=by
  rw[<-ui];obtain⟨h,s13,s14,_,_,eq⟩:=hP;rw[eq];show some (fG 0 (s.map .int))=_;congr 2;refine bI fun j=>?_;rw[ay,ay];by_cases hj:j<s.length
  ·rw[aq hj,ba ⋯];unfold gI;rw[au,au,aQ,av,aq hj];rfl
  ·rw[aW ⋯,aW (by rw[aB];omega)];rfl
 obtain⟨de,h1,h2⟩:=j5 (g:=gT [gN 13,gN 14]) (b:=sN) (d:=fun (x:Nat)=>.tuple [.int (x:Int),.int (gI s (x:Int))]) (f:=fun x=>vq e d (fO e (a,i) q x)) (P:=ND e d s6 s7 (some (cD a,false)) (some (cj w,false)) (some (dI s,false)) (some (cj q,false))) 1000000 (ao (gI e.rows a.1).toNat) done ρ hP (by rw[aB];exact hn)
  (fun x hx acc ρ ⟨h,Kq,Qh,t,pD,eq⟩ _=>by
   rw[bz] at hx;obtain⟨h',t',Mj,hb⟩:=Lz (s6:=s6) (s7:=s7) ok ha hw hs hq (x:=x) ⋯ t pD;exact⟨_,_,by rw[eq];rfl,hb,h',_,_,t',Mj,rfl⟩)
 exact⟨de,by rw[sM,eD hr,h1],h2⟩
theorem F4 (ok:eS e){c:Int}(h0:0<=c)(h1:c<e.k1):cP (dJ e d) (.int c)=some (.list ((fu e.k2 e.cW (gI e.pl c) d).map cj),false):=by
 unfold dJ cP;dsimp only;rw[rJ h0 (d:=l9 e d c.toNat) (by rw[ay,ba ⋯,au])];unfold l9;rw[show ((c.toNat:Nat):Int)=c by omega];rfl
theorem NT (ok:eS e){a:Int×Int}{i:Nat}{w:List Nat}{s:List Int}{done:List (Nat×Nat)}{h:List Nat}{s6 s7 s12 s13 s14:Option Vl}(ha:e.qu[i]?=some a)(hw:e.ws[i]?=some w)(hs:e.steps[i]?=some s)
  (hn:done.length+((fu e.k2 e.cW (gI e.pl a.2) d).flatMap fun q=>(ao (gI e.rows a.1).toNat).map fun x=>vq e d (fO e (a,i) q x)).length<=1000000)
  (t:wV (jB e d) done (b8 e d).length h) (pD:∀p∈done,p.1<(b8 e d).length/\p.2<(b8 e d).length) :
  ∃de sj,sL (sT e d (cU (b8 e d)) s6 s7 (Fi h) (some (cD a,false)) (some (cj w,false)) (some (dI s,false)) s12 s13 s14)=some (.next de)/\ND e d s6 s7 (some (cD a,false)) (some (cj w,false)) (some (dI s,false)) sj (done++(fu e.k2 e.cW (gI e.pl a.2) d).flatMap fun q=>(ao (gI e.rows a.1).toNat).map fun x=>vq e d (fO e (a,i) q x)) de:=by
 have wa:=ok.w1.ok a (aF ha);have rx:=F4 (d:=d) ok (c:=a.2) ⋯ wa.2.2;have hr:(dq (gS (d2 cP (cc 3) (cx (d2 cP (cc 9) (cx (dC (.int 1)))))))) (sT e d (cU (b8 e d)) s6 s7 (Fi h) (some (cD a,false)) (some (cj w,false)) (some (dI s,false)) s12 s13 s14)=some ((fu e.k2 e.cW (gI e.pl a.2) d).map cj):=by
  show ((((cP (cD a) (.int 1)).map (·.1)).bind fun y=>cP (dJ e d) y).bind fun x=>dM x.1)=_;rw[n8];show ((cP (dJ e d) (.int a.2)).bind fun x=>dM x.1)=_;rw[rx];rfl
 obtain⟨de,h1,sj,h2⟩:=mm (g:=gN 12) (b:=sM) (d:=cj) (f:=fun q=>(ao (gI e.rows a.1).toNat).map fun x=>vq e d (fO e (a,i) q x)) (P:=fun done ρ=>∃s12,ND e d s6 s7 (some (cD a,false)) (some (cj w,false)) (some (dI s,false)) s12 done ρ) 1000000 (fu e.k2 e.cW (gI e.pl a.2) d) done _ ⟨s12,h,s13,s14,t,pD,rfl⟩ hn
  (fun q hq acc ρ ⟨NR,h',Kq,Qh,t',Mj,eq⟩ hl=>by
   rw[ai,aB] at hl;obtain⟨hZ,hb,hP⟩:=NU (s6:=s6) (s7:=s7) ok ha hw hs hq hl ⟨h',Kq,Qh,t',Mj,rfl⟩;exact⟨_,hZ,by rw[eq];rfl,hb,_,hP⟩)
 exact⟨de,sj,by rw[sL,eD hr,h1],h2⟩
theorem Io (ok:eS e):e.qu.zip (e.ws.zip e.steps)=e.qu.zipIdx.map fun p=>(p.1,e.ws.getD p.2 [],e.steps.getD p.2 []):=by
 have l1:=ok.s.wl;have l2:=ok.b.sl;refine bI fun i=>?_;rw[ay,bS];by_cases hi:i<e.qu.length
 ·rw[aq (by rw[Xn,Xn];omega),List.getElem_zip,List.getElem_zip,aq hi];simp[av,show i<e.ws.length by omega,show i<e.steps.length by omega]
 ·rw[aW (by rw[Xn,Xn];omega),aW ⋯];rfl
theorem IH (ok:eS e)(sm:kO e)(hz:(b8 e d).length<1000000)(hn:(eG e d).length<=1000000):∃h,pC [kQ e,jX e,jM e,dJ e d,.list ((b8 e d).map cG)]=some (.list ((fA h).map .int),true)/\wV (jB e d) (jB e d) (b8 e d).length h:=by
 have run:pC [kQ e,jX e,jM e,dJ e d,.list ((b8 e d).map cG)]=(BC [some (kQ e,false),some (jX e,false),some (jM e,false),some (dJ e d,false),some (.list ((b8 e d).map cG),false),none,none,none,none,none,none,none,none,none,none]).bind fQ:=rfl;have h0:lC 5 [some (kQ e,false),some (jX e,false),some (jM e,false),some (dJ e d,false),some (.list ((b8 e d).map cG),false),none,none,none,none,none,none,none,none,none,none]=some (.next (sT e d [] none none none none none none none none none)):=by
  have nd:oM (([some (kQ e,false),some (jX e,false),some (jM e,false),some (dJ e d,false),some (.list ((b8 e d).map cG),false),none,none,none,none,none,none,none,none,none,none]:Sl).set 5 none)=true:=wc fun s hs=>by
   have JO:s∈[some (kQ e,false),some (jX e,false),some (jM e,false),some (dJ e d,false),some (.list ((b8 e d).map cG),false),none,none,none,none,none,none,none,none,none,none]:=hs;simp only[bj,bC,or_false] at JO;rcases JO with rfl|rfl|rfl|rfl|rfl|rfl|rfl|rfl|rfl|rfl|rfl|rfl|rfl|rfl|rfl <;> first|exact rD|exact kW
  rw[lC,if_pos ⟨nd,by simp⟩];rfl
 obtain⟨s6,s7,h1⟩:=FF (e:=e) (d:=d) hz;have h2:cH 8 (uz (cR (d1 gn (cc 4)))) (sT e d (cU (b8 e d)) s6 s7 none none none none none none none)=some (.next (sT e d (cU (b8 e d)) s6 s7 (Fi (ao (b8 e d).length)) none none none none none none)):=by
  have hl:(d1 gn (cc 4)) (sT e d (cU (b8 e d)) s6 s7 none none none none none none none)=some (.int ((b8 e d).length:Int),false):=by
   show some ((PyData.int (((b8 e d).map cG).length:Int),false):Vl)=_;rw[ai]
  have hr:=dZ (o:=false) hl ⋯ ⋯;rw[aQ,dE] at hr;rw[cH,uz,hr,ae,if_pos (by rw[ai,aB];omega)];show some (Fl.next _)=_;unfold Fi fA;rw[bt];rfl
 have hr:(zG (gS (d2 cP (cc 0) (cx (dC (.int 1))))) (gS (d2 cP (cc 1) (cx (dC (.int 1))))) (gS (d2 cP (cc 2) (cx (dC (.int 1)))))) (sT e d (cU (b8 e d)) s6 s7 (Fi (ao (b8 e d).length)) none none none none none none)=some (e.qu.zipIdx.map fun p=>.tuple [cD p.1,cj (e.ws.getD p.2 []),dI (e.steps.getD p.2 [])]):=by
  have z:=yA cD cj dI e.qu e.ws e.steps;rw[Io ok,bt] at z;have q1:(gS (d2 cP (cc 0) (cx (dC (.int 1))))) (sT e d (cU (b8 e d)) s6 s7 (Fi (ao (b8 e d).length)) none none none none none none)=some (e.qu.map cD):=by
   show ((cP (kQ e) (.int 1)).bind fun x=>dM x.1)=_;rw[kZ];rfl
  have q2:(gS (d2 cP (cc 1) (cx (dC (.int 1))))) (sT e d (cU (b8 e d)) s6 s7 (Fi (ao (b8 e d).length)) none none none none none none)=some (e.ws.map cj):=by
   show ((cP (jX e) (.int 1)).bind fun x=>dM x.1)=_;rw[FT];rfl
  have q3:(gS (d2 cP (cc 2) (cx (dC (.int 1))))) (sT e d (cU (b8 e d)) s6 s7 (Fi (ao (b8 e d).length)) none none none none none none)=some (e.steps.map dI):=by
   show ((cP (jM e) (.int 1)).bind fun x=>dM x.1)=_;rw[Ds];rfl
  rw[zG,q1,ae,q2,ae,q3,au];rw[z];rfl
 have ef:(e.qu.zipIdx.flatMap fun p=>(fu e.k2 e.cW (gI e.pl p.1.2) d).flatMap fun q=>(ao (gI e.rows p.1.1).toNat).map fun x=>vq e d (fO e p q x))=jB e d:=by
  unfold jB eG;simp only[List.map_flatMap,bt];rfl
 have hl:(jB e d).length=(eG e d).length:=by unfold jB;rw[ai]
 obtain⟨de,f1,s9,s10,s11,s12,h,s13,s14,t,_,eq⟩:=mm (g:=gT [gN 9,gN 10,gN 11]) (b:=sL) (d:=fun (p:(Int×Int)×Nat)=>.tuple [cD p.1,cj (e.ws.getD p.2 []),dI (e.steps.getD p.2 [])]) (f:=fun p=>(fu e.k2 e.cW (gI e.pl p.1.2) d).flatMap fun q=>(ao (gI e.rows p.1.1).toNat).map fun x=>vq e d (fO e p q x)) (P:=fun done ρ=>∃s9 s10 s11 s12,ND e d s6 s7 s9 s10 s11 s12 done ρ) 1000000 e.qu.zipIdx [] _ ⟨none,none,none,none,ao (b8 e d).length,none,none,wV.start _ _,(fun p hp=>nomatch hp),rfl⟩ (by rw[ef,hl,WO];omega)
  (fun p hp acc ρ ⟨u9,M8,QQ,NR,h,Kq,Qh,t,pD,eq⟩ hl=>by
   have ha:e.qu[p.2]?=some p.1:=List.mem_zipIdx_iff_getElem?.mp hp;have lt:=(List.getElem?_eq_some_iff.mp ha).1;have l1:=ok.s.wl;have l2:=ok.b.sl;have hw:e.ws[p.2]?=some (e.ws.getD p.2 []):=by rw[av,aq (show p.2<e.ws.length by omega)];rfl
   have hs:e.steps[p.2]?=some (e.steps.getD p.2 []):=by rw[av,aq (show p.2<e.steps.length by omega)];rfl
   obtain⟨hZ,sj,hb,hP⟩:=NT (d:=d) (s6:=s6) (s7:=s7) (s12:=NR) (s13:=Kq) (s14:=Qh) ok ha hw hs hl t pD;exact⟨_,hZ,by rw[eq];rfl,hb,_,_,_,sj,hP⟩)
 rw[ef,bL] at t;refine⟨h,?_,t⟩;rw[run,BC,cJ h0,cJ h1,cJ h2,cI,eD hr,f1,ae,eq];rfl
noncomputable def yr (e:Sb)(acc:List D)(s5 s6 s7:Option Vl):Sl:=[some (kQ e,false),some (kL e,false),some (jX e,false),some (jM e,false),some (.list acc,true),s5,s6,s7]
theorem DX (ok:eS e)(sm:kO e){acc:List D}{s6 s7:Option Vl}:(da (dq (gS (d2 cP (cc 2) (cx (dC (.int 0)))))) 1 [1,5] (gN 0) f9 ju) (yr e acc (some (.int d,false)) s6 s7)=some (dJ e d,true):=by
 have l:=ok.s.len;have k1:=sm.k1;have hr:(dq (gS (d2 cP (cc 2) (cx (dC (.int 0)))))) (yr e acc (some (.int d,false)) s6 s7)=some ((ao e.k1.toNat).map fun (c:Nat)=>.int (gI e.pl (c:Int))):=by
  show ((cP (jX e) (.int 0)).bind fun x=>dM x.1)=_;rw[td];show some (e.pl.map PyData.int)=_;congr 1;refine bI fun i=>?_;rw[ay,ay];by_cases hi:i<e.pl.length
  ·rw[aq hi,ba ⋯];unfold gI;rw[au,au,aQ,av,aq hi];rfl
  ·rw[aW ⋯,aW (by rw[aB];omega)];rfl
 have cm:=fM (it:=dq (gS (d2 cP (cc 2) (cx (dC (.int 0)))))) (n:=1) (ix:=[1,5]) (g:=gN 0) (e:=ju) (ρ:=yr e acc (some (.int d,false)) s6 s7) (d:=fun (c:Nat)=>.int (gI e.pl (c:Int))) (β:=l9 e d) (ao e.k1.toNat) hr (by rw[aB];omega) (fun c hc=>by
  rw[bz] at hc;have pk:=fv ok (c:=(c:Int)) ⋯ ⋯;exact⟨_,true,rfl,(show _=nX [kL e,.int (gI e.pl (c:Int)),.int d] from rfl).trans (Gd ok.w2 ok.h4 sm.a2 pk.1 pk.2)⟩)
 exact cm
theorem IW (ok:eS e)(sm:kO e){acc:List D}{s6 s7:Option Vl}(hl:acc.length<1000000)(hz:(b8 e d).length<1000000)(hn:(eG e d).length<=1000000):∃t6 t7,
  jy (yr e acc (some (.int d,false)) s6 s7)=some (.next (yr e (acc++[.dict (dP e d)]) (some (.int d,false)) t6 t7)):=by
 obtain⟨h,e1,t⟩:=IH (d:=d) ok sm hz hn;obtain⟨ms,e2⟩:=zm ok t hz;refine⟨some (dJ e d,false),some (.list ((b8 e d).map cG),false),?_⟩;have q1:(gc 6 (cH 6 (da (dq (gS (d2 cP (cc 2) (cx (dC (.int 0)))))) 1 [1,5] (gN 0) f9 ju))) (yr e acc (some (.int d,false)) s6 s7)=some (.next (yr e acc (some (.int d,false)) (some (dJ e d,false)) s7)):=by
  rw[gc,cH,DX ok sm,ae];rfl
 have q2:(gc 7 (cH 7 (cF fh (b6 (cg 6) (b6 (cg 3) cv))))) (yr e acc (some (.int d,false)) (some (dJ e d,false)) s7)=some (.next (yr e acc (some (.int d,false)) (some (dJ e d,false)) (some (.list ((b8 e d).map cG),false)))):=by
  have c:(cF fh (b6 (cg 6) (b6 (cg 3) cv))) (yr e acc (some (.int d,false)) (some (dJ e d,false)) s7)=some (.list ((b8 e d).map cG),true):=HS ok sm ⋯;rw[gc,cH,c,ae];rfl
 have q3:(uC iC (cg 7) (cF pC (b6 (cg 0) (b6 (cg 2) (b6 (cg 3) (b6 (cg 6) (b6 (cg 7) cv))))))) (yr e acc (some (.int d,false)) (some (dJ e d,false)) (some (.list ((b8 e d).map cG),false)))=some (.dict (dP e d),false):=by
  have c:(cF pC (b6 (cg 0) (b6 (cg 2) (b6 (cg 3) (b6 (cg 6) (b6 (cg 7) cv)))))) (yr e acc (some (.int d,false)) (some (dJ e d,false)) (some (.list ((b8 e d).map cG),false)))=some (.list ((fA h).map .int),true):=e1;have v:cg 7 (yr e acc (some (.int d,false)) (some (dJ e d,false)) (some (.list ((b8 e d).map cG),false)))=some (.list ((b8 e d).map cG),false):=rfl;rw[uC,v,ae,c,ae];show ((gA ((fA h).map .int)).bind fun ns=>(iC ns [.list ((b8 e d).map cG)]).map fun r=>((r.1,false):Vl))=_;rw[tR,ae,e2];rfl
 rw[jy,cJ q1,cJ q2,gv,q3,ae];show ((if acc.length<sizeLine then some (acc++[.dict (dP e d)]) else none).map fun ys=>Fl.next _)=_;rw[if_pos (wZ hl)];rfl
theorem vL (ok:eS e)(sm:kO e)(fw:qx e):eA [kQ e,kL e,jX e,jM e]=some (fH e,true):=by
 have k0:=ok.w2.lo;have k4:=ok.h4;have run:eA [kQ e,kL e,jX e,jM e]=(mw [some (kQ e,false),some (kL e,false),some (jX e,false),some (jM e,false),none,none,none,none]).bind fQ:=rfl;have h0:(cH 4 (cZ cv)) [some (kQ e,false),some (kL e,false),some (jX e,false),some (jM e,false),none,none,none,none]=some (.next (yr e [] none none none)):=by simp[cH,cZ,cv,Cp,yr]
 have hr:(cR (d2 cP (cc 1) (cx (dC (.int 0))))) (yr e [] none none none)=some ((ao e.k2.toNat).map fun (x:Nat)=>.int (x:Int)):=by
  rw[<-dE];exact dZ (o:=false) (by simp[yr,d2,cc,cx,dC,pY]) ⋯ ⋯
 obtain⟨de,h1,s5,s6,s7,h2⟩:=j5 (g:=gN 5) (b:=jy) (d:=fun (x:Nat)=>.int (x:Int)) (f:=fun (d:Nat)=>(.dict (dP e (d:Int)):D)) (P:=fun acc ρ=>∃s5 s6 s7,ρ=yr e acc s5 s6 s7) 1000000 (ao e.k2.toNat) [] _ ⟨none,none,none,rfl⟩ (by rw[aB,WO];omega)
  (fun x hx acc ρ ⟨u5,u6,u7,eq⟩ hl=>by
   rw[bz] at hx;have f:=fw (x:Int) ⋯ ⋯;obtain⟨t6,t7,hb⟩:=IW (d:=(x:Int)) (s6:=u6) (s7:=u7) ok sm hl ⋯ f.2;exact⟨_,_,by rw[eq];rfl,hb,_,t6,t7,rfl⟩)
 rw[run,mw,cJ h0,cI,eD hr,h1,ae,h2,bL];rfl
end
section
variable {e:Sb}{d:Int}
theorem JI (e:Sb)(d:Int):Be (.dict (dP e d))=some ((b8 e d).map fun t=>.tuple [cG t,.int (kN e d t)]):=by
 show (if dS (dP e d)=true then some ((dP e d).map fun p=>PyData.tuple [p.1,p.2]) else none)=_;rw[show dS (dP e d)=true from fL _ _,if_pos rfl];unfold dP ig;rw[bt];rfl
theorem ug (ok:eS e)(hz:(b8 e d).length<1000000):fN [.dict (dP e d)]=some (.list ((fs e d).map cG),true):=by
 have hr:(xK (cg 0)) [some (.dict (dP e d),false),some (.list [],true),none,none]=some ((b8 e d).map fun t=>.tuple [cG t,.int (kN e d t)]):=JI e d;obtain⟨de,h1,s2,s3,h2⟩:=j4 (g:=gT [gN 2,gN 3]) (b:=hU) (d:=fun t=>.tuple [cG t,.int (kN e d t)]) (P:=fun pre ρ=>∃s2 s3,ρ=[some (.dict (dP e d),false),some (.list ((pre.filter (dB (b8 e d) (ik e d))).map cG),true),s2,s3]) (b8 e d) (b8 e d) [] _ rfl ⟨none,none,rfl⟩
  (fun pre t post ρ hw zz=>by
   obtain ⟨u2,u3,eq⟩:=zz;have ht:t∈b8 e d:=hw▸by simp
   have hl:(pre++t::post).length=(b8 e d).length:=by rw[hw]
   rw[aw,aJ] at hl;have fl:(pre.filter (dB (b8 e d) (ik e d))).length<=pre.length:=WW _ _;have fst:=uf (r:=ik e d) (gg e d) hw;have M9:(dH (cc 3) [(om,(cx (d1 gn (cc 1))))]) [some (.dict (dP e d),false),some (.list ((pre.filter (dB (b8 e d) (ik e d))).map cG),true),some (cG t,false),some (.int (kN e d t),false)]=some (dB (b8 e d) (ik e d) t):=by
    show om (.int (kN e d t)) (.int ((((pre.filter (dB (b8 e d) (ik e d))).map cG).length:Nat):Int))=_;rw[fF,ai];congr 1;rw[Bool.eq_iff_iff,decide_eq_true_eq,<-fst];unfold kN;omega
   refine⟨[some (.dict (dP e d),false),some (.list ((pre.filter (dB (b8 e d) (ik e d))).map cG),true),some (cG t,false),some (.int (kN e d t),false)],[some (.dict (dP e d),false),some (.list (((pre++[t]).filter (dB (b8 e d) (ik e d))).map cG),true),some (cG t,false),some (.int (kN e d t),false)],by rw[eq];rfl,?_,_,_,rfl⟩;rw[hU,bZ];cases hb:dB (b8 e d) (ik e d) t with
   |true =>
    rw[hb] at M9;have JM:((pre.filter (dB (b8 e d) (ik e d))).map cG).length<sizeLine:=wZ (by rw[ai];omega);rw[Bf M9];show ((if ((pre.filter (dB (b8 e d) (ik e d))).map cG).length<sizeLine then some ((pre.filter (dB (b8 e d) (ik e d))).map cG++[cG t]) else none).map fun ys=>Fl.next _)=_;rw[if_pos JM,bO,hb,if_pos rfl,List.filter_nil,aU];rfl
   |false =>
    rw[hb] at M9;rw[CY M9,bO,hb,if_neg Bool.false_ne_true,List.filter_nil,bw];rfl)
 have run:fN [.dict (dP e d)]=(jS [some (.dict (dP e d),false),none,none,none]).bind fQ:=rfl;have h0:(cH 1 (cZ cv)) [some (.dict (dP e d),false),none,none,none]=some (.next [some (.dict (dP e d),false),some (.list [],true),none,none]):=by simp[cH,cZ,cv,Cp]
 rw[run,jS,cJ h0,cI,eD hr,show fo (gT [gN 2,gN 3]) hU ((b8 e d).map fun t=>PyData.tuple [cG t,.int (kN e d t)]) [some (.dict (dP e d),false),some (.list [],true),none,none]=_ from h1,ae,h2];rfl
noncomputable def yt (e:Sb)(s6 s7 s8 s9:Option Vl):Sl:=[some (kQ e,false),some (kL e,false),some (jX e,false),some (jM e,false),some (fH e,false),some (Nw e,false),s6,s7,s8,s9]
theorem Oo (ok:eS e)(fw:qx e){a:Int×Int}{b:Nat}{acc:List (List Int)}{s9:Option Vl}(ha:e.cW[b]?=some a)(hn:acc.length<1000000):∃t9,
  mF (yt e (some (.list (acc.map dI),true)) (some (.int (b:Int),false)) (some (cD a,false)) s9)=some (.next (yt e (some (.list ((acc++[rh e (a,b)]).map dI),true)) (some (.int (b:Int),false)) (some (cD a,false)) t9)):=by
 have wa:=ok.w2.ok a (aF ha);have fl:=Bp e a.1;have f1:=(fw a.1 wa.1 ⋯).1;have x0:=K1 e (d:=a.1) wa.1 ⋯;have x1:=sG e (d:=a.2) ⋯ wa.2.2;have h0:(cH 9 (d2 cP (cc 4) (cx (d2 cP (cc 8) (cx (dC (.int 1))))))) (yt e (some (.list (acc.map dI),true)) (some (.int (b:Int),false)) (some (cD a,false)) s9)=some (.next (yt e (some (.list (acc.map dI),true)) (some (.int (b:Int),false)) (some (cD a,false)) (some (.dict (dP e a.2),false)))):=by
  have q:(d2 cP (cc 4) (cx (d2 cP (cc 8) (cx (dC (.int 1)))))) (yt e (some (.list (acc.map dI),true)) (some (.int (b:Int),false)) (some (cD a,false)) s9)=some (.dict (dP e a.2),false):=by
   show (((cP (cD a) (.int 1)).map (·.1)).bind fun y=>cP (fH e) y)=_;rw[n8];exact x1
  rw[cH,q,ae];rfl
 have hr:(dq (gS (d2 cP (cc 5) (cx (d2 cP (cc 8) (cx (dC (.int 0)))))))) (yt e (some (.list (acc.map dI),true)) (some (.int (b:Int),false)) (some (cD a,false)) (some (.dict (dP e a.2),false)))=some ((fs e a.1).map cG):=by
  show ((((cP (cD a) (.int 0)).map (·.1)).bind fun y=>cP (Nw e) y).bind fun x=>dM x.1)=_;rw[mW];show ((cP (Nw e) (.int a.1)).bind fun x=>dM x.1)=_;rw[x0];rfl
 have c:=fM (it:=dq (gS (d2 cP (cc 5) (cx (d2 cP (cc 8) (cx (dC (.int 0)))))))) (n:=3) (ix:=[9,7]) (g:=gT [gN 0,gN 1,gN 2]) (e:=mv) (ρ:=yt e (some (.list (acc.map dI),true)) (some (.int (b:Int),false)) (some (cD a,false)) (some (.dict (dP e a.2),false))) (d:=cG) (β:=fun t=>.int (kN e a.2 (JY t [b]))) (fs e a.1) hr ⋯ (fun t ht=>by
  have it:=Bo ok ht;have sh:=oq ok it;have pa:=vZ b sh;have x2:=GS ok (Bl it ha rfl);refine⟨[some (.int t.1,false),some (cj t.2.1,false),some (.int t.2.2,false),some (.dict (dP e a.2),false),some (.int (b:Int),false)],false,rfl,?_⟩;have q1:(dj (b6 (cg 4) cv):ED) [some (.int t.1,false),some (cj t.2.1,false),some (.int t.2.2,false),some (.dict (dP e a.2),false),some (.int (b:Int),false)]=some (.tuple [.int (b:Int)],false):=by simp[dj,b6,cv,cg,Kt]
  have q2:(dj (b6 (cg 0) (b6 (d2 eQ (cc 1) (cx (dj (b6 (cg 4) cv)))) (b6 (cg 2) cv)))) [some (.int t.1,false),some (cj t.2.1,false),some (.int t.2.2,false),some (.dict (dP e a.2),false),some (.int (b:Int),false)]=some (cG (JY t [b]),false) :=
   oh (o:=false) (o':=false) (o'':=false) rfl (by rw[d2,cx,q1];exact pa) rfl
  rw[mv,d2,cx,q2];exact x2)
 have hz:(acc.map dI).length<sizeLine:=wZ (by rw[ai];exact hn);have q:(d1 dh (cx (da (dq (gS (d2 cP (cc 5) (cx (d2 cP (cc 8) (cx (dC (.int 0)))))))) 3 [9,7] (gT [(gN 0),(gN 1),(gN 2)]) f9 mv))) (yt e (some (.list (acc.map dI),true)) (some (.int (b:Int),false)) (some (cD a,false)) (some (.dict (dP e a.2),false)))=some (dI (rh e (a,b)),false):=by
  rw[d1,cx,c,au,ae];unfold rh dI;rw[bt];rfl
 refine⟨some (.dict (dP e a.2),false),?_⟩;rw[mF,cJ h0,gv,q,ae];show ((if (acc.map dI).length<sizeLine then some (acc.map dI++[dI (rh e (a,b))]) else none).map fun ys=>Fl.next _)=_;rw[if_pos hz,aU];rfl
theorem BH (ok:eS e)(sm:kO e)(fw:qx e):lY [kQ e,kL e,jX e,jM e]=some (dW (uF e) (mO e),false):=by
 have k0:=ok.w2.lo;have k4:=ok.h4;have run:lY [kQ e,kL e,jX e,jM e]=(rg [some (kQ e,false),some (kL e,false),some (jX e,false),some (jM e,false),none,none,none,none,none,none]).bind fQ:=rfl;have q0:(gc 4 (cH 4 (cF eA (b6 (cg 0) (b6 (cg 1) (b6 (cg 2) (b6 (cg 3) cv))))))) [some (kQ e,false),some (kL e,false),some (jX e,false),some (jM e,false),none,none,none,none,none,none]=some (.next [some (kQ e,false),some (kL e,false),some (jX e,false),some (jM e,false),some (fH e,false),none,none,none,none,none]):=by
  have c:(cF eA (b6 (cg 0) (b6 (cg 1) (b6 (cg 2) (b6 (cg 3) cv))))) [some (kQ e,false),some (kL e,false),some (jX e,false),some (jM e,false),none,none,none,none,none,none]=some (fH e,true):=vL ok sm fw;rw[gc,cH,c,ae];rfl
 have c1:=fM (it:=dq (fj 4)) (n:=1) (ix:=[]) (g:=gN 0) (e:=oZ) (ρ:=[some (kQ e,false),some (kL e,false),some (jX e,false),some (jM e,false),some (fH e,false),none,none,none,none,none]) (d:=fun (d:Nat)=>.dict (dP e (d:Int))) (β:=fun (d:Nat)=>.list ((fs e (d:Int)).map cG)) (ao e.k2.toNat) rfl (by rw[aB];omega) (fun x hx=>by
  rw[bz] at hx;have f:=fw (x:Int) ⋯ ⋯;exact⟨_,true,rfl,(show _=fN [.dict (dP e (x:Int))] from rfl).trans (ug ok ⋯)⟩)
 have q1:(gc 5 (cH 5 (da (dq (fj 4)) 1 [] (gN 0) f9 oZ))) [some (kQ e,false),some (kL e,false),some (jX e,false),some (jM e,false),some (fH e,false),none,none,none,none,none]=some (.next (yt e none none none none)):=by
  rw[gc,cH,c1,ae];rfl
 have h0:(cH 6 (cZ cv)) (yt e none none none none)=some (.next (yt e (some (.list (([]:List (List Int)).map dI),true)) none none none)):=by simp[cH,cZ,cv,Cp,yt]
 have hr:(eO (gS (d2 cP (cc 1) (cx (dC (.int 1)))))) (yt e (some (.list (([]:List (List Int)).map dI),true)) none none none)=some (e.cW.zipIdx.map fun p=>.tuple [.int (p.2:Int),cD p.1]):=by
  rw[<-gW];show (((cP (kL e) (.int 1)).bind fun x=>dM x.1).map (fG 0))=_;rw[kZ];rfl
 have a2:=sm.a2;obtain⟨de,h1,t7,t8,t9,h2⟩:=j5 (g:=gT [gN 7,gN 8]) (b:=mF) (d:=fun (p:(Int×Int)×Nat)=>.tuple [.int (p.2:Int),cD p.1]) (f:=rh e) (P:=fun acc ρ=>∃s7 s8 s9,ρ=yt e (some (.list (acc.map dI),true)) s7 s8 s9) 1000000 e.cW.zipIdx [] _ ⟨none,none,none,rfl⟩ (by rw[bM];simp;omega)
  (fun p hp acc ρ ⟨u7,u8,u9,eq⟩ hl=>by
   obtain⟨t9,hb⟩:=Oo (s9:=u9) ok fw (List.mem_zipIdx_iff_getElem?.mp hp) hl;exact⟨_,_,by rw[eq];rfl,hb,_,_,t9,rfl⟩)
 have c2:=fM (it:=dq (fj 5)) (n:=1) (ix:=[]) (g:=gN 0) (e:=oY) (ρ:=yt e (some (.list ((mO e).map dI),true)) t7 t8 t9) (d:=fun (d:Nat)=>.list ((fs e (d:Int)).map cG)) (β:=fun (d:Nat)=>.int ((fs e (d:Int)).length:Int)) (ao e.k2.toNat) rfl (by rw[aB];omega) (fun x hx=>⟨_,false,rfl,by
  show some ((PyData.int (((fs e (x:Int)).map cG).length:Int),false):Vl)=_;rw[ai]⟩)
 have q3:(d1 dh (cx (da (dq (fj 5)) 1 [] (gN 0) f9 oY))) (yt e (some (.list ((mO e).map dI),true)) t7 t8 t9)=some (dI (uF e),false):=by
  rw[d1,cx,c2,au,ae];unfold uF dI;rw[bt];rfl
 have q4:(d1 dh (cc 6)) (yt e (some (.list ((mO e).map dI),true)) t7 t8 t9)=some (.tuple ((mO e).map dI),false):=rfl;rw[run,rg,cJ q0,cJ q1,cJ h0,cI,eD hr,h1,ae,h2,bL];show ((fi _) (yt e (some (.list ((mO e).map dI),true)) t7 t8 t9)).bind fQ=_;rw[fi,HB q3 q4];rfl
noncomputable def D4 (e:Sb)(s5 s6 s7:Option Vl):Sl:=[some (kQ e,false),some (kL e,false),some (jX e,false),some (jM e,false),some (fH e,false),s5,s6,s7]
theorem Oj (ok:eS e)(sm:kO e){p:Int×Nat}{acc:List (List Int)}(hp:p∈e.pl.zipIdx)(hn:acc.length<1000000) :
  sJ (D4 e (some (.list (acc.map dI),true)) (some (.int (p.2:Int),false)) (some (.int p.1,false)))=some (.next (D4 e (some (.list ((acc++[ve e p]).map dI),true)) (some (.int (p.2:Int),false)) (some (.int p.1,false)))):=by
 have zI:e.pl[p.2]?=some p.1:=List.mem_zipIdx_iff_getElem?.mp hp;have l:=ok.s.len;have lb:=ok.b.len;have hl:=(List.getElem?_eq_some_iff.mp zI).1;have pg:gI e.pl (p.2:Int)=p.1:=by
  unfold gI;rw[aQ,av,zI];rfl
 have pk:=fv ok (show 0<=(p.2:Int) by omega) ⋯;rw[pg] at pk;have n0:=mK ok.b.nn (p.2:Int);have n1:=rK (m:=1000) ⋯ sm.rw (p.2:Int);have ix:=rz (xs:=e.rows) (i:=(p.2:Int)) ⋯ ⋯;have x1:=sG e pk.1 pk.2;have hr:(cR (d2 cP (cx (d2 cP (cc 3) (cx (dC (.int 0))))) (cc 6))) (D4 e (some (.list (acc.map dI),true)) (some (.int (p.2:Int),false)) (some (.int p.1,false)))=some ((ao (gI e.rows (p.2:Int)).toNat).map fun (x:Nat)=>.int (x:Int)):=by
  rw[<-dE];exact dZ (o:=false) (by simp[D4,d2,cc,cx,dC,wN,ix]) n0 ⋯
 have c:=fM (it:=cR (d2 cP (cx (d2 cP (cc 3) (cx (dC (.int 0))))) (cc 6))) (n:=1) (ix:=[4,7,6]) (g:=gN 0) (e:=sF) (ρ:=D4 e (some (.list (acc.map dI),true)) (some (.int (p.2:Int),false)) (some (.int p.1,false))) (d:=fun (x:Nat)=>.int (x:Int)) (β:=fun (x:Nat)=>.int (kN e p.1 ((p.2:Int),[],(x:Int)))) (ao (gI e.rows (p.2:Int)).toNat) hr (by rw[aB];omega) (fun x hx=>by
  rw[bz] at hx;have it:=Ck (e:=e) (c:=(p.2:Int)) (x:=(x:Int)) ⋯ ⋯ ⋯ ⋯;rw[pg] at it;have x2:=GS ok it;refine⟨[some (.int (x:Int),false),some (fH e,false),some (.int p.1,false),some (.int (p.2:Int),false)],false,rfl,?_⟩;have q0:(dj cv:ED) [some (.int (x:Int),false),some (fH e,false),some (.int p.1,false),some (.int (p.2:Int),false)]=some (.tuple [],false):=by simp[dj,cv,Cp]
  have q2:(dj (b6 (cg 3) (b6 (dj cv) (b6 (cg 0) cv)))) [some (.int (x:Int),false),some (fH e,false),some (.int p.1,false),some (.int (p.2:Int),false)]=some (cG ((p.2:Int),[],(x:Int)),false):=oh (o:=false) (o':=false) (o'':=false) (by simp[cg]) q0 (by simp[cg]);rw[sF,d2,cx,cx,q2];simp only[d2,cc,aH,aI,ae,au,x1,x2])
 have hz:(acc.map dI).length<sizeLine:=wZ (by rw[ai];exact hn);have q:(d1 dh (cx (da (cR (d2 cP (cx (d2 cP (cc 3) (cx (dC (.int 0))))) (cc 6))) 1 [4,7,6] (gN 0) f9 sF))) (D4 e (some (.list (acc.map dI),true)) (some (.int (p.2:Int),false)) (some (.int p.1,false)))=some (dI (ve e p),false):=by
  rw[d1,cx,c,au,ae];unfold ve dI;rw[bt];rfl
 rw[sJ,gv,q,ae,lN];simp only[D4,aH,aI,hz,if_true,au,bV,aU,aC,bD]
theorem IA (ok:eS e)(sm:kO e)(fw:qx e):vb [kQ e,kL e,jX e,jM e]=some (.tuple ((pH e).map dI),false):=by
 have l:=ok.s.len;have k1:=sm.k1;have run:vb [kQ e,kL e,jX e,jM e]=(BB [some (kQ e,false),some (kL e,false),some (jX e,false),some (jM e,false),none,none,none,none]).bind fQ:=rfl;have q0:(gc 4 (cH 4 (cF eA (b6 (cg 0) (b6 (cg 1) (b6 (cg 2) (b6 (cg 3) cv))))))) [some (kQ e,false),some (kL e,false),some (jX e,false),some (jM e,false),none,none,none,none]=some (.next (D4 e none none none)):=by
  have c:(cF eA (b6 (cg 0) (b6 (cg 1) (b6 (cg 2) (b6 (cg 3) cv))))) [some (kQ e,false),some (kL e,false),some (jX e,false),some (jM e,false),none,none,none,none]=some (fH e,true):=vL ok sm fw;rw[gc,cH,c,ae];rfl
 have h0:(cH 5 (cZ cv)) (D4 e none none none)=some (.next (D4 e (some (.list (([]:List (List Int)).map dI),true)) none none)):=by simp[cH,cZ,cv,Cp,D4]
 have hr:(eO (gS (d2 cP (cc 2) (cx (dC (.int 0)))))) (D4 e (some (.list (([]:List (List Int)).map dI),true)) none none)=some (e.pl.zipIdx.map fun p=>.tuple [.int (p.2:Int),.int p.1]):=by
  rw[<-gW];show (((cP (jX e) (.int 0)).bind fun x=>dM x.1).map (fG 0))=_;rw[td];rfl
 obtain⟨de,h1,t6,t7,h2⟩:=j5 (g:=gT [gN 6,gN 7]) (b:=sJ) (d:=fun (p:Int×Nat)=>.tuple [.int (p.2:Int),.int p.1]) (f:=ve e) (P:=fun acc ρ=>∃s6 s7,ρ=D4 e (some (.list (acc.map dI),true)) s6 s7) 1000000 e.pl.zipIdx [] _ ⟨none,none,rfl⟩ (by rw[bM];simp;omega)
  (fun p hp acc ρ ⟨u6,u7,eq⟩ hl=>⟨_,_,by rw[eq];rfl,Oj ok sm hp hl,_,_,rfl⟩)
 rw[run,BB,cJ q0,cJ h0,cI,eD hr,h1,ae,h2,bL,Fy ok];rfl
end
noncomputable def ji (ch:List (List Int)):D:=.tuple (ch.map dI)
theorem GC (ch:List (List Int)):Nb 2 (ji ch):=.tuple (mf KD ch)
theorem MH {xs:List Int}(h:xs.length<=1000000):iR [some (dI xs,false)]=some (.bool true,false):=by
 simp[iR,cF,b6,cv,cg,oK h]
theorem HG {ch:List (List Int)}(hl:ch.length<=1000000)(hs:∀s∈ch,s.length<=1000000):iK [ji ch,ji ch]=some (.bool true,false):=by
 have run:iK [ji ch,ji ch]=(nB [some (ji ch,false),some (ji ch,false)]).bind fQ:=rfl;have a1:md "tuple" (ji ch)=some (.bool true,false):=rfl;have c:=fM (it:=dq (fj 0)) (n:=1) (ix:=[]) (g:=gN 0) (e:=iR) (ρ:=[some (ji ch,false),some (ji ch,false)]) (d:=dI) (β:=fun _=>.bool true) ch (by simp[dq,fj,ji]) hl
  (fun x hx=>⟨_,false,rfl,MH (hs x hx)⟩)
 have e3:=uO (GC ch);have a2:(d1 qP (cx (da (dq (fj 0)) 1 [] (gN 0) f9 iR))) [some (ji ch,false),some (ji ch,false)]=some (.bool true,false):=by
  rw[d1,cx,c,au,ae,rj]
 rw[run,nB,fi,vB,d1,cc];simp[a1,B0,vB,a2,uy,dH,dR,cc,e3,fQ]
theorem law_true (ns:List Int)(_:ns.length<=63):F_law [.list (ns.map .int)]=some (.bool true,false):=by
 obtain⟨k1,a1,e1,w1,T2,ha1⟩:=C6 ns 0 (most:=3) (many:=3) (by decide) (by decide) (by decide) (by decide);obtain⟨k2,a2,e2,w2,Ic,zL⟩:=C6 ns 3 (most:=4) (many:=4) (by decide) (by decide) (by decide) (by decide);have MA:gk [.list (ns.map .int),.int 0,.int 3,.int 3]=some (cp k1 a1,false):=e1;have Hg:gk [.list (ns.map .int),.int 3,.int 4,.int 4]=some (cp k2 a2,false):=e2;have l1:a1.length<=3:=by omega
 have l2:a2.length<=4:=by omega
 obtain⟨pl,ws,qV,s1⟩:=xE ns 6 w1 ⋯ ⋯ w2 ⋯ ⋯;have SU:iJ [.list (ns.map .int),.int 6,cp k1 a1,cp k2 a2]=some (gF pl ws,false):=qV;have WC:cL [.list (ns.map .int),.int 10]=some (.int (cell ns 10),false):=k7 ns 10;have m0:0<=cell ns 10%2:=W9 _ (by decide);have m1:cell ns 10%2<2:=WU _ (by decide);generalize cell ns 10%2=mo at *;obtain⟨r,st,eb,b,m⟩:=Kf ns 8 w1 ⋯ ⋯ (most:=2+cell ns 10%2) ⋯ ⋯;have Wx:iD [.list (ns.map .int),.int 8,cp k1 a1,.int (2+cell ns 10%2)]=some (dW r st,false):=eb;have ok:eS ⟨k1,a1,k2,a2,pl,ws,r,st⟩:=⟨w1,w2,by show k2<=4;omega,s1,b⟩;have sm:kO ⟨k1,a1,k2,a2,pl,ws,r,st⟩:=⟨by show k1<=4;omega,by show a1.length<=5;omega,by show a2.length<=5;omega,fun x hx=>by have:=m x hx;omega⟩;have fw:qx ⟨k1,a1,k2,a2,pl,ws,r,st⟩:=Mz ok (by show k1<=3;omega) (by show a1.length<=5;omega) (by show a2.length<=4;omega) fun x hx=>by have:=m x hx;omega
 generalize he:(⟨k1,a1,k2,a2,pl,ws,r,st⟩:Sb)=e at ok sm fw;have E1:kQ e=cp k1 a1:=by rw[<-he]
 have E2:kL e=cp k2 a2:=by rw[<-he]
 have E3:jX e=gF pl ws:=by rw[<-he]
 have E4:jM e=dW r st:=by rw[<-he]
 have t1:=rZ ok sm fw;have t2:=BH ok sm fw;have t3:=tP ok sm fw;have t4:=IA ok sm fw;have t5:=zy ok sm;rw[E1,E2,E3,E4] at t1 t2 t4;rw[E2] at t3;rw[E3,E4] at t5;have bo:=MI ok;have bl:=bo.len;have bs:=bo.sl;have k4:=ok.h4;have k1':=sm.k1;have a2':=sm.a2;have pr:=Jg (rows:=uF e) (steps:=mO e) ⋯ ⋯ (fun s hs=>by
  unfold mO at hs;obtain⟨p,hp,rfl⟩:=List.mem_map.mp hs;have zI:e.cW[p.2]?=some p.1:=List.mem_zipIdx_iff_getElem?.mp hp;have wa:=ok.w2.ok p.1 (aF zI);have f:=(fw p.1.1 wa.1 ⋯).1;have fl:=Bp e p.1.1;unfold rh;rw[ai];omega)
 have pc:=HG (ch:=pH e) (by unfold pH;rw[ai,aB];omega) (fun s hs=>by
  unfold pH at hs;obtain⟨c,_,rfl⟩:=List.mem_map.mp hs;have n1:=rK (m:=1000) ⋯ sm.rw (c:Int);rw[ai,aB];omega)
 have run:F_law [.list (ns.map .int)]=(Dj [some (.list (ns.map .int),false),none,none,none,none,none]).bind fQ:=rfl;have q4:(cF iD (b6 (cg 0) (b6 (dC (.int 8)) (b6 (cg 1) (b6 (d2 eQ (cx (dC (.int 2))) (cx (d2 nZ (cx (cF cL (b6 (cg 0) (b6 (dC (.int 10)) cv)))) (cx (dC (.int 2)))))) cv))))) [some (.list (ns.map .int),false),some (cp k1 a1,false),some (cp k2 a2,false),some (gF pl ws,false),none,none]=some (dW r st,false):=by
  simp[cF,b6,cv,cg,dC,d2,cx,WC,iO,eQ,Wx]
 have hd:Dj [some (.list (ns.map .int),false),none,none,none,none,none]=some (.ret (.bool true,false)):=by
  rw[Dj];rw[cJ (de:=[some (.list (ns.map .int),false),some (cp k1 a1,false),none,none,none,none]) (by simp[cH,b6,cv,cF,cg,dC,MA])];rw[cJ (de:=[some (.list (ns.map .int),false),some (cp k1 a1,false),some (cp k2 a2,false),none,none,none]) (by simp[cH,b6,cv,cF,cg,dC,Hg])];rw[cJ (de:=[some (.list (ns.map .int),false),some (cp k1 a1,false),some (cp k2 a2,false),some (gF pl ws,false),none,none]) (by simp[cH,b6,cv,cF,cg,dC,SU])];rw[cJ (de:=[some (.list (ns.map .int),false),some (cp k1 a1,false),some (cp k2 a2,false),some (gF pl ws,false),some (dW r st,false),none]) (by rw[cH,q4];rfl)];rw[cJ (de:=[some (.list (ns.map .int),false),some (cp k1 a1,false),some (cp k2 a2,false),some (gF pl ws,false),some (dW r st,false),some (fH e,false)]) (by
   have c:(cF f7 (b6 (cg 1) (b6 (cg 2) (b6 (cg 3) (b6 (cg 4) cv))))) [some (.list (ns.map .int),false),some (cp k1 a1,false),some (cp k2 a2,false),some (gF pl ws,false),some (dW r st,false),none]=some (fH e,true):=t1;rw[gc,cH,c];rfl)]
  rw[EA (by simp[kM,si,cF,b6,cv,cg,t2,t3,pr,B0])];have UZ:iK [.tuple ((pH e).map dI),.tuple ((pH e).map dI)]=some (.bool true,false):=pc;simp[fi,cF,b6,cv,cg,t4,t5,UZ]
 rw[run,hd];rfl
end Lw
set_option maxHeartbeats 4000000
namespace Lw
open PySem DL
noncomputable def top (i:Nat):Stmt:=PySem.Challenge.pw_formshift_k07_carried.main.body.getD i (.Pass ⟨0,0,0,0⟩)
noncomputable abbrev oA:Stmt:=top 16
noncomputable abbrev oE:Stmt:=top 17
noncomputable abbrev oD:Stmt:=top 19
noncomputable abbrev oB:Stmt:=top 20
noncomputable abbrev mT:Stmt:=top 21
noncomputable abbrev oC:Stmt:=top 24
noncomputable abbrev mS:Stmt:=top 25
noncomputable abbrev kj:Stmt:=top 22
noncomputable abbrev oz:Stmt:=top 27
noncomputable abbrev l6:Stmt:=top 28
noncomputable abbrev iN:Stmt:=top 29
noncomputable abbrev mR:Stmt:=top 18
noncomputable abbrev jr:Stmt:=top 33
noncomputable abbrev kT:Stmt:=top 35
noncomputable abbrev l7:Stmt:=top 34
noncomputable abbrev iy:Stmt:=top 6
noncomputable abbrev tu:Stmt:=top 1
noncomputable abbrev jZ:Stmt:=top 3
noncomputable abbrev su:Stmt:=top 2
noncomputable abbrev qH:Stmt:=top 9
noncomputable abbrev ou:Stmt:=top 10
noncomputable abbrev FZ:Stmt:=top 8
noncomputable abbrev AJ:Stmt:=top 7
noncomputable abbrev jY:Stmt:=top 5
noncomputable abbrev xb:Stmt:=top 14
noncomputable abbrev l5:Stmt:=top 32
noncomputable abbrev jP:Stmt:=top 11
noncomputable abbrev kc:Stmt:=top 13
noncomputable abbrev l8:Stmt:=top 30
noncomputable abbrev ip:Stmt:=top 31
noncomputable abbrev tq:Stmt:=top 36
structure Txt (mg:Str->Option Value):Prop where
 HN:mg "all" = none
 MW:mg "bool" = none
 MV:mg "dict" = none
 eB:mg "enumerate" = none
 P4:mg "int" = none
 hJ:mg "isinstance" = none
 lX:mg "len" = none
 MU:mg "list" = none
 P0:mg "max" = none
 La:mg "min" = none
 fW:mg "range" = none
 PZ:mg "set" = none
 z0:mg "sorted" = none
 eE:mg "tuple" = none
 K9:mg "zip" = none
section
variable {P:Program}{w:World}{K:PySem.W.Frag}{mg:Str->Option Value}{base:Heap}
theorem iF:L2.FnScope ["cell", "found", "factor", "mixed"] ["cell"] (L2.defScope oA):=⟨rfl,rfl,rfl,by decide +kernel,rfl,by decide +kernel,by decide +kernel⟩
theorem ze {f:Addr}{fd:FuncData}(T:Txt mg)  (Fu:L2.Fun K "_law_stir" "_law_stir" oA f fd):L2.FnOk P w K mg base L2.CX0 1 f fd ["cell"] (spD K jj) :=
 fU Fu iF fun gD A outer s H E hr =>
  (cu (cS (i:=1) iF.nd cy)
  (cu (dD rfl (fR (iu (eW (b7 cy (b7 cy (b7 cy (b7 cy cz))))))) (cB (i:=2) iF.nd) (cu (cS (i:=3) iF.nd (dk L2.op_mod kv (DE.bb (dk L2.op_addA fx (DE.bb (dk L2.op_mul oJ (cf 0) (cf 2))) (DE.bb cy))) (DE.bb cy)))
  (cu (cS (i:=3) iF.nd (dk L2.op_mod kv (DE.bb (dk L2.op_mul oJ (DE.bb (dk L2.op_mod kv (DE.bb (dk L2.op_mul oJ (cf 3) (cf 3))) (DE.bb cy))) (DE.bb cy))) (DE.bb cy)))
  (cA (cS (i:=1) iF.nd (dk L2.op_addA fx (DE.bb (dk L2.op_mul oJ (cf 1) (DE.bb (dk L2.op_pow LU (DE.bb cy) (DE.bb cy))))) (DE.bb (dk L2.op_fdiv AX (cf 3) (DE.bb cy)))))))))
  (cA (fc (ck 1)))))
theorem yP:L2.FnScope ["script", "k"] ["script", "k"] (L2.defScope oE):=⟨rfl,rfl,rfl,by decide +kernel,rfl,by decide +kernel,by decide +kernel⟩
theorem zk {f:Addr}{fd:FuncData}(T:Txt mg)(uH:gf P w K mg base 1 "_law_stir" ["cell"] jj)(Fu:L2.Fun K "_law_cell" "_law_cell" oE f fd):L2.FnOk P w K mg base L2.CX0 2 f fd ["script", "k"] (spD K cL) :=
 fU Fu yP fun gD A outer s H E hr =>
  (cu (jV (iS L2.op_lt PU (cf 1) (DE.bb (jQ T.lX (cf 0)))) (cA (fc (df uH hr (b7 (cO (cf 0) (cf 1)) cz)))) gi)
  (cA (fc (df uH hr (b7 cy cz)))))
theorem kS:L2.FnScope ["cell", "k", "bound", "stir", "turn"] ["cell", "k", "bound"] (L2.defScope oD):=⟨rfl,rfl,rfl,by decide +kernel,rfl,by decide +kernel,by decide +kernel⟩
theorem zj {f:Addr}{fd:FuncData}(T:Txt mg)  (Fu:L2.Fun K "_law_draw" "_law_draw" oD f fd):L2.FnOk P w K mg base L2.CX0 1 f fd ["cell", "k", "bound"] (spD K cX) :=
 fU Fu kS fun gD A outer s H E hr =>
  (cu (cS (i:=3) kS.nd (dk L2.op_mod kv (DE.bb (dk L2.op_addA fx (DE.bb (dk L2.op_addA fx (DE.bb (dk L2.op_mod kv (cf 0) (DE.bb cy))) (DE.bb cy))) (DE.bb (dk L2.op_mul oJ (cf 1) (DE.bb cy))))) (DE.bb cy)))
  (cu (dD rfl (eN T.fW cy) (cB (i:=4) kS.nd) (cA (cS (i:=3) kS.nd (dk L2.op_mod kv (DE.bb (dk L2.op_mul oJ (cf 3) (DE.bb cy))) (DE.bb cy)))))
  (cA (fc (dk L2.op_mod kv (DE.bb (dk L2.op_fdiv AX (cf 3) (DE.bb cy))) (cf 2))))))
theorem iG:L2.FnScope ["script", "first", "most", "many", "kinds", "arrows", "k", "a", "b"] ["script", "first", "most", "many"] (L2.defScope oB):=⟨rfl,rfl,rfl,by decide +kernel,rfl,by decide +kernel,by decide +kernel⟩
theorem zh {f:Addr}{fd:FuncData}(T:Txt mg)(fg:gf P w K mg base 2 "_law_cell" ["script", "k"] cL)(gP:gf P w K mg base 1 "_law_draw" ["cell", "k", "bound"] cX)(Fu:L2.Fun K "_law_form" "_law_form" oB f fd):L2.FnOk P w K mg base L2.CX0 3 f fd ["script", "first", "most", "many"] (spD K gk) :=
 fU Fu iG fun gD A outer s H E hr =>
  (cu (cS (i:=4) iG.nd (dk L2.op_addA fx (DE.bb cy) (DE.bb (dk L2.op_mod kv (DE.bb (df fg hr (b7 (ck 0) (b7 (ck 1) cz)))) (cf 2)))))
  (cu (cS (i:=5) iG.nd (eW cz))
  (cu (jV (iS L2.op_gt HI (cf 4) (DE.bb cy)) (cA (dD rfl (eN T.fW (dk L2.op_mod kv (DE.bb (dk L2.op_fdiv AX (DE.bb (df fg hr (b7 (ck 0) (b7 (ck 1) cz)))) (cf 2))) (DE.bb (dk L2.op_addA fx (cf 3) (DE.bb cy))))) (cB (i:=6) iG.nd) (cu (cS (i:=7) iG.nd (df gP hr (b7 (df fg hr (b7 (ck 0) (b7 (dk L2.op_addA fx (cf 1) (DE.bb cy)) cz))) (b7 (ck 6) (b7 (dk L2.op_sub AW (cf 4) (DE.bb cy)) cz)))))
  (cu (cS (i:=8) iG.nd (dk L2.op_addA fx (DE.bb (dk L2.op_addA fx (cf 7) (DE.bb cy))) (DE.bb (df gP hr (b7 (df fg hr (b7 (ck 0) (b7 (dk L2.op_addA fx (cf 1) (DE.bb cy)) cz))) (b7 (ck 6) (b7 (dk L2.op_sub AW (DE.bb (dk L2.op_sub AW (cf 4) (DE.bb cy))) (cf 7)) cz)))))))
  (cA (gL (i:=5) (eh (b7 (ck 7) (b7 (ck 8) cz))))))))) gi)
  (cA (fc (eh (b7 (ck 4) (b7 (eJ T.eE (cf 5)) cz))))))))
theorem fk:L2.FnScope ["form", "kind", "other", "found", "layer", "more", "path", "at", "k", "arrow"] ["form", "kind", "other"] (L2.defScope mT):=⟨rfl,rfl,rfl,by decide +kernel,rfl,by decide +kernel,by decide +kernel⟩
theorem xq {f:Addr}{fd:FuncData}(T:Txt mg)  (Fu:L2.Fun K "_law_paths" "_law_paths" mT f fd):L2.FnOk P w K mg base L2.CX0 1 f fd ["form", "kind", "other"] (spD K dF) :=
 fU Fu fk fun gD A outer s H E hr =>
  (cu (cS (i:=3) fk.nd (eW cz))
  (cu (jf 4 (cS (i:=4) fk.nd (eW (b7 (eh (b7 (eh cz) (b7 (ck 1) cz))) cz))))
  (cu (uo (iS (xm hr.units) Dn (cf 4) (DE.bb (eW cz))) (cu (cS (i:=5) fk.nd (eW cz))
  (cu (dD rfl (fR (gM 4)) (f6 rfl (cQ (cB (i:=6) fk.nd) (cQ (cB (i:=7) fk.nd) eY))) (cu (jV (iS (jb hr.units) lW (cf 7) (cf 2)) (cA (gL (i:=3) (ck 6))) gi)
  (cA (dD rfl (iz T.eB (iu (cO (cf 0) (DE.bb cy)))) (f6 rfl (cQ (cB (i:=8) fk.nd) (cQ (cB (i:=9) fk.nd) eY))) (cA (jV (iS (jb hr.units) lW (DE.bb (cO (cf 9) (DE.bb cy))) (cf 7)) (cA (gL (i:=5) (eh (b7 (dk L2.op_addA fx (cf 6) (DE.bb (eh (b7 (ck 8) cz)))) (b7 (cO (cf 9) (DE.bb cy)) cz))))) gi))))))
  (cA (Hl 5 (cS (i:=4) fk.nd (ck 5)))))))
  (cA (jv 3)))))
theorem mQ:L2.FnScope ["target", "places", "arrows", "kind", "spot", "a", "b"] ["target", "places", "arrows", "kind", "spot"] (L2.defScope oC):=⟨rfl,rfl,rfl,by decide +kernel,rfl,by decide +kernel,by decide +kernel⟩
theorem zi {f:Addr}{fd:FuncData}(T:Txt mg)(gO:gf P w K mg base 1 "_law_paths" ["form", "kind", "other"] dF)(Fu:L2.Fun K "_law_fits" "_law_fits" oC f fd):L2.FnOk P w K mg base L2.CX0 2 f fd ["target", "places", "arrows", "kind", "spot"] (spD K fS) :=
 fU Fu mQ fun gD A outer s H E hr =>
  (cu (dD rfl (fR (gM 2)) (f6 rfl (cQ (cB (i:=5) mQ.nd) (cQ (cB (i:=6) mQ.nd) eY))) (cA (jV (DW.tt (Hj (iS (jb hr.units) lW (cf 6) (cf 3)) (Dd (iS (jb hr.units) lW (DE.bb (df gO hr (b7 (ck 0) (b7 (cO (cf 1) (cf 5)) (b7 (ck 4) cz))))) (DE.bb (eW cz)))))) (cA (fc rN)) gi)))
  (cA (fc rN)))
theorem eP:L2.FnScope ["script", "first", "source", "target", "places", "kind", "spot", "turn", "ways", "k", "arrow", "some"] ["script", "first", "source", "target"] (L2.defScope mS):=⟨rfl,rfl,rfl,by decide +kernel,rfl,by decide +kernel,by decide +kernel⟩
theorem xp {f:Addr}{fd:FuncData}(T:Txt mg)(gP:gf P w K mg base 1 "_law_draw" ["cell", "k", "bound"] cX)(fg:gf P w K mg base 2 "_law_cell" ["script", "k"] cL)(uK:gf P w K mg base 2 "_law_fits" ["target", "places", "arrows", "kind", "spot"] fS)(gO:gf P w K mg base 1 "_law_paths" ["form", "kind", "other"] dF)(Fu:L2.Fun K "_law_shift" "_law_shift" mS f fd):L2.FnOk P w K mg base L2.CX0 3 f fd ["script", "first", "source", "target"] (spD K iJ) :=
 fU Fu eP fun gD A outer s H E hr =>
  (cu (cS (i:=4) eP.nd (eW cz))
  (cu (dD rfl (eN T.fW (cO (cf 2) (DE.bb cy))) (cB (i:=5) eP.nd) (cu (cS (i:=6) eP.nd (df gP hr (b7 (df fg hr (b7 (ck 0) (b7 (ck 1) cz))) (b7 (ck 5) (b7 (cO (cf 3) (DE.bb cy)) cz)))))
  (cu (dD rfl (eN T.fW (cO (cf 3) (DE.bb cy))) (cB (i:=7) eP.nd) (cA (jV (Hk (o4 (nu (df uK hr (b7 (ck 3) (b7 (ck 4) (b7 (cO (cf 2) (DE.bb cy)) (b7 (ck 5) (b7 (ck 6) cz))))))))) (cA (cS (i:=6) eP.nd (dk L2.op_mod kv (DE.bb (dk L2.op_addA fx (cf 6) (DE.bb cy))) (DE.bb (cO (cf 3) (DE.bb cy)))))) gi)))
  (cu (jV (Hk (o4 (nu (df uK hr (b7 (ck 3) (b7 (ck 4) (b7 (cO (cf 2) (DE.bb cy)) (b7 (ck 5) (b7 (ck 6) cz))))))))) (cA (fc (eh (b7 (eJ T.eE (DE.bb (Di (K4 (eW (b7 (ck 6) cz))) (DE.bb (cO (cf 2) (DE.bb cy)))))) (b7 (eJ T.eE (DE.bb (Di (K4 (eW (b7 (eh cz) cz))) (DE.bb (jQ T.lX (DE.bb (cO (cf 2) (DE.bb cy)))))))) cz))))) gi)
  (cA (gL (i:=4) (ck 6)))))))
  (cu (cS (i:=8) eP.nd (eW cz))
  (cu (dD rfl (iz T.eB (iu (cO (cf 2) (DE.bb cy)))) (f6 rfl (cQ (cB (i:=9) eP.nd) (cQ (cB (i:=10) eP.nd) eY))) (cu (jf 11 (cS (i:=11) eP.nd (df gO hr (b7 (ck 3) (b7 (cO (cf 4) (DE.bb (cO (cf 10) (DE.bb cy)))) (b7 (cO (cf 4) (DE.bb (cO (cf 10) (DE.bb cy)))) cz))))))
  (cA (gL (i:=8) (cO (cf 11) (DE.bb (df gP hr (b7 (df fg hr (b7 (ck 0) (b7 (dk L2.op_addA fx (cf 1) (DE.bb cy)) cz))) (b7 (ck 9) (b7 (jQ T.lX (cf 11)) cz))))))))))
  (cA (fc (eh (b7 (eJ T.eE (cf 4)) (b7 (eJ T.eE (cf 8)) cz)))))))))
theorem gh:L2.FnScope ["script", "first", "form", "most", "rows", "a", "b", "steps", "k", "arrow", "cell"] ["script", "first", "form", "most"] (L2.defScope kj):=⟨rfl,rfl,rfl,by decide +kernel,rfl,by decide +kernel,by decide +kernel⟩
theorem zl {f:Addr}{fd:FuncData}(T:Txt mg)(gP:gf P w K mg base 1 "_law_draw" ["cell", "k", "bound"] cX)(fg:gf P w K mg base 2 "_law_cell" ["script", "k"] cL)(Fu:L2.Fun K "_law_book" "_law_book" kj f fd):L2.FnOk P w K mg base L2.CX0 3 f fd ["script", "first", "form", "most"] (spD K iD) :=
 fU Fu gh fun gD A outer s H E hr =>
  (cu (cS (i:=4) gh.nd (gj (own:=["kind"]) (ix:=[0,1,3]) (caps:=["script", "first", "most"]) (fE (osc:=L2.defScope kj) (oN:=["script", "first", "form", "most", "rows", "a", "b", "steps", "k", "arrow", "cell"]) rfl rfl (by decide +kernel)) rfl (by decide) dG (eN T.fW (cO (cf 2) (DE.bb cy))) (fun _ _ _ _=>(cB (i:=0) (show (["kind", "script", "first", "most"]:List Str).Nodup by decide +kernel))) (fun _ _ _ _=>fV) (fun _ _ _ _=>(df gP hr (b7 (df fg hr (b7 (ck 1) (b7 (ck 2) cz))) (b7 (ck 0) (b7 (dk L2.op_addA fx (cf 3) (DE.bb cy)) cz)))))))
  (cu (dD rfl (fR (iu (EO T.z0 (DE.bb (cO (cf 2) (DE.bb cy)))))) (f6 rfl (cQ (cB (i:=5) gh.nd) (cQ (cB (i:=6) gh.nd) eY))) (cA (jV (DW.tt (Hj (iS L2.op_gt HI (DE.bb (cO (cf 4) (cf 5))) (DE.bb cy)) (Dd (iS (jb hr.units) lW (DE.bb (cO (cf 4) (cf 6))) (DE.bb cy))))) (cA (MB (i:=4) (ck 6) cy)) gi)))
  (cu (cS (i:=7) gh.nd (eW cz))
  (cu (dD rfl (iz T.eB (iu (cO (cf 2) (DE.bb cy)))) (f6 rfl (cQ (cB (i:=8) gh.nd) (cQ (cB (i:=9) gh.nd) eY))) (cu (cS (i:=10) gh.nd (df fg hr (b7 (ck 0) (b7 (dk L2.op_addA fx (cf 1) (DE.bb cy)) cz))))
  (cA (gL (i:=7) (eJ T.eE (DE.bb (gj (own:=["x"]) (ix:=[10,4,8,9]) (caps:=["cell", "rows", "k", "arrow"]) (fE (osc:=L2.defScope kj) (oN:=["script", "first", "form", "most", "rows", "a", "b", "steps", "k", "arrow", "cell"]) rfl rfl (by decide +kernel)) rfl (by decide) dG (eN T.fW (cO (cf 4) (DE.bb (cO (cf 9) (DE.bb cy))))) (fun _ _ _ _=>(cB (i:=0) (show (["x", "cell", "rows", "k", "arrow"]:List Str).Nodup by decide +kernel))) (fun _ _ _ _=>fV) (fun _ _ _ _=>(df gP hr (b7 (ck 1) (b7 (dk L2.op_addA fx (DE.bb (dk L2.op_mul oJ (DE.bb cy) (cf 3))) (cf 0)) (b7 (cO (cf 2) (DE.bb (cO (cf 4) (DE.bb cy)))) cz))))))))))))
  (cA (fc (eh (b7 (eJ T.eE (cf 4)) (b7 (eJ T.eE (cf 7)) cz)))))))))
theorem gG:L2.FnScope ["source", "target", "shift", "book", "kind", "found", "a", "arrow", "path", "x", "one"] ["source", "target", "shift", "book", "kind"] (L2.defScope oz):=⟨rfl,rfl,rfl,by decide +kernel,rfl,by decide +kernel,by decide +kernel⟩
theorem zc {f:Addr}{fd:FuncData}(T:Txt mg)(gO:gf P w K mg base 1 "_law_paths" ["form", "kind", "other"] dF)(Fu:L2.Fun K "_law_ties" "_law_ties" oz f fd):L2.FnOk P w K mg base L2.CX0 2 f fd ["source", "target", "shift", "book", "kind"] (spD K gR) :=
 fU Fu gG fun gD A outer s H E hr =>
  (cu (cS (i:=5) gG.nd (eW cz))
  (cu (dD rfl (iz T.eB (iu (cO (cf 0) (DE.bb cy)))) (f6 rfl (cQ (cB (i:=6) gG.nd) (cQ (cB (i:=7) gG.nd) eY))) (cA (dD rfl (fR (iu (df gO hr (b7 (ck 1) (b7 (cO (DE.bb (cO (cf 2) (DE.bb cy))) (DE.bb (cO (cf 7) (DE.bb cy)))) (b7 (ck 4) cz)))))) (cB (i:=8) gG.nd) (cA (dD rfl (eN T.fW (cO (DE.bb (cO (cf 3) (DE.bb cy))) (DE.bb (cO (cf 7) (DE.bb cy))))) (cB (i:=9) gG.nd) (cu (cS (i:=10) gG.nd (eh (b7 (cO (cf 7) (DE.bb cy)) (b7 (dk L2.op_addA fx (DE.bb (cO (DE.bb (cO (cf 2) (DE.bb cy))) (cf 6))) (cf 8)) (b7 (ck 9) cz)))))
  (cA (gL (i:=5) (eh (b7 (ck 10) (b7 (eh (b7 (cO (cf 7) (DE.bb cy)) (b7 (ck 8) (b7 (cO (DE.bb (cO (DE.bb (cO (cf 3) (DE.bb cy))) (cf 6))) (cf 9)) cz)))) cz)))))))))))
  (cA (jv 5))))
theorem dw:L2.FnScope ["source", "target", "shift", "book", "kind", "marks", "c", "path", "x", "ties", "again", "one", "other", "low", "known", "numbers", "triple"] ["source", "target", "shift", "book", "kind"] (L2.defScope l6):=⟨rfl,rfl,rfl,by decide +kernel,rfl,by decide +kernel,by decide +kernel⟩
theorem zf {f:Addr}{fd:FuncData}(T:Txt mg)(gO:gf P w K mg base 1 "_law_paths" ["form", "kind", "other"] dF)(BP:gf P w K mg base 2 "_law_ties" ["source", "target", "shift", "book", "kind"] gR)(Fu:L2.Fun K "_law_rows" "_law_rows" l6 f fd):L2.FnOk P w K mg base L2.CX0 3 f fd ["source", "target", "shift", "book", "kind"] (spD K jo) :=
 fU Fu dw fun gD A outer s H E hr =>
  (cu (uq (i:=5) dw.nd)
  (cu (dD rfl (eN T.fW (cO (cf 0) (DE.bb cy))) (cB (i:=6) dw.nd) (cA (dD rfl (fR (iu (df gO hr (b7 (ck 1) (b7 (cO (DE.bb (cO (cf 2) (DE.bb cy))) (cf 6)) (b7 (ck 4) cz)))))) (cB (i:=7) dw.nd) (cA (dD rfl (eN T.fW (cO (DE.bb (cO (cf 3) (DE.bb cy))) (cf 6))) (cB (i:=8) dw.nd) (cA (nv (i:=5) hr.l4 (eh (b7 (ck 6) (b7 (ck 7) (b7 (ck 8) cz)))) (J7 T.lX (cf 5)))))))))
  (cu (jf 9 (cS (i:=9) dw.nd (df BP hr (b7 (ck 0) (b7 (ck 1) (b7 (ck 2) (b7 (ck 3) (b7 (ck 4) cz))))))))
  (cu (cS (i:=10) dw.nd rN)
  (cu (uo (nu (ck 10)) (cu (cS (i:=10) dw.nd rN)
  (cA (dD rfl (fR (gM 9)) (f6 rfl (cQ (cB (i:=11) dw.nd) (cQ (cB (i:=12) dw.nd) eY))) (cA (jV (iS (xm hr.units) Dn (DE.bb (jg hr.l4 (cf 5) (cf 11))) (DE.bb (jg hr.l4 (cf 5) (cf 12)))) (cu (cS (i:=13) dw.nd (Hs rfl T.La (DE.bb (jg hr.l4 (cf 5) (cf 11))) (DE.bb (jg hr.l4 (cf 5) (cf 12)))))
  (cu (nv (i:=5) hr.l4 (ck 11) (ck 13))
  (cu (nv (i:=5) hr.l4 (ck 12) (ck 13))
  (cA (cS (i:=10) dw.nd rN))))) gi))))))
  (cu (qX 5 (jf 14 (cS (i:=14) dw.nd (By T.z0 T.PZ (DE.bb (gj (own:=["triple"]) (ix:=[5]) (caps:=["marks"]) (fE (osc:=L2.defScope l6) (oN:=["source", "target", "shift", "book", "kind", "marks", "c", "path", "x", "ties", "again", "one", "other", "low", "known", "numbers", "triple"]) rfl rfl (by decide +kernel)) rfl (by decide) dG (x4 (ck 5)) (fun _ _ _ _=>(cB (i:=0) (show (["triple", "marks"]:List Str).Nodup by decide +kernel))) (fun _ _ _ _=>fV) (fun _ _ _ _=>(jg hr.l4 (cf 1) (cf 0)))))))))
  (cu (uq (i:=15) dw.nd)
  (cu (qX 5 (dD rfl (x4 (ck 5)) (cB (i:=16) dw.nd) (cA (nv (i:=15) hr.l4 (ck 16) (Hu (cf 14) (DE.bb (jg hr.l4 (cf 5) (cf 16))))))))
  (cA (qX 15 (jv 15)))))))))))
theorem rX:L2.FnScope ["source", "target", "shift", "book"] ["source", "target", "shift", "book"] (L2.defScope iN):=⟨rfl,rfl,rfl,by decide +kernel,rfl,by decide +kernel,by decide +kernel⟩
theorem rY {f:Addr}{fd:FuncData}(T:Txt mg)(BQ:gf P w K mg base 3 "_law_rows" ["source", "target", "shift", "book", "kind"] jo)(Fu:L2.Fun K "_law_all_rows" "_law_all_rows" iN f fd):L2.FnOk P w K mg base L2.CX0 4 f fd ["source", "target", "shift", "book"] (spD K f7) :=
 fU Fu rX fun gD A outer s H E hr =>
  (cA (fc (gj (own:=["kind"]) (ix:=[0,1,2,3]) (caps:=["source", "target", "shift", "book"]) (fE (osc:=L2.defScope iN) (oN:=["source", "target", "shift", "book"]) rfl rfl (by decide +kernel)) rfl (by decide) dG (eN T.fW (cO (cf 1) (DE.bb cy))) (fun _ _ _ _=>(cB (i:=0) (show (["kind", "source", "target", "shift", "book"]:List Str).Nodup by decide +kernel))) (fun _ _ _ _=>fV) (fun _ _ _ _=>(df BQ hr (b7 (ck 1) (b7 (ck 2) (b7 (ck 3) (b7 (ck 4) (b7 (ck 0) cz))))))))))
theorem w9:L2.FnScope ["found"] ["found"] (L2.defScope mR):=⟨rfl,rfl,rfl,by decide +kernel,rfl,by decide +kernel,by decide +kernel⟩
theorem xo {f:Addr}{fd:FuncData}(T:Txt mg)  (Fu:L2.Fun K "_law_whole" "_law_whole" mR f fd):L2.FnOk P w K mg base L2.CX0 1 f fd ["found"] (spD K jL) :=
 fU Fu w9 fun gD A outer s H E hr =>
  (cA (fc (x8 (qZ T.hJ T.P4 PyProof.Rows.boot_int (cf 0)) (Bz (MC (qZ T.hJ T.MW PyProof.Rows.boot_bool (cf 0)))))))
theorem tj:L2.FnScope ["found"] ["found"] (L2.defScope jr):=⟨rfl,rfl,rfl,by decide +kernel,rfl,by decide +kernel,by decide +kernel⟩
theorem tI {f:Addr}{fd:FuncData}(T:Txt mg)(zW:gf P w K mg base 1 "_law_whole" ["found"] jL)(Fu:L2.Fun K "_law_numbers" "_law_numbers" jr f fd):L2.FnOk P w K mg base L2.CX0 2 f fd ["found"] (spD K eT) :=
 fU Fu tj fun gD A outer s H E hr =>
  (cA (fc (x8 (qZ T.hJ T.eE PyProof.Rows.boot_tuple (cf 0)) (Bz (BA rfl T.HN (DE.bb (gj (own:=["x"]) (ix:=[]) (caps:=[]) (fE (osc:=L2.defScope jr) (oN:=["found"]) rfl rfl (by decide +kernel)) rfl (by decide) dG (fR (gM 0)) (fun _ _ _ _=>(cB (i:=0) (show (["x"]:List Str).Nodup by decide +kernel))) (fun _ _ _ _=>fV) (fun _ _ _ _=>(df zW hr (b7 (ck 0) cz))))))))))
theorem xa:L2.FnScope ["found", "due"] ["found", "due"] (L2.defScope kT):=⟨rfl,rfl,rfl,by decide +kernel,rfl,by decide +kernel,by decide +kernel⟩
theorem xr {f:Addr}{fd:FuncData}(T:Txt mg)(jw:gf P w K mg base 2 "_law_numbers" ["found"] eT)(Fu:L2.Fun K "_law_chart" "_law_chart" kT f fd):L2.FnOk P w K mg base L2.CX0 3 f fd ["found", "due"] (spD K iK) :=
 fU Fu xa fun gD A outer s H E hr =>
  (cA (fc (x8 (qZ T.hJ T.eE PyProof.Rows.boot_tuple (cf 0)) (x8 (BA rfl T.HN (DE.bb (gj (own:=["row"]) (ix:=[]) (caps:=[]) (fE (osc:=L2.defScope kT) (oN:=["found", "due"]) rfl rfl (by decide +kernel)) rfl (by decide) dG (fR (gM 0)) (fun _ _ _ _=>(cB (i:=0) (show (["row"]:List Str).Nodup by decide +kernel))) (fun _ _ _ _=>fV) (fun _ _ _ _=>(df jw hr (b7 (ck 0) cz)))))) (Bz (K5 (jb hr.units) lW (cf 0) (cf 1)))))))
theorem yO:L2.FnScope ["found", "due"] ["found", "due"] (L2.defScope l7):=⟨rfl,rfl,rfl,by decide +kernel,rfl,by decide +kernel,by decide +kernel⟩
theorem zg {f:Addr}{fd:FuncData}(T:Txt mg)(jw:gf P w K mg base 2 "_law_numbers" ["found"] eT)(Fu:L2.Fun K "_law_pair" "_law_pair" l7 f fd):L2.FnOk P w K mg base L2.CX0 3 f fd ["found", "due"] (spD K kI) :=
 fU Fu yO fun gD A outer s H E hr =>
  (cu (jV (DW.tt (Hi (o4 (nu (qZ T.hJ T.eE PyProof.Rows.boot_tuple (cf 0)))) (Hi (iS (xm hr.units) Dn (DE.bb (jQ T.lX (cf 0))) (DE.bb cy)) (Hh (o4 (nu (df jw hr (b7 (cO (cf 0) (DE.bb cy)) cz)))))))) (cA (fc rN)) gi)
  (cu (jV (DW.tt (Hi (o4 (nu (qZ T.hJ T.eE PyProof.Rows.boot_tuple (DE.bb (cO (cf 0) (DE.bb cy)))))) (Hh (o4 (nu (BA rfl T.HN (DE.bb (gj (own:=["step"]) (ix:=[]) (caps:=[]) (fE (osc:=L2.defScope l7) (oN:=["found", "due"]) rfl rfl (by decide +kernel)) rfl (by decide) dG (fR (iu (cO (cf 0) (DE.bb cy)))) (fun _ _ _ _=>(cB (i:=0) (show (["step"]:List Str).Nodup by decide +kernel))) (fun _ _ _ _=>fV) (fun _ _ _ _=>(df jw hr (b7 (ck 0) cz))))))))))) (cA (fc rN)) gi)
  (cA (fc (K5 (jb hr.units) lW (cf 0) (cf 1))))))
theorem fZ:L2.FnScope ["routes", "book", "triples", "kind", "route", "path"] ["routes", "book"] (L2.defScope iy):=⟨rfl,rfl,rfl,by decide +kernel,rfl,by decide +kernel,by decide +kernel⟩
theorem qM {f:Addr}{fd:FuncData}(T:Txt mg)  (Fu:L2.Fun K "triples_along" "triples_along" iy f fd):L2.FnOk P w K mg base L2.CX0 1 f fd ["routes", "book"] (spD K fh) :=
 fU Fu fZ fun gD A outer s H E hr =>
  (cu (cS (i:=2) fZ.nd (eW cz))
  (cu (dD rfl (iz T.eB (gM 0)) (f6 rfl (cQ (cB (i:=3) fZ.nd) (cQ (cB (i:=4) fZ.nd) eY))) (cA (dD rfl (fR (gM 4)) (cB (i:=5) fZ.nd) (cA (Bw (i:=2) (gj (own:=["row"]) (ix:=[3,5]) (caps:=["kind", "path"]) (fE (osc:=L2.defScope iy) (oN:=["routes", "book", "triples", "kind", "route", "path"]) rfl rfl (by decide +kernel)) rfl (by decide) dG (eN T.fW (cO (DE.bb (cO (cf 1) (DE.bb cy))) (cf 3))) (fun _ _ _ _=>(cB (i:=0) (show (["row", "kind", "path"]:List Str).Nodup by decide +kernel))) (fun _ _ _ _=>fV) (fun _ _ _ _=>(eh (b7 (ck 1) (b7 (ck 2) (b7 (ck 0) cz)))))))))))
  (cA (jv 2))))
theorem vU:L2.FnScope ["form", "kind", "path", "last"] ["form", "kind", "path"] (L2.defScope tu):=⟨rfl,rfl,rfl,by decide +kernel,rfl,by decide +kernel,by decide +kernel⟩
theorem Eb {f:Addr}{fd:FuncData}(T:Txt mg)  (Fu:L2.Fun K "end_of" "end_of" tu f fd):L2.FnOk P w K mg base L2.CX0 1 f fd ["form", "kind", "path"] (spD K gp) :=
 fU Fu vU fun gD A outer s H E hr =>
  (cu (jV (iS (jb hr.units) lW (DE.bb (jQ T.lX (cf 2))) (DE.bb cy)) (cA (fc (ck 1))) gi)
  (cu (cS (i:=3) vU.nd (cO (DE.bb (cO (cf 0) (DE.bb cy))) (DE.bb (cO (cf 2) (DE.bb (PO L2.un_neg Lr (DE.bb cy)))))))
  (cA (fc (cO (cf 3) (DE.bb cy))))))
theorem jq:L2.FnScope ["form", "kind", "reached", "longer", "path", "end"] ["form", "kind", "reached"] (L2.defScope jZ):=⟨rfl,rfl,rfl,by decide +kernel,rfl,by decide +kernel,by decide +kernel⟩
theorem vj {f:Addr}{fd:FuncData}(T:Txt mg)(uN:gf P w K mg base 1 "end_of" ["form", "kind", "path"] gp)(Fu:L2.Fun K "lengthened" "lengthened" jZ f fd):L2.FnOk P w K mg base L2.CX0 2 f fd ["form", "kind", "reached"] (spD K i5) :=
 fU Fu jq fun gD A outer s H E hr =>
  (cu (cS (i:=3) jq.nd (eW cz))
  (cu (dD rfl (fR (gM 2)) (cB (i:=4) jq.nd) (cu (cS (i:=5) jq.nd (df uN hr (b7 (ck 0) (b7 (ck 1) (b7 (ck 4) cz)))))
  (cA (Bw (i:=3) (gj (own:=["number", "arrow"]) (ix:=[4,5]) (caps:=["path", "end"]) (fE (osc:=L2.defScope jZ) (oN:=["form", "kind", "reached", "longer", "path", "end"]) rfl rfl (by decide +kernel)) rfl (by decide) (CH (mX dG (mX dG CI))) (iz T.eB (iu (cO (cf 0) (DE.bb cy)))) (fun _ _ _ _=>(f6 rfl (cQ (cB (i:=0) (show (["number", "arrow", "path", "end"]:List Str).Nodup by decide +kernel)) (cQ (cB (i:=1) (show (["number", "arrow", "path", "end"]:List Str).Nodup by decide +kernel)) eY)))) (fun _ _ _ _=>De (iS (jb hr.units) lW (DE.bb (cO (cf 1) (DE.bb cy))) (cf 3))) (fun _ _ _ _=>(dk L2.op_addA fx (cf 2) (DE.bb (eh (b7 (ck 0) cz))))))))))
  (cA (jv 3))))
theorem pN:L2.FnScope ["form", "kind", "other", "found", "reached"] ["form", "kind", "other"] (L2.defScope su):=⟨rfl,rfl,rfl,by decide +kernel,rfl,by decide +kernel,by decide +kernel⟩
theorem Gh {f:Addr}{fd:FuncData}(T:Txt mg)(uN:gf P w K mg base 1 "end_of" ["form", "kind", "path"] gp)(ye:gf P w K mg base 2 "lengthened" ["form", "kind", "reached"] i5)(Fu:L2.Fun K "paths" "paths" su f fd):L2.FnOk P w K mg base L2.CX0 3 f fd ["form", "kind", "other"] (spD K nX) :=
 fU Fu pN fun gD A outer s H E hr =>
  (cu (cS (i:=3) pN.nd (eW cz))
  (cu (jf 4 (cS (i:=4) pN.nd (eW (b7 (eh cz) cz))))
  (cu (uo (iS L2.op_gt HI (DE.bb (jQ T.lX (cf 4))) (DE.bb cy)) (cu (Bw (i:=3) (gj (own:=["path"]) (ix:=[2,0,1]) (caps:=["other", "form", "kind"]) (fE (osc:=L2.defScope su) (oN:=["form", "kind", "other", "found", "reached"]) rfl rfl (by decide +kernel)) rfl (by decide) dG (fR (gM 4)) (fun _ _ _ _=>(cB (i:=0) (show (["path", "other", "form", "kind"]:List Str).Nodup by decide +kernel))) (fun _ _ _ _=>De (iS (jb hr.units) lW (DE.bb (df uN hr (b7 (ck 2) (b7 (ck 3) (b7 (ck 0) cz))))) (cf 1))) (fun _ _ _ _=>(ck 0))))
  (cA (jf 4 (cS (i:=4) pN.nd (df ye hr (b7 (ck 0) (b7 (ck 1) (b7 (ck 4) cz)))))))))
  (cA (jv 3)))))
theorem tm:L2.FnScope ["heads", "spot"] ["heads", "spot"] (L2.defScope qH):=⟨rfl,rfl,rfl,by decide +kernel,rfl,by decide +kernel,by decide +kernel⟩
theorem AS {f:Addr}{fd:FuncData}(T:Txt mg)  (Fu:L2.Fun K "head_of" "head_of" qH f fd):L2.FnOk P w K mg base L2.CX0 1 f fd ["heads", "spot"] (LF K 0 eZ) :=
 Ha Fu tm fun gD A outer s H E hr =>
  (qi (EL (p:=0) (iS (xm hr.units) Dn (DE.bb (cO (sH 0) (cf 1))) (cf 1)) (qh (Df (p:=0) (ck 1) (cO (sH 0) (DE.bb (cO (sH 0) (cf 1)))))
  (xY (Dg (cS (i:=1) tm.nd (cO (sH 0) (cf 1)))))))
  (Dh (ck 1)))
theorem iE:L2.FnScope ["triples", "heads", "rows", "height", "spot", "head"] ["triples", "heads"] (L2.defScope ou):=⟨rfl,rfl,rfl,by decide +kernel,rfl,by decide +kernel,by decide +kernel⟩
theorem y6 {f:Addr}{fd:FuncData}(T:Txt mg)(nW:rS P w K mg base 1 "head_of" ["heads", "spot"] 0 eZ)(Fu:L2.Fun K "numbered" "numbered" ou f fd):L2.FnOk P w K mg base L2.CX0 2 f fd ["triples", "heads"] (LF K 1 iC) :=
 Ha Fu iE fun gD A outer s H E hr =>
  (qi (Dg (cS (i:=2) iE.nd (eW cz)))
  (qi (Dg (cS (i:=3) iE.nd cy))
  (qi (J5 (p:=1) rfl (eN T.fW (jQ T.lX (cf 0))) (cB (i:=4) iE.nd) (qh (um (p:=1) (i:=5) nW hr iE.nd (b7 (ck 4) cz))
  (xY (Dg (jV (iS (jb hr.units) lW (cf 5) (cf 4)) (cu (gL (i:=2) (ck 3))
  (cA (cS (i:=3) iE.nd (dk L2.op_addA fx (cf 3) (DE.bb cy))))) (cA (gL (i:=2) (cO (cf 2) (cf 5)))))))))
  (EN 2 (Dh (Hv hr.l4 rfl T.MV T.K9 (gM 0) (gM 2)))))))
theorem AI:L2.FnScope ["heads", "one", "other", "first", "second"] ["heads", "one", "other"] (L2.defScope FZ):=⟨rfl,rfl,rfl,by decide +kernel,rfl,by decide +kernel,by decide +kernel⟩
theorem LQ {f:Addr}{fd:FuncData}(T:Txt mg)(nW:rS P w K mg base 1 "head_of" ["heads", "spot"] 0 eZ)(Fu:L2.Fun K "tie" "tie" FZ f fd):L2.FnOk P w K mg base L2.CX0 2 f fd ["heads", "one", "other"] (LF K 0 wX) :=
 JZ Fu AI fun gD A outer s H E hr =>
  (qh (um (p:=0) (i:=3) nW hr AI.nd (b7 (ck 1) cz))
  (qh (um (p:=0) (i:=4) nW hr AI.nd (b7 (ck 2) cz))
  (xY (Df (p:=0) (ME rfl T.P0 (cf 3) (cf 4)) (Hs rfl T.La (cf 3) (cf 4))))))
theorem iM:L2.FnScope ["source", "shift", "book", "routes", "triples", "spots", "spot", "triple", "heads", "arrow", "way", "step", "path", "row", "reached"] ["source", "shift", "book", "routes", "triples"] (L2.defScope AJ):=⟨rfl,rfl,rfl,by decide +kernel,rfl,by decide +kernel,by decide +kernel⟩
theorem Jl {f:Addr}{fd:FuncData}(T:Txt mg)(PY:rS P w K mg base 2 "tie" ["heads", "one", "other"] 0 wX)(Fu:L2.Fun K "tied" "tied" AJ f fd):L2.FnOk P w K mg base L2.CX0 3 f fd ["source", "shift", "book", "routes", "triples"] (spD K pC) :=
 fU Fu iM fun gD A outer s H E hr =>
  (cu (uq (i:=5) iM.nd)
  (cu (dD rfl (iz T.eB (gM 4)) (f6 rfl (cQ (cB (i:=6) iM.nd) (cQ (cB (i:=7) iM.nd) eY))) (cA (nv (i:=5) hr.l4 (ck 7) (ck 6))))
  (cu (cS (i:=8) iM.nd (Ht rfl T.MU T.fW (jQ T.lX (cf 4))))
  (cu (dD rfl (J6 T.K9 (iu (cO (cf 0) (DE.bb cy))) (iu (cO (cf 1) (DE.bb cy))) (iu (cO (cf 2) (DE.bb cy)))) (f6 rfl (cQ (cB (i:=9) iM.nd) (cQ (cB (i:=10) iM.nd) (cQ (cB (i:=11) iM.nd) eY)))) (cA (dD rfl (fR (iu (cO (cf 3) (DE.bb (cO (cf 9) (DE.bb cy)))))) (cB (i:=12) iM.nd) (cA (dD rfl (iz T.eB (gM 11)) (f6 rfl (cQ (cB (i:=13) iM.nd) (cQ (cB (i:=14) iM.nd) eY))) (cA (Hm (i:=8) PY hr (b7 (jg hr.l4 (cf 5) (DE.bb (eh (b7 (cO (cf 9) (DE.bb cy)) (b7 (dk L2.op_addA fx (cf 10) (cf 12)) (b7 (ck 13) cz)))))) (b7 (jg hr.l4 (cf 5) (DE.bb (eh (b7 (cO (cf 9) (DE.bb cy)) (b7 (ck 12) (b7 (ck 14) cz)))))) cz)))))))))
  (cA (jv 8))))))
theorem il:L2.FnScope ["source", "target", "shift", "book", "tables", "kind", "routes", "triples"] ["source", "target", "shift", "book"] (L2.defScope jY):=⟨rfl,rfl,rfl,by decide +kernel,rfl,by decide +kernel,by decide +kernel⟩
theorem vi {f:Addr}{fd:FuncData}(T:Txt mg)(Kc:gf P w K mg base 3 "paths" ["form", "kind", "other"] nX)(sa:gf P w K mg base 1 "triples_along" ["routes", "book"] fh)(BN:rS P w K mg base 2 "numbered" ["triples", "heads"] 1 iC)(MM:gf P w K mg base 3 "tied" ["source", "shift", "book", "routes", "triples"] pC)(Fu:L2.Fun K "row_tables" "row_tables" jY f fd):L2.FnOk P w K mg base L2.CX0 4 f fd ["source", "target", "shift", "book"] (spD K eA) :=
 fU Fu il fun gD A outer s H E hr =>
  (cu (cS (i:=4) il.nd (eW cz))
  (cu (dD rfl (eN T.fW (cO (cf 1) (DE.bb cy))) (cB (i:=5) il.nd) (cu (jf 6 (xZ (i:=6) il.nd (own:=["place"]) (ix:=[1,5]) (caps:=["target", "kind"]) (fE (osc:=L2.defScope jY) (oN:=["source", "target", "shift", "book", "tables", "kind", "routes", "triples"]) rfl rfl (by decide +kernel)) rfl (by decide) dG (fR (iu (cO (cf 2) (DE.bb cy)))) (fun _ _ _ _=>(cB (i:=0) (show (["place", "target", "kind"]:List Str).Nodup by decide +kernel))) (fun _ _ _ _=>fV) (fun _ _ _ _=>(df Kc hr (b7 (ck 1) (b7 (ck 0) (b7 (ck 2) cz)))))))
  (cu (jf 7 (cS (i:=7) il.nd (df sa hr (b7 (ck 6) (b7 (ck 3) cz)))))
  (cA (gL (i:=4) (Hy BN hr (ck 7) (df MM hr (b7 (ck 0) (b7 (ck 2) (b7 (ck 3) (b7 (ck 6) (b7 (ck 7) cz))))))))))))
  (cA (jv 4))))
theorem pM:L2.FnScope ["source", "target", "shift", "book", "tables", "columns", "kind", "place"] ["source", "target", "shift", "book"] (L2.defScope xb):=⟨rfl,rfl,rfl,by decide +kernel,rfl,by decide +kernel,by decide +kernel⟩
theorem Jk {f:Addr}{fd:FuncData}(T:Txt mg)(mE:gf P w K mg base 4 "row_tables" ["source", "target", "shift", "book"] eA)(Fu:L2.Fun K "unit" "unit" xb f fd):L2.FnOk P w K mg base L2.CX0 5 f fd ["source", "target", "shift", "book"] (spD K vb) :=
 fU Fu pM fun gD A outer s H E hr =>
  (cu (jf 4 (cS (i:=4) pM.nd (df mE hr (b7 (ck 0) (b7 (ck 1) (b7 (ck 2) (b7 (ck 3) cz)))))))
  (cu (cS (i:=5) pM.nd (eW cz))
  (cu (dD rfl (iz T.eB (iu (cO (cf 2) (DE.bb cy)))) (f6 rfl (cQ (cB (i:=6) pM.nd) (cQ (cB (i:=7) pM.nd) eY))) (cA (gL (i:=5) (eJ T.eE (DE.bb (gj (own:=["row"]) (ix:=[4,7,6]) (caps:=["tables", "place", "kind"]) (fE (osc:=L2.defScope xb) (oN:=["source", "target", "shift", "book", "tables", "columns", "kind", "place"]) rfl rfl (by decide +kernel)) rfl (by decide) dG (eN T.fW (cO (DE.bb (cO (cf 3) (DE.bb cy))) (cf 6))) (fun _ _ _ _=>(cB (i:=0) (show (["row", "tables", "place", "kind"]:List Str).Nodup by decide +kernel))) (fun _ _ _ _=>fV) (fun _ _ _ _=>(jg hr.l4 (DE.bb (cO (cf 1) (cf 2))) (DE.bb (eh (b7 (ck 3) (b7 (eh cz) (b7 (ck 0) cz)))))))))))))
  (cA (fc (eJ T.eE (cf 5)))))))
theorem kR:L2.FnScope ["shift", "book", "rows", "found", "c", "place"] ["shift", "book", "rows"] (L2.defScope l5):=⟨rfl,rfl,rfl,by decide +kernel,rfl,by decide +kernel,by decide +kernel⟩
theorem za {f:Addr}{fd:FuncData}(T:Txt mg)  (Fu:L2.Fun K "_law_unit" "_law_unit" l5 f fd):L2.FnOk P w K mg base L2.CX0 1 f fd ["shift", "book", "rows"] (spD K kH) :=
 fU Fu kR fun gD A outer s H E hr =>
  (cu (cS (i:=3) kR.nd (eW cz))
  (cu (dD rfl (iz T.eB (iu (cO (cf 0) (DE.bb cy)))) (f6 rfl (cQ (cB (i:=4) kR.nd) (cQ (cB (i:=5) kR.nd) eY))) (cA (gL (i:=3) (eJ T.eE (DE.bb (gj (own:=["x"]) (ix:=[2,5,4]) (caps:=["rows", "place", "c"]) (fE (osc:=L2.defScope l5) (oN:=["shift", "book", "rows", "found", "c", "place"]) rfl rfl (by decide +kernel)) rfl (by decide) dG (eN T.fW (cO (DE.bb (cO (cf 1) (DE.bb cy))) (cf 4))) (fun _ _ _ _=>(cB (i:=0) (show (["x", "rows", "place", "c"]:List Str).Nodup by decide +kernel))) (fun _ _ _ _=>fV) (fun _ _ _ _=>(jg hr.l4 (DE.bb (cO (cf 1) (cf 2))) (DE.bb (eh (b7 (ck 3) (b7 (eh cz) (b7 (ck 0) cz)))))))))))))
  (cA (fc (eJ T.eE (cf 3))))))
theorem gU:L2.FnScope ["table", "firsts", "triple", "row"] ["table"] (L2.defScope jP):=⟨rfl,rfl,rfl,by decide +kernel,rfl,by decide +kernel,by decide +kernel⟩
theorem qN {f:Addr}{fd:FuncData}(T:Txt mg)  (Fu:L2.Fun K "first_triples" "first_triples" jP f fd):L2.FnOk P w K mg base L2.CX0 1 f fd ["table"] (spD K fN) :=
 fU Fu gU fun gD A outer s H E hr =>
  (cu (cS (i:=1) gU.nd (eW cz))
  (cu (dD rfl (Hq (ck 0)) (f6 rfl (cQ (cB (i:=2) gU.nd) (cQ (cB (i:=3) gU.nd) eY))) (cA (jV (iS (jb hr.units) lW (cf 3) (DE.bb (jQ T.lX (cf 1)))) (cA (gL (i:=1) (ck 2))) gi)))
  (cA (jv 1))))
theorem iA:L2.FnScope ["source", "target", "shift", "book", "tables", "firsts", "steps", "number", "arrow", "onward"] ["source", "target", "shift", "book"] (L2.defScope kc):=⟨rfl,rfl,rfl,by decide +kernel,rfl,by decide +kernel,by decide +kernel⟩
theorem AU {f:Addr}{fd:FuncData}(T:Txt mg)(mE:gf P w K mg base 4 "row_tables" ["source", "target", "shift", "book"] eA)(sd:gf P w K mg base 1 "first_triples" ["table"] fN)(Fu:L2.Fun K "carried" "carried" kc f fd):L2.FnOk P w K mg base L2.CX0 5 f fd ["source", "target", "shift", "book"] (spD K lY) :=
 fU Fu iA fun gD A outer s H E hr =>
  (cu (jf 4 (cS (i:=4) iA.nd (df mE hr (b7 (ck 0) (b7 (ck 1) (b7 (ck 2) (b7 (ck 3) cz)))))))
  (cu (jf 5 (xZ (i:=5) iA.nd (own:=["table"]) (ix:=[]) (caps:=[]) (fE (osc:=L2.defScope kc) (oN:=["source", "target", "shift", "book", "tables", "firsts", "steps", "number", "arrow", "onward"]) rfl rfl (by decide +kernel)) rfl (by decide) dG (fR (gM 4)) (fun _ _ _ _=>(cB (i:=0) (show (["table"]:List Str).Nodup by decide +kernel))) (fun _ _ _ _=>fV) (fun _ _ _ _=>(df sd hr (b7 (ck 0) cz)))))
  (cu (cS (i:=6) iA.nd (eW cz))
  (cu (dD rfl (iz T.eB (iu (cO (cf 1) (DE.bb cy)))) (f6 rfl (cQ (cB (i:=7) iA.nd) (cQ (cB (i:=8) iA.nd) eY))) (cu (cS (i:=9) iA.nd (cO (cf 4) (DE.bb (cO (cf 8) (DE.bb cy)))))
  (cA (gL (i:=6) (eJ T.eE (DE.bb (gj (own:=["kind", "path", "row"]) (ix:=[9,7]) (caps:=["onward", "number"]) (fE (osc:=L2.defScope kc) (oN:=["source", "target", "shift", "book", "tables", "firsts", "steps", "number", "arrow", "onward"]) rfl rfl (by decide +kernel)) rfl (by decide) (CH (mX dG (mX dG (mX dG CI)))) (fR (iu (cO (cf 5) (DE.bb (cO (cf 8) (DE.bb cy)))))) (fun _ _ _ _=>(f6 rfl (cQ (cB (i:=0) (show (["kind", "path", "row", "onward", "number"]:List Str).Nodup by decide +kernel)) (cQ (cB (i:=1) (show (["kind", "path", "row", "onward", "number"]:List Str).Nodup by decide +kernel)) (cQ (cB (i:=2) (show (["kind", "path", "row", "onward", "number"]:List Str).Nodup by decide +kernel)) eY))))) (fun _ _ _ _=>fV) (fun _ _ _ _=>(jg hr.l4 (cf 3) (DE.bb (eh (b7 (ck 0) (b7 (dk L2.op_addA fx (cf 1) (DE.bb (eh (b7 (ck 4) cz)))) (b7 (ck 2) cz))))))))))))))
  (cA (fc (eh (b7 (eJ T.eE (DE.bb (gj (own:=["triples"]) (ix:=[]) (caps:=[]) (fE (osc:=L2.defScope kc) (oN:=["source", "target", "shift", "book", "tables", "firsts", "steps", "number", "arrow", "onward"]) rfl rfl (by decide +kernel)) rfl (by decide) dG (fR (gM 5)) (fun _ _ _ _=>(cB (i:=0) (show (["triples"]:List Str).Nodup by decide +kernel))) (fun _ _ _ _=>fV) (fun _ _ _ _=>(jQ T.lX (cf 0)))))) (b7 (eJ T.eE (cf 6)) cz)))))))))
theorem lB:L2.FnScope ["numbers", "firsts", "triple"] ["numbers"] (L2.defScope l8):=⟨rfl,rfl,rfl,by decide +kernel,rfl,by decide +kernel,by decide +kernel⟩
theorem vk {f:Addr}{fd:FuncData}(T:Txt mg)  (Fu:L2.Fun K "_law_firsts" "_law_firsts" l8 f fd):L2.FnOk P w K mg base L2.CX0 1 f fd ["numbers"] (spD K hV) :=
 fU Fu lB fun gD A outer s H E hr =>
  (cu (cS (i:=1) lB.nd (eW cz))
  (cu (dD rfl (x4 (ck 0)) (cB (i:=2) lB.nd) (cA (jV (iS (jb hr.units) lW (DE.bb (jg hr.l4 (cf 0) (cf 2))) (DE.bb (jQ T.lX (cf 1)))) (cA (gL (i:=1) (ck 2))) gi)))
  (cA (jv 1))))
theorem dY:L2.FnScope ["target", "rows", "firsts", "steps", "b", "arrow", "step", "c", "path", "x"] ["target", "rows"] (L2.defScope ip):=⟨rfl,rfl,rfl,by decide +kernel,rfl,by decide +kernel,by decide +kernel⟩
theorem tJ {f:Addr}{fd:FuncData}(T:Txt mg)(yf:gf P w K mg base 1 "_law_firsts" ["numbers"] hV)(Fu:L2.Fun K "_law_carried" "_law_carried" ip f fd):L2.FnOk P w K mg base L2.CX0 2 f fd ["target", "rows"] (spD K iw) :=
 fU Fu dY fun gD A outer s H E hr =>
  (cu (jf 2 (xZ (i:=2) dY.nd (own:=["numbers"]) (ix:=[]) (caps:=[]) (fE (osc:=L2.defScope ip) (oN:=["target", "rows", "firsts", "steps", "b", "arrow", "step", "c", "path", "x"]) rfl rfl (by decide +kernel)) rfl (by decide) dG (fR (gM 1)) (fun _ _ _ _=>(cB (i:=0) (show (["numbers"]:List Str).Nodup by decide +kernel))) (fun _ _ _ _=>fV) (fun _ _ _ _=>(df yf hr (b7 (ck 0) cz)))))
  (cu (cS (i:=3) dY.nd (eW cz))
  (cu (dD rfl (iz T.eB (iu (cO (cf 0) (DE.bb cy)))) (f6 rfl (cQ (cB (i:=4) dY.nd) (cQ (cB (i:=5) dY.nd) eY))) (cu (cS (i:=6) dY.nd (eW cz))
  (cu (dD rfl (fR (iu (cO (cf 2) (DE.bb (cO (cf 5) (DE.bb cy)))))) (f6 rfl (cQ (cB (i:=7) dY.nd) (cQ (cB (i:=8) dY.nd) (cQ (cB (i:=9) dY.nd) eY)))) (cA (gL (i:=6) (jg hr.l4 (DE.bb (cO (cf 1) (DE.bb (cO (cf 5) (DE.bb cy))))) (DE.bb (eh (b7 (ck 7) (b7 (dk L2.op_addA fx (cf 8) (DE.bb (eh (b7 (ck 4) cz)))) (b7 (ck 9) cz)))))))))
  (cA (gL (i:=3) (eJ T.eE (cf 6)))))))
  (cA (fc (eh (b7 (eJ T.eE (DE.bb (gj (own:=["some"]) (ix:=[]) (caps:=[]) (fE (osc:=L2.defScope ip) (oN:=["target", "rows", "firsts", "steps", "b", "arrow", "step", "c", "path", "x"]) rfl rfl (by decide +kernel)) rfl (by decide) dG (fR (gM 2)) (fun _ _ _ _=>(cB (i:=0) (show (["some"]:List Str).Nodup by decide +kernel))) (fun _ _ _ _=>fV) (fun _ _ _ _=>(jQ T.lX (cf 0)))))) (b7 (eJ T.eE (cf 3)) cz))))))))
theorem qG:L2.FnScope ["script", "source", "target", "shift", "book", "rows"] ["script"] (L2.defScope tq):=⟨rfl,rfl,rfl,by decide +kernel,rfl,by decide +kernel,by decide +kernel⟩
theorem LR {f:Addr}{fd:FuncData}(T:Txt mg)(uJ:gf P w K mg base 3 "_law_form" ["script", "first", "most", "many"] gk)(zX:gf P w K mg base 3 "_law_shift" ["script", "first", "source", "target"] iJ)(BU:gf P w K mg base 3 "_law_book" ["script", "first", "form", "most"] iD)(fg:gf P w K mg base 2 "_law_cell" ["script", "k"] cL)(uM:gf P w K mg base 4 "_law_all_rows" ["source", "target", "shift", "book"] f7)(BS:gf P w K mg base 3 "_law_pair" ["found", "due"] kI)(EW:gf P w K mg base 5 "carried" ["source", "target", "shift", "book"] lY)(vC:gf P w K mg base 2 "_law_carried" ["target", "rows"] iw)(zY:gf P w K mg base 3 "_law_chart" ["found", "due"] iK)(ML:gf P w K mg base 5 "unit" ["source", "target", "shift", "book"] vb)(BO:gf P w K mg base 1 "_law_unit" ["shift", "book", "rows"] kH)(Fu:L2.Fun K "law" "law" tq f fd):L2.FnOk P w K mg base L2.CX0 6 f fd ["script"] (spD K F_law) :=
 fU Fu qG fun gD A outer s H E hr =>
  (cu (cS (i:=1) qG.nd (df uJ hr (b7 (ck 0) (b7 cy (b7 cy (b7 cy cz))))))
  (cu (cS (i:=2) qG.nd (df uJ hr (b7 (ck 0) (b7 cy (b7 cy (b7 cy cz))))))
  (cu (cS (i:=3) qG.nd (df zX hr (b7 (ck 0) (b7 cy (b7 (ck 1) (b7 (ck 2) cz))))))
  (cu (cS (i:=4) qG.nd (df BU hr (b7 (ck 0) (b7 cy (b7 (ck 1) (b7 (dk L2.op_addA fx (DE.bb cy) (DE.bb (dk L2.op_mod kv (DE.bb (df fg hr (b7 (ck 0) (b7 cy cz)))) (DE.bb cy)))) cz))))))
  (cu (jf 5 (cS (i:=5) qG.nd (df uM hr (b7 (ck 1) (b7 (ck 2) (b7 (ck 3) (b7 (ck 4) cz)))))))
  (cu (jV (o4 (nu (df BS hr (b7 (df EW hr (b7 (ck 1) (b7 (ck 2) (b7 (ck 3) (b7 (ck 4) cz))))) (b7 (df vC hr (b7 (ck 2) (b7 (ck 5) cz))) cz))))) (cA (fc rN)) gi)
  (cA (fc (df zY hr (b7 (df ML hr (b7 (ck 1) (b7 (ck 2) (b7 (ck 3) (b7 (ck 4) cz))))) (b7 (df BO hr (b7 (ck 3) (b7 (ck 4) (b7 (ck 5) cz)))) cz)))))))))))
end
theorem all_mk {l:PySem.W.OpenLaw}{w:World}{K:PySem.W.Frag}{h:Heap}{mg:Str->Option Value}{fa:Addr}(X:K.In h)(G:h.Ns mainGlobals mg)(VJ:mg "law" = some (.ref fa))
  (h1:FH K "_law_stir" oA)
  (h2:FH K "_law_cell" oE)
  (h3:FH K "_law_draw" oD)
  (h4:FH K "_law_form" oB)
  (h5:FH K "_law_paths" mT)
  (h6:FH K "_law_fits" oC)
  (h7:FH K "_law_shift" mS)
  (h8:FH K "_law_book" kj)
  (h9:FH K "_law_ties" oz)
  (Wl:FH K "_law_rows" l6)
  (Wk:FH K "_law_all_rows" iN)
  (Wj:FH K "_law_whole" mR)
  (Wi:FH K "_law_numbers" jr)
  (Wh:FH K "_law_chart" kT)
  (Wg:FH K "_law_pair" l7)
  (We:FH K "triples_along" iy)
  (Wd:FH K "end_of" tu)
  (Wc:FH K "lengthened" jZ)
  (Wb:FH K "paths" su)
  (Wa:FH K "head_of" qH)
  (V9:FH K "numbered" ou)
  (V8:FH K "tie" FZ)
  (V7:FH K "tied" AJ)
  (V6:FH K "row_tables" jY)
  (V5:FH K "unit" xb)
  (V4:FH K "_law_unit" l5)
  (V3:FH K "first_triples" jP)
  (V2:FH K "carried" kc)
  (V1:FH K "_law_firsts" l8)
  (V0:FH K "_law_carried" ip)
  (VZ:FH K "law" tq)
  (NN:PySem.W.nsIn K mainGlobals "all" = some none)
  (Ll:PySem.W.nsIn K mainGlobals "bool" = some none)
  (Lk:PySem.W.nsIn K mainGlobals "dict" = some none)
  (yB:PySem.W.nsIn K mainGlobals "enumerate" = some none)
  (NM:PySem.W.nsIn K mainGlobals "int" = some none)
  (wY:PySem.W.nsIn K mainGlobals "isinstance" = some none)
  (NK:PySem.W.nsIn K mainGlobals "len" = some none)
  (Lj:PySem.W.nsIn K mainGlobals "list" = some none)
  (NJ:PySem.W.nsIn K mainGlobals "max" = some none)
  (NI:PySem.W.nsIn K mainGlobals "min" = some none)
  (Iq:PySem.W.nsIn K mainGlobals "range" = some none)
  (NH:PySem.W.nsIn K mainGlobals "set" = some none)
  (Ft:PySem.W.nsIn K mainGlobals "sorted" = some none)
  (Ip:PySem.W.nsIn K mainGlobals "tuple" = some none)
  (NG:PySem.W.nsIn K mainGlobals "zip" = some none) :
  ∃fd:FuncData,(∀(s:Shared) (v:Value),BindsTo s fd ⟨[v],[]⟩ [("script", v)])/\∀base:Heap,K.In base->base.Ns mainGlobals mg->L2.FnOk l.prog w K mg base L2.CX0 6 fa fd ["script"] (spD K F_law):=by
 obtain⟨f0,oc,od,kV,dc,pm,an,cd,ct,sl,a0,l0,c0,k0⟩:=VZ;have e:=VJ.symm.trans (PySem.W.mg_of X G a0);cases e;have T:Txt mg:=⟨PySem.W.mg_none_of X G NN,PySem.W.mg_none_of X G Ll,PySem.W.mg_none_of X G Lk,PySem.W.mg_none_of X G yB,PySem.W.mg_none_of X G NM,PySem.W.mg_none_of X G wY,PySem.W.mg_none_of X G NK,PySem.W.mg_none_of X G Lj,PySem.W.mg_none_of X G NJ,PySem.W.mg_none_of X G NI,PySem.W.mg_none_of X G Iq,PySem.W.mg_none_of X G NH,PySem.W.mg_none_of X G Ft,PySem.W.mg_none_of X G Ip,PySem.W.mg_none_of X G NG⟩;have F0:=L2.fun_mk (st:=tq) l0 c0 k0;refine⟨PySem.W.fnOf "law" "law" (L2.defArgs tq) (L2.defBody tq) (L2.defScope tq) .none kV dc pm an cd ct,fun s v=>.of_eq rfl,fun base _ _=>?_⟩;have Cb:=jd l.prog w base X G h1 (by trivial) fun _ _ Fu=>ze T  Fu;have mH:=jd l.prog w base X G h2 (by trivial) fun _ _ Fu=>zk T Cb Fu;have pB:=jd l.prog w base X G h3 (by trivial) fun _ _ Fu=>zj T  Fu;have Ce:=jd l.prog w base X G h4 (by trivial) fun _ _ Fu=>zh T mH pB Fu;have lz:=jd l.prog w base X G h5 (by trivial) fun _ _ Fu=>xq T  Fu;have Cf:=jd l.prog w base X G h6 (by trivial) fun _ _ Fu=>zi T lz Fu;have Ae:=jd l.prog w base X G h7 (by trivial) fun _ _ Fu=>xp T pB mH Cf lz Fu;have Cg:=jd l.prog w base X G h8 (by trivial) fun _ _ Fu=>zl T pB mH Fu;have Ca:=jd l.prog w base X G h9 (by trivial) fun _ _ Fu=>zc T lz Fu;have Cc:=jd l.prog w base X G Wl (by trivial) fun _ _ Fu=>zf T lz Ca Fu;have u0:=jd l.prog w base X G Wk (by trivial) fun _ _ Fu=>rY T Cc Fu;have Ad:=jd l.prog w base X G Wj (by trivial) fun _ _ Fu=>xo T  Fu;have oo:=jd l.prog w base X G Wi (by trivial) fun _ _ Fu=>tI T Ad Fu;have Af:=jd l.prog w base X G Wh (by trivial) fun _ _ Fu=>xr T oo Fu;have Cd:=jd l.prog w base X G Wg (by trivial) fun _ _ Fu=>zg T oo Fu;have se:=jd l.prog w base X G We (by trivial) fun _ _ Fu=>qM T  Fu;have Ag:=jd l.prog w base X G Wd (by trivial) fun _ _ Fu=>Eb T  Fu;have yn:=jd l.prog w base X G Wc (by trivial) fun _ _ Fu=>vj T Ag Fu;have Kl:=jd l.prog w base X G Wb (by trivial) fun _ _ Fu=>Gh T Ag yn Fu;have wW:=GG l.prog w base X G Wa (by trivial) fun _ _ Fu=>AS T  Fu;have B8:=GG l.prog w base X G V9 (by trivial) fun _ _ Fu=>y6 T wW Fu;have Qb:=GG l.prog w base X G V8 (by trivial) fun _ _ Fu=>LQ T wW Fu;have M4:=jd l.prog w base X G V7 (by trivial) fun _ _ Fu=>Jl T Qb Fu;have qz:=jd l.prog w base X G V6 (by trivial) fun _ _ Fu=>vi T Kl se B8 M4 Fu;have M3:=jd l.prog w base X G V5 (by trivial) fun _ _ Fu=>Jk T qz Fu;have B9:=jd l.prog w base X G V4 (by trivial) fun _ _ Fu=>za T  Fu;have sf:=jd l.prog w base X G V3 (by trivial) fun _ _ Fu=>qN T  Fu;have E8:=jd l.prog w base X G V2 (by trivial) fun _ _ Fu=>AU T qz sf Fu;have yo:=jd l.prog w base X G V1 (by trivial) fun _ _ Fu=>vk T  Fu;have vD:=jd l.prog w base X G V0 (by trivial) fun _ _ Fu=>tJ T yo Fu;exact LR T Ce Ae Cg mH u0 Cd E8 vD Af M3 B9 F0
end Lw
theorem PySem.W.Fast.tw14310784284518030618:True:=⟨⟩
theorem PySem.W.Fast.tw12123025301122430101:True:=⟨⟩
theorem PySem.W.Fast.tw9791098022799929791:True:=⟨⟩
theorem PySem.W.Fast.tw4284699670090756182:True:=⟨⟩
theorem PySem.W.Fast.tw4409613542882591438:True:=⟨⟩
theorem PySem.W.Fast.tw5621323594254706919:True:=⟨⟩
theorem PySem.W.Fast.tw5963951657167967747:True:=⟨⟩
theorem PySem.W.Fast.tw6798620536084261237:True:=⟨⟩
theorem PySem.W.Fast.tw10767583186486871360:True:=⟨⟩
theorem PySem.W.Fast.tw8125508649897763703:True:=⟨⟩
theorem PySem.W.Fast.tw1983699675372071396:True:=⟨⟩
theorem PySem.W.Fast.tw12878563614770898554:True:=⟨⟩
open PySem PySem.W PyProof.Rows
set_option maxRecDepth 100000 in
set_option maxHeartbeats 0 in
theorem PySem.Challenge.cw_formshift_k07_carried_holds : PySem.Challenge.rw_formshift_k07_carried.Holds := by
  w_on; o_law; k_head; (case hw => w_witness2)
  k_fill
  refine L2.walk_ofK (l := PySem.Challenge.rw_formshift_k07_carried) (n := 63) (k := 6) (x := "script") (CX := L2.CX0) (sp := fun K => DL.spD K Lw.F_law) rfl (by decide) rfl ⟨rfl, by decide, by decide⟩ (fun w h Y => PySem.W.kIn_of Y) ?F ?S ?C
  case F =>
    intro w mg fa h KX G O5;refine' Lw.all_mk KX G O5 ?_ ?_ ?_ ?_ ?_ ?_ ?_ ?_ ?_ ?_ ?_ ?_ ?_ ?_ ?_ ?_ ?_ ?_ ?_ ?_ ?_ ?_ ?_ ?_ ?_ ?_ ?_ ?_ ?_ ?_ ?_ ?_ ?_ ?_ ?_ ?_ ?_ ?_ ?_ ?_ ?_ ?_ ?_ ?_ ?_ ?_
    all_goals first|k_is|trivial
  case S => exact fun K H a ns hl hO hS => DL.law_end hS hl Lw.law_true
  case C => exact fun _ _ _ _ z => z

