import PyProof.Rows.All
import Wide.All
import OpenK.AllK
import Wide.FinOn
import Lean
import PyProof.EqAt
import PyProof.EqKinds
import PyProof.TupleCall
import PyProof.CompFree
import PyProof.Rows.CellsFrame
import PyProof.EqLayable
import PyProof.SameEqv
import PyProof.Draws
import PyProof.ZipIter
import PyProof.EnumMake
import PyProof.Rows.SortShellK
import PyProof.ListRange
import PyProof.TupleOfSeq
import PyProof.IsRules
import PyProof.Conv_int_bool
import PyProof.Conv_int
import PyProof.StationsW
import PyProof.RulesAs
import KE.KTryMore
import PyProof.ExcArgs
import PyProof.NsDelKeeps
import PyProof.DictRoadsH
import PyProof.DictIter
import PyProof.Rows.SetFrom
import PyProof.WalksMore
import KE.KDictSum
import KE.KSort
import PyProof.DictItems
import PyProof.AttrMissHeap
import PyProof.ListNew
import PySem.Challenge.RW_formshift_k10_whole_one_to_one
open Option renaming bind_some → aa, map_some → av, bind_eq_some_iff → bG
open PySem renaming wpAny_bind → ab, wpAny_pure → aq, wpAny_setField_rec → aW, wpAny_field → aZ, wpAny_holding → bK, wpAny_newObj_type → bW
open PySem.Heap renaming get?_push_of_some → ae, lt_size → aC, get?_push_size → aG, size_push → br
open List renaming length_map → af, getD_eq_getElem?_getD → ag, getElem?_set_ne → ai, range → aj, getElem?_eq_getElem → ao, getElem?_map → au, length_append → aw, getElem?_set_self → ay, mem_of_getElem? → az, map_cons → aA, length_range → aD, size_toArray → aE, mem_cons_of_mem → aH, replicate → aI, length_cons → aJ, getElem?_cons_succ → aK, getElem?_cons_zero → aL, mem_append_right → aM, getElem?_append_right → aN, length_singleton → aO, getElem?_append_left → aP, mem_cons_self → aQ, getElem?_eq_none → aT, mem_append_left → aU, map_append → aX, mem_range → aY, append_assoc → ba, getElem?_range → bc, length_set → bf, map_map → bg, length_replicate → bh, append_nil → bj, not_mem_nil → bo, all_eq_true → bp, mem_cons → bt, lookup_cons → bw, flatMap_cons → bz, getElem_idxOf → bA, getElem?_zipIdx → bB, replicate_succ → bC, ext_getElem? → bD, length_zipIdx → bF, range_eq_range' → bI, filter_cons → bJ, map_nil → bL, nil_append → bM, getElem?_replicate → bN, flatten_cons → bO, length_zip → bP, range' → bQ, drop_eq_getElem_cons → bT, length_nil → bU, forIn_cons → bV, set → bX, range'_succ → bZ, filter_append → b3, find?_cons → JB, idxOf_append → JD, getElem?_of_mem → JF, forIn_nil → JG, zipIdx_cons → JH, cons_append → JI, set_eq_of_length_le → JK, range_succ → JL, zip_cons_cons → JM, length_filter_le → JO, getElem_inj → JP, drop_length → JQ, zipIdx_nil → JU, of_mem_zip → JV, getElem?_concat_length → JZ, getElem?_zip_eq_some → J1, exists_mem_of_ne_nil → J2
open Nat renaming le_refl → aB, lt_of_lt_of_le → aF, ne_of_lt → aR, le_trans → aS, ne_of_gt → bq, lt_irrefl → bu, zero_le → bx, zero_add → bE, le_add_right → bH, le_of_succ_le → JC, le_succ → JE, pow_le_pow_right → JR, mul_le_mul_right → JS, min_eq_left → JT, sub_self → JX, le_of_lt → JY
open Int renaming toNat_natCast → aV, emod_lt_of_pos → JN, emod_nonneg → JW
open Array renaming length_toList → bY, getElem?_eq_getElem → JJ, forIn_toList → J0
local macro_rules | `(⋯) => `(by omega)
set_option compiler.extract_closed false
set_option genSizeOf false
set_option genInjectivity false
set_option Elab.async false
set_option linter.all false
set_option maxRecDepth 100000
namespace L2
open PySem PySem.Spec PyProof.Rows
noncomputable abbrev xA:=Sum Int Str
noncomputable def Fd:xA->Value->Bool
 |.inl k,v=>Value.isInt k v
 |.inr x,v=>Value.isStrOf x v
noncomputable def IV (w:World):xA->Int
 |.inl k=>hashInt k
 |.inr x=>hashStr w x
theorem fj:∀{k:xA}{v:Value},Fd k v=true->(∃i t,k=Sum.inl i/\v=Value.int i t)\/(∃x t,k=Sum.inr x/\v=Value.str x t)
 | .inl i,v,h=>by
  obtain⟨t,e⟩:=Value.isInt_shape (k:=i) (v:=v) h;exact .inl ⟨i,t,rfl,e⟩
 | .inr x,v,h=>by
  obtain⟨t,e⟩:=Value.isStrOf_shape (x:=x) (v:=v) h;exact .inr ⟨x,t,rfl,e⟩
theorem Gs (a b:Int):decide ((Sum.inl a:xA)=Sum.inl b)=(a==b):=by
 by_cases e:a=b
 ·subst e;simp
 ·have h:¬(Sum.inl a:xA)=Sum.inl b:=fun q=>e (Sum.inl.inj q);rw[decide_eq_false h];exact (beq_eq_false_iff_ne.mpr e).symm
theorem Gp (a b:Str):decide ((Sum.inr a:xA)=Sum.inr b)=decide (a=b):=by
 by_cases e:a=b
 ·subst e;simp
 ·have h:¬(Sum.inr a:xA)=Sum.inr b:=fun q=>e (Sum.inr.inj q);rw[decide_eq_false h,decide_eq_false e]
theorem Gr (a:Int)(b:Str):decide ((Sum.inl a:xA)=Sum.inr b)=false:=decide_eq_false (fun q=>nomatch q)
theorem Gq (a:Str)(b:Int):decide ((Sum.inr a:xA)=Sum.inl b)=false:=decide_eq_false (fun q=>nomatch q)
noncomputable def zm (prog:Program)(w:World):PySem.KeyKind prog w xA where
 is:=Fd
 hash:=IV w
 inj:=fun v a b ha hb=>by
  rcases fj ha with ⟨i,t,rfl,rfl⟩|⟨x,t,rfl,rfl⟩
  ·rcases fj hb with ⟨j,u,rfl,e⟩|⟨y,u,rfl,e⟩
   ·injection e with e1 _;rw[e1]
   ·exact nomatch e
  ·rcases fj hb with ⟨j,u,rfl,e⟩|⟨y,u,rfl,e⟩
   ·exact nomatch e
   ·injection e with e1 _;rw[e1]
 byValue:=fun k v h=>by
  rcases fj h with ⟨i,t,rfl,rfl⟩|⟨x,t,rfl,rfl⟩ <;> rfl
 pyHash:=fun hv h=>by
  rcases fj hv with ⟨i,t,rfl,rfl⟩|⟨x,t,rfl,rfl⟩
  ·exact wpAny_pyHash_int h
  ·exact wpAny_pyHash_str h
 eqBool:=fun hu hv h=>by
  rcases fj hu with ⟨i,t,rfl,rfl⟩|⟨x,t,rfl,rfl⟩
  ·rcases fj hv with ⟨j,u,rfl,rfl⟩|⟨y,u,rfl,rfl⟩
   ·rw[Gs] at h;exact wpAny_eqBool_int h
   ·rw[Gr] at h;exact SeqAt.EqAt.int_str i t y u _ _ _ _ h
  ·rcases fj hv with ⟨j,u,rfl,rfl⟩|⟨y,u,rfl,rfl⟩
   ·rw[Gq] at h;exact SeqAt.EqAt.str_int x t j u _ _ _ _ h
   ·rw[Gp] at h;exact wpAny_eqBool_str h
 «strs»:=fun k x t v h=>by
  rcases fj h with ⟨i,u,rfl,e⟩|⟨y,u,rfl,e⟩
  ·exact nomatch e
  ·injection e with e1 _
   subst e1;cases v <;> rfl
inductive V where
 |non|bl (b:Bool)|int (i:Int)|str (x:Str)|byt (b:Array UInt8)|flt (b:UInt64)|ref (a:Addr)|ty (n:String)
noncomputable def dR:V->Value->Prop
 |.non,u=>u=Value.none
 |.bl b,u=>u=Value.bool b
 |.int i,u=>∃t,u=Value.int i t
 |.str x,u=>∃t,u=Value.str x t
 |.byt b,u=>∃t,u=Value.bytes b t
 |.flt b,u=>∃t,u=Value.float b t
 |.ref a,u=>u=Value.ref a
 |.ty n,u=>u=Value.type n
noncomputable abbrev cT:List V->List Value->Prop:=Paired dR
theorem cT.length {xs:List V}{us:List Value}(r:cT xs us):xs.length=us.length:=Paired.length r
theorem cT.get:∀{xs:List V}{us:List Value}{i:Nat}{x:V},cT xs us->xs[i]?=some x->∃u,us[i]?=some u/\dR x u
 |_,_,_,_,.nil,e=>by simp at e
 |_,_,0,_,.cons r _,e=>by simp at e;subst e;exact⟨_,rfl,r⟩
 | _,_,i+1,x,.cons _ t,e=>by
  obtain⟨u,h1,h2⟩:=cT.get (i:=i) (x:=x) t (by simpa using e);exact⟨u,by simpa using h1,h2⟩
theorem cT.set {x:V}{u:Value}(r:dR x u):∀{xs:List V}{us:List Value} (i:Nat),cT xs us->cT (xs.set i x) (us.set i u)
 |_,_,_,.nil=>.nil
 |_,_,0,.cons _ t=>.cons r t
 |_,_,i+1,.cons q t=>.cons q (cT.set r i t)
theorem cT.append:∀{xs ys:List V}{us ws:List Value},cT xs us->cT ys ws->cT (xs++ys) (us++ws):=by
 intro xs ys us ws h s;induction h with
 |nil=>exact s
 |cons r t ih=>exact .cons r ih
theorem cT.take:∀{xs:List V}{us:List Value} (n:Nat),cT xs us->cT (xs.take n) (us.take n)
 |_,_,0,_=>.nil
 |_,_,_+1,.nil=>.nil
 |_,_,n+1,.cons r t=>.cons r (cT.take n t)
noncomputable def Ip:Option V->Option Value->Prop
 |some v,some u=>dR v u
 |none,none=>True
 |_,_=>False
noncomputable def KV {κ:Type}:List (κ×V)->List (κ×Value)->Prop:=Paired fun (p:κ×V) (q:κ×Value)=>p.1=q.1/\dR p.2 q.2
noncomputable def kV:xA->V
 |.inl i=>.int i
 |.inr x=>.str x
inductive HO where
 |lst (xs:List V)
 |tup (xs:List V)
 |dK (kvs:List (xA×V))|dT (kvs:List (List xA×V))
 |set (S:Int->Bool) (n:Nat)
 |ins (C dx:Addr) (fs:List (Str×V))
 |own (x:Addr)
 |xd (fs:List (Str×V))
 |met (f x:Addr)
 |rng (lo hi:Int)
 |frz (o:Obj) (u:HO)
 |tbl (ps:Array Value)
 |ext (φ:Heap->Prop)
noncomputable abbrev Hp:=Addr->Option HO
noncomputable def dY (H:Hp)(a:Addr)(o:HO):Hp:=fun b=>if b=a then some o else H b
theorem cK {H:Hp}{a:Addr}{o:HO}:dY H a o a=some o:=by unfold dY;rw[if_pos rfl]
theorem cC {H:Hp}{a b:Addr}{o:HO}(h:b≠a):dY H a o b=H b:=by unfold dY;rw[if_neg h]
theorem cE {H:Hp}{a b:Addr}{o:HO}(h:H a=some o)(h':H b=none):a≠b:=by
 intro e;subst e;rw[h] at h';cases h'
section
variable (P:Program)(w:World)
noncomputable def ObjOk (H:Hp)(h:Heap)(a:Addr):HO->Prop
 |.lst xs=>xs.length<=sizeLine/\∃(its:List Value) (n:Nat),cT xs its/\h.get? a=some { cls:=.type "list", data:=.seq its.toArray n }
 |.tup xs=>xs.length<=sizeLine/\∃its:List Value,cT xs its/\IsTup h a its.toArray
 |.dK kvs=>kvs.length<=sizeLine/\(a==sysModules)=false/\∃vs,KV kvs vs/\h.DictOf (zm P w) a vs
 | .dT kvs=>kvs.length<=sizeLine/\(a==sysModules)=false/\∃xs:List (List xA×Addr×Value),
   Paired (fun (p:List xA×V) (q:List xA×Addr×Value)=>p.1=q.1/\H q.2.1=some (.tup (p.1.map kV))/\dR p.2 q.2.2) kvs xs ∧
   ∃o es ep,h.get? a=some o/\o.ExactDict/\o.data=.dict es ep/\es.toList=xs.map (entryOfKey (tupleKind (zm P w)))/\(xs.map (·.1)).Nodup
 |.set S n=>h.SetOf (intKind P w) a S n
 | .ins C dx fs=>H dx=some (.own a)/\fs.length<=1000/\dx≠a/\h.get? a=some (PySem.W.instObj C dx) ∧
   ∃mA,h.Ns1 dx mA/\(∀f,Ip (fs.lookup f) (mA f))/\PySem.Within mA (fs.map (·.1))
 |.own _=>∃o,h.get? a=some o
 |.xd fs=>∃mA,h.Ns1 a mA/\∀f,Ip (fs.lookup f) (mA f)
 |.rng lo hi=>∃t u v,h.get? a=some { cls:=.type "range", data:=.fields #[.int lo t,.int hi u,.int 1 v] }
 |.frz o u=>h.get? a=some o/\ObjOk H h a u
 |.tbl ps=>h.get? a=some { cls:=.none,data:=.fields ps }
 |.met f x=>h.get? a=some (PySem.W.methodObj (.ref f) (.ref x))
 |.ext φ=>φ h/\(∃o,h.get? a=some o)/\∀h1 h2:Heap,φ h1->(∀o,h1.get? a=some o->h2.get? a=some o)->φ h2
def sa (H:Hp)(h:Heap):Prop:=∀a o,H a=some o->ObjOk P w H h a o
end
section
variable {P:Program}{w:World}{H H':Hp}{h h':Heap}{a:Addr}{o:HO}
theorem ObjOk.lt (x:ObjOk P w H h a o):a<h.objs.size:=by
 cases o with
 |lst xs=>obtain⟨_,_,_,_,e⟩:=x;exact aC e
 |tup xs=>obtain⟨_,_,_,p⟩:=x;exact p.lt
 |dK kvs=>obtain⟨_,_,_,_,o,_,_,e,_⟩:=x;exact aC e
 |dT kvs=>obtain⟨_,_,_,_,o,_,_,e,_⟩:=x;exact aC e
 |set S n=>obtain⟨o,_,_,_,e,_⟩:=x;exact aC e
 |ins C dx fs=>obtain⟨_,_,_,e,_⟩:=x;exact aC e
 |own y=>obtain⟨_,e⟩:=x;exact aC e
 |xd fs=>obtain⟨_,⟨_,_,_,e,_⟩,_⟩:=x;exact aC e
 |rng lo hi=>obtain⟨_,_,_,e⟩:=x;exact aC e
 |frz ob u=>obtain⟨e,_⟩:=x;exact aC e
 |tbl ps=>exact aC (show h.get? a=some _ from x)
 |met f y=>exact aC (show h.get? a=some _ from x)
 |ext φ=>obtain⟨_,⟨_,e⟩,_⟩:=x;exact aC e
theorem Paired.mapP {α β:Type}{F G:α->β->Prop}:∀{l₁:List α}{l₂:List β},Paired F l₁ l₂->(∀a b,F a b->G a b)->Paired G l₁ l₂:=by
 intro l₁ l₂ h f;induction h with
 |nil=>exact .nil
 |cons r t ih=>exact .cons (f _ _ r) ih
theorem ObjOk.stay (x:ObjOk P w H h a o)(k:∀b u,(b=a\/H b=some (.own a))->h.get? b=some u->h'.get? b=some u)
  (ho:∀b,H b=some (.own a)->H' b=some (.own a)) (ht:∀b xs,H b=some (.tup xs)->H' b=some (.tup xs)):ObjOk P w H' h' a o:=by
 induction o with
 |lst xs=>obtain⟨z,its,n,r,e⟩:=x;exact⟨z,its,n,r,k _ _ (.inl rfl) e⟩
 |tup xs=>obtain⟨z,its,r,ob,e,c⟩:=x;exact⟨z,its,r,ob,k _ _ (.inl rfl) e,c⟩
 |dK kvs=>obtain⟨z,y,vs,r,ob,es,ep,e,c⟩:=x;exact⟨z,y,vs,r,ob,es,ep,k _ _ (.inl rfl) e,c⟩
 |dT kvs =>
  obtain⟨z,y,xs,r,ob,es,ep,e,c⟩:=x;exact⟨z,y,xs,Paired.mapP r fun p q z=>⟨z.1,ht _ _ z.2.1,z.2.2⟩,ob,es,ep,k _ _ (.inl rfl) e,c⟩
 |set S n=>obtain⟨ob,es,ep,t,e,c⟩:=x;exact⟨ob,es,ep,t,k _ _ (.inl rfl) e,c⟩
 |ins C dx fs =>
  obtain⟨d,z,ne,e,mA,⟨od,es,ep,e2,c⟩,r⟩:=x;exact⟨ho _ d,z,ne,k _ _ (.inl rfl) e,mA,⟨od,es,ep,k _ _ (.inr d) e2,c⟩,r⟩
 |own y=>obtain⟨ob,e⟩:=x;exact⟨ob,k _ _ (.inl rfl) e⟩
 |xd fs=>obtain⟨mA,⟨od,es,ep,e,c⟩,r⟩:=x;exact⟨mA,⟨od,es,ep,k _ _ (.inl rfl) e,c⟩,r⟩
 |rng lo hi=>obtain⟨t,u,v,e⟩:=x;exact⟨t,u,v,k _ _ (.inl rfl) e⟩
 |frz ob u ih=>obtain⟨e,q⟩:=x;exact⟨k _ _ (.inl rfl) e,ih q⟩
 |tbl ps =>
  have e:h.get? a=some { cls:=.none,data:=.fields ps }:=x;show h'.get? a=some { cls:=.none,data:=.fields ps };exact k a _ (.inl rfl) e
 |met f y =>
  have e:h.get? a=some (PySem.W.methodObj (.ref f) (.ref y)):=x;show h'.get? a=some (PySem.W.methodObj (.ref f) (.ref y));exact k a _ (.inl rfl) e
 |ext φ=>obtain⟨p,⟨o,e⟩,st⟩:=x;exact⟨st _ _ p fun o q=>k _ _ (.inl rfl) q,⟨o,k _ _ (.inl rfl) e⟩,st⟩
theorem sa.lt (x:sa P w H h)(e:H a=some o):a<h.objs.size:=(x a o e).lt
theorem sa.fresh (x:sa P w H h)(e:h.objs.size<=a):H a=none:=by
 cases q:H a with
 |none=>rfl
 |some u=>exact absurd (aF (x.lt q) e) (bu _)
theorem sa.kept (x:sa P w H h)(k:∀b u,h.get? b=some u->h'.get? b=some u):sa P w H h':=fun a o e =>
 (x a o e).stay (fun b u _ q=>k b u q) (fun _ q=>q) fun _ _ q=>q
theorem sa.laid (x:sa P w H h)(k:∀b u,h.get? b=some u->h'.get? b=some u)(hp:h.objs.size<=a)(new:ObjOk P w (dY H a o) h' a o):sa P w (dY H a o) h':=fun b u e=>by
 have hn:=x.fresh hp;by_cases hb:b=a
 ·subst hb;rw[cK] at e;cases e;exact new
 ·rw[cC hb] at e;exact (x b u e).stay (fun c v _ q=>k c v q) (fun c q=>by rw[cC (cE q hn)];exact q) fun c xs q=>by rw[cC (cE q hn)];exact q
end
def Rd (H:Hp)(a:Addr)(u:HO):Prop:=H a=some u\/∃o,H a=some (.frz o u)
theorem Rd.ok {P:Program}{w:World}{H:Hp}{h:Heap}{a:Addr}{u:HO}(r:Rd H a u)(x:sa P w H h):ObjOk P w H h a u:=by
 rcases r with r|⟨o,r⟩
 ·exact x a u r
 ·obtain⟨_,q⟩:=x a _ r;exact q
noncomputable def IB:Option HO->Prop
 |some (.lst _)=>True
 |some (.dK _)=>True
 |some (.dT _)=>True
 |some (.set _ _)=>True
 |some (.ins _ _ _)=>True
 |some (.ext _)=>True
 |_=>False
section
variable {P:Program}{w:World}{H:Hp}{h h':Heap}{x e:Addr}{o':HO}
theorem sa.write (ok:sa P w H h)(mu:IB (H x))(he:e=x\/H e=some (.own x))(k:∀b u,b≠e->h.get? b=some u->h'.get? b=some u)(heo:∃u,h'.get? e=some u)
  (new:ObjOk P w (dY H x o') h' x o'):sa P w (dY H x o') h':=fun b u q=>by
 have nown:∀c y,H c=some (.own y)->c≠x:=fun c y r z=>by subst z;rw[r] at mu;exact mu
 have ntup:∀c xs,H c=some (.tup xs)->c≠x:=fun c xs r z=>by subst z;rw[r] at mu;exact mu
 by_cases hb:b=x
 ·subst hb;rw[cK] at q;cases q;exact new
 ·rw[cC hb] at q;by_cases hbe:b=e
  ·have q':H b=some (.own x):=by
    rcases he with z|z
    ·exact absurd (hbe.trans z) hb
    ·rw[hbe];exact z
   rw[q] at q';cases q';obtain⟨v,hv⟩:=heo;exact⟨v,by rw[hbe];exact hv⟩
  ·refine (ok b u q).stay (fun c v hc r=>k c v ?_ r) (fun c r=>by rw[cC (nown c b r)];exact r) fun c xs r=>by rw[cC (ntup c xs r)];exact r
   rcases hc with rfl|hc
   ·exact hbe
   ·rintro rfl;rcases he with z|z
    ·exact nown c b hc z
    ·rw[hc] at z;cases z;exact hb rfl
end
structure Un (fs ex:List Addr)(H H':Hp)(h h':Heap):Prop where
 keep:∀b o,h.get? b=some o->H b=none->b∉fs->b∉ex->h'.get? b=some o
 slot:∀b o,h.get? b=some o->H b=none->b∈fs->b∉ex->∃sl,h'.get? b=some { o with slots:=sl }
 free:∀b o,h.get? b=some o->H b=none->b∉ex->H' b=none
 there:∀b o,h.get? b=some o->b∉ex->∃o',h'.get? b=some o'
 tups:∀b xs,H b=some (.tup xs)->H' b=some (.tup xs)
 frzs:∀b o u,H b=some (.frz o u)->H' b=some (.frz o u)
 tbls:∀b ps,H b=some (.tbl ps)->∃more,H' b=some (.tbl (ps++more))
section
variable {fs fs' ex ex':List Addr}{H H1 H2:Hp}{h h1 h2 h':Heap}{a x e:Addr}{o:HO}
theorem Un.any (u:Un fs ex H H1 h h1){b:Addr}{ob:Obj}(q:h.get? b=some ob)(n:H b=none)(hx:b∉ex):∃sl,h1.get? b=some { ob with slots:=sl }:=by
 by_cases hb:b∈fs
 ·exact u.slot b ob q n hb hx
 ·exact⟨ob.slots,u.keep b ob q n hb hx⟩
theorem Un.trans (a:Un fs ex H H1 h h1)(b:Un fs ex H1 H2 h1 h2):Un fs ex H H2 h h2 where
 keep:=fun c ob q n hc hx=>b.keep c ob (a.keep c ob q n hc hx) (a.free c ob q n hx) hc hx
 slot:=fun c ob q n hc hx=>by
  obtain⟨sl,e1⟩:=a.slot c ob q n hc hx;obtain⟨sl',e2⟩:=b.slot c _ e1 (a.free c ob q n hx) hc hx;exact⟨sl',e2⟩
 free:=fun c ob q n hx=>by
  obtain⟨o',e1⟩:=a.there c ob q hx;exact b.free c o' e1 (a.free c ob q n hx) hx
 there:=fun c ob q hx=>by
  obtain⟨o',e1⟩:=a.there c ob q hx;exact b.there c o' e1 hx
 tups:=fun c xs q=>b.tups c xs (a.tups c xs q)
 frzs:=fun c ob xs q=>b.frzs c ob xs (a.frzs c ob xs q)
 tbls:=fun c ps q=>by
  obtain⟨m1,e1⟩:=a.tbls c ps q;obtain⟨m2,e2⟩:=b.tbls c _ e1;exact⟨m1++m2,by rw[e2,Array.append_assoc]⟩
theorem Un.kept (k:∀b u,h.get? b=some u->h'.get? b=some u):Un fs ex H H h h' :=
 ⟨fun b ob q _ _ _=>k b ob q,fun b ob q _ _ _=>⟨ob.slots,k b ob q⟩,fun _ _ _ n _=>n,fun b ob q _=>⟨ob,k b ob q⟩,fun _ _ q=>q,fun _ _ _ q=>q,fun _ ps q=>⟨#[],by rw[q];simp⟩⟩
theorem Un.refl:Un fs ex H H h h:=Un.kept fun _ _ q=>q
theorem Un.laid (k:∀b u,h.get? b=some u->h'.get? b=some u)(hp:h.objs.size<=a)(hn:H a=none):Un fs ex H (dY H a o) h h' where
 keep:=fun b u q _ _ _=>k b u q
 slot:=fun b u q _ _ _=>⟨u.slots,k b u q⟩
 free:=fun b u q n _=>by rw[cC (aR (aF (aC q) hp))];exact n
 there:=fun b u q _=>⟨u,k b u q⟩
 tups:=fun b xs q=>by rw[cC (cE q hn)];exact q
 frzs:=fun b u xs q=>by rw[cC (cE q hn)];exact q
 tbls:=fun b ps q=>⟨#[],by rw[cC (cE q hn),q];simp⟩
theorem Un.write (mu:IB (H x))(he:e=x\/H e=some (.own x))(k:∀b u,b≠e->h.get? b=some u->h'.get? b=some u)(heo:∃u,h'.get? e=some u):Un fs ex H (dY H x o) h h':=by
 have hx:∀b,H b=none->b≠x:=fun b n z=>by subst z;rw[n] at mu;exact mu
 have hb:∀b,H b=none->b≠e:=fun b n z=>by
  subst z;rcases he with r|r
  ·exact hx b n r
  ·rw[n] at r;cases r
 have hm:∀b u,H b=some u->¬IB (some u)->b≠x:=fun b u q nm z=>by subst z;rw[q] at mu;exact nm mu
 refine⟨fun b u q n _ _=>k b u (hb b n) q,fun b u q n _ _=>⟨u.slots,k b u (hb b n) q⟩,fun b u q n _=>by rw[cC (hx b n)];exact n,fun b u q _=>?_,
  fun b xs q=>by rw[cC (hm b _ q fun z=>z)];exact q,fun b u xs q=>by rw[cC (hm b _ q fun z=>z)];exact q,fun b ps q=>⟨#[],by rw[cC (hm b _ q fun z=>z),q];simp⟩⟩
 by_cases hbe:b=e
 ·subst hbe;exact heo
 ·exact⟨u,k b u hbe q⟩
end
noncomputable def Iw (h:Heap)(H:Hp):List Addr:=(aj h.objs.size).filter fun a=>(H a).isSome
noncomputable def uV (h:Heap)(H:Hp):Heap:=PySem.W.hideAll h (Iw h H)
theorem AM (h:Heap)(H:Hp):(uV h H).objs.size=h.objs.size:=PySem.W.hideAll_size _ _
theorem Cf {h:Heap}{H:Hp}{b:Addr}{o:Obj}(e:h.get? b=some o)(n:H b=none):(uV h H).get? b=some o :=
 PySem.W.hideAll_get _ e fun hm=>by
  have q:(H b).isSome=true:=(List.mem_filter.mp hm).2;rw[n] at q;simp at q
theorem D4 {h:Heap}{H:Hp}{b:Addr}{o:Obj}(e:(uV h H).get? b=some o):h.get? b=some o/\H b=none:=by
 have e':h.get? b=some o:=PySem.W.of_hideAll (Iw h H) e;refine⟨e',?_⟩;cases q:H b with
 |none=>rfl
 |some x =>
  have hm:b∈Iw h H:=List.mem_filter.mpr ⟨List.mem_range.mpr (aC e'),by simp[q]⟩;have z:(uV h H).get? b=none:=PySem.W.hideAll_none (Iw h H) hm;rw[z] at e;cases e
noncomputable def EM (g h:Heap)(L:Addr):List (Addr×Obj):=(aj h.objs.size).filterMap fun a=>if a=L\/(g.get? a).isSome=true then none else (h.get? a).map fun o=>(a,o)
noncomputable def fN (g h:Heap)(L d:Addr):List (Addr×Obj):=(EM g h L).filter fun p=>decide (p.1≠d)
structure Mod (K:PySem.W.Frag)(mg:Str->Option Value)(base:Heap):Prop where
 kin:K.In base
 glob:base.Ns mainGlobals mg
 blt:∃mb,base.Ns builtinsNs mb/\∀x:Str,x ≠ "__name__" ->mb x=bootBuiltins x
 nolimit:base.NoLimit
structure Cx where
 prog:Program
 w:World
 K:PySem.W.Frag
 mg:Str->Option Value
 base:Heap
 A:Around
 N:List Str
 s₀:Shared
 H₀:Hp
 env:Env
 outer:List Env
 stack:List Env
 ex:List Addr
 fn:Str->Bool
 calm:Bool
 pn:List (Addr×Obj)
 xe:Value->Shared->Prop
noncomputable def AR (l:List Env):List Addr:=l.filterMap (·.frame)
noncomputable abbrev Cx.fs (X:Cx):List Addr:=AR X.outer
def Vis (sc:Scope)(x:Str):Prop:=sc.names.lookup x=some .local\/sc.names.lookup x=some .cell\/sc.names.lookup x=some .free
def Loc (sc:Scope)(x:Str):Prop:=sc.names.lookup x=some .local\/sc.names.lookup x=some .cell
noncomputable def Jg (env:Env)(h:Heap)(m:Str->Option Value)(x:Str)(u:Value):Prop :=
 (env.kindOf x=some .local/\m x=some u)\/((env.kindOf x=some .cell\/env.kindOf x=some .free)/\∃c,env.cells.lookup x=some c/\h.IsCell c (some u))
structure Cx.Ok (X:Cx):Prop where
 mod:Mod X.K X.mg X.base
 kind:X.env.scope.kind=.function
 glob:X.env.globals=mainGlobals
 blt:X.env.builtins=builtinsNs
 above:X.s₀.heap.objs.size<=X.env.locals
 inj:∀x y c,X.env.cells.lookup x=some c->X.env.cells.lookup y=some c->x=y
 has:∀x,(X.env.kindOf x=some .cell\/X.env.kindOf x=some .free)->∃c,X.env.cells.lookup x=some c
 cab:∀x c,X.fn x=true->X.env.cells.lookup x=some c->X.s₀.heap.objs.size<=c
 hd:X.calm=true->X.A.handled=none
 frames:X.A.frames=some X.stack
 stk:X.stack=X.outer\/(X.stack=X.env::X.outer/\X.env.frame=some X.env.locals)
 exf:∀b∈X.ex,b≠X.env.locals/\∀x c,X.env.cells.lookup x=some c->c≠b
 bs:∀b o,X.base.get? b=some o->X.s₀.heap.get? b=some o/\X.H₀ b=none
 bsz:X.base.objs.size<=X.s₀.heap.objs.size
 noex:∀b o,X.base.get? b=some o->b∉X.ex
 exfs:∀b∈X.ex,b∉X.fs
 funs:X.s₀.heap.FunFrames X.base X.outer
 frf:∀b∈X.fs,X.H₀ b=none
structure cQ (X:Cx)(pins:List (Addr×Obj))(σ:List (Option V))(H:Hp)(s:Shared):Prop where
 ok:X.Ok
 os:s.os=X.s₀.os
 bare:AllBare s.gens
 base:Un X.fs X.ex X.H₀ H X.s₀.heap s.heap
 loc:∃m,s.heap.Ns X.env.locals m/\∀(i:Nat) (x:Str) (v:V),X.N[i]?=some x->σ[i]?=some (some v)->Vis X.env.scope x->∃u,dR v u/\Jg X.env s.heap m x u
 cell:∀x c,X.env.cells.lookup x=some c->∃v,s.heap.IsCell c v
 free:H X.env.locals=none
 freeC:∀x c,X.env.cells.lookup x=some c->H c=none
 pin:∀p∈X.pn++pins,s.heap.get? p.1=some p.2/\H p.1=none/\p.1≠X.env.locals/\p.1∉X.fs/\∀v,p.2.data≠.cell v
 hok:sa X.prog X.w H s.heap
 len:σ.length=X.N.length
section
variable {X:Cx}{pins:List (Addr×Obj)}{σ:List (Option V)}{H H':Hp}{s:Shared}{h':Heap}
theorem Cx.Ok.nofr (ok:X.Ok){b:Addr}{o:Obj}(e:X.base.get? b=some o):b∉X.fs:=fun hb=>by
 have:=(ok.funs.mem hb).1;rw[e] at this;cases this
theorem cQ.bs (I:cQ X pins σ H s):∀b o,X.base.get? b=some o->s.heap.get? b=some o/\H b=none:=fun b o e =>
 ⟨I.base.keep b o (I.ok.bs b o e).1 (I.ok.bs b o e).2 (I.ok.nofr e) (I.ok.noex b o e),I.base.free b o (I.ok.bs b o e).1 (I.ok.bs b o e).2 (I.ok.noex b o e)⟩
theorem cQ.bk (I:cQ X pins σ H s):∀b o,X.base.get? b=some o->s.heap.get? b=some o:=fun b o e=>(I.bs b o e).1
theorem cQ.mod (I:cQ X pins σ H s):Mod X.K X.mg X.base:=I.ok.mod
theorem cQ.kIn (I:cQ X pins σ H s):X.K.In s.heap:=I.ok.mod.kin.keeps I.bk
theorem cQ.nolimit (I:cQ X pins σ H s):s.heap.NoLimit:=I.ok.mod.nolimit.keeps I.bk
theorem cQ.lt (I:cQ X pins σ H s):X.env.locals<s.heap.objs.size:=let ⟨_,hn,_⟩:=I.loc;hn.lt
theorem cQ.sz (I:cQ X pins σ H s):X.s₀.heap.objs.size<=s.heap.objs.size:=aS I.ok.above (JY I.lt)
theorem cQ.nofs (I:cQ X pins σ H s){a:Addr}(h:s.heap.objs.size<=a):a∉X.fs:=fun hb=>by
 obtain⟨_,o,ho,_⟩:=I.ok.funs.mem hb;exact absurd (aF (aC ho) (aS I.sz h)) (bu _)
theorem cQ.cne (I:cQ X pins σ H s):∀x c,X.env.cells.lookup x=some c->c≠X.env.locals:=fun x c e z=>by
 obtain⟨v,o,ho,hd⟩:=I.cell x c e;obtain⟨m,⟨o',es,ep,ho',hd',_⟩,_⟩:=I.loc;rw[z,ho'] at ho;cases ho;rw[hd'] at hd;cases hd
theorem cQ.funs (I:cQ X pins σ H s):s.heap.FunFrames X.base X.outer:=by
 have all:∀(l:List Env),(∀b∈AR l,b∈X.fs)->X.s₀.heap.FunFrames X.base l->s.heap.FunFrames X.base l:=by
  intro l;induction l with
  |nil=>intro _ _;trivial
  |cons env r ih =>
   intro hs hl;obtain⟨hk,⟨L,o,hf,hn,ho,hd⟩,hr⟩:=hl;have hL:L∈X.fs:=hs L (by unfold AR;rw[List.filterMap_cons,hf];exact aQ);obtain⟨sl,e⟩:=I.base.slot L o ho (I.ok.frf L hL) hL fun z=>I.ok.exfs L z hL;exact⟨hk,⟨L,_,hf,hn,e,hd⟩,ih (fun b hb=>hs b (by unfold AR;rw[List.filterMap_cons,hf];exact aH _ hb)) hr⟩
 exact all X.outer (fun _ hb=>hb) I.ok.funs
theorem cQ.stack (I:cQ X pins σ H s):s.heap.FunFrames X.base X.stack:=by
 rcases I.ok.stk with e|⟨e,hf⟩
 ·rw[e];exact I.funs
 ·rw[e];obtain⟨m,hn,_⟩:=I.loc;refine .cons (by rw[I.ok.kind];decide) hf hn ?_ I.funs;exact Heap.get?_none_of_le (aS I.ok.bsz I.ok.above)
theorem cQ.stkSub (I:cQ X pins σ H s):∀b∈AR X.stack,b∈X.env.locals::X.fs:=fun b hb=>by
 rcases I.ok.stk with e|⟨e,hf⟩
 ·rw[e] at hb;exact aH _ hb
 ·rw[e] at hb;unfold AR at hb;rw[List.filterMap_cons,hf] at hb;exact hb
theorem cQ.stkFree (I:cQ X pins σ H s):∀b∈AR X.stack,H b=none:=fun b hb=>by
 rcases List.mem_cons.mp (I.stkSub b hb) with e|hb
 ·rw[e];exact I.free
 ·obtain⟨_,o,ho,_⟩:=I.ok.funs.mem hb;exact I.base.free b o ho (I.ok.frf b hb) fun z=>I.ok.exfs b z hb
theorem cQ.step {g':Array GenState}{t':Nat}{d':Drawn}{ch:List Addr}(I:cQ X pins σ H s)
  (hch:∀b∈ch,(b∈X.ex\/X.s₀.heap.objs.size<=b)/\b≠X.env.locals/\(∀x c,X.env.cells.lookup x=some c->c≠b)/\∀p∈X.pn++pins,p.1≠b)
  (keep:∀b o,b≠X.env.locals->b∉X.fs->b∉ch->s.heap.get? b=some o->H b=none->h'.get? b=some o)
  (slot:∀b o,b≠X.env.locals->b∈X.fs->b∉ch->s.heap.get? b=some o->H b=none->∃sl,h'.get? b=some { o with slots:=sl }) (free:∀b o,b∉ch->s.heap.get? b=some o->H b=none->H' b=none)
  (there:∀b o,b∉ch->s.heap.get? b=some o->∃o',h'.get? b=some o')
  (tups:∀b xs,H b=some (.tup xs)->H' b=some (.tup xs)) (frzs:∀b o u,H b=some (.frz o u)->H' b=some (.frz o u)) (tbls:∀b ps,H b=some (.tbl ps)->∃more,H' b=some (.tbl (ps++more)))
  (ns:∀m,s.heap.Ns X.env.locals m->h'.Ns X.env.locals m) (hok:sa X.prog X.w H' h') (hg:AllBare g') :
  cQ X pins σ H' { s with heap:=h',gens:=g',drawn:=d',toks:=t' }:=by
 have neL:∀b o,X.s₀.heap.get? b=some o->b≠X.env.locals:=fun b o e=>aR (aF (aC e) I.ok.above);have neC:∀b o,X.s₀.heap.get? b=some o->b∉X.ex->b∉ch:=fun b o e hx hb=>by
  rcases (hch b hb).1 with z|z
  ·exact hx z
  ·exact absurd (aF (aC e) z) (bu _)
 have cellK:∀x c,X.env.cells.lookup x=some c->∀v,s.heap.IsCell c v->h'.IsCell c v:=fun x c e v zz=>by
  obtain ⟨o,ho,hd⟩:=zz;have nch:c∉ch:=fun z=>(hch c z).2.2.1 x c e rfl;by_cases hc:c∈X.fs
  ·obtain⟨sl,q⟩:=slot c o (I.cne x c e) hc nch ho (I.freeC x c e);exact⟨_,q,hd⟩
  ·exact⟨o,keep c o (I.cne x c e) hc nch ho (I.freeC x c e),hd⟩
 refine⟨I.ok,I.os,hg,⟨fun b o e n hb hx=>?_,fun b o e n hb hx=>?_,fun b o e n hx=>?_,fun b o e hx=>?_,fun b xs e=>tups b xs (I.base.tups b xs e),fun b o xs e=>frzs b o xs (I.base.frzs b o xs e),fun b ps e=>?_⟩,?_,fun x c e=>?_,?_,fun x c e=>?_,fun p hp=>?_,hok,I.len⟩
 ·exact keep b o (neL b o e) hb (neC b o e hx) (I.base.keep b o e n hb hx) (I.base.free b o e n hx)
 ·obtain⟨sl,e1⟩:=I.base.slot b o e n hb hx;obtain⟨sl',e2⟩:=slot b _ (neL b o e) hb (neC b o e hx) e1 (I.base.free b o e n hx);exact⟨sl',e2⟩
 ·obtain⟨o',e1⟩:=I.base.there b o e hx;exact free b o' (neC b o e hx) e1 (I.base.free b o e n hx)
 ·obtain⟨o',e1⟩:=I.base.there b o e hx;exact there b o' (neC b o e hx) e1
 ·obtain⟨m1,e1⟩:=I.base.tbls b ps e;obtain⟨m2,e2⟩:=tbls b _ e1;exact⟨m1++m2,by rw[e2,Array.append_assoc]⟩
 ·obtain⟨m,hn,hl⟩:=I.loc;refine⟨m,ns m hn,fun i x v e1 e2 e3=>?_⟩;obtain⟨u,r,l⟩:=hl i x v e1 e2 e3;refine⟨u,r,?_⟩;rcases l with l|⟨k,c,e,z⟩
  ·exact .inl l
  ·exact .inr ⟨k,c,e,cellK x c e _ z⟩
 ·obtain⟨v,z⟩:=I.cell x c e;exact⟨v,cellK x c e v z⟩
 ·obtain⟨m,⟨o,_,_,ho,_⟩,_⟩:=I.loc;exact free _ o (fun z=>(hch _ z).2.1 rfl) ho I.free
 ·obtain⟨v,o,ho,hd⟩:=I.cell x c e;exact free c o (fun z=>(hch c z).2.2.1 x c e rfl) ho (I.freeC x c e)
 ·obtain⟨e,n,ne,nf,d⟩:=I.pin p hp;have nch:p.1∉ch:=fun z=>(hch p.1 z).2.2.2 p hp rfl;exact⟨keep p.1 p.2 ne nf nch e n,free p.1 p.2 nch e n,ne,nf,d⟩
theorem cQ.un {t':Nat}(I:cQ X pins σ H s)(u:Un X.fs [] H H' s.heap h')(hok:sa X.prog X.w H' h'):cQ X pins σ H' { s with heap:=h',toks:=t' }:=by
 obtain⟨m,⟨o,es,ep,ho,r⟩,_⟩:=id I.loc;obtain⟨sl,hL⟩:=u.any ho I.free (by simp);exact I.step (g':=s.gens) (d':=s.drawn) (ch:=[]) (fun _ z=>nomatch z) (fun b o _ hb _ e n=>u.keep b o e n hb (by simp)) (fun b o _ hb _ e n=>u.slot b o e n hb (by simp)) (fun b o _ e n=>u.free b o e n (by simp)) (fun b o _ e=>u.there b o e (by simp)) u.tups u.frzs u.tbls (fun m' hm=>by
  obtain⟨o',es',ep',ho',r'⟩:=hm;rw[ho] at ho';cases ho';exact⟨_,es',ep',hL,r'⟩) hok I.bare
theorem cQ.call {g':Array GenState}{t':Nat}{d':Drawn}{ch:List Addr}(I:cQ X pins σ H s)(u:Un (AR X.stack) ch H H' s.heap h')(hok:sa X.prog X.w H' h')(hg:AllBare g')
  (hch:∀b∈ch,(b∈X.ex\/X.s₀.heap.objs.size<=b)/\b≠X.env.locals/\(∀x c,X.env.cells.lookup x=some c->c≠b)/\∀p∈X.pn++pins,p.1≠b) :
  cQ X pins σ H' { s with heap:=h',gens:=g',drawn:=d',toks:=t' }:=by
 obtain⟨m,⟨o,es,ep,ho,r⟩,_⟩:=id I.loc;obtain⟨sl,hL⟩:=u.any ho I.free fun z=>(hch _ z).2.1 rfl;exact I.step (ch:=ch) hch (fun b o hL hb hc e n=>u.keep b o e n (fun z=>(List.mem_cons.mp (I.stkSub b z)).elim hL hb) hc) (fun b o _ _ hc e n=>u.any e n hc) (fun b o hc e n=>u.free b o e n hc) (fun b o hc e=>u.there b o e hc) u.tups u.frzs u.tbls (fun m' hm=>by
  obtain⟨o',es',ep',ho',r'⟩:=hm;rw[ho] at ho';cases ho';exact⟨_,es',ep',hL,r'⟩) hok hg
theorem cQ.turned {t':Nat}{it:Addr}(I:cQ X pins σ H s)(k:∀b o,b≠it->s.heap.get? b=some o->h'.get? b=some o)(hn:H it=none)(hL:it≠X.env.locals)
  (h1:it∈X.ex\/X.s₀.heap.objs.size<=it) (h2:∀x c,X.env.cells.lookup x=some c->c≠it) (h3:∀p∈X.pn++pins,p.1≠it):cQ X pins σ H { s with heap:=h',toks:=t' }:=by
 have nit:∀b u,H b=some u->b≠it:=fun b u e z=>by rw[z,hn] at e;cases e
 refine I.step (g':=s.gens) (d':=s.drawn) (ch:=[it]) (fun b hb=>?_) (fun b o _ _ hc e _=>k b o (fun z=>hc (by simp[z])) e) (fun b o _ _ hc e _=>⟨o.slots,k b o (fun z=>hc (by simp[z])) e⟩) (fun _ _ _ _ n=>n)
  (fun b o hc e=>⟨o,k b o (fun z=>hc (by simp[z])) e⟩) (fun _ _ e=>e) (fun _ _ _ e=>e) (fun b ps e=>⟨#[],by rw[e];simp⟩) (fun m hm=>?_) (fun b u e=>?_) I.bare
 ·have e:b=it:=by simpa using hb
  subst e;exact⟨h1,hL,h2,h3⟩
 ·obtain⟨o,es,ep,ho,r⟩:=hm;exact⟨o,es,ep,k _ o (Ne.symm hL) ho,r⟩
 ·refine (I.hok b u e).stay (fun c v hc q=>k c v ?_ q) (fun _ q=>q) fun _ _ q=>q;rcases hc with z|z
  ·rw[z];exact nit b u e
  ·exact nit c _ z
theorem cQ.tok (I:cQ X pins σ H s)(t:Nat):cQ X pins σ H { s with toks:=t }:=I.un (h':=s.heap) (t':=t) Un.refl I.hok
theorem cQ.kept {t':Nat}(I:cQ X pins σ H s)(k:∀b u,s.heap.get? b=some u->h'.get? b=some u):cQ X pins σ H { s with heap:=h',toks:=t' }:=I.un (Un.kept k) (I.hok.kept k)
theorem cQ.laid {a:Addr}{o:HO}{t':Nat}(I:cQ X pins σ H s)(k:∀b u,s.heap.get? b=some u->h'.get? b=some u)(hp:s.heap.objs.size<=a)(new:ObjOk X.prog X.w (dY H a o) h' a o) :
  cQ X pins σ (dY H a o) { s with heap:=h',toks:=t' }:=I.un (Un.laid k hp (I.hok.fresh hp)) (I.hok.laid k hp new)
theorem cQ.write {x e:Addr}{o:HO}{t':Nat}(I:cQ X pins σ H s)(mu:IB (H x))(he:e=x\/H e=some (.own x))(k:∀b u,b≠e->s.heap.get? b=some u->h'.get? b=some u)(heo:∃u,h'.get? e=some u)
  (new:ObjOk X.prog X.w (dY H x o) h' x o):cQ X pins σ (dY H x o) { s with heap:=h',toks:=t' }:=I.un (Un.write mu he k heo) (I.hok.write mu he k heo new)
theorem cQ.pins_of {pins':List (Addr×Obj)}(I:cQ X pins σ H s)(h:∀p∈pins',s.heap.get? p.1=some p.2/\H p.1=none/\p.1≠X.env.locals/\p.1∉X.fs/\∀v,p.2.data≠.cell v):cQ X pins' σ H s :=
 ⟨I.ok,I.os,I.bare,I.base,I.loc,I.cell,I.free,I.freeC,fun p hp=>(List.mem_append.mp hp).elim (fun z=>I.pin p (aU _ z)) (h p),I.hok,I.len⟩
theorem wB {N:List Str}(hN:N.Nodup){i j:Nat}{x:Str}(a:N[i]?=some x)(b:N[j]?=some x):i=j:=by
 obtain⟨h1,e1⟩:=List.getElem?_eq_some_iff.mp a;obtain⟨h2,e2⟩:=List.getElem?_eq_some_iff.mp b;exact (JP hN).mp (e1.trans e2.symm)
theorem sV {M:Model}{A:Around}{E:Value->Shared->Prop}{i:Nat}{x:Str}{v:V}{u:Value}{Q:Unit->Shared->Prop}(I:cQ X pins σ H s)(hN:X.N.Nodup)(hi:X.N[i]?=some x)(hx:Loc X.env.scope x)(r:dR v u)
  (h:∀s',cQ X pins (σ.set i (some v)) H s'->(∃a,Heap.SameBut a s.heap s'.heap/\(a=X.env.locals\/X.env.cells.lookup x=some a))->Q () s') (hf:X.fn x=true\/X.env.scope.names.lookup x=some .local:=by first|exact .inl rfl|exact .inr rfl|assumption):wpAny M A (storeName X.env x u) Q E s:=by
 obtain⟨m,hn,hl⟩:=id I.loc;have hcls:(X.env.scope.kind==.class||(X.env.scope.kind==.module&&X.env.locals != X.env.globals))=false:=by rw[I.ok.kind];rfl
 have hiσ:i<σ.length:=by rw[I.len];exact (List.getElem?_eq_some_iff.mp hi).1
 have cne:=I.cne;have tracked:∀{a:Addr}{h':Heap},(∃o,s.heap.get? a=some o/\H a=none)->Heap.SameBut a s.heap h'->sa X.prog X.w H h':=fun {a h'} ha hs b ob e=>by
  obtain⟨_,_,hfree⟩:=ha;refine (I.hok b ob e).stay (fun c w' hc q=>(hs.2 c ?_).trans q) (fun _ q=>q) fun _ _ q=>q;rintro rfl;rcases hc with rfl|hc
  ·rw[hfree] at e;cases e
  ·rw[hfree] at hc;cases hc
 rcases hx with hk|hk
 ·refine wpAny_storeName_local hk hn (fun h' hn' hs=>?_) hcls;obtain⟨oL,_,_,hoL,_⟩:=id hn;refine h _ ⟨I.ok,I.os,I.bare,⟨fun b o e n hb hx=>?_,fun b o e n hb hx=>?_,I.base.free,fun b o e hx=>?_,I.base.tups,I.base.frzs,I.base.tbls⟩,⟨_,hn',fun j y v' e1 e2 e3=>?_⟩,fun y c e=>?_,I.free,I.freeC,fun p hp=>?_,tracked ⟨oL,hoL,I.free⟩ hs,by simpa using I.len⟩ ⟨_,hs,.inl rfl⟩
  ·exact (hs.2 b (aR (aF (aC e) I.ok.above))).trans (I.base.keep b o e n hb hx)
  ·obtain⟨sl,e1⟩:=I.base.slot b o e n hb hx;exact⟨sl,(hs.2 b (aR (aF (aC e) I.ok.above))).trans e1⟩
  ·obtain⟨o',e1⟩:=I.base.there b o e hx;exact⟨o',(hs.2 b (aR (aF (aC e) I.ok.above))).trans e1⟩
  ·by_cases hj:j=i
   ·subst hj;rw[hi] at e1;cases e1;rw[ay hiσ] at e2;cases e2;exact⟨u,r,.inl ⟨hk,by simp⟩⟩
   ·rw[ai (Ne.symm hj)] at e2;obtain⟨u',r',q⟩:=hl j y v' e1 e2 e3;refine⟨u',r',?_⟩;rcases q with ⟨k,e⟩|⟨k,c,e,z⟩
    ·refine .inl ⟨k,?_⟩;have:y≠x:=fun e=>hj (wB hN e1 (e▸hi));simp[this,e]
    ·exact .inr ⟨k,c,e,z.sameBut hs (cne y c e)⟩
  ·obtain⟨w',z⟩:=I.cell y c e;exact⟨w',z.sameBut hs (cne y c e)⟩
  ·obtain⟨e,n,ne,nf,d⟩:=I.pin p hp;exact⟨(hs.2 p.1 ne).trans e,n,ne,nf,d⟩
 ·have hfn:X.fn x=true:=by
   rcases hf with z|z
   ·exact z
   ·rw[z] at hk;cases hk
  obtain⟨c,hc⟩:=I.ok.has x (.inl hk);obtain⟨w',z⟩:=I.cell x c hc;refine wpAny_storeName_cell I.ok.kind hk hc z (fun h' hc' hs=>?_);obtain⟨oc,hoc,hocd⟩:=id z;refine h { s with heap:=h' } ⟨I.ok,I.os,I.bare,⟨fun b o e n hb hx=>?_,fun b o e n hb hx=>?_,I.base.free,fun b o e hx=>?_,I.base.tups,I.base.frzs,I.base.tbls⟩,⟨m,hn.sameBut hs (Ne.symm (cne x c hc)),fun j y v' e1 e2 e3=>?_⟩,fun y c' e=>?_,I.free,I.freeC,fun p hp=>?_,tracked ⟨oc,hoc,I.freeC x c hc⟩ hs,by simpa using I.len⟩ ⟨c,hs,.inr hc⟩
  ·exact (hs.2 b (aR (aF (aC e) (I.ok.cab x c hfn hc)))).trans (I.base.keep b o e n hb hx)
  ·obtain⟨sl,e1⟩:=I.base.slot b o e n hb hx;exact⟨sl,(hs.2 b (aR (aF (aC e) (I.ok.cab x c hfn hc)))).trans e1⟩
  ·obtain⟨o',e1⟩:=I.base.there b o e hx;exact⟨o',(hs.2 b (aR (aF (aC e) (I.ok.cab x c hfn hc)))).trans e1⟩
  ·by_cases hj:j=i
   ·subst hj;rw[hi] at e1;cases e1;rw[ay hiσ] at e2;cases e2;exact⟨u,r,.inr ⟨.inl hk,c,hc,hc'⟩⟩
   ·rw[ai (Ne.symm hj)] at e2;obtain⟨u',r',q⟩:=hl j y v' e1 e2 e3;refine⟨u',r',?_⟩;rcases q with q|⟨k,c',e,z'⟩
    ·exact .inl q
    ·refine .inr ⟨k,c',e,z'.sameBut hs ?_⟩;rintro rfl;exact hj (wB hN e1 (I.ok.inj _ _ _ e hc▸hi))
  ·by_cases hcc:c'=c
   ·subst hcc;exact⟨_,hc'⟩
   ·obtain⟨w2,z2⟩:=I.cell y c' e;exact⟨w2,z2.sameBut hs hcc⟩
  ·obtain⟨e,n,ne,nf,d⟩:=I.pin p hp;refine⟨(hs.2 p.1 ?_).trans e,n,ne,nf,d⟩;intro q;rw[q,hoc] at e;have q':oc=p.2:=Option.some.inj e;exact d w' (by rw[<-q'];exact hocd)
theorem vO {M:Model}{A:Around}{E:Value->Shared->Prop}{i:Nat}{x:Str}{v:V}{u:Value}{Q:Unit->Shared->Prop}(I:cQ X pins σ H s)(hN:X.N.Nodup)(hi:X.N[i]?=some x)(hx:Loc X.env.scope x)(r:dR v u)
  (h:∀s',cQ X pins (σ.set i (some v)) H s'->Q () s') (hf:X.fn x=true\/X.env.scope.names.lookup x=some .local:=by first|exact .inl rfl|exact .inr rfl|assumption):wpAny M A (storeName X.env x u) Q E s :=
 sV I hN hi hx r (fun s' I' _=>h s' I') hf
theorem cQ.call' {s':Shared}{ch:List Addr}(I:cQ X pins σ H s)(ho:s'.os=s.os)(u:Un (AR X.stack) ch H H' s.heap s'.heap)(hok:sa X.prog X.w H' s'.heap)(hg:AllBare s'.gens)
  (hch:∀b∈ch,(b∈X.ex\/X.s₀.heap.objs.size<=b)/\b≠X.env.locals/\(∀x c,X.env.cells.lookup x=some c->c≠b)/\∀p∈X.pn++pins,p.1≠b):cQ X pins σ H' s':=by
 obtain⟨h',g',d',t',o'⟩:=s';have e:o'=s.os:=ho;subst e;exact I.call (g':=g') (t':=t') (d':=d') u hok hg hch
end
noncomputable abbrev XK:=Value->Option Addr->Hp->Prop
noncomputable abbrev St:=List (Option V)
noncomputable abbrev VK:=V->Hp->Prop
noncomputable abbrev TE:=St->Hp->VK->Prop
noncomputable abbrev TT:=St->Hp->(Bool->Hp->Prop)->Prop
noncomputable abbrev TA:=St->Hp->(List V->Hp->Prop)->Prop
structure jQ where
 nx:St->Hp->Prop
 rt:VK
 bk:St->Hp->Prop:=fun _ _=>False
 ct:St->Hp->Prop:=fun _ _=>False
noncomputable abbrev TS:=jQ->St->Hp->Prop
def EP (X:Cx)(pins:List (Addr×Obj))(σ:St)(Q:VK)(u:Value)(s':Shared):Prop:=∃v H',cQ X pins σ H' s'/\dR v u/\Q v H'
def TP (X:Cx)(pins:List (Addr×Obj))(σ:St)(Q:Bool->Hp->Prop)(b:Bool)(s':Shared):Prop:=∃H',cQ X pins σ H' s'/\Q b H'
def AP (X:Cx)(pins:List (Addr×Obj))(σ:St)(Q:List V->Hp->Prop)(us:List Value)(s':Shared):Prop:=∃vs H',cQ X pins σ H' s'/\cT vs us/\Q vs H'
noncomputable def SP (X:Cx)(pins:List (Addr×Obj))(D:jQ)(f:Flow)(s':Shared):Prop :=
 match f with
 |.next=>∃σ' H',cQ X pins σ' H' s'/\D.nx σ' H'
 |.brk=>∃σ' H',cQ X pins σ' H' s'/\D.bk σ' H'
 |.cont=>∃σ' H',cQ X pins σ' H' s'/\D.ct σ' H'
 |.ret u=>∃v σ' H',cQ X pins σ' H' s'/\dR v u/\D.rt v H'
noncomputable def PE (X:Cx)(e:Expr)(t:TE):Prop :=
 ∀(pins:List (Addr×Obj)) (s:Shared) (σ:St) (H:Hp) (Q:VK),cQ X pins σ H s->t σ H Q->wpAny (model X.prog X.w) X.A (eval e X.env) (EP X pins σ Q) X.xe s
noncomputable def PT (X:Cx)(e:Expr)(t:TT):Prop :=
 ∀(pins:List (Addr×Obj)) (s:Shared) (σ:St) (H:Hp) (Q:Bool->Hp->Prop),cQ X pins σ H s->t σ H Q->wpAny (model X.prog X.w) X.A (isTrue e X.env (eval e X.env)) (TP X pins σ Q) X.xe s
noncomputable def PW (X:Cx)(e:Expr)(t:TT):Prop :=
 ∀(whole:Sem Value) (pins:List (Addr×Obj)) (s:Shared) (σ:St) (H:Hp) (Q:Bool->Hp->Prop),cQ X pins σ H s->t σ H Q->wpAny (model X.prog X.w) X.A (isTrue e X.env whole) (TP X pins σ Q) X.xe s
noncomputable def PA (X:Cx)(es:List Expr)(t:TA):Prop :=
 ∀(pos:Pos) (pins:List (Addr×Obj)) (s:Shared) (σ:St) (H:Hp) (Q:List V->Hp->Prop),cQ X pins σ H s->t σ H Q->wpAny (model X.prog X.w) X.A (spliced (backTo pos (starEach es X.env))) (AP X pins σ Q) X.xe s
noncomputable def PS (X:Cx)(st:Stmt)(t:TS):Prop :=
 ∀(pins:List (Addr×Obj)) (s:Shared) (σ:St) (H:Hp) (D:jQ),cQ X pins σ H s->t D σ H->wpAny (model X.prog X.w) X.A (exec st X.env) (SP X pins D) X.xe s
noncomputable def PSs (X:Cx)(st:List Stmt)(t:TS):Prop :=
 ∀(pins:List (Addr×Obj)) (s:Shared) (σ:St) (H:Hp) (D:jQ),cQ X pins σ H s->t D σ H->wpAny (model X.prog X.w) X.A (execs st X.env) (SP X pins D) X.xe s
theorem thn {α:Type}{t:Sem α}{Q Q':α->Shared->Prop}{M:Model}{A:Around}{E:Value->Shared->Prop}{s:Shared}(h:wpAny M A t Q E s)(hQ:∀a s,Q a s->Q' a s):wpAny M A t Q' E s:=wpAny_mono h hQ fun _ _ x=>x
section
variable {X:Cx}
noncomputable def IE (i:Nat):TE:=fun σ H Q=>∃v,σ[i]?=some (some v)/\Q v H
noncomputable def tC (v:V):TE:=fun _ H Q=>Q v H
theorem pe_var {i:Nat}{x:Str}{pos:Pos}(hN:X.N[i]?=some x)(hv:Vis X.env.scope x)(hd:(x==("__debug__" : Str))=false:=by decide)(hcd:(x==("__classdict__" : Str))=false:=by decide):PE X (.Name x pos) (IE i):=by
 intro pins s σ H Q I h;obtain⟨v,e,h⟩:=h;obtain⟨m,hn,hl⟩:=I.loc;obtain⟨u,r,l⟩:=hl i x v hN e hv;have fin:EP X pins σ Q u s:=⟨v,H,I,r,h⟩;rcases l with ⟨hk,hm⟩|⟨hk,c,hc,hcell⟩
 ·exact wpAny_Name (wpAny_loadName_local I.ok.kind hk hn hm fin) hd
 ·rcases hk with hk|hk
  ·exact wpAny_Name (wpAny_loadName_cell I.ok.kind hk hc hcell fin) hd
  ·exact wpAny_Name (wpAny_loadName_free I.ok.kind hk hc hcell fin hcd) hd
theorem pe_int {i j pos}:PE X (.Constant (.int i) j pos) (tC (.int i)):=fun _ _ _ H _ I h=>wpAny_Constant_int ⟨.int i,H,I.tok _,⟨_,rfl⟩,h⟩
theorem pe_bl {b j pos}:PE X (.Constant (.bool b) j pos) (tC (.bl b)):=fun _ _ _ H _ I h=>Constant_bool ⟨.bl b,H,I,rfl,h⟩
def Gl (X:Cx)(x:Str):Prop:=X.env.kindOf x=some .globalImplicit
theorem Eg {E:Value->Shared->Prop}{pins:List (Addr×Obj)}{s:Shared}{σ:St}{H:Hp}{x:Str}{u:Value}{pos:Pos}{Q:Value->Shared->Prop}(I:cQ X pins σ H s)(hg:Gl X x)(hm:X.mg x=some u)(h:Q u s)
  (hd:(x==("__debug__" : Str))=false:=by decide):wpAny (model X.prog X.w) X.A (eval (.Name x pos) X.env) Q E s :=
 Calls.Name_function_global I.ok.kind hg (Calls.loadGlobal_global (by rw[I.ok.glob];exact I.mod.glob.keeps I.bk) hm h) hd
theorem ld_blt {E:Value->Shared->Prop}{pins:List (Addr×Obj)}{s:Shared}{σ:St}{H:Hp}{x:Str}{u:Value}{pos:Pos}{Q:Value->Shared->Prop}(I:cQ X pins σ H s)(hg:Gl X x)(hm:X.mg x=none)(hv:bootBuiltins x=some u)(h:Q u s)
  (hn:x ≠ "__name__" := by decide) (hd:(x==("__debug__" : Str))=false:=by decide):wpAny (model X.prog X.w) X.A (eval (.Name x pos) X.env) Q E s:=by
 obtain⟨mb,h1,h2⟩:=I.mod.blt;exact Calls.Name_function_global I.ok.kind hg (Calls.loadGlobal_builtin (by rw[I.ok.glob];exact I.mod.glob.keeps I.bk) hm (by rw[I.ok.blt];exact h1.keeps I.bk) ((h2 x hn).trans hv) h) hd
theorem pe_bltn {x:Str}{v:V}{u:Value}{pos:Pos}(hg:Gl X x)(hm:X.mg x=none)(hv:bootBuiltins x=some u)(r:dR v u)(hn:x ≠ "__name__" := by decide)(hd:(x==("__debug__" : Str))=false:=by decide):PE X (.Name x pos) (tC v) :=
 fun _ _ _ H _ I h=>ld_blt I hg hm hv ⟨v,H,I,r,h⟩ hn hd
variable {a b:Expr}{ta tb:TE}{pos:Pos}
noncomputable def tB (t:TE):TT:=fun σ H Q=>t σ H fun x H1=>∃c,x=.bl c/\Q c H1
theorem pt_val {e:Expr}{t:TE}(h:PE X e t)(he:∀whole,isTrue e X.env whole=(do let v <-whole;standAt e.pos;holding [v] (truthy v)):=by intro _;rfl):PT X e (tB t):=by
 intro pins s σ H Q I hw;refine isTrue_plain (thn (h pins s σ H _ I hw) fun v s1 ⟨x,H1,I1,r1,q1⟩=>?_) (he _);obtain⟨d,rfl,q⟩:=q1;cases r1;exact wpAny_truthy_bool ⟨H1,I1,q⟩
variable {tA tB':TT}{fN:List Expr}
noncomputable def qf (t u:TT):TT:=fun σ H Q=>t σ H fun c H1=>if c=true then u σ H1 Q else Q false H1
noncomputable def xH (t u:TT):TT:=fun σ H Q=>t σ H fun c H1=>if c=true then Q true H1 else u σ H1 Q
noncomputable def kj (t:TT):TT:=fun σ H Q=>t σ H fun c H1=>Q (!c) H1
theorem pw_and1 (ha:PT X a tA):PW X (.BoolOp .And [a] pos) tA:=by
 intro wh pins s σ H Q I h;refine isTrue_and (thn (ha pins s σ H Q I h) fun c s1 e=>?_);cases c with
 |true=>exact isTrue_and_nil e
 |false=>exact e
theorem pw_or1 (ha:PT X a tA):PW X (.BoolOp .Or [a] pos) tA:=by
 intro wh pins s σ H Q I h;refine isTrue_or (thn (ha pins s σ H Q I h) fun c s1 e=>?_);cases c with
 |false=>exact isTrue_or_nil e
 |true=>exact e
theorem pw_and (ha:PT X a tA)(hb:PW X (.BoolOp .And (b::fN) pos) tB'):PW X (.BoolOp .And (a::b::fN) pos) (qf tA tB'):=by
 intro wh pins s σ H Q I h;refine isTrue_and (thn (ha pins s σ H _ I h) fun c s1 zz=>?_);obtain ⟨H1,I1,q1⟩:=zz;cases c with
 |true=>exact hb wh pins s1 σ H1 Q I1 q1
 |false=>exact⟨H1,I1,q1⟩
theorem pw_or (ha:PT X a tA)(hb:PW X (.BoolOp .Or (b::fN) pos) tB'):PW X (.BoolOp .Or (a::b::fN) pos) (xH tA tB'):=by
 intro wh pins s σ H Q I h;refine isTrue_or (thn (ha pins s σ H _ I h) fun c s1 zz=>?_);obtain ⟨H1,I1,q1⟩:=zz;cases c with
 |true=>exact⟨H1,I1,q1⟩
 |false=>exact hb wh pins s1 σ H1 Q I1 q1
theorem pt_not (ha:PT X a tA):PT X (.UnaryOp .Not a pos) (kj tA):=by
 intro pins s σ H Q I h;exact isTrue_not (ha pins s σ H (fun c H1=>Q (!c) H1) I h)
noncomputable def Hs (ta tb:TE):TE:=fun σ H Q=>ta σ H fun x H1=>∃c,x=.bl c/\if c=true then tb σ H1 Q else Q (.bl false) H1
noncomputable def Hn (ta:TE):TE:=fun σ H Q=>ta σ H fun x H1=>∃c,x=.bl c/\Q (.bl (!c)) H1
theorem pe_one {op}{t:TE}(h:PE X a t):PE X (.BoolOp op [a] pos) t:=fun pins s σ H Q I hw=>BoolOp_one (h pins s σ H Q I hw)
theorem pe_and (ha:PE X a ta)(hb:PE X (.BoolOp .And (b::fN) pos) tb):PE X (.BoolOp .And (a::b::fN) pos) (Hs ta tb):=by
 intro pins s σ H Q I h;refine BoolOp_and (thn (ha pins s σ H _ I h) fun v s1 zz=>?_);obtain ⟨x,H1,I1,r1,q1⟩:=zz;obtain⟨c,rfl,q1⟩:=q1;cases r1;refine wpAny_truthy_bool ?_;cases c with
 |true=>exact hb pins s1 σ H1 Q I1 q1
 |false=>exact⟨.bl false,H1,I1,rfl,q1⟩
theorem pe_not (ha:PE X a ta):PE X (.UnaryOp .Not a pos) (Hn ta):=by
 intro pins s σ H Q I h;refine UnaryOp_ (thn (ha pins s σ H _ I h) fun v s1 zz=>?_);obtain ⟨x,H1,I1,r1,q1⟩:=zz;obtain⟨c,rfl,q1⟩:=q1;cases r1;exact not_of (wpAny_truthy_bool ⟨.bl (!c),H1,I1,rfl,q1⟩)
end
noncomputable def jR (K:PySem.W.Frag)(H:Hp)(a:Addr)(xs:List V):Prop :=
 Rd H a (.lst xs) ∨
  ∃(o:Obj) (its:Array Value) (n:Nat),K.lookup a=some o/\o.cls=.type "list" ∧ o.dict=none/\o.data=.seq its n/\its.size<=sizeLine/\cT xs its.toList
noncomputable def jj (K:PySem.W.Frag)(H:Hp)(a:Addr)(xs:List V):Prop :=
 Rd H a (.tup xs) ∨
  ∃(o:Obj) (its:Array Value) (n:Nat),K.lookup a=some o/\o.cls=.type "tuple" ∧ o.data=.seq its n/\its.size<=sizeLine/\cT xs its.toList
noncomputable def Jc:Value->Option V
 |.none=>some .non
 |.bool b=>some (.bl b)
 |.int i _=>some (.int i)
 |.str x _=>some (.str x)
 |.bytes b _=>some (.byt b)
 |.float b _=>some (.flt b)
 |.ref a=>some (.ref a)
 |.type n=>some (.ty n)
 |_=>none
theorem dR.abs {x:V}{u:Value}(r:dR x u):Jc u=some x:=by
 cases x with
 |non=>cases r;rfl
 |bl _=>cases r;rfl
 |int _=>obtain⟨t,rfl⟩:=r;rfl
 |str _=>obtain⟨t,rfl⟩:=r;rfl
 |byt _=>obtain⟨t,rfl⟩:=r;rfl
 |flt _=>obtain⟨t,rfl⟩:=r;rfl
 |ref _=>cases r;rfl
 |ty _=>cases r;rfl
theorem dR.inj {x y:V}{u:Value}(r:dR x u)(q:dR y u):x=y:=Option.some.inj (r.abs.symm.trans q.abs)
theorem cT.inj:∀{xs ys:List V}{us:List Value},cT xs us->cT ys us->xs=ys:=by
 intro xs ys us h;induction h generalizing ys with
 |nil=>intro q; cases q; rfl
 |cons r t ih=>
  intro q;cases q with
  |cons r2 t2=>rw [r.inj r2,ih t2]
section
variable {X:Cx}{pins:List (Addr×Obj)}{σ:St}{H:Hp}{s:Shared}{a:Addr}{xs ys:List V}
theorem cQ.list (I:cQ X pins σ H s)(h:jR X.K H a xs):∃its:List Value,cT xs its/\PlainL s.heap a its.toArray/\xs.length<=sizeLine:=by
 rcases h with h|⟨o,its,n,hk,hc,hd,hs,hz,r⟩
 ·obtain⟨z,its,n,r,e⟩:=h.ok I.hok;exact⟨its,r,⟨_,n,e,rfl,rfl,rfl⟩,z⟩
 ·refine⟨its.toList,r,⟨o,n,I.kIn a o hk,hc,hd,by simpa using hs⟩,?_⟩;have e:=r.length;simp only[bY] at e;omega
theorem cQ.tuple (I:cQ X pins σ H s)(h:jj X.K H a xs):∃its:List Value,cT xs its/\IsTup s.heap a its.toArray/\xs.length<=sizeLine:=by
 rcases h with h|⟨o,its,n,hk,hc,hs,hz,r⟩
 ·obtain⟨z,its,r,p⟩:=h.ok I.hok;exact⟨its,r,p,z⟩
 ·refine⟨its.toList,r,⟨o,I.kIn a o hk,hc,n,by simpa using hs⟩,?_⟩;have e:=r.length;simp only[bY] at e;omega
theorem cQ.list_inj (I:cQ X pins σ H s)(h:jR X.K H a xs)(h':jR X.K H a ys):xs=ys:=by
 obtain⟨its,r,⟨o,n,e,_,_,d⟩,_⟩:=I.list h;obtain⟨its',r',⟨o',n',e',_,_,d'⟩,_⟩:=I.list h';rw[e] at e';cases e';rw[d] at d';injection d' with d1 _
 have:its=its':=by simpa using congrArg Array.toList d1
 subst this;exact r.inj r'
theorem cQ.tuple_inj (I:cQ X pins σ H s)(h:jj X.K H a xs)(h':jj X.K H a ys):xs=ys:=by
 obtain⟨its,r,⟨o,e,_,n,d⟩,_⟩:=I.tuple h;obtain⟨its',r',⟨o',e',_,n',d'⟩,_⟩:=I.tuple h';rw[e] at e';cases e';rw[d] at d';injection d' with d1 _
 have:its=its':=by simpa using congrArg Array.toList d1
 subst this;exact r.inj r'
end
noncomputable abbrev Cx.wish (X:Cx)(E:Value->Shared->Prop):Cx:={ X with xe:=E }
noncomputable abbrev Cx.nox (X:Cx):Cx:=X.wish fun _ _=>False
theorem Cx.Ok.wish {X:Cx}(ok:X.Ok)(E:Value->Shared->Prop):(X.wish E).Ok :=
 ⟨ok.mod,ok.kind,ok.glob,ok.blt,ok.above,ok.inj,ok.has,ok.cab,ok.hd,ok.frames,ok.stk,ok.exf,ok.bs,ok.bsz,ok.noex,ok.exfs,ok.funs,ok.frf⟩
theorem Cx.Ok.unwish {X:Cx}{E:Value->Shared->Prop}(ok:(X.wish E).Ok):X.Ok :=
 ⟨ok.mod,ok.kind,ok.glob,ok.blt,ok.above,ok.inj,ok.has,ok.cab,ok.hd,ok.frames,ok.stk,ok.exf,ok.bs,ok.bsz,ok.noex,ok.exfs,ok.funs,ok.frf⟩
section
variable {X:Cx}{pins:List (Addr×Obj)}{σ:St}{H:Hp}{s:Shared}{E:Value->Shared->Prop}
theorem cQ.wish (I:cQ X pins σ H s)(E:Value->Shared->Prop):cQ (X.wish E) pins σ H s:=⟨I.ok.wish E,I.os,I.bare,I.base,I.loc,I.cell,I.free,I.freeC,I.pin,I.hok,I.len⟩
theorem cQ.unwish (I:cQ (X.wish E) pins σ H s):cQ X pins σ H s:=⟨I.ok.unwish,I.os,I.bare,I.base,I.loc,I.cell,I.free,I.freeC,I.pin,I.hok,I.len⟩
theorem SP.unwish {D:jQ}{f:Flow}{s':Shared}(h:SP (X.wish E) pins D f s'):SP X pins D f s':=by
 cases f with
 |next=>obtain⟨σ',H',I,q⟩:=h;exact⟨σ',H',I.unwish,q⟩
 |brk=>obtain⟨σ',H',I,q⟩:=h;exact⟨σ',H',I.unwish,q⟩
 |cont=>obtain⟨σ',H',I,q⟩:=h;exact⟨σ',H',I.unwish,q⟩
 |ret u=>obtain⟨v,σ',H',I,r,q⟩:=h;exact⟨v,σ',H',I.unwish,r,q⟩
theorem PE.nox {e:Expr}{t:TE}(h:PE X.nox e t):PE X e t:=fun pins s σ H Q I hw =>
 wpAny_mono (h pins s σ H Q (I.wish _) hw) (fun _ _ ⟨v,H',I',r,q⟩=>⟨v,H',I'.unwish,r,q⟩) fun _ _ z=>False.elim z
theorem PT.nox {e:Expr}{t:TT}(h:PT X.nox e t):PT X e t:=fun pins s σ H Q I hw =>
 wpAny_mono (h pins s σ H Q (I.wish _) hw) (fun _ _ ⟨H',I',q⟩=>⟨H',I'.unwish,q⟩) fun _ _ z=>False.elim z
theorem PSs.nox {st:List Stmt}{t:TS}(h:PSs X.nox st t):PSs X st t:=fun pins s σ H D I hw =>
 wpAny_mono (h pins s σ H D (I.wish _) hw) (fun _ _ q=>q.unwish) fun _ _ z=>False.elim z
end
section
variable {X:Cx}{st:Stmt}{fN:List Stmt}{t u:TS}{e:Expr}{te:TE}{pos:Pos}
noncomputable def Ho:TS:=fun D σ H=>D.nx σ H
noncomputable def IG (t u:TS):TS:=fun D σ H=>t { D with nx:=u D } σ H
theorem pss_nil:PSs X [] Ho:=fun _ _ σ H _ I h=>wpAny_execs_nil ⟨σ,H,I,h⟩
theorem pss_cons (h1:PS X st t)(h2:PSs X fN u):PSs X (st::fN) (IG t u):=by
 intro pins s σ H D I h;refine wpAny_execs_cons (thn (h1 pins s σ H { D with nx:=u D } I h) fun f s1 q=>?_);cases f with
 |next =>
  obtain⟨σ',H',I',q⟩:=q;exact h2 pins s1 σ' H' D I' q
 |ret v=>exact q
 |brk=>exact q
 |cont=>exact q
theorem pss_one (h1:PS X st t):PSs X [st] t:=by
 intro pins s σ H D I h;refine wpAny_execs_cons (thn (h1 pins s σ H D I h) fun f s1 q=>?_);cases f with
 |next=>exact wpAny_execs_nil q
 |ret v=>exact q
 |brk=>exact q
 |cont=>exact q
theorem cQ.quiet {pins:List (Addr×Obj)}{σ:St}{H:Hp}{s:Shared}(I:cQ X pins σ H s):interactive X.env=false:=by simp[interactive,I.ok.kind]
noncomputable def Hq (te:TE):TS:=fun D σ H=>te σ H fun _ H1=>D.nx σ H1
theorem ps_expr (he:PE X e te)(hs:swapsWith e none pos.line X.env=pure false:=by rfl):PS X (.Expr e pos) (Hq te):=by
 intro pins s σ H D I h;exact wpAny_Expr_any (thn (he pins s σ H _ I h) fun v s1 ⟨x,H1,I1,r1,q1⟩=>⟨σ,H1,I1,q1⟩) I.quiet hs
noncomputable def IH (te:TE):TS:=fun D σ H=>te σ H D.rt
theorem ps_ret (he:PE X e te):PS X (.Return (some e) pos) (IH te):=by
 intro pins s σ H D I h;exact wpAny_Return_some (thn (he pins s σ H _ I h) fun v s1 ⟨x,H1,I1,r1,q1⟩=>⟨x,σ,H1,I1,r1,q1⟩)
noncomputable def IK (c:TT)(t u:TS):TS:=fun D σ H=>c σ H fun b H1=>if b=true then t D σ H1 else u D σ H1
theorem ps_if {c:Expr}{a b:List Stmt}{tc:TT}(hc:PT X c tc)(ha:PSs X a t)(hb:PSs X b u):PS X (.If c a b pos) (IK tc t u):=by
 intro pins s σ H D I h;refine wpAny_If (thn (hc pins s σ H _ I h) fun d s1 zz=>?_);obtain ⟨H1,I1,q1⟩:=zz;cases d with
 |true=>exact ha pins s1 σ H1 D I1 q1
 |false=>exact hb pins s1 σ H1 D I1 q1
end
noncomputable abbrev TG:=V->St->Hp->(St->Hp->Prop)->Prop
noncomputable abbrev TGs:=List V->St->Hp->(St->Hp->Prop)->Prop
noncomputable def PG (X:Cx)(target:Expr)(t:TG):Prop :=
 ∀(pins:List (Addr×Obj)) (s:Shared) (σ:St) (H:Hp) (v:V) (u:Value) (Q:St->Hp->Prop),cQ X pins σ H s->dR v u->t v σ H Q →
  wpAny (model X.prog X.w) X.A (assign target X.env u) (fun _ s'=>∃σ' H',cQ X pins σ' H' s'/\Q σ' H') X.xe s
noncomputable def PGs (X:Cx)(ts:List Expr)(t:TGs):Prop :=
 ∀(pins:List (Addr×Obj)) (s:Shared) (σ:St) (H:Hp) (vs:List V) (us:List Value) (Q:St->Hp->Prop),cQ X pins σ H s->cT vs us->t vs σ H Q →
  wpAny (model X.prog X.w) X.A (assignInOrder ((assignEach ts X.env).map (·.2)) us) (fun _ s'=>∃σ' H',cQ X pins σ' H' s'/\Q σ' H') X.xe s
noncomputable abbrev TSet:=V->V->V->Hp->(Hp->Prop)->Prop
noncomputable def PSet (X:Cx)(t:TSet):Prop :=
 ∀(pins:List (Addr×Obj)) (s:Shared) (σ:St) (H:Hp) (o i v:V) (ov iv u:Value) (Q:Hp->Prop),cQ X pins σ H s->dR o ov->dR i iv->dR v u->t o i v H Q →
  wpAny (model X.prog X.w) X.A (setItem ov iv u) (fun _ s'=>∃H',cQ X pins σ H' s'/\Q H') X.xe s
section
variable {X:Cx}{pos:Pos}
noncomputable def gName (i:Nat):TG:=fun v σ H Q=>Q (σ.set i (some v)) H
theorem pg_name {i:Nat}{x:Str}(hN:X.N.Nodup)(hi:X.N[i]?=some x)(hx:Loc X.env.scope x)(hf:X.fn x=true\/X.env.scope.names.lookup x=some .local:=by first|exact .inl rfl|exact .inr rfl|assumption):PG X (.Name x pos) (gName i):=by
 intro pins s σ H v u Q I r h;exact wpAny_assign_Name (vO I hN hi hx r (fun s' I'=>⟨_,H,I',h⟩) hf)
noncomputable def Ja:TGs:=fun vs σ H Q=>vs=[]/\Q σ H
noncomputable def HW (t:TG)(u:TGs):TGs:=fun vs σ H Q=>∃v r,vs=v::r/\t v σ H fun σ' H'=>u r σ' H' Q
theorem pgs_nil:PGs X [] Ja:=by
 intro pins s σ H vs us Q I r h;obtain⟨e,h⟩:=h;subst e;cases r;exact assignInOrder_nil ⟨σ,H,I,h⟩
theorem pgs_cons {e:Expr}{es:List Expr}{t:TG}{u:TGs}(h1:PG X e t)(h2:PGs X es u)
  (hs:(assignEach (e::es) X.env).map (·.2)=assign e X.env::(assignEach es X.env).map (·.2):=by rfl):PGs X (e::es) (HW t u):=by
 intro pins s σ H vs us Q I r h;obtain⟨v,vr,e1,h⟩:=h;subst e1;cases r with
 |cons r rr =>
  rw[hs];refine assignInOrder_cons (thn (h1 pins s σ H _ _ _ I r h) fun _ s1 zz=>?_);obtain ⟨σ1,H1,I1,q1⟩:=zz;exact h2 pins s1 σ1 H1 _ _ Q I1 rr q1
noncomputable def IZ (K:PySem.W.Frag)(n:Nat)(t:TGs):TG:=fun v σ H Q=>∃a xs,v=.ref a/\jj K H a xs/\xs.length=n/\t xs σ H Q
theorem pg_tup {es:List Expr}{k:Nat}{t:TGs}{n:Nat}(hc:X.calm=true)(h:PGs X es t)
  (hn:(assignEach es X.env).length=n:=by rfl) (hst:(assignEach es X.env).findIdx? (·.1)=none:=by rfl):PG X (.Tuple es k pos) (IZ X.K n t):=by
 intro pins s σ H v u Q I r hw;obtain⟨a,xs,e1,hq,hl,hw⟩:=hw;subst e1;cases r;obtain⟨its,rv,ht,hz⟩:=I.tuple hq;refine assign_Tuple_tuple (I.ok.hd hc) ht (by simp[hn,<-hl,rv.length]) hst fun h' hx=>?_;have I1:cQ X pins σ H { s with heap:=h' }:=I.kept (t':=s.toks) fun b o e=>hx b o (aR (aC e)) e;exact h pins _ σ H xs _ Q I1 (by simpa using rv) hw
noncomputable def I0 (to ti:TE)(t:TSet):TG:=fun v σ H Q=>to σ H fun o H1=>ti σ H1 fun i H2=>t o i v H2 fun H3=>Q σ H3
theorem pg_sub {o i:Expr}{to ti:TE}{t:TSet}(ho:PE X o to)(hi:PE X i ti)(hs:PSet X t)
  (ha:∀v,assign (.Subscript o i pos) X.env v=(do
   let ov <-holding [v] (eval o X.env)
   let iv <-holding [v,ov] (eval i X.env)
   standAt pos
   holding [v,ov,iv] (setItem ov iv v)
   release [v,ov,iv] []):=by intro _;rfl):PG X (.Subscript o i pos) (I0 to ti t):=by
 intro pins s σ H v u Q I r h;rw[ha];refine ab (bK (thn (ho pins s σ H _ I h) fun ov s1 zz=>?_));obtain ⟨x,H1,I1,r1,q1⟩:=zz;refine ab (bK (thn (hi pins s1 σ H1 _ I1 q1) fun iv s2 zz=>?_));obtain ⟨y,H2,I2,r2,q2⟩:=zz;refine ab (wpAny_standAt (ab (bK (thn (hs pins s2 σ H2 x y v ov iv u _ I2 r1 r2 r q2) fun _ s3 zz=>?_))));obtain ⟨H3,I3,q3⟩:=zz;exact wpAny_release ⟨σ,H3,I3,q3⟩
noncomputable def tAsg (te:TE)(g:TG):TS:=fun D σ H=>te σ H fun x H1=>g x σ H1 D.nx
theorem ps_asg {tg e:Expr}{te:TE}{g:TG}(he:PE X e te)(hg:PG X tg g)(hs:swapsWithSole [tg] e pos.line X.env=pure false:=by rfl)(hw:swappedStores [tg] e X.env=pure none:=by rfl)
  (h1:(assignEach [tg] X.env).map (·.2)=[assign tg X.env]:=by rfl):PS X (.Assign [tg] e pos) (tAsg te g):=by
 intro pins s σ H D I h;refine wpAny_Assign_stores (thn (he pins s σ H _ I h) fun v s1 ⟨x,H1,I1,r1,q1⟩=>?_) hs hw;rw[h1];exact thn (hg pins s1 σ H1 x v _ I1 r1 q1) fun _ s2 q=>q
theorem ps_set {i:Nat}{x:Str}{e:Expr}{te:TE}{pos':Pos}(hN:X.N.Nodup)(hi:X.N[i]?=some x)(hx:Loc X.env.scope x)(he:PE X e te)(hs:swapsWith e (some (.Name x pos')) pos.line X.env=pure false:=by rfl)(hf:X.fn x=true\/X.env.scope.names.lookup x=some .local:=by first|exact .inl rfl|exact .inr rfl|assumption) :
  PS X (.Assign [.Name x pos'] e pos) (tAsg te (gName i)):=by
 intro pins s σ H D I h;refine wpAny_Assign_Name (thn (he pins s σ H _ I h) fun v s1 ⟨y,H1,I1,r1,q1⟩=>?_) hs;exact vO I1 hN hi hx r1 (fun s2 I2=>⟨_,H1,I2,q1⟩) hf
end
section
variable {X:Cx}{pos:Pos}
noncomputable def FJ (c:TT)(tb:TS):TS:=fun D σ H=>∃W:Nat->St->Hp->Prop,(∃m,W m σ H)/\∀m σ H,W m σ H →
 c σ H fun b H1=>if b=true then ∃N:St->Hp->Prop,(∀σ' H',N σ' H'->∃m',m'<m/\W m' σ' H')/\tb { D with nx:=N,ct:=N,bk:=D.nx } σ H1 else D.nx σ H1
theorem ps_while {c:Expr}{body:List Stmt}{tc:TT}{tb:TS}(hp:PassesOwn (model X.prog X.w) X.A X.env X.xe)(hc:PT X c tc)(hb:PSs X body tb):PS X (.While c body [] pos) (FJ tc tb):=by
 intro pins s σ H D I h;obtain⟨W,⟨m0,w0⟩,turn⟩:=h;refine wpAny_While (codeAny_whileLoop (fun n s'=>∃σ' H',cQ X pins σ' H' s'/\W n σ' H') ?_ m0 ⟨σ,H,I,w0⟩);rintro n s1 ⟨σ1,H1,I1,w1⟩;refine wpAny_passesOwn hp (thn (hc pins s1 σ1 H1 _ I1 (turn n σ1 H1 w1)) fun b s2 zz=>?_);obtain ⟨H2,I2,q2⟩:=zz;cases b with
 |true =>
  obtain⟨N,hN,q2⟩:=q2;rw[if_pos rfl];refine wpAny_passesOwn hp (thn (hb pins s2 σ1 H2 _ I2 q2) fun f s3 q3=>?_);cases f with
  |next =>
   obtain⟨σ3,H3,I3,n3⟩:=q3;obtain⟨m',hm,w3⟩:=hN σ3 H3 n3;exact⟨m',hm,σ3,H3,I3,w3⟩
  |cont =>
   obtain⟨σ3,H3,I3,n3⟩:=q3;obtain⟨m',hm,w3⟩:=hN σ3 H3 n3;exact⟨m',hm,σ3,H3,I3,w3⟩
  |brk=>exact q3
  |ret v=>exact q3
 |false =>
  rw[if_neg Bool.false_ne_true];exact wpAny_execs_nil ⟨σ1,H2,I2,q2⟩
end
structure It where
 go:Nat->Hp->Prop
 yld:Nat->Hp->V->Hp->Prop
 stop:Nat->Hp->Prop
noncomputable def sd (X:Cx)(pins:List (Addr×Obj))(H:Hp)(b:Addr):Prop :=
 H b=none/\b≠X.env.locals/\b∉X.fs/\(b∈X.ex\/X.s₀.heap.objs.size<=b)/\(∀x c,X.env.cells.lookup x=some c->c≠b)/\∀p∈X.pn++pins,p.1≠b
theorem cQ.fpOk {X:Cx}{pins:List (Addr×Obj)}{σ:St}{H H':Hp}{s:Shared}{b:Addr}(I:cQ X pins σ H s)(hb:s.heap.objs.size<=b)(hn:H' b=none):sd X pins H' b:=by
 refine⟨hn,bq (aF I.lt hb),I.nofs hb,.inr (aS I.sz hb),fun x c e z=>?_,fun p hp z=>?_⟩
 ·obtain⟨v,q⟩:=I.cell x c e;exact absurd (aF q.lt (by rw[z];exact hb)) (bu _)
 ·exact absurd (aF (aC (I.pin p hp).1) (by rw[z];exact hb)) (bu _)
structure Turn (P:Program)(w:World)(K:PySem.W.Frag)(tg:Expr)(J:It)(fp:List Addr)(it:Addr)(tn:Nat->Heap->Prop):Prop where
 mem:it∈fp
 obj:∀i h,tn i h->∀b∈fp,∃o,h.get? b=some o/\∀v,o.data≠.cell v
 keep:∀i h h',tn i h->(∀b∈fp,∀o,h.get? b=some o->h'.get? b=some o)->tn i h'
 item:∀(X:Cx),X.prog=P->X.w=w->X.K=K->X.calm=true->∀(i:Nat) (pins:List (Addr×Obj)) (s:Shared) (σ:St) (H:Hp) (E:Value->Shared->Prop),cQ X pins σ H s->(∀b∈fp,sd X pins H b)->tn i s.heap->J.go i H →
  wpAny (model P w) X.A (pyNext (.ref it)) (fun r s1=>∃u,r=some u ∧
   wpAny (model P w) X.A (letOwnedTupleGo tg (.ref it) u) (fun _ s2=>∃x H',cQ X pins σ H' s2/\dR x u/\J.yld i H x H'/\tn (i+1) s2.heap/\∀b∈fp,H' b=none) E s1) E s
 done:∀(X:Cx),X.prog=P->X.w=w->X.K=K->X.calm=true->∀(i:Nat) (pins:List (Addr×Obj)) (s:Shared) (σ:St) (H:Hp) (E:Value->Shared->Prop),cQ X pins σ H s->(∀b∈fp,sd X pins H b)->tn i s.heap->J.stop i H →
  wpAny (model P w) X.A (pyNext (.ref it)) (fun r s1=>r=none/\cQ X pins σ H s1) E s
 self:∀(A:Around) (i:Nat) (s:Shared) (Q:Value->Shared->Prop) (E:Value->Shared->Prop),tn i s.heap->Q (.ref it) s->wpAny (model P w) A (pyIter (.ref it)) Q E s
noncomputable abbrev TI:=St->Hp->(It->Hp->Prop)->Prop
noncomputable def Jk (X:Cx)(pins:List (Addr×Obj))(σ:St)(tg:Expr)(R:It->Hp->Prop)(itv:Value)(s2:Shared):Prop :=
 ∃(it:Addr) (fp:List Addr) (tn:Nat->Heap->Prop) (J:It) (H':Hp),itv=.ref it/\cQ X pins σ H' s2/\Turn X.prog X.w X.K tg J fp it tn/\tn 0 s2.heap/\(∀b∈fp,sd X pins H' b)/\R J H'
noncomputable def PI (X:Cx)(tg iter:Expr)(wi:TI):Prop :=
 ∀(pins:List (Addr×Obj)) (s:Shared) (σ:St) (H:Hp) (R:It->Hp->Prop),cQ X pins σ H s->wi σ H R →
  wpAny (model X.prog X.w) X.A (eval iter X.env) (fun v s1=>wpAny (model X.prog X.w) X.A (pyIter v) (Jk X pins σ tg R) X.xe s1) X.xe s
theorem Cg {M:Model}{A:Around}{E:Value->Shared->Prop}{s:Shared}{tg:Expr}{it:Addr}{u:Value}{o:Obj}{n:String}{vs:Array Value}{Q:Unit->Shared->Prop}(ho:s.heap.get? it=some o)(hc:o.cls=.type n)(hd:o.data=.fields vs)
    (hn:["enumerate", "zip", "dict_itemiterator", "dict_reverseitemiterator", "odict_iterator", "itertools.zip_longest", "itertools.pairwise"].contains n=false) (hQ:Q () s):wpAny M A (letOwnedTupleGo tg (.ref it) u) Q E s:=by
  unfold letOwnedTupleGo;cases tg <;> first
    |exact aq hQ
    | (cases u <;> first
        |exact aq hQ
        | (refine ab (wpAny_load ho ?_)
           rw[hc,hd];show wpAny M A (if (["enumerate", "zip", "dict_itemiterator", "dict_reverseitemiterator", "odict_iterator", "itertools.zip_longest", "itertools.pairwise"].contains n&&vs[0]?==some (rawInt _))=true then _ else _) Q E s;rw[if_neg (by intro h;rw[hn,Bool.false_and] at h;cases h)];exact aq hQ))
noncomputable def Itl (K:PySem.W.Frag)(a:Addr):It :=
 ⟨fun i H=>∃xs x,jR K H a xs/\xs[i]?=some x,fun i H x H'=>H'=H/\∀xs,jR K H a xs->xs[i]?=some x,fun i H=>∃xs,jR K H a xs/\xs.length<=i⟩
noncomputable def Itt (K:PySem.W.Frag)(a:Addr):It :=
 ⟨fun i H=>∃xs x,jj K H a xs/\xs[i]?=some x,fun i H x H'=>H'=H/\∀xs,jj K H a xs->xs[i]?=some x,fun i H=>∃xs,jj K H a xs/\xs.length<=i⟩
noncomputable def Itr (lo:Int)(n:Nat):It:=⟨fun i _=>i<n,fun i H x H'=>H'=H/\x=.int (lo+i),fun i _=>n<=i⟩
theorem turn_list {P:Program}{w:World}{K:PySem.W.Frag}{tg:Expr}(a it:Addr):Turn P w K tg (Itl K a) [it] it (fun i h=>h.IsListIter it a i) where
 mem:=by simp
 obj:=fun i h st b hb=>by
  have e:b=it:=by simpa using hb
  subst e;obtain⟨o,e,c,d⟩:=st;exact⟨o,e,fun v z=>by rw[d] at z;cases z⟩
 keep:=fun i h h' st k=>st.at fun o e=>k it (by simp) o e
 item:=by
  intro X hP hw hK hc i pins s σ H E I hf st hg;subst hP hw hK;obtain⟨xs,x,hq,hx⟩:=hg;obtain⟨its,rv,p,hz⟩:=I.list hq;obtain⟨u,hu,ru⟩:=rv.get hx;obtain⟨f0,f1,f2,f3,f4,f5⟩:=hf it (by simp);refine wpAny_pyNext_list_item st p.isList (x:=u) (by simpa using hu) fun h' st' sb=>?_;have I1:cQ X pins σ H { s with heap:=h' }:=I.turned (t':=s.toks) (fun b o hb e=>(sb.2 b hb).trans e) f0 f1 f3 f4 f5;obtain⟨o,e,c,d⟩:=id st';exact⟨u,rfl,Cg (s:={ s with heap:=h' }) e c d (by decide) ⟨x,H,I1,ru,⟨rfl,fun ys hy=>by rw[I.list_inj hy hq];exact hx⟩,st',fun b hb=>(hf b hb).1⟩⟩
 done:=by
  intro X hP hw hK hc i pins s σ H E I hf st hg;subst hP hw hK;obtain⟨xs,hq,hx⟩:=hg;obtain⟨its,rv,p,hz⟩:=I.list hq;obtain⟨f0,f1,f2,f3,f4,f5⟩:=hf it (by simp);have hl:=rv.length;exact wpAny_pyNext_list_end (I.ok.hd hc) st p.isList (by simp;omega) fun h' eb=>⟨rfl,I.turned (t':=s.toks) (fun b o hb e=>eb b o hb e) f0 f1 f3 f4 f5⟩
 self:=fun _ _ _ _ _ st h=>wpAny_pyIter_listiter st h
theorem turn_tuple {P:Program}{w:World}{K:PySem.W.Frag}{tg:Expr}(a it:Addr):Turn P w K tg (Itt K a) [it] it (fun i h=>h.IsTupleIter it a i) where
 mem:=by simp
 obj:=fun i h st b hb=>by
  have e:b=it:=by simpa using hb
  subst e;obtain⟨o,e,c,d⟩:=st;exact⟨o,e,fun v z=>by rw[d] at z;cases z⟩
 keep:=fun i h h' st k=>st.at fun o e=>k it (by simp) o e
 item:=by
  intro X hP hw hK hc i pins s σ H E I hf st hg;subst hP hw hK;obtain⟨xs,x,hq,hx⟩:=hg;obtain⟨its,rv,p,hz⟩:=I.tuple hq;obtain⟨u,hu,ru⟩:=rv.get hx;obtain⟨f0,f1,f2,f3,f4,f5⟩:=hf it (by simp);refine wpAny_pyNext_tuple_item st (show s.heap.IsTuple a its.toArray from p) (x:=u) (by simpa using hu) fun h' st' sb=>?_;have I1:cQ X pins σ H { s with heap:=h' }:=I.turned (t':=s.toks) (fun b o hb e=>(sb.2 b hb).trans e) f0 f1 f3 f4 f5;obtain⟨o,e,c,d⟩:=id st';exact⟨u,rfl,Cg (s:={ s with heap:=h' }) e c d (by decide) ⟨x,H,I1,ru,⟨rfl,fun ys hy=>by rw[I.tuple_inj hy hq];exact hx⟩,st',fun b hb=>(hf b hb).1⟩⟩
 done:=by
  intro X hP hw hK hc i pins s σ H E I hf st hg;subst hP hw hK;obtain⟨xs,hq,hx⟩:=hg;obtain⟨its,rv,p,hz⟩:=I.tuple hq;obtain⟨f0,f1,f2,f3,f4,f5⟩:=hf it (by simp);have hl:=rv.length;exact wpAny_pyNext_tuple_end (I.ok.hd hc) st (show s.heap.IsTuple a its.toArray from p) (by simp;omega) fun h' eb=>⟨rfl,I.turned (t':=s.toks) (fun b o hb e=>eb b o hb e) f0 f1 f3 f4 f5⟩
 self:=fun _ _ _ _ _ st h=>wpAny_pyIter_tupleiter st h
theorem xF {P:Program}{w:World}{K:PySem.W.Frag}{tg:Expr}(it:Addr)(lo:Int)(n:Nat):Turn P w K tg (Itr lo n) [it] it (fun i h=>IsRangeIter h it (lo+(i:Nat)*1) ((n:Int)-(i:Nat)) 1) where
 mem:=by simp
 obj:=fun i h st b hb=>by
  have e:b=it:=by simpa using hb
  subst e;exact⟨_,st,fun v z=>by
   have z':Data.fields _=Data.cell v:=z;cases z'⟩
 keep:=fun i h h' st k=>k it (by simp) _ st
 item:=by
  intro X hP hw hK hc i pins s σ H E I hf st hg;subst hP hw hK;obtain⟨f0,f1,f2,f3,f4,f5⟩:=hf it (by simp);have W:=Walks.range (prog:=X.prog) (w:=X.w) (I.ok.hd hc) it lo 1 n;refine W.item i s _ _ hg st fun v h' tk hv st' kk=>?_;obtain⟨t,rfl⟩:=hv;have I1:cQ X pins σ H { s with heap:=h',toks:=tk }:=I.turned (fun b o hb e=>kk b o (by simpa using hb) e) f0 f1 f3 f4 f5;refine⟨_,rfl,Cg (s:={ s with heap:=h',toks:=tk }) (n := "range_iterator") st' rfl rfl (by decide) ⟨.int (lo+i),H,I1,⟨t,?_⟩,⟨rfl,rfl⟩,st',fun b hb=>(hf b hb).1⟩⟩;rw[Int.mul_one]
 done:=by
  intro X hP hw hK hc i pins s σ H E I hf st hg;subst hP hw hK;obtain⟨f0,f1,f2,f3,f4,f5⟩:=hf it (by simp);exact wpAny_pyNext_range_end (I.ok.hd hc) st (by have:n<=i:=hg;omega) fun h' eb=>⟨rfl,I.turned (t':=s.toks) (fun b o hb e=>eb b o hb e) f0 f1 f3 f4 f5⟩
 self:=fun _ _ _ _ _ st h=>wpAny_pyIter_rangeiter st h
section
variable {X:Cx}{tg:Expr}
theorem BB {pins:List (Addr×Obj)}{σ:St}{H:Hp}{s:Shared}{R:It->Hp->Prop}{E:Value->Shared->Prop}{lo hi:Int}{t u v:Tok}{tk:Nat}(I:cQ X pins σ H s)(h1:-(2 ^ 62)<=lo)(h2:lo<2 ^ 62)(h3:-(2 ^ 62)<=hi)(h4:hi<2 ^ 62)
  (q:R (Itr lo (hi-lo).toNat) H):wpAny (model X.prog X.w) X.A (pyIter (.ref s.heap.objs.size)) (Jk X pins σ tg R) E { s with heap:=s.heap.push { cls:=.type "range", data:=.fields #[.int lo t,.int hi u,.int 1 v] },toks:=tk }:=by
 refine wpAny_pyIter_range (IsRange.new ..) (small_one h1 h2 h3 h4) ?_;have I1:cQ X pins σ H { s with heap:=s.heap.push { cls:=.type "range", data:=.fields #[.int lo t,.int hi u,.int 1 v] },toks:=tk }:=I.kept fun b o e=>ae _ e;refine⟨(s.heap.push { cls:=.type "range", data:=.fields #[.int lo t,.int hi u,.int 1 v] }).objs.size,[(s.heap.push { cls:=.type "range", data:=.fields #[.int lo t,.int hi u,.int 1 v] }).objs.size],_,_,H,rfl,
  I1.kept (t':=tk) fun b o e=>ae _ e,xF _ lo (hi-lo).toNat,?_,fun b hb=>?_,q⟩
 ·have e1:lo+((0:Nat):Int)*1=lo:=by simp
  have e2:(((hi-lo).toNat:Nat):Int)-((0:Nat):Int)=Builtin.Range.rangeSize lo hi 1:=by rw[rangeSize_one];split <;> omega
  show IsRangeIter _ _ (lo+((0:Nat):Int)*1) ((((hi-lo).toNat:Nat):Int)-((0:Nat):Int)) 1;rw[e1,e2];exact aG _ rfl
 ·have e:b=(s.heap.push { cls:=.type "range", data:=.fields #[.int lo t,.int hi u,.int 1 v] }).objs.size:=by simpa using hb
  subst e;exact I1.fpOk (aB _) (I1.hok.fresh (aB _))
noncomputable def HS (ta:TA):TI:=fun σ H R=>ta σ H fun vs H1=>∃j:Int,vs=[.int j]/\-(2 ^ 62)<=j/\j<2 ^ 62/\R (Itr 0 j.toNat) H1
theorem pi_range1 {a:Expr}{ta:TA}{p pos:Pos}(hg:Gl X "range")(hm:X.mg "range" = none)(ha:PA X [a] ta)(hs:starEach [a] X.env=[(false,eval a X.env)]:=by rfl):PI X tg (.Call (.Name "range" p) [a] [] pos) (HS ta):=by
 intro pins s σ H R I h;refine Call_ (ld_blt I hg hm boot_range (PyProof.Rows.callWith_type1 (thn (ha pos pins s σ H _ I h) fun us s1 ⟨vs,H1,I1,r1,q1⟩=>?_) hs rfl));obtain⟨j,e,q1,q2,q⟩:=q1;subst e;cases r1 with
 |cons r rr =>
  cases rr;obtain⟨t,rfl⟩:=r;exact call_range_1 (BB I1 ⋯ ⋯ q1 q2 (by simpa using q))
noncomputable def IL (wi:TI)(g:TG)(tb:TS):TS:=fun D σ H=>wi σ H fun J H1=>∃W:Nat->Nat->St->Hp->Prop,(∃m,W 0 m σ H1)/\∀i m σ H,W i m σ H →
 (J.stop i H/\D.nx σ H)\/(J.go i H/\∃N:St->Hp->Prop,(∀σ' H',N σ' H'->∃m',m'<m/\W (i+1) m' σ' H')/\∀x H',J.yld i H x H'->g x σ H' fun σ2 H2=>tb { D with nx:=N,ct:=N,bk:=D.nx } σ2 H2)
noncomputable def qS (fp:List Addr)(h:Heap):List (Addr×Obj):=fp.filterMap fun b=>(h.get? b).map fun o=>(b,o)
theorem kQ {fp:List Addr}{h:Heap}{b:Addr}{o:Obj}(hb:b∈fp)(e:h.get? b=some o):(b,o)∈qS fp h:=List.mem_filterMap.mpr ⟨b,hb,by rw[e];rfl⟩
theorem Ay {fp:List Addr}{h:Heap}{p:Addr×Obj}(hp:p∈qS fp h):p.1∈fp/\h.get? p.1=some p.2:=by
 obtain⟨b,hb,e⟩:=List.mem_filterMap.mp hp;cases q:h.get? b with
 |none=>rw[q] at e;cases e
 |some o =>
  rw[q] at e;have e':(b,o)=p:=Option.some.inj e;subst e';exact⟨hb,q⟩
theorem cQ.pinned {pins:List (Addr×Obj)}{σ:St}{H:Hp}{s:Shared}{fp:List Addr}(I:cQ X pins σ H s)(hf:∀b∈fp,sd X pins H b)(ho:∀b∈fp,∃o,s.heap.get? b=some o/\∀v,o.data≠.cell v):cQ X (pins++qS fp s.heap) σ H s :=
 I.pins_of fun p hp=>(List.mem_append.mp hp).elim (fun z=>I.pin p (aM _ z)) fun z=>by
  obtain⟨hb,e⟩:=Ay z;obtain⟨f0,f1,f2,_⟩:=hf p.1 hb;obtain⟨o,e',d⟩:=ho p.1 hb;rw[e] at e';cases e';exact⟨e,f0,f1,f2,d⟩
theorem cQ.unpinned {pins pl:List (Addr×Obj)}{σ:St}{H:Hp}{s:Shared}(I:cQ X (pins++pl) σ H s):cQ X pins σ H s:=I.pins_of fun p hp=>I.pin p (aM _ (aU _ hp))
theorem ps_for {iter:Expr}{body:List Stmt}{wi:TI}{g:TG}{tb:TS}{pos:Pos}(hp:PassesOwn (model X.prog X.w) X.A X.env X.xe)(hc:X.calm=true)(hi:PI X tg iter wi)(hg:PG X tg g)(hb:PSs X body tb)
  (hs:∀x,foldedSetIterable iter X.env x=pure x:=by intro _;rfl):PS X (.For tg iter body [] pos) (IL wi g tb):=by
 intro pins s σ H D I h;refine wpAny_For (thn (hi pins s σ H _ I h) fun v s1 h1=>thn h1 fun itv s2 h2=>?_) hs;obtain⟨it,fp,tn,J,H2,e,I2,T,st2,f2,W,⟨m0,w0⟩,turn⟩:=h2;subst e;have stat:∀{H':Hp},(∀b∈fp,H' b=none)->∀b∈fp,sd X pins H' b:=fun hn b hb=>⟨hn b hb,(f2 b hb).2⟩;refine codeAny_forLoop_any (fun n s'=>∃i σ' H',cQ X pins σ' H' s'/\tn i s'.heap/\(∀b∈fp,H' b=none)/\W i n σ' H') ?_ m0 ⟨0,σ,H2,I2,st2,fun b hb=>(f2 b hb).1,w0⟩;rintro n s3 ⟨i,σ3,H3,I3,st3,fr3,w3⟩;rcases turn i n σ3 H3 w3 with ⟨stop,qn⟩|⟨go,N,hN,step⟩
 ·refine wpAny_passesOwn hp (thn (T.done X rfl rfl rfl hc i pins s3 σ3 H3 X.xe I3 (stat fr3) st3 stop) fun r s4 zz=>?_);obtain ⟨hr,I4⟩:=zz;subst hr;exact wpAny_execs_nil ⟨σ3,H3,I4,qn⟩
 ·refine wpAny_passesOwn hp (thn (T.item X rfl rfl rfl hc i pins s3 σ3 H3 X.xe I3 (stat fr3) st3 go) fun r s4 zz=>?_);obtain ⟨u,hr,h4⟩:=zz;subst hr;refine wpAny_passesOwn hp (thn h4 fun _ s5 zz=>?_);obtain ⟨x,H5,I5,r5,y5,st5,fr5⟩:=zz;have I5':=I5.pinned (stat fr5) (T.obj _ _ st5);refine wpAny_passesOwn hp (thn (hg _ s5 σ3 H5 x u _ I5' r5 (step x H5 y5)) fun _ s6 zz=>?_);obtain ⟨σ6,H6,I6,q6⟩:=zz;refine wpAny_passesOwn hp (thn (hb _ s6 σ6 H6 _ I6 q6) fun f s7 q7=>?_);have again:∀{σ7:St}{H7:Hp},cQ X (pins++qS fp s5.heap) σ7 H7 s7->N σ7 H7->∃m,m<n/\∃i σ' H',cQ X pins σ' H' s7/\tn i s7.heap/\(∀b∈fp,H' b=none)/\W i m σ' H':=fun {σ7 H7} I7 n7=>by
   obtain⟨m',hm,w7⟩:=hN σ7 H7 n7;refine⟨m',hm,i+1,σ7,H7,I7.unpinned,T.keep _ _ _ st5 fun b hb o e=>(I7.pin (b,o) (aM _ (aM _ (kQ hb e)))).1,fun b hb=>?_,w7⟩;obtain⟨o,e,d⟩:=T.obj _ _ st5 b hb;exact (I7.pin (b,o) (aM _ (aM _ (kQ hb e)))).2.1
  cases f with
  |next=>obtain⟨σ7,H7,I7,n7⟩:=q7;exact again I7 n7
  |cont=>obtain⟨σ7,H7,I7,n7⟩:=q7;exact again I7 n7
  |brk=>obtain⟨σ7,H7,I7,q7⟩:=q7;exact⟨σ7,H7,I7.unpinned,q7⟩
  |ret v=>obtain⟨x7,σ7,H7,I7,r7,q7⟩:=q7;exact⟨x7,σ7,H7,I7.unpinned,r7,q7⟩
end
noncomputable abbrev R2:=V->V->Hp->VK->Prop
noncomputable def OpR (X:Cx)(f:Value->Value->Sem Value)(r:R2):Prop :=
 ∀(pins:List (Addr×Obj)) (s:Shared) (σ:St) (H:Hp) (x y:V) (v u:Value) (Q:VK),cQ X pins σ H s->dR x v->dR y u->r x y H Q →
  wpAny (model X.prog X.w) X.A (f v u) (EP X pins σ Q) X.xe s
noncomputable def UnR (X:Cx)(f:Value->Sem Value)(r:V->Hp->VK->Prop):Prop :=
 ∀(pins:List (Addr×Obj)) (s:Shared) (σ:St) (H:Hp) (x:V) (v:Value) (Q:VK),cQ X pins σ H s->dR x v->r x H Q →
  wpAny (model X.prog X.w) X.A (f v) (EP X pins σ Q) X.xe s
noncomputable def CallR (X:Cx)(f:Value)(r:List V->Hp->VK->Prop):Prop :=
 ∀(pins:List (Addr×Obj)) (s:Shared) (σ:St) (H:Hp) (xs:List V) (us:List Value) (Q:VK),cQ X pins σ H s->cT xs us->r xs H Q →
  wpAny (model X.prog X.w) X.A (call f us) (EP X pins σ Q) X.xe s
noncomputable def tOp (r:R2)(ta tb:TE):TE:=fun σ H Q=>ta σ H fun x H1=>tb σ H1 fun y H2=>r x y H2 Q
noncomputable def tUn (r:V->Hp->VK->Prop)(ta:TE):TE:=fun σ H Q=>ta σ H fun x H1=>r x H1 Q
noncomputable def rI (C:Int->Int->Prop)(g:Int->Int->V):R2:=fun x y H Q=>∃i j,x=.int i/\y=.int j/\C i j/\Q (g i j) H
noncomputable def rI0 (g:Int->Int->V):R2:=fun x y H Q=>∃i j,x=.int i/\y=.int j/\Q (g i j) H
noncomputable def rU (g:Int->V):V->Hp->VK->Prop:=fun x H Q=>∃i,x=.int i/\Q (g i) H
section
variable {X:Cx}{a b c:Expr}{ta tb tc:TE}{pos:Pos}
theorem Il (ha:PE X a ta)(hb:PE X b tb){pins:List (Addr×Obj)}{s:Shared}{σ:St}{H:Hp}{R:V->V->Hp->Prop}(I:cQ X pins σ H s)
  (h:ta σ H fun x H1=>tb σ H1 fun y H2=>R x y H2) {Q:Value->Shared->Prop}{f:Value->Value->Sem Value}
  (hf:∀v u s2 x y H2,cQ X pins σ H2 s2->dR x v->dR y u->R x y H2->wpAny (model X.prog X.w) X.A (f v u) Q X.xe s2) :
  wpAny (model X.prog X.w) X.A (eval a X.env) (fun v s₁=>wpAny (model X.prog X.w) X.A (eval b X.env) (fun u s₂=>wpAny (model X.prog X.w) X.A (f v u) Q X.xe s₂) X.xe s₁) X.xe s:=by
 refine thn (ha pins s σ H _ I h) fun v s1 zz=>?_;obtain ⟨x,H1,I1,r1,q1⟩:=zz;refine thn (hb pins s1 σ H1 _ I1 q1) fun u s2 zz=>?_;obtain ⟨y,H2,I2,r2,q2⟩:=zz;exact hf v u s2 x y H2 I2 r1 r2 q2
theorem pe_op {op:Operator}{r:R2}(ho:OpR X (binaryOp op) r)(ha:PE X a ta)(hb:PE X b tb):PE X (.BinOp a op b pos) (tOp r ta tb):=by
 intro pins s σ H Q I h;exact wpAny_BinOp (Il ha hb I h fun v u s2 x y H2 I2 rx ry q=>ho pins s2 σ H2 x y v u Q I2 rx ry q)
theorem pe_un {op:UnaryOp}{r:V->Hp->VK->Prop}(ho:UnR X (unaryOp op) r)(ha:PE X a ta):PE X (.UnaryOp op a pos) (tUn r ta):=by
 intro pins s σ H Q I h;exact UnaryOp_ (thn (ha pins s σ H _ I h) fun v s1 ⟨x,H1,I1,r1,q1⟩=>ho pins s1 σ H1 x v Q I1 r1 q1)
theorem Iy {f:Value->Value->Sem Value}{C:Int->Int->Prop}{g:Int->Int->Int}
  (rule:∀(i j:Int) (t u:Tok) (s:Shared) (Q:Value->Shared->Prop) (E:Value->Shared->Prop),C i j->Q (.int (g i j) s.toks) { s with toks:=s.toks+1 }->wpAny (model X.prog X.w) X.A (f (.int i t) (.int j u)) Q E s) :
  OpR X f (rI C fun i j=>.int (g i j)):=by
 intro pins s σ H x y v u Q I rx ry h;obtain⟨i,j,rfl,rfl,hc,q⟩:=h;obtain⟨t,rfl⟩:=rx;obtain⟨t',rfl⟩:=ry;exact rule i j t t' s _ _ hc ⟨.int (g i j),H,I.tok _,⟨_,rfl⟩,q⟩
theorem HK {f:Value->Value->Sem Value}{g:Int->Int->Int}
  (rule:∀(i j:Int) (t u:Tok) (s:Shared) (Q:Value->Shared->Prop) (E:Value->Shared->Prop),Q (.int (g i j) s.toks) { s with toks:=s.toks+1 }->wpAny (model X.prog X.w) X.A (f (.int i t) (.int j u)) Q E s) :
  OpR X f (rI0 fun i j=>.int (g i j)):=by
 intro pins s σ H x y v u Q I rx ry h;obtain⟨i,j,rfl,rfl,q⟩:=h;obtain⟨t,rfl⟩:=rx;obtain⟨t',rfl⟩:=ry;exact rule i j t t' s _ _ ⟨.int (g i j),H,I.tok _,⟨_,rfl⟩,q⟩
theorem F2 {f:Value->Value->Sem Value}{g:Int->Int->Bool}
  (rule:∀(i j:Int) (t u:Tok) (s:Shared) (Q:Value->Shared->Prop) (E:Value->Shared->Prop),Q (.bool (g i j)) s->wpAny (model X.prog X.w) X.A (f (.int i t) (.int j u)) Q E s) :
  OpR X f (rI0 fun i j=>.bl (g i j)):=by
 intro pins s σ H x y v u Q I rx ry h;obtain⟨i,j,rfl,rfl,q⟩:=h;obtain⟨t,rfl⟩:=rx;obtain⟨t',rfl⟩:=ry;exact rule i j t t' s _ _ ⟨.bl (g i j),H,I,rfl,q⟩
def CDiv (i j:Int):Prop:=0<j/\j<1073741824
def CPow (i j:Int):Prop:=0<=j/\j<=1000000/\i.natAbs<2 ^ 64
def CMul (i j:Int):Prop:=(-(2 ^ 64)<i/\i<2 ^ 64)\/(-(2 ^ 64)<j/\j<2 ^ 64)
theorem CMul.ok {i j:Int}(h:CMul i j):IntMulOk i j:=by
 rcases h with ⟨h1,h2⟩|⟨h1,h2⟩
 ·exact .of_left (intBits_le_64 h1 h2)
 ·exact .of_right (intBits_le_64 h1 h2)
theorem F1:OpR X (binaryOp .Add) (rI0 fun i j=>.int (i+j)):=HK fun _ _ _ _ _ _ _ q=>add_int q
theorem op_sub:OpR X (binaryOp .Sub) (rI0 fun i j=>.int (i-j)):=HK fun _ _ _ _ _ _ _ q=>sub_int q
theorem op_mul:OpR X (binaryOp .Mult) (rI CMul fun i j=>.int (i*j)):=Iy fun _ _ _ _ _ _ _ hc q=>mul_int q hc.ok
theorem op_fdiv:OpR X (binaryOp .FloorDiv) (rI CDiv fun i j=>.int (i/j)):=Iy fun i j _ _ _ _ _ hc q=>by
 have h1:(0:Int)<j:=hc.1;have h2:j<1073741824:=hc.2;exact floordiv_int ⋯ (by rw[Int.fdiv_eq_ediv_of_nonneg i ⋯];exact q) (.inl (PyProof.noPylong_small ⋯))
theorem op_mod:OpR X (binaryOp .Mod) (rI (fun _ j=>0<j) fun i j=>.int (i%j)):=Iy fun i j _ _ _ _ _ hc q=>by
 have h1:(0:Int)<j:=hc;exact mod_int' ⋯ (by rw[Int.fmod_eq_emod_of_nonneg i ⋯];exact q)
theorem op_pow:OpR X (binaryOp .Pow) (rI CPow fun i j=>.int (i ^ j.toNat)):=Iy fun _ _ _ _ _ _ _ hc q=>pow_int_small hc.1 hc.2.1 hc.2.2 q
theorem Jp {f:Value->Sem Value}{g:Int->Int}
  (rule:∀(i:Int) (t:Tok) (s:Shared) (Q:Value->Shared->Prop) (E:Value->Shared->Prop),Q (.int (g i) s.toks) { s with toks:=s.toks+1 }->wpAny (model X.prog X.w) X.A (f (.int i t)) Q E s) :
  UnR X f (rU fun i=>.int (g i)):=by
 intro pins s σ H x v Q I rx h;obtain⟨i,rfl,q⟩:=h;obtain⟨t,rfl⟩:=rx;exact rule i t s _ _ ⟨.int (g i),H,I.tok _,⟨_,rfl⟩,q⟩
theorem un_neg:UnR X (unaryOp .USub) (rU fun i=>.int (-i)):=Jp fun _ _ _ _ _ q=>neg_int q
end
section
variable {X:Cx}{a b c:Expr}{ta tb tc:TE}{pos:Pos}
theorem op_lt:OpR X (compareOp .Lt) (rI0 fun i j=>.bl (decide (i<j))):=F2 fun _ _ _ _ _ _ _ q=>lt_int q
theorem op_le:OpR X (compareOp .LtE) (rI0 fun i j=>.bl (decide (i<=j))):=F2 fun _ _ _ _ _ _ _ q=>le_int q
theorem op_gt:OpR X (compareOp .Gt) (rI0 fun i j=>.bl (decide (j<i))):=F2 fun _ _ _ _ _ _ _ q=>gt_int q
theorem OpR.or {f:Value->Value->Sem Value}{r r':R2}(h:OpR X f r)(h':OpR X f r'):OpR X f (fun x y H Q=>r x y H Q\/r' x y H Q):=by
 intro pins s σ H x y v u Q I rx ry q;rcases q with q|q
 ·exact h pins s σ H x y v u Q I rx ry q
 ·exact h' pins s σ H x y v u Q I rx ry q
theorem nomark (b:Expr){op:CmpOp}(h:op≠.In:=by decide)(h2:op≠.NotIn:=by decide):behindInMarks op b=false:=by
 have e1:(op==CmpOp.In)=false:=by cases op <;> first|rfl|exact absurd rfl h
 have e2:(op==CmpOp.NotIn)=false:=by cases op <;> first|rfl|exact absurd rfl h2
 cases b <;> simp[behindInMarks,e1,e2]
noncomputable def EX (t:TE):TT:=fun σ H Q=>t σ H fun x H'=>∃k,x=.bl k/\Q k H'
theorem pt_cmpR {op:CmpOp}{r:R2}(ho:OpR X (compareOp op) r)(ha:PE X a ta)(hb:PE X b tb)(hm:behindInMarks op b=false):PT X (.Compare a [op] [b] pos) (EX (tOp r ta tb)):=by
 intro pins s σ H Q I h;refine wpAny_isTrue_Compare1 (thn (ha pins s σ H _ I h) fun v s1 ⟨x,H1,I1,r1,q1⟩=>thn (hb pins s1 σ H1 _ I1 q1) fun u s2 ⟨y,H2,I2,r2,q2⟩ =>
  thn (ho pins s2 σ H2 x y v u _ I2 r1 r2 q2) fun c s3 ⟨z,H3,I3,r3,k,e,q3⟩=>?_) hm
 subst e;cases r3;exact wpAny_truthy_bool ⟨H3,I3,q3⟩
noncomputable def tChain (r r':R2)(ta tb tc:TE):TE:=fun σ H Q=>ta σ H fun x H1=>tb σ H1 fun y H2=>r x y H2 fun z H3=>∃k,z=.bl k ∧
 (if k=true then tc σ H3 fun w' H4=>r' y w' H4 Q else Q (.bl false) H3)
theorem pt_chain {op op':CmpOp}{r r':R2}(ho:OpR X (compareOp op) r)(ho':OpR X (compareOp op') r')(ha:PE X a ta)(hb:PE X b tb)(hc:PE X c tc)
  (hm:lastMarks [op,op'] [b,c]=false:=by with_unfolding_all rfl):PT X (.Compare a [op,op'] [b,c] pos) (EX (tChain r r' ta tb tc)):=by
 intro pins s σ H Q I h;refine isTrue_chain (thn (ha pins s σ H _ I h) fun v s1 ⟨x,H1,I1,r1,q1⟩=>test_link (thn (hb pins s1 σ H1 _ I1 q1) fun u s2 ⟨y,H2,I2,r2,q2⟩ =>
  thn (ho pins s2 σ H2 x y v u _ I2 r1 r2 q2) fun d s3 ⟨z,H3,I3,r3,k,e,q3⟩=>?_)) hm
 subst e;cases r3;refine wpAny_truthy_bool ?_;cases k with
 |false =>
  obtain⟨k',e',q'⟩:=q3;cases e';exact ite_ff ⟨H3,I3,q'⟩
 |true =>
  refine ite_tt (test_last (thn (hc pins s3 σ H3 _ I3 q3) fun w' s4 ⟨z',H4,I4,r4,q4⟩=>thn (ho' pins s4 σ H4 y z' u w' _ I4 r2 r4 q4) fun d' s5 zz=>?_));obtain ⟨z2,H5,I5,r5,k2,e2,q5⟩:=zz;subst e2;cases r5;exact wpAny_truthy_bool ⟨H5,I5,q5⟩
theorem rA:(sizeLine:Nat)<2 ^ 63:=by rw[sizeLine_eq];decide
theorem xX:OpR X (binaryOp .Add) (fun x y H Q=>∃i j,x=.str i/\y=.str j/\i.length+j.length<=sizeLine/\Q (.str (i++j)) H):=by
 intro pins s σ H x y v u Q I rx ry h;obtain⟨i,j,rfl,rfl,hz,q⟩:=h;obtain⟨t,rfl⟩:=rx;obtain⟨t',rfl⟩:=ry;exact add_str (fun t' tk=>⟨.str (i++j),H,I.tok _,⟨_,rfl⟩,q⟩) hz
theorem EV {x:V}{us:List Value}(r:cT [x] us):∃u,us=[u]/\dR x u:=by
 cases r with
 |cons r1 r2=>cases r2;exact⟨_,rfl,r1⟩
theorem EU {x y:V}{us:List Value}(r:cT [x,y] us):∃u w',us=[u,w']/\dR x u/\dR y w':=by
 cases r with
 |cons r1 r2 =>
  cases r2 with
  |cons r3 r4=>cases r4;exact⟨_,_,rfl,r1,r3⟩
theorem call_max2 (hc:X.calm=true):CallR X (.builtin "max") (fun xs H Q=>∃i j,xs=[.int i,.int j]/\Q (.int (if j>i then j else i)) H):=by
 intro pins s σ H xs us Q I r h;obtain⟨i,j,rfl,q⟩:=h;obtain⟨u,w',rfl,⟨t,rfl⟩,⟨t',rfl⟩⟩:=EU r;refine max_two_ints (I.ok.hd hc) fun h' tk k=>⟨_,H,I.kept k,?_,q⟩;by_cases hj:j>i
 ·rw[if_pos hj,if_pos hj];exact⟨_,rfl⟩
 ·rw[if_neg hj,if_neg hj];exact⟨_,rfl⟩
theorem call_min2 (hc:X.calm=true):CallR X (.builtin "min") (fun xs H Q=>∃i j,xs=[.int i,.int j]/\Q (.int (if j<i then j else i)) H):=by
 intro pins s σ H xs us Q I r h;obtain⟨i,j,rfl,q⟩:=h;obtain⟨u,w',rfl,⟨t,rfl⟩,⟨t',rfl⟩⟩:=EU r;refine min_two_ints (I.ok.hd hc) fun h' tk k=>⟨_,H,I.kept k,?_,q⟩;by_cases hj:j<i
 ·rw[if_pos hj,if_pos hj];exact⟨_,rfl⟩
 ·rw[if_neg hj,if_neg hj];exact⟨_,rfl⟩
end
section
variable {prog:Program}{w:World}{A:Around}{E:Value->Shared->Prop}{s:Shared}{K:PySem.W.Frag}{x dx C f:Addr}{mA:Str->Option Value}{name:Str}{v:Value}
end
section
variable {P:Program}{w:World}{H H':Hp}{h h':Heap}{a C dx:Addr}{fs fs':List (Str×V)}
end
section
variable {X:Cx}{pins:List (Addr×Obj)}{σ:St}{H:Hp}{s:Shared}{a C dx:Addr}{fs:List (Str×V)}{f:Str}{v:V}{A:Around}{E:Value->Shared->Prop}
end
section
variable {X:Cx}{o e value:Expr}{f:Str}{pos pos' tpos:Pos}{ta tv:TE}
end
section
variable {X:Cx}{pins:List (Addr×Obj)}{σ:St}{H:Hp}{s:Shared}{A:Around}{E:Value->Shared->Prop}{Q:Value->Shared->Prop}{c:Value}{b:Bool}
end
structure Room (k:Nat)(A:Around):Prop where
 hd:A.handled=none
 dp:A.depth+3*k+5<recursionLimit
 un:A.units+16*k+200<cLine
theorem Room.mono {j k:Nat}{A:Around}(r:Room k A)(h:j<=k):Room j A:=⟨r.hd,by have:=r.dp;omega,by have:=r.un;omega⟩
theorem Room.deeper {k:Nat}{A:Around}(r:Room (k+1) A)(env:Env):Room k (A.deeper env) :=
 ⟨r.hd,by have:=r.dp;show A.depth+1+3*k+5<_;omega,by have:=r.un;show A.units+3+16*k+200<_;omega⟩
theorem Room.depth {k:Nat}{A:Around}(r:Room k A):A.depth<recursionLimit:=by have:=r.dp;omega
theorem Room.units {k:Nat}{A:Around}(r:Room k A):A.units+64<cLine:=by have:=r.un;omega
noncomputable def tNil:TA:=fun _ H Q=>Q [] H
noncomputable def tCons (ta:TE)(tr:TA):TA:=fun σ H Q=>ta σ H fun x H1=>tr σ H1 fun xs H2=>Q (x::xs) H2
section
variable {X:Cx}{e:Expr}{es:List Expr}{te:TE}{t:TA}{pos:Pos}
theorem pa_nil:PA X [] tNil:=fun _ _ _ _ H Q I h=>Calls.spliced_nil ⟨[],H,I,.nil,h⟩
theorem pa_cons (ha:PE X e te)(hr:PA X es t)(hs:starEach (e::es) X.env=(false,eval e X.env)::starEach es X.env:=by rfl):PA X (e::es) (tCons te t):=by
 intro pos pins s σ H Q I h;rw[hs];show wpAny _ _ (spliced ((false,eval e X.env)::backTo pos (starEach es X.env))) _ _ s;refine Calls.spliced_cons (thn (ha pins s σ H _ I h) fun u s1 zz=>?_);obtain ⟨x,H1,I1,r1,q1⟩:=zz;exact thn (hr pos pins s1 σ H1 _ I1 q1) fun us s2 ⟨xs,H2,I2,r2,q2⟩=>⟨x::xs,H2,I2,.cons r1 r2,q2⟩
noncomputable def IF (t:TA):TE:=fun σ H Q=>t σ H fun xs H1=>xs.length<=sizeLine/\∀p,H1 p=none->Q (.ref p) (dY H1 p (.tup xs))
noncomputable def II (t:TA):TE:=fun σ H Q=>t σ H fun xs H1=>xs.length<=sizeLine/\∀p,H1 p=none->Q (.ref p) (dY H1 p (.lst xs))
theorem pe_tup {x1}(h:PA X es t):PE X (.Tuple es x1 pos) (IF t):=by
 intro pins s σ H Q I hq;refine wpAny_Tuple_spliced (thn (h pos pins s σ H _ I hq) fun us s1 ⟨xs,H1,I1,r,z,q⟩=>⟨by rw[<-r.length];exact z,?_⟩);have hf:H1 s1.heap.objs.size=none:=I1.hok.fresh (aB _);refine⟨.ref s1.heap.objs.size,dY H1 s1.heap.objs.size (.tup xs),I1.laid (t':=s1.toks) (fun b u e=>ae _ e) (aB _) ?_,rfl,q _ hf⟩;exact⟨z,us,r,⟨_,aG _ rfl,rfl,_,rfl⟩⟩
theorem pe_lst (h:PA X es t):PE X (.List es pos) (II t):=by
 intro pins s σ H Q I hq;refine wpAny_List_spliced (thn (h pos pins s σ H _ I hq) fun us s1 ⟨xs,H1,I1,r,z,q⟩=>⟨by rw[<-r.length];exact z,?_⟩);have hf:H1 s1.heap.objs.size=none:=I1.hok.fresh (aB _);refine⟨.ref s1.heap.objs.size,dY H1 s1.heap.objs.size (.lst xs),I1.laid (t':=s1.toks) (fun b u e=>ae _ e) (aB _) ?_,rfl,q _ hf⟩;exact⟨z,us,0,r,aG _ rfl⟩
end
noncomputable abbrev Sp:=List V->Hp->VK->XK->Prop
noncomputable abbrev Bb:=List Env->Hp->Shared->XK->Value->Shared->Prop
structure EO (P:Program)(w:World)(K:PySem.W.Frag)(mg:Str->Option Value)(base:Heap)(A:Around)(outer:List Env)(s:Shared)(H:Hp):Prop where
 frames:A.frames=some outer
 mod:Mod K mg base
 bs:∀b o,base.get? b=some o->s.heap.get? b=some o/\H b=none
 bsz:base.objs.size<=s.heap.objs.size
 funs:s.heap.FunFrames base outer
 frf:∀b∈AR outer,H b=none
 hok:sa P w H s.heap
 bare:AllBare s.gens
noncomputable def CE (outer:List Env)(P:Program)(w:World)(H:Hp)(s:Shared)(Q:VK)(u:Value)(s':Shared):Prop :=
 ∃v H',s'.os=s.os/\AllBare s'.gens/\Un (AR outer) [] H H' s.heap s'.heap/\sa P w H' s'.heap/\dR v u/\Q v H'
noncomputable def CR (CX:Bb)(outer:List Env)(P:Program)(w:World)(H:Hp)(s:Shared)(Q:VK)(E:XK)(r:Result)(s':Shared):Prop :=
 match r with
 |.ok (.ret u)=>CE outer P w H s Q u s'
 |.ok _=>False
 |.error e=>CX outer H s E e s'
structure FnOk (P:Program)(w:World)(K:PySem.W.Frag)(mg:Str->Option Value)(base:Heap)(CX:Bb)(k:Nat)(f:Addr)(fd:FuncData)(ps:List Str)(sp:Sp):Prop where
 len:∀vs H Q E,sp vs H Q E->vs.length=ps.length
 run:∀(A:Around) (outer:List Env) (s:Shared) (H:Hp) (args:Args) (us:List Value) (vs:List V) (Q:VK) (E:XK),Room k A->EO P w K mg base A outer s H->BindsTo s fd args (ps.zip us)->cT vs us->sp vs H Q E →
  codeAny (model P w) A (.call (.ref f) args) (CR CX outer P w H s Q E) s
section
variable {X:Cx}{pins:List (Addr×Obj)}{σ:St}{H:Hp}{s s':Shared}
theorem cQ.env0 (I:cQ X pins σ H s):EO X.prog X.w X.K X.mg X.base X.A X.stack s H :=
 ⟨I.ok.frames,I.ok.mod,I.bs,aS I.ok.bsz I.sz,I.stack,I.stkFree,I.hok,I.bare⟩
theorem cQ.after {Q:VK}{u:Value}(I:cQ X pins σ H s)(h:CE X.stack X.prog X.w H s Q u s'):EP X pins σ Q u s':=by
 obtain⟨v,H',os,bare,un,hok,r,q⟩:=h;obtain⟨hh,g,d,t,os'⟩:=s'
 obtain rfl:os'=s.os:=os
 exact⟨v,H',I.call (h':=hh) (g':=g) (d':=d) (t':=t) (ch:=[]) un hok bare (fun b z=>absurd z (by simp)),r,q⟩
end
noncomputable def Hr (sp:Sp)(dvs:List V)(E:XK)(t:TA):TE:=fun σ H Q=>t σ H fun vs H1=>sp (vs++dvs) H1 Q E
noncomputable def Binds (K:PySem.W.Frag)(fd:FuncData)(ps:List Str)(ds:List Value):Prop :=
 ∀(s:Shared) (us:List Value),K.In s.heap->(us++ds).length=ps.length->BindsTo s fd ⟨us,[]⟩ (ps.zip (us++ds))
theorem Binds.all {K:PySem.W.Frag}{fd:FuncData}{ps:List Str}(h:∀us:List Value,us.length=ps.length->bindArgs fd ⟨us,[]⟩=pure (ps.zip us)):Binds K fd ps []:=fun s us _ hl=>by
 rw[bj] at hl ⊢;exact .of_eq (h us hl)
def yV (CX:Bb)(X:Cx)(E:XK):Prop:=∀(pins:List (Addr×Obj)) (σ:St) (H:Hp) (s:Shared) (e:Value) (s':Shared),cQ X pins σ H s->CX X.stack H s E e s'->X.xe e s'
section
variable {X:Cx}{CX:Bb}{k:Nat}{f C:Addr}{fd:FuncData}{ps:List Str}{sp:Sp}{dvs:List V}{ds:List Value}{E:XK}{x m:Str}{p pos apos:Pos}{e o:Expr}{es:List Expr}{ta:TE}{t:TA}
theorem FQ {pins:List (Addr×Obj)}{σ:St}{H:Hp}{s:Shared}{Q:VK}{us:List Value}{vs:List V}(F:FnOk X.prog X.w X.K X.mg X.base CX k f fd ps sp)(hr:Room k X.A)(hb:Binds X.K fd ps ds)(hd:cT dvs ds)(hx:yV CX X E)
  (I:cQ X pins σ H s) (r:cT vs us) (h:sp (vs++dvs) H Q E):wpAny (model X.prog X.w) X.A (call (.ref f) us) (EP X pins σ Q) X.xe s:=by
 have r2:cT (vs++dvs) (us++ds):=r.append hd;have hl:(us++ds).length=ps.length:=by rw[<-r2.length];exact F.len _ _ _ _ h
 refine wpAny_call (codeAny_mono (F.run X.A X.stack s H ⟨us,[]⟩ (us++ds) (vs++dvs) Q E hr I.env0 (hb s us I.kIn hl) r2 h) fun r s' hq=>?_);cases r with
 |error e=>exact hx pins σ H s e s' I hq
 |ok fl =>
  cases fl with
  |ret u=>exact I.after hq
  |next=>exact False.elim hq
  |brk=>exact False.elim hq
  |cont=>exact False.elim hq
theorem pe_call (F:FnOk X.prog X.w X.K X.mg X.base CX k f fd ps sp)(hr:Room k X.A)(hg:Gl X x)(hm:X.mg x=some (.ref f))(hk:PySem.W.keepIn X.K (.ref f)=true)(hb:Binds X.K fd ps ds)(hd:cT dvs ds)(hx:yV CX X E)
  (ha:PA X (e::es) t) (hdb:(x==("__debug__" : Str))=false:=by decide) (he:starEach (e::es) X.env=(false,eval e X.env)::starEach es X.env:=by rfl) (hpl:(backTo pos (starEach es X.env)).any (·.1)=false:=by rfl) :
  PE X (.Call (.Name x p) (e::es) [] pos) (Hr sp dvs E t):=by
 intro pins s σ H Q I h;refine wpAny_Call_Name_kw (Eg I hg hm ?_ hdb);refine PySem.W.callWith_K (h₀:=X.base) I.ok.mod.kin hk (thn (ha pos pins s σ H _ I h) fun us s1 ⟨vs,H1,I1,r,q⟩=>⟨I1.kIn,?_⟩) he hpl;exact FQ F hr hb hd hx I1 r q
end
section
variable {X:Cx}{CX:Bb}{k:Nat}{f C:Addr}{fd:FuncData}{ps ks:List Str}{sp:Sp}{E:XK}{x m:Str}{p pos apos kpos:Pos}{e o:Expr}{es:List Expr}{kws:List Keyword}{te ta:TE}{t tk:TA}{nm:Option Str}
variable {g:List Value->List Value->List Value}{gV:List V->List V->List V}
end
structure FnScope (N P:List Str)(sc:Scope):Prop where
 kind:sc.kind=.function
 co:sc.isCoroutine=false
 gen:sc.isGenerator=false
 nd:N.Nodup
 pre:N.take P.length=P
 par:∀x∈P,sc.names.lookup x=some .local\/sc.names.lookup x=some .cell
 nofree:∀y∈sc.names,y.2≠.free
theorem tS {kindOf:Str->Option NameKind}{x:Str}:∀{binds:List (Str×Value)}{m:Str->Option Value},(∀v,(x,v)∉binds)->bindL kindOf binds m x=m x
 |[],_,_=>rfl
 | (n,v)::r,m,h=>by
  unfold bindL;rw[tS fun w hw=>h w (aH _ hw)];split
  ·have:x≠n:=by rintro rfl;exact h v aQ
   simp[this]
  ·rfl
theorem tU {kindOf:Str->Option NameKind}{x:Str}:∀{binds:List (Str×Value)}{m:Str->Option Value},(∀v,(x,v)∉binds)->bindC kindOf binds m x=m x
 |[],_,_=>rfl
 | (n,v)::r,m,h=>by
  unfold bindC;rw[tU fun w hw=>h w (aH _ hw)];split
  ·rfl
  ·have:x≠n:=by rintro rfl;exact h v aQ
   simp[this]
theorem tT {kindOf:Str->Option NameKind}{x:Str}{v:Value}:∀{P:List Str}{vs:List Value}{i:Nat}{m:Str->Option Value},P.Nodup->P[i]?=some x->vs[i]?=some v->kindOf x=some .local →
  bindL kindOf (P.zip vs) m x=some v
 |[],_,_,_,_,h,_,_=>by simp at h
 |_::_,[],_,_,_,_,h,_=>by simp at h
 | p::P,w::vs,0,m,nd,h1,h2,hk=>by
  simp at h1 h2;subst h1;subst h2;show bindL kindOf ((p,w)::P.zip vs) m p=_;unfold bindL;rw[tS fun v hv=>(List.nodup_cons.mp nd).1 (JV hv).1,if_pos hk];simp
 | p::P,w::vs,i+1,m,nd,h1,h2,hk=>by
  show bindL kindOf ((p,w)::P.zip vs) m x=_;unfold bindL;exact tT (i:=i) (List.nodup_cons.mp nd).2 (by simpa using h1) (by simpa using h2) hk
theorem tV {kindOf:Str->Option NameKind}{x:Str}{v:Value}:∀{P:List Str}{vs:List Value}{i:Nat}{m:Str->Option Value},P.Nodup->P[i]?=some x->vs[i]?=some v->kindOf x≠some .local →
  bindC kindOf (P.zip vs) m x=some v
 |[],_,_,_,_,h,_,_=>by simp at h
 |_::_,[],_,_,_,_,h,_=>by simp at h
 | p::P,w::vs,0,m,nd,h1,h2,hk=>by
  simp at h1 h2;subst h1;subst h2;show bindC kindOf ((p,w)::P.zip vs) m p=_;unfold bindC;rw[tU fun v hv=>(List.nodup_cons.mp nd).1 (JV hv).1,if_neg hk];simp
 | p::P,w::vs,i+1,m,nd,h1,h2,hk=>by
  show bindC kindOf ((p,w)::P.zip vs) m x=_;unfold bindC;exact tV (i:=i) (List.nodup_cons.mp nd).2 (by simpa using h1) (by simpa using h2) hk
noncomputable def start (N:List Str)(vs:List V):St:=vs.map some++aI (N.length-vs.length) none
noncomputable def cxOf (CX:Bb)(P:Program)(w:World)(K:PySem.W.Frag)(mg:Str->Option Value)(base:Heap)(N:List Str)(qual:Str)(scope:Scope)(f:Addr)(cd:Value)(A:Around)(outer:List Env)(s:Shared)(H:Hp)(E:XK):Cx where
 prog:=P
 w:=w
 K:=K
 mg:=mg
 base:=base
 A:=A.deeper (envOfC qual scope s.heap.objs.size f cd)
 N:=N
 s₀:=s
 H₀:=H
 env:=envOfC qual scope s.heap.objs.size f cd
 outer:=outer
 stack:=envOfC qual scope s.heap.objs.size f cd::outer
 ex:=[]
 calm:=true
 fn:=fun _=>true
 pn:=[]
 xe:=fun e s'=>wpAny (model P w) (A.deeper (envOfC qual scope s.heap.objs.size f cd)) (leaving (envOfC qual scope s.heap.objs.size f cd) e) (fun _ s''=>CX outer H s E e s'') (fun e' s''=>CX outer H s E e' s'') s'
theorem xg {sc:Scope}{n:Nat}{x:Str}(h:sc.names.lookup x=some .cell):∃c,(cellsFrom n sc.names []).lookup x=some c:=by
 have q:=PySem.W.cellsFrom_some sc.names n [] (.inl h);exact Option.isSome_iff_exists.mp q
theorem AL {CX:Bb}{P:Program}{w:World}{K:PySem.W.Frag}{mg:Str->Option Value}{base:Heap}{N ps:List Str}{qual:Str}{scope:Scope}{f:Addr}{cd:Value}{A:Around}{outer:List Env}{s s1:Shared}{H:Hp}{E:XK}{us:List Value}{vs:List V}
  (S:FnScope N ps scope) (hd:A.handled=none) (e0:EO P w K mg base A outer s H) (hl:vs.length=ps.length) (r:cT vs us)
  (x:InCallC s s.heap.objs.size (bindL (envOfC qual scope s.heap.objs.size f cd).kindOf (ps.zip us) fun _=>none) (cellsFrom (s.heap.objs.size+1) scope.names []) (bindC (envOfC qual scope s.heap.objs.size f cd).kindOf (ps.zip us) fun _=>none) s1) :
  cQ (cxOf CX P w K mg base N qual scope f cd A outer s H E) [] (start N vs) H s1:=by
 have hpl:ps.length<=N.length:=by have:=congrArg List.length S.pre;rw[List.length_take] at this;omega
 obtain⟨h1,tk,rfl,hk⟩:=x.done;have noA:∀b:Addr,b∉(cxOf CX P w K mg base N qual scope f cd A outer s H E).ex:=fun b z=>absurd (show b∈([]:List Addr) from z) (by simp);refine⟨⟨e0.mod,S.kind,rfl,rfl,aB _,fun y z c h1 h2=>?_,fun y hy=>?_,fun y c _ h=>?_,fun _=>hd,Around.frames_deeper e0.frames,.inr ⟨rfl,rfl⟩,fun b z=>absurd z (noA b),e0.bs,e0.bsz,fun b _ _=>noA b,fun b z=>absurd z (noA b),e0.funs,e0.frf⟩,
  rfl,e0.bare,Un.kept hk,⟨_,x.toInCall.ns,fun i y v h1 h2 h3=>?_⟩,fun y c h=>⟨_,x.cell y c h⟩,e0.hok.fresh (aB _),fun y c h=>?_,fun p hp=>absurd (show p∈([]:List (Addr×Obj)) from hp) (by simp),e0.hok.kept hk,?_⟩
 ·exact name_of_addr x.apart (PySem.mem_of_lookup h1) (PySem.mem_of_lookup h2)
 ·have hy:scope.names.lookup y=some .cell\/scope.names.lookup y=some .free:=hy;rcases hy with hy|hy
  ·exact xg hy
  ·exact absurd rfl (S.nofree _ (PySem.mem_of_lookup hy))
 ·exact JY (x.above y c (PySem.mem_of_lookup h))
 ·have hi:i<vs.length:=by
   unfold start at h2;by_cases hi:i<vs.length
   ·exact hi
   ·rw[aN (by simpa using hi)] at h2;rw[bN] at h2;split at h2 <;> cases h2
  have ha:vs[i]?=some v:=by
   unfold start at h2;rw[aP (by simpa using hi),au] at h2;cases e:vs[i]? with
   |none=>rw[e] at h2;cases h2
   |some a=>rw[e] at h2;cases h2;rfl
  obtain⟨u,hu,rv⟩:=r.get ha;have hp:ps[i]?=some y:=by
   rw[<-S.pre,List.getElem?_take_of_lt ⋯];exact h1
  have ndP:ps.Nodup:=by rw[<-S.pre];exact S.nd.sublist (List.take_sublist _ _)
  refine⟨u,rv,?_⟩;rcases S.par y (az hp) with k|k
  ·exact .inl ⟨k,tT ndP hp hu k⟩
  ·obtain⟨c,e⟩:=xg (n:=s.heap.objs.size+1) k;refine .inr ⟨.inl k,c,e,?_⟩;have q:=x.cell y c e;rw[tV ndP hp hu (by show scope.names.lookup y≠_;rw[k];decide)] at q;exact q
 ·exact e0.hok.fresh (JY (x.above y c (PySem.mem_of_lookup h)))
 ·unfold start;show _=N.length;rw[aw,af,bh];omega
theorem HZ {CX:Bb}{P:Program}{w:World}{K:PySem.W.Frag}{mg:Str->Option Value}{base:Heap}{k:Nat}{f:Addr}{name qual:Str}{params:Arguments}{body:List Stmt}{scope:Scope}{dV kV doc pm cdv ct oc:Value}{an od:Option Addr}
  {osl:Array (Option Value)}{N ps:List Str}{sp:Sp} (lk:K.lookup f=some ⟨oc,od,.func (PySem.W.fnOf name qual params body scope dV kV doc pm an cdv ct),osl⟩) (hcd:PySem.W.codeIn K cdv qual=true) (S:FnScope N ps scope)
  (len:∀vs H Q E,sp vs H Q E->vs.length=ps.length)
  (hbody:∀(A:Around) (outer:List Env) (s:Shared) (H:Hp) (vs:List V) (Q:VK) (E:XK),Room k (A.deeper (envOfC qual scope s.heap.objs.size f cdv))->sp vs H Q E →
   ∃t,PSs (cxOf CX P w K mg base N qual scope f cdv A outer s H E) body t/\t { nx:=fun _ H'=>Q .non H',rt:=Q } (start N vs) H) :
  FnOk P w K mg base CX (k+1) f (PySem.W.fnOf name qual params body scope dV kV doc pm an cdv ct) ps sp:=by
 refine⟨len,fun A outer s H args us vs Q E hr e0 hb r hsp=>?_⟩;have hl:=len _ _ _ _ hsp;have KX:K.In s.heap:=e0.mod.kin.keeps fun b o e=>(e0.bs b o e).1;have lim:s.heap.NoLimit:=e0.mod.nolimit.keeps fun b o e=>(e0.bs b o e).1;have hkind:∀y∈ps.zip us,scope.names.lookup y.1=some .local\/(scope.names.lookup y.1=some .cell/\((cellsFrom (s.heap.objs.size+1) scope.names []).lookup y.1).isSome=true):=fun⟨n,v⟩ hy=>by
  rcases S.par n (JV hy).1 with q|q
  ·exact .inl q
  ·exact .inr ⟨q,PySem.W.cellsFrom_some _ _ _ (.inl q)⟩
 refine codeAny_call_function hr.depth (KX _ _ lk) rfl S.co S.gen rfl (PySem.W.codeRec_of KX hcd) (hb _ _ _ _ ?_);refine wpAny_newFunctionEnv_cells S.kind hkind fun env he s1 x=>?_;subst he;refine⟨lim.keeps x.toInCall.keep,codeAny_func ?_⟩;obtain⟨t,ht,hq⟩:=hbody A outer s H vs Q E (hr.deeper _) hsp;have I:cQ (cxOf CX P w K mg base N qual scope f cdv A outer s H E) [] (start N vs) H s1:=AL S hr.hd e0 hl r x;refine wpAny_mono (ht [] s1 (start N vs) H _ I hq) (fun fl s' hs=>?_) fun e s' hs=>hs;have fin:∀{σ':St}{H':Hp}{v:V}{u:Value},cQ (cxOf CX P w K mg base N qual scope f cdv A outer s H E) [] σ' H' s'->dR v u->Q v H'->CE outer P w H s Q u s' :=
  fun {σ' H' v u} J rv q=>⟨v,H',J.os,J.bare,J.base,J.hok,rv,q⟩
 cases fl with
 |ret u =>
  obtain⟨v,σ',H',J,rv,q⟩:=hs;exact fin J rv q
 |next =>
  obtain⟨σ',H',J,q⟩:=hs;exact fin (v:=V.non) (u:=Value.none) J rfl q
 |brk =>
  obtain⟨_,_,_,q⟩:=hs;exact False.elim q
 |cont =>
  obtain⟨_,_,_,q⟩:=hs;exact False.elim q
section
variable {X:Cx}{x:Str}{p pos:Pos}{e:Expr}{es:List Expr}{t:TA}{id T:String}{r:List V->Hp->VK->Prop}
noncomputable def tCB (r:List V->Hp->VK->Prop)(t:TA):TE:=fun σ H Q=>t σ H fun vs H1=>r vs H1 Q
theorem pe_callB (hc:CallR X (.builtin id) r)(hg:Gl X x)(hm:X.mg x=none)(hv:bootBuiltins x=some (.builtin id))(ha:PA X (e::es) t)(hn:x ≠ "__name__" := by decide)(hdb:(x==("__debug__" : Str))=false:=by decide)
  (he:starEach (e::es) X.env=(false,eval e X.env)::starEach es X.env:=by rfl) (hpl:(backTo pos (starEach es X.env)).any (·.1)=false:=by rfl):PE X (.Call (.Name x p) (e::es) [] pos) (tCB r t):=by
 intro pins s σ H Q I h;refine wpAny_Call_Name_kw (ld_blt I hg hm hv ?_ hn hdb);exact PyProof.Rows.callWith_builtin1 (thn (ha pos pins s σ H _ I h) fun us s1 ⟨vs,H1,I1,r1,q1⟩=>hc pins s1 σ H1 vs us Q I1 r1 q1) he hpl
theorem pe_callTy (hc:CallR X (.type T) r)(hg:Gl X x)(hm:X.mg x=none)(hv:bootBuiltins x=some (.type T))(ha:PA X (e::es) t)(hn:x ≠ "__name__" := by decide)(hdb:(x==("__debug__" : Str))=false:=by decide)
  (he:starEach (e::es) X.env=(false,eval e X.env)::starEach es X.env:=by rfl) (hpl:(backTo pos (starEach es X.env)).any (·.1)=false:=by rfl):PE X (.Call (.Name x p) (e::es) [] pos) (tCB r t):=by
 intro pins s σ H Q I h;refine wpAny_Call_Name_kw (ld_blt I hg hm hv ?_ hn hdb);exact PyProof.Rows.callWith_type1 (thn (ha pos pins s σ H _ I h) fun us s1 ⟨vs,H1,I1,r1,q1⟩=>hc pins s1 σ H1 vs us Q I1 r1 q1) he hpl
end
end L2
namespace HT
open PySem PyProof.Rows
section
open PySem.SeqAt
open PySem.AutoSeq1 (wpAny_loadPart')
open PySem.MeetsSeq PySem.MeetsSeq2 PySem.MeetsSeq3
end
section
variable {prog:Program}{w:World}{A:Around}{E:Value->Shared->Prop}{s:Shared}
theorem cat_tup {t b:Addr}{vs ws:List Value}{Q:Value->Shared->Prop}(ht:IsTup s.heap t vs.toArray)(hb:IsTup s.heap b ws.toArray)(hv:vs≠[])
  (h1:ws=[]->Q (.ref t) s) (h2:ws≠[]->Q (.ref s.heap.objs.size) { s with heap:=s.heap.push { cls:=.type "tuple", data:=.seq (vs++ws).toArray } })
  (hsz:vs.length+ws.length<=sizeLine):wpAny (model prog w) A (binaryOp .Add (.ref t) (.ref b)) Q E s:=by
 obtain⟨⟨cls,dd,data,sl⟩,ho,hc,n,hd⟩:=id ht;obtain⟨⟨cls2,dd2,data2,sl2⟩,ho2,hc2,n2,hd2⟩:=id hb;simp only at hc hd hc2 hd2;subst hc hd hc2 hd2;have e:vs.toArray++ws.toArray=(vs++ws).toArray:=by simp
 by_cases hw:ws=[]
 ·exact concat_meets ⟨_,ho,rfl⟩ ⟨_,ho2,rfl⟩ noFill_tuple_add seq_tuple_add PySem.F.slot_tuple_add PySem.F.entry_tuple_add (PySem.F.args_tuple_add_2 _ _)
   (tuple_addW1 t b vs.toArray ws.toArray n n2 dd dd2 sl sl2 (by simpa using hv) (by simp[hw])) ⟨ho,ho2,h1 hw⟩
 ·refine concat_meets ⟨_,ho,rfl⟩ ⟨_,ho2,rfl⟩ noFill_tuple_add seq_tuple_add PySem.F.slot_tuple_add PySem.F.entry_tuple_add (PySem.F.args_tuple_add_2 _ _)
   (tuple_addW2 t b vs.toArray ws.toArray n n2 dd dd2 sl sl2 (by simpa using hv) (by simpa using hw) (by rw[aE,aE];exact hsz)) ⟨ho,ho2,?_⟩
  rw[e];exact h2 hw
end
end HT
namespace L2
open PySem PySem.Spec PyProof.Rows
noncomputable abbrev TO:=St->Hp->(Option Int->Hp->Prop)->Prop
section
variable {X:Cx}{e:Expr}{te:TE}{lo hi:Option Expr}{tl th:TO}{pos p2:Pos}
noncomputable def EY (K:PySem.W.Frag):R2:=fun x y H Q=>∃a b xs ys,x=.ref a/\y=.ref b/\jj K H a xs/\jj K H b ys/\xs≠[]/\xs.length+ys.length<=sizeLine ∧
 (ys=[]->Q (.ref a) H)/\(ys≠[]->∀p,H p=none->Q (.ref p) (dY H p (.tup (xs++ys))))
theorem cT.nil_iff {xs:List V}{us:List Value}(r:cT xs us):us=[]<->xs=[]:=by
 cases r with
 |nil=>simp
 |cons _ _=>simp
theorem DR:OpR X (binaryOp .Add) (EY X.K):=by
 intro pins s σ H x y v u Q I rx ry h;obtain⟨a,b,xs,ys,rfl,rfl,ha,hb,hx,hz,q1,q2⟩:=h;cases rx;cases ry;obtain⟨its,r1,p1,_⟩:=I.tuple ha;obtain⟨its2,r2,p2,_⟩:=I.tuple hb;refine HT.cat_tup p1 p2 (fun z=>hx (r1.nil_iff.mp z)) (fun z=>⟨.ref a,H,I,rfl,q1 (r2.nil_iff.mp z)⟩) (fun z=>?_) (by rw[<-r1.length,<-r2.length];exact hz);refine⟨.ref s.heap.objs.size,_,I.laid (t':=s.toks) (o:=.tup (xs++ys)) (fun b ob q=>ae _ q) (aB _) ?_,rfl,q2 (fun w=>z (r2.nil_iff.mpr w)) _ (I.hok.fresh (aB _))⟩;exact⟨by rw[aw];exact hz,_,r1.append r2,IsTup.new _ _⟩
end
noncomputable def ixN (n:Nat)(i:Int):Option Nat:=if 0<=i then (if i<n then some i.toNat else none) else if -(n:Int)<=i then some (i+n).toNat else none
noncomputable def atI {α:Type}(xs:List α)(i:Int):Option α:=(ixN xs.length i).bind fun j=>xs[j]?
theorem zu {n:Nat}{i:Int}{j:Nat}(h:ixN n i=some j):seqIndex? i n=some j/\j<n/\-(n:Int)<=i/\i<n:=by
 unfold ixN at h;by_cases h0:0<=i
 ·rw[if_pos h0] at h;by_cases h1:i<n
  ·rw[if_pos h1] at h;have e:i.toNat=j:=Option.some.inj h;exact⟨by rw[seqIndex_of h0 h1,e],by omega,by omega,h1⟩
  ·rw[if_neg h1] at h;cases h
 ·rw[if_neg h0] at h;by_cases h1:-(n:Int)<=i
  ·rw[if_pos h1] at h;have e:(i+n).toNat=j:=Option.some.inj h;exact⟨by rw[seqIndex_neg ⋯ h1,e],by omega,h1,by omega⟩
  ·rw[if_neg h1] at h;cases h
theorem vu {α:Type}{xs:List α}{i:Int}{v:α}(h:atI xs i=some v):∃j,seqIndex? i xs.length=some j/\xs[j]?=some v/\j<xs.length/\-(xs.length:Int)<=i/\i<xs.length:=by
 unfold atI at h;cases e:ixN xs.length i with
 |none=>rw[e] at h;cases h
 |some j =>
  rw[e] at h;obtain⟨h1,h2,h3,h4⟩:=zu e;exact⟨j,h1,h,h2,h3,h4⟩
def PlainIx (b:Expr):Prop:=∀o i,subscripted b false o i=operate [o,i] (getItem o i)
noncomputable def IxR (X:Cx)(r:R2):Prop :=
 ∀(value slice:Expr) (pins:List (Addr×Obj)) (s:Shared) (σ:St) (H:Hp) (x y:V) (v u:Value) (Q:VK),cQ X pins σ H s->dR x v->dR y u->r x y H Q →
  subscripted slice false v u=operate [v,u] (getItem v u)->wpAny (model X.prog X.w) X.A (subscriptTail value slice v u) (EP X pins σ Q) X.xe s
noncomputable def JA (X:Cx)(id:String)(r:V->List V->Hp->VK->Prop):Prop :=
 ∀(pins:List (Addr×Obj)) (s:Shared) (σ:St) (H:Hp) (x:V) (xs:List V) (v:Value) (us:List Value) (Q:VK),cQ X pins σ H s->dR x v->cT xs us->r x xs H Q →
  wpAny (model X.prog X.w) X.A (call (.builtin id) (v::us)) (EP X pins σ Q) X.xe s
section
variable {X:Cx}{a b:Expr}{ta tb:TE}{pos:Pos}
theorem IxR.or {r r':R2}(h:IxR X r)(h':IxR X r'):IxR X (fun x y H Q=>r x y H Q\/r' x y H Q):=by
 intro value slice pins s σ H x y v u Q I rx ry q hs;rcases q with q|q
 ·exact h value slice pins s σ H x y v u Q I rx ry q hs
 ·exact h' value slice pins s σ H x y v u Q I rx ry q hs
theorem pe_ix {r:R2}(hr:IxR X r)(ha:PE X a ta)(hb:PE X b tb)(hs:PlainIx b):PE X (.Subscript a b pos) (tOp r ta tb):=by
 intro pins s σ H Q I h;exact Subscript_ (Il ha hb I h fun v u s2 x y H2 I2 rx ry q=>hr a b pins s2 σ H2 x y v u Q I2 rx ry q (hs _ _))
noncomputable def HA (K:PySem.W.Frag):R2:=fun x y H Q=>∃p xs i v,x=.ref p/\y=.int i/\jR K H p xs/\atI xs i=some v/\Q v H
noncomputable def Hy (K:PySem.W.Frag):R2:=fun x y H Q=>∃p xs i v,x=.ref p/\y=.int i/\jj K H p xs/\atI xs i=some v/\Q v H
noncomputable def Hz:R2:=fun x y H Q=>∃z i c,x=.str z/\y=.int i/\z.length<=sizeLine/\atI z.cps.toList i=some c/\Q (.str ⟨#[c]⟩) H
theorem Ej:IxR X (HA X.K):=by
 intro value slice pins s σ H x y v u Q I rx ry h hs;obtain⟨p,xs,i,z,rfl,rfl,hq,he,q⟩:=h;cases rx;obtain⟨t,rfl⟩:=ry;obtain⟨its,r,pl,hz⟩:=I.list hq;obtain⟨j,h1,h2,h3,h4,h5⟩:=vu he;obtain⟨w,ew,rw'⟩:=r.get h2;have hl:=r.length;have hn:=rA;have fin:EP X pins σ Q w s:=⟨z,H,I,rw',q⟩;by_cases h0:0<=i
 ·have hj:i.toNat=j:=by
   rw[seqIndex_of h0 h5] at h1;exact Option.some.inj h1
  exact item_listR pl.isList h0 ⋯ (by rw[hj];simpa using ew) fin hs
 ·have hj:(i+(its.toArray.size:Int)).toNat=j:=by
   rw[seqIndex_neg ⋯ h4] at h1;rw[aE,<-hl];exact Option.some.inj h1
  exact subscriptTail_builtinR (x:=w) pl.isList.typeIs slot_list_getitem.lookup
   (wpAny_getItem_list_neg (Q:=fun r s'=>r=w/\EP X pins σ Q r s') pl.isList ⋯ (by rw[aE] <;> omega) ⋯ (by rw[hj];simpa using ew) ⟨rfl,fin⟩) hs
theorem Gv:IxR X (Hy X.K):=by
 intro value slice pins s σ H x y v u Q I rx ry h hs;obtain⟨p,xs,i,z,rfl,rfl,hq,he,q⟩:=h;cases rx;obtain⟨t,rfl⟩:=ry;obtain⟨its,r,pl,hz⟩:=I.tuple hq;obtain⟨j,h1,h2,h3,h4,h5⟩:=vu he;obtain⟨w,ew,rw'⟩:=r.get h2;have hl:=r.length;have hn:=rA;have fin:EP X pins σ Q w s:=⟨z,H,I,rw',q⟩;exact subscriptTail_builtinR (x:=w) pl.typeIs slot_tuple_getitem.lookup
  (getItem_tuple (j:=j) (Q:=fun r s'=>r=w/\EP X pins σ Q r s') pl ⋯ ⋯ (by rw[aE,<-hl];exact h1) (by simpa using ew) ⟨rfl,fin⟩) hs
theorem Gw:IxR X Hz:=by
 intro value slice pins s σ H x y v u Q I rx ry h hs;obtain⟨z,i,c,rfl,rfl,hz,he,q⟩:=h;obtain⟨t,rfl⟩:=rx;obtain⟨t',rfl⟩:=ry;obtain⟨j,h1,h2,h3,h4,h5⟩:=vu he;have hl:z.cps.toList.length=z.length:=by simp[Str.length]
 rw[hl] at h1 h4 h5;have hn:=rA;exact tail_any (typeIs_str s z t) slot_str_getitem.lookup (getItem_str (c:=c) (by
  have e1:decide (i < -(2 ^ 63:Int))=false:=decide_eq_false ⋯;have e2:decide (i ≥ 2 ^ 63)=false:=decide_eq_false ⋯;rw[e1,e2,Bool.or_false]) (by rw[h1];simpa using h2) ⟨.str ⟨#[c]⟩,H,I.tok _,⟨_,rfl⟩,q⟩) hs
noncomputable def rIx (K:PySem.W.Frag):R2:=fun x y H Q=>HA K x y H Q\/Hy K x y H Q\/Hz x y H Q
theorem ix_seq:IxR X (rIx X.K):=Ej.or (Gv.or Gw)
theorem yj (its:List Value)(n j:Nat)(u:Value):Obj.mapSeq (·.setIfInBounds j u) { cls:=.type "list", data:=.seq its.toArray n }={ cls:=.type "list", data:=.seq (its.set j u).toArray n }:=by
 simp[Obj.mapSeq]
theorem cQ.lst {pins:List (Addr×Obj)}{σ:St}{H:Hp}{s:Shared}{p:Addr}{xs:List V}(I:cQ X pins σ H s)(h:H p=some (.lst xs)) :
  ∃(its:List Value) (n:Nat),cT xs its/\s.heap.get? p=some { cls:=.type "list", data:=.seq its.toArray n }/\xs.length<=sizeLine:=by
 obtain⟨z,its,n,r,e⟩:=I.hok p _ h;exact⟨its,n,r,e,z⟩
theorem cQ.lstUpd {pins:List (Addr×Obj)}{σ:St}{H:Hp}{s:Shared}{p:Addr}{xs ys:List V}{its its':List Value}{n n':Nat}{f:Obj->Obj}(I:cQ X pins σ H s)(h:H p=some (.lst xs))
  (ho:s.heap.get? p=some { cls:=.type "list", data:=.seq its.toArray n }) (hf:f { cls:=.type "list", data:=.seq its.toArray n }={ cls:=.type "list", data:=.seq its'.toArray n' }) (r:cT ys its') (hz:ys.length<=sizeLine) (t:Nat) :
  cQ X pins σ (dY H p (.lst ys)) { s with heap:=s.heap.update p f,toks:=t }:=by
 have e:(s.heap.update p f).get? p=some { cls:=.type "list", data:=.seq its'.toArray n' }:=by
  rw[Heap.get?_update_self f ho (by rw[hf] <;> rfl),hf]
 refine I.write (x:=p) (e:=p) (by rw[h];trivial) (.inl rfl) (fun b u hb q=>(Heap.get?_update_other _ _ (Ne.symm hb)).trans q) ⟨_,e⟩ ?_;exact⟨hz,its',n',r,e⟩
noncomputable def Hu:V->V->V->Hp->(Hp->Prop)->Prop:=fun o i v H Q=>∃p xs k j,o=.ref p/\i=.int k/\H p=some (.lst xs)/\ixN xs.length k=some j/\Q (dY H p (.lst (xs.set j v)))
theorem set_list:PSet X Hu:=by
 intro pins s σ H o i v ov iv u Q I ro ri rv h;obtain⟨p,xs,k,j,rfl,rfl,hp,hj,q⟩:=h;cases ro;obtain⟨t,rfl⟩:=ri;obtain⟨its,n,r,ho,hz⟩:=I.lst hp;obtain⟨h1,h2,h3,h4⟩:=zu hj;have hl:=r.length;have hn:=rA;have I':cQ X pins σ (dY H p (.lst (xs.set j v))) { s with heap:=s.heap.update p (Obj.mapSeq (·.setIfInBounds j u)) } :=
  I.lstUpd hp ho (yj its n j u) (r.set rv j) (by rw[bf];exact hz) s.toks
 by_cases h0:0<=k
 ·have hk:k.toNat=j:=by
   rw[seqIndex_of h0 h4] at h1;exact Option.some.inj h1
  exact PySem.W.ki_setAt ho h0 ⋯ (by rw[aE,<-hl];exact h4) (by rw[hk];exact⟨_,I',q⟩)
 ·have hk:(k+(its.toArray.size:Int)).toNat=j:=by
   rw[seqIndex_neg ⋯ h3] at h1;rw[aE,<-hl];exact Option.some.inj h1
  exact PySem.W.ki_setBack ho ⋯ (by rw[aE,<-hl];exact h3) ⋯ (by rw[hk];exact⟨_,I',q⟩)
theorem call_len_seq:CallR X (.builtin "len") (fun xs H Q=>∃p ys,xs=[.ref p]/\(jR X.K H p ys\/jj X.K H p ys)/\Q (.int ys.length) H):=by
 intro pins s σ H xs us Q I r h;obtain⟨p,ys,rfl,hq,q⟩:=h;obtain⟨u,rfl,rx⟩:=EV r;cases rx;have hn:=rA;rcases hq with hq|hq
 ·obtain⟨its,r',pl,hz⟩:=I.list hq;have hlen:=r'.length;exact Calls.call_len_list pl.isList (by simp only[aE] <;> omega) ⟨.int ys.length,H,I.tok _,⟨s.toks+1,by rw[aE,hlen]⟩,q⟩
 ·obtain⟨its,r',pl,hz⟩:=I.tuple hq;have hlen:=r'.length;exact len_tuple pl (by simp only[aE] <;> omega) ⟨.int ys.length,H,I.tok _,⟨s.toks+1,by rw[aE,hlen]⟩,q⟩
theorem call_tuple_of:CallR X (.type "tuple") (fun xs H Q=>∃p ys,xs=[.ref p]/\((jR X.K H p ys/\∀l,H l=none->Q (.ref l) (dY H l (.tup ys)))\/(jj X.K H p ys/\Q (.ref p) H))):=by
 intro pins s σ H xs us Q I r h;obtain⟨p,ys,rfl,h⟩:=h;obtain⟨u,rfl,rx⟩:=EV r;cases rx;rcases h with ⟨hq,q⟩|⟨hq,q⟩
 ·obtain⟨its,r',pl,hz⟩:=I.list hq;have hlen:=r'.length;refine call_tuple_list pl.isList (fun h' kp=>?_) (by simp only[aE] <;> omega);have I1:cQ X pins σ H { s with heap:=h' }:=I.kept (t':=s.toks) kp;have I2:cQ X pins σ (dY H h'.objs.size (.tup ys)) { s with heap:=h'.push { cls:=.type "tuple", data:=.seq its.toArray } } :=
   I1.laid (t':=s.toks) (fun b o e=>ae _ e) (aB _) (show ObjOk X.prog X.w _ _ _ (.tup ys) from ⟨hz,its,r',IsTup.new _ _⟩)
  exact⟨.ref h'.objs.size,_,I2,rfl,q _ (I1.hok.fresh (aB _))⟩
 ·obtain⟨its,r',pl,hz⟩:=I.tuple hq;exact call_tuple_same pl ⟨.ref p,H,I,rfl,q⟩
def Ji (K:PySem.W.Frag)(T:String)(x:V)(H:Hp):Prop:=match x with
 |.str _=>T = "str"
 |.int _=>T = "int"
 | .ref p=>(T = "list" ∧ ∃xs,jR K H p xs)\/(T = "tuple" ∧ ∃o,K.lookup p=some o/\o.cls=.type "tuple" ∧ o.dict=none) ∨
   (T = "dict" ∧ ((∃kvs,H p=some (.dK kvs))\/∃kvs,H p=some (.dT kvs)))\/(T = "set" ∧ ∃S n,H p=some (.set S n))
 |_=>False
theorem FC {pins:List (Addr×Obj)}{σ:St}{H:Hp}{s:Shared}{T:String}{x:V}{v:Value}(I:cQ X pins σ H s)(r:dR x v)(ty:Ji X.K T x H) :
  s.TypeIs v T/\∀a,v=.ref a->∃ob,s.heap.get? a=some ob/\ob.dict=none:=by
 cases x with
 |str z =>
  obtain⟨t,rfl⟩:=r;cases (show T = "str" from ty);exact⟨typeIs_str s z t,fun _ e=>nomatch e⟩
 |int i =>
  obtain⟨t,rfl⟩:=r;cases (show T = "int" from ty);exact⟨typeIs_int s i t,fun _ e=>nomatch e⟩
 |ref p =>
  cases r;rcases ty with ⟨rfl,xs,hq⟩|⟨rfl,o,hk,hc,hd⟩|⟨rfl,hk⟩|⟨rfl,S,n,hk⟩
  ·obtain⟨its,_,pl,_⟩:=I.list hq;refine⟨pl.isList.typeIs,fun a e=>?_⟩;cases e;obtain⟨o,n,e,c,hd,_⟩:=pl;exact⟨o,e,hd⟩
  ·refine⟨⟨o,I.kIn p o hk,hc⟩,fun a e=>?_⟩;cases e;exact⟨o,I.kIn _ o hk,hd⟩
  ·have z:∃o,s.heap.get? p=some o/\o.ExactDict:=by
    rcases hk with ⟨kvs,hk⟩|⟨kvs,hk⟩
    ·obtain⟨_,_,_,_,o,_,_,e,ex,_⟩:=I.hok p _ hk;exact⟨o,e,ex⟩
    ·obtain⟨_,_,_,_,o,_,_,e,ex,_⟩:=I.hok p _ hk;exact⟨o,e,ex⟩
   obtain⟨o,e,ex⟩:=z;refine⟨⟨o,e,ex.1⟩,fun a e2=>?_⟩;cases e2;exact⟨o,e,ex.2.1⟩
  ·obtain⟨o,_,_,_,e,ex,_⟩:=I.hok p _ hk;refine⟨⟨o,e,ex.1⟩,fun a e2=>?_⟩;cases e2;exact⟨o,e,ex.2.1⟩
 |_=>exact False.elim ty
noncomputable def Jt (K:PySem.W.Frag)(T:String)(r:V->List V->Hp->VK->Prop)(to:TE)(t:TA):TE:=fun σ H Q=>to σ H fun x H1=>Ji K T x H1/\t σ H1 fun xs H2=>r x xs H2 Q
variable {o e:Expr}{es:List Expr}{to:TE}{t:TA}{name:Str}{apos cpos:Pos}{T id:String}{r:V->List V->Hp->VK->Prop}
theorem pe_bm (pa:PlainAttrs T)(slot:Slot T name id)(hty:typeOf (.builtin id)=pure (.type "method_descriptor"))(hm:JA X id r)(ho:PE X o to)(ha:PA X (e::es) t)
  (hbase:attributeBase o name X.env (eval o X.env)=eval o X.env:=by rfl)
  (hfew:((backTo cpos (starEach (e::es) X.env)).all (fun x=>!x.1)&&(backToKw cpos (keywordEach [] X.env)).all (fun x=>x.1.isSome)
   && decide ((e::es).length+([]:List Keyword).length+(if ([]:List Keyword).isEmpty then 0 else 1)<30))=true:=by rfl)
  (hline:(apos.endLine==cpos.line)=true:=by rfl) (hs:starEach (e::es) X.env=(false,eval e X.env)::starEach es X.env:=by rfl) (hplain:(backTo cpos (starEach es X.env)).any (·.1)=false:=by rfl) :
  PE X (.Call (.Attribute o name apos) (e::es) [] cpos) (Jt X.K T r to t):=by
 intro pins s σ H Q I h;refine wpAny_Call_method_late hbase hfew hline rfl (thn (ho pins s σ H _ I h) fun v s1 zz=>?_);obtain ⟨x,H1,I1,r1,ty,q1⟩:=zz;obtain⟨h1,h2⟩:=FC I1 r1 ty;refine⟨T,id,pa,slot,hty,h1,h2,?_⟩;have hA:=ha cpos pins s1 σ H1 _ I1 q1;rw[hs] at hA ⊢;refine Calls.callWith_builtin (by show (false||(backTo cpos (starEach es X.env)).any (·.1))=false;rw[hplain] <;> rfl) (Calls.evalArgs_plain ?_);exact thn hA fun us s2 ⟨vs,H2,I2,r2,q2⟩=>hm pins s2 σ H2 x vs v us Q I2 r1 r2 q2
end
noncomputable def Jl (X:Cx)(id:String)(r:V->List V->Hp->VK->Prop):Prop :=
 ∀(pins:List (Addr×Obj)) (s:Shared) (σ:St) (H:Hp) (x:V) (xs:List V) (v:Value) (us:List Value) (Q:VK),cQ X pins σ H s->dR x v->cT xs us->r x xs H Q →
  wpAny (model X.prog X.w) X.A (call (.builtin id) (v::us)) (EP X pins σ Q) X.xe s
theorem cT.one:∀{x:V}{us:List Value},cT [x] us->∃u,us=[u]/\dR x u:=by
 intro x us h;cases h with
 |cons r q=>cases q; exact ⟨_,rfl,r⟩
theorem cT.two:∀{x y:V}{us:List Value},cT [x,y] us->∃u v,us=[u,v]/\dR x u/\dR y v:=by
 intro x y us h;cases h with
 |cons r q=>
  cases q with
  |cons q z=>cases z; exact ⟨_,_,rfl,r,q⟩
theorem cT.rep {xs:List V}{us:List Value}(h:cT xs us):∀k:Nat,cT (aI k xs).flatten (aI k us).flatten
 |0=>.nil
 | k+1=>by
  rw[bC,bC,bO,bO];exact cT.append h (cT.rep h k)
theorem tD (its:List Value):∀(k:Nat) (acc:List Value),
  List.foldl (fun x1 x2=>x1++x2) acc.toArray (aI k its.toArray)=(acc++(aI k its).flatten).toArray
 |0,acc=>by simp
 | k+1,acc=>by
  have e:acc.toArray++its.toArray=(acc++its).toArray:=by simp
  have e2:(acc++its)++(aI k its).flatten=acc++(aI (k+1) its).flatten:=by
   rw[bC,bO,ba]
  rw[<-e2,<-tD its k (acc++its),<-e,bC,List.foldl_cons]
section
variable {X:Cx}{pins:List (Addr×Obj)}{σ:St}{H:Hp}{s:Shared}{l b:Addr}{xs ys zs:List V}
theorem cQ.lset {its its':List Value}{n:Nat}{f:Array Value->Array Value}{t':Nat}(I:cQ X pins σ H s)(hH:H l=some (.lst xs))
  (e:s.heap.get? l=some { cls:=.type "list", data:=.seq its.toArray n }) (hf:f its.toArray=its'.toArray) (hv:cT ys its') (hz:ys.length<=sizeLine) :
  cQ X pins σ (dY H l (.lst ys)) { s with heap:=s.heap.update l (Obj.mapSeq f),toks:=t' }:=by
 have q:=PySem.IsL.update e f;rw[hf] at q;refine I.write (x:=l) (e:=l) (by rw[hH];exact trivial) (.inl rfl) (fun b' u hb hu=>(Heap.get?_update_other s.heap (Obj.mapSeq f) (Ne.symm hb)).trans hu) ⟨_,q⟩ ?_;exact⟨hz,its',_,hv,q⟩
theorem cQ.lnew {its:List Value}{t':Nat}(I:cQ X pins σ H s)(hv:cT ys its)(hz:ys.length<=sizeLine) :
  cQ X pins σ (dY H s.heap.objs.size (.lst ys)) { s with heap:=s.heap.push { cls:=.type "list", data:=.seq its.toArray },toks:=t' } :=
 I.laid (fun _ _ q=>ae _ q) (aB _) ⟨hz,its,0,hv,aG _ rfl⟩
theorem cQ.fresh (I:cQ X pins σ H s):H s.heap.objs.size=none:=I.hok.fresh (aB _)
theorem cQ.lstM (I:cQ X pins σ H s)(hH:H l=some (.lst xs)):xs.length<=sizeLine/\∃(its:List Value) (n:Nat),cT xs its/\xs.length=its.length/\s.heap.get? l=some { cls:=.type "list", data:=.seq its.toArray n }:=by
 obtain⟨z,its,n,r,e⟩:=I.hok l _ hH;exact⟨z,its,n,r,r.length,e⟩
theorem wA {n:Nat}(h:n<=sizeLine):Builtin.List.listTooLong n=false:=by
 unfold Builtin.List.listTooLong;exact decide_eq_false ⋯
end
section
variable {X:Cx}
noncomputable def DH:V->List V->Hp->VK->Prop:=fun x vs H Q=>∃l xs y,x=.ref l/\vs=[y]/\H l=some (.lst xs)/\xs.length<sizeLine/\Q .non (dY H l (.lst (xs++[y])))
theorem mt_append:Jl X "list.append" DH:=by
 intro pins s σ H x vs v us Q I rx rv h;obtain⟨l,xs,y,rfl,rfl,hH,hz,q⟩:=h;cases rx;obtain⟨u,rfl,ru⟩:=rv.one;obtain⟨z,its,n,r,hl,e⟩:=I.lstM hH;refine call_meets F.slot_list_append ⟨_,e,rfl⟩ F.entry_list_append (F.args_list_append_2 _ _) (PySem.list_append l its.toArray n u (by rw[aE];omega)) ⟨e,?_⟩;refine⟨.non,_,I.lset (its':=its++[u]) hH e (by simp) (r.append (.cons ru .nil)) ?_,rfl,q⟩;rw[aw,aO];omega
noncomputable def DF:V->List V->Hp->VK->Prop:=fun x vs H Q=>∃l b xs zs,x=.ref l/\vs=[.ref b]/\H l=some (.lst xs)/\H b=some (.lst zs)/\xs.length+zs.length<=sizeLine/\Q .non (dY H l (.lst (xs++zs)))
theorem mt_extend:Jl X "list.extend" DF:=by
 intro pins s σ H x vs v us Q I rx rv h;obtain⟨l,b,xs,zs,rfl,rfl,hH,hB,hz,q⟩:=h;cases rx;obtain⟨u,rfl,ru⟩:=rv.one;cases ru;obtain⟨z,its,n,r,hl,e⟩:=I.lstM hH;obtain⟨z2,its2,n2,r2,hl2,e2⟩:=I.lstM hB;have hsz:its.toArray.size+its2.toArray.size<=sizeLine:=by rw[aE,aE];omega
 have hlong:¬(!its.toArray.isEmpty&&Builtin.List.listTooLong (its.toArray.size+its2.toArray.size))=true:=by
  rw[wA hsz,Bool.and_false];exact Bool.false_ne_true
 refine call_meets F.slot_list_extend ⟨_,e,rfl⟩ F.entry_list_extend (F.args_list_extend_2 _ _)
  (AutoSeq1.list_extend_list_list_0 l its.toArray n b its2.toArray n2 hlong (by rw[aE];omega) ⋯) ⟨e,e2,?_⟩
 refine⟨.non,_,I.lset (its':=its++its2) hH e (by simp) (r.append r2) ?_,rfl,q⟩;rw[aw];omega
noncomputable def IS:R2:=fun x y H Q=>∃l k xs,x=.ref l/\y=.int k/\H l=some (.lst xs)/\-(2 ^ 63)<=k/\k<2 ^ 63/\xs.length*k.toNat<=sizeLine ∧
 ∀p,H p=none->Q (.ref p) (dY H p (.lst (aI k.toNat xs).flatten))
theorem Ee {α:Type}(xs:List α)(k:Nat):(aI k xs).flatten.length=k*xs.length:=by
 induction k with
 |zero=>simp
 |succ k ih=>rw[bC,bO,aw,ih,Nat.succ_mul,Nat.add_comm]
theorem op_rep:OpR X (binaryOp .Mult) IS:=by
 intro pins s σ H x y v u Q I rx ry h;obtain⟨l,k,xs,rfl,rfl,hH,h1,h2,hz,q⟩:=h;cases rx;obtain⟨t,rfl⟩:=ry;obtain⟨z,its,n,r,hl,e⟩:=I.lstM hH;have hlen:its.toArray.size*k.toNat<=sizeLine:=by rw[aE,<-hl];exact hz
 have hcap:¬its.toArray.size*k.toNat>(2 ^ 63-1)/8:=by
  have:(sizeLine:Nat)<=(2 ^ 63-1)/8:=by decide
  omega
 have hfit:¬(!Builtin.List.listFitsIndex k)=true:=by
  rw[fitsIndex_both h1 h2];exact Bool.false_ne_true
 have hlong:¬Builtin.List.listTooLong (its.toArray.size*k.toNat)=true:=by
  rw[wA hlen];exact Bool.false_ne_true
 have hnew:List.foldl (fun x1 x2=>x1++x2) #[] (aI (if its.toArray.isEmpty=true then 0 else k.toNat) its.toArray)=(aI k.toNat its).flatten.toArray:=by
  have f0:∀m:Nat,List.foldl (fun x1 x2=>x1++x2) #[] (aI m its.toArray)=(aI m its).flatten.toArray:=fun m=>by
   have:=tD its m [];rw[bM] at this;exact this
  rw[f0];cases its with
  |nil=>simp
  |cons a r'=>rw[if_neg (by simp)]
 refine wpAny_binaryOp_repeat_ref (T := "list") (U := "int") (by decide) ⟨_,e,rfl⟩ (fun s'=>typeIs_int s' k t) noFill_list_mul F.fills_int_mul F.slot_int_rmul repeat_list F.slot_int_index.lookup
  (call_meets F.slot_int_rmul (typeIs_int s k t) F.entry_int_rmul (F.args_int_rmul_2 _ _) (int___rmul___int_list k t l its.toArray n)
   ⟨e,rfl,⟨_,e,rfl⟩,call_meets F.slot_list_mul ⟨_,e,rfl⟩ F.entry_list_mul (F.args_list_mul_2 _ _) (AutoListH.list___mul___list_int_3 l its.toArray n k t hfit hcap hlong) ⟨e,?_⟩⟩)
 rw[hnew];exact⟨.ref _,_,I.lnew (t':=s.toks) (r.rep k.toNat) (by rw[Ee,Nat.mul_comm];exact hz),rfl,q _ I.fresh⟩
end
section
variable {prog:Program}{w:World}{A:Around}{E:Value->Shared->Prop}{s:Shared}
set_option maxRecDepth 100000 in
end
section
variable {X:Cx}
end
end L2
namespace Att
open PySem PySem.W PySem.Calls PyProof.Rows
theorem qg {P:Params}{h:Heap}:∀(ns:List Int) (vs:List Value),WellAll P h vs (ns.map WData.int)->IntsAre vs ns:=by
 intro ns;induction ns with
 |nil =>
  intro vs w;rw[bL] at w;cases w;exact .nil
 |cons n ns ih =>
  intro vs w;rw[aA] at w;cases w with
  |cons a b =>
   cases a;exact .cons _ _ (ih _ b)
theorem Af {l:OpenLaw}{n:Nat}(hn:l.most=some n){P:Params}{h:Heap}{args:List WData}{vals:List Value}
  (hpre:l.row.toRowW.claim.pre args=true) (hwl:WellAll P h vals args) :
  ∃a vs ns,vals=[Value.ref a]/\args=[WData.list (ns.map WData.int)]/\h.get? a=some { cls:=.type "list", data:=.seq vs.toArray }/\IntsAre vs ns/\ns.length<=n:=by
 have hsh:WShape.hasAll [] args [.list .int]=true:=(pre_splitW hpre).1;have hc:l.pre.holds [] { args:=args }=true:=(pre_splitW hpre).2;obtain⟨d,r,rfl,h1,h2⟩:=hasAllW_cons hsh
 obtain rfl:=hasAllW_nil h2
 obtain⟨xs,rfl,h3⟩:=hasW_list h1;obtain⟨ns,rfl⟩:=items_int h3;have hlen:ns.length<=n:=by
  unfold OpenLaw.pre at hc;have h4:(WTm.not (.lt (.lit (.int (n:Int))) (.len (.arg 0)))).holds [] { args:=[.list (ns.map .int)] }=true:=by
   have h4:=(holds_andW hc).1;rw[hn] at h4;exact h4
  have h5:=condW_of h4 (w_not (w_lt w_lit (w_len_list (w_arg rfl))));rw[af] at h5;refine Nat.le_of_not_lt fun q=>?_;have q':(n:Int)<((ns.length:Nat):Int):=by omega
  first
   |(rw[decide_eq_true q'] at h5;exact absurd h5 (by decide))
   |(simp at h5;omega)
 cases hwl with
 |cons w1 w2 =>
  cases w2;cases w1 with
  |list ho hall=>exact⟨_,_,ns,rfl,rfl,ho,qg ns _ hall,hlen⟩
theorem An (l:OpenLaw)(args:List WData):l.row.toRowW.claim.post args (.bool true) args=true :=
 postW_of (r:=l.row.toRowW) (X:=(true==true))
  (show WShape.has [] (.bool true) .bool=true by first|rfl|decide|simp[WShape.has,WShape.arms,WShape.armsAll])
  (show (WTm.eq .res (.lit (.bool true))).value [] { args:=args,res:=some (.bool true),after:=args }=some (.bool (true==true)) from w_eq_bool (w_res rfl) w_lit) rfl
theorem attach_call {l:OpenLaw}{n:Nat}{q:Program}{loose:List Str}{XP:(Str->Option Value)->Heap->Prop}{YP:World->Heap->Prop}{d:DefRec}
  (hn:l.most=some n) (hdf:d.params.defaults=[])
  (call:∀(w:World) (s₀ s₁:Shared) (mg mb:Str->Option Value) (fa:Addr) (o:Obj) (pm cd doc:Value) (a:Addr) (vs:List Value) (ns:List Int),
   Ground q loose [] XP w s₀ mg mb s₁.heap->YP w s₁.heap →
   s₁.heap.get? fa=some o->o.data=.func (docDef d.name d.params d.body d.scope pm cd doc)->s₁.heap.CodeRec cd d.name->mg d.name=some (.ref fa) →
   s₁.heap.get? a=some { cls:=.type "list", data:=.seq vs.toArray }->IntsAre vs ns->ns.length<=n->s₁.gens=#[] →
   codeAny (model l.prog w) callerA (.call (.ref fa) ⟨[.ref a],[]⟩) (fun r s'=>r=.ok (.ret (.bool true))/\OldK s₁.heap s'.heap/\s'.os=s₁.os/\AllBare s'.gens) s₁) :
  WalkO q loose XP YP l.row.toRowW d [] (fun f vs=>PySem.call f vs):=by
 intro w s₀ s₁ mg mb G Y fa o pm cd doc dV kV ho hd hcd hD hmg hg args vals as hpre hlay hrd hwl hlo
 obtain rfl:dV=.none:=Dflts.none hD hdf
 obtain rfl:kV=.none:=Dflts.noKw hD
 obtain⟨a,vs,ns,rfl,rfl,hobj,hints,hlen⟩:=Af hn hpre hwl;refine enter_call (codeAny_mono (call w s₀ s₁ mg mb fa o pm cd doc a vs ns G Y ho (fd_plain hd) hcd hmg hobj hints hlen hg) fun r s' hq=>?_);obtain⟨rfl,h2,h3,h4⟩:=hq;exact⟨.inl ⟨.bool true,.bool true,[],rfl,fun _=>rfl,.bool true,An l _,fun _=>⟨List.Pairwise.nil,fun _ hm=>(nomatch hm)⟩⟩,h2,h3,h4⟩
section
variable {prog:Program}{w:World}{A:Around}{E:Value->Shared->Prop}{s:Shared}{K:Frag}
end
end Att
namespace L2
open PySem PySem.Spec PyProof.Rows
theorem zX:∀{vs:List Value}{ns:List Int},IntsAre vs ns->cT (ns.map V.int) vs:=by
 intro vs ns h;induction h with
 |nil=>exact .nil
 |cons n t _ ih=>exact .cons ⟨t,rfl⟩ ih
def EN (H:Hp):Prop:=∀b,H b=none\/∃o xs,H b=some (.frz o (.lst xs))
theorem B6 {P:Program}{w:World}{K:PySem.W.Frag}{mg mb:Str->Option Value}{CX:Bb}{k:Nat}{fa a:Addr}{fd:FuncData}{x:Str}{sp:Sp}{s₁:Shared}{vs:List Value}{ns:List Int}
  (KX:K.In s₁.heap) (hns:s₁.heap.Ns mainGlobals mg) (hb:s₁.heap.Ns builtinsNs mb) (hbb:∀x:Str,x ≠ "__name__" ->mb x=bootBuiltins x) (hlim:s₁.heap.NoLimit) (hg:s₁.gens=#[])
  (ha:s₁.heap.get? a=some { cls:=.type "list", data:=.seq vs.toArray }) (hi:IntsAre vs ns) (hl:ns.length<=sizeLine) (hr:Room k callerA)
  (F:∀base:Heap,K.In base->base.Ns mainGlobals mg->FnOk P w K mg base CX k fa fd [x] sp) (hbind:∀(s:Shared) (u:Value),BindsTo s fd ⟨[u],[]⟩ [(x,u)])
  (hsp:∀H:Hp,EN H->jR K H a (ns.map V.int)->sp [.ref a] H (fun v _=>v=.bl true) fun _ _ _=>False)
  (hCX:∀H e s',CX [] H s₁ (fun _ _ _=>False) e s'->False) :
  codeAny (model P w) callerA (.call (.ref fa) ⟨[.ref a],[]⟩) (fun r s'=>r=.ok (.ret (.bool true))/\OldK s₁.heap s'.heap/\s'.os=s₁.os/\AllBare s'.gens) s₁:=by
 have rv:=zX hi;have lenV:=hi.length;have core:∀H:Hp,EN H->jR K H a (ns.map V.int)->sa P w H s₁.heap->(∀b,H b≠none->b=a)->(H a≠none->K.lookup a=none) →
   codeAny (model P w) callerA (.call (.ref fa) ⟨[.ref a],[]⟩) (fun r s'=>r=.ok (.ret (.bool true))/\OldK s₁.heap s'.heap/\s'.os=s₁.os/\AllBare s'.gens) s₁:=by
  intro H hO hS hok hA hK;have base_of:∀{b:Addr}{o:Obj},s₁.heap.get? b=some o->H b=none->(uV s₁.heap H).get? b=some o:=fun e n=>Cf e n;have noA:∀{b:Addr}{o:Obj}{es:Array DictEntry}{ep:Nat},s₁.heap.get? b=some o->o.data=.dict es ep->H b=none:=fun {b o es ep} e d=>by
   cases q:H b with
   |none=>rfl
   |some u =>
    have e':b=a:=hA b (by rw[q];simp);subst e';rw[ha] at e;cases e;have d':Data.seq vs.toArray _=Data.dict es ep:=d;cases d'
  have nsK:∀{b:Addr}{m:Str->Option Value},s₁.heap.Ns b m->(uV s₁.heap H).Ns b m:=fun {b m} ⟨o,es,ep,e,d,r⟩=>⟨o,es,ep,base_of e (noA e d),d,r⟩;have hKb:K.In (uV s₁.heap H):=fun b o e=>base_of (KX b o e) (by
   cases q:H b with
   |none=>rfl
   |some u =>
    have e':b=a:=hA b (by rw[q];simp);subst e';rw[hK (by rw[q];simp)] at e;cases e)
  have hM:Mod K mg (uV s₁.heap H):=⟨hKb,nsK hns,⟨mb,nsK hb,hbb⟩,let ⟨mc,h1,h2⟩:=hlim;⟨mc,nsK h1,h2⟩⟩;have e0:EO P w K mg (uV s₁.heap H) callerA [] s₁ H:=⟨rfl,hM,fun b o e=>D4 e,Nat.le_of_eq (AM _ _),trivial,fun b hb=>absurd (show b∈([]:List Addr) from hb) (by simp),hok,.of_eq hg⟩;refine codeAny_mono ((F _ hKb (nsK hns)).run callerA [] s₁ H ⟨[.ref a],[]⟩ [.ref a] [.ref a] _ _ hr e0 (hbind s₁ (.ref a)) (.cons rfl .nil) (hsp H hO hS)) fun r s' h=>?_;cases r with
  |error e=>exact (hCX H e s' h).elim
  |ok fl =>
   cases fl with
   |next=>exact False.elim h
   |brk=>exact False.elim h
   |cont=>exact False.elim h
   |ret u =>
    obtain⟨v,H',os,bare,un,hok',r',q⟩:=h;have q':v=.bl true:=q;subst q'
    obtain rfl:u=Value.bool true:=r'
    refine⟨rfl,OldK.of_keep fun b o e=>?_,os,bare⟩;cases q:H b with
    |none=>exact un.keep b o e q (by intro z;exact absurd (show b∈([]:List Addr) from z) (by simp)) (by simp)
    |some u =>
     rcases hO b with z|⟨ob,xs,z⟩
     ·rw[q] at z;cases z
     ·have z2:=un.frzs b ob _ z;obtain⟨e1,_⟩:=hok b _ z;obtain⟨e2,_⟩:=hok' b _ z2;rw[e] at e1;cases e1;exact e2
 cases hk:K.lookup a with
 |some o =>
  have e:=KX a o hk;rw[ha] at e;cases e;refine core (fun _=>none) (fun _=>.inl rfl) (.inr ⟨_,vs.toArray,_,hk,rfl,rfl,rfl,by rw[aE,lenV];exact hl,by simpa using rv⟩) (fun b u z=>by have z':(none:Option HO)=some u:=z;cases z') (fun b z=>absurd rfl z) fun z=>absurd rfl z
 |none =>
  refine core (fun b=>if b=a then some (.frz { cls:=.type "list", data:=.seq vs.toArray } (.lst (ns.map V.int))) else none) (fun b=>?_) (.inl (.inr ⟨{ cls:=.type "list", data:=.seq vs.toArray },if_pos rfl⟩)) (fun b u z=>?_) (fun b z=>?_) fun _=>hk
  ·by_cases hb:b=a
   ·exact .inr ⟨_,_,if_pos hb⟩
   ·exact .inl (if_neg hb)
  ·by_cases hb:b=a
   ·have z':=(if_pos hb).symm.trans z;cases z';subst hb;exact⟨ha,by rw[af];exact hl,vs,_,rv,ha⟩
   ·have z':=(if_neg hb).symm.trans z;cases z'
  ·by_cases hb:b=a
   ·exact hb
   ·exact absurd (if_neg hb) z
theorem Df {l:PySem.W.OpenLaw}{n k:Nat}{q:Program}{loose:List Str}{XP:(Str->Option Value)->Heap->Prop}{YP:World->Heap->Prop}{d:DefRec}{K:Params->PySem.W.Frag}{CX:World->Bb}{sp:World->Sp}{x:Str}
  (hn:l.most=some n) (hn2:n<=sizeLine) (hdf:d.params.defaults=[]) (hr:Room k callerA)
  (hY:∀(w:World) (h:Heap),YP w h->(K w.params).In h)
  (F:∀(w:World) (mg:Str->Option Value) (fa:Addr) (h:Heap),(K w.params).In h->h.Ns mainGlobals mg->mg d.name=some (.ref fa) →
   ∃fd:FuncData,(∀(s:Shared) (u:Value),BindsTo s fd ⟨[u],[]⟩ [(x,u)]) ∧
    ∀base:Heap,(K w.params).In base->base.Ns mainGlobals mg->FnOk l.prog w (K w.params) mg base (CX w) k fa fd [x] (sp w))
  (hsp:∀(w:World) (H:Hp) (a:Addr) (ns:List Int),ns.length<=n->EN H->jR (K w.params) H a (ns.map V.int)->sp w [.ref a] H (fun v _=>v=.bl true) fun _ _ _=>False)
  (hCX:∀(w:World) (H:Hp) (s:Shared) (e:Value) (s':Shared),CX w [] H s (fun _ _ _=>False) e s'->False) :
  PySem.W.WalkO q loose XP YP l.row.toRowW d [] (fun f vs=>PySem.call f vs):=by
 refine Att.attach_call hn hdf fun w s₀ s₁ mg mb fa o pm cd doc a vs ns G Y ho hd hcd hmg hobj hints hlen hg=>?_;have KX:=hY w _ Y;obtain⟨fd,hb,hF⟩:=F w mg fa _ KX G.T.g hmg;exact B6 KX G.T.g G.T.b G.T.builtins G.T.nolimit hg hobj hints (aS hlen hn2) hr hF hb (fun H hO hS=>hsp w H a ns hlen hO hS) fun H e s'=>hCX w H s₁ e s'
theorem walk_ofK {l:PySem.W.OpenLaw}{n k:Nat}{q:Program}{loose:List Str}{XP:(Str->Option Value)->Heap->Prop}{YP:World->Heap->Prop}{d:DefRec}{K:Params->PySem.W.Frag}{CX:Bb}{sp:PySem.W.Frag->Sp}{x:Str}
  (hn:l.most=some n) (hn2:n<=sizeLine) (hdf:d.params.defaults=[]) (hr:Room k callerA)
  (hY:∀(w:World) (h:Heap),YP w h->(K w.params).In h)
  (F:∀(w:World) (mg:Str->Option Value) (fa:Addr) (h:Heap),(K w.params).In h->h.Ns mainGlobals mg->mg d.name=some (.ref fa) →
   ∃fd:FuncData,(∀(s:Shared) (u:Value),BindsTo s fd ⟨[u],[]⟩ [(x,u)]) ∧
    ∀base:Heap,(K w.params).In base->base.Ns mainGlobals mg->FnOk l.prog w (K w.params) mg base CX k fa fd [x] (sp (K w.params)))
  (hsp:∀(K:PySem.W.Frag) (H:Hp) (a:Addr) (ns:List Int),ns.length<=n->EN H->jR K H a (ns.map V.int)->sp K [.ref a] H (fun v _=>v=.bl true) fun _ _ _=>False)
  (hCX:∀(H:Hp) (s:Shared) (e:Value) (s':Shared),CX [] H s (fun _ _ _=>False) e s'->False) :
  PySem.W.WalkO q loose XP YP l.row.toRowW d [] (fun f vs=>PySem.call f vs) :=
 Df (K:=K) (CX:=fun _=>CX) (sp:=fun w=>sp (K w.params)) hn hn2 hdf hr hY F (fun w H a ns h1 h2 h3=>hsp (K w.params) H a ns h1 h2 h3) fun _ H s e s'=>hCX H s e s'
noncomputable def defArgs (s:Stmt):Arguments:=match s with
 |.FunctionDef _ a _ _ _ _ _ _ _ _=>a
 |_=>{ posonlyargs:=[],args:=[],vararg:=none,kwonlyargs:=[],kw_defaults:=[],kwarg:=none,defaults:=[] }
noncomputable def defBody (s:Stmt):List Stmt:=match s with
 |.FunctionDef _ _ b _ _ _ _ _ _ _=>b
 |_=>[]
noncomputable def defScope (s:Stmt):Scope:=match s with
 |.FunctionDef _ _ _ _ _ _ sc _ _ _=>sc
 |_=>{ kind:=.function,names:=[],isGenerator:=false,isCoroutine:=false }
noncomputable abbrev CX0:Bb:=fun _ _ _ _ _ _=>False
noncomputable abbrev E0:XK:=fun _ _ _=>False
theorem pass0 {X:Cx}:yV CX0 X E0:=fun _ _ _ _ _ _ _ h=>h.elim
structure Fun (K:PySem.W.Frag)(x qual:Str)(st:Stmt)(f:Addr)(fd:FuncData):Prop where
 ex:∃(oc:Value) (od:Option Addr) (kV doc pm:Value) (an:Option Addr) (cdv ct:Value) (osl:Array (Option Value)),
  fd=PySem.W.fnOf x qual (defArgs st) (defBody st) (defScope st) .none kV doc pm an cdv ct/\K.lookup f=some ⟨oc,od,.func fd,osl⟩/\PySem.W.codeIn K cdv qual=true
 kp:PySem.W.keepIn K (.ref f)=true
section
variable {P:Program}{w:World}{K:PySem.W.Frag}{mg:Str->Option Value}{base:Heap}
theorem Fun.ok {x qual:Str}{st:Stmt}{f:Addr}{fd:FuncData}{N ps:List Str}{k:Nat}{sp:Sp}(F:Fun K x qual st f fd)(S:FnScope N ps (defScope st))(len:∀vs H Q E,sp vs H Q E->vs.length=ps.length)
  (hbody:∀(cdv:Value) (A:Around) (outer:List Env) (s:Shared) (H:Hp) (vs:List V) (Q:VK) (E:XK),Room k (A.deeper (envOfC qual (defScope st) s.heap.objs.size f cdv))->sp vs H Q E →
   ∃t,PSs (cxOf CX0 P w K mg base N qual (defScope st) f cdv A outer s H E).nox (defBody st) t/\t { nx:=fun _ H'=>Q .non H',rt:=Q } (start N vs) H):FnOk P w K mg base CX0 (k+1) f fd ps sp:=by
 obtain⟨oc,od,kV,doc,pm,an,cdv,ct,osl,rfl,lk,hcd⟩:=F.ex;refine HZ lk hcd S len fun A outer s H vs Q E hr hsp=>?_;obtain⟨t,h,q⟩:=hbody cdv A outer s H vs Q E hr hsp;exact⟨t,h.nox,q⟩
theorem Fun.binds {x qual:Str}{st:Stmt}{f:Addr}{fd:FuncData}{ps:List Str}(F:Fun K x qual st f fd)
  (h:∀(kV doc pm:Value) (an:Option Addr) (cdv ct:Value) (us:List Value),us.length=ps.length->bindArgs (PySem.W.fnOf x qual (defArgs st) (defBody st) (defScope st) .none kV doc pm an cdv ct) ⟨us,[]⟩=pure (ps.zip us)):Binds K fd ps []:=by
 obtain⟨oc,od,kV,doc,pm,an,cdv,ct,osl,rfl,lk,hcd⟩:=F.ex;exact .all (h kV doc pm an cdv ct)
theorem fun_mk {x qual:Str}{st:Stmt}{f:Addr}{oc:Value}{od an:Option Addr}{osl:Array (Option Value)}{kV doc pm cdv ct:Value}(l:K.lookup f=some ⟨oc,od,.func (PySem.W.fnOf x qual (defArgs st) (defBody st) (defScope st) .none kV doc pm an cdv ct),osl⟩)
  (c:PySem.W.codeIn K cdv qual=true) (k:PySem.W.keepIn K (.ref f)=true):Fun K x qual st f (PySem.W.fnOf x qual (defArgs st) (defBody st) (defScope st) .none kV doc pm an cdv ct):=⟨⟨oc,od,kV,doc,pm,an,cdv,ct,osl,rfl,l,c⟩,k⟩
end
section
variable {X:Cx}
end
def de (H H':Hp):Prop:=∀b o,H b=some o->H' b=some o
theorem de.refl (H:Hp):de H H:=fun _ _ h=>h
theorem de.trans {H H1 H2:Hp}(a:de H H1)(b:de H1 H2):de H H2:=fun c o h=>b c o (a c o h)
theorem de.free {H H':Hp}(e:de H H'){l:Addr}(h:H' l=Option.none):H l=Option.none:=by
 cases q:H l with
 |none=>rfl
 |some o =>
  rw[e l o q] at h;cases h
theorem de.seq {K:PySem.W.Frag}{H H':Hp}{a:Addr}{xs:List V}(e:de H H')(h:jR K H a xs):jR K H' a xs:=by
 rcases h with (h|⟨o,h⟩)|h
 ·exact .inl (.inl (e _ _ h))
 ·exact .inl (.inr ⟨o,e _ _ h⟩)
 ·exact .inr h
open PySem PyProof.Rows
noncomputable def lg (env:Env):List (Str×NameKind)->List (Str×Addr)->List (Str×Addr)
 |[],acc=>acc
 |(y,k)::r,acc=>if k==.free then (match env.cells.lookup y with|some c=>lg env r ((y,c)::acc)|none=>lg env r acc) else lg env r acc
theorem mT {scope:Scope}{env:Env}(h:∀y,(y,NameKind.free)∈scope.names->∃c,env.cells.lookup y=some c):closureFor scope env=pure (lg env scope.names []):=by
 have key:∀(names:List (Str×NameKind)) (acc:List (Str×Addr)),(∀y,(y,NameKind.free)∈names->∃c,env.cells.lookup y=some c) →
   (forIn names acc fun x r=>if (x.2==NameKind.free)=true then (do let a <-cellOf env x.1;pure (ForInStep.yield ((x.1,a)::r))) else pure (ForInStep.yield r):Sem (List (Str×Addr)))=pure (lg env names acc):=by
  intro names;induction names with
  |nil=>intro acc _;rfl
  |cons x r ih =>
   intro acc hh;obtain⟨y,k⟩:=x;have hr:=fun z hz=>hh z (aH _ hz);rw[bV];unfold lg;by_cases hk:(k==NameKind.free)=true
   ·have hk':k=.free:=by simpa using hk
    subst hk';obtain⟨c,hc⟩:=hh y aQ;have hcell:cellOf env y=pure c:=by unfold cellOf;rw[hc]
    simp only[hcell,hc];exact ih _ hr
   ·have hk':(k==NameKind.free)=false:=by simpa using hk
    simp only[hk'];exact ih _ hr
 unfold closureFor;have:=key scope.names [] h;refine Eq.trans ?_ (congrArg (fun m:Sem _=>m>>=fun r=>pure r) this);rfl
theorem oO {env:Env}{y:Str}{c:Addr}:∀(names:List (Str×NameKind)) (acc:List (Str×Addr)),(∀c,acc.lookup y=some c->env.cells.lookup y=some c)->(lg env names acc).lookup y=some c->env.cells.lookup y=some c
 |[],acc,h,e=>h c e
 | (z,k)::r,acc,h,e=>by
  unfold lg at e;split at e
  ·split at e
   ·rename_i c' hc;refine oO r _ (fun d hd=>?_) e;rw[bw] at hd;cases hb:y==z with
    |true=>rw[hb] at hd;rw[beq_iff_eq.mp hb];cases hd;exact hc
    |false=>rw[hb] at hd;exact h d hd
   ·exact oO r _ h e
  ·exact oO r _ h e
theorem mE {env:Env}{y:Str}{c:Addr}:∀(names:List (Str×NameKind)) (acc:List (Str×Addr)),env.cells.lookup y=some c->acc.lookup y=some c->(lg env names acc).lookup y=some c
 |[],acc,_,e=>e
 | (z,k)::r,acc,h,e=>by
  unfold lg;split
  ·split
   ·rename_i c' hc;refine mE r _ h ?_;rw[bw];cases hb:y==z with
    |true=>rw[<-beq_iff_eq.mp hb,h] at hc;cases hc;rfl
    |false=>exact e
   ·exact mE r _ h e
  ·exact mE r _ h e
theorem oP {env:Env}{y:Str}{c:Addr}(h:env.cells.lookup y=some c):∀(names:List (Str×NameKind)) (acc:List (Str×Addr)),(y,NameKind.free)∈names->(lg env names acc).lookup y=some c
 | (z,k)::r,acc,hm=>by
  unfold lg;rcases List.mem_cons.mp hm with e|hm
  ·cases e;simp only[beq_self_eq_true,if_true,h];exact mE r _ h (by rw[bw];simp)
  ·split
   ·split
    ·exact oP h r _ hm
    ·exact oP h r _ hm
   ·exact oP h r _ hm
theorem fQ:∀(names:List (Str×NameKind)) (n:Nat) (acc:List (Str×Addr)),cellsFrom n names acc=cellsFrom n names []++acc
 |[],_,_=>rfl
 | (y,k)::r,n,acc=>by
  unfold cellsFrom;split
  ·rw[fQ r (n+1) ((y,n)::acc),fQ r (n+1) [(y,n)],ba];rfl
  ·exact fQ r n acc
theorem kS {α:Type}{y:Str}:∀(l m:List (Str×α)),(l++m).lookup y=(l.lookup y).or (m.lookup y)
 |[],_=>by simp
 | (z,c)::r,m=>by
  rw[JI,bw,bw];cases y==z with
  |true=>rfl
  |false=>exact kS r m
theorem j8 {y:Str}{c:Addr}:∀(names:List (Str×NameKind)) (n:Nat) (acc:List (Str×Addr)),(y,c)∈cellsFrom n names acc->(y,NameKind.cell)∈names\/(y,c)∈acc
 |[],_,_,h=>.inr h
 | (z,k)::r,n,acc,h=>by
  unfold cellsFrom at h;split at h
  ·rename_i hk;have hk':k=.cell:=by simpa using hk
   subst hk';rcases j8 r _ _ h with q|q
   ·exact .inl (aH _ q)
   ·rcases List.mem_cons.mp q with e|q
    ·cases e;exact .inl aQ
    ·exact .inr q
  ·rcases j8 r _ _ h with q|q
   ·exact .inl (aH _ q)
   ·exact .inr q
theorem BS {M:Model}{A:Around}{E:Value->Shared->Prop}{s:Shared}{scope:Scope}{globals:Addr}{cl:List (Str×Addr)}{qual:Str}{env:Env}{Q:Env->Shared->Prop}
  (hQ:∀h',h'.Ns s.heap.objs.size (fun _=>none)->(∀b o,s.heap.get? b=some o->h'.get? b=some o)->CellsOk h' (s.heap.objs.size+1) (cellsFrom (s.heap.objs.size+1) scope.names [])->s.heap.objs.size<h'.objs.size →
   Q (newEnv scope s.heap.objs.size globals (cellsFrom (s.heap.objs.size+1) scope.names cl) qual none .none (some env) builtinsNs) { s with heap:=h' }) :
  wpAny M A (newFunctionEnv scope globals cl [] qual none .none (some env)) Q E s:=by
 simp only[newFunctionEnv,Option.isSome_some,if_true];refine ab (wpAny_alloc ?_);refine ab (wpAny_layCells _ (fun name kind cells=>by cases hkc:kind==NameKind.cell <;> simp[hkc]) _ _ _ _ ?_);have ok:=cellsFrom_ok scope.names (s.heap.push { cls:=.type "dict", data:=.dict #[] }) (s.heap.objs.size+1) [] ⟨fun _ _ hm=>(nomatch hm),List.Pairwise.nil⟩ (by rw[br];exact aB _);rw[br] at ok;rw[show ({ s with heap:=s.heap.push { cls:=.type "dict", data:=.dict #[] } }:Shared).heap.objs.size=s.heap.objs.size+1 from br ..];refine ab (aq (aq ?_));exact hQ _ ((Heap.Ns.new s.heap (.type "dict")).keeps (pushCells_keeps _ _)) (fun b o e=>pushCells_keeps _ _ b o (ae _ e)) ok (Heap.Ns.lt ((Heap.Ns.new s.heap (.type "dict")).keeps (pushCells_keeps scope.names _)))
structure CompSc (osc:Scope)(oN:List Str)(scope:Scope)(own:List Str)(ix:List Nat)(caps:List Str):Prop where
 kind:scope.kind=.function
 nd:(own++caps).Nodup
 loc:∀x∈own,scope.names.lookup x=some .local\/scope.names.lookup x=some .cell
 ixs:ix.map (fun j=>oN[j]?)=caps.map some
 frees:∀p∈scope.names,p.2=.free->(osc.names.lookup p.1=some .cell\/osc.names.lookup p.1=some .free)
 caps:∀y∈caps,(y,NameKind.free)∈scope.names
 uniq:∀p∈scope.names,scope.names.lookup p.1=some p.2
noncomputable def kB (X:Cx)(scope:Scope)(C:Addr):Env :=
 { newEnv scope C X.env.globals (cellsFrom (C+1) scope.names (lg X.env scope.names [])) X.env.qual none .none (some X.env) builtinsNs with scope:=relabel scope X.env }
noncomputable def compCx (X:Cx)(scope:Scope)(N':List Str)(s₀:Shared)(H₀:Hp)(ex:List Addr)(pn:List (Addr×Obj)):Cx :=
 { X with N:=N',s₀:=s₀,H₀:=H₀,env:=kB X scope s₀.heap.objs.size,outer:=X.stack,stack:=X.stack,ex:=ex,fn:=fun x=>scope.names.lookup x==some .cell,pn:=pn,xe:=fun _ _=>False }
noncomputable def capt (n:Nat)(ix:List Nat)(σ:St):St:=aI n none++ix.map (fun j=>(σ[j]?).join)
theorem lookup_relabel {env:Env}{scope:Scope}{y:Str} :
  (relabel scope env).names.lookup y=(scope.names.lookup y).map fun k=>if (k==NameKind.free&&env.scope.kind==.function&&env.kindOf y==some .cell)=true then .cell else k:=by
 unfold relabel;dsimp only;generalize scope.names=names;induction names with
 |nil=>rfl
 |cons x r ih =>
  obtain⟨n,k⟩:=x;rw[aA];dsimp only;by_cases hb:(y==n)=true
  ·have e:y=n:=beq_iff_eq.mp hb;subst e;by_cases hc:(k==NameKind.free&&env.scope.kind==.function&&env.kindOf y==some .cell)=true
   ·rw[if_pos hc,bw,bw];simp only[beq_self_eq_true,av,if_pos hc]
   ·rw[if_neg hc,bw,bw];simp only[beq_self_eq_true,av,if_neg hc]
  ·have hb':(y==n)=false:=by simpa using hb
   rw[bw (a:=y) (b:=(n,k).2),hb'];by_cases hc:(k==NameKind.free&&env.scope.kind==.function&&env.kindOf n==some .cell)=true
   ·rw[if_pos hc,bw,hb'];exact ih
   ·rw[if_neg hc,bw,hb'];exact ih
section
variable {X:Cx}{pins:List (Addr×Obj)}{σ:St}{H:Hp}{s:Shared}{scope:Scope}{own caps:List Str}{ix:List Nat}
theorem tP {C:Addr}{x:Str}(S:CompSc X.env.scope X.N scope own ix caps)(h:scope.names.lookup x=some .cell):∃c,(kB X scope C).cells.lookup x=some c/\(x,c)∈cellsFrom (C+1) scope.names []:=by
 have q:=PySem.W.cellsFrom_some scope.names (C+1) [] (.inl h);obtain⟨c,hc⟩:=Option.isSome_iff_exists.mp q;refine⟨c,?_,mem_of_lookup hc⟩;show (cellsFrom (C+1) scope.names (lg X.env scope.names [])).lookup x=some c;rw[fQ,kS,hc];rfl
theorem tO {C:Addr}{x:Str}(S:CompSc X.env.scope X.N scope own ix caps)(h:scope.names.lookup x=some .free)(hX:∃c,X.env.cells.lookup x=some c):(kB X scope C).cells.lookup x=X.env.cells.lookup x:=by
 obtain⟨c,hc⟩:=hX;show (cellsFrom (C+1) scope.names (lg X.env scope.names [])).lookup x=_;rw[fQ,kS];have hn:(cellsFrom (C+1) scope.names []).lookup x=none:=by
  cases e:(cellsFrom (C+1) scope.names []).lookup x with
  |none=>rfl
  |some d =>
   rcases j8 _ _ _ (mem_of_lookup e) with q|q
   ·have:=S.uniq _ q;rw[h] at this;cases this
   ·cases q
 rw[hn,oP hc _ _ (mem_of_lookup h),hc];rfl
theorem iG {C:Addr}{x:Str}{c:Addr}(h:(kB X scope C).cells.lookup x=some c):(x,c)∈cellsFrom (C+1) scope.names []\/X.env.cells.lookup x=some c:=by
 have h':(cellsFrom (C+1) scope.names (lg X.env scope.names [])).lookup x=some c:=h;rw[fQ,kS] at h';cases e:(cellsFrom (C+1) scope.names []).lookup x with
 |some d =>
  rw[e] at h';cases h';exact .inl (mem_of_lookup e)
 |none =>
  rw[e] at h';exact .inr (oO _ [] (fun _ z=>by cases z) h')
theorem CN {fp:List Addr}{h':Heap}(S:CompSc X.env.scope X.N scope own ix caps)(I:cQ X pins σ H s)(hf:∀b∈fp,sd X pins H b)(hlt:∀b∈fp,b<s.heap.objs.size)
  (hn:h'.Ns s.heap.objs.size (fun _=>none)) (hk:∀b o,s.heap.get? b=some o->h'.get? b=some o) (hc:CellsOk h' (s.heap.objs.size+1) (cellsFrom (s.heap.objs.size+1) scope.names [])) :
  cQ (compCx X scope (own++caps) s H fp (X.pn++pins)) [] (capt own.length ix σ) H { s with heap:=h' }:=by
 have lenS:ix.length=caps.length:=by
  have:=congrArg List.length S.ixs;simpa using this
 have oldc:∀x c,X.env.cells.lookup x=some c->c<s.heap.objs.size:=fun x c e=>by
  obtain⟨v,q⟩:=I.cell x c e;exact q.lt
 have newc:∀{x c},(x,c)∈cellsFrom (s.heap.objs.size+1) scope.names []->s.heap.objs.size+1<=c:=fun h=>(hc.empty _ _ h).2;have freeOf:∀x,scope.names.lookup x=some .free->(X.env.kindOf x=some .cell\/X.env.kindOf x=some .free):=fun x h=>S.frees (x,.free) (mem_of_lookup h) rfl;have xHas:∀x,scope.names.lookup x=some .free->∃c,X.env.cells.lookup x=some c:=fun x h=>I.ok.has x (freeOf x h);have stkF:∀b∈AR X.stack,H b=none:=I.stkFree;have hOk:(compCx X scope (own++caps) s H fp (X.pn++pins)).Ok:=by
  refine⟨I.ok.mod,S.kind,I.ok.glob,I.ok.blt,aB _,?_,?_,?_,I.ok.hd,I.ok.frames,.inl rfl,?_,I.bs,aS I.ok.bsz I.sz,?_,?_,I.stack,stkF⟩
  ·intro x y c e1 e2;rcases iG e1 with q1|q1 <;> rcases iG e2 with q2|q2
   ·exact name_of_addr hc.apart q1 q2
   ·exact absurd (aF (oldc _ _ q2) (JC (newc q1))) (bu _)
   ·exact absurd (aF (oldc _ _ q1) (JC (newc q2))) (bu _)
   ·exact I.ok.inj _ _ _ q1 q2
  ·intro x hx;have hx':(relabel scope X.env).names.lookup x=some .cell\/(relabel scope X.env).names.lookup x=some .free:=hx;rw[lookup_relabel] at hx';cases e:scope.names.lookup x with
   |none=>rw[e] at hx';rcases hx' with z|z <;> cases z
   |some k =>
    by_cases hcell:k=.cell
    ·subst hcell;obtain⟨c,hc,_⟩:=tP (C:=s.heap.objs.size) S e;exact⟨c,hc⟩
    ·by_cases hfree:k=.free
     ·subst hfree;obtain⟨c,hc⟩:=xHas x e;exact⟨c,(tO S e ⟨c,hc⟩).trans hc⟩
     ·rw[e,av] at hx';have hkf:(k==NameKind.free)=false:=by simpa using hfree
      rw[hkf] at hx';rcases hx' with z|z
      ·exact absurd (Option.some.inj z) hcell
      ·exact absurd (Option.some.inj z) hfree
  ·intro x c hfn e;have hcell:scope.names.lookup x=some .cell:=by simpa [compCx] using hfn
   rcases iG e with q|q
   ·exact JC (newc q)
   ·obtain⟨c',e',m'⟩:=tP (C:=s.heap.objs.size) S hcell;have:c'=c:=by
     have e2:(kB X scope s.heap.objs.size).cells.lookup x=some c:=e;rw[e'] at e2;exact Option.some.inj e2
    subst this;exact JC (newc m')
  ·intro b hb;refine⟨aR (hlt b hb),fun x c e=>?_⟩;rcases iG e with q|q
   ·exact bq (aF (hlt b hb) (JC (newc q)))
   ·exact (hf b hb).2.2.2.2.1 x c q
  ·intro b o e hb;rcases (hf b hb).2.2.2.1 with z|z
   ·exact I.ok.noex b o e z
   ·exact absurd (aF (aC e) (aS I.ok.bsz z)) (bu _)
  ·intro b hb hb2;rcases List.mem_cons.mp (I.stkSub b hb2) with z|z
   ·exact (hf b hb).2.1 z
   ·exact (hf b hb).2.2.1 z
 refine⟨hOk,rfl,I.bare,Un.kept hk,⟨fun _=>none,hn,?_⟩,?_,I.hok.fresh (aB _),?_,?_,I.hok.kept hk,?_⟩
 ·intro i x v h1 h2 h3;by_cases hi:i<own.length
  ·have h2':(capt own.length ix σ)[i]?=some (some v):=h2;unfold capt at h2';rw[aP (by simpa using hi),bN,if_pos hi] at h2';cases h2'
  ·have h2':(capt own.length ix σ)[i]?=some (some v):=h2;unfold capt at h2';rw[aN (by simpa using hi),bh,au] at h2';have h1':(own++caps)[i]?=some x:=h1;rw[aN (by simpa using hi)] at h1';cases ej:ix[i-own.length]? with
   |none=>rw[ej] at h2';cases h2'
   |some j =>
    rw[ej,av] at h2';have hj:X.N[j]?=some x:=by
     have q:(ix.map (fun j=>X.N[j]?))[i-own.length]?=(caps.map some)[i-own.length]?:=by rw[S.ixs]
     rw[au,au,ej,h1',av,av] at q;exact Option.some.inj q
    have hv:σ[j]?=some (some v):=by
     have q:(σ[j]?).join=some v:=Option.some.inj h2';cases e:σ[j]? with
     |none=>rw[e] at q;cases q
     |some w'=>rw[e] at q;exact congrArg some q
    have hfree:scope.names.lookup x=some .free:=S.uniq _ (S.caps x (az h1'));obtain⟨m,hm,hl⟩:=I.loc;have hvis:Vis X.env.scope x:=by
     rcases freeOf x hfree with z|z
     ·exact .inr (.inl z)
     ·exact .inr (.inr z)
    obtain⟨u,r,l⟩:=hl j x v hj hv hvis;refine⟨u,r,?_⟩;rcases l with ⟨k,_⟩|⟨k,c,e,z⟩
    ·rcases freeOf x hfree with q|q <;> rw[q] at k <;> cases k
    ·refine .inr ⟨?_,c,(tO S hfree ⟨c,e⟩).trans e,z.keeps hk⟩;show (relabel scope X.env).names.lookup x=some .cell\/(relabel scope X.env).names.lookup x=some .free;rw[lookup_relabel,hfree,av];split
     ·exact .inl rfl
     ·exact .inr rfl
 ·intro x c e;rcases iG e with q|q
  ·exact⟨none,(hc.empty _ _ q).1⟩
  ·obtain⟨v,z⟩:=I.cell x c q;exact⟨v,z.keeps hk⟩
 ·intro x c e;rcases iG e with q|q
  ·exact I.hok.fresh (JC (newc q))
  ·exact I.freeC x c q
 ·intro p hp;have hp':p∈X.pn++pins:=by
   have:p∈(X.pn++pins)++[]:=hp;simpa using this
  obtain⟨e,n,ne,nf,d⟩:=I.pin p hp';refine⟨hk _ _ e,n,aR (aC e),fun z=>?_,d⟩;rcases List.mem_cons.mp (I.stkSub p.1 z) with q|q
  ·exact ne q
  ·exact nf q
 ·show (capt own.length ix σ).length=(own++caps).length;unfold capt;rw[aw,aw,bh,af,lenS]
end
noncomputable abbrev Fp:Value->Shared->Prop:=fun _ _=>False
theorem vm {prog:Program}{w:World}{A:Around}{R:Result->Shared->Prop}{s:Shared}{elt target iter:Expr}{ifs:List Expr}{scope:Scope}{pos:Pos}{it acc:Value}{env:Env}(I:Nat->Shared->Prop)
  (turn:∀n s,I n s->wpAny (model prog w) A (pyNext it) (fun r s₁=>match r with
   |none=>R (.ok .next) s₁
   |some v=>wpAny (model prog w) A (letOwnedTupleGo target it v) (fun _ s₁'=>wpAny (model prog w) A (assign target env v) (fun _ s₂ =>
     wpAny (model prog w) A (forIn ifs true fun c r=>if r=true then do let ok <-isTrue c env (eval c env);pure (ForInStep.yield ok) else pure (ForInStep.yield r)) (fun ok s₃ =>
      if ok=true then wpAny (model prog w) A (eval elt env) (fun x s₄ =>
       wpAny (model prog w) A (call (.builtin "list.append") [acc,x]) (fun _ s₅=>∃m,m<n/\I m s₅) Fp s₄) Fp s₃
      else ∃m,m<n/\I m s₃) Fp s₂) Fp s₁') Fp s₁) Fp s)
  (n:Nat) (h:I n s) :
  codeAny (model prog w) A (.compLoop (.ListComp elt [⟨target,iter,ifs,0⟩] scope pos) 0 it acc env) R s:=by
 refine codeAny_loop rfl I (fun n s hI=>?_) n h;show wpAny _ A ((compTurn (.ListComp elt [⟨target,iter,ifs,0⟩] scope pos) 0 it acc env).onRaise (fun x=>do noteFrame x env;theTreesLotGoes x)) _ _ s;refine wpAny_noted ?_;rw[compTurn_list];refine ab (wpAny_standAt (ab (wpAny_mono (turn n s hI) (fun r s₁ h₁=>?_) fun _ _ h'=>h'.elim)));cases r with
 |none=>exact aq h₁
 |some v =>
  refine ab (wpAny_mono h₁ (fun _ s₁' h₁'=>?_) fun _ _ h'=>h'.elim);refine ab (wpAny_mono h₁' (fun _ s₂ h₂=>ab (wpAny_mono h₂ (fun ok s₃ h₃=>?_) fun _ _ h'=>h'.elim)) fun _ _ h'=>h'.elim);cases ok with
  |false=>exact aq ⟨rfl,h₃⟩
  |true =>
   exact ab (ab (wpAny_mono h₃ (fun x s₄ h₄=>ab (wpAny_mono h₄ (fun _ s₅ h₅=>aq (aq ⟨rfl,h₅⟩)) fun _ _ h'=>h'.elim)) fun _ _ h'=>h'.elim))
noncomputable def PTs (X:Cx)(ifs:List Expr)(t:TT):Prop :=
 ∀(pins:List (Addr×Obj)) (s:Shared) (σ:St) (H:Hp) (Q:Bool->Hp->Prop),cQ X pins σ H s->t σ H Q →
  wpAny (model X.prog X.w) X.A (forIn ifs true fun c r=>if r=true then do let ok <-isTrue c X.env (eval c X.env);pure (ForInStep.yield ok) else pure (ForInStep.yield r)) (TP X pins σ Q) X.xe s
noncomputable def Hm:TT:=fun _ H Q=>Q true H
theorem pts_nil {X:Cx}:PTs X [] Hm:=fun pins s σ H Q I h=>wpAny_tests_nil ⟨H,I,h⟩
theorem pts_one {X:Cx}{c:Expr}{t:TT}(h:PT X c t):PTs X [c] t:=fun pins s σ H Q I hq=>wpAny_tests_one (h pins s σ H Q I hq)
noncomputable def tComp (wi:TI)(n:Nat)(ix:List Nat)(g:TG)(tc:TT)(te:TE):TE:=fun σ H Q=>wi σ H fun J H1=>∀D,H1 D=none →
 ∃W:Nat->Nat->St->Hp->Prop,(∃m,W 0 m (capt n ix σ) (dY H1 D (.lst [])))/\∀i m σ' H',W i m σ' H' →
  (J.stop i H'/\Q (.ref D) H')\/(J.go i H'/\∃N:St->Hp->Prop,(∀σ2 H2,N σ2 H2->∃m',m'<m/\W (i+1) m' σ2 H2) ∧
   ∀x H2,J.yld i H' x H2->g x σ' H2 fun σ3 H3=>tc σ3 H3 fun b H4=>if b=true then te σ3 H4 fun y H5=>∃ys,H5 D=some (.lst ys)/\ys.length<sizeLine/\N σ3 (dY H5 D (.lst (ys++[y]))) else N σ3 H4)
section
variable {X:Cx}{scope:Scope}{own caps:List Str}{ix:List Nat}{tg iter elt:Expr}{ifs:List Expr}{wi:TI}{g:TG}{tc:TT}{te:TE}
theorem rW {pos:Pos}{pins:List (Addr×Obj)}{s2:Shared}{σ:St}{H2:Hp}{E:Value->Shared->Prop}{J:It}{it:Addr}{fp:List Addr}{tn:Nat->Heap->Prop}{Q:VK}{RR:Value->Addr->Result->Shared->Prop}
  (S:CompSc X.env.scope X.N scope own ix caps) (hc:X.calm=true)
  (hg:∀s₀ H₀ ex pn,PG (compCx X scope (own++caps) s₀ H₀ ex pn) tg g) (ht:∀s₀ H₀ ex pn,PTs (compCx X scope (own++caps) s₀ H₀ ex pn) ifs tc) (he:∀s₀ H₀ ex pn,PE (compCx X scope (own++caps) s₀ H₀ ex pn) elt te)
  (I2:cQ X pins σ H2 s2) (T:Turn X.prog X.w X.K tg J fp it tn) (st2:tn 0 s2.heap) (f2:∀b∈fp,sd X pins H2 b)
  (hW:∀D,H2 D=none->∃W:Nat->Nat->St->Hp->Prop,(∃m,W 0 m (capt own.length ix σ) (dY H2 D (.lst [])))/\∀i m σ' H',W i m σ' H' →
   (J.stop i H'/\Q (.ref D) H')\/(J.go i H'/\∃N:St->Hp->Prop,(∀σ2 H2,N σ2 H2->∃m',m'<m/\W (i+1) m' σ2 H2) ∧
    ∀x H2,J.yld i H' x H2->g x σ' H2 fun σ3 H3=>tc σ3 H3 fun b H4=>if b=true then te σ3 H4 fun y H5=>∃ys,H5 D=some (.lst ys)/\ys.length<sizeLine/\N σ3 (dY H5 D (.lst (ys++[y]))) else N σ3 H4))
  (hRR:∀(D C:Addr) (H':Hp) (s':Shared),cQ X pins σ H' s'->Q (.ref D) H'->(∃m,s'.heap.Ns C m)->H' C=none->C≠X.env.locals->X.s₀.heap.objs.size<=C->(∀x c,X.env.cells.lookup x=some c->c≠C)->(∀p∈X.pn++pins,p.1≠C)->RR (.ref D) C (.ok .next) s') :
  wpAny (model X.prog X.w) X.A (newList []) (fun acc s₃=>wpAny (model X.prog X.w) X.A (newFunctionEnv scope X.env.globals (lg X.env scope.names []) [] X.env.qual none .none (some X.env)) (fun cenv s₄ =>
   codeAny (model X.prog X.w) X.A (.compStart (.ListComp elt [⟨tg,iter,ifs,0⟩] scope pos) 0 (.ref it) acc { cenv with scope:=relabel scope X.env }) (RR acc cenv.locals) s₄) E s₃) E s2:=by
 refine bW (BS fun h' hn hk hcl hs=>?_);have hD:H2 s2.heap.objs.size=none:=I2.hok.fresh (aB _);obtain⟨W,⟨m0,w0⟩,turn⟩:=hW s2.heap.objs.size hD;have I3:=I2.lnew (ys:=[]) (its:=[]) (t':=s2.toks) .nil (bx _);generalize hs3:({ s2 with heap:=s2.heap.push { cls:=.type "list", data:=.seq ([]:List Value).toArray },toks:=s2.toks }:Shared)=s3 at I3;have hlt:∀b∈fp,b<s2.heap.objs.size:=fun b hb=>by
  obtain⟨o,e,_⟩:=T.obj _ _ st2 b hb;exact aC e
 have hsz:s3.heap.objs.size=s2.heap.objs.size+1:=by rw[<-hs3];exact br ..
 have k3:∀b o,s2.heap.get? b=some o->s3.heap.get? b=some o:=fun b o e=>by rw[<-hs3];exact ae _ e
 have f3:∀b∈fp,sd X pins (dY H2 s2.heap.objs.size (.lst [])) b:=fun b hb=>by
  obtain⟨f0,fr⟩:=f2 b hb;exact⟨by rw[cC (aR (hlt b hb))];exact f0,fr⟩
 have es3:s3={ s2 with heap:=s2.heap.push { cls:=.type "list", data:=.seq ([]:List Value).toArray } }:=hs3.symm
 try rw[<-es3] at hn
 try rw[<-es3] at hk
 try rw[<-es3] at hcl
 try rw[<-es3] at hs
 try rw[<-es3]
 have hlt3:∀b∈fp,b<s3.heap.objs.size:=fun b hb=>by rw[hsz];exact Nat.lt_succ_of_lt (hlt b hb)
 have I4:=CN S I3 f3 hlt3 hn hk hcl;have st4:tn 0 h':=T.keep _ _ _ st2 fun b hb o e=>hk b o (k3 b o e);have stat:∀{H':Hp},(∀b∈fp,H' b=none)->∀b∈fp,sd (compCx X scope (own++caps) s3 (dY H2 s2.heap.objs.size (.lst [])) fp (X.pn++pins)) [] H' b:=fun hn b hb=>by
  obtain⟨f0,f1,f2',f3',f4,f5⟩:=f3 b hb;refine⟨hn b hb,aR (hlt3 b hb),fun z=>?_,.inl hb,fun x c e=>(I4.ok.exf b hb).2 x c e,fun p hp=>f5 p (by simpa [compCx] using hp)⟩;rcases List.mem_cons.mp (I2.stkSub b z) with q|q
  ·exact f1 q
  ·exact f2' q
 have main:codeAny (model X.prog X.w) X.A (.compLoop (.ListComp elt [⟨tg,iter,ifs,0⟩] scope pos) 0 (.ref it) (.ref s2.heap.objs.size) (kB X scope s3.heap.objs.size))
   (RR (.ref s2.heap.objs.size) s3.heap.objs.size) { s3 with heap:=h' }:=by
  refine vm (fun n s'=>∃i σ' H',cQ (compCx X scope (own++caps) s3 (dY H2 s2.heap.objs.size (.lst [])) fp (X.pn++pins)) [] σ' H' s'/\tn i s'.heap/\(∀b∈fp,H' b=none)/\W i n σ' H') ?_ m0
   ⟨0,_,_,I4,st4,fun b hb=>(f3 b hb).1,w0⟩
  rintro n s5 ⟨i,σ5,H5,I5,st5,fr5,w5⟩;rcases turn i n σ5 H5 w5 with ⟨stop,qn⟩|⟨go,N,hN,step⟩
  ·refine thn (T.done (compCx X scope (own++caps) s3 (dY H2 s2.heap.objs.size (.lst [])) fp (X.pn++pins)) rfl rfl rfl hc i [] s5 σ5 H5 Fp I5 (stat fr5) st5 stop) fun r s6 zz=>?_;obtain ⟨hr,I6⟩:=zz;subst hr;have u:Un (AR X.stack) fp H2 H5 s2.heap s6.heap:=(Un.laid (o:=.lst []) k3 (aB _) hD).trans I6.base;have e6:s6.os=s2.os:=by
    have:=I6.os;rw[this,<-hs3];rfl
   have I7:cQ X pins σ H5 s6:=I2.call' e6 u I6.hok I6.bare fun b hb=>⟨(f2 b hb).2.2.2.1,(f2 b hb).2.1,(f2 b hb).2.2.2.2.1,(f2 b hb).2.2.2.2.2⟩;obtain⟨mC,hC,_⟩:=I6.loc;refine hRR _ _ H5 s6 I7 qn ⟨mC,hC⟩ I6.free (bq (aF I2.lt (by rw[hsz];exact JE _))) (aS I2.sz (by rw[hsz];exact JE _)) (fun x c e z=>?_) fun p hp z=>?_
   ·obtain⟨v,q⟩:=I2.cell x c e;have:=q.lt;rw[z,hsz] at this;exact bu _ (Nat.lt_of_succ_lt this)
   ·have:=aC (I2.pin p hp).1;rw[z,hsz] at this;exact bu _ (Nat.lt_of_succ_lt this)
  ·refine thn (T.item (compCx X scope (own++caps) s3 (dY H2 s2.heap.objs.size (.lst [])) fp (X.pn++pins)) rfl rfl rfl hc i [] s5 σ5 H5 Fp I5 (stat fr5) st5 go) fun r s6 zz=>?_;obtain ⟨u,hr,h6⟩:=zz;subst hr;refine thn h6 fun _ s7 zz=>?_;obtain ⟨x,H7,I7,r7,y7,st7,fr7⟩:=zz;have I7':=I7.pinned (stat fr7) (T.obj _ _ st7);refine thn (hg _ _ _ _ _ s7 σ5 H7 x u _ I7' r7 (step x H7 y7)) fun _ s8 zz=>?_;obtain ⟨σ8,H8,I8,q8⟩:=zz;refine thn (ht _ _ _ _ _ s8 σ8 H8 _ I8 q8) fun b s9 zz=>?_;obtain ⟨H9,I9,q9⟩:=zz;have again:∀{σ':St}{H':Hp}{s':Shared},cQ (compCx X scope (own++caps) s3 (dY H2 s2.heap.objs.size (.lst [])) fp (X.pn++pins)) ([]++qS fp s7.heap) σ' H' s'->N σ' H' →
     ∃m,m<n/\∃i σ' H',cQ (compCx X scope (own++caps) s3 (dY H2 s2.heap.objs.size (.lst [])) fp (X.pn++pins)) [] σ' H' s'/\tn i s'.heap/\(∀b∈fp,H' b=none)/\W i m σ' H':=fun {σ' H' s'} J n7=>by
    obtain⟨m',hm,w7⟩:=hN σ' H' n7;refine⟨m',hm,i+1,σ',H',J.unpinned,T.keep _ _ _ st7 fun b hb o e=>(J.pin (b,o) (aM _ (aM _ (kQ hb e)))).1,fun b hb=>?_,w7⟩;obtain⟨o,e,d⟩:=T.obj _ _ st7 b hb;exact (J.pin (b,o) (aM _ (aM _ (kQ hb e)))).2.1
   cases b with
   |false=>exact again I9 q9
   |true =>
    rw[if_pos rfl] at q9;show wpAny _ _ (eval elt _) _ _ _;refine thn (he _ _ _ _ _ s9 σ8 H9 _ I9 q9) fun y s10 zz=>?_;obtain ⟨vy,H10,I10,r10,ys,hD10,hz10,q10⟩:=zz;refine thn (mt_append _ s10 σ8 H10 (.ref s2.heap.objs.size) [vy] (.ref s2.heap.objs.size) [y] (fun _ H'=>N σ8 H') I10 rfl (.cons r10 .nil) ⟨_,ys,vy,rfl,rfl,hD10,hz10,q10⟩) fun _ s11 zz=>?_;obtain ⟨_,H11,I11,_,q11⟩:=zz;exact again I11 q11
 exact codeAny_compStart_list main (T.self _ 0 _ _ _ st4 main)
theorem pe_lcomp {pos:Pos}(S:CompSc X.env.scope X.N scope own ix caps)(hc:X.calm=true)(hi:PI X tg iter wi)
  (hg:∀s₀ H₀ ex pn,PG (compCx X scope (own++caps) s₀ H₀ ex pn) tg g) (ht:∀s₀ H₀ ex pn,PTs (compCx X scope (own++caps) s₀ H₀ ex pn) ifs tc) (he:∀s₀ H₀ ex pn,PE (compCx X scope (own++caps) s₀ H₀ ex pn) elt te)
  (hs:∀x,foldedSetIterable iter X.env x=pure x:=by intro _;rfl) :
  PE X (.ListComp elt [⟨tg,iter,ifs,0⟩] scope pos) (tComp wi own.length ix g tc te):=by
 intro pins s σ H Q I h;have hcl:closureFor scope X.env=pure (lg X.env scope.names []):=mT fun y hy=>I.ok.has y (S.frees (y,.free) hy rfl);rw[eval_ListComp];refine wpAny_comprehension_free (use:=none) rfl hs hcl S.kind (fun y hy hl=>by have:=S.uniq y hy;rw[hl] at this;exact this) ?_;refine thn (hi pins s σ H _ I h) fun v s1 h1=>thn h1 fun itv s2 h2=>?_;obtain⟨it,fp,tn,J,H2,e,I2,T,st2,f2,hW⟩:=h2;subst e;refine rW (E:=X.xe) (Q:=Q) (RR:=fun acc C=>compPost (model X.prog X.w) X.A X.xe none (EP X pins σ Q) acc C) S hc hg ht he I2 T st2 f2 hW ?_;intro D C H' s' I' q hC hH hL hs0 hcell hp;obtain⟨m,hm⟩:=hC;refine⟨m,hm,fun h'' hsb=>⟨.ref D,H',?_,rfl,q⟩⟩;exact I'.turned (t':=s'.toks) (fun b o hb e=>(hsb.2 b hb).trans e) hH (Ne.symm hL).symm (.inr hs0) hcell hp
theorem ps_lcomp {pos spos py:Pos}{i:Nat}{y:Str}(S:CompSc X.env.scope X.N scope own ix caps)(hc:X.calm=true)(hN:X.N.Nodup)(hiN:X.N[i]?=some y)(hy:X.env.scope.names.lookup y=some .local)
  (hi:PI X tg iter wi)
  (hg:∀s₀ H₀ ex pn,PG (compCx X scope (own++caps) s₀ H₀ ex pn) tg g) (ht:∀s₀ H₀ ex pn,PTs (compCx X scope (own++caps) s₀ H₀ ex pn) ifs tc) (he:∀s₀ H₀ ex pn,PE (compCx X scope (own++caps) s₀ H₀ ex pn) elt te)
  (hsw:swapsWith (.ListComp elt [⟨tg,iter,ifs,0⟩] scope pos) (some (.Name y py)) spos.line X.env=pure true:=by rfl)
  (hs:∀x,foldedSetIterable iter X.env x=pure x:=by intro _;rfl) :
  PS X (.Assign [.Name y py] (.ListComp elt [⟨tg,iter,ifs,0⟩] scope pos) spos) (tAsg (tComp wi own.length ix g tc te) (gName i)):=by
 intro pins s σ H D I h;have hcl:closureFor scope X.env=pure (lg X.env scope.names []):=mT fun y hy=>I.ok.has y (S.frees (y,.free) hy rfl);rw[exec_Assign_Name_used _ _ _ _ hsw];refine ab (wpAny_standAt (ab ?_));show wpAny _ _ (do let _ <-comprehension (.ListComp elt [⟨tg,iter,ifs,0⟩] scope pos) scope X.env _ (newList []) false (eval iter X.env) (some (assign (.Name y py) X.env))) _ _ s;refine ab (wpAny_mono (wpAny_comprehension_free (use:=some (assign (.Name y py) X.env)) (Q:=fun _ s'=>SP X pins D .next s') rfl hs hcl S.kind (fun y hy hl=>by have:=S.uniq y hy;rw[hl] at this;exact this) ?_)
  (fun _ s' hq=>aq (aq hq)) fun _ _ e=>e)
 refine thn (hi pins s σ H _ I h) fun v s1 h1=>thn h1 fun itv s2 h2=>?_;obtain⟨it,fp,tn,J,H2,e,I2,T,st2,f2,hW⟩:=h2;subst e;refine rW (E:=X.xe) (Q:=fun x H1=>gName i x σ H1 D.nx) (RR:=fun acc C=>compPost (model X.prog X.w) X.A X.xe (some (assign (.Name y py) X.env)) (fun _ s'=>SP X pins D .next s') acc C) S hc hg ht he I2 T st2 f2 hW ?_;intro Dl C H' s' I' q hC hH hL hs0 hcell hp;obtain⟨m,hm⟩:=hC;show wpAny _ _ (assign (.Name y py) X.env (.ref Dl)) _ _ s';refine wpAny_assign_Name (sV (v:=.ref Dl) I' hN hiN (.inl hy) rfl (fun s'' I'' hsame=>?_) (.inr hy));obtain⟨a,hsa,ha⟩:=hsame;have haC:C≠a:=by
  rcases ha with z|z
  ·rw[z];exact hL
  ·exact fun e=>hcell _ _ z e.symm
 refine⟨m,hm.sameBut hsa haC,fun h'' hsb=>?_⟩;exact⟨_,H',I''.turned (t':=s''.toks) (fun b o hb e=>(hsb.2 b hb).trans e) hH hL (.inr hs0) hcell hp,q⟩
end
end L2
namespace DL
open PySem PySem.Spec PySem.SeqAt
noncomputable abbrev D:=PyData
noncomputable abbrev Vl:=D×Bool
noncomputable abbrev Sl:=List (Option Vl)
set_option genInjectivity true in
inductive Fl where
 |next (ρ:Sl)|ret (r:Vl)|brk (ρ:Sl)|cont (ρ:Sl)
noncomputable abbrev ED:=Sl->Option Vl
noncomputable abbrev BD:=Sl->Option D
noncomputable abbrev TD:=Sl->Option Bool
noncomputable abbrev AD:=Sl->Option (List D)
noncomputable abbrev SD:=Sl->Option Fl
noncomputable abbrev GD:=D->Sl->Option Sl
noncomputable abbrev O2:=D->D->Option Vl
noncomputable abbrev FD:=List D->Option Vl
noncomputable def dC (d:D):ED:=fun _=>some (d,false)
noncomputable def cf (i:Nat):ED:=fun ρ=>match ρ[i]? with
 |some (some (d,false))=>some (d,false)
 |_=>none
noncomputable def b7 (i:Nat):BD:=fun ρ=>match ρ[i]? with
 |some (some (d,false))=>some d
 |some (some (.list xs,true))=>some (.list xs)
 |some (some (.dict [(.dict kvs,.bool true)],true))=>some (.dict kvs)
 |_=>none
noncomputable def cA (f:ED):BD:=fun ρ=>(f ρ).map (·.1)
noncomputable def d1 (op:D->Option Vl)(f:BD):ED:=fun ρ=>(f ρ).bind op
noncomputable def d2 (op:O2)(f g:BD):ED:=fun ρ=>(f ρ).bind fun x=>(g ρ).bind fun y=>op x y
noncomputable def cv:AD:=fun _=>some []
noncomputable def b4 (f:ED)(t:AD):AD:=fun ρ=>(f ρ).bind fun x=>(t ρ).bind fun xs=>some (x.1::xs)
noncomputable def dM (t:AD):ED:=fun ρ=>(t ρ).bind fun xs=>if xs.length<=sizeLine then some (.tuple xs,false) else none
noncomputable def cW (t:AD):ED:=fun ρ=>(t ρ).bind fun xs=>if xs.length<=sizeLine then some (.list xs,true) else none
noncomputable def cD (F:FD)(t:AD):ED:=fun ρ=>(t ρ).bind F
noncomputable def zT:D->Option Bool
 |.bool b=>some b
 |_=>none
noncomputable def EC (f g:ED):ED:=fun ρ=>(f ρ).bind fun x=>(zT x.1).bind fun c=>if c=true then g ρ else some (.bool false,false)
noncomputable def EB (f:ED):ED:=fun ρ=>(f ρ).bind fun x=>(zT x.1).bind fun c=>some (.bool (!c),false)
noncomputable abbrev LD:=Sl->Option (List D)
noncomputable def Fc (f:ED):LD:=fun ρ=>(f ρ).bind fun x=>match x with
 |(.list xs,true)=>some xs
 |_=>none
noncomputable def pY (f:LD)(g:BD):ED:=fun ρ=>(f ρ).bind fun xs=>(g ρ).bind fun y=>match y with
 |.int k=>if -(2 ^ 63)<=k/\k<2 ^ 63/\xs.length*k.toNat<=sizeLine then some (.list (aI k.toNat xs).flatten,true) else none
 |_=>none
noncomputable def sT (f:ED):TD:=fun ρ=>(f ρ).bind fun x=>zT x.1
noncomputable def qf (f g:TD):TD:=fun ρ=>(f ρ).bind fun c=>if c=true then g ρ else some false
noncomputable def xH (f g:TD):TD:=fun ρ=>(f ρ).bind fun c=>if c=true then some true else g ρ
noncomputable def kj (f:TD):TD:=fun ρ=>(f ρ).bind fun c=>some (!c)
noncomputable def gF:TD:=fun _=>some true
noncomputable abbrev C2:=D->D->Option Bool
noncomputable def tChain:D->List (C2×BD)->TD
 |_,[]=>fun _=>some true
 |x,[(op,f)]=>fun ρ=>(f ρ).bind fun y=>op x y
 |x,(op,f)::r=>fun ρ=>(f ρ).bind fun y=>(op x y).bind fun c=>if c=true then tChain y r ρ else some false
noncomputable def dk (f:BD)(l:List (C2×BD)):TD:=fun ρ=>(f ρ).bind fun x=>tChain x l ρ
noncomputable def yP (i j:Int):Bool:=(decide (-(2 ^ 64)<i)&&decide (i<2 ^ 64))||(decide (-(2 ^ 64)<j)&&decide (j<2 ^ 64))
noncomputable def eD:O2
 |.int i,.int j=>some (.int (i+j),false)
 |.tuple xs,.tuple ys=>if xs.length+ys.length<=sizeLine then some (.tuple (xs++ys),false) else none
 |.str x,.str y=>if x.length+y.length<=sizeLine then some (.str (x++y),false) else none
 |_,_=>none
noncomputable def BL:O2
 |.int i,.int j=>some (.int (i-j),false)
 |_,_=>none
noncomputable def ng:O2
 |.int i,.int j=>if yP i j=true then some (.int (i*j),false) else none
 |_,_=>none
noncomputable def yb:O2
 |.int i,.int j=>if 0<j/\j<1073741824 then some (.int (i/j),false) else none
 |_,_=>none
noncomputable def oi:O2
 |.int i,.int j=>if 0<j then some (.int (i%j),false) else none
 |_,_=>none
noncomputable def BM:O2
 |.int i,.int j=>if 0<=j/\j<=1000000/\i.natAbs<2 ^ 64 then some (.int (i ^ j.toNat),false) else none
 |_,_=>none
noncomputable def Gd:D->Option Vl
 |.int i=>some (.int (-i),false)
 |_=>none
noncomputable def Hd:C2
 |.int i,.int j=>some (decide (i<j))
 |_,_=>none
noncomputable def Iz:C2
 |.int i,.int j=>some (decide (i<=j))
 |_,_=>none
noncomputable def A2:C2
 |.int i,.int j=>some (decide (j<i))
 |_,_=>none
noncomputable def o4:C2:=fun x y=>if (shaped x&&shaped y&&noMix x y)=true then some (same x y) else none
noncomputable def sN:C2:=fun x y=>if (shaped x&&shaped y&&noMix x y)=true then some (!same x y) else none
noncomputable def vC (n:Nat)(i:Int):Option Nat:=if 0<=i then (if i<n then some i.toNat else none) else if -(n:Int)<=i then some (i+n).toNat else none
noncomputable def sf (xs:List D)(i:Int):Option D:=(vC xs.length i).bind fun j=>xs[j]?
noncomputable def cL:O2
 |.tuple xs,.int i=>(sf xs i).map fun d=>(d,false)
 |.list xs,.int i=>(sf xs i).map fun d=>(d,false)
 |_,_=>none
noncomputable def fF:D->Option Vl
 |.tuple xs=>some (.int xs.length,false)
 |.list xs=>some (.int xs.length,false)
 |_=>none
noncomputable def cU:D->Option Vl
 |.tuple xs=>some (.tuple xs,false)
 |.list xs=>some (.tuple xs,false)
 |_=>none
noncomputable def sD:O2
 |.int i,.int j=>some (.int (if j>i then j else i),false)
 |_,_=>none
noncomputable def ya:O2
 |.int i,.int j=>some (.int (if j<i then j else i),false)
 |_,_=>none
noncomputable def Cb (T:String):D->Bool
 |.bool _=>T == "bool" || T == "int"
 |.int _=>T == "int"
 |.str _=>T == "str"
 |.tuple _=>T == "tuple"
 |.list _=>T == "list"
 |_=>false
noncomputable def qY (T:String):D->Option Vl
 |.bool b=>some (.bool (Cb T (.bool b)),false)
 |.int b=>some (.bool (Cb T (.int b)),false)
 |.str b=>some (.bool (Cb T (.str b)),false)
 |.tuple b=>some (.bool (Cb T (.tuple b)),false)
 |.list b=>some (.bool (Cb T (.list b)),false)
 |_=>none
noncomputable def gN (i:Nat):GD:=fun d ρ=>some (ρ.set i (some (d,false)))
noncomputable def oC:List GD->List D->Sl->Option Sl
 |[],[],ρ=>some ρ
 |g::gs,d::ds,ρ=>(g d ρ).bind fun ρ'=>oC gs ds ρ'
 |_,_,_=>none
noncomputable def gT (gs:List GD):GD:=fun d ρ=>match d with
 |.tuple ds=>oC gs ds ρ
 |_=>none
noncomputable def dP:D->Option (List D)
 |.tuple xs=>some xs
 |.list xs=>some xs
 |_=>none
noncomputable def fT (f:ED):AD:=fun ρ=>(f ρ).bind fun x=>dP x.1
noncomputable def du (f:AD):AD:=f
noncomputable def xy:D->Option Int
 |.int i=>some i
 |_=>none
noncomputable def fg (i:Int)(n:Nat):List D:=(aj n).map fun (k:Nat)=>.int (i+k)
noncomputable def cP (f:ED):AD:=fun ρ=>(f ρ).bind fun x=>(xy x.1).bind fun j=>if -(2 ^ 62)<=j/\j<2 ^ 62 then some (fg 0 j.toNat) else none
noncomputable def eZ (i:Nat):List D->List D
 |[]=>[]
 |d::ds=>.tuple [.int i,d]::eZ (i+1) ds
noncomputable def eY (f:AD):AD:=fun ρ=>(f ρ).map (eZ 0)
noncomputable def nW:List D->List D->List D
 |x::xs,y::ys=>.tuple [x,y]::nW xs ys
 |_,_=>[]
noncomputable def wU (f g:AD):AD:=fun ρ=>(f ρ).bind fun xs=>(g ρ).map fun ys=>nW xs ys
noncomputable def hJ (g:GD)(t:TD)(e:ED)(ρ:Sl):List D->Option (List D)
 |[]=>some []
 |d::ds=>(g d ρ).bind fun ρ1=>(t ρ1).bind fun c=>if c=true then (e ρ1).bind fun x=>(hJ g t e ρ ds).map fun xs=>x.1::xs else hJ g t e ρ ds
noncomputable def fA (n:Nat)(ix:List Nat)(ρ:Sl):Sl:=aI n none++ix.map (fun j=>(ρ[j]?).join)
noncomputable def dN (it:AD)(n:Nat)(ix:List Nat)(g:GD)(t:TD)(e:ED):ED:=fun ρ=>(it ρ).bind fun ds=>if ds.length<=sizeLine then (hJ g t e (fA n ix ρ) ds).map fun xs=>(.list xs,true) else none
noncomputable def fM:SD:=fun ρ=>some (.next ρ)
noncomputable def cG (a b:SD):SD:=fun ρ=>(a ρ).bind fun fl=>match fl with
 |.next ρ'=>b ρ'
 |fl=>some fl
noncomputable def cF (i:Nat)(f:ED):SD:=fun ρ=>(f ρ).bind fun x=>some (.next (ρ.set i (some x)))
noncomputable def dI (f:ED):SD:=fun ρ=>(f ρ).map .ret
noncomputable def lx (i:Nat):SD:=fun ρ=>match ρ[i]? with
 |some (some (d,false))=>some (.ret (d,false))
 |some (some (.list xs,true))=>some (.ret (.list xs,true))
 |_=>none
noncomputable def i9 (t:TD)(a b:SD):SD:=fun ρ=>(t ρ).bind fun c=>if c=true then a ρ else b ρ
noncomputable def share (i:Nat)(ρ:Sl):Sl:=match ρ[i]? with
 |some (some (.list xs,true))=>ρ.set i (some (.list xs,false))
 |_=>ρ
noncomputable def j5 (i:Nat)(a:SD):SD:=fun ρ=>a (share i ρ)
noncomputable def fL (i:Nat)(F:SD):SD:=fun ρ=>(F ρ).map fun fl=>match fl with
 |.next ρ'=>.next (share i ρ')
 |fl=>fl
noncomputable def gX (xs:List D):D:=.dict [(.list xs,.none)]
noncomputable def mJ (c:D):D:=.dict [(c,.bool true)]
noncomputable def CB (xs:List D):D:=.dict [(.list xs,.bool true)]
noncomputable def iA (ρ:Sl):Bool:=ρ.all fun s=>match s with
 |some (.dict [(_,.none)],true)=>false
 |_=>true
noncomputable def eo (i:Nat):AD:=fun ρ=>match ρ[i]? with
 |some (some (.list xs,false))=>some xs
 |some (some (.tuple xs,false))=>some xs
 |some (some (.dict [(.list xs,.none)],true))=>some xs
 |_=>none
noncomputable def lE (i:Nat)(h:List D->Option (List D)):SD:=fun ρ=>match ρ[i]? with
 |some (some (.list xs,true))=>(h xs).map fun ys=>.next (ρ.set i (some (.list ys,true)))
 |_=>none
noncomputable def gp (i:Nat)(f:ED):SD:=fun ρ=>(f ρ).bind fun x=>lE i (fun xs=>if xs.length<sizeLine then some (xs++[x.1]) else none) ρ
noncomputable def pf (i:Nat)(f:ED):SD:=fun ρ=>(f ρ).bind fun x=>match x with
 |(.list ys,true)=>lE i (fun xs=>if xs.length+ys.length<=sizeLine then some (xs++ys) else none) ρ
 |_=>none
noncomputable def DC (i:Nat)(k f:ED):SD:=fun ρ=>(f ρ).bind fun x=>(k ρ).bind fun y=>(xy y.1).bind fun j=>lE i (fun xs=>(vC xs.length j).map fun p=>xs.set p x.1) ρ
noncomputable def eA (g:GD)(b:SD):List D->SD
 |[],ρ=>some (.next ρ)
 | d::ds,ρ=>(g d ρ).bind fun ρ1=>(b ρ1).bind fun fl=>match fl with
  |.next ρ'=>eA g b ds ρ'
  |.cont ρ'=>eA g b ds ρ'
  |.brk ρ'=>some (.next ρ')
  |.ret r=>some (.ret r)
noncomputable def dW (it:AD)(g:GD)(b:SD):SD:=fun ρ=>(it ρ).bind fun ds=>eA g b ds ρ
noncomputable def eO (c:TD)(b:SD):Nat->SD
 |0,_=>none
 | n+1,ρ=>(c ρ).bind fun t=>if t=true then (b ρ).bind fun fl=>match fl with
  |.next ρ'=>eO c b n ρ'
  |.cont ρ'=>eO c b n ρ'
  |.brk ρ'=>some (.next ρ')
  |.ret r=>some (.ret r) else some (.next ρ)
theorem iT {c:TD}{b:SD}:∀{n:Nat}{ρ:Sl}{fl:Fl},eO c b n ρ=some fl->∀k,eO c b (n+k) ρ=some fl
 |0,_,_,h,_=>by cases h
 | n+1,ρ,fl,h,k=>by
  rw[show n+1+k=(n+k)+1 by omega];unfold eO at h ⊢;cases hc:c ρ with
  |none=>rw[hc] at h;cases h
  |some t =>
   rw[hc,aa] at h;rw[aa];cases t with
   |false=>exact h
   |true =>
    rw[if_pos rfl] at h ⊢;cases hb:b ρ with
    |none=>rw[hb] at h;cases h
    |some x =>
     rw[hb,aa] at h;rw[aa];cases x with
     |next ρ'=>exact iT h k
     |cont ρ'=>exact iT h k
     |brk ρ'=>exact h
     |ret r=>exact h
open Classical in
noncomputable def j4 (c:TD)(b:SD):SD:=fun ρ=>if h:∃n,(eO c b n ρ).isSome=true then eO c b h.choose ρ else none
theorem pb {c:TD}{b:SD}{n:Nat}{ρ:Sl}{fl:Fl}(h:eO c b n ρ=some fl):j4 c b ρ=some fl:=by
 unfold j4;have hx:∃n,(eO c b n ρ).isSome=true:=⟨n,by rw[h];rfl⟩;rw[dif_pos hx];obtain⟨fl',h'⟩:=Option.isSome_iff_exists.mp hx.choose_spec;rw[h'];have e1:=iT h hx.choose;have e2:=iT h' n;rw[Nat.add_comm] at e1;rw[e1] at e2;exact e2.symm
theorem pS {c:TD}{b:SD}{ρ:Sl}{fl:Fl}(h:j4 c b ρ=some fl):∃n,eO c b n ρ=some fl:=by
 unfold j4 at h;split at h
 ·exact⟨_,h⟩
 ·cases h
noncomputable def eP:Fl->Option Vl
 |.next _=>some (.none,false)
 |.ret r=>some r
 |_=>none
noncomputable def ki (n m:Nat)(b:SD):FD:=fun ds=>if ds.length=n then (b (ds.map (fun d=>some (d,false))++aI m none)).bind eP else none
noncomputable abbrev PD:=Sl->Option (Option Int)
noncomputable def HE (p:Int×Int):D:=.tuple [.int p.1,.int p.2]
noncomputable def FW:D->Option (Int×Int)
 |.tuple [.int a,.int b]=>some (a,b)
 |_=>none
noncomputable def m7:List D->Option (List (Int×Int))
 |[]=>some []
 |d::ds=>(FW d).bind fun p=>(m7 ds).map fun ps=>p::ps
noncomputable def A9 (p q:Int×Int):Bool:=decide (p.1<q.1\/(p.1=q.1/\p.2<=q.2))
noncomputable def ko (ps:List (Int×Int)):List (Int×Int):=ps.mergeSort A9
noncomputable def vT (ds:List D):Option Vl:=(m7 ds).bind fun ps=>if ps.length<64 then some (.list ((ko ps).map HE),true) else none
noncomputable def kO:D->Option Vl
 |.tuple ds=>vT ds
 |.list ds=>vT ds
 |_=>none
mutual
noncomputable def oq:D->Bool
 |.none=>true
 |.bool _=>true
 |.int _=>true
 |.str _=>true
 |.tuple ds=>jL ds
 |.list _=>false
 |.dict _=>false
noncomputable def jL:List D->Bool
 |[]=>true
 |d::ds=>oq d&&jL ds
end
noncomputable def Hb:Option Vl->Option Vl
 |some (d,false)=>some (d,false)
 |some (.list xs,true)=>some (.list xs,false)
 |some (.dict [(.list xs,.none)],true)=>some (.list xs,false)
 |some (.dict [(.list xs,.bool true)],true)=>some (.list xs,false)
 |some (.dict [(.dict kvs,.bool true)],true)=>some (.dict kvs,false)
 |_=>none
noncomputable def unown (ρ:Sl):Sl:=ρ.map Hb
noncomputable def xI (t:TD):TD:=fun ρ=>t (unown ρ)
noncomputable def pE (ρ:Sl):Bool:=ρ.all fun s=>match s with
 |some (.dict [(_,.bool true)],true)=>false
 |_=>true
noncomputable def Fe (x:D)(ds:List D):Option Bool:=if (shaped x&&ds.all fun d=>shaped d&&noMix d x)=true then some (ds.any fun d=>same d x) else none
noncomputable def He:C2:=fun x y=>match y with
 |.list ds=>Fe x ds
 |.tuple ds=>Fe x ds
 |_=>none
noncomputable def vp:C2:=fun x y=>(He x y).map (!·)
mutual
noncomputable def Jx:D->D->Option Bool
 |.int i,.int j=>some (decide (j<=i))
 |.tuple xs,.tuple ys=>Jj xs ys
 |_,_=>none
noncomputable def Jj:List D->List D->Option Bool
 |[],[]=>some true
 |[],_::_=>some false
 |_::_,[]=>some true
 |x::xs,y::ys=>if same x y=true then Jj xs ys else Jx x y
end
noncomputable def IT:Vl->Option (List D)
 |(.list xs,true)=>some xs
 |_=>none
noncomputable def yc:Vl->Option D
 |(d,false)=>if oq d=true then some d else none
 |_=>none
noncomputable def jh:List D->List D->List D->List D
 |x::xs,y::ys,z::zs=>.tuple [x,y,z]::jh xs ys zs
 |_,_,_=>[]
noncomputable def wR (f g k:AD):AD:=fun ρ=>(f ρ).bind fun xs=>(g ρ).bind fun ys=>(k ρ).map fun zs=>jh xs ys zs
noncomputable def rT (it:AD):ED:=fun ρ=>(it ρ).bind fun ds=>if ds.length<=1000000 then some (.list ds,true) else none
end DL
set_option autoImplicit false
namespace DL
open PySem PySem.Spec PySem.SeqAt
open L2 (V Hp HO dR)
mutual
inductive Kb:Nat->D->Prop where
 |int (n:Nat) (i:Int):Kb n (.int i)
 |tuple {n:Nat}{ds:List D}:vw n ds->Kb (n+1) (.tuple ds)
inductive vw:Nat->List D->Prop where
 |nil {n:Nat}:vw n []
 |cons {n:Nat}{d:D}{ds:List D}:Kb n d->vw n ds->vw n (d::ds)
end
mutual
noncomputable def rE:D->Int
 |.int i=>hashInt i
 |.tuple ds=>reduceHash (Builtin.Tuple.tupleHashOf (gY ds))
 |_=>0
noncomputable def gY:List D->List Int
 |[]=>[]
 |d::ds=>rE d::gY ds
end
noncomputable def AW (x:D×Addr×Value):DictEntry:=⟨rE x.1,.ref x.2.1,x.2.2⟩
noncomputable abbrev En:=D×V×V
def pQ (p:En)(q:D×Addr×Value):Prop:=p.1=q.1/\p.2.1=.ref q.2.1/\dR p.2.2 q.2.2
def qe (a:Addr)(o:Obj)(es:List En)(h:Heap):Prop:=es.length<=sizeLine/\(a==sysModules)=false/\h.get? a=some o/\∃xs:List (D×Addr×Value),PySem.Paired pQ es xs ∧
 ∃ds ep,o.ExactDict/\o.data=.dict ds ep/\ds.toList=xs.map AW/\(xs.map (·.1)).Nodup
noncomputable abbrev Es:=Obj×List En
noncomputable def mS (a:Addr)(es:Es):HO:=.ext (qe a es.1 es.2)
theorem qe.stay {a:Addr}{o:Obj}{es:List En}{h1 h2:Heap}(x:qe a o es h1)(k:∀o,h1.get? a=some o->h2.get? a=some o):qe a o es h2:=by
 obtain⟨z,y,e,r⟩:=x;exact⟨z,y,k _ e,r⟩
theorem qe.there {a:Addr}{o:Obj}{es:List En}{h:Heap}(x:qe a o es h):∃o,h.get? a=some o:=⟨o,x.2.2.1⟩
theorem CJ {P:Program}{w:World}{H:Hp}{h:Heap}{a:Addr}{es:Es}(x:qe a es.1 es.2 h):L2.ObjOk P w H h a (mS a es):=⟨x,x.there,fun h1 h2 y k=>y.stay k⟩
noncomputable def oW:(List V ⊕ (Heap->Prop))->HO
 |.inl vs=>.lst vs
 |.inr φ=>.ext φ
open L2 (V Hp St HO VK TE TT TA TS TI TG Cx cQ PE PT PA PS PSs PI PG jj jR de dY cK cC cE cT dR EP TP AP SP jQ It)
noncomputable abbrev Fg:=PySem.W.Frag
noncomputable def A6 (K:Fg)(H:Hp)(O:List Addr)(a:Addr)(vs:List V):Prop :=
 (H a=some (.lst vs)/\a∉O)\/(∃o,H a=some (.frz o (.lst vs))) ∨
  ∃(o:Obj) (its:Array Value) (n:Nat),K.lookup a=some o/\o.cls=.type "list" ∧ o.dict=none/\o.data=.seq its n/\its.size<=sizeLine/\cT vs its.toList
theorem A6.sq {K:Fg}{H:Hp}{O:List Addr}{a:Addr}{vs:List V}(h:A6 K H O a vs):jR K H a vs:=by
 rcases h with h|h|h
 ·exact .inl (.inl h.1)
 ·exact .inl (.inr h)
 ·exact .inr h
mutual
inductive R (K:Fg)(H:Hp)(O:List Addr):D->V->Prop where
 |none:R K H O .none .non
 |bool (b:Bool):R K H O (.bool b) (.bl b)
 |int (i:Int):R K H O (.int i) (.int i)
 |str (x:Str):R K H O (.str x) (.str x)
 |tuple {a:Addr}{ds:List D}{vs:List V}:jj K H a vs->Rs K H O ds vs->R K H O (.tuple ds) (.ref a)
 |list {a:Addr}{ds:List D}{vs:List V}:A6 K H O a vs->Rs K H O ds vs->R K H O (.list ds) (.ref a)
 |dict {a:Addr}{kvs:List (D×D)}{es:Es}:H a=some (mS a es)->a∉O->Rd K H O kvs es.2->R K H O (.dict kvs) (.ref a)
inductive Rs (K:Fg)(H:Hp)(O:List Addr):List D->List V->Prop where
 |nil:Rs K H O [] []
 |cons {d:D}{v:V}{ds:List D}{vs:List V}:R K H O d v->Rs K H O ds vs->Rs K H O (d::ds) (v::vs)
inductive Rd (K:Fg)(H:Hp)(O:List Addr):List (D×D)->List En->Prop where
 |nil:Rd K H O [] []
 |cons {k d:D}{u v:V}{kvs:List (D×D)}{es:List En}:R K H O k u->R K H O d v->Rd K H O kvs es->Rd K H O ((k,d)::kvs) ((k,u,v)::es)
end
structure iJ (M O:List Addr)(H:Hp)(O':List Addr)(H':Hp):Prop where
 tup:∀b xs,H b=some (.tup xs)->H' b=some (.tup xs)
 frz:∀b o u,H b=some (.frz o u)->H' b=some (.frz o u)
 lst:∀b xs,b∉M->H b=some (.lst xs)->H' b=some (.lst xs)
 ext:∀b φ,b∉M->H b=some (.ext φ)->H' b=some (.ext φ)
 new:∀b∈O',b∈O\/H b=none
 sub:∀b∈M,b∈O
theorem iJ.same {O:List Addr}{H H':Hp}(s:de H H'):iJ [] O H O H':=⟨fun b _ e=>s b _ e,fun b _ _ e=>s b _ e,fun b _ _ e=>s b _ e,fun b _ _ e=>s b _ e,fun _ h=>.inl h,(fun _ h=>nomatch h)⟩
theorem iJ.less {O O':List Addr}{H:Hp}(s:∀b∈O',b∈O):iJ [] O H O' H:=⟨fun _ _ e=>e,fun _ _ _ e=>e,fun _ _ _ e=>e,fun _ _ _ e=>e,fun b h=>.inl (s b h),(fun _ h=>nomatch h)⟩
theorem iJ.fresh {O:List Addr}{H H':Hp}{p:Addr}(s:de H H')(hp:H p=none):iJ [] O H (p::O) H':=⟨fun b _ e=>s b _ e,fun b _ _ e=>s b _ e,fun b _ _ e=>s b _ e,fun b _ _ e=>s b _ e,fun b hb=>(List.mem_cons.mp hb).elim (fun z=>.inr (z▸hp)) .inl,(fun _ h=>nomatch h)⟩
theorem jj.ext {K:Fg}{M O O':List Addr}{H H':Hp}{a:Addr}{vs:List V}(e:iJ M O H O' H')(h:jj K H a vs):jj K H' a vs:=by
 rcases h with (h|⟨o,h⟩)|h
 ·exact .inl (.inl (e.tup _ _ h))
 ·exact .inl (.inr ⟨o,e.frz _ _ _ h⟩)
 ·exact .inr h
theorem A6.ext {K:Fg}{M O O':List Addr}{H H':Hp}{a:Addr}{vs:List V}(e:iJ M O H O' H')(h:A6 K H O a vs):A6 K H' O' a vs:=by
 rcases h with ⟨h,n⟩|⟨o,h⟩|h
 ·refine .inl ⟨e.lst _ _ (fun z=>n (e.sub _ z)) h,fun z=>?_⟩;rcases e.new _ z with q|q
  ·exact n q
  ·rw[q] at h;cases h
 ·exact .inr (.inl ⟨o,e.frz _ _ _ h⟩)
 ·exact .inr (.inr h)
mutual
theorem R.ext {K:Fg}{M O O':List Addr}{H H':Hp}{d:D}{v:V}(e:iJ M O H O' H'):R K H O d v->R K H' O' d v
 |.none=>.none
 |.bool b=>.bool b
 |.int i=>.int i
 |.str x=>.str x
 |.tuple h r=>.tuple (jj.ext e h) (Rs.ext e r)
 |.list h r=>.list (h.ext e) (Rs.ext e r)
 |.dict h n r=>.dict (e.ext _ _ (fun z=>n (e.sub _ z)) h) (fun z=>(e.new _ z).elim n fun q=>by rw[q] at h;cases h) (Rd.ext e r)
theorem Rs.ext {K:Fg}{M O O':List Addr}{H H':Hp}{ds:List D}{vs:List V}(e:iJ M O H O' H'):Rs K H O ds vs->Rs K H' O' ds vs
 |.nil=>.nil
 |.cons h r=>.cons (R.ext e h) (Rs.ext e r)
theorem Rd.ext {K:Fg}{M O O':List Addr}{H H':Hp}{kvs:List (D×D)}{es:List En}(e:iJ M O H O' H'):Rd K H O kvs es->Rd K H' O' kvs es
 |.nil=>.nil
 |.cons h g r=>.cons (R.ext e h) (R.ext e g) (Rd.ext e r)
end
section
variable {K:Fg}{H H':Hp}{O:List Addr}
theorem Rd.length:∀{kvs:List (D×D)}{es:List En},Rd K H O kvs es->kvs.length=es.length:=by
 intro ds;induction ds with
 |nil=>intro vs h; cases h; rfl
 |cons d ds ih=>
  intro vs h;cases h with
  |cons _ _ r=>rw [aJ,aJ,ih r]
theorem Rd.get:∀{kvs:List (D×D)}{es:List En}{i:Nat}{p:D×D},Rd K H O kvs es->kvs[i]?=some p->∃u v,es[i]?=some (p.1,u,v)/\R K H O p.1 u/\R K H O p.2 v
 |_,_,_,_,.nil,e=>by simp at e
 |_,_,0,_,.cons h g _,e=>by simp at e;subst e;exact⟨_,_,rfl,h,g⟩
 |_,_,i+1,_,.cons _ _ r,e=>by simpa using Rd.get r (by simpa using e)
theorem Rd.append:∀{kvs kvs':List (D×D)}{es es':List En},Rd K H O kvs es->Rd K H O kvs' es'->Rd K H O (kvs++kvs') (es++es')
 |_,_,_,_,.nil,s=>s
 |_,_,_,_,.cons h g r,s=>.cons h g (Rd.append r s)
theorem Rd.same {kvs:List (D×D)}{es:List En}(s:de H H')(h:Rd K H O kvs es):Rd K H' O kvs es:=h.ext (.same s)
theorem Rs.length:∀{ds:List D}{vs:List V},Rs K H O ds vs->ds.length=vs.length:=by
 intro ds;induction ds with
 |nil=>intro vs h; cases h; rfl
 |cons d ds ih=>
  intro vs h;cases h with
  |cons _ r=>rw [aJ,aJ,ih r]
theorem Rs.get:∀{ds:List D}{vs:List V}{i:Nat}{d:D},Rs K H O ds vs->ds[i]?=some d->∃v,vs[i]?=some v/\R K H O d v
 |_,_,_,_,.nil,e=>by simp at e
 |_,_,0,_,.cons h _,e=>by simp at e;subst e;exact⟨_,rfl,h⟩
 |_,_,i+1,_,.cons _ r,e=>by simpa using Rs.get r (by simpa using e)
theorem Rs.append:∀{ds es:List D}{vs us:List V},Rs K H O ds vs->Rs K H O es us->Rs K H O (ds++es) (vs++us):=by
 intro ds;induction ds with
 |nil=>intro es vs us h s; cases h; exact s
 |cons d ds ih=>
  intro es vs us h s;cases h with
  |cons q r=>exact .cons q (ih r s)
theorem Rs.set {d:D}{v:V}(h:R K H O d v):∀{ds:List D}{vs:List V} (n:Nat),Rs K H O ds vs->Rs K H O (ds.set n d) (vs.set n v)
 |_,_,_,.nil=>.nil
 |_,_,0,.cons _ r=>.cons h r
 |_,_,n+1,.cons q r=>.cons q (Rs.set h n r)
theorem Rs.rep {ds:List D}{vs:List V}(h:Rs K H O ds vs):∀k:Nat,Rs K H O (aI k ds).flatten (aI k vs).flatten
 |0=>.nil
 |k+1=>by rw[bC,bC,bO,bO];exact h.append (Rs.rep h k)
theorem R.same {d:D}{v:V}(s:de H H')(h:R K H O d v):R K H' O d v:=h.ext (.same s)
theorem Rs.same {ds:List D}{vs:List V}(s:de H H')(h:Rs K H O ds vs):Rs K H' O ds vs:=h.ext (.same s)
end
inductive Dp (K:Fg)(H:Hp)(O M:List Addr):List D->List Addr->Prop where
 |nil:Dp K H O M [] []
 |cons {xs:List D}{vs:List V}{b:Addr}{ds:List D}{bs:List Addr}:H b=some (.lst vs)->b∈M->Rs K H O xs vs->Dp K H O M ds bs->Dp K H O M (.list xs::ds) (b::bs)
theorem Dp.go {K:Fg}{H H':Hp}{Mx O O' M M':List Addr}{ds:List D}{bs:List Addr}(x:iJ Mx O H O' H')(h:Dp K H O M ds bs)(k:∀b∈bs,b∈M->b∈M'/\∀vs,H b=some (.lst vs)->H' b=some (.lst vs)):Dp K H' O' M' ds bs:=by
 induction h with
 |nil=>exact .nil
 |cons h1 h2 h3 _ ih=>exact .cons ((k _ aQ h2).2 _ h1) (k _ aQ h2).1 (h3.ext x) (ih fun b hb=>k b (aH _ hb))
theorem Dp.mem {K:Fg}{H:Hp}{O M:List Addr}{ds:List D}{bs:List Addr}(h:Dp K H O M ds bs):∀b∈bs,b∈M:=by
 induction h with
 |nil=>exact fun b hb=>nomatch hb
 |cons _ h2 _ _ ih=>exact fun b hb=>(List.mem_cons.mp hb).elim (fun z=>z▸h2) (ih b)
def C0 (K:Fg)(H:Hp)(O M:List Addr)(ρ:Sl)(σ:St)(i:Nat)(ds:List D):Prop:=∃a bs,σ[i]?=some (some (.ref a))/\H a=some (.lst (bs.map V.ref))/\a∈M/\(a::bs).Nodup/\Dp K H O M ds bs/\∀(j:Nat) (es:List D) (c:Addr),ρ[j]?=some (some (.list es,true))->σ[j]?=some (some (.ref c))->c∉a::bs
def Fq (K:Fg)(H:Hp)(O M:List Addr)(ρ:Sl)(σ:St)(i:Nat)(kvs:List (D×D)):Prop:=∃a es,σ[i]?=some (some (.ref a))/\H a=some (mS a es)/\a∈M/\Rd K H O kvs es.2/\∀(j:Nat) (es:List D) (c:Addr),ρ[j]?=some (some (.list es,true))->σ[j]?=some (some (.ref c))->c≠a
def Je (K:Fg)(H:Hp)(O M:List Addr)(ρ:Sl)(σ:St)(i:Nat)(c:D):Prop:=(∃ds,c=.list ds/\C0 K H O M ρ σ i ds)\/∃kvs,c=.dict kvs/\Fq K H O M ρ σ i kvs
structure kh (K:Fg)(H:Hp)(O M:List Addr)(ρ:Sl)(σ:St):Prop where
 pk:∀(i:Nat) (c:D),ρ[i]?=some (some (mJ c,true))->Je K H O M ρ σ i c
 one:∀(i j:Nat) (c e:D),ρ[i]?=some (some (mJ c,true))->ρ[j]?=some (some (mJ e,true))->i=j
theorem kh.at_ {K:Fg}{H:Hp}{O M:List Addr}{ρ:Sl}{σ:St}(h:kh K H O M ρ σ)(i:Nat)(ds:List D)(e:ρ[i]?=some (some (CB ds,true))):C0 K H O M ρ σ i ds:=by
 rcases h.pk i (.list ds) e with ⟨_,z,q⟩|⟨_,z,_⟩
 ·cases z;exact q
 ·cases z
theorem kh.dc {K:Fg}{H:Hp}{O M:List Addr}{ρ:Sl}{σ:St}(h:kh K H O M ρ σ)(i:Nat)(kvs:List (D×D))(e:ρ[i]?=some (some (mJ (.dict kvs),true))):Fq K H O M ρ σ i kvs:=by
 rcases h.pk i (.dict kvs) e with ⟨_,z,q⟩|⟨_,z,q⟩
 ·cases z
 ·cases z;exact q
theorem kh.none_ {K:Fg}{H:Hp}{O M:List Addr}{ρ:Sl}{σ:St}(h:∀(i:Nat) (x:Vl),ρ[i]?=some (some x)->x.2=false):kh K H O M ρ σ:=⟨fun i ds e=>absurd (h i _ e) (by simp),fun i j ds es e=>absurd (h i _ e) (by simp)⟩
theorem kh.go {K:Fg}{H H':Hp}{Mx O O' M M':List Addr}{ρ ρ':Sl}{σ σ':St}(h:kh K H O M ρ σ)(x:iJ Mx O H O' H')(hd:∀(i:Nat) (c:D),ρ'[i]?=some (some (mJ c,true))->ρ[i]?=some (some (mJ c,true))/\σ'[i]?=σ[i]?)
  (hm:∀b∈M,(∀(j:Nat) (es:List D),ρ[j]?=some (some (.list es,true))->σ[j]?≠some (some (.ref b)))->b∈M'/\∀u,H b=some (oW u)->H' b=some (oW u))
  (ho:∀(j:Nat) (es:List D) (c:Addr),ρ'[j]?=some (some (.list es,true))->σ'[j]?=some (some (.ref c))->c∉M\/∃(j':Nat) (es':List D),ρ[j']?=some (some (PyData.list es',true))/\σ[j']?=some (some (V.ref c))):kh K H' O' M' ρ' σ' where
 one:=fun i j ds es e1 e2=>h.one i j ds es (hd i ds e1).1 (hd j es e2).1
 pk:=fun i c e=>by
  obtain⟨e1,e2⟩:=hd i c e;rcases h.pk i c e1 with ⟨ds,rfl,q⟩|⟨kvs,rfl,q⟩
  ·refine .inl ⟨ds,rfl,?_⟩;obtain⟨a,bs,h1,h2,h3,h4,h5,h6⟩:=q;have vD:∀b∈a::bs,b∈M:=fun b hb=>(List.mem_cons.mp hb).elim (fun z=>z▸h3) (h5.mem b);have good:∀b∈a::bs,b∈M'/\∀vs,H b=some (.lst vs)->H' b=some (.lst vs):=fun b hb =>
    let g:=hm b (vD b hb) fun j es e z=>h6 j es b e z hb
    ⟨g.1,fun vs e=>g.2 (.inl vs) e⟩
   refine⟨a,bs,e2.trans h1,(good a aQ).2 _ h2,(good a aQ).1,h4,h5.go x fun b hb _=>good b (aH _ hb),fun j es c z1 z2 z3=>?_⟩;rcases ho j es c z1 z2 with z|⟨j',es',z4,z5⟩
   ·exact z (vD c z3)
   ·exact h6 j' es' c z4 z5 z3
  ·refine .inr ⟨kvs,rfl,?_⟩;obtain⟨a,es,h1,h2,h3,h5,h6⟩:=q;obtain⟨g1,g2⟩:=hm a h3 fun j es e z=>h6 j es a e z rfl;refine⟨a,es,e2.trans h1,g2 (.inr _) h2,g1,h5.ext x,fun j es c z1 z2 z3=>?_⟩;rcases ho j es c z1 z2 with z|⟨j',es',z4,z5⟩
   ·exact z (z3▸h3)
   ·exact h6 j' es' c z4 z5 z3
structure ER (K:Fg)(H:Hp)(O M:List Addr)(lad:Nat->Addr)(ρ:Sl)(σ:St):Prop where
 sh:∀(i:Nat) (d:D),ρ[i]?=some (some (d,false))->∃v,σ[i]?=some (some v)/\R K H O d v
 ow:∀(i:Nat) (ds:List D),ρ[i]?=some (some (.list ds,true))->∃a vs,σ[i]?=some (some (.ref a))/\H a=some (.lst vs)/\a∈M/\Rs K H O ds vs
 le:∀(i:Nat) (ds:List D),ρ[i]?=some (some (gX ds,true))->σ[i]?=some (some (.ref (lad i)))/\∃vs,H (lad i)=some (.lst vs)/\lad i∈O/\lad i∉M/\Rs K H O ds vs
 ap:∀(i j:Nat) (ds es:List D) (a:Addr),ρ[i]?=some (some (.list ds,true))->ρ[j]?=some (some (.list es,true))->σ[i]?=some (some (.ref a))->σ[j]?=some (some (.ref a))->i=j
 tr:∀a∈O,∃u,H a=some (oW u)
 sub:∀a∈M,a∈O
 len:ρ.length=σ.length
 dp:kh K H O M ρ σ
noncomputable def vE (K:Fg)(H:Hp)(O:List Addr)(H':Hp)(r:Vl)(v:V):Prop :=
 (r.2=false/\R K H' O r.1 v)\/(r.2=true/\∃a ds vs,r.1=.list ds/\v=.ref a/\H a=none/\H' a=some (.lst vs)/\Rs K H' (a::O) ds vs)
noncomputable def BR (K:Fg)(H:Hp)(O:List Addr)(d:D)(v:V):Prop :=
 R K H O d v\/(∃a ds vs,d=.list ds/\v=.ref a/\H a=some (.lst vs)/\Rs K H O ds vs)\/∃a kvs es,d=.dict kvs/\v=.ref a/\H a=some (mS a es)/\Rd K H O kvs es.2
section
variable {K:Fg}{H H' H1 H2:Hp}{O M:List Addr}{lad:Nat->Addr}{ρ:Sl}{σ:St}{d:D}{v:V}{r:Vl}
theorem ER.same (s:de H H')(h:ER K H O M lad ρ σ):ER K H' O M lad ρ σ where
 sh:=fun i d e=>let ⟨v,e1,q⟩:=h.sh i d e;⟨v,e1,q.same s⟩
 ow:=fun i d e=>let ⟨a,vs,e2,e3,e4,q⟩:=h.ow i d e;⟨a,vs,e2,s _ _ e3,e4,q.same s⟩
 le:=fun i d e=>let ⟨e2,vs,e3,e4,e5,q⟩:=h.le i d e;⟨e2,vs,s _ _ e3,e4,e5,q.same s⟩
 ap:=h.ap
 tr:=fun a ha=>let ⟨vs,e⟩:=h.tr a ha;⟨vs,s _ _ e⟩
 sub:=h.sub
 len:=h.len
 dp:=h.dp.go (.same s) (fun _ _ e=>⟨e,rfl⟩) (fun b hb _=>⟨hb,fun vs e=>s _ _ e⟩) fun j es c e1 e2=>.inr ⟨j,es,e1,e2⟩
theorem ER.ne (h:ER K H O M lad ρ σ):∀a∈O,H a≠none:=fun a ha e=>by
 obtain⟨vs,q⟩:=h.tr a ha;rw[e] at q;cases q
theorem R.bb (h:R K H O d v):BR K H O d v:=.inl h
theorem BR.same (s:de H H')(h:BR K H O d v):BR K H' O d v:=by
 rcases h with h|⟨a,ds,vs,e1,e2,e3,q⟩|⟨a,kvs,es,e1,e2,e3,q⟩
 ·exact .inl (h.same s)
 ·exact .inr (.inl ⟨a,ds,vs,e1,e2,s _ _ e3,q.same s⟩)
 ·exact .inr (.inr ⟨a,kvs,es,e1,e2,s _ _ e3,q.same s⟩)
theorem vE.toR (tr:∀a∈O,H a≠none)(h:vE K H O H' r v):R K H' O r.1 v:=by
 rcases h with ⟨_,h⟩|⟨_,a,ds,vs,e1,e2,e3,e4,q⟩
 ·exact h
 ·rw[e1,e2];exact .list (.inl ⟨e4,fun z=>tr a z e3⟩) (q.ext (.less fun b hb=>aH _ hb))
theorem vE.of (h:R K H' O d v):vE K H O H' (d,false) v:=.inl ⟨rfl,h⟩
theorem vE.back (s:de H H1)(h:vE K H1 O H' r v):vE K H O H' r v:=by
 rcases h with h|⟨e,a,ds,vs,e1,e2,e3,e4,q⟩
 ·exact .inl h
 ·exact .inr ⟨e,a,ds,vs,e1,e2,s.free e3,e4,q⟩
end
noncomputable def uE (K:Fg)(f:ED):TE:=fun σ H Q=>∃ρ O M lad r,ER K H O M lad ρ σ/\f ρ=some r/\∀v H',de H H'->vE K H O H' r v->Q v H'
noncomputable def uB (K:Fg)(f:BD):TE:=fun σ H Q=>∃ρ O M lad d,ER K H O M lad ρ σ/\f ρ=some d/\∀v H',de H H'->BR K H' O d v->Q v H'
noncomputable def uT (K:Fg)(f:TD):TT:=fun σ H Q=>∃ρ O M lad b,ER K H O M lad ρ σ/\f ρ=some b/\∀H',de H H'->Q b H'
noncomputable def uA (K:Fg)(f:AD):TA:=fun σ H Q=>∃ρ O M lad ds,ER K H O M lad ρ σ/\f ρ=some ds/\∀vs H',de H H'->Rs K H' O ds vs->Q vs H'
def DE (X:Cx)(e:Expr)(f:ED):Prop:=PE X e (uE X.K f)
def DB (X:Cx)(e:Expr)(f:BD):Prop:=PE X e (uB X.K f)
def DT (X:Cx)(e:Expr)(f:TD):Prop:=PT X e (uT X.K f)
def DA (X:Cx)(es:List Expr)(f:AD):Prop:=PA X es (uA X.K f)
theorem _root_.L2.PE.imp {X:Cx}{e:Expr}{t t':TE}(h:PE X e t)(i:∀σ H Q,t' σ H Q->t σ H Q):PE X e t':=fun pins s σ H Q I q=>h pins s σ H Q I (i σ H Q q)
theorem _root_.L2.PT.imp {X:Cx}{e:Expr}{t t':TT}(h:PT X e t)(i:∀σ H Q,t' σ H Q->t σ H Q):PT X e t':=fun pins s σ H Q I q=>h pins s σ H Q I (i σ H Q q)
theorem _root_.L2.PA.imp {X:Cx}{e:List Expr}{t t':TA}(h:PA X e t)(i:∀σ H Q,t' σ H Q->t σ H Q):PA X e t':=fun pos pins s σ H Q I q=>h pos pins s σ H Q I (i σ H Q q)
theorem _root_.L2.PS.imp {X:Cx}{e:Stmt}{t t':TS}(h:PS X e t)(i:∀D σ H,t' D σ H->t D σ H):PS X e t':=fun pins s σ H D I q=>h pins s σ H D I (i D σ H q)
theorem _root_.L2.PSs.imp {X:Cx}{e:List Stmt}{t t':TS}(h:PSs X e t)(i:∀D σ H,t' D σ H->t D σ H):PSs X e t':=fun pins s σ H D I q=>h pins s σ H D I (i D σ H q)
section
variable {X:Cx}{e a b c:Expr}{es:List Expr}{f g:ED}{fb gb hb:BD}{t u:TD}{pos:Pos}
theorem DE.bb (h:DE X e f):DB X e (cA f):=h.imp fun σ H Q zz=>by
 obtain ⟨ρ,O,M,lad,d,hE,hf,k⟩:=zz;unfold cA at hf;cases hr:f ρ with
 |none=>rw[hr] at hf;cases hf
 |some r =>
  rw[hr,av] at hf;cases hf;exact⟨ρ,O,M,lad,r,hE,hr,fun v H' s q=>k v H' s (q.toR hE.ne).bb⟩
theorem b8 (i:Nat){x:Str}(hN:X.N[i]?=some x:=by rfl)(hv:L2.Vis X.env.scope x:=by first|exact Or.inl rfl|exact Or.inr (Or.inl rfl)|exact Or.inr (Or.inr rfl))(hd:(x==("__debug__" : Str))=false:=by decide)
  (hcd:(x==("__classdict__" : Str))=false:=by decide):DB X (.Name x pos) (b7 i):=(L2.pe_var hN hv hd hcd).imp fun σ H Q zz=>by
 obtain ⟨ρ,O,M,lad,d,hE,hf,k⟩:=zz;unfold b7 at hf;split at hf
 ·rename_i d' hr;cases hf;obtain⟨v,e1,q⟩:=hE.sh i _ hr;exact⟨v,e1,k v H (.refl H) q.bb⟩
 ·rename_i ds hr;cases hf;obtain⟨a,vs,e2,e3,e4,q⟩:=hE.ow i _ hr;exact⟨_,e2,k _ H (.refl H) (.inr (.inl ⟨a,ds,vs,rfl,rfl,e3,q⟩))⟩
 ·rename_i kvs hr;cases hf;obtain⟨a,es,e2,e3,e4,q,_⟩:=hE.dp.dc i kvs hr;exact⟨_,e2,k _ H (.refl H) (.inr (.inr ⟨a,kvs,es,rfl,rfl,e3,q⟩))⟩
 ·cases hf
theorem cg (i:Nat){x:Str}(hN:X.N[i]?=some x:=by rfl)(hv:L2.Vis X.env.scope x:=by first|exact Or.inl rfl|exact Or.inr (Or.inl rfl)|exact Or.inr (Or.inr rfl))(hd:(x==("__debug__" : Str))=false:=by decide)
  (hcd:(x==("__classdict__" : Str))=false:=by decide):DE X (.Name x pos) (cf i):=(L2.pe_var hN hv hd hcd).imp fun σ H Q zz=>by
 obtain ⟨ρ,O,M,lad,d,hE,hf,k⟩:=zz;unfold cf at hf;split at hf
 ·rename_i d' hr;cases hf;obtain⟨v,e1,q⟩:=hE.sh i _ hr;exact⟨v,e1,k v H (.refl H) (.of q)⟩
 ·cases hf
theorem Ih {d:D}{v:V}(h:PE X e (L2.tC v))(r:∀(H:Hp) (O:List Addr),R X.K H O d v):DE X e (dC d):=h.imp fun σ H Q zz=>by
 obtain ⟨ρ,O,M,lad,r',hE,hf,k⟩:=zz;cases hf;exact k v H (.refl H) (.of (r H O))
theorem cx {i j}:DE X (.Constant (.int i) j pos) (dC (.int i)):=Ih L2.pe_int fun _ _=>.int _
theorem lC {i j}:DE X (.Constant (.bool i) j pos) (dC (.bool i)):=Ih L2.pe_bl fun _ _=>.bool _
def OD (X:Cx)(r:L2.R2)(op:O2):Prop:=∀(x y:D) (vx vy:V) (H:Hp) (O:List Addr) (res:Vl) (Q:VK),(∀a∈O,H a≠none)->BR X.K H O x vx->BR X.K H O y vy->op x y=some res →
 (∀v H',de H H'->vE X.K H O H' res v->Q v H')->r vx vy H Q
theorem vl {r:L2.R2}{op:O2}(hd:OD X r op){σ:St}{H:Hp}{Q:VK}(h:uE X.K (d2 op fb gb) σ H Q):L2.tOp r (uB X.K fb) (uB X.K gb) σ H Q:=by
 obtain⟨ρ,O,M,lad,res,hE,hf,k⟩:=h;unfold d2 at hf;obtain⟨x,hx,hf⟩:=Option.bind_eq_some_iff.mp hf;obtain⟨y,hy,hf⟩:=Option.bind_eq_some_iff.mp hf;refine⟨ρ,O,M,lad,x,hE,hx,fun vx H1 s1 q1=>⟨ρ,O,M,lad,y,hE.same s1,hy,fun vy H2 s2 q2=>?_⟩⟩;exact hd x y vx vy H2 O res Q ((hE.same s1).same s2).ne (q1.same s2) q2 hf fun v H' s q=>k v H' ((s1.trans s2).trans s) (q.back (s1.trans s2))
theorem dD {op:Operator}{r:L2.R2}{o:O2}(ho:L2.OpR X (binaryOp op) r)(hd:OD X r o)(ha:DB X a fb)(hb:DB X b gb):DE X (.BinOp a op b pos) (d2 o fb gb) :=
 (L2.pe_op ho ha hb).imp fun _ _ _ h=>vl hd h
def UD (X:Cx)(r:V->Hp->VK->Prop)(op:D->Option Vl):Prop:=∀(x:D) (vx:V) (H:Hp) (O:List Addr) (res:Vl) (Q:VK),(∀a∈O,H a≠none)->BR X.K H O x vx->op x=some res →
 (∀v H',de H H'->vE X.K H O H' res v->Q v H')->r vx H Q
theorem CM {r:V->Hp->VK->Prop}{op:D->Option Vl}(hd:UD X r op){σ:St}{H:Hp}{Q:VK}(h:uE X.K (d1 op fb) σ H Q):L2.tUn r (uB X.K fb) σ H Q:=by
 obtain⟨ρ,O,M,lad,res,hE,hf,k⟩:=h;unfold d1 at hf;obtain⟨x,hx,hf⟩:=Option.bind_eq_some_iff.mp hf;refine⟨ρ,O,M,lad,x,hE,hx,fun vx H1 s1 q1=>?_⟩;exact hd x vx H1 O res Q (hE.same s1).ne q1 hf fun v H' s q=>k v H' (s1.trans s) (q.back s1)
theorem Ig {op:UnaryOp}{r:V->Hp->VK->Prop}{o:D->Option Vl}(ho:L2.UnR X (unaryOp op) r)(hd:UD X r o)(ha:DB X a fb):DE X (.UnaryOp op a pos) (d1 o fb) :=
 (L2.pe_un ho ha).imp fun _ _ _ h=>CM hd h
theorem cy:DA X [] cv:=L2.pa_nil.imp fun σ H Q zz=>by
 obtain ⟨ρ,O,M,lad,ds,hE,hf,k⟩:=zz;cases hf;exact k [] H (.refl H) .nil
theorem b6 {t:AD}(ha:DE X e f)(hr:DA X es t)(hs:starEach (e::es) X.env=(false,eval e X.env)::starEach es X.env:=by rfl):DA X (e::es) (b4 f t):=(L2.pa_cons ha hr hs).imp fun σ H Q zz=>by
 obtain ⟨ρ,O,M,lad,ds,hE,hf,k⟩:=zz;unfold b4 at hf;obtain⟨x,hx,hf⟩:=Option.bind_eq_some_iff.mp hf;obtain⟨xs,hy,hf⟩:=Option.bind_eq_some_iff.mp hf;cases hf;exact⟨ρ,O,M,lad,x,hE,hx,fun v H1 s1 q1=>⟨ρ,O,M,lad,xs,hE.same s1,hy,fun vs H2 s2 q2=>k _ H2 (s1.trans s2) (.cons ((q1.toR hE.ne).same s2) q2)⟩⟩
theorem eE {x1}{t:AD}(h:DA X es t):DE X (.Tuple es x1 pos) (dM t):=(L2.pe_tup h).imp fun σ H Q zz=>by
 obtain ⟨ρ,O,M,lad,r,hE,hf,k⟩:=zz;unfold dM at hf;obtain⟨xs,hx,hf⟩:=Option.bind_eq_some_iff.mp hf;split at hf
 ·rename_i hz;cases hf;refine⟨ρ,O,M,lad,xs,hE,hx,fun vs H1 s1 q1=>⟨by rw[<-q1.length];exact hz,fun p hp=>?_⟩⟩;have s2:de H1 (dY H1 p (.tup vs)):=fun b o e=>by rw[cC (cE e hp)];exact e
  exact k _ _ (s1.trans s2) (.of (.tuple (.inl (.inl cK)) (q1.same s2)))
 ·cases hf
theorem dX {t:AD}(h:DA X es t):DE X (.List es pos) (cW t):=(L2.pe_lst h).imp fun σ H Q zz=>by
 obtain ⟨ρ,O,M,lad,r,hE,hf,k⟩:=zz;unfold cW at hf;obtain⟨xs,hx,hf⟩:=Option.bind_eq_some_iff.mp hf;split at hf
 ·rename_i hz;cases hf;refine⟨ρ,O,M,lad,xs,hE,hx,fun vs H1 s1 q1=>⟨by rw[<-q1.length];exact hz,fun p hp=>?_⟩⟩;have s2:de H1 (dY H1 p (.lst vs)):=fun b o e=>by rw[cC (cE e hp)];exact e
  refine k _ _ (s1.trans s2) (.inr ⟨rfl,p,xs,vs,rfl,rfl,s1.free hp,cK,q1.ext (iJ.fresh s2 hp)⟩)
 ·cases hf
noncomputable def spD (K:Fg)(F:FD):L2.Sp:=fun vs H Q _=>∃ds O r,Rs K H O ds vs/\(∀a∈O,∃u,H a=some (oW u))/\F ds=some r/\∀v H',de H H'->vE K H O H' r v->Q v H'
theorem EA {k:Nat}{fa:Addr}{fd:FuncData}{ps:List Str}{F:FD}{x:Str}{p:Pos}{t:AD}(G:L2.FnOk X.prog X.w X.K X.mg X.base L2.CX0 k fa fd ps (spD X.K F))(hr:L2.Room k X.A)(hg:L2.Gl X x)(hm:X.mg x=some (.ref fa))(hk:PySem.W.keepIn X.K (.ref fa)=true)
  (hb:L2.Binds X.K fd ps []) (ha:DA X (e::es) t) (hdb:(x==("__debug__" : Str))=false:=by decide) (he:starEach (e::es) X.env=(false,eval e X.env)::starEach es X.env:=by rfl) (hpl:(backTo pos (starEach es X.env)).any (·.1)=false:=by rfl) :
  DE X (.Call (.Name x p) (e::es) [] pos) (cD F t):=by
 refine (L2.pe_call G hr hg hm hk hb (.nil:cT [] []) L2.pass0 ha hdb he hpl).imp fun σ H Q zz=>?_;obtain ⟨ρ,O,M,lad,r,hE,hf,k⟩:=zz;unfold cD at hf;obtain⟨ds,hx,hf⟩:=Option.bind_eq_some_iff.mp hf;refine⟨ρ,O,M,lad,ds,hE,hx,fun vs H1 s1 q1=>?_⟩;show spD X.K F (vs++[]) H1 Q L2.E0;rw[bj];exact⟨ds,O,r,q1,(hE.same s1).tr,hf,fun v H' s q=>k v H' (s1.trans s) (q.back s1)⟩
theorem CU {d:D}{c:Bool}(h:zT d=some c):d=.bool c:=by
 cases d <;> first|(cases h;rfl)|cases h
theorem vE.bool {K:Fg}{H H':Hp}{O:List Addr}{r:Vl}{v:V}{c:Bool}(h:vE K H O H' r v)(e:zT r.1=some c):v=.bl c:=by
 have e':=CU e;rcases h with ⟨_,h⟩|⟨_,a,ds,vs,e1,_⟩
 ·rw[e'] at h;cases h;rfl
 ·rw[e'] at e1;cases e1
theorem GG {op}(h:DE X a f):DE X (.BoolOp op [a] pos) f:=L2.pe_one h
theorem GJ {fN:List Expr}(ha:DE X a f)(hb:DE X (.BoolOp .And (b::fN) pos) g):DE X (.BoolOp .And (a::b::fN) pos) (EC f g):=(L2.pe_and ha hb).imp fun σ H Q zz=>by
 obtain ⟨ρ,O,M,lad,r,hE,hf,k⟩:=zz;unfold EC at hf;obtain⟨x,hx,hf⟩:=Option.bind_eq_some_iff.mp hf;obtain⟨c,hc,hf⟩:=Option.bind_eq_some_iff.mp hf;refine⟨ρ,O,M,lad,x,hE,hx,fun v H1 s1 q1=>⟨c,q1.bool hc,?_⟩⟩;cases c with
 |true =>
  rw[if_pos rfl] at hf ⊢;exact⟨ρ,O,M,lad,r,hE.same s1,hf,fun v H' s q=>k v H' (s1.trans s) (q.back s1)⟩
 |false =>
  rw[if_neg Bool.false_ne_true] at hf ⊢;cases hf;exact k _ H1 s1 (.of (.bool _))
theorem GH (ha:DE X a f):DE X (.UnaryOp .Not a pos) (EB f):=(L2.pe_not ha).imp fun σ H Q zz=>by
 obtain ⟨ρ,O,M,lad,r,hE,hf,k⟩:=zz;unfold EB at hf;obtain⟨x,hx,hf⟩:=Option.bind_eq_some_iff.mp hf;obtain⟨c,hc,hf⟩:=Option.bind_eq_some_iff.mp hf;cases hf;exact⟨ρ,O,M,lad,x,hE,hx,fun v H1 s1 q1=>⟨c,q1.bool hc,k _ H1 s1 (.of (.bool _))⟩⟩
theorem pJ (h:DE X e f)(he:∀whole,isTrue e X.env whole=(do let v <-whole;standAt e.pos;holding [v] (truthy v)):=by intro _;rfl):DT X e (sT f):=(L2.pt_val h he).imp fun σ H Q zz=>by
 obtain ⟨ρ,O,M,lad,c,hE,hf,k⟩:=zz;unfold sT at hf;obtain⟨x,hx,hf⟩:=Option.bind_eq_some_iff.mp hf;exact⟨ρ,O,M,lad,x,hE,hx,fun v H1 s1 q1=>⟨c,q1.bool hf,k H1 s1⟩⟩
def DW (X:Cx)(e:Expr)(f:TD):Prop:=L2.PW X e (uT X.K f)
theorem _root_.L2.PW.imp {X:Cx}{e:Expr}{t t':TT}(h:L2.PW X e t)(i:∀σ H Q,t' σ H Q->t σ H Q):L2.PW X e t':=fun whole pins s σ H Q I q=>h whole pins s σ H Q I (i σ H Q q)
theorem zE (ha:DT X a t):DW X (.BoolOp .And [a] pos) t:=L2.pw_and1 ha
theorem vf (ha:DT X a t):DW X (.BoolOp .Or [a] pos) t:=L2.pw_or1 ha
theorem DW.tt (h:DW X e t):DT X e t:=h _
theorem Cs {fN:List Expr}(ha:DT X a t)(hb:DW X (.BoolOp .And (b::fN) pos) u):DW X (.BoolOp .And (a::b::fN) pos) (qf t u):=(L2.pw_and ha hb).imp fun σ H Q zz=>by
 obtain ⟨ρ,O,M,lad,r,hE,hf,k⟩:=zz;unfold qf at hf;obtain⟨c,hx,hf⟩:=Option.bind_eq_some_iff.mp hf;refine⟨ρ,O,M,lad,c,hE,hx,fun H1 s1=>?_⟩;cases c with
 |true =>
  rw[if_pos rfl] at hf ⊢;exact⟨ρ,O,M,lad,r,hE.same s1,hf,fun H' s=>k H' (s1.trans s)⟩
 |false =>
  rw[if_neg Bool.false_ne_true] at hf ⊢;cases hf;exact k H1 s1
theorem zD {fN:List Expr}(ha:DT X a t)(hb:DW X (.BoolOp .Or (b::fN) pos) u):DW X (.BoolOp .Or (a::b::fN) pos) (xH t u):=(L2.pw_or ha hb).imp fun σ H Q zz=>by
 obtain ⟨ρ,O,M,lad,r,hE,hf,k⟩:=zz;unfold xH at hf;obtain⟨c,hx,hf⟩:=Option.bind_eq_some_iff.mp hf;refine⟨ρ,O,M,lad,c,hE,hx,fun H1 s1=>?_⟩;cases c with
 |false =>
  rw[if_neg Bool.false_ne_true] at hf ⊢;exact⟨ρ,O,M,lad,r,hE.same s1,hf,fun H' s=>k H' (s1.trans s)⟩
 |true =>
  rw[if_pos rfl] at hf ⊢;cases hf;exact k H1 s1
theorem pK (ha:DT X a t):DT X (.UnaryOp .Not a pos) (kj t):=(L2.pt_not ha).imp fun σ H Q zz=>by
 obtain ⟨ρ,O,M,lad,r,hE,hf,k⟩:=zz;unfold kj at hf;obtain⟨c,hx,hf⟩:=Option.bind_eq_some_iff.mp hf;cases hf;exact⟨ρ,O,M,lad,c,hE,hx,fun H1 s1=>k H1 s1⟩
def CD (X:Cx)(r:L2.R2)(op:C2):Prop:=∀(x y:D) (vx vy:V) (H:Hp) (O:List Addr) (c:Bool) (Q:VK),BR X.K H O x vx->BR X.K H O y vy->op x y=some c->Q (.bl c) H->r vx vy H Q
theorem GU {r:L2.R2}{op:C2}(hd:CD X r op){ρ:Sl}{O M:List Addr}{lad:Nat->Addr}{k:Bool}{σ:St}{H:Hp}{Q:VK}(hE:ER X.K H O M lad ρ σ)(hf:dk fb [(op,gb)] ρ=some k)(q:∀H',de H H'->Q (.bl k) H'):L2.tOp r (uB X.K fb) (uB X.K gb) σ H Q:=by
 unfold dk tChain at hf;obtain⟨x,hx,hf⟩:=Option.bind_eq_some_iff.mp hf;obtain⟨y,hy,hf⟩:=Option.bind_eq_some_iff.mp hf;exact⟨ρ,O,M,lad,x,hE,hx,fun vx H1 s1 q1=>⟨ρ,O,M,lad,y,hE.same s1,hy,fun vy H2 s2 q2=>hd x y vx vy H2 O k Q (q1.same s2) q2 hf (q H2 (s1.trans s2))⟩⟩
theorem fU {op:CmpOp}{r:L2.R2}{o:C2}(ho:L2.OpR X (compareOp op) r)(hd:CD X r o)(ha:DB X a fb)(hb:DB X b gb)(hm:behindInMarks op b=false:=by first|exact L2.nomark _|with_unfolding_all rfl):DT X (.Compare a [op] [b] pos) (dk fb [(o,gb)]) :=
 (L2.pt_cmpR ho ha hb hm).imp fun σ H Q ⟨ρ,O,M,lad,c,hE,hf,k⟩=>GU hd hE hf fun H' s=>⟨c,rfl,k H' s⟩
theorem GS {r r':L2.R2}{op op':C2}(hd:CD X r op)(hd':CD X r' op'){ρ:Sl}{O M:List Addr}{lad:Nat->Addr}{k:Bool}{σ:St}{H:Hp}{Q:VK}(hE:ER X.K H O M lad ρ σ)(hf:dk fb [(op,gb),(op',hb)] ρ=some k)(q:∀H',de H H'->Q (.bl k) H') :
  L2.tChain r r' (uB X.K fb) (uB X.K gb) (uB X.K hb) σ H Q:=by
 unfold dk tChain at hf;obtain⟨x,hx,hf⟩:=Option.bind_eq_some_iff.mp hf;obtain⟨y,hy,hf⟩:=Option.bind_eq_some_iff.mp hf;obtain⟨c,hc,hf⟩:=Option.bind_eq_some_iff.mp hf;refine⟨ρ,O,M,lad,x,hE,hx,fun vx H1 s1 q1=>⟨ρ,O,M,lad,y,hE.same s1,hy,fun vy H2 s2 q2=>hd x y vx vy H2 O c _ (q1.same s2) q2 hc ⟨c,rfl,?_⟩⟩⟩;cases c with
 |false =>
  rw[if_neg Bool.false_ne_true] at hf ⊢;cases hf;exact q H2 (s1.trans s2)
 |true =>
  rw[if_pos rfl] at hf ⊢;unfold tChain at hf;obtain⟨z,hz,hf⟩:=Option.bind_eq_some_iff.mp hf;exact⟨ρ,O,M,lad,z,(hE.same s1).same s2,hz,fun vz H3 s3 q3=>hd' y z vy vz H3 O k Q (q2.same s3) q3 hf (q H3 ((s1.trans s2).trans s3))⟩
theorem Ib {op op':CmpOp}{r r':L2.R2}{o o':C2}(ho:L2.OpR X (compareOp op) r)(hd:CD X r o)(ho':L2.OpR X (compareOp op') r')(hd':CD X r' o')(ha:DB X a fb)(hb':DB X b gb)(hc:DB X c hb)(hm:lastMarks [op,op'] [b,c]=false:=by with_unfolding_all rfl) :
  DT X (.Compare a [op,op'] [b,c] pos) (dk fb [(o,gb),(o',hb)]):=(L2.pt_chain ho ho' ha hb' hc hm).imp fun σ H Q ⟨ρ,O,M,lad,c,hE,hf,k⟩=>GS hd hd' hE hf fun H' s=>⟨c,rfl,k H' s⟩
end
structure gJ (M:List Addr)(H:Hp)(M':List Addr)(H':Hp):Prop where
 keep:∀b o,b∉M->H b=some o->H' b=some o
 tup:∀b xs,H b=some (.tup xs)->H' b=some (.tup xs)
 frz:∀b o u,H b=some (.frz o u)->H' b=some (.frz o u)
 new:∀b∈M',b∈M\/H b=none
 there:∀b,H b≠none->H' b≠none
theorem gJ.refl (M:List Addr)(H:Hp):gJ M H M H:=⟨fun _ _ _ e=>e,fun _ _ e=>e,fun _ _ _ e=>e,fun _ h=>.inl h,fun _ h=>h⟩
theorem gJ.same {M:List Addr}{H H':Hp}(s:de H H'):gJ M H M H':=⟨fun b o _ e=>s b o e,fun b _ e=>s b _ e,fun b _ _ e=>s b _ e,fun _ h=>.inl h,fun b h z=>by
 cases e:H b with
 |none=>exact h e
 |some o=>rw[s b o e] at z;cases z⟩
theorem gJ.trans {M M1 M2:List Addr}{H H1 H2:Hp}(a:gJ M H M1 H1)(b:gJ M1 H1 M2 H2):gJ M H M2 H2 where
 keep:=fun c o n e=>b.keep c o (fun z=>(a.new c z).elim n fun q=>by rw[q] at e;cases e) (a.keep c o n e)
 tup:=fun c xs e=>b.tup c xs (a.tup c xs e)
 frz:=fun c o u e=>b.frz c o u (a.frz c o u e)
 new:=fun c hc=>by
  rcases b.new c hc with z|z
  ·exact a.new c z
  ·refine .inr ?_;cases e:H c with
   |none=>rfl
   |some o=>exact absurd z (a.there c (by rw[e];simp))
 there:=fun c h=>b.there c (a.there c h)
theorem gJ.ext {M M' B:List Addr}{H H':Hp}(a:gJ M H M' H'):iJ M (M++B) H (M'++B) H' where
 sub:=fun b hb=>aU _ hb
 tup:=a.tup
 frz:=a.frz
 lst:=fun b xs n e=>a.keep b _ n e
 ext:=fun b φ n e=>a.keep b _ n e
 new:=fun b hb=>(List.mem_append.mp hb).elim (fun z=>(a.new b z).elim (fun q=>.inl (aU _ q)) .inr) fun z=>.inl (aM _ z)
def SR (K:Fg)(B:List Addr)(H₀:Hp)(M₀:List Addr)(lad:Nat->Addr)(ρ:Sl)(σ:St)(H:Hp):Prop:=∃M,gJ M₀ H₀ M H/\(∀a∈M,a∉B)/\ER K H (M++B) M lad ρ σ
noncomputable def zU (K:Fg)(B:List Addr)(H₀:Hp)(M₀:List Addr)(H':Hp)(r:Vl)(v:V):Prop :=
 (∃M',gJ M₀ H₀ M' H')/\((r.2=false/\R K H' B r.1 v)\/(r.2=true/\∃a ds vs,r.1=.list ds/\v=.ref a/\(a∈M₀\/H₀ a=none)/\H' a=some (.lst vs)/\Rs K H' (a::B) ds vs))
noncomputable def Ir (K:Fg)(B:List Addr)(H₀:Hp)(M₀:List Addr)(lad:Nat->Addr)(E:jQ):Fl->Prop
 |.next ρ=>∀σ H,SR K B H₀ M₀ lad ρ σ H->E.nx σ H
 |.brk ρ=>∀σ H,SR K B H₀ M₀ lad ρ σ H->E.bk σ H
 |.cont ρ=>∀σ H,SR K B H₀ M₀ lad ρ σ H->E.ct σ H
 |.ret r=>∀v H,zU K B H₀ M₀ H r v->E.rt v H
noncomputable def uS (K:Fg)(B:List Addr)(H₀:Hp)(M₀:List Addr)(lad:Nat->Addr)(F:SD):TS:=fun E σ H=>∃ρ fl,SR K B H₀ M₀ lad ρ σ H/\F ρ=some fl/\Ir K B H₀ M₀ lad E fl
def DS (X:Cx)(st:Stmt)(F:SD):Prop:=∀B H₀ M₀ lad,PS X st (uS X.K B H₀ M₀ lad F)
def C1 (X:Cx)(st:List Stmt)(F:SD):Prop:=∀B H₀ M₀ lad,PSs X st (uS X.K B H₀ M₀ lad F)
theorem kR {a b:Addr}{M B:List Addr}(h:a∈(b::M)++B):a=b\/a∈M++B:=by
 rw[JI] at h;exact List.mem_cons.mp h
theorem ER.set {K:Fg}{H H':Hp}{B M:List Addr}{lad:Nat->Addr}{ρ:Sl}{σ:St}{r:Vl}{v:V}(i:Nat)(h:ER K H (M++B) M lad ρ σ)(hB:∀a∈M,a∉B)(s:de H H')(q:vE K H (M++B) H' r v) :
  ∃M',gJ M H M' H'/\(∀a∈M',a∉B)/\ER K H' (M'++B) M' lad (ρ.set i (some r)) (σ.set i (some v)):=by
 have h':=h.same s;by_cases hi:i<ρ.length
 ·have hi':i<σ.length:=by rw[<-h.len];exact hi
  obtain⟨d,o⟩:=r;rcases q with ⟨e,q⟩|⟨e,a,ds,vs,e1,e2,e3,e4,q⟩
  ·cases e;have out:∀{j:Nat}{x:Vl},x.2=true->(ρ.set i (some (d,false)))[j]?=some (some x)->i≠j:=fun {j x} hx ej z=>by subst z;rw[ay hi] at ej;cases ej;cases hx
   refine⟨M,.same s,hB,⟨fun j d' ej=>?_,fun j d' ej=>?_,fun j d' ej=>?_,fun j k d' e' a e1 e2 e3 e4=>?_,h'.tr,h'.sub,by rw[bf,bf];exact h.len,h'.dp.go (.same (.refl _)) (fun j es ej=>?_) (fun b hb _=>⟨hb,fun _ e=>e⟩) fun j es c ej ec=>.inr ?_⟩⟩
   ·by_cases hj:i=j
    ·subst hj;rw[ay hi] at ej;cases ej;exact⟨v,ay hi',q⟩
    ·rw[ai hj] at ej ⊢;exact h'.sh j d' ej
   ·have hj:=out rfl ej;rw[ai hj] at ej ⊢;exact h'.ow j d' ej
   ·have hj:=out rfl ej;rw[ai hj] at ej ⊢;exact h'.le j d' ej
   ·have nj:=out rfl e1;have nk:=out rfl e2;rw[ai nj] at e1 e3;rw[ai nk] at e2 e4;exact h'.ap j k d' e' a e1 e2 e3 e4
   ·have nj:=out rfl ej;rw[ai nj] at ej;exact⟨ej,ai nj⟩
   ·have nj:=out rfl ej;rw[ai nj] at ej ec;exact⟨j,es,ej,ec⟩
  ·cases e;have e1':d=.list ds:=e1;subst e1' e2;have x:iJ [] (M++B) H ((a::M)++B) H':=iJ.fresh s e3;have notIn:∀b,b∈M++B->b≠a:=fun b hb z=>h.ne b hb (z▸e3);refine⟨a::M,⟨fun b o _ e=>s b o e,fun b _ e=>s b _ e,fun b _ _ e=>s b _ e,fun b hb=>(List.mem_cons.mp hb).elim (fun z=>.inr (z▸e3)) .inl,(gJ.same (M:=M) s).there⟩,fun b hb=>(List.mem_cons.mp hb).elim (fun z hbB=>h.ne a (aM _ (z▸hbB)) e3) (hB b),
    ⟨fun j d' ej=>?_,fun j d' ej=>?_,fun j d' ej=>?_,fun j k d' e' b e1 e2 e3' e4'=>?_,fun b hb=>?_,fun b hb=>?_,by rw[bf,bf];exact h.len,h.dp.go x (fun j es ej=>?_) (fun b hb _=>⟨aH _ hb,fun _ e=>s _ _ e⟩) fun j es c ej ec=>?_⟩⟩
   ·by_cases hj:i=j
    ·subst hj;rw[ay hi] at ej;cases ej
    ·rw[ai hj] at ej ⊢;obtain⟨w,e5,q5⟩:=h.sh j d' ej;exact⟨w,e5,q5.ext x⟩
   ·by_cases hj:i=j
    ·subst hj;rw[ay hi] at ej;cases ej;exact⟨a,vs,ay hi',e4,aQ,q⟩
    ·rw[ai hj] at ej ⊢;obtain⟨b,us,e6,e7,e8,q5⟩:=h.ow j d' ej;exact⟨b,us,e6,s _ _ e7,aH _ e8,q5.ext x⟩
   ·have hj:i≠j:=fun z=>by subst z;rw[ay hi] at ej;cases ej
    rw[ai hj] at ej ⊢;obtain⟨e6,us,e7,e8,e9,q5⟩:=h.le j d' ej;exact⟨e6,us,s _ _ e7,aH _ e8,fun z=>(List.mem_cons.mp z).elim (fun z=>notIn _ e8 z) e9,q5.ext x⟩
   ·by_cases hj:i=j
    ·subst hj;by_cases hk:i=k
     ·exact hk
     ·rw[ay hi'] at e3';cases e3';rw[ai hk] at e2 e4';obtain⟨b,us,e6,e7,e8,q5⟩:=h.ow k e' e2;rw[e4'] at e6;cases e6;exact absurd rfl (notIn _ (aU _ e8))
    ·by_cases hk:i=k
     ·subst hk;rw[ay hi'] at e4';cases e4';rw[ai hj] at e1 e3';obtain⟨b,us,e6,e7,e8,q5⟩:=h.ow j d' e1;rw[e3'] at e6;cases e6;exact absurd rfl (notIn _ (aU _ e8))
     ·rw[ai hj] at e1 e3';rw[ai hk] at e2 e4';exact h'.ap j k d' e' b e1 e2 e3' e4'
   ·rcases kR hb with z|z
    ·subst z;exact⟨.inl vs,e4⟩
    ·exact h'.tr b z
   ·rcases List.mem_cons.mp hb with z|z
    ·subst z;exact aU _ aQ
    ·exact aU _ (aH _ z)
   ·have nj:i≠j:=fun z=>by subst z;rw[ay hi] at ej;cases ej
    rw[ai nj] at ej;exact⟨ej,ai nj⟩
   ·by_cases hj:i=j
    ·subst hj;rw[ay hi'] at ec;cases ec;exact .inl fun z=>notIn _ (aU _ z) rfl
    ·rw[ai hj] at ej ec;exact .inr ⟨j,es,ej,ec⟩
 ·refine⟨M,.same s,hB,?_⟩;rw[JK ⋯,JK (by rw[<-h.len];omega)];exact h'
section
variable {X:Cx}{e a b c:Expr}{es:List Expr}{f g:ED}{fb gb hb:BD}{t u:TD}{pos:Pos}{st:Stmt}{fN sts:List Stmt}{F G:SD}
theorem eW:C1 X [] fM:=fun B H₀ M₀ lad=>L2.pss_nil.imp fun E σ H zz=>by
 obtain ⟨ρ,fl,hR,hf,k⟩:=zz;cases hf;exact k σ H hR
theorem cp (h1:DS X st F)(h2:C1 X fN G):C1 X (st::fN) (cG F G):=fun B H₀ M₀ lad=>(L2.pss_cons (h1 B H₀ M₀ lad) (h2 B H₀ M₀ lad)).imp fun E σ H zz=>by
 obtain ⟨ρ,fl,hR,hf,k⟩:=zz;unfold cG at hf;obtain⟨fl1,hx,hf⟩:=Option.bind_eq_some_iff.mp hf;refine⟨ρ,fl1,hR,hx,?_⟩;cases fl1 with
 |next ρ'=>exact fun σ' H' r=>⟨ρ',fl,r,hf,k⟩
 |ret r=>cases hf;exact k
 |brk ρ'=>cases hf;exact k
 |cont ρ'=>cases hf;exact k
theorem cz (h1:DS X st F):C1 X [st] F:=fun B H₀ M₀ lad=>L2.pss_one (h1 B H₀ M₀ lad)
theorem g9 (hc:DT X c t)(ha:C1 X sts F)(hb:C1 X fN G):DS X (.If c sts fN pos) (i9 t F G):=fun B H₀ M₀ lad=>(L2.ps_if hc (ha B H₀ M₀ lad) (hb B H₀ M₀ lad)).imp fun E σ H zz=>by
 obtain ⟨ρ,fl,⟨M,hx,hB,hE⟩,hf,k⟩:=zz;unfold i9 at hf;obtain⟨c,ht,hf⟩:=Option.bind_eq_some_iff.mp hf;refine⟨ρ,_,M,lad,c,hE,ht,fun H1 s1=>?_⟩;have hR:SR X.K B H₀ M₀ lad ρ σ H1:=⟨M,hx.trans (.same s1),hB,hE.same s1⟩;cases c with
 |true=>dsimp only at hf ⊢;rw[if_pos rfl] at hf ⊢;exact⟨ρ,fl,hR,hf,k⟩
 |false=>dsimp only at hf ⊢;rw[if_neg Bool.false_ne_true] at hf ⊢;exact⟨ρ,fl,hR,hf,k⟩
theorem za {i:Nat}{B:List Addr}{H₀:Hp}{M₀:List Addr}{lad:Nat->Addr}{E:jQ}{σ:St}{H:Hp}(h:uS X.K B H₀ M₀ lad (cF i f) E σ H):L2.tAsg (uE X.K f) (L2.gName i) E σ H:=by
 obtain⟨ρ,fl,⟨M,hx,hB,hE⟩,hf,k⟩:=h;unfold cF at hf;obtain⟨r,hr,hf⟩:=Option.bind_eq_some_iff.mp hf;cases hf;refine⟨ρ,_,M,lad,r,hE,hr,fun v H1 s1 q1=>?_⟩;obtain⟨M',x',B',E'⟩:=hE.set i hB s1 q1;exact k _ _ ⟨M',hx.trans x',B',E'⟩
theorem cM {i:Nat}{x:Str}{pos':Pos}(hN:X.N.Nodup)(he:DE X e f)(hi:X.N[i]?=some x:=by rfl)(hx:L2.Loc X.env.scope x:=by first|exact Or.inl rfl|exact Or.inr rfl)(hs:swapsWith e (some (.Name x pos')) pos.line X.env=pure false:=by rfl)(hf:X.fn x=true\/X.env.scope.names.lookup x=some .local:=by first|exact .inl rfl|exact .inr rfl|assumption) :
  DS X (.Assign [.Name x pos'] e pos) (cF i f):=fun B H₀ M₀ lad=>(L2.ps_set hN hi hx he hs hf).imp fun E σ H h=>za h
theorem dF (he:DE X e f):DS X (.Return (some e) pos) (dI f):=fun B H₀ M₀ lad=>(L2.ps_ret he).imp fun E σ H zz=>by
 obtain ⟨ρ,fl,⟨M,hx,hB,hE⟩,hf,k⟩:=zz;unfold dI at hf;cases hr:f ρ with
 |none=>rw[hr] at hf;cases hf
 |some r =>
  rw[hr,av] at hf;cases hf;refine⟨ρ,_,M,lad,r,hE,hr,fun v H1 s1 q1=>k v H1 ⟨⟨M,hx.trans (.same s1)⟩,?_⟩⟩;rcases q1 with ⟨e,q⟩|⟨e,a,ds,vs,e1,e2,e3,e4,q⟩
  ·exact .inl ⟨e,q.ext (.less fun b hb=>aM _ hb)⟩
  ·refine .inr ⟨e,a,ds,vs,e1,e2,.inr ?_,e4,q.ext (.less fun b hb=>(List.mem_cons.mp hb).elim (fun z=>z▸aQ) fun z=>aH _ (aM _ z))⟩;cases e5:H₀ a with
   |none=>rfl
   |some o=>exact absurd e3 (hx.there a (by rw[e5];simp))
theorem k5 (i:Nat){x:Str}{pos':Pos}(hN:X.N[i]?=some x:=by rfl)(hv:L2.Vis X.env.scope x:=by first|exact Or.inl rfl|exact Or.inr (Or.inl rfl)|exact Or.inr (Or.inr rfl))(hd:(x==("__debug__" : Str))=false:=by decide)
  (hcd:(x==("__classdict__" : Str))=false:=by decide):DS X (.Return (some (.Name x pos')) pos) (lx i):=fun B H₀ M₀ lad=>(L2.ps_ret (L2.pe_var hN hv hd hcd)).imp fun E σ H zz=>by
 obtain ⟨ρ,fl,⟨M,hx,hB,hE⟩,hf,k⟩:=zz;unfold lx at hf;split at hf
 ·rename_i d hr;cases hf;obtain⟨v,e1,q⟩:=hE.sh i _ hr;exact⟨v,e1,k v H ⟨⟨M,hx⟩,.inl ⟨rfl,q.ext (.less fun b hb=>aM _ hb)⟩⟩⟩
 ·rename_i ds hr;cases hf;obtain⟨a,vs,e2,e3,e4,q⟩:=hE.ow i _ hr;exact⟨_,e2,k _ H ⟨⟨M,hx⟩,.inr ⟨rfl,a,ds,vs,rfl,rfl,hx.new a e4,e3,q.ext (.less fun b hb=>(List.mem_cons.mp hb).elim (fun z=>z▸aU _ e4) fun z=>aM _ z)⟩⟩⟩
 ·cases hf
theorem ER.share {K:Fg}{H:Hp}{B M:List Addr}{lad:Nat->Addr}{ρ:Sl}{σ:St}(i:Nat)(h:ER K H (M++B) M lad ρ σ)(hB:∀a∈M,a∉B):∃M',(∀a∈M',a∈M)/\ER K H (M'++B) M' lad (share i ρ) σ:=by
 unfold DL.share;split
 ·rename_i ds hr;have hi:i<ρ.length:=(List.getElem?_eq_some_iff.mp hr).1;obtain⟨a,vs,e2,e3,e4,q⟩:=h.ow i _ hr;have sub:∀b∈M.filter (fun b=>decide (b≠a))++B,b∈M++B:=fun b hb=>(List.mem_append.mp hb).elim (fun z=>aU _ (List.mem_filter.mp z).1) fun z=>aM _ z;have out:∀{j:Nat}{x:Vl},x.2=true->(ρ.set i (some (.list ds,false)))[j]?=some (some x)->i≠j:=fun {j x} hx ej z=>by subst z;rw[ay hi] at ej;cases ej;cases hx
  refine⟨M.filter (fun b=>decide (b≠a)),fun b hb=>(List.mem_filter.mp hb).1,⟨fun j d' ej=>?_,fun j d' ej=>?_,fun j d' ej=>?_,fun j k d' e' b e5 e6 e7 e8=>?_,fun b hb=>h.tr b (sub b hb),fun b hb=>aU _ hb,by rw[bf];exact h.len,h.dp.go (.less sub) (fun j es ej=>?_) (fun b hb nb=>⟨List.mem_filter.mpr ⟨hb,decide_eq_true fun z=>nb i _ hr (by rw[z];exact e2)⟩,fun _ e=>e⟩) fun j es c ej ec=>.inr ?_⟩⟩
  ·by_cases hj:i=j
   ·subst hj;rw[ay hi] at ej;cases ej;refine⟨_,e2,.list (.inl ⟨e3,fun z=>?_⟩) (q.ext (.less sub))⟩;rcases List.mem_append.mp z with z|z
    ·exact absurd rfl (of_decide_eq_true (List.mem_filter.mp z).2)
    ·exact hB a e4 z
   ·rw[ai hj] at ej;obtain⟨v,e5,q5⟩:=h.sh j d' ej;exact⟨v,e5,q5.ext (.less sub)⟩
  ·have hj:=out rfl ej;rw[ai hj] at ej;obtain⟨b,us,e6,e7,e8,q5⟩:=h.ow j d' ej;refine⟨b,us,e6,e7,List.mem_filter.mpr ⟨e8,decide_eq_true fun z=>?_⟩,q5.ext (.less sub)⟩;subst z;exact hj (h.ap i j _ d' b hr ej e2 e6)
  ·have hj:=out rfl ej;rw[ai hj] at ej;obtain⟨e6,us,e7,e8,e9,q5⟩:=h.le j d' ej;refine⟨e6,us,e7,?_,fun z=>e9 (List.mem_filter.mp z).1,q5.ext (.less sub)⟩;exact (List.mem_append.mp e8).elim (fun z=>absurd z e9) fun z=>aM _ z
  ·have nj:=out rfl e5;have nk:=out rfl e6;rw[ai nj] at e5;rw[ai nk] at e6;exact h.ap j k d' e' b e5 e6 e7 e8
  ·have nj:=out rfl ej;rw[ai nj] at ej;exact⟨ej,rfl⟩
  ·have nj:=out rfl ej;rw[ai nj] at ej;exact⟨j,es,ej,ec⟩
 ·exact⟨M,fun _ h=>h,h⟩
theorem SR.share {K:Fg}{B:List Addr}{H₀:Hp}{M₀:List Addr}{lad:Nat->Addr}{ρ:Sl}{σ:St}{H:Hp}(i:Nat)(h:SR K B H₀ M₀ lad ρ σ H):SR K B H₀ M₀ lad (DL.share i ρ) σ H:=by
 obtain⟨M,hx,hB,hE⟩:=h;obtain⟨M',sub,E'⟩:=hE.share i hB;exact⟨M',⟨hx.keep,hx.tup,hx.frz,fun b hb=>hx.new b (sub b hb),hx.there⟩,fun a ha=>hB a (sub a ha),E'⟩
theorem rM (i:Nat)(h:DS X st F):DS X st (j5 i F):=fun B H₀ M₀ lad=>(h B H₀ M₀ lad).imp fun E σ H ⟨ρ,fl,hR,hf,k⟩=>⟨_,fl,hR.share i,hf,k⟩
theorem ER.mut {K:Fg}{H:Hp}{B M:List Addr}{lad:Nat->Addr}{ρ:Sl}{σ:St}{i:Nat}{ds ds':List D}{a:Addr}{vs':List V}(h:ER K H (M++B) M lad ρ σ)(hr:ρ[i]?=some (some (.list ds,true)))(hσ:σ[i]?=some (some (.ref a)))(q:Rs K H (M++B) ds' vs') :
  gJ M H M (dY H a (.lst vs'))/\ER K (dY H a (.lst vs')) (M++B) M lad (ρ.set i (some (.list ds',true))) σ:=by
 obtain⟨a',us,e2,e3,e4,q0⟩:=h.ow i _ hr;rw[hσ] at e2;cases e2;have hi:i<ρ.length:=(List.getElem?_eq_some_iff.mp hr).1;have x:gJ M H M (dY H a (.lst vs')):=by
  refine⟨fun b o n e=>?_,fun b xs e=>?_,fun b o u e=>?_,fun b hb=>.inl hb,fun b hb=>?_⟩
  ·rw[cC (fun (z:b=a)=>n (by rw[z];exact e4))];exact e
  ·rw[cC (fun z=>by subst z;rw[e3] at e;cases e)];exact e
  ·rw[cC (fun z=>by subst z;rw[e3] at e;cases e)];exact e
  ·by_cases hz:b=a
   ·subst hz;rw[cK];simp
   ·rw[cC hz];exact hb
 have x':iJ M (M++B) H (M++B) (dY H a (.lst vs')):=x.ext;refine⟨x,⟨fun j d' ej=>?_,fun j d' ej=>?_,fun j d' ej=>?_,fun j k d' e' b e5 e6 e7 e8=>?_,fun b hb=>?_,h.sub,by rw[bf];exact h.len,h.dp.go x' (fun j es ej=>?_) (fun b hb nb=>⟨hb,fun _ e=>by rw[cC (fun (z:b=a)=>nb i _ hr (by rw[z];exact hσ))];exact e⟩) fun j es c ej ec=>.inr ?_⟩⟩
 ·have nj:i≠j:=fun z=>by subst z;rw[ay hi] at ej;cases ej
  rw[ai nj] at ej;obtain⟨v,e5,q5⟩:=h.sh j d' ej;exact⟨v,e5,q5.ext x'⟩
 ·by_cases hj:i=j
  ·subst hj;rw[ay hi] at ej;cases ej;exact⟨a,vs',hσ,cK,e4,q.ext x'⟩
  ·rw[ai hj] at ej;obtain⟨b,us',e6,e7,e8,q5⟩:=h.ow j d' ej;refine⟨b,us',e6,?_,e8,q5.ext x'⟩;rw[cC (fun (z:b=a)=>hj (h.ap i j _ d' b hr ej (by rw[z];exact hσ) e6))];exact e7
 ·have nj:i≠j:=fun z=>by subst z;rw[ay hi] at ej;cases ej
  rw[ai nj] at ej;obtain⟨e6,us',e7,e8,e9,q5⟩:=h.le j d' ej;refine⟨e6,us',?_,e8,e9,q5.ext x'⟩;rw[cC (fun (z:lad j=a)=>e9 (by rw[z];exact e4))];exact e7
 ·by_cases hj:i=j
  ·by_cases hk:i=k
   ·exact hj.symm.trans hk
   ·subst hj;rw[ai hk] at e6;exact h.ap i k _ e' b hr e6 e7 e8
  ·rw[ai hj] at e5;by_cases hk:i=k
   ·subst hk;exact h.ap j i d' _ b e5 hr e7 e8
   ·rw[ai hk] at e6;exact h.ap j k d' e' b e5 e6 e7 e8
 ·by_cases hz:b=a
  ·subst hz;exact⟨.inl vs',cK⟩
  ·rw[cC hz];exact h.tr b hb
 ·have nj:i≠j:=fun z=>by subst z;rw[ay hi] at ej;cases ej
  rw[ai nj] at ej;exact⟨ej,rfl⟩
 ·by_cases hj:i=j
  ·subst hj;exact⟨i,ds,hr,ec⟩
  ·rw[ai hj] at ej;exact⟨j,es,ej,ec⟩
theorem pd {i:Nat}{h:List D->Option (List D)}{ρ:Sl}{fl:Fl}(e:lE i h ρ=some fl):∃xs ys,ρ[i]?=some (some (.list xs,true))/\h xs=some ys/\fl=.next (ρ.set i (some (.list ys,true))):=by
 unfold lE at e;split at e
 ·rename_i xs hr;cases hy:h xs with
  |none=>rw[hy] at e;cases e
  |some ys =>
   rw[hy] at e;cases e;exact⟨xs,ys,hr,hy,rfl⟩
 ·cases e
theorem gH {i:Nat}{x:Str}{p1 p2 p3:Pos}(he:DE X e f)(hN:X.N[i]?=some x:=by rfl)(hv:L2.Vis X.env.scope x:=by first|exact Or.inl rfl|exact Or.inr (Or.inl rfl)|exact Or.inr (Or.inr rfl))(hd:(x==("__debug__" : Str))=false:=by decide)
  (hcd:(x==("__classdict__" : Str))=false:=by decide)
  (hs0:starEach [e] X.env=[(false,eval e X.env)]:=by rfl)
  (hbase:attributeBase (.Name x p1) "append" X.env (eval (.Name x p1) X.env)=eval (.Name x p1) X.env:=by rfl)
  (hfew:((backTo p3 (starEach [e] X.env)).all (fun x=>!x.1)&&(backToKw p3 (keywordEach [] X.env)).all (fun x=>x.1.isSome)&&decide ([e].length+([]:List Keyword).length+(if ([]:List Keyword).isEmpty then 0 else 1)<30))=true:=by rfl)
  (hline:(p2.endLine==p3.line)=true:=by rfl) (hs:starEach [e] X.env=(false,eval e X.env)::starEach [] X.env:=by rfl) (hplain:(backTo p3 (starEach [] X.env)).any (·.1)=false:=by rfl)
  (hsw:swapsWith (.Call (.Attribute (.Name x p1) "append" p2) [e] [] p3) none pos.line X.env=pure false:=by rfl) :
  DS X (.Expr (.Call (.Attribute (.Name x p1) "append" p2) [e] [] p3) pos) (gp i f):=fun B H₀ M₀ lad =>
 (L2.ps_expr (L2.pe_bm PySem.F.plainAttrs_list PySem.F.slot_list_append PySem.F.type_list_append L2.mt_append (L2.pe_var hN hv hd hcd) (b6 he cy hs) hbase hfew hline hs hplain) hsw).imp fun E σ H zz=>by
  obtain ⟨ρ,fl,⟨M,hx,hB,hE⟩,hf,k⟩:=zz;unfold gp at hf;obtain⟨r,hr,hf⟩:=Option.bind_eq_some_iff.mp hf;obtain⟨xs,ys,hi,hy,rfl⟩:=pd hf;split at hy
  ·rename_i hz;cases hy;obtain⟨a,vs,e2,e3,e4,q⟩:=hE.ow i _ hi;refine⟨_,e2,.inl ⟨rfl,vs,.inl (.inl e3)⟩,ρ,_,M,lad,[r.1],hE,by unfold b4;rw[hr];rfl,fun us H2 s2 q2=>?_⟩;cases q2 with
   |cons qy qn =>
    cases qn;have E2:=hE.same s2;have l:=q.length;refine⟨a,vs,_,rfl,rfl,s2 _ _ e3,by omega,?_⟩;obtain⟨x',E'⟩:=E2.mut hi e2 ((q.same s2).append (.cons qy .nil));exact k _ _ ⟨M,(hx.trans (.same s2)).trans x',hB,E'⟩
  ·cases hy
theorem rO {i:Nat}{x:Str}{p1 p2 p3:Pos}(he:DE X e f)(hN:X.N[i]?=some x:=by rfl)(hv:L2.Vis X.env.scope x:=by first|exact Or.inl rfl|exact Or.inr (Or.inl rfl)|exact Or.inr (Or.inr rfl))(hd:(x==("__debug__" : Str))=false:=by decide)
  (hcd:(x==("__classdict__" : Str))=false:=by decide)
  (hbase:attributeBase (.Name x p1) "extend" X.env (eval (.Name x p1) X.env)=eval (.Name x p1) X.env:=by rfl)
  (hfew:((backTo p3 (starEach [e] X.env)).all (fun x=>!x.1)&&(backToKw p3 (keywordEach [] X.env)).all (fun x=>x.1.isSome)&&decide ([e].length+([]:List Keyword).length+(if ([]:List Keyword).isEmpty then 0 else 1)<30))=true:=by rfl)
  (hline:(p2.endLine==p3.line)=true:=by rfl) (hs:starEach [e] X.env=(false,eval e X.env)::starEach [] X.env:=by rfl) (hplain:(backTo p3 (starEach [] X.env)).any (·.1)=false:=by rfl)
  (hsw:swapsWith (.Call (.Attribute (.Name x p1) "extend" p2) [e] [] p3) none pos.line X.env=pure false:=by rfl) :
  DS X (.Expr (.Call (.Attribute (.Name x p1) "extend" p2) [e] [] p3) pos) (pf i f):=fun B H₀ M₀ lad =>
 (L2.ps_expr (L2.pe_bm PySem.F.plainAttrs_list PySem.F.slot_list_extend PySem.F.type_list_extend L2.mt_extend (L2.pe_var hN hv hd hcd) (L2.pa_cons he L2.pa_nil hs) hbase hfew hline hs hplain) hsw).imp fun E σ H zz=>by
  obtain ⟨ρ,fl,⟨M,hx,hB,hE⟩,hf,k⟩:=zz;unfold pf at hf;obtain⟨r,hr,hf⟩:=Option.bind_eq_some_iff.mp hf;split at hf
  ·rename_i zs;obtain⟨xs,ys,hi,hy,rfl⟩:=pd hf;split at hy
   ·rename_i hz;cases hy;obtain⟨a,vs,e2,e3,e4,q⟩:=hE.ow i _ hi;refine⟨_,e2,.inl ⟨rfl,vs,.inl (.inl e3)⟩,ρ,_,M,lad,_,hE,hr,fun u H2 s2 q2=>?_⟩;rcases q2 with ⟨z,_⟩|⟨_,b,es',us,e5,e6,e7,e8,q3⟩
    ·cases z
    ·cases e5;have E2:=hE.same s2;have l:=q.length;have l3:=q3.length;refine⟨a,b,vs,us,rfl,by rw[e6],s2 _ _ e3,e8,by omega,?_⟩;obtain⟨x',E'⟩:=E2.mut hi e2 ((q.same s2).append (q3.ext (.less fun c hc=>aH _ hc)));exact k _ _ ⟨M,(hx.trans (.same s2)).trans x',hB,E'⟩
   ·cases hy
  ·cases hf
theorem GF {i:Nat}{x:Str}{p1 p2:Pos}{kx:ED}{ke:Expr}(hk:DE X ke kx)(he:DE X e f)(hN:X.N[i]?=some x:=by rfl)(hv:L2.Vis X.env.scope x:=by first|exact Or.inl rfl|exact Or.inr (Or.inl rfl)|exact Or.inr (Or.inr rfl))(hd:(x==("__debug__" : Str))=false:=by decide)
  (hcd:(x==("__classdict__" : Str))=false:=by decide)
  (ha:∀v,assign (.Subscript (.Name x p1) ke p2) X.env v=(do
   let ov <-holding [v] (eval (.Name x p1) X.env)
   let iv <-holding [v,ov] (eval ke X.env)
   standAt p2
   holding [v,ov,iv] (setItem ov iv v)
   release [v,ov,iv] []):=by intro _;rfl)
  (hs:swapsWithSole [.Subscript (.Name x p1) ke p2] e pos.line X.env=pure false:=by rfl) (hw:swappedStores [.Subscript (.Name x p1) ke p2] e X.env=pure none:=by rfl)
  (h1:(assignEach [.Subscript (.Name x p1) ke p2] X.env).map (·.2)=[assign (.Subscript (.Name x p1) ke p2) X.env]:=by rfl) :
  DS X (.Assign [.Subscript (.Name x p1) ke p2] e pos) (DC i kx f):=fun B H₀ M₀ lad =>
 (L2.ps_asg he (L2.pg_sub (L2.pe_var hN hv hd hcd) hk L2.set_list ha) hs hw h1).imp fun E σ H zz=>by
  obtain ⟨ρ,fl,⟨M,hx,hB,hE⟩,hf,k⟩:=zz;unfold DC at hf;obtain⟨r,hr,hf⟩:=Option.bind_eq_some_iff.mp hf;obtain⟨y,hy,hf⟩:=Option.bind_eq_some_iff.mp hf;obtain⟨j,hj,hf⟩:=Option.bind_eq_some_iff.mp hf;obtain⟨xs,ys,hi,hp,rfl⟩:=pd hf;cases hq:vC xs.length j with
  |none=>rw[hq] at hp;cases hp
  |some p =>
   rw[hq,av] at hp;cases hp;obtain⟨a,vs,e2,e3,e4,q⟩:=hE.ow i _ hi;refine⟨ρ,_,M,lad,r,hE,hr,fun v H1 s1 q1=>⟨_,e2,ρ,_,M,lad,y,hE.same s1,hy,fun u H2 s2 q2=>?_⟩⟩;have hint:y.1=.int j:=by
    cases hy1:y.1 <;> rw[hy1] at hj <;> first|(cases hj;rfl)|cases hj
   have hu:u=.int j:=by
    have:=q2.toR (hE.same s1).ne;rw[hint] at this;cases this;rfl
   have l:=q.length;have E2:=(hE.same s1).same s2;refine⟨a,vs,j,p,rfl,hu,s2 _ _ (s1 _ _ e3),by rw[<-l];exact hq,?_⟩;obtain⟨x',E'⟩:=E2.mut hi e2 (((q.same s1).same s2).set ((q1.toR hE.ne).same s2) p);exact k _ _ ⟨M,(hx.trans (.same (s1.trans s2))).trans x',hB,E'⟩
theorem tx {ρ:Sl}(h:iA ρ=true){j:Nat}{xs:List D}(e:ρ[j]?=some (some (gX xs,true))):False:=by
 unfold iA at h;rw[bp] at h;have:=h _ (az e);simp[gX] at this
end
theorem _root_.L2.PG.imp {X:Cx}{e:Expr}{t t':TG}(h:PG X e t)(i:∀v σ H Q,t' v σ H Q->t v σ H Q):PG X e t':=fun pins s σ H v u Q I r q=>h pins s σ H v u Q I r (i v σ H Q q)
theorem _root_.L2.PGs.imp {X:Cx}{e:List Expr}{t t':L2.TGs}(h:L2.PGs X e t)(i:∀v σ H Q,t' v σ H Q->t v σ H Q):L2.PGs X e t':=fun pins s σ H v u Q I r q=>h pins s σ H v u Q I r (i v σ H Q q)
theorem _root_.L2.PI.imp {X:Cx}{tg e:Expr}{t t':TI}(h:PI X tg e t)(i:∀σ H Q,t' σ H Q->t σ H Q):PI X tg e t':=fun pins s σ H R I q=>h pins s σ H R I (i σ H R q)
theorem _root_.L2.PTs.imp {X:Cx}{es:List Expr}{t t':TT}(h:L2.PTs X es t)(i:∀σ H Q,t' σ H Q->t σ H Q):L2.PTs X es t':=fun pins s σ H Q I q=>h pins s σ H Q I (i σ H Q q)
theorem ER.setS {K:Fg}{H:Hp}{O M:List Addr}{lad:Nat->Addr}{ρ:Sl}{σ:St}{d:D}{v:V}(i:Nat)(h:ER K H O M lad ρ σ)(q:R K H O d v):ER K H O M lad (ρ.set i (some (d,false))) (σ.set i (some v)):=by
 by_cases hi:i<ρ.length
 ·have hi':i<σ.length:=by rw[<-h.len];exact hi
  have out:∀{j:Nat}{x:Vl},x.2=true->(ρ.set i (some (d,false)))[j]?=some (some x)->i≠j:=fun {j x} hx ej z=>by subst z;rw[ay hi] at ej;cases ej;cases hx
  refine⟨fun j d' ej=>?_,fun j d' ej=>?_,fun j d' ej=>?_,fun j k d' e' a e1 e2 e3 e4=>?_,h.tr,h.sub,by rw[bf,bf];exact h.len,h.dp.go (.same (.refl _)) (fun j es ej=>?_) (fun b hb _=>⟨hb,fun _ e=>e⟩) fun j es c ej ec=>.inr ?_⟩
  ·by_cases hj:i=j
   ·subst hj;rw[ay hi] at ej;cases ej;exact⟨v,ay hi',q⟩
   ·rw[ai hj] at ej ⊢;exact h.sh j d' ej
  ·have hj:=out rfl ej;rw[ai hj] at ej ⊢;exact h.ow j d' ej
  ·have hj:=out rfl ej;rw[ai hj] at ej ⊢;exact h.le j d' ej
  ·have nj:=out rfl e1;have nk:=out rfl e2;rw[ai nj] at e1 e3;rw[ai nk] at e2 e4;exact h.ap j k d' e' a e1 e2 e3 e4
  ·have nj:=out rfl ej;rw[ai nj] at ej;exact⟨ej,ai nj⟩
  ·have nj:=out rfl ej;rw[ai nj] at ej ec;exact⟨j,es,ej,ec⟩
 ·rw[JK ⋯,JK (by rw[<-h.len];omega)];exact h
noncomputable def uG (K:Fg)(g:GD):TG:=fun v σ H Q=>∃ρ O M lad d ρ',ER K H O M lad ρ σ/\R K H O d v/\g d ρ=some ρ'/\∀σ' H',de H H'->ER K H' O M lad ρ' σ'->Q σ' H'
noncomputable def Jr (K:Fg)(gs:List GD):L2.TGs:=fun vs σ H Q=>∃ρ O M lad ds ρ',ER K H O M lad ρ σ/\Rs K H O ds vs/\oC gs ds ρ=some ρ'/\∀σ' H',de H H'->ER K H' O M lad ρ' σ'->Q σ' H'
def DG (X:Cx)(tg:Expr)(g:GD):Prop:=PG X tg (uG X.K g)
def ID (X:Cx)(ts:List Expr)(gs:List GD):Prop:=L2.PGs X ts (Jr X.K gs)
section
variable {X:Cx}{e a b c tg iter elt:Expr}{es:List Expr}{f g:ED}{t u:TD}{pos:Pos}{st:Stmt}{fN sts body:List Stmt}{F G:SD}{it:AD}{gd:GD}{gs:List GD}
theorem cB {i:Nat}{x:Str}(hN:X.N.Nodup)(hi:X.N[i]?=some x:=by rfl)(hx:L2.Loc X.env.scope x:=by first|exact Or.inl rfl|exact Or.inr rfl)(hf:X.fn x=true\/X.env.scope.names.lookup x=some .local:=by first|exact .inl rfl|exact .inr rfl|assumption):DG X (.Name x pos) (gN i) :=
 (L2.pg_name hN hi hx hf).imp fun v σ H Q zz=>by
  obtain ⟨ρ,O,M,lad,d,ρ',hE,q,hg,k⟩:=zz;cases hg;exact k _ _ (.refl H) (hE.setS i q)
theorem eL:ID X [] []:=L2.pgs_nil.imp fun vs σ H Q zz=>by
 obtain ⟨ρ,O,M,lad,ds,ρ',hE,q,hg,k⟩:=zz;cases q with
 |nil =>
  cases hg;exact⟨rfl,k _ _ (.refl H) hE⟩
 |cons _ _=>cases hg
theorem cO (h1:DG X e gd)(h2:ID X es gs)(hs:(assignEach (e::es) X.env).map (·.2)=assign e X.env::(assignEach es X.env).map (·.2):=by rfl):ID X (e::es) (gd::gs):=(L2.pgs_cons h1 h2 hs).imp fun vs σ H Q zz=>by
 obtain ⟨ρ,O,M,lad,ds,ρ',hE,q,hg,k⟩:=zz;cases q with
 |nil=>cases hg
 |@cons d v ds vs q qs =>
  unfold oC at hg;obtain⟨ρ1,hx,hg⟩:=Option.bind_eq_some_iff.mp hg;exact⟨v,vs,rfl,ρ,O,M,lad,d,ρ1,hE,q,hx,fun σ1 H1 s1 E1=>⟨ρ1,O,M,lad,ds,ρ',E1,qs.same s1,hg,fun σ2 H2 s2 E2=>k σ2 H2 (s1.trans s2) E2⟩⟩
theorem wW:∀{gs:List GD}{ds:List D}{ρ ρ':Sl},oC gs ds ρ=some ρ'->ds.length=gs.length
 |[],[],_,_,_=>rfl
 |[],_::_,_,_,h=>by cases h
 |_::_,[],_,_,h=>by cases h
 | g::gs,d::ds,ρ,ρ',h=>by
  unfold oC at h;obtain⟨ρ1,hx,h⟩:=Option.bind_eq_some_iff.mp h;rw[aJ,aJ,wW h]
theorem fK {k:Nat}(hc:X.calm=true)(h:ID X es gs)(hn:(assignEach es X.env).length=gs.length:=by rfl)(hst:(assignEach es X.env).findIdx? (·.1)=none:=by rfl):DG X (.Tuple es k pos) (gT gs):=(L2.pg_tup hc h hn hst).imp fun v σ H Q zz=>by
 obtain ⟨ρ,O,M,lad,d,ρ',hE,q,hg,k⟩:=zz;unfold gT at hg;split at hg
 ·rename_i ds;cases q with
  |tuple ha qs=>exact⟨_,_,rfl,ha,by rw[<-qs.length];exact wW hg,ρ,O,M,lad,ds,ρ',hE,qs,hg,k⟩
 ·cases hg
def md (K:Fg)(J:It)(ds:List D)(M O:List Addr)(H':Hp):Prop:=∀(O'':List Addr) (H'':Hp),iJ M O H' O'' H'' →
 (∀(i:Nat) (d:D),ds[i]?=some d->J.go i H''/\∀x H3,J.yld i H'' x H3->de H'' H3/\R K H3 O'' d x)/\J.stop ds.length H''
noncomputable def uI (K:Fg)(it:AD):TI:=fun σ H Q=>∃ρ O M lad ds,ER K H O M lad ρ σ/\it ρ=some ds/\∀J H',de H H'->md K J ds M O H'->Q J H'
def DI (X:Cx)(tg e:Expr)(it:AD):Prop:=PI X tg e (uI X.K it)
def Jz (kd:Bool)(K:Fg)(H:Hp)(a:Addr)(xs:List V):Prop:=if kd=true then jR K H a xs else jj K H a xs
def QR (K:Fg)(M O:List Addr)(H:Hp)(ds:List D)(v:V)(kd:Bool):Prop:=∃a vs,v=.ref a/\Rs K H O ds vs/\∀O' H',iJ M O H O' H'->Jz kd K H' a vs
noncomputable def uQ (K:Fg)(f:AD):TE:=fun σ H Q=>∃ρ O M lad ds,ER K H O M lad ρ σ/\f ρ=some ds/\∀v H' kd,de H H'->QR K M O H' ds v kd->Q v H'
theorem iJ.id (M O:List Addr)(H:Hp)(h:∀b∈M,b∈O):iJ M O H O H:=⟨fun _ _ e=>e,fun _ _ _ e=>e,fun _ _ _ e=>e,fun _ _ _ e=>e,fun _ h=>.inl h,h⟩
theorem R.qr {K:Fg}{H:Hp}{M O:List Addr}{d:D}{v:V}{ds:List D}(q:R K H O d v)(h:dP d=some ds):∃kd,QR K M O H ds v kd:=by
 cases q with
 |tuple ha qs =>
  cases h;exact⟨false,_,_,rfl,qs,fun _ _ x=>jj.ext x ha⟩
 |list ha qs =>
  cases h;exact⟨true,_,_,rfl,qs,fun _ _ x=>(ha.ext x).sq⟩
 |_=>cases h
def DQ (X:Cx)(e:Expr)(f:AD):Prop:=PE X e (uQ X.K f)
theorem fW (h:DE X e f):DQ X e (fT f):=h.imp fun σ H Q zz=>by
 obtain ⟨ρ,O,M,lad,ds,hE,hf,k⟩:=zz;unfold fT at hf;obtain⟨r,hr,hf⟩:=Option.bind_eq_some_iff.mp hf;refine⟨ρ,O,M,lad,r,hE,hr,fun v H1 s1 q1=>?_⟩;obtain⟨kd,q⟩:=(q1.toR hE.ne).qr (M:=M) hf;exact k v H1 kd s1 q
theorem fE (i:Nat){x:Str}(hN:X.N[i]?=some x:=by rfl)(hv:L2.Vis X.env.scope x:=by first|exact Or.inl rfl|exact Or.inr (Or.inl rfl)|exact Or.inr (Or.inr rfl))(hd:(x==("__debug__" : Str))=false:=by decide)
  (hcd:(x==("__classdict__" : Str))=false:=by decide):DQ X (.Name x pos) (eo i):=(L2.pe_var hN hv hd hcd).imp fun σ H Q zz=>by
 obtain ⟨ρ,O,M,lad,ds,hE,hf,k⟩:=zz;unfold eo at hf;split at hf
 ·rename_i xs hr;cases hf;obtain⟨v,e1,q⟩:=hE.sh i _ hr;obtain⟨kd,q⟩:=q.qr (M:=M) rfl;exact⟨v,e1,k v H kd (.refl H) q⟩
 ·rename_i xs hr;cases hf;obtain⟨v,e1,q⟩:=hE.sh i _ hr;obtain⟨kd,q⟩:=q.qr (M:=M) rfl;exact⟨v,e1,k v H kd (.refl H) q⟩
 ·rename_i xs hr;cases hf;obtain⟨e6,us,e7,e8,e9,q5⟩:=hE.le i _ hr;exact⟨_,e6,k _ H true (.refl H) ⟨_,us,rfl,q5,fun O' H' x=>.inl (.inl (x.lst _ _ e9 e7))⟩⟩
 ·cases hf
theorem AI {K:Fg}{H:Hp}{M O:List Addr}{a:Addr}{ds:List D}{vs:List V}(h:∀O' H',iJ M O H O' H'->jR K H' a vs)(q:Rs K H O ds vs):md K (L2.Itl K a) ds M O H:=by
 intro O2 H2 x;have h2:=h _ _ x;have q2:=q.ext x;refine⟨fun i d e=>?_,vs,h2,by rw[q.length];exact aB _⟩;obtain⟨v,ev,rv⟩:=q2.get e;refine⟨⟨vs,v,h2,ev⟩,fun y H3 ⟨e3,hy⟩=>?_⟩;subst e3;have:=hy vs h2;rw[ev] at this;cases this;exact⟨.refl _,rv⟩
theorem AH {K:Fg}{H:Hp}{M O:List Addr}{a:Addr}{ds:List D}{vs:List V}(h:∀O' H',iJ M O H O' H'->jj K H' a vs)(q:Rs K H O ds vs):md K (L2.Itt K a) ds M O H:=by
 intro O2 H2 x;have h2:=h _ _ x;have q2:=q.ext x;refine⟨fun i d e=>?_,vs,h2,by rw[q.length];exact aB _⟩;obtain⟨v,ev,rv⟩:=q2.get e;refine⟨⟨vs,v,h2,ev⟩,fun y H3 ⟨e3,hy⟩=>?_⟩;subst e3;have:=hy vs h2;rw[ev] at this;cases this;exact⟨.refl _,rv⟩
theorem DM {l:Expr}{tl:TE}(hl:PE X l tl):PI X tg l (fun σ H R=>tl σ H fun x H1=>∃a,x=.ref a/\(((∃xs,jR X.K H1 a xs)/\R (L2.Itl X.K a) H1)\/((∃xs,jj X.K H1 a xs)/\R (L2.Itt X.K a) H1))):=by
 intro pins s σ H R I h;refine L2.thn (hl pins s σ H _ I h) fun v s1 zz=>?_;obtain ⟨x,H1,I1,r1,q1⟩:=zz;obtain⟨a,rfl,q1⟩:=q1;cases (show v=Value.ref a from r1);rcases q1 with ⟨⟨xs,hq⟩,q⟩|⟨⟨xs,hq⟩,q⟩
 ·obtain⟨its,rv,p,hz⟩:=I1.list hq;refine wpAny_pyIter_list p.isList ⟨s1.heap.objs.size,[s1.heap.objs.size],_,_,H1,rfl,I1.kept (t':=s1.toks) fun b o e=>ae _ e,L2.turn_list a _,⟨_,aG _ rfl,rfl,rfl⟩,fun b hb=>?_,q⟩;have e:b=s1.heap.objs.size:=by simpa using hb
  subst e;exact I1.fpOk (aB _) (I1.hok.fresh (aB _))
 ·obtain⟨its,rv,p,hz⟩:=I1.tuple hq;refine wpAny_pyIter_tuple (show s1.heap.IsTuple a its.toArray from p) ⟨s1.heap.objs.size,[s1.heap.objs.size],_,_,H1,rfl,I1.kept (t':=s1.toks) fun b o e=>ae _ e,L2.turn_tuple a _,⟨_,aG _ rfl,rfl,rfl⟩,fun b hb=>?_,q⟩;have e:b=s1.heap.objs.size:=by simpa using hb
  subst e;exact I1.fpOk (aB _) (I1.hok.fresh (aB _))
theorem eK {f:AD}(h:DQ X e f):DI X tg e (du f):=(DM h).imp fun σ H Q zz=>by
 obtain ⟨ρ,O,M,lad,ds,hE,hf,k⟩:=zz;refine⟨ρ,O,M,lad,ds,hE,hf,fun v H1 kd s1 ⟨a,vs,ev,qs,st⟩=>⟨a,ev,?_⟩⟩;have st0:=st _ _ (iJ.id M O H1 (hE.same s1).sub);cases kd with
 |true=>exact .inl ⟨⟨vs,st0⟩,k _ H1 s1 (AI (fun O' H' x=>st O' H' x) qs)⟩
 |false=>exact .inr ⟨⟨vs,st0⟩,k _ H1 s1 (AH (fun O' H' x=>st O' H' x) qs)⟩
theorem xm {d:D}{i:Int}(h:xy d=some i):d=.int i:=by
 cases d <;> first|(cases h;rfl)|cases h
theorem ym {K:Fg}{H:Hp}{M O:List Addr}(lo:Int)(n:Nat):md K (L2.Itr lo n) (fg lo n) M O H:=by
 intro O2 H2 x;refine⟨fun i d e=>?_,?_⟩
 ·unfold fg at e;rw[au] at e;cases er:(aj n)[i]? with
  |none=>rw[er] at e;cases e
  |some k =>
   rw[er,av] at e;cases e;obtain⟨h1,h2⟩:=List.getElem?_eq_some_iff.mp er;rw[aD] at h1;rw[List.getElem_range] at h2;subst h2;exact⟨h1,fun y H3 zz=>by obtain ⟨e3,e4⟩:=zz; subst e3 e4;exact⟨.refl _,.int _⟩⟩
 ·show n<=_;unfold fg;rw[af,aD];exact aB _
theorem dH {p pos':Pos}(hm:X.mg "range" = none)(h:DE X a f)(hg:L2.Gl X "range" := by rfl)(hs:starEach [a] X.env=[(false,eval a X.env)]:=by rfl):DI X tg (.Call (.Name "range" p) [a] [] pos') (cP f) :=
 (L2.pi_range1 hg hm (b6 h cy hs) hs).imp fun σ H Q zz=>by
  obtain ⟨ρ,O,M,lad,ds,hE,hf,k⟩:=zz;unfold cP at hf;obtain⟨r,hr,hf⟩:=Option.bind_eq_some_iff.mp hf;obtain⟨j,hj,hf⟩:=Option.bind_eq_some_iff.mp hf;split at hf
  ·rename_i hb;cases hf;refine⟨ρ,O,M,lad,[r.1],hE,by unfold b4;rw[hr];rfl,fun vs H1 s1 q1=>?_⟩;rw[xm hj] at q1;cases q1 with
   |cons q qn =>
    cases q;cases qn;exact⟨j,rfl,hb.1,hb.2,k _ H1 s1 (ym 0 j.toNat)⟩
  ·cases hf
noncomputable def uX (K:Fg)(F:SD):TS:=fun E σ H=>∃B H₀ M₀ lad,uS K B H₀ M₀ lad F E σ H
theorem C1.x (h:C1 X sts F):PSs X sts (uX X.K F):=fun pins s σ H D I ⟨B,H₀,M₀,lad,q⟩=>h B H₀ M₀ lad pins s σ H D I q
theorem zU.up {K:Fg}{B:List Addr}{H₀ H1 H':Hp}{M₀ M:List Addr}{r:Vl}{v:V}(x:gJ M₀ H₀ M H1)(h:zU K B H1 M H' r v):zU K B H₀ M₀ H' r v:=by
 obtain⟨⟨M',x'⟩,q⟩:=h;refine⟨⟨M',x.trans x'⟩,?_⟩;rcases q with q|⟨e,a,ds,vs,e1,e2,e3,e4,q⟩
 ·exact .inl q
 ·refine .inr ⟨e,a,ds,vs,e1,e2,?_,e4,q⟩;rcases e3 with z|z
  ·exact x.new a z
  ·refine .inr ?_;cases e5:H₀ a with
   |none=>rfl
   |some o=>exact absurd z (x.there a (by rw[e5];simp))
theorem SR.up {K:Fg}{B:List Addr}{H₀ H1 H:Hp}{M₀ M:List Addr}{lad:Nat->Addr}{ρ:Sl}{σ:St}(x:gJ M₀ H₀ M H1)(h:SR K B H1 M lad ρ σ H):SR K B H₀ M₀ lad ρ σ H:=by
 obtain⟨M',x',hB,hE⟩:=h;exact⟨M',x.trans x',hB,hE⟩
theorem dw (hc:X.calm=true)(hi:DI X tg iter it)(hg:DG X tg gd)(hb:C1 X body F)(hp:PassesOwn (model X.prog X.w) X.A X.env X.xe:=by exact PassesOwn.never)
  (hs:∀x,foldedSetIterable iter X.env x=pure x:=by intro _;rfl):DS X (.For tg iter body [] pos) (dW it gd F):=fun B H₀ M₀ lad=>(L2.ps_for hp hc hi hg hb.x hs).imp fun E σ H zz=>by
 obtain ⟨ρ,fl,⟨M,hx,hB,hE⟩,hf,k⟩:=zz;unfold dW at hf;obtain⟨ds,hd,hf⟩:=Option.bind_eq_some_iff.mp hf;refine⟨ρ,_,M,lad,ds,hE,hd,fun J H1 s1 iok=>?_⟩;have x1:gJ M₀ H₀ M H1:=hx.trans (.same s1);refine⟨fun i m σ' H'=>m=ds.length-i/\i<=ds.length/\∃ρ',SR X.K B H1 M lad ρ' σ' H'/\eA gd F (ds.drop i) ρ'=some fl,⟨ds.length,by simp,bx _,ρ,⟨M,.refl M H1,hB,hE.same s1⟩,by simpa using hf⟩,?_⟩;rintro i m σ' H' ⟨rfl,hi,ρ',hR,hl⟩;obtain⟨M',x',hB',hE'⟩:=id hR;obtain⟨go,stop⟩:=iok _ _ x'.ext;by_cases hlt:i<ds.length
 ·have ed:ds.drop i=ds[i]::ds.drop (i+1):=bT hlt;rw[ed] at hl;unfold eA at hl;obtain⟨ρ1,hg1,hl⟩:=Option.bind_eq_some_iff.mp hl;obtain⟨fl1,hF,hl⟩:=Option.bind_eq_some_iff.mp hl;obtain⟨g1,g2⟩:=go i ds[i] (by simp[hlt]);refine .inr ⟨g1,fun σ2 H2=>∃ρ2,SR X.K B H1 M lad ρ2 σ2 H2/\eA gd F (ds.drop (i+1)) ρ2=some fl,fun σ2 H2 ⟨ρ2,r2,l2⟩=>⟨ds.length-(i+1),by omega,rfl,hlt,ρ2,r2,l2⟩,fun x H2 hy=>?_⟩;obtain⟨s2,q2⟩:=g2 x H2 hy;refine⟨ρ',_,M',lad,ds[i],ρ1,hE'.same s2,q2,hg1,fun σ3 H3 s3 E3=>⟨B,H1,M,lad,ρ1,fl1,⟨M',(x'.trans (.same s2)).trans (.same s3),hB',E3⟩,hF,?_⟩⟩;cases fl1 with
  |next ρ2=>exact fun σ4 H4 r4=>⟨ρ2,r4,hl⟩
  |cont ρ2=>exact fun σ4 H4 r4=>⟨ρ2,r4,hl⟩
  |brk ρ2 =>
   cases hl;exact fun σ4 H4 r4=>k σ4 H4 (r4.up x1)
  |ret r =>
   cases hl;exact fun v H4 r4=>k v H4 (r4.up x1)
 ·have e:i=ds.length:=by omega
  subst e;rw[JQ] at hl;cases hl;exact .inl ⟨stop,k σ' H' (hR.up x1)⟩
theorem wZ (hc:DT X c t)(hb:C1 X body F)(hp:PassesOwn (model X.prog X.w) X.A X.env X.xe:=by exact PassesOwn.never):DS X (.While c body [] pos) (j4 t F):=fun B H₀ M₀ lad=>(L2.ps_while hp hc (hb B H₀ M₀ lad)).imp fun E σ H zz=>by
 obtain ⟨ρ,fl,hR,hf,k⟩:=zz;obtain⟨n,hn⟩:=pS hf;refine⟨fun m σ' H'=>∃ρ',SR X.K B H₀ M₀ lad ρ' σ' H'/\eO t F m ρ'=some fl,⟨n,ρ,hR,hn⟩,?_⟩;rintro m σ' H' ⟨ρ',⟨M,hx,hB,hE⟩,hw⟩;cases m with
 |zero=>cases hw
 |succ m =>
  unfold eO at hw;obtain⟨c,ht,hw⟩:=Option.bind_eq_some_iff.mp hw;refine⟨ρ',_,M,lad,c,hE,ht,fun H1 s1=>?_⟩;have r1:SR X.K B H₀ M₀ lad ρ' σ' H1:=⟨M,hx.trans (.same s1),hB,hE.same s1⟩;cases c with
  |false =>
   dsimp only at hw ⊢;rw[if_neg Bool.false_ne_true] at hw ⊢;cases hw;exact k σ' H1 r1
  |true =>
   dsimp only at hw ⊢;rw[if_pos rfl] at hw ⊢;obtain⟨fl1,hF,hw⟩:=Option.bind_eq_some_iff.mp hw;refine⟨fun σ2 H2=>∃ρ2,SR X.K B H₀ M₀ lad ρ2 σ2 H2/\eO t F m ρ2=some fl,fun σ2 H2 r2=>⟨m,Nat.lt_succ_self m,r2⟩,ρ',fl1,r1,hF,?_⟩;cases fl1 with
   |next ρ2=>exact fun σ4 H4 r4=>⟨ρ2,r4,hw⟩
   |cont ρ2=>exact fun σ4 H4 r4=>⟨ρ2,r4,hw⟩
   |brk ρ2=>cases hw;exact k
   |ret r=>cases hw;exact k
end
end DL
namespace L2
open PySem PySem.Spec PyProof.Rows
section
variable {X:Cx}
noncomputable def EZ (K:PySem.W.Frag):R2:=fun x y H Q=>∃a b ys,x=.ref a/\y=.ref b/\jj K H a []/\jj K H b ys/\Q (.ref b) H
theorem DU:OpR X (binaryOp .Add) (EZ X.K):=by
 intro pins s σ H x y v u Q I rx ry h;obtain⟨a,b,ys,rfl,rfl,ha,hb,q⟩:=h;cases rx;cases ry;obtain⟨its,r1,p1,_⟩:=I.tuple ha;obtain⟨its2,r2,p2,_⟩:=I.tuple hb;cases r1;obtain⟨⟨cls,dd,data,sl⟩,ho,hc,n,hd⟩:=id p1;obtain⟨⟨cls2,dd2,data2,sl2⟩,ho2,hc2,n2,hd2⟩:=id p2;simp only at hc hd hc2 hd2;subst hc hd hc2 hd2;exact concat_meets ⟨_,ho,rfl⟩ ⟨_,ho2,rfl⟩ noFill_tuple_add seq_tuple_add PySem.F.slot_tuple_add PySem.F.entry_tuple_add (PySem.F.args_tuple_add_2 _ _)
   (tuple_addW0 a b _ _ n n2 dd dd2 sl sl2 (by simp)) ⟨ho,ho2,⟨.ref b,H,I,rfl,q⟩⟩
noncomputable def rAddA (K:PySem.W.Frag):R2:=fun x y H Q=>rI0 (fun i j=>.int (i+j)) x y H Q\/(EY K x y H Q\/(EZ K x y H Q\/∃i j,x=.str i/\y=.str j/\i.length+j.length<=sizeLine/\Q (.str (i++j)) H))
theorem op_addA:OpR X (binaryOp .Add) (rAddA X.K):=F1.or (DR.or (DU.or xX))
def KdV (K:PySem.W.Frag)(H:Hp)(x:V)(t:String):Prop:=match x with
 |.bl _=>t = "bool"
 |.int _=>t = "int"
 |.str _=>t = "str"
 |.ref a=>(t = "tuple" ∧ ∃xs,jj K H a xs)\/(t = "list" ∧ ∃xs,jR K H a xs)
 |_=>False
theorem call_isa:CallR X (.builtin "isinstance") (fun xs H Q=>∃x t T b,xs=[x,.ty T]/\KdV X.K H x t/\PySem.W.kitOne X.K (.type t) (.type T)=some b/\Q (.bl b) H):=by
 intro pins s σ H xs us Q I rx h;obtain⟨x,t,T,b,rfl,kd,e,q⟩:=h;obtain⟨u,w',rfl,r1,r2⟩:=cT.two rx;cases r2;have fin:∀tk,EP X pins σ Q (.bool b) { s with toks:=tk }:=fun tk=>⟨.bl b,H,I.tok tk,rfl,q⟩;cases x with
 |bl y =>
  cases (show t = "bool" from kd);cases (show u=Value.bool y from r1);exact PySem.W.kia_one PySem.W.kitx_bool I.kIn True.intro e (fun z=>nomatch z) fin
 |int i =>
  cases (show t = "int" from kd);obtain⟨t',q'⟩:=(show ∃t,u=Value.int i t from r1);cases q';exact PySem.W.kia_one PySem.W.kitx_int I.kIn True.intro e (fun z=>nomatch z) fin
 |str y =>
  cases (show t = "str" from kd);obtain⟨t',q'⟩:=(show ∃t,u=Value.str y t from r1);cases q';exact PySem.W.kia_one PySem.W.kitx_str I.kIn True.intro e (fun z=>nomatch z) fin
 |ref a =>
  cases (show u=Value.ref a from r1);rcases kd with ⟨rfl,ys,hq⟩|⟨rfl,ys,hq⟩
  ·obtain⟨its,rv,⟨o,h1,h2,_⟩,hz⟩:=I.tuple hq;exact PySem.W.kia_one PySem.W.kitx_tuple I.kIn ⟨o,h1,h2⟩ e (fun z=>nomatch z) fin
  ·obtain⟨its,rv,⟨o,n,h1,h2,_⟩,hz⟩:=I.list hq;exact PySem.W.kia_one PySem.W.kitx_list I.kIn ⟨o,h1,h2⟩ e (fun z=>nomatch z) fin
 |_=>exact False.elim kd
end
end L2
namespace DL
open PySem PySem.Spec PySem.SeqAt
open L2 (V Hp St HO VK TE TT TA TS TI TG Cx cQ PE PT PA PS PSs PI PG jj jR de dY cK cC cE cT dR EP TP AP SP jQ It)
section
variable {K:Fg}{H:Hp}{O:List Addr}{v:V}
theorem BR.int {i:Int}(h:BR K H O (.int i) v):v=.int i:=by
 rcases h with h|⟨a,ds,vs,e,_⟩|⟨a,ds,vs,e,_⟩
 ·cases h;rfl
 ·cases e
 ·cases e
theorem BR.bool {b:Bool}(h:BR K H O (.bool b) v):v=.bl b:=by
 rcases h with h|⟨a,ds,vs,e,_⟩|⟨a,ds,vs,e,_⟩
 ·cases h;rfl
 ·cases e
 ·cases e
theorem BR.str {x:Str}(h:BR K H O (.str x) v):v=.str x:=by
 rcases h with h|⟨a,ds,vs,e,_⟩|⟨a,ds,vs,e,_⟩
 ·cases h;rfl
 ·cases e
 ·cases e
theorem BR.tuple {ds:List D}(h:BR K H O (.tuple ds) v):∃a vs,v=.ref a/\jj K H a vs/\Rs K H O ds vs:=by
 rcases h with h|⟨a,es,vs,e,_⟩|⟨a,es,vs,e,_⟩
 ·cases h with
  |tuple ha hs=>exact⟨_,_,rfl,ha,hs⟩
 ·cases e
 ·cases e
theorem BR.list {ds:List D}(h:BR K H O (.list ds) v):∃a vs,v=.ref a/\jR K H a vs/\Rs K H O ds vs:=by
 rcases h with h|⟨a,es,vs,e,e2,e3,q⟩|⟨a,es,vs,e,_⟩
 ·cases h with
  |list ha hs=>exact⟨_,_,rfl,ha.sq,hs⟩
 ·cases e;exact⟨a,vs,e2,.inl (.inl e3),q⟩
 ·cases e
theorem BR.dict {kvs:List (D×D)}(h:BR K H O (.dict kvs) v):∃a es,v=.ref a/\H a=some (mS a es)/\Rd K H O kvs es.2:=by
 rcases h with h|⟨a,es,vs,e,_⟩|⟨a,kvs',es,e,e2,e3,q⟩
 ·cases h with
  |dict ha _ hs=>exact⟨_,_,rfl,ha,hs⟩
 ·cases e
 ·cases e;exact⟨a,es,e2,e3,q⟩
end
section
variable {X:Cx}{e a b c:Expr}{es:List Expr}{f g:ED}{fb gb:BD}{t u:TD}{pos:Pos}
theorem ff:OD X (L2.rAddA X.K) eD:=by
 intro x y vx vy H O r Q ne hx hy hf k;cases x <;> first|(cases hf;done)|(cases y <;> first|cases hf|skip)
 ·cases hx.int;cases hy.int;exact .inl ⟨_,_,rfl,rfl,k _ H (.refl H) (.of (.int _))⟩
 ·cases hx.str;cases hy.str;unfold eD at hf;dsimp only at hf;split at hf
  ·rename_i hz;cases hf;exact .inr (.inr (.inr ⟨_,_,rfl,rfl,hz,k _ H (.refl H) (.of (.str _))⟩))
  ·cases hf
 ·unfold eD at hf;dsimp only at hf;split at hf
  ·rename_i ds es hz;cases hf;obtain⟨a,vs,rfl,ha,qa⟩:=hx.tuple;obtain⟨b,us,rfl,hb,qb⟩:=hy.tuple;by_cases hn:ds=[]
   ·subst hn;cases qa;exact .inr (.inr (.inl ⟨a,b,us,rfl,rfl,ha,hb,k _ H (.refl H) (.of (.tuple hb qb))⟩))
   ·refine .inr (.inl ⟨a,b,vs,us,rfl,rfl,ha,hb,fun z=>?_,by rw[<-qa.length,<-qb.length];exact hz,fun z=>?_,fun z p hp=>?_⟩)
    ·subst z;cases qa;exact hn rfl
    ·subst z;cases qb;rw[bj] at k;exact k _ H (.refl H) (.of (.tuple ha qa))
    ·have s2:de H (dY H p (.tup (vs++us))):=fun b o e=>by rw[cC (cE e hp)];exact e
     exact k _ _ s2 (.of (.tuple (.inl (.inl cK)) ((qa.append qb).same s2)))
  ·cases hf
theorem mR {α:Type}{op:D->D->Option α}(h1:∀x y,(∀i,x≠.int i)->op x y=none)(h2:∀i y,(∀j,y≠.int j)->op (.int i) y=none){x y:D}{r:α}(h:op x y=some r):∃i j,x=.int i/\y=.int j:=by
 by_cases e1:∃i,x=.int i
 ·obtain⟨i,rfl⟩:=e1;by_cases e2:∃j,y=.int j
  ·obtain⟨j,rfl⟩:=e2;exact⟨i,j,rfl,rfl⟩
  ·rw[h2 i y fun j z=>e2 ⟨j,z⟩] at h;cases h
 ·rw[h1 x y fun i z=>e1 ⟨i,z⟩] at h;cases h
theorem x8:OD X (L2.rI0 fun i j=>.int (i-j)) BL:=by
 intro x y vx vy H O r Q ne hx hy hf k;obtain⟨_,_,rfl,rfl⟩:=mR (fun x y n=>by cases x <;> first|rfl|exact absurd rfl (n _)) (fun i y n=>by cases y <;> first|rfl|exact absurd rfl (n _)) hf;cases hx.int;cases hy.int;cases hf;exact⟨_,_,rfl,rfl,k _ H (.refl H) (.of (.int _))⟩
theorem EH {i j:Int}(h:yP i j=true):L2.CMul i j:=by
 unfold yP at h;simpa [L2.CMul] using h
theorem lO:OD X (L2.rI L2.CMul fun i j=>.int (i*j)) ng:=by
 intro x y vx vy H O r Q ne hx hy hf k;obtain⟨_,_,rfl,rfl⟩:=mR (fun x y n=>by cases x <;> first|rfl|exact absurd rfl (n _)) (fun i y n=>by cases y <;> first|rfl|exact absurd rfl (n _)) hf;cases hx.int;cases hy.int;unfold ng at hf;dsimp only at hf;split at hf
 ·rename_i hc;cases hf;exact⟨_,_,rfl,rfl,EH hc,k _ H (.refl H) (.of (.int _))⟩
 ·cases hf
theorem x9:OD X (L2.rI L2.CDiv fun i j=>.int (i/j)) yb:=by
 intro x y vx vy H O r Q ne hx hy hf k;obtain⟨_,_,rfl,rfl⟩:=mR (fun x y n=>by cases x <;> first|rfl|exact absurd rfl (n _)) (fun i y n=>by cases y <;> first|rfl|exact absurd rfl (n _)) hf;cases hx.int;cases hy.int;unfold yb at hf;dsimp only at hf;split at hf
 ·rename_i hc;cases hf;exact⟨_,_,rfl,rfl,hc,k _ H (.refl H) (.of (.int _))⟩
 ·cases hf
theorem j7:OD X (L2.rI (fun _ j=>0<j) fun i j=>.int (i%j)) oi:=by
 intro x y vx vy H O r Q ne hx hy hf k;obtain⟨_,_,rfl,rfl⟩:=mR (fun x y n=>by cases x <;> first|rfl|exact absurd rfl (n _)) (fun i y n=>by cases y <;> first|rfl|exact absurd rfl (n _)) hf;cases hx.int;cases hy.int;unfold oi at hf;dsimp only at hf;split at hf
 ·rename_i hc;cases hf;exact⟨_,_,rfl,rfl,hc,k _ H (.refl H) (.of (.int _))⟩
 ·cases hf
theorem F7:OD X (L2.rI L2.CPow fun i j=>.int (i ^ j.toNat)) BM:=by
 intro x y vx vy H O r Q ne hx hy hf k;obtain⟨_,_,rfl,rfl⟩:=mR (fun x y n=>by cases x <;> first|rfl|exact absurd rfl (n _)) (fun i y n=>by cases y <;> first|rfl|exact absurd rfl (n _)) hf;cases hx.int;cases hy.int;unfold BM at hf;dsimp only at hf;split at hf
 ·rename_i hc;cases hf;exact⟨_,_,rfl,rfl,hc,k _ H (.refl H) (.of (.int _))⟩
 ·cases hf
theorem Fy:UD X (L2.rU fun i=>.int (-i)) Gd:=by
 intro x vx H O r Q ne hx hf k;cases x <;> first|cases hf|skip
 cases hx.int;exact⟨_,rfl,k _ H (.refl H) (.of (.int _))⟩
theorem yF {c:C2}{p:Int->Int->Bool}(hc:∀x y k,c x y=some k->∃i j,x=.int i/\y=.int j/\k=p i j):CD X (L2.rI0 fun i j=>.bl (p i j)) c:=by
 intro x y vx vy H O k Q hx hy hf q;obtain⟨i,j,rfl,rfl,rfl⟩:=hc _ _ _ hf;cases hx.int;cases hy.int;exact⟨_,_,rfl,rfl,q⟩
theorem Fi:CD X (L2.rI0 fun i j=>.bl (decide (i<j))) Hd:=yF fun x y k h=>by
 obtain⟨_,_,rfl,rfl⟩:=mR (fun x y n=>by cases x <;> first|rfl|exact absurd rfl (n _)) (fun i y n=>by cases y <;> first|rfl|exact absurd rfl (n _)) h;cases h;exact⟨_,_,rfl,rfl,rfl⟩
theorem Ij:CD X (L2.rI0 fun i j=>.bl (decide (i<=j))) Iz:=yF fun x y k h=>by
 obtain⟨_,_,rfl,rfl⟩:=mR (fun x y n=>by cases x <;> first|rfl|exact absurd rfl (n _)) (fun i y n=>by cases y <;> first|rfl|exact absurd rfl (n _)) h;cases h;exact⟨_,_,rfl,rfl,rfl⟩
theorem zP:CD X (L2.rI0 fun i j=>.bl (decide (j<i))) A2:=yF fun x y k h=>by
 obtain⟨_,_,rfl,rfl⟩:=mR (fun x y n=>by cases x <;> first|rfl|exact absurd rfl (n _)) (fun i y n=>by cases y <;> first|rfl|exact absurd rfl (n _)) h;cases h;exact⟨_,_,rfl,rfl,rfl⟩
end
section
variable {X:Cx}{pins:List (Addr×Obj)}{σ:St}{H:Hp}{s:Shared}{O:List Addr}
mutual
theorem R.reads (I:cQ X pins σ H s){d:D}{v:V}:R X.K H O d v->d.canLay0=true->∀u,dR v u->∃as,Reads s.heap u d as
 |.none,_,u,r=>by cases (show u=Value.none from r);exact⟨_,.none⟩
 |.bool b,_,u,r=>by cases (show u=Value.bool b from r);exact⟨_,.bool b⟩
 |.int i,_,u,r=>by obtain⟨t,rfl⟩:=(show ∃t,u=Value.int i t from r);exact⟨_,.int i t⟩
 |.str x,_,u,r=>by obtain⟨t,rfl⟩:=(show ∃t,u=Value.str x t from r);exact⟨_,.str x t⟩
 | .tuple (a:=a) ha hs,hl,u,r=>by
  cases (show u=Value.ref a from r);obtain⟨its,rv,⟨o,e,c,n,hd⟩,_⟩:=I.tuple ha;obtain⟨as,q⟩:=Rs.reads I hs (by simpa [PyData.canLay0] using hl) its rv;exact⟨_,.tuple e c hd (by simpa using q)⟩
 |.dict _ _ _,hl,_,_=>by simp[PyData.canLay0] at hl
 | .list (a:=a) ha hs,hl,u,r=>by
  cases (show u=Value.ref a from r);obtain⟨its,rv,⟨o,n,e,c,_,hd⟩,_⟩:=I.list ha.sq;obtain⟨as,q⟩:=Rs.reads I hs (by simpa [PyData.canLay0] using hl) its rv;exact⟨_,.list e c hd (by simpa using q)⟩
theorem Rs.reads (I:cQ X pins σ H s){ds:List D}{vs:List V}:Rs X.K H O ds vs->PyData.canLayAll0 ds=true->∀us,cT vs us->∃as,ReadsAll s.heap us ds as
 |.nil,_,us,r=>by cases r;exact⟨_,.nil⟩
 | .cons h hs,hl,us,r=>by
  cases r with
  |cons r rs =>
   simp only[PyData.canLayAll0,Bool.and_eq_true] at hl;obtain⟨as,q⟩:=R.reads I h hl.1 _ r;obtain⟨bs,qs⟩:=Rs.reads I hs hl.2 _ rs;exact⟨_,.cons q qs⟩
end
theorem kK {d:D}(h:shaped d=true):d.canLay0=true:=by
 unfold shaped at h;rw[Bool.and_eq_true] at h;exact h.1
theorem BR.reads (I:cQ X pins σ H s){d:D}{v:V}(h:BR X.K H O d v)(hl:d.canLay0=true)(u:Value)(r:dR v u):∃as,Reads s.heap u d as:=by
 rcases h with h|⟨a,ds,vs,rfl,rfl,e,q⟩|⟨a,ds,vs,rfl,_⟩
 ·exact h.reads I hl u r
 ·cases (show u=Value.ref a from r);obtain⟨its,rv,⟨o,n,e',c,_,hd⟩,_⟩:=I.list (show jR X.K H a vs from .inl (.inl e));obtain⟨as,q'⟩:=q.reads I (by simpa [PyData.canLay0] using hl) its rv;exact⟨_,.list e' c hd (by simpa using q')⟩
 ·simp[PyData.canLay0] at hl
end
noncomputable def HC (K:Fg):L2.R2:=fun x y H Q=>∃(O:List Addr) (dx dy:D),BR K H O dx x/\BR K H O dy y/\shaped dx=true/\shaped dy=true/\noMix dx dy=true/\Q (.bl (same dx dy)) H
noncomputable def Hw (K:Fg):L2.R2:=fun x y H Q=>∃(O:List Addr) (dx dy:D),BR K H O dx x/\BR K H O dy y/\shaped dx=true/\shaped dy=true/\noMix dx dy=true/\Q (.bl (!same dx dy)) H
section
variable {X:Cx}{e a b c:Expr}{es:List Expr}{f g:ED}{fb gb:BD}{t u:TD}{pos:Pos}
theorem j6 (hu:X.A.units+64<cLine):L2.OpR X (compareOp .Eq) (HC X.K):=by
 intro pins s σ H x y v u Q I rx ry h;obtain⟨O,dx,dy,hx,hy,sx,sy,nm,q⟩:=h;obtain⟨as,ra⟩:=hx.reads I (kK sx) v rx;obtain⟨bs,rb⟩:=hy.reads I (kK sy) u ry;exact PyProof.Rows.eq_dataH_same ra rb sx sy hu nm ⟨.bl _,H,I,rfl,q⟩
theorem nc (hu:X.A.units+64<cLine):L2.OpR X (compareOp .NotEq) (Hw X.K):=by
 intro pins s σ H x y v u Q I rx ry h;obtain⟨O,dx,dy,hx,hy,sx,sy,nm,q⟩:=h;obtain⟨as,ra⟩:=hx.reads I (kK sx) v rx;obtain⟨bs,rb⟩:=hy.reads I (kK sy) u ry;exact PyProof.Rows.ne_dataH_same ra rb sx sy hu nm ⟨.bl _,H,I,rfl,q⟩
theorem mU:CD X (HC X.K) o4:=by
 intro x y vx vy H O k Q hx hy hf q;unfold o4 at hf;split at hf
 ·rename_i h;cases hf;rw[Bool.and_eq_true,Bool.and_eq_true] at h;exact⟨O,x,y,hx,hy,h.1.1,h.1.2,h.2,q⟩
 ·cases hf
theorem rY:CD X (Hw X.K) sN:=by
 intro x y vx vy H O k Q hx hy hf q;unfold sN at hf;split at hf
 ·rename_i h;cases hf;rw[Bool.and_eq_true,Bool.and_eq_true] at h;exact⟨O,x,y,hx,hy,h.1.1,h.1.2,h.2,q⟩
 ·cases hf
theorem Rs.at {K:Fg}{H:Hp}{O:List Addr}{ds:List D}{vs:List V}{i:Int}{d:D}(q:Rs K H O ds vs)(h:sf ds i=some d):∃v,L2.atI vs i=some v/\R K H O d v:=by
 unfold sf at h;obtain⟨j,hj,h⟩:=Option.bind_eq_some_iff.mp h;obtain⟨v,e,r⟩:=q.get h;refine⟨v,?_,r⟩;unfold L2.atI;have:L2.ixN vs.length i=some j:=by rw[<-q.length];exact hj
 rw[this,aa];exact e
theorem HN:OD X (L2.rIx X.K) cL:=by
 intro x y vx vy H O r Q ne hx hy hf k;cases x <;> first|(cases hf;done)|(cases y <;> first|cases hf|skip)
 ·obtain⟨a,vs,rfl,ha,qa⟩:=hx.list;cases hy.int;rename_i ds i;unfold cL at hf;dsimp only at hf;cases hd:sf ds i with
  |none=>rw[hd] at hf;cases hf
  |some d =>
   rw[hd] at hf;cases hf;obtain⟨v,e,rv⟩:=qa.at hd;exact .inl ⟨a,vs,i,v,rfl,rfl,ha,e,k _ H (.refl H) (.of rv)⟩
 ·obtain⟨a,vs,rfl,ha,qa⟩:=hx.tuple;cases hy.int;rename_i ds i;unfold cL at hf;dsimp only at hf;cases hd:sf ds i with
  |none=>rw[hd] at hf;cases hf
  |some d =>
   rw[hd] at hf;cases hf;obtain⟨v,e,rv⟩:=qa.at hd;exact .inr (.inl ⟨a,vs,i,v,rfl,rfl,ha,e,k _ H (.refl H) (.of rv)⟩)
theorem cI (ha:DB X a fb)(hb:DB X b gb)(hs:L2.PlainIx b:=by exact fun _ _=>rfl):DE X (.Subscript a b pos) (d2 cL fb gb):=(L2.pe_ix L2.ix_seq ha hb hs).imp fun _ _ _ h=>vl HN h
theorem tR {r:List V->Hp->VK->Prop}{op:D->Option Vl}(hd:UD X (fun x H Q=>r [x] H Q) op){σ:St}{H:Hp}{Q:VK}(h:uE X.K (d1 op fb) σ H Q):L2.tCB r (L2.tCons (uB X.K fb) L2.tNil) σ H Q:=CM hd h
theorem A1 {r:List V->Hp->VK->Prop}{op:O2}(hd:OD X (fun x y H Q=>r [x,y] H Q) op){σ:St}{H:Hp}{Q:VK}(h:uE X.K (d2 op fb gb) σ H Q):L2.tCB r (L2.tCons (uB X.K fb) (L2.tCons (uB X.K gb) L2.tNil)) σ H Q:=vl hd h
variable {x:Str}{p:Pos}{bid T:String}{r:List V->Hp->VK->Prop}
theorem w8 {op:D->Option Vl}(hc:L2.CallR X (.builtin bid) r)(hd:UD X (fun x H Q=>r [x] H Q) op)(hm:X.mg x=none)(hv:bootBuiltins x=some (.builtin bid))(ha:DB X a fb)(hg:L2.Gl X x:=by rfl)(hn:x ≠ "__name__" := by decide)(hdb:(x==("__debug__" : Str))=false:=by decide)
  (he:starEach [a] X.env=(false,eval a X.env)::starEach [] X.env:=by rfl) (hpl:(backTo pos (starEach [] X.env)).any (·.1)=false:=by rfl):DE X (.Call (.Name x p) [a] [] pos) (d1 op fb) :=
 (L2.pe_callB hc hg hm hv (L2.pa_cons ha L2.pa_nil he) hn hdb he hpl).imp fun _ _ _ h=>tR hd h
theorem CH {op:D->Option Vl}(hc:L2.CallR X (.type T) r)(hd:UD X (fun x H Q=>r [x] H Q) op)(hm:X.mg x=none)(hv:bootBuiltins x=some (.type T))(ha:DB X a fb)(hg:L2.Gl X x:=by rfl)(hn:x ≠ "__name__" := by decide)(hdb:(x==("__debug__" : Str))=false:=by decide)
  (he:starEach [a] X.env=(false,eval a X.env)::starEach [] X.env:=by rfl) (hpl:(backTo pos (starEach [] X.env)).any (·.1)=false:=by rfl):DE X (.Call (.Name x p) [a] [] pos) (d1 op fb) :=
 (L2.pe_callTy hc hg hm hv (L2.pa_cons ha L2.pa_nil he) hn hdb he hpl).imp fun _ _ _ h=>tR hd h
theorem w6 {op:O2}(hc:L2.CallR X (.builtin bid) r)(hd:OD X (fun x y H Q=>r [x,y] H Q) op)(hm:X.mg x=none)(hv:bootBuiltins x=some (.builtin bid))(ha:DB X a fb)(hb:DB X b gb)(hg:L2.Gl X x:=by rfl)(hn:x ≠ "__name__" := by decide)(hdb:(x==("__debug__" : Str))=false:=by decide)
  (he:starEach [a,b] X.env=(false,eval a X.env)::starEach [b] X.env:=by rfl) (he2:starEach [b] X.env=(false,eval b X.env)::starEach [] X.env:=by rfl) (hpl:(backTo pos (starEach [b] X.env)).any (·.1)=false:=by rfl):DE X (.Call (.Name x p) [a,b] [] pos) (d2 op fb gb) :=
 (L2.pe_callB hc hg hm hv (L2.pa_cons ha (L2.pa_cons hb L2.pa_nil he2) he) hn hdb he hpl).imp fun _ _ _ h=>A1 hd h
theorem Fz:UD X (fun x H Q=>(fun xs H Q=>∃p ys,xs=[.ref p]/\(jR X.K H p ys\/jj X.K H p ys)/\Q (.int (ys.length:Nat)) H:List V->Hp->VK->Prop) [x] H Q) fF:=by
 intro x vx H O r Q ne hx hf k;cases x <;> first|cases hf|skip
 ·obtain⟨a,vs,rfl,ha,qa⟩:=hx.list;rw[qa.length] at k;exact⟨a,vs,rfl,.inl ha,k _ H (.refl H) (.of (.int _))⟩
 ·obtain⟨a,vs,rfl,ha,qa⟩:=hx.tuple;rw[qa.length] at k;exact⟨a,vs,rfl,.inr ha,k _ H (.refl H) (.of (.int _))⟩
theorem Bk:UD X (fun x H Q=>(fun xs H Q=>∃p ys,xs=[.ref p]/\((jR X.K H p ys/\∀l,H l=none->Q (.ref l) (dY H l (.tup ys)))\/(jj X.K H p ys/\Q (.ref p) H)):List V->Hp->VK->Prop) [x] H Q) cU:=by
 intro x vx H O r Q ne hx hf k;cases x <;> first|cases hf|skip
 ·obtain⟨a,vs,rfl,ha,qa⟩:=hx.list;refine⟨a,vs,rfl,.inl ⟨ha,fun p hp=>?_⟩⟩;have s2:de H (dY H p (.tup vs)):=fun b o e=>by rw[cC (cE e hp)];exact e
  exact k _ _ s2 (.of (.tuple (.inl (.inl cK)) (qa.same s2)))
 ·obtain⟨a,vs,rfl,ha,qa⟩:=hx.tuple;exact⟨a,vs,rfl,.inr ⟨ha,k _ H (.refl H) (.of (.tuple ha qa))⟩⟩
theorem F9:OD X (fun x y H Q=>(fun xs H Q=>∃i j,xs=[.int i,.int j]/\Q (.int (if j>i then j else i)) H:List V->Hp->VK->Prop) [x,y] H Q) sD:=by
 intro x y vx vy H O r Q ne hx hy hf k;obtain⟨_,_,rfl,rfl⟩:=mR (fun x y n=>by cases x <;> first|rfl|exact absurd rfl (n _)) (fun i y n=>by cases y <;> first|rfl|exact absurd rfl (n _)) hf;cases hf;cases hx.int;cases hy.int;exact⟨_,_,rfl,k _ H (.refl H) (.of (.int _))⟩
theorem F8:OD X (fun x y H Q=>(fun xs H Q=>∃i j,xs=[.int i,.int j]/\Q (.int (if j<i then j else i)) H:List V->Hp->VK->Prop) [x,y] H Q) ya:=by
 intro x y vx vy H O r Q ne hx hy hf k;obtain⟨_,_,rfl,rfl⟩:=mR (fun x y n=>by cases x <;> first|rfl|exact absurd rfl (n _)) (fun i y n=>by cases y <;> first|rfl|exact absurd rfl (n _)) hf;cases hf;cases hx.int;cases hy.int;exact⟨_,_,rfl,k _ H (.refl H) (.of (.int _))⟩
theorem iF (hm:X.mg "len" = none)(ha:DB X a fb)(hg:L2.Gl X "len" := by rfl)(he:starEach [a] X.env=(false,eval a X.env)::starEach [] X.env:=by rfl):DE X (.Call (.Name "len" p) [a] [] pos) (d1 fF fb):=w8 L2.call_len_seq Fz hm PySem.boot_len ha hg (by decide) (by decide) he
theorem dJ (hm:X.mg "tuple" = none)(ha:DB X a fb)(hg:L2.Gl X "tuple" := by rfl)(he:starEach [a] X.env=(false,eval a X.env)::starEach [] X.env:=by rfl):DE X (.Call (.Name "tuple" p) [a] [] pos) (d1 cU fb):=CH L2.call_tuple_of Bk hm PyProof.Rows.boot_tuple ha hg (by decide) (by decide) he
theorem CC (hc:X.calm=true)(hm:X.mg "max" = none)(ha:DB X a fb)(hb:DB X b gb)(hg:L2.Gl X "max" := by rfl)(he:starEach [a,b] X.env=(false,eval a X.env)::starEach [b] X.env:=by rfl)(he2:starEach [b] X.env=(false,eval b X.env)::starEach [] X.env:=by rfl)(hpl:(backTo pos (starEach [b] X.env)).any (·.1)=false:=by rfl) :
  DE X (.Call (.Name "max" p) [a,b] [] pos) (d2 sD fb gb):=w6 (L2.call_max2 hc) F9 hm PyProof.Rows.boot_max ha hb hg (by decide) (by decide) he he2 hpl
theorem GI (hc:X.calm=true)(hm:X.mg "min" = none)(ha:DB X a fb)(hb:DB X b gb)(hg:L2.Gl X "min" := by rfl)(he:starEach [a,b] X.env=(false,eval a X.env)::starEach [b] X.env:=by rfl)(he2:starEach [b] X.env=(false,eval b X.env)::starEach [] X.env:=by rfl)(hpl:(backTo pos (starEach [b] X.env)).any (·.1)=false:=by rfl) :
  DE X (.Call (.Name "min" p) [a,b] [] pos) (d2 ya fb gb):=w6 (L2.call_min2 hc) F8 hm PyProof.Rows.boot_min ha hb hg (by decide) (by decide) he he2 hpl
noncomputable def C3:List String:=["bool", "int", "str", "tuple", "list"]
noncomputable def AK (t T:String):Bool:=T==t||(t == "bool" && T == "int")
theorem rB (K:Fg):∀t∈C3,∀T∈C3,PySem.W.kitOne K (.type t) (.type T)=some (AK t T):=by
 intro t ht T hT;simp only[C3,bt,bo,or_false] at ht hT;rcases ht with rfl|rfl|rfl|rfl|rfl <;> rcases hT with rfl|rfl|rfl|rfl|rfl <;> kernel_rfl
theorem FA {T:String}(hT:T∈C3):UD X (fun x H Q=>∃t b,L2.KdV X.K H x t/\PySem.W.kitOne X.K (.type t) (.type T)=some b/\Q (.bl b) H) (qY T):=by
 intro x vx H O r Q ne hx hf k;cases x <;> first|cases hf|skip
 ·cases hx.bool;refine⟨"bool", _,rfl,rB _ _ (by simp[C3]) _ hT,?_⟩;have:=k _ H (.refl H) (.of (.bool _));simp only[Cb] at this;simpa [AK] using this
 ·cases hx.int;refine⟨"int", _,rfl,rB _ _ (by simp[C3]) _ hT,?_⟩;have:=k _ H (.refl H) (.of (.bool _));simp only[Cb] at this;simpa [AK] using this
 ·cases hx.str;refine⟨"str", _,rfl,rB _ _ (by simp[C3]) _ hT,?_⟩;have:=k _ H (.refl H) (.of (.bool _));simp only[Cb] at this;simpa [AK] using this
 ·obtain⟨a,vs,rfl,ha,qa⟩:=hx.list;refine⟨"list", _,.inr ⟨rfl,vs,ha⟩,rB _ _ (by simp[C3]) _ hT,?_⟩;have:=k _ H (.refl H) (.of (.bool _));simp only[Cb] at this;simpa [AK] using this
 ·obtain⟨a,vs,rfl,ha,qa⟩:=hx.tuple;refine⟨"tuple", _,.inl ⟨rfl,vs,ha⟩,rB _ _ (by simp[C3]) _ hT,?_⟩;have:=k _ H (.refl H) (.of (.bool _));simp only[Cb] at this;simpa [AK] using this
theorem vj {y:Str}{T:String}{p2:Pos}(hm:X.mg "isinstance" = none)(hmT:X.mg y=none)(hvT:bootBuiltins y=some (.type T))(ha:DB X a fb)(hT:T∈C3:=by decide)(hg:L2.Gl X "isinstance" := by rfl)(hgT:L2.Gl X y:=by rfl)(hnT:y ≠ "__name__" := by decide)(hdT:(y==("__debug__" : Str))=false:=by decide)
  (he:starEach [a,.Name y p2] X.env=(false,eval a X.env)::starEach [.Name y p2] X.env:=by rfl) (he2:starEach [.Name y p2] X.env=(false,eval (.Name y p2) X.env)::starEach [] X.env:=by rfl) (hpl:(backTo pos (starEach [.Name y p2] X.env)).any (·.1)=false:=by rfl) :
  DE X (.Call (.Name "isinstance" p) [a,.Name y p2] [] pos) (d1 (qY T) fb) :=
 (L2.pe_callB L2.call_isa hg hm PyProof.Rows.boot_isinstance (L2.pa_cons ha (L2.pa_cons (L2.pe_bltn (v:=.ty T) hgT hmT hvT rfl hnT hdT) L2.pa_nil he2) he) (by decide) (by decide) he hpl).imp fun σ H Q h=>by
  obtain⟨ρ,O,M,lad,res,hE,hf,k⟩:=h;unfold d1 at hf;obtain⟨x,hx,hf⟩:=Option.bind_eq_some_iff.mp hf;refine⟨ρ,O,M,lad,x,hE,hx,fun vx H1 s1 q1=>?_⟩;obtain⟨t,b,kd,e,q⟩:=FA hT x vx H1 O res Q (hE.same s1).ne q1 hf fun v H' s q=>k v H' (s1.trans s) (q.back s1);exact⟨vx,t,T,b,rfl,kd,e,q⟩
end
def A5 (n:Nat)(g:GD):Prop:=∀d ρ ρ1,g d ρ=some ρ1->ρ1.length=ρ.length/\∀i:Nat,n<=i->ρ1[i]?=ρ[i]?
theorem dh {n i:Nat}(h:i<n:=by decide):A5 n (gN i):=fun d ρ ρ1 e=>by
 cases e;exact⟨by rw[bf],fun j hj=>by rw[ai ⋯]⟩
def zV (n:Nat)(gs:List GD):Prop:=∀ds ρ ρ1,oC gs ds ρ=some ρ1->ρ1.length=ρ.length/\∀i:Nat,n<=i->ρ1[i]?=ρ[i]?
theorem qm {n:Nat}:zV n []:=fun ds ρ ρ1 e=>by
 cases ds with
 |nil=>cases e;exact⟨rfl,fun _ _=>rfl⟩
 |cons _ _=>cases e
theorem gq {n:Nat}{g:GD}{gs:List GD}(h:A5 n g)(hs:zV n gs):zV n (g::gs):=fun ds ρ ρ1 e=>by
 cases ds with
 |nil=>cases e
 |cons d ds =>
  unfold oC at e;obtain⟨ρ2,hx,e⟩:=Option.bind_eq_some_iff.mp e;obtain⟨l1,q1⟩:=h _ _ _ hx;obtain⟨l2,q2⟩:=hs _ _ _ e;exact⟨l2.trans l1,fun i hi=>(q2 i hi).trans (q1 i hi)⟩
theorem ql {n:Nat}{gs:List GD}(hs:zV n gs):A5 n (gT gs):=fun d ρ ρ1 e=>by
 unfold gT at e;split at e
 ·exact hs _ _ _ e
 ·cases e
theorem A0 {n:Nat}{ix:List Nat}{ρ:Sl}{i:Nat}(h:i<n):(fA n ix ρ)[i]?=some none:=by
 unfold fA;rw[aP (by rw[bh];exact h),bN,if_pos h]
theorem eF {n:Nat}{ix:List Nat}{ρ:Sl}{i:Nat}{x:Vl}(h:(fA n ix ρ)[i]?=some (some x)):n<=i/\∃j,ix[i-n]?=some j/\ρ[j]?=some (some x):=by
 by_cases hi:i<n
 ·rw[A0 hi] at h;cases h
 ·refine⟨by omega,?_⟩;unfold fA at h;rw[aN (by rw[bh];omega),bh,au] at h;cases ej:ix[i-n]? with
  |none=>rw[ej] at h;cases h
  |some j =>
   rw[ej,av] at h;refine⟨j,rfl,?_⟩;cases er:ρ[j]? with
   |none=>rw[er] at h;cases h
   |some y=>rw[er] at h;exact congrArg some (Option.some.inj h)
theorem f7 {n:Nat}{ix:List Nat}{σ:St}{i j:Nat}{v:V}(hi:n<=i)(hj:ix[i-n]?=some j)(h:σ[j]?=some (some v)):(L2.capt n ix σ)[i]?=some (some v):=by
 unfold L2.capt;rw[aN (by rw[bh];omega),bh,au,hj,av,h];rfl
theorem ER.capt {K:Fg}{H:Hp}{O M:List Addr}{lad:Nat->Addr}{ρ:Sl}{σ:St}(n:Nat){ix:List Nat}(hix:ix.Nodup)(h:ER K H O M lad ρ σ):ER K H O M (fun i=>lad (ix.getD (i-n) 0)) (fA n ix ρ) (L2.capt n ix σ) where
 sh:=fun i d e=>by
  obtain⟨hi,j,hj,hr⟩:=eF e;obtain⟨v,e1,q⟩:=h.sh j d hr;exact⟨v,f7 hi hj e1,q⟩
 ow:=fun i d e=>by
  obtain⟨hi,j,hj,hr⟩:=eF e;obtain⟨a,vs,e2,r⟩:=h.ow j d hr;exact⟨a,vs,f7 hi hj e2,r⟩
 le:=fun i d e=>by
  obtain⟨hi,j,hj,hr⟩:=eF e;obtain⟨e2,r⟩:=h.le j d hr;have z:ix.getD (i-n) 0=j:=by rw[ag,hj];rfl
  rw[z];exact⟨f7 hi hj e2,r⟩
 ap:=fun i k d e a e1 e2 e3 e4=>by
  obtain⟨hi,j,hj,hr⟩:=eF e1;obtain⟨hk,l,hl,hs⟩:=eF e2;obtain⟨a1,_,f1,_⟩:=h.ow j d hr;obtain⟨a2,_,f2,_⟩:=h.ow l e hs;have g1:=f7 hi hj f1;have g2:=f7 hk hl f2;rw[e3] at g1;rw[e4] at g2;cases g1;cases g2;have:=h.ap j l d e a hr hs f1 f2;subst this;have:i-n=k-n:=by
   obtain⟨h1,z1⟩:=List.getElem?_eq_some_iff.mp hj;obtain⟨h2,z2⟩:=List.getElem?_eq_some_iff.mp hl;exact (JP hix).mp (z1.trans z2.symm)
  omega
 tr:=h.tr
 sub:=h.sub
 len:=by
  unfold fA L2.capt;rw[aw,aw,bh,bh,af,af]
 dp:=by
  have inj:∀{i k j:Nat},n<=i->n<=k->ix[i-n]?=some j->ix[k-n]?=some j->i=k:=fun {i k j} hi hk h1 h2=>by
   obtain⟨l1,z1⟩:=List.getElem?_eq_some_iff.mp h1;obtain⟨l2,z2⟩:=List.getElem?_eq_some_iff.mp h2;have:i-n=k-n:=(JP hix).mp (z1.trans z2.symm);omega
  refine⟨fun i ds e=>?_,fun i k ds es e1 e2=>?_⟩
  ·obtain⟨hi,j,hj,hr⟩:=eF e;rcases h.dp.pk j ds hr with ⟨ds',rfl,a,bs,h1,h2,h3,h4,h5,h6⟩|⟨kvs,rfl,a,es',h1,h2,h3,h5,h6⟩
   ·refine .inl ⟨ds',rfl,a,bs,f7 hi hj h1,h2,h3,h4,h5,fun k es c z1 z2=>?_⟩;obtain⟨hk,l,hl,hs⟩:=eF z1;obtain⟨a2,_,f2,_⟩:=h.ow l es hs;have g2:=f7 hk hl f2;rw[z2] at g2;cases g2;exact h6 l es c hs f2
   ·refine .inr ⟨kvs,rfl,a,es',f7 hi hj h1,h2,h3,h5,fun k es c z1 z2=>?_⟩;obtain⟨hk,l,hl,hs⟩:=eF z1;obtain⟨a2,_,f2,_⟩:=h.ow l es hs;have g2:=f7 hk hl f2;rw[z2] at g2;cases g2;exact h6 l es c hs f2
  ·obtain⟨hi,j,hj,hr⟩:=eF e1;obtain⟨hk,l,hl,hs⟩:=eF e2;have:=h.dp.one j l ds es hr hs;subst this;exact inj hi hk hj hl
theorem ER.fewer {K:Fg}{H:Hp}{O M:List Addr}{lad:Nat->Addr}{ρ ρ':Sl}{σ:St}(h:ER K H O M lad ρ σ)(hl:ρ'.length=ρ.length)(le:∀(i:Nat) x,ρ'[i]?=some (some x)->ρ[i]?=some (some x)):ER K H O M lad ρ' σ :=
 ⟨fun i d e=>h.sh i d (le i _ e),fun i d e=>h.ow i d (le i _ e),fun i d e=>h.le i d (le i _ e),fun i j d e a e1 e2=>h.ap i j d e a (le i _ e1) (le j _ e2),h.tr,h.sub,hl.trans h.len,h.dp.go (.same (.refl _)) (fun i ds e=>⟨le i _ e,rfl⟩) (fun b hb _=>⟨hb,fun _ e=>e⟩) fun j es c e1 e2=>.inr ⟨j,es,le j _ e1,e2⟩⟩
theorem ER.more {K:Fg}{H H':Hp}{O O' M:List Addr}{lad:Nat->Addr}{ρ:Sl}{σ:St}(h:ER K H O M lad ρ σ)(x:iJ [] O H O' H')(so:∀b∈O,b∈O')(tr:∀b∈O',∃u,H' b=some (oW u))(kl:∀b u,H b=some (oW u)->H' b=some (oW u)):ER K H' O' M lad ρ σ where
 sh:=fun i d e=>let ⟨v,e1,q⟩:=h.sh i d e;⟨v,e1,q.ext x⟩
 ow:=fun i d e=>let ⟨a,vs,e2,e3,e4,q⟩:=h.ow i d e;⟨a,vs,e2,kl _ (.inl _) e3,e4,q.ext x⟩
 le:=fun i d e=>let ⟨e2,vs,e3,e4,e5,q⟩:=h.le i d e;⟨e2,vs,kl _ (.inl _) e3,so _ e4,e5,q.ext x⟩
 ap:=h.ap
 tr:=tr
 sub:=fun b hb=>so b (h.sub b hb)
 len:=h.len
 dp:=h.dp.go x (fun _ _ e=>⟨e,rfl⟩) (fun b hb _=>⟨hb,fun vs e=>kl _ _ e⟩) fun j es c e1 e2=>.inr ⟨j,es,e1,e2⟩
theorem xa {K:Fg}{it:AD}{n:Nat}{ix:List Nat}{g:GD}{t:TD}{e:ED}(hix:ix.Nodup)(hg:A5 n g){σ:St}{H:Hp}{Q:VK}(h:uE K (dN it n ix g t e) σ H Q) :
  L2.tComp (uI K it) n ix (uG K g) (uT K t) (uE K e) σ H Q:=by
 obtain⟨ρ,O,M,lad,res,hE,hf,k⟩:=h;unfold dN at hf;cases hd:it ρ with
 |none=>rw[hd] at hf;cases hf
 |some ds =>
  rw[hd,aa] at hf;split at hf
  ·rename_i hz;cases hc:hJ g t e (fA n ix ρ) ds with
   |none=>rw[hc] at hf;cases hf
   |some xs =>
    rw[hc,av] at hf;cases hf;refine⟨ρ,O,M,lad,ds,hE,hd,fun J H1 s1 iok=>fun L hL=>?_⟩;have hLO:L∉O:=fun z=>(hE.same s1).ne L z hL;refine⟨fun i m σ' H'=>m=ds.length-i/\i<=ds.length/\de H1 H'/\∃ys vs,ys.length<=i/\H' L=some (.lst vs)/\Rs K H' (L::O) ys vs/\ER K H' (L::O) M (fun i=>lad (ix.getD (i-n) 0)) (fA n ix ρ) σ' ∧
     (hJ g t e (fA n ix ρ) (ds.drop i)).map (fun r=>ys++r)=some xs,⟨ds.length,by simp,bx _,?_,[],[],bx _,cK,.nil,?_,by simp[hc]⟩,?_⟩
    ·exact fun b o e=>by rw[cC (cE e hL)];exact e
    ·have E1:=(hE.same s1).capt n hix;have x:iJ [] O H1 (L::O) (dY H1 L (.lst [])):=iJ.fresh (fun b o e=>by rw[cC (cE e hL)];exact e) hL;refine E1.more x (fun b hb=>aH _ hb) (fun b hb=>?_) fun b vs e=>by rw[cC (cE e hL)];exact e
     rcases List.mem_cons.mp hb with z|z
     ·subst z;exact⟨.inl [],cK⟩
     ·obtain⟨vs,e⟩:=E1.tr b z;exact⟨vs,by rw[cC (cE e hL)];exact e⟩
    ·rintro i m σ' H' ⟨rfl,hi,sm,ys,vs,hl,hD,qs,E',hrest⟩;have x0:iJ [] O H1 (L::O) H':=iJ.fresh sm hL;have x:iJ M O H1 (L::O) H':=⟨x0.tup,x0.frz,fun b xs _ e=>sm b _ e,fun b φ _ e=>sm b _ e,x0.new,hE.sub⟩;obtain⟨go,stop⟩:=iok _ _ x;by_cases hlt:i<ds.length
     ·have ed:ds.drop i=ds[i]::ds.drop (i+1):=bT hlt;rw[ed] at hrest;unfold hJ at hrest;cases hg1:g ds[i] (fA n ix ρ) with
      |none=>rw[hg1] at hrest;cases hrest
      |some ρ1 =>
       rw[hg1,aa] at hrest;cases ht:t ρ1 with
       |none=>rw[ht] at hrest;cases hrest
       |some c =>
        rw[ht,aa] at hrest;obtain⟨g1,g2⟩:=go i ds[i] (by simp[hlt]);obtain⟨ln,keep⟩:=hg _ _ _ hg1;have back:∀(j:Nat) y,(fA n ix ρ)[j]?=some (some y)->ρ1[j]?=some (some y):=fun j y e=>by
         rw[keep j (eF e).1];exact e
        refine .inr ⟨g1,fun σ2 H2=>de H1 H2/\∃ys vs,ys.length<=i+1/\H2 L=some (.lst vs)/\Rs K H2 (L::O) ys vs/\ER K H2 (L::O) M (fun i=>lad (ix.getD (i-n) 0)) (fA n ix ρ) σ2/\(hJ g t e (fA n ix ρ) (ds.drop (i+1))).map (fun r=>ys++r)=some xs,
         fun σ2 H2 ⟨s2,r⟩=>⟨ds.length-(i+1),by omega,rfl,hlt,s2,r⟩,fun v H2 hy=>?_⟩
        obtain⟨s2,q2⟩:=g2 v H2 hy;refine⟨_,_,M,_,ds[i],ρ1,E'.same s2,q2,hg1,fun σ3 H3 s3 E3=>⟨ρ1,_,M,_,c,E3,ht,fun H4 s4=>?_⟩⟩;have S4:de H' H4:=(s2.trans s3).trans s4;have E4:ER K H4 (L::O) M (fun i=>lad (ix.getD (i-n) 0)) ρ1 σ3:=E3.same s4;cases c with
        |false =>
         dsimp only at hrest ⊢;rw[if_neg Bool.false_ne_true] at hrest ⊢;exact⟨sm.trans S4,ys,vs,by omega,S4 _ _ hD,qs.same S4,E4.fewer ln.symm back,hrest⟩
        |true =>
         dsimp only at hrest ⊢;rw[if_pos rfl] at hrest ⊢;cases he:e ρ1 with
         |none=>rw[he] at hrest;cases hrest
         |some r1 =>
          rw[he,aa] at hrest;cases hc2:hJ g t e (fA n ix ρ) (ds.drop (i+1)) with
          |none=>rw[hc2] at hrest;cases hrest
          |some zs =>
           rw[hc2,av,av] at hrest;cases hrest;refine⟨ρ1,_,M,_,r1,E4,he,fun y H5 s5 q5=>?_⟩;have S5:de H' H5:=S4.trans s5;have hl2:=qs.length;have qy:=q5.toR E4.ne;have s6:iJ [L] (L::O) H5 (L::O) (dY H5 L (.lst (vs++[y]))):=by
            have hD5:=S5 _ _ hD;refine⟨fun b xs e=>?_,fun b o u e=>?_,fun b xs nb e=>?_,fun b φ nb e=>?_,fun b hb=>.inl hb,fun b hb=>(List.mem_singleton.mp hb)▸aQ⟩
            ·rw[cC (fun (z:b=L)=>by rw[z,hD5] at e;cases e)];exact e
            ·rw[cC (fun (z:b=L)=>by rw[z,hD5] at e;cases e)];exact e
            ·rw[cC (fun (z:b=L)=>nb (by rw[z];exact List.mem_singleton.mpr rfl))];exact e
            ·rw[cC (fun (z:b=L)=>nb (by rw[z];exact List.mem_singleton.mpr rfl))];exact e
           have kl:∀b us,b≠L->H5 b=some (oW us)->(dY H5 L (.lst (vs++[y]))) b=some (oW us):=fun b us nb e=>by rw[cC nb];exact e
           refine⟨vs,S5 _ _ hD,by omega,?_,ys++[r1.1],vs++[y],by rw[aw,aO];omega,cK,((qs.same S5).append (.cons qy .nil)).ext s6,?_,by rw[av,ba];rfl⟩
           ·intro b o e;rw[cC (cE e hL)];exact S5 _ _ (sm _ _ e)
           ·have E5:ER K H5 (L::O) M (fun i=>lad (ix.getD (i-n) 0)) (fA n ix ρ) σ3:=(E4.same s5).fewer ln.symm back;have nM:∀b∈M,b≠L:=fun b hb z=>hLO (z▸hE.sub b hb);have nL:∀(j:Nat) (d:List D),(fA n ix ρ)[j]?=some (some (gX d,true))->lad (ix.getD (j-n) 0)≠L:=fun j d e z=>by
             obtain⟨hi,j',hj,hr⟩:=eF e;obtain⟨_,_,_,e4,_⟩:=hE.le j' d hr;have z':ix.getD (j-n) 0=j':=by rw[ag,hj];rfl
             rw[z'] at z;exact hLO (z▸e4)
            exact⟨fun j d e=>let ⟨w,e1,q⟩:=E5.sh j d e;⟨w,e1,q.ext s6⟩,
             fun j d e=>let ⟨a,us,e2,e3,e4,q⟩:=E5.ow j d e;⟨a,us,e2,kl _ (.inl _) (nM a e4) e3,e4,q.ext s6⟩,
             fun j d e=>let ⟨e2,us,e3,e4,e5,q⟩:=E5.le j d e;⟨e2,us,kl _ (.inl _) (nL j d e) e3,e4,e5,q.ext s6⟩,E5.ap,
             fun b hb=>by
              by_cases z:b=L
              ·subst z;exact⟨.inl _,cK⟩
              ·obtain⟨us,e⟩:=E5.tr b hb;exact⟨us,kl b us z e⟩,E5.sub,E5.len,
             E5.dp.go s6 (fun _ _ e=>⟨e,rfl⟩) (fun b hb _=>⟨hb,fun us e=>kl b us (nM b hb) e⟩) fun j es c e1 e2=>.inr ⟨j,es,e1,e2⟩⟩
     ·have ei:i=ds.length:=by omega
      subst ei;rw[JQ] at hrest;unfold hJ at hrest;rw[av,bj] at hrest;have ee:=Option.some.inj hrest;subst ee;exact .inl ⟨stop,k _ H' (s1.trans sm) (.inr ⟨rfl,L,ys,vs,rfl,rfl,s1.free hL,hD,qs⟩)⟩
  ·cases hf
section
variable {X:Cx}{e a b c elt tg iter:Expr}{es ifs:List Expr}{f g:ED}{fb gb hb' kb:BD}{t u:TD}{pos:Pos}{it:AD}{gd:GD}{scope:Scope}{own caps:List Str}{ix:List Nat}
def IC (X:Cx)(ifs:List Expr)(t:TD):Prop:=L2.PTs X ifs (uT X.K t)
theorem fB:IC X [] gF:=L2.pts_nil.imp fun σ H Q zz=>by
 obtain ⟨ρ,O,M,lad,b,hE,hf,k⟩:=zz;cases hf;exact k H (.refl H)
theorem vg (h:DT X c t):IC X [c] t:=L2.pts_one h
theorem fo (S:L2.CompSc X.env.scope X.N scope own ix caps)(hc:X.calm=true)(hix:ix.Nodup)(hw:A5 own.length gd)(hi:DI X tg iter it)
  (hg:∀s₀ H₀ ex pn,DG (L2.compCx X scope (own++caps) s₀ H₀ ex pn) tg gd) (ht:∀s₀ H₀ ex pn,IC (L2.compCx X scope (own++caps) s₀ H₀ ex pn) ifs t) (he:∀s₀ H₀ ex pn,DE (L2.compCx X scope (own++caps) s₀ H₀ ex pn) elt f)
  (hs:∀x,foldedSetIterable iter X.env x=pure x:=by intro _;rfl):DE X (.ListComp elt [⟨tg,iter,ifs,0⟩] scope pos) (dN it own.length ix gd t f) :=
 (L2.pe_lcomp (g:=uG X.K gd) (tc:=uT X.K t) (te:=uE X.K f) S hc hi hg ht he hs).imp fun σ H Q h=>xa hix hw h
theorem zH {spos py:Pos}{i:Nat}{y:Str}(hN:X.N.Nodup)(S:L2.CompSc X.env.scope X.N scope own ix caps)(hc:X.calm=true)(hix:ix.Nodup)(hw:A5 own.length gd)(hi:DI X tg iter it)
  (hg:∀s₀ H₀ ex pn,DG (L2.compCx X scope (own++caps) s₀ H₀ ex pn) tg gd) (ht:∀s₀ H₀ ex pn,IC (L2.compCx X scope (own++caps) s₀ H₀ ex pn) ifs t) (he:∀s₀ H₀ ex pn,DE (L2.compCx X scope (own++caps) s₀ H₀ ex pn) elt f)
  (hiN:X.N[i]?=some y:=by rfl) (hy:X.env.scope.names.lookup y=some .local:=by rfl)
  (hsw:swapsWith (.ListComp elt [⟨tg,iter,ifs,0⟩] scope pos) (some (.Name y py)) spos.line X.env=pure true:=by rfl)
  (hs:∀x,foldedSetIterable iter X.env x=pure x:=by intro _;rfl):DS X (.Assign [.Name y py] (.ListComp elt [⟨tg,iter,ifs,0⟩] scope pos) spos) (cF i (dN it own.length ix gd t f)):=fun B H₀ M₀ lad =>
 (L2.ps_lcomp (g:=uG X.K gd) (tc:=uT X.K t) (te:=uE X.K f) S hc hN hiN hy hi hg ht he hsw hs).imp fun E σ H h=>xa hix hw (za h)
noncomputable def uL (K:Fg)(f:LD):TE:=fun σ H Q=>∃ρ O M lad ds,ER K H O M lad ρ σ/\f ρ=some ds/\∀v H',de H H'->(∃a vs,v=.ref a/\H' a=some (.lst vs)/\Rs K H' O ds vs)->Q v H'
def Jn (X:Cx)(e:Expr)(f:LD):Prop:=PE X e (uL X.K f)
theorem Fh (h:DE X e f):Jn X e (Fc f):=h.imp fun σ H Q zz=>by
 obtain ⟨ρ,O,M,lad,ds,hE,hf,k⟩:=zz;unfold Fc at hf;obtain⟨r,hr,hf⟩:=Option.bind_eq_some_iff.mp hf;split at hf
 ·cases hf;refine⟨ρ,O,M,lad,_,hE,hr,fun v H1 s1 q1=>k v H1 s1 ?_⟩;rcases q1 with ⟨z,_⟩|⟨_,a,es,vs,e1,e2,e3,e4,q⟩
  ·cases z
  ·cases e1;exact⟨a,vs,e2,e4,q.ext (.less fun b hb=>aH _ hb)⟩
 ·cases hf
theorem BU {K:Fg}{H H1:Hp}{O:List Addr}{ds:List D}{vs:List V}{Q:VK}(s1:de H H1)(qa:Rs K H1 O ds vs)(k:∀v H',de H H'->vE K H O H' (.list ds,true) v->Q v H'):∀l,H1 l=none->Q (.ref l) (dY H1 l (.lst vs)):=fun p hp=>by
 have s2:de H1 (dY H1 p (.lst vs)):=fun b o e=>by rw[cC (cE e hp)];exact e
 refine k _ _ (s1.trans s2) (.inr ⟨rfl,p,ds,vs,rfl,rfl,s1.free hp,cK,qa.ext (iJ.fresh s2 hp)⟩)
theorem zL {fl:LD}(ha:Jn X a fl)(hb:DB X b gb):DE X (.BinOp a .Mult b pos) (pY fl gb):=(L2.pe_op L2.op_rep ha hb).imp fun σ H Q zz=>by
 obtain ⟨ρ,O,M,lad,r,hE,hf,k⟩:=zz;unfold pY at hf;obtain⟨xs,hx,hf⟩:=Option.bind_eq_some_iff.mp hf;obtain⟨y,hy,hf⟩:=Option.bind_eq_some_iff.mp hf;split at hf
 ·split at hf
  ·rename_i j hz;cases hf;refine⟨ρ,O,M,lad,xs,hE,hx,fun v H1 s1 ⟨a,vs,e1,e2,q1⟩=>⟨ρ,O,M,lad,_,hE.same s1,hy,fun w H2 s2 q2=>?_⟩⟩;have l1:=q1.length;exact⟨a,j,vs,e1,q2.int,s2 _ _ e2,hz.1,hz.2.1,by rw[<-l1];exact hz.2.2,BU (s1.trans s2) ((q1.same s2).rep j.toNat) k⟩
  ·cases hf
 ·cases hf
end
theorem zB {n m:Nat}{b:SD}{ds:List D}{r:Vl}(h:ki n m b ds=some r):ds.length=n:=by
 unfold ki at h;split at h
 ·assumption
 ·cases h
theorem Bw {K:Fg}{H:Hp}{B:List Addr}{m:Nat}{ds:List D}{vs:List V}(q:Rs K H B ds vs)(tr:∀a∈B,∃u,H a=some (oW u))(lad:Nat->Addr):ER K H ([]++B) [] lad (ds.map (fun d=>some (d,false))++aI m none) (vs.map some++aI m none):=by
 have fl:∀{i:Nat}{d:D}{o:Bool},(ds.map (fun d=>some (d,false))++aI m none:Sl)[i]?=some (some (d,o))->o=false/\ds[i]?=some d:=fun {i d o} e=>by
  by_cases hi:i<ds.length
  ·rw[aP (by rw[af];exact hi),au] at e;cases er:ds[i]? with
   |none=>rw[er] at e;cases e
   |some d'=>rw[er] at e;cases e;exact⟨rfl,rfl⟩
  ·rw[aN (by rw[af];omega),bN] at e;split at e <;> cases e
 refine⟨fun i d e=>?_,fun i d e=>?_,fun i d e=>?_,fun i j d e a e1=>?_,tr,(fun a ha=>nomatch ha),by rw[aw,aw,af,af,q.length];simp,.none_ fun i x e=>(fl (d:=x.1) (o:=x.2) e).1⟩
 ·obtain⟨_,ed⟩:=fl e;obtain⟨v,ev,rv⟩:=q.get ed;refine⟨v,?_,rv⟩;have hi:i<vs.length:=(List.getElem?_eq_some_iff.mp ev).1;rw[aP (by rw[af];exact hi),au,ev];rfl
 ·cases (fl e).1
 ·cases (fl e).1
 ·cases (fl e1).1
theorem fk {P:Program}{w:World}{K:Fg}{mg:Str->Option Value}{base:Heap}{x qual:Str}{st:Stmt}{f:Addr}{fd:FuncData}{N ps:List Str}{k:Nat}{b:SD}(F:L2.Fun K x qual st f fd)(S:L2.FnScope N ps (L2.defScope st))
  (hb:∀(cdv:Value) (A:Around) (outer:List Env) (s:Shared) (H:Hp) (E:L2.XK),L2.Room k (A.deeper (PyProof.Rows.envOfC qual (L2.defScope st) s.heap.objs.size f cdv))->C1 (L2.cxOf L2.CX0 P w K mg base N qual (L2.defScope st) f cdv A outer s H E).nox (L2.defBody st) b) :
  L2.FnOk P w K mg base L2.CX0 (k+1) f fd ps (spD K (ki ps.length (N.length-ps.length) b)):=by
 refine F.ok S (fun vs H Q E zz=>by obtain ⟨ds,B,r,q,_,hF,_⟩:=zz; rw[<-q.length];exact zB hF) fun cdv A outer s H vs Q E hr zz=>?_;obtain ⟨ds,B,r,q,tr,hF,kk⟩:=zz;have hl:=zB hF;refine⟨_,hb cdv A outer s H E hr B H [] (fun _=>f),?_⟩;unfold ki at hF;rw[if_pos hl] at hF;obtain⟨fl,hfl,hF⟩:=Option.bind_eq_some_iff.mp hF;have same:∀{M':List Addr}{H':Hp},gJ [] H M' H'->de H H':=fun x b o e=>x.keep b o (fun z=>(nomatch z)) e;refine⟨_,fl,⟨[],.refl [] H,(fun _ z=>nomatch z),?_⟩,hfl,?_⟩
 ·have:=Bw (m:=N.length-ps.length) q tr (fun _=>f);unfold L2.start;rw[<-q.length,hl];exact this
 ·cases fl with
  |next ρ =>
   cases hF;exact fun σ H' ⟨M',x,_,_⟩=>kk _ H' (same x) (.of .none)
  |ret r' =>
   cases hF;refine fun v H' ⟨⟨M',x⟩,q'⟩=>kk v H' (same x) ?_;rcases q' with q'|⟨e,a,es,us,e1,e2,e3,e4,q'⟩
   ·exact .inl q'
   ·exact .inr ⟨e,a,es,us,e1,e2,e3.elim (fun z=>(nomatch z)) id,e4,q'⟩
  |brk ρ=>cases hF
  |cont ρ=>cases hF
theorem iE {X:Cx}{st:Stmt}{F:SD}(i:Nat)(h:DS X st F):DS X st (fL i F):=fun B H₀ M₀ lad=>(h B H₀ M₀ lad).imp fun E σ H zz=>by
 obtain ⟨ρ,fl,hR,hf,k⟩:=zz;unfold fL at hf;cases hx:F ρ with
 |none=>rw[hx] at hf;cases hf
 |some fl0 =>
  rw[hx,av] at hf;refine⟨ρ,fl0,hR,hx,?_⟩;cases fl0 with
  |next ρ'=>cases hf;exact fun σ' H' r=>k σ' H' (r.share i)
  |ret r=>cases hf;exact k
  |brk ρ'=>cases hf;exact k
  |cont ρ'=>cases hf;exact k
structure fG (P:Program)(w:World)(K:Fg)(mg:Str->Option Value)(base:Heap)(k:Nat)(x:Str)(ps:List Str)(F:FD):Prop where
 ex:∃(fa:Addr) (fd:FuncData),L2.FnOk P w K mg base L2.CX0 k fa fd ps (spD K F)/\mg x=some (.ref fa)/\PySem.W.keepIn K (.ref fa)=true/\L2.Binds K fd ps []
theorem dg {X:Cx}{e:Expr}{es:List Expr}{pos p:Pos}{k j:Nat}{ps:List Str}{F:FD}{x:Str}{t:AD}(G:fG X.prog X.w X.K X.mg X.base k x ps F)(hr:L2.Room j X.A)(ha:DA X (e::es) t)(hj:k<=j:=by decide)(hg:L2.Gl X x:=by rfl)
  (hdb:(x==("__debug__" : Str))=false:=by decide) (he:starEach (e::es) X.env=(false,eval e X.env)::starEach es X.env:=by rfl) (hpl:(backTo pos (starEach es X.env)).any (·.1)=false:=by rfl) :
  DE X (.Call (.Name x p) (e::es) [] pos) (cD F t):=by
 obtain⟨fa,fd,h1,h2,h3,h4⟩:=G.ex;exact EA h1 (hr.mono hj) hg h2 h3 h4 ha hdb he hpl
open L2 (V Hp St HO VK Cx jj jR)
noncomputable def qw (osc:Scope)(oN:List Str)(scope:Scope)(own:List Str)(ix:List Nat)(caps:List Str):Bool :=
 decide (scope.kind=.function)&&decide ((own++caps).Nodup)&&own.all (fun x=>scope.names.lookup x==some .local||scope.names.lookup x==some .cell)&&decide (ix.map (fun j=>oN[j]?)=caps.map some) &&
 scope.names.all (fun p=>p.2 != .free||osc.names.lookup p.1==some .cell||osc.names.lookup p.1==some .free)&&caps.all (fun y=>scope.names.any fun p=>p.1==y&&p.2==.free)&&scope.names.all (fun p=>scope.names.lookup p.1==some p.2)
theorem eX {X:Cx}{osc scope:Scope}{oN own caps:List Str}{ix:List Nat}(h1:X.env.scope=osc)(h2:X.N=oN)(h:qw osc oN scope own ix caps=true):L2.CompSc X.env.scope X.N scope own ix caps:=by
 rw[h1,h2];unfold qw at h;simp only[Bool.and_eq_true,decide_eq_true_eq,bp,Bool.or_eq_true,beq_iff_eq,List.any_eq_true,bne_iff_ne,ne_eq] at h;obtain⟨⟨⟨⟨⟨⟨a1,a2⟩,a3⟩,a4⟩,a5⟩,a6⟩,a7⟩:=h;refine⟨a1,a2,a3,a4,fun p hp hf=>?_,fun y hy=>?_,a7⟩
 ·rcases a5 p hp with (z|z)|z
  ·exact absurd hf z
  ·exact .inl z
  ·exact .inr z
 ·obtain⟨⟨z,k⟩,hp,e1,e2⟩:=a6 y hy;simp only at e1 e2;subst e1 e2;exact hp
theorem zg {K:Fg}{H:Hp}{O:List Addr}:∀ns:List Int,Rs K H O (ns.map .int) (ns.map V.int)
 |[]=>.nil
 |n::ns=>.cons (.int n) (zg ns)
theorem law_end {K:Fg}{H:Hp}{a:Addr}{ns:List Int}{F:FD}(hS:jR K H a (ns.map V.int))(hl:ns.length<=63)(h:∀ns:List Int,ns.length<=63->F [.list (ns.map .int)]=some (.bool true,false)) :
  spD K F [.ref a] H (fun v _=>v=.bl true) fun _ _ _=>False:=by
 refine⟨[.list (ns.map .int)],[],_,.cons (.list ?_ (zg ns)) .nil,(fun _ z=>nomatch z),h ns hl,fun v H' s q=>?_⟩
 ·rcases hS with (z|z)|z
  ·exact .inl ⟨z,fun w=>nomatch w⟩
  ·exact .inr (.inl z)
  ·exact .inr (.inr z)
 ·rcases q with ⟨_,q⟩|⟨z,_⟩
  ·cases q;rfl
  ·cases z
theorem len1 {α:Type}{us:List α}(h:us.length=1):∃a0,us=[a0]:=match us,h with|[a0],_=>⟨a0,rfl⟩
theorem len2 {α:Type}{us:List α}(h:us.length=2):∃a0 a1,us=[a0,a1]:=match us,h with|[a0,a1],_=>⟨a0,a1,rfl⟩
theorem len3 {α:Type}{us:List α}(h:us.length=3):∃a0 a1 a2,us=[a0,a1,a2]:=match us,h with|[a0,a1,a2],_=>⟨a0,a1,a2,rfl⟩
theorem len4 {α:Type}{us:List α}(h:us.length=4):∃a0 a1 a2 a3,us=[a0,a1,a2,a3]:=match us,h with|[a0,a1,a2,a3],_=>⟨a0,a1,a2,a3,rfl⟩
theorem len5 {α:Type}{us:List α}(h:us.length=5):∃a0 a1 a2 a3 a4,us=[a0,a1,a2,a3,a4]:=match us,h with|[a0,a1,a2,a3,a4],_=>⟨a0,a1,a2,a3,a4,rfl⟩
theorem len6 {α:Type}{us:List α}(h:us.length=6):∃a0 a1 a2 a3 a4 a5,us=[a0,a1,a2,a3,a4,a5]:=match us,h with|[a0,a1,a2,a3,a4,a5],_=>⟨a0,a1,a2,a3,a4,a5,rfl⟩
open PySem
theorem GP {i j:Int}(h1:-(2 ^ 64)<j)(h2:j<2 ^ 64):yP i j=true:=by
 simp only[yP,Bool.or_eq_true,Bool.and_eq_true,decide_eq_true_eq];exact Or.inr ⟨h1,h2⟩
theorem GQ {i j:Int}(h1:-(2 ^ 64)<i)(h2:i<2 ^ 64):yP i j=true:=by
 simp only[yP,Bool.or_eq_true,Bool.and_eq_true,decide_eq_true_eq];exact Or.inl ⟨h1,h2⟩
theorem qX {i j:Int}(h1:-(2 ^ 64)<j)(h2:j<2 ^ 64):ng (.int i) (.int j)=some (.int (i*j),false):=by
 unfold ng;simp[GP h1 h2]
theorem BN {i j:Int}(h1:-(2 ^ 64)<i)(h2:i<2 ^ 64):ng (.int i) (.int j)=some (.int (i*j),false):=by
 unfold ng;simp[GQ h1 h2]
theorem iV {i j:Int}(h:0<j):oi (.int i) (.int j)=some (.int (i%j),false):=by
 unfold oi;simp[h]
theorem qZ {i j:Int}(h:0<j)(h2:j<1073741824):yb (.int i) (.int j)=some (.int (i/j),false):=by
 unfold yb;simp[h,h2]
theorem Gb:BM (.int 10) (.int 9)=some (.int 1000000000,false):=by
 simp[BM]
theorem Dn:(0:Nat)<=sizeLine:=bx _
theorem Bo:(1:Nat)<=sizeLine:=by decide
theorem C4:(2:Nat)<=sizeLine:=by decide
theorem Jv:(3:Nat)<=sizeLine:=by decide
theorem Ju:(4:Nat)<=sizeLine:=by decide
theorem tZ {n:Nat}(h:n<=1000000):n<=sizeLine:=aS h (by decide)
theorem xJ {n:Nat}(h:n<1000000):n<sizeLine:=aF h (by decide)
theorem tN {f:LD}{g:BD}{ρ:Sl}{xs:List D}{n:Nat}(hf:f ρ=some xs)(hg:g ρ=some (.int (n:Int)))(h1:n<1000)(h2:xs.length*n<=sizeLine):pY f g ρ=some (.list (aI n xs).flatten,true):=by
 unfold pY;rw[hf,aa,hg,aa];dsimp only;rw[if_pos ⟨by omega,by omega,h2⟩];rfl
mutual
inductive Nb:Nat->D->Prop where
 |int (n:Nat) (i:Int):Nb n (.int i)
 |tuple {n:Nat}{ds:List D}:nV n ds->Nb (n+1) (.tuple ds)
 |list {n:Nat}{ds:List D}:nV n ds->Nb (n+1) (.list ds)
inductive nV:Nat->List D->Prop where
 |nil {n:Nat}:nV n []
 |cons {n:Nat}{d:D}{ds:List D}:Nb n d->nV n ds->nV n (d::ds)
end
theorem BV {n:Nat}:∀{ds:List D},(∀d∈ds,Nb n d)->nV n ds
 |[],_=>.nil
 |d::ds,h=>.cons (h d (by simp)) (BV fun e he=>h e (by simp[he]))
theorem mj {α:Type}{n:Nat}{f:α->D}(h:∀x,Nb n (f x))(xs:List α):nV n (xs.map f):=BV fun d hd=>by
 obtain⟨x,_,rfl⟩:=List.mem_map.mp hd;exact h x
mutual
theorem Nb.lay {n:Nat}{d:D}:Nb n d->d.canLay0=true
 |.int _ _=>by simp[PyData.canLay0]
 |.tuple h=>by simp only[PyData.canLay0];exact nV.lay h
 |.list h=>by simp only[PyData.canLay0];exact nV.lay h
theorem nV.lay {n:Nat}{ds:List D}:nV n ds->PyData.canLayAll0 ds=true
 |.nil=>by simp[PyData.canLayAll0]
 |.cons h hs=>by simp[PyData.canLayAll0,Nb.lay h,nV.lay hs]
end
mutual
theorem Nb.deep {n:Nat}{d:D}:Nb n d->d.depth<=n
 |.int _ _=>by simp[PyData.depth]
 |.tuple h=>by have:=nV.deep h;simp only[PyData.depth];omega
 |.list h=>by have:=nV.deep h;simp only[PyData.depth];omega
theorem nV.deep {n:Nat}{ds:List D}:nV n ds->PyData.depthAll ds<=n
 |.nil=>by simp[PyData.depthAll]
 |.cons h hs=>by have:=Nb.deep h;have:=nV.deep hs;simp only[PyData.depthAll];omega
end
mutual
theorem Nb.mix {n m:Nat}{x y:D}:Nb n x->Nb m y->noMix x y=true
 |.int _ _,.int _ _=>by simp[noMix]
 |.int _ _,.tuple _=>by simp[noMix]
 |.int _ _,.list _=>by simp[noMix]
 |.tuple _,.int _ _=>by simp[noMix]
 |.list _,.int _ _=>by simp[noMix]
 |.tuple _,.list _=>by simp[noMix]
 |.list _,.tuple _=>by simp[noMix]
 |.tuple h,.tuple h'=>by simp only[noMix];exact nV.mix h h'
 |.list h,.list h'=>by simp only[noMix];exact nV.mix h h'
theorem nV.mix {n m:Nat}{xs ys:List D}:nV n xs->nV m ys->noMixAll xs ys=true
 |.nil,.nil=>by simp[noMixAll]
 |.nil,.cons _ _=>by simp[noMixAll]
 |.cons _ _,.nil=>by simp[noMixAll]
 |.cons h hs,.cons h' hs'=>by simp[noMixAll,Nb.mix h h',nV.mix hs hs']
end
mutual
theorem Nb.eq {n m:Nat}{x y:D}:Nb n x->Nb m y->same x y=true->x=y
 |.int _ _,.int _ _,h=>by simp[same] at h;rw[h]
 |.int _ _,.tuple _,h=>by simp[same] at h
 |.int _ _,.list _,h=>by simp[same] at h
 |.tuple _,.int _ _,h=>by simp[same] at h
 |.list _,.int _ _,h=>by simp[same] at h
 |.tuple _,.list _,h=>by simp[same] at h
 |.list _,.tuple _,h=>by simp[same] at h
 |.tuple q,.tuple q',h=>by simp only[same] at h;rw[nV.eq q q' h]
 |.list q,.list q',h=>by simp only[same] at h;rw[nV.eq q q' h]
theorem nV.eq {n m:Nat}{xs ys:List D}:nV n xs->nV m ys->sameAll xs ys=true->xs=ys
 |.nil,.nil,_=>rfl
 |.nil,.cons _ _,h=>by simp[sameAll] at h
 |.cons _ _,.nil,h=>by simp[sameAll] at h
 | .cons q qs,.cons q' qs',h=>by
  simp only[sameAll,Bool.and_eq_true] at h;rw[Nb.eq q q' h.1,nV.eq qs qs' h.2]
end
theorem Nb.shp {n:Nat}{d:D}(h:Nb n d)(hn:n<=64):shaped d=true:=by
 unfold shaped;rw[Bool.and_eq_true];have:=h.deep;exact⟨h.lay,decide_eq_true ⋯⟩
theorem yQ {n m:Nat}{x y:D}(hx:Nb n x)(hy:Nb m y)(hn:n<=64:=by decide)(hm:m<=64:=by decide):o4 x y=some (same x y):=by
 unfold o4;rw[hx.shp hn,hy.shp hm,hx.mix hy];rfl
theorem yO {n m:Nat}{x y:D}(hx:Nb n x)(hy:Nb m y)(hn:n<=64:=by decide)(hm:m<=64:=by decide):sN x y=some (!same x y):=by
 unfold sN;rw[hx.shp hn,hy.shp hm,hx.mix hy];rfl
theorem CS {n:Nat}{x:D}(hx:Nb n x)(hn:n<=64:=by decide):o4 x x=some true:=by rw[yQ hx hx hn hn,same_self]
theorem xl {n:Nat}{x:D}(hx:Nb n x)(hn:n<=64:=by decide):sN x x=some false:=by rw[yO hx hx hn hn,same_self];rfl
theorem GR {n m:Nat}{x y:D}(hx:Nb n x)(hy:Nb m y)(h:x≠y)(hn:n<=64:=by decide)(hm:m<=64:=by decide):o4 x y=some false:=by
 rw[yQ hx hy hn hm];cases e:same x y with
 |false=>rfl
 |true=>exact absurd (hx.eq hy e) h
theorem GO {n m:Nat}{x y:D}(hx:Nb n x)(hy:Nb m y)(h:x≠y)(hn:n<=64:=by decide)(hm:m<=64:=by decide):sN x y=some true:=by
 rw[yO hx hy hn hm];cases e:same x y with
 |false=>rfl
 |true=>exact absurd (hx.eq hy e) h
theorem ft (a b:Int):o4 (.int a) (.int b)=some (decide (a=b)):=by
 rw[yQ (.int 0 a) (.int 0 b)];simp only[same];by_cases e:a=b <;> simp[e]
theorem oU (a b:Int):sN (.int a) (.int b)=some (decide (a≠b)):=by
 rw[yO (.int 0 a) (.int 0 b)];simp only[same];by_cases e:a=b <;> simp[e]
theorem oM {α:Type}{g:GD}{e:ED}{ρ:Sl}{d β:α->D}:∀l:List α,(∀x∈l,∃ρ1 o,g (d x) ρ=some ρ1/\e ρ1=some (β x,o))->hJ g gF e ρ (l.map d)=some (l.map β)
 |[],_=>rfl
 | x::l,h=>by
  obtain⟨ρ1,o,h1,h2⟩:=h x (by simp);rw[aA,hJ,h1,aa,gF,aa,if_pos rfl,h2,aa,oM l fun y hy=>h y (by simp[hy])];rfl
theorem zN {α:Type}{g:GD}{t:TD}{e:ED}{ρ:Sl}{d β:α->D}{c:α->Bool}:∀l:List α,(∀x∈l,∃ρ1,g (d x) ρ=some ρ1/\t ρ1=some (c x)/\(c x=true->∃o,e ρ1=some (β x,o)))->hJ g t e ρ (l.map d)=some ((l.filter c).map β)
 |[],_=>rfl
 | x::l,h=>by
  obtain⟨ρ1,h1,h2,h3⟩:=h x (by simp);have ih:=zN (g:=g) (t:=t) (e:=e) (ρ:=ρ) (d:=d) (β:=β) (c:=c) l fun y hy=>h y (by simp[hy]);rw[aA,hJ,h1,aa,h2,aa,ih];cases hc:c x with
  |false=>rw[if_neg Bool.false_ne_true,bJ,hc,if_neg Bool.false_ne_true]
  |true =>
   obtain⟨o,h4⟩:=h3 hc;rw[if_pos rfl,h4,aa,bJ,hc,if_pos rfl];rfl
theorem lT {α σ:Type}{g:GD}{b:SD}{P:σ->Sl->Prop}{f:σ->α->σ}{d:α->D}:∀(l:List α) (st:σ) (ρ:Sl),P st ρ->(∀x∈l,∀st ρ,P st ρ->∃ρ1 ρ2,g (d x) ρ=some ρ1/\b ρ1=some (.next ρ2)/\P (f st x) ρ2) →
  ∃ρ',eA g b (l.map d) ρ=some (.next ρ')/\P (l.foldl f st) ρ'
 |[],st,ρ,h,_=>⟨ρ,rfl,h⟩
 | x::l,st,ρ,h,k=>by
  obtain⟨ρ1,ρ2,h1,h2,h3⟩:=k x (by simp) st ρ h;obtain⟨ρ',h4,h5⟩:=lT (g:=g) (b:=b) l (f st x) ρ2 h3 fun y hy=>k y (by simp[hy]);refine⟨ρ',?_,h5⟩;rw[aA,eA,h1,aa,h2,aa];exact h4
theorem jE {α:Type}{g:GD}{b:SD}{P:Sl->Prop}{ok:α->Bool}{r:Vl}{d:α->D}:∀(l:List α) (ρ:Sl),P ρ->(∀x∈l,∀ρ,P ρ->∃ρ1,g (d x) ρ=some ρ1/\if ok x=true then ∃ρ2,b ρ1=some (.next ρ2)/\P ρ2 else b ρ1=some (.ret r)) →
  if l.all ok=true then ∃ρ',eA g b (l.map d) ρ=some (.next ρ')/\P ρ' else eA g b (l.map d) ρ=some (.ret r)
 |[],ρ,h,_=>by rw[List.all_nil,if_pos rfl];exact⟨ρ,rfl,h⟩
 | x::l,ρ,h,k=>by
  obtain⟨ρ1,h1,h2⟩:=k x (by simp) ρ h;rw[List.all_cons];cases hx:ok x with
  |false =>
   rw[hx,if_neg Bool.false_ne_true] at h2;rw[Bool.false_and,if_neg Bool.false_ne_true,aA,eA,h1,aa,h2];rfl
  |true =>
   rw[hx,if_pos rfl] at h2;obtain⟨ρ2,h3,h4⟩:=h2;have ih:=jE (g:=g) (b:=b) (ok:=ok) (r:=r) (d:=d) l ρ2 h4 fun y hy=>k y (by simp[hy]);rw[Bool.true_and,aA,eA,h1,aa,h3,aa];exact ih
theorem iC {α:Type}(f:α->D):∀(xs:List α) (s:Nat),eZ s (xs.map f)=(xs.zipIdx s).map fun p=>.tuple [.int (p.2:Int),f p.1]
 |[],_=>rfl
 |x::xs,s=>by rw[aA,eZ,iC f xs (s+1)];rfl
theorem qE {α β:Type}(f:α->D)(g:β->D):∀(xs:List α) (ys:List β),nW (xs.map f) (ys.map g)=(xs.zip ys).map fun p=>.tuple [f p.1,g p.2]
 |[],_=>rfl
 |_::_,[]=>rfl
 |x::xs,y::ys=>by rw[aA,aA,nW,qE f g xs ys];rfl
theorem da (n:Nat):fg 0 n=(aj n).map fun (k:Nat)=>.int (k:Int):=by
 unfold fg;simp
theorem oz {xs:List D}{i:Int}{d:D}(h0:0<=i)(h:xs[i.toNat]?=some d):sf xs i=some d:=by
 have hl:i.toNat<xs.length:=(List.getElem?_eq_some_iff.mp h).1;unfold sf vC;rw[if_pos h0,if_pos ⋯,aa,h]
theorem dB {f:ED}{ρ:Sl}{j:Int}{o:Bool}(hf:f ρ=some (.int j,o))(h0:0<=j)(h1:j<=1000000):cP f ρ=some (fg 0 j.toNat):=by
 unfold cP;rw[hf,aa];dsimp only[xy];rw[aa,if_pos ⟨by omega,by omega⟩]
theorem cJ {a b:SD}{ρ ρ':Sl}(h:a ρ=some (.next ρ')):cG a b ρ=b ρ':=by
 rw[cG,h];rfl
theorem eB {α:Type}{it:AD}{n:Nat}{ix:List Nat}{g:GD}{e:ED}{ρ:Sl}{d β:α->D}(l:List α)(hi:it ρ=some (l.map d))(hz:l.length<=1000000)(h:∀x∈l,∃ρ1 o,g (d x) (fA n ix ρ)=some ρ1/\e ρ1=some (β x,o)):dN it n ix g gF e ρ=some (.list (l.map β),true):=by
 rw[dN,hi,aa,if_pos (tZ (by rw[af];exact hz)),oM l h];rfl
theorem CL {α:Type}{it:AD}{n:Nat}{ix:List Nat}{g:GD}{t:TD}{e:ED}{ρ:Sl}{d β:α->D}{c:α->Bool}(l:List α)(hi:it ρ=some (l.map d))(hz:l.length<=1000000)(h:∀x∈l,∃ρ1,g (d x) (fA n ix ρ)=some ρ1/\t ρ1=some (c x)/\(c x=true->∃o,e ρ1=some (β x,o))):dN it n ix g t e ρ=some (.list ((l.filter c).map β),true):=by
 rw[dN,hi,aa,if_pos (tZ (by rw[af];exact hz)),zN l h];rfl
theorem kz {g:GD}{b:SD}{d:D}{ds:List D}{ρ ρ1 ρ2:Sl}(h1:g d ρ=some ρ1)(h2:b ρ1=some (.next ρ2)):eA g b (d::ds) ρ=eA g b ds ρ2:=by
 rw[eA,h1,aa,h2,aa]
theorem kW {α β:Type}{g:GD}{b:SD}{d:α->D}{f:α->β}{P:List β->Sl->Prop}(N:Nat):∀(l:List α) (acc:List β) (ρ:Sl),P acc ρ->acc.length+l.length<=N->(∀x∈l,∀acc ρ,P acc ρ->acc.length<N->∃ρ1 ρ2,g (d x) ρ=some ρ1/\b ρ1=some (.next ρ2)/\P (acc++[f x]) ρ2) →
  ∃ρ',eA g b (l.map d) ρ=some (.next ρ')/\P (acc++l.map f) ρ'
 |[],acc,ρ,h,_,_=>⟨ρ,rfl,by rw[bL,bj];exact h⟩
 | x::l,acc,ρ,h,hn,k=>by
  rw[aJ] at hn;obtain⟨ρ1,ρ2,h1,h2,h3⟩:=k x (by simp) acc ρ h ⋯;obtain⟨ρ',h4,h5⟩:=kW (g:=g) (b:=b) N l (acc++[f x]) ρ2 h3 (by rw[aw,aO];omega) fun y hy=>k y (by simp[hy]);refine⟨ρ',?_,by rw[aA];rw[ba] at h5;exact h5⟩;rw[aA,kz h1 h2];exact h4
theorem kU {α β:Type}{g:GD}{b:SD}{d:α->D}{f:α->List β}{P:List β->Sl->Prop}(N:Nat):∀(l:List α) (acc:List β) (ρ:Sl),P acc ρ->acc.length+(l.flatMap f).length<=N->(∀x∈l,∀acc ρ,P acc ρ->acc.length+(f x).length<=N->∃ρ1 ρ2,g (d x) ρ=some ρ1/\b ρ1=some (.next ρ2)/\P (acc++f x) ρ2) →
  ∃ρ',eA g b (l.map d) ρ=some (.next ρ')/\P (acc++l.flatMap f) ρ'
 |[],acc,ρ,h,_,_=>⟨ρ,rfl,by rw[List.flatMap_nil,bj];exact h⟩
 | x::l,acc,ρ,h,hn,k=>by
  rw[bz,aw] at hn;obtain⟨ρ1,ρ2,h1,h2,h3⟩:=k x (by simp) acc ρ h ⋯;obtain⟨ρ',h4,h5⟩:=kU (g:=g) (b:=b) N l (acc++f x) ρ2 h3 (by rw[aw];omega) fun y hy=>k y (by simp[hy]);refine⟨ρ',?_,by rw[bz];rw[ba] at h5;exact h5⟩;rw[aA,kz h1 h2];exact h4
theorem dS {it:AD}{g:GD}{b:SD}{ρ:Sl}{ds:List D}(h:it ρ=some ds):dW it g b ρ=eA g b ds ρ:=by rw[dW,h,aa]
theorem Cc {t:TD}{a b:SD}{ρ:Sl}(h:t ρ=some true):i9 t a b ρ=a ρ:=by rw[i9,h,aa,if_pos rfl]
theorem Cd {t:TD}{a b:SD}{ρ:Sl}(h:t ρ=some false):i9 t a b ρ=b ρ:=by rw[i9,h,aa,if_neg Bool.false_ne_true]
theorem kv {t:TD}{a b:SD}{ρ:Sl}(h:t ρ=some false):cG (i9 t a fM) b ρ=b ρ:=by
 rw[cG,Cd h];rfl
theorem nr {t:TD}{f:ED}{b c:SD}{ρ:Sl}{r:Vl}(h:t ρ=some true)(hr:f ρ=some r):cG (i9 t (dI f) c) b ρ=some (.ret r):=by
 rw[cG,Cc h,dI,hr];rfl
end DL
namespace L2
open PySem PySem.Spec PyProof.Rows
section
variable {prog:Program}{w:World}{A:Around}{E:Value->Shared->Prop}{s:Shared}
theorem D6 {it l:Addr}{i:Nat}{its:Array Value}{x:Value}{Q:Value->Shared->Prop}(hi:s.heap.IsTupleIter it l i)(hl:s.heap.IsTuple l its)(hx:its[i]?=some x)
  (hQ:∀h',h'.IsTupleIter it l (i+1)->Heap.SameBut it s.heap h'->Q x { s with heap:=h' }):wpAny (model prog w) A (Builtin.SmallTypes.nextOf (.ref it)) Q E s:=by
 obtain⟨ob,hob,hcl,hdt⟩:=id hi;obtain⟨oL,hoL,_,nL,hdL⟩:=hl;unfold Builtin.SmallTypes.nextOf;refine ab (wpAny_callSpecial?_slot (name:=Str.ofString "__next__") hi.typeIs F.slot_tuple_iterator_next (wpAny_call_entry F.slot_tuple_iterator_next hi.typeIs F.entry_tuple_iterator_next ?_ (F.args_tuple_iterator_next_1 _)));show wpAny _ _ (field (.ref it) 0>>=_) _ _ s;refine ab (aZ hob hdt (x:=.ref l) rfl ?_);show wpAny _ _ (if (Value.ref l==Value.none)=true then _ else _) _ _ s;rw[if_neg (show ¬((Value.ref l==Value.none)=true) from Bool.false_ne_true)];show wpAny _ _ (field (.ref it) 1>>=_) _ _ s;refine ab (aZ hob hdt (x:=.int i 0) rfl ?_);show wpAny _ _ (seqItems? (.ref l)>>=_) _ _ s;refine ab (wpAny_seqItems hoL hdL ?_);simp only[aV,hx];refine ab (wpAny_setField hob hdt (by simp) (aq ⟨x,rfl,aq (hQ _ ?_ (Heap.SameBut.update ..))⟩));exact⟨_,Heap.get?_update_self _ hob (Obj.isFreed_of_fields (Obj.data_mapFields hdt _)),(Obj.cls_mapFields ..).trans hcl,by rw[Obj.data_mapFields hdt];simp[rawInt]⟩
theorem ye {it l:Addr}{i:Nat}{its:Array Value}{Q:Value->Shared->Prop}(hh:A.handled=none)(hi:s.heap.IsTupleIter it l i)(hl:s.heap.IsTuple l its)(hx:its[i]?=none)
  (hE:∀h' e,Heap.ExtBut it s.heap h'->(∃o,h'.get? e=some o/\o.cls=.type "StopIteration")->E (.ref e) { s with heap:=h' }):wpAny (model prog w) A (Builtin.SmallTypes.nextOf (.ref it)) Q E s:=by
 obtain⟨ob,hob,hcl,hdt⟩:=id hi;obtain⟨oL,hoL,_,nL,hdL⟩:=hl;unfold Builtin.SmallTypes.nextOf;refine ab (wpAny_callSpecial?_slot (name:=Str.ofString "__next__") hi.typeIs F.slot_tuple_iterator_next (wpAny_call_entry F.slot_tuple_iterator_next hi.typeIs F.entry_tuple_iterator_next ?_ (F.args_tuple_iterator_next_1 _)));show wpAny _ _ (field (.ref it) 0>>=_) _ _ s;refine ab (aZ hob hdt (x:=.ref l) rfl ?_);show wpAny _ _ (if (Value.ref l==Value.none)=true then _ else _) _ _ s;rw[if_neg (show ¬((Value.ref l==Value.none)=true) from Bool.false_ne_true)];show wpAny _ _ (field (.ref it) 1>>=_) _ _ s;refine ab (aZ hob hdt (x:=.int i 0) rfl ?_);show wpAny _ _ (seqItems? (.ref l)>>=_) _ _ s;refine ab (wpAny_seqItems hoL hdL ?_);simp only[aV,hx];refine ab (wpAny_rule (ab (wpAny_setField hob hdt (by simp) ?_)));show wpAny _ _ (newExc (.type "StopIteration") []>>=_) _ _ _;refine ab ?_;simp only[newExc,newTuple];refine ab (bW ?_ (by size_fits));refine ab (m:=firstArgMember _ _) (wpAny_of_eq (a:=Value.none) (by first|rfl|(simp only[firstArgMember];rfl)) ?_);refine bW ?_ (by size_fits);simp only[raiseNew];refine ab (wpAny_handled ?_)
 first|rw[show A.in1.handled=none from hh]|rw[hh]
 refine ab (aq (wpAny_throw ?_));exact hE _ _ (((Heap.SameBut.update ..).extBut.push _).push _) ⟨_,aG _ rfl,rfl⟩
end
def xr (h:Heap)(it l:Addr)(its:Array Value)(i:Nat):Prop:=(h.IsListIter it l i/\h.IsList l its)\/(h.IsTupleIter it l i/\h.IsTuple l its)
theorem xr.at {h h':Heap}{it l:Addr}{its:Array Value}{i:Nat}(x:xr h it l its i)(k:∀b,b=it\/b=l->∀o,h.get? b=some o->h'.get? b=some o):xr h' it l its i:=by
 rcases x with ⟨a,b⟩|⟨a,b⟩
 ·exact .inl ⟨a.at fun o e=>k it (.inl rfl) o e,b.at fun o e=>k l (.inr rfl) o e⟩
 ·exact .inr ⟨a.at fun o e=>k it (.inl rfl) o e,b.at fun o e=>k l (.inr rfl) o e⟩
theorem xr.live {h:Heap}{it l:Addr}{its:Array Value}{i:Nat}(x:xr h it l its i):∃o,h.get? it=some o/\(∃vs,o.data=.fields vs):=by
 rcases x with ⟨⟨o,e,_,d⟩,_⟩|⟨⟨o,e,_,d⟩,_⟩
 ·exact⟨o,e,_,d⟩
 ·exact⟨o,e,_,d⟩
theorem draws_sq {prog:Program}{w:World}{A:Around}(hh:A.handled=none)(it l:Addr)(hne:l≠it)(its:Array Value) :
  Draws prog w A it [it,l] its.size (fun i v=>its[i]?=some v) (fun i h=>xr h it l its i) where
 live:=fun _ _ st=>let ⟨o,e,_⟩:=st.live;⟨o,e⟩
 frame:=fun _ _ _ st hk=>st.at fun b hb o e=>hk b (by rcases hb with z|z <;> simp[z]) o e
 item:=fun i s Q E hi st hQ=>by
  have ge:its[i]?=some its[i]:=JJ hi;rcases st with ⟨a,b⟩|⟨a,b⟩
  ·exact wpAny_nextOf_list_item a b ge fun h' a' hs=>hQ _ h' s.toks ge (.inl ⟨a',b.extBut hs.extBut hne⟩) hs
  ·exact D6 a b ge fun h' a' hs=>hQ _ h' s.toks ge (.inr ⟨a',b.at fun o e=>hs.extBut l o hne e⟩) hs
 done:=fun s Q E st hE=>by
  rcases st with ⟨a,b⟩|⟨a,b⟩
  ·exact wpAny_nextOf_list_end hh a b (by simp) hE
  ·exact ye hh a b (by simp) hE
theorem cQ.turnedLay {X:Cx}{pins:List (Addr×Obj)}{σ:St}{H:Hp}{s:Shared}{h':Heap}{t':Nat}{fp:List Addr}{T:Addr}{xs:List V}(I:cQ X pins σ H s)(k:∀b o,b∉fp->s.heap.get? b=some o->h'.get? b=some o)
  (th:∀b∈fp,∃o,h'.get? b=some o) (hf:∀b∈fp,sd X pins H b) (hT:s.heap.objs.size<=T) (new:ObjOk X.prog X.w (dY H T (.tup xs)) h' T (.tup xs)) :
  cQ X pins σ (dY H T (.tup xs)) { s with heap:=h',toks:=t' }:=by
 have fresh:H T=none:=I.hok.fresh hT;have nfp:∀b u,H b=some u->b∉fp:=fun b u e z=>by rw[(hf b z).1] at e;cases e
 have nT:∀b o,s.heap.get? b=some o->b≠T:=fun b o e=>aR (aF (aC e) hT);refine I.step (g':=s.gens) (d':=s.drawn) (ch:=fp) (fun b hb=>?_) (fun b o _ _ hc e _=>k b o hc e) (fun b o _ _ hc e _=>⟨o.slots,k b o hc e⟩) (fun b o _ e n=>by rw[cC (nT b o e)];exact n)
  (fun b o hc e=>⟨o,k b o hc e⟩) (fun b ys e=>by rw[cC (cE e fresh)];exact e) (fun b o u e=>by rw[cC (cE e fresh)];exact e)
  (fun b ps e=>⟨#[],by rw[cC (cE e fresh),e];simp⟩) (fun m hm=>?_) (fun b u e=>?_) I.bare
 ·obtain⟨_,f1,f2,f3,f4,f5⟩:=hf b hb;exact⟨f3,f1,f4,f5⟩
 ·obtain⟨o,es,ep,ho,r⟩:=hm;exact⟨o,es,ep,k _ o (fun z=>(hf _ z).2.1 rfl) ho,r⟩
 ·by_cases hb:b=T
  ·subst hb;rw[cK] at e;cases e;exact new
  ·rw[cC hb] at e;refine (I.hok b u e).stay (fun c v hc q=>k c v ?_ q) (fun c q=>by rw[cC (cE q fresh)];exact q) fun c ys q=>by rw[cC (cE q fresh)];exact q
   rcases hc with z|z
   ·rw[z];exact nfp b u e
   ·exact nfp c _ z
theorem sz2':(2:Nat)<=sizeLine:=by decide
def ib (kd:Bool)(K:PySem.W.Frag)(H:Hp)(a:Addr)(xs:List V):Prop:=if kd=true then jR K H a xs else jj K H a xs
def ItK (kd:Bool)(h:Heap)(it a:Addr)(i:Nat):Prop:=if kd=true then h.IsListIter it a i else h.IsTupleIter it a i
def j3 (kd:Bool)(h:Heap)(a:Addr)(its:Array Value):Prop:=if kd=true then h.IsList a its else h.IsTuple a its
theorem ItK.with {kd:Bool}{h:Heap}{it a:Addr}{i:Nat}{its:Array Value}(x:ItK kd h it a i)(y:j3 kd h a its):xr h it a its i:=by
 cases kd
 ·exact .inr ⟨x,y⟩
 ·exact .inl ⟨x,y⟩
theorem ItK.at {kd:Bool}{h h':Heap}{it a:Addr}{i:Nat}(x:ItK kd h it a i)(k:∀o,h.get? it=some o->h'.get? it=some o):ItK kd h' it a i:=by
 cases kd
 ·exact Heap.IsTupleIter.at (show h.IsTupleIter it a i from x) k
 ·exact Heap.IsListIter.at (show h.IsListIter it a i from x) k
theorem ItK.obj {kd:Bool}{h:Heap}{it a:Addr}{i:Nat}(x:ItK kd h it a i):∃o,h.get? it=some o/\∀v,o.data≠.cell v:=by
 cases kd
 ·obtain⟨o,e,_,d⟩:=(show h.IsTupleIter it a i from x);exact⟨o,e,fun v z=>by rw[d] at z;cases z⟩
 ·obtain⟨o,e,_,d⟩:=(show h.IsListIter it a i from x);exact⟨o,e,fun v z=>by rw[d] at z;cases z⟩
theorem ItK.of {kd:Bool}{h:Heap}{it a:Addr}{i:Nat}{its:Array Value}(x:xr h it a its i)(y:j3 kd h a its):ItK kd h it a i:=by
 cases kd
 ·rcases x with ⟨p,q⟩|⟨p,_⟩
  ·obtain⟨o,e,c,_⟩:=q;obtain⟨o',e',c',_⟩:=(show h.IsTuple a its from y);rw[e] at e';cases e';rw[c] at c';exact absurd c' (by decide)
  ·exact p
 ·rcases x with ⟨p,_⟩|⟨p,q⟩
  ·exact p
  ·obtain⟨o,e,c,_⟩:=q;obtain⟨o',e',c',_⟩:=(show h.IsList a its from y);rw[e] at e';cases e';rw[c] at c';exact absurd c' (by decide)
section
variable {X:Cx}{pins:List (Addr×Obj)}{σ:St}{H:Hp}{s:Shared}{a:Addr}{xs ys:List V}{kd:Bool}
theorem cQ.seqK (I:cQ X pins σ H s)(h:ib kd X.K H a xs):∃its:List Value,cT xs its/\j3 kd s.heap a its.toArray/\xs.length<=sizeLine:=by
 cases kd
 ·obtain⟨its,r,p,z⟩:=I.tuple (show jj X.K H a xs from h);exact⟨its,r,p,z⟩
 ·obtain⟨its,r,p,z⟩:=I.list (show jR X.K H a xs from h);exact⟨its,r,p.isList,z⟩
theorem cQ.seqK_inj (I:cQ X pins σ H s)(h:ib kd X.K H a xs)(h':ib kd X.K H a ys):xs=ys:=by
 cases kd
 ·exact I.tuple_inj (show jj X.K H a xs from h) h'
 ·exact I.list_inj (show jR X.K H a xs from h) h'
theorem j3.at {h h':Heap}{its:Array Value}(x:j3 kd h a its)(k:∀o,h.get? a=some o->h'.get? a=some o):j3 kd h' a its:=by
 cases kd
 ·exact Heap.IsTuple.at (show h.IsTuple a its from x) k
 ·exact Heap.IsList.at (show h.IsList a its from x) k
theorem j3.lt {h:Heap}{its:Array Value}(x:j3 kd h a its):a<h.objs.size:=by
 cases kd
 ·obtain⟨o,e,_⟩:=(show h.IsTuple a its from x);exact aC e
 ·obtain⟨o,e,_⟩:=(show h.IsList a its from x);exact aC e
end
noncomputable def Ite (K:PySem.W.Frag)(kd:Bool)(a:Addr):It :=
 ⟨fun i H=>∃xs x,ib kd K H a xs/\xs[i]?=some x,fun i H v H'=>∃T x,v=.ref T/\H T=none/\H'=dY H T (.tup [.int i,x])/\∀xs,ib kd K H a xs->xs[i]?=some x,fun i H=>∃xs,ib kd K H a xs/\xs.length=i⟩
theorem Cr {h:Heap}{e it:Addr}{i:Int}{old:Value}(x:IsEnum h e it i old):∃o,h.get? e=some o/\∀v,o.data≠.cell v:=⟨_,x,fun v z=>by cases z⟩
theorem z8 {P:Program}{w:World}{K:PySem.W.Frag}{tes:List Expr}{tk:Nat}{tp:Pos}{kd:Bool}(a e it:Addr)(hne:e≠it)(hae:a≠e)(hai:a≠it) :
  Turn P w K (.Tuple tes tk tp) (Ite K kd a) [e,it] e (fun i h=>(∃old,IsEnum h e it i old)/\ItK kd h it a i) where
 mem:=by simp
 obj:=fun i h ⟨⟨old,x⟩,y⟩ b hb=>by
  rcases List.mem_cons.mp hb with z|z
  ·subst z;exact Cr x
  ·have z':b=it:=by simpa using z
   subst z';exact y.obj
 keep:=fun i h h' ⟨⟨old,x⟩,y⟩ k=>⟨⟨old,k e (by simp) _ x⟩,y.at fun o q=>k it (by simp) o q⟩
 item:=by
  rintro X hP hw hK hc i pins s σ H E I hf ⟨⟨old,x⟩,y⟩ ⟨xs,v,hq,hv⟩;subst hP hw hK;obtain⟨its,rv,ob,hz⟩:=I.seqK hq;obtain⟨u,hu,ru⟩:=rv.get hv;have hi:i<its.toArray.size:=by rw[aE];exact (List.getElem?_eq_some_iff.mp hu).1
  have D:=draws_sq (prog:=X.prog) (w:=X.w) (A:=X.A.in1) (I.ok.hd hc) it a hai its.toArray;refine wpAny_pyNext_enum_itemD D x (y.with ob) hi hne (by simp[hne,Ne.symm hae]) fun u' h' tk hP ho st' hT hsz hk=>?_;have eu:u'=u:=by
   have:its[i]?=some u':=by simpa using hP
   rw[hu] at this;exact (Option.some.inj this).symm
  subst eu;have ob':j3 kd h' a its.toArray:=ob.at fun o q=>hk a o hae hai q;refine⟨_,rfl,?_⟩;have I1:cQ X pins σ (dY H s.heap.objs.size (.tup [.int i,v])) { s with heap:=h',toks:=tk+1 }:=by
   refine I.turnedLay (fp:=[e,it]) (fun b o hb q=>hk b o (fun z=>hb (by simp[z])) (fun z=>hb (by simp[z])) q) (fun b hb=>?_) hf (aB _) ⟨sz2',[.int i tk,u'],.cons ⟨_,rfl⟩ (.cons ru .nil),⟨_,hT,rfl,_,rfl⟩⟩;rcases List.mem_cons.mp hb with z|z
   ·subst z;exact⟨_,ho⟩
   ·have z':b=it:=by simpa using z
    subst z';obtain⟨o,q,_⟩:=st'.live;exact⟨o,q⟩
  have fr:H s.heap.objs.size=none:=I.hok.fresh (aB _);have fe:=hf e (by simp);have elt:e<s.heap.objs.size:=aC x;refine wpAny_letOwnedTupleGo_enum (s:={ s with heap:=h',toks:=tk+1 }) ho fun h2 he2 hs2=>?_;have I2:cQ X pins σ (dY H s.heap.objs.size (.tup [.int i,v])) { s with heap:=h2,toks:=tk+1 } :=
   cQ.turned (s:={ s with heap:=h',toks:=tk+1 }) (it:=e) (t':=tk+1) I1 (fun b o hb q=>(hs2.2 b hb).trans q) (by rw[cC (aR elt)];exact fe.1) fe.2.1 fe.2.2.2.1 fe.2.2.2.2.1 fe.2.2.2.2.2
  refine⟨.ref s.heap.objs.size,_,I2,rfl,⟨_,v,rfl,fr,rfl,fun ys hy=>?_⟩,⟨⟨_,by simpa using he2⟩,(ItK.of st' ob').at fun o q=>(hs2.2 it (Ne.symm hne)).trans q⟩,fun b hb=>?_⟩
  ·rw[I.seqK_inj hy hq];exact hv
  ·have hb':H b=none:=(hf b hb).1;have blt:b<s.heap.objs.size:=by
    rcases List.mem_cons.mp hb with z|z
    ·rw[z];exact elt
    ·have z':b=it:=by simpa using z
     obtain⟨o,q,_⟩:=y.obj;rw[z'];exact aC q
   rw[cC (aR blt)];exact hb'
 done:=by
  rintro X hP hw hK hc i pins s σ H E I hf ⟨⟨old,x⟩,y⟩ ⟨xs,hq,hl⟩;subst hP hw hK;obtain⟨its,rv,ob,hz⟩:=I.seqK hq;have ei:i=its.toArray.size:=by rw[aE,<-rv.length];exact hl.symm
  have D:=draws_sq (prog:=X.prog) (w:=X.w) (A:=X.A.in1) (I.ok.hd hc) it a hai its.toArray;obtain⟨f0,f1,f2,f3,f4,f5⟩:=hf it (by simp);have st:=y.with ob
  rw[ei] at st;exact wpAny_pyNext_enum_endD D x st fun h' eb=>⟨rfl,I.turned (t':=s.toks) (fun b o hb q=>eb b o hb q) f0 f1 f3 f4 f5⟩
 self:=fun _ _ _ _ _ ⟨⟨old,x⟩,_⟩ h=>wpAny_pyIter_enum x h
open AutoSeq1 (wpAny_loadPart')
noncomputable abbrev vN (l:Addr):Obj:={ cls:=.type "tuple_iterator", data:=.fields #[.ref l,.int 0 0] }
noncomputable abbrev yw (it:Addr):Obj:={ cls:=.type "enumerate", data:=.fields #[.none,.bool false,.ref it,rawInt 0,.none,.none] }
set_option maxRecDepth 100000 in
theorem AV (l:Addr)(its:Array Value)(n:Nat)(dct:Option Addr)(sl:Array (Option Value)) :
  Meets (Builtin.«enumerate.__new__» ⟨[.type "enumerate", .ref l],[]⟩) (fun _ R s=>s.heap.get? l=some { cls:=.type "tuple", dict:=dct,data:=.seq its n,slots:=sl } ∧
   R (.ok (.ret (.ref (s.heap.push (vN l)).objs.size))) { s with heap:=(s.heap.push (vN l)).push (yw s.heap.objs.size) }) :=
 .of_wp fun prog w A R s h=>by
  obtain⟨hp,g,d,tk,os⟩:=s;obtain⟨hl,h⟩:=h;have hsub:=sub_enumerate;have hTu:Heap.IsTuple (Shared.heap ⟨hp,g,d,tk,os⟩) l its:=⟨_,hl,rfl,n,rfl⟩
  wp_walk using wpAny_loadPart' hl
  refine wpAny_stack_any fun stk=>aq ?_;split
  ·rename_i c _ _ _ _ _;cases (c==Value.type "enumerate")
   ·wp_walk using wpAny_loadPart' hl,wpAny_pyIter_tuple hTu
    exact⟨_,rfl,h⟩
   ·wp_walk using wpAny_loadPart' hl,wpAny_pyIter_tuple hTu
    exact⟨_,rfl,h⟩
  ·wp_walk using wpAny_loadPart' hl,wpAny_pyIter_tuple hTu
   exact⟨_,rfl,h⟩
theorem yM {prog:Program}{w:World}{A:Around}{E:Value->Shared->Prop}{s:Shared}{kd:Bool}{l:Addr}{its:Array Value}{Q:Value->Shared->Prop}(ob:j3 kd s.heap l its)
  (h:∀h',IsEnum h' (s.heap.objs.size+1) s.heap.objs.size 0 .none->ItK kd h' s.heap.objs.size l 0->(∀b o,s.heap.get? b=some o->h'.get? b=some o)->Q (.ref (s.heap.objs.size+1)) { s with heap:=h' }) :
  wpAny (model prog w) A (call (.type "enumerate") [.ref l]) Q E s:=by
 cases kd
 ·obtain⟨⟨c,dct,dt,sl⟩,hl,hc,n,hd⟩:=(show s.heap.IsTuple l its from ob);have hc':c=.type "tuple" := hc;have hd':dt=.seq its n:=hd;subst hc' hd';refine callType_new F.called_enumerate (by decide) (F.typeCall_enumerate_1 _) (F.newCall_enumerate_1 _) (fun obj=>F.args_object_init_2 obj _) F.entry_enumerate_new (AV l its n dct sl) ⟨hl,?_⟩;have hz:(s.heap.push (vN l)).objs.size=s.heap.objs.size+1:=br ..;show _/\_;rw[hz];have he:IsEnum ((s.heap.push (vN l)).push (yw s.heap.objs.size)) (s.heap.objs.size+1) s.heap.objs.size 0 .none:=by
   have q:=aG (s.heap.push (vN l)) (o:=yw s.heap.objs.size) rfl;rw[hz] at q;exact q
  exact⟨⟨_,he,rfl⟩,h _ he ⟨_,ae _ (aG _ rfl),rfl,rfl⟩ fun b o x=>ae _ (ae _ x)⟩
 ·exact call_enumerate_list (show s.heap.IsList l its from ob) fun h' he hi _ hk=>h h' he hi hk
section
variable {X:Cx}{l:Expr}{tl:TE}{p pos tp:Pos}{tes:List Expr}{tk:Nat}
noncomputable def IY (K:PySem.W.Frag)(ta:TA):TI:=fun σ H R=>ta σ H fun vs H1=>∃kd a,vs=[.ref a]/\(∃xs,ib kd K H1 a xs)/\R (Ite K kd a) H1
theorem pi_enum {ta:TA}(hg:Gl X "enumerate")(hm:X.mg "enumerate" = none)(ha:PA X [l] ta)(hs:starEach [l] X.env=[(false,eval l X.env)]:=by rfl):PI X (.Tuple tes tk tp) (.Call (.Name "enumerate" p) [l] [] pos) (IY X.K ta):=by
 intro pins s σ H R I h;refine Call_ (ld_blt I hg hm boot_enumerate (PyProof.Rows.callWith_type1 (thn (ha pos pins s σ H _ I h) fun us s1 ⟨vs,H1,I1,r1,q1⟩=>?_) hs rfl));obtain⟨kd,a,e,⟨xs,hq⟩,q⟩:=q1;subst e;obtain⟨u,rfl,ru⟩:=cT.one r1;cases ru;obtain⟨its,rv,ob,hz⟩:=I1.seqK hq;refine yM ob fun h' he hi hk=>?_;have I2:cQ X pins σ H1 { s1 with heap:=h' }:=I1.kept (t':=s1.toks) hk;have alt:=ob.lt;refine wpAny_pyIter_enum he ⟨_,_,_,_,H1,rfl,I2,z8 (kd:=kd) a (s1.heap.objs.size+1) s1.heap.objs.size (Nat.succ_ne_self _) (aR (Nat.lt_succ_of_lt alt)) (aR alt),⟨⟨_,he⟩,hi⟩,fun b hb=>?_,q⟩;rcases List.mem_cons.mp hb with z|z
 ·subst z;exact I1.fpOk (JE _) (I1.hok.fresh (JE _))
 ·have z':b=s1.heap.objs.size:=by simpa using z
  subst z';exact I1.fpOk (aB _) (I1.hok.fresh (aB _))
end
end L2
namespace DL
open PySem PySem.Spec PySem.SeqAt
open L2 (V Hp St HO VK TE TT TA TS TI TG Cx cQ PE PT PA PS PSs PI PG jj jR de dY cK cC cE cT dR EP TP AP SP jQ It ib)
theorem tJ:∀(ds:List D) (k i:Nat) (d:D),(eZ k ds)[i]?=some d->∃e,ds[i]?=some e/\d=.tuple [.int ((k+i:Nat):Int),e]
 |[],k,i,d,h=>by simp[eZ] at h
 |e::ds,k,0,d,h=>by simp[eZ] at h;exact⟨e,rfl,by simp[h]⟩
 | e::ds,k,i+1,d,h=>by
  have h':(eZ (k+1) ds)[i]?=some d:=by simpa [eZ] using h
  obtain⟨e',h1,h2⟩:=tJ ds (k+1) i d h';exact⟨e',by simpa using h1,by rw[h2,show k+1+i=k+(i+1) by omega]⟩
theorem tI:∀(ds:List D) (k:Nat),(eZ k ds).length=ds.length
 |[],_=>rfl
 |_::ds,k=>by simp[eZ,tI ds]
theorem AJ {K:Fg}{H:Hp}{M O:List Addr}{a:Addr}{kd:Bool}{ds:List D}{vs:List V}(h:∀O' H',iJ M O H O' H'->ib kd K H' a vs)(q:Rs K H O ds vs):md K (L2.Ite K kd a) (eZ 0 ds) M O H:=by
 intro O2 H2 x;have h2:=h _ _ x;have q2:=q.ext x;refine⟨fun i d e=>?_,vs,h2,by rw[tI,q.length]⟩;obtain⟨e',he,rfl⟩:=tJ ds 0 i d e;obtain⟨v,ev,rv⟩:=q2.get he;refine⟨⟨vs,v,h2,ev⟩,fun y H3 ⟨T,z,ey,hT,eH,hz⟩=>?_⟩;subst ey eH;have:=hz vs h2;rw[ev] at this;cases this;have s2:de H2 (dY H2 T (.tup [.int (i:Int),v])):=fun b o e=>by rw[cC (cE e hT)];exact e
 refine⟨s2,.tuple (.inl (.inl cK)) (.cons ?_ (.cons (rv.same s2) .nil))⟩;rw[show (0+i:Nat)=i by omega];exact .int _
section
variable {X:Cx}{e:Expr}{f:AD}{p pos tp:Pos}{tes:List Expr}{tk:Nat}
theorem iP (hm:X.mg "enumerate" = none)(h:DQ X e f)(hg:L2.Gl X "enumerate" := by rfl)(hs:starEach [e] X.env=[(false,eval e X.env)]:=by rfl):DI X (.Tuple tes tk tp) (.Call (.Name "enumerate" p) [e] [] pos) (eY f) :=
 (L2.pi_enum hg hm (L2.pa_cons h L2.pa_nil hs) hs).imp fun σ H Q zz=>by
  obtain ⟨ρ,O,M,lad,zs,hE,hf,k⟩:=zz;unfold eY at hf;cases hr:f ρ with
  |none=>rw[hr] at hf;cases hf
  |some ds =>
   rw[hr,av] at hf;cases hf;refine⟨ρ,O,M,lad,ds,hE,hr,fun v H1 kd s1 ⟨a,vs,ev,qs,st⟩=>?_⟩;subst ev;exact⟨kd,a,rfl,⟨vs,st _ _ (iJ.id M O H1 (hE.same s1).sub)⟩,k _ H1 s1 (AJ (kd:=kd) (fun O' H' x=>st O' H' x) qs)⟩
end
end DL
namespace L2
open PySem PySem.Spec PyProof.Rows
structure Fo (z TI TO i1 i2:Addr):Prop where
 a1:TI≠z
 a2:TO≠z
 a3:i1≠z
 a4:i2≠z
 a5:TI≠TO
 a6:TI≠i1
 a7:TI≠i2
 a8:TO≠i1
 a9:TO≠i2
 b1:i1≠i2
section
variable {prog:Program}{w:World}{A:Around}{E:Value->Shared->Prop}{s:Shared}{z TI TO i1 i2:Addr}{n1 n2 k:Nat}{fp1 fp2:List Addr}{P1 P2:Nat->Value->Prop}{S1 S2:Nat->Heap->Prop}
theorem zipItem {a b:Value}{Q:Value->Shared->Prop}(Z:Fo z TI TO i1 i2)(D1:Draws prog w A i1 fp1 n1 P1 S1)(D2:Draws prog w A i2 fp2 n2 P2 S2)(f1:z∉fp1/\TO∉fp1/\i2∉fp1)(f2:z∉fp2/\TO∉fp2/\i1∉fp2)
  (hz:IsZip s.heap z TI TO .none) (hTI:IsPair s.heap TI (.ref i1) (.ref i2)) (hTO:IsPair s.heap TO a b) (t1:S1 k s.heap) (t2:S2 k s.heap) (l1:k<n1) (l2:k<n2)
  (hQ:∀x y h' tk,P1 k x->P2 k y->IsZip h' z TI TO (rawInt s.heap.objs.size)->IsPair h' TO x y->S1 (k+1) h'->S2 (k+1) h'->IsPair h' s.heap.objs.size x y →
   (∀c o,c≠z->c≠TO->c≠i1->c≠i2->s.heap.get? c=some o->h'.get? c=some o)->Q (.ref s.heap.objs.size) { s with heap:=h',toks:=tk }) :
  wpAny (model prog w) A (Builtin.«zip.__next__» ⟨[.ref z],[]⟩) (fun fin s'=>∃v,fin=.done (.ret v)/\Q v s') E s:=by
 show wpAny _ _ (field (.ref z) 2>>=_) _ _ _;refine ab (aZ hz rfl (x:=.bool false) rfl ?_);show wpAny _ _ (field (.ref z) 3>>=_) _ _ _;refine ab (aZ hz rfl (x:=.ref TI) rfl ?_);refine ab (wpAny_seqItems hTI rfl ?_);show wpAny _ _ (Builtin.SmallTypes.ownedTupleIsFree (.ref z)>>=_) _ _ _;refine ab ?_;unfold Builtin.SmallTypes.ownedTupleIsFree;refine ab (aZ hz rfl (x:=.none) rfl (aq ?_));simp only[if_true];refine ab (wpAny_rule ?_);refine ab (aZ hz rfl (x:=.ref TO) rfl ?_);refine ab (aW hz (by simp) fun g1 hz1 e1=>?_);have hz1':IsZip g1 z TI TO .ellipsis:=hz1;refine ab ?_;simp only[JH,JU,bV,JG];refine ab (ab (wpAny_onRaise ?_));show wpAny _ _ (Builtin.SmallTypes.nextOf (.ref i1)>>=_) _ _ _;have t1':S1 k g1:=D1.frame _ _ _ t1 fun c hc o q=>e1.extBut c o (fun w'=>f1.1 (w'▸hc)) q;refine ab (D1.item k _ _ _ l1 t1' fun x g2 tk2 px u1 e2=>aq ?_);have hTO2:IsPair g2 TO a b:=e2.extBut _ _ Z.a8 (e1.extBut _ _ Z.a2 hTO);refine ab (wpAny_seqItems hTO2 rfl ?_);refine ab (wpAny_updateSeq_pair hTO2 fun g3 hTO3 e3=>?_);have hTO3':IsPair g3 TO x b:=hTO3;refine ab (wpAny_letGo (aq ?_));refine ab (ab (wpAny_onRaise ?_));show wpAny _ _ (Builtin.SmallTypes.nextOf (.ref i2)>>=_) _ _ _;have t2':S2 k g3:=D2.frame _ _ _ t2 fun c hc o q=>e3.extBut c o (fun w'=>f2.2.1 (w'▸hc)) (e2.extBut c o (fun w'=>f2.2.2 (w'▸hc)) (e1.extBut c o (fun w'=>f2.1 (w'▸hc)) q));refine ab (D2.item k _ _ _ l2 t2' fun y g4 tk4 py u2 e4=>aq ?_);have hTO4:IsPair g4 TO x b:=e4.extBut _ _ Z.a9 hTO3';refine ab (wpAny_seqItems hTO4 rfl ?_);refine ab (wpAny_updateSeq_pair hTO4 fun g5 hTO5 e5=>?_);have hTO5':IsPair g5 TO x y:=hTO5;refine ab (wpAny_letGo (aq (aq ?_)));refine ab (wpAny_seqItems hTO5' rfl ?_);refine ab (wpAny_newTuple ?_);have hsz:g5.objs.size=s.heap.objs.size:=by rw[e5.1,e4.1,e3.1,e2.1,e1.1]
 have hz5:IsZip g5 z TI TO .ellipsis:=e5.extBut _ _ Z.a2.symm (e4.extBut _ _ Z.a4.symm (e3.extBut _ _ Z.a2.symm (e2.extBut _ _ Z.a3.symm hz1')));have hk5:∀c o,c≠z->c≠TO->c≠i1->c≠i2->s.heap.get? c=some o->g5.get? c=some o:=fun c o c1 c2 c3 c4 q =>
  e5.extBut _ _ c2 (e4.extBut _ _ c4 (e3.extBut _ _ c2 (e2.extBut _ _ c3 (e1.extBut _ _ c1 q))))
 have v1:S1 (k+1) g5:=D1.frame _ _ _ u1 fun c hc o q=>e5.extBut c o (fun w'=>f1.2.1 (w'▸hc)) (e4.extBut c o (fun w'=>f1.2.2 (w'▸hc)) (e3.extBut c o (fun w'=>f1.2.1 (w'▸hc)) q));have v2:S2 (k+1) g5:=D2.frame _ _ _ u2 fun c hc o q=>e5.extBut c o (fun w'=>f2.2.1 (w'▸hc)) q;have zlt:z<g5.objs.size:=aC hz5;show wpAny _ _ (Builtin.SmallTypes.ownedTupleHandOut (.ref z) (.ref g5.objs.size)>>=_) _ _ _;refine ab ?_;unfold Builtin.SmallTypes.ownedTupleHandOut;have hz6:IsZip (g5.push { cls:=.type "tuple", data:=.seq #[x,y] }) z TI TO .ellipsis:=ae _ hz5;refine ab (aW hz6 (by simp) fun g7 hz7 e7=>?_);have hz7':IsZip g7 z TI TO (rawInt g5.objs.size):=hz7;refine aW hz7' (by simp) fun g8 hz8 e8=>?_;have hz8':IsZip g8 z TI TO (rawInt g5.objs.size):=hz8;have up:∀c o,c≠z->g5.get? c=some o->g8.get? c=some o:=fun c o c1 q=>e8.extBut _ _ c1 (e7.extBut _ _ c1 (ae _ q));have hT8:IsPair g8 g5.objs.size x y:=e8.extBut _ _ (bq zlt) (e7.extBut _ _ (bq zlt) (aG _ rfl));rw[hsz] at hz8' hT8;refine aq ⟨_,rfl,?_⟩;show Q (.ref g5.objs.size) _;rw[hsz];exact hQ x y g8 _ px py hz8' (up _ _ Z.a2 hTO5') (D1.frame _ _ _ v1 fun c hc o q=>up c o (fun w'=>f1.1 (w'▸hc)) q) (D2.frame _ _ _ v2 fun c hc o q=>up c o (fun w'=>f2.1 (w'▸hc)) q) hT8 fun c o c1 c2 c3 c4 q=>up c o c1 (hk5 c o c1 c2 c3 c4 q)
theorem zipEnd {a b:Value}{Q:Fin->Shared->Prop}(Z:Fo z TI TO i1 i2)(D1:Draws prog w A i1 fp1 n1 P1 S1)(D2:Draws prog w A i2 fp2 n2 P2 S2)(f1:z∉fp1/\TO∉fp1/\i2∉fp1)(f2:z∉fp2/\TO∉fp2/\i1∉fp2)
  (hz:IsZip s.heap z TI TO .none) (hTI:IsPair s.heap TI (.ref i1) (.ref i2)) (hTO:IsPair s.heap TO a b) (t1:S1 k s.heap) (t2:S2 k s.heap) (hend:k=n1\/(k<n1/\k=n2))
  (hE:∀h' tk e,(∀c o,c≠z->c≠TO->c≠i1->c≠i2->s.heap.get? c=some o->h'.get? c=some o)->(∃o,h'.get? e=some o/\o.cls=.type "StopIteration")->E (.ref e) { s with heap:=h',toks:=tk }) :
  wpAny (model prog w) A (Builtin.«zip.__next__» ⟨[.ref z],[]⟩) Q E s:=by
 show wpAny _ _ (field (.ref z) 2>>=_) _ _ _;refine ab (aZ hz rfl (x:=.bool false) rfl ?_);show wpAny _ _ (field (.ref z) 3>>=_) _ _ _;refine ab (aZ hz rfl (x:=.ref TI) rfl ?_);refine ab (wpAny_seqItems hTI rfl ?_);show wpAny _ _ (Builtin.SmallTypes.ownedTupleIsFree (.ref z)>>=_) _ _ _;refine ab ?_;unfold Builtin.SmallTypes.ownedTupleIsFree;refine ab (aZ hz rfl (x:=.none) rfl (aq ?_));simp only[if_true];refine ab (wpAny_rule ?_);refine ab (aZ hz rfl (x:=.ref TO) rfl ?_);refine ab (aW hz (by simp) fun g1 hz1 e1=>?_);have hz1':IsZip g1 z TI TO .ellipsis:=hz1;refine ab ?_;simp only[JH,JU,bV,JG];refine ab (ab (wpAny_onRaise ?_));show wpAny _ _ (Builtin.SmallTypes.nextOf (.ref i1)>>=_) _ _ _;have t1':S1 k g1:=D1.frame _ _ _ t1 fun c hc o q=>e1.extBut c o (fun w'=>f1.1 (w'▸hc)) q;rcases hend with rfl|⟨l1,rfl⟩
 ·refine ab (D1.done _ _ _ t1' fun g2 ex e2 he=>?_);obtain⟨oe,hoe,hce⟩:=he;have hz2:IsZip g2 z TI TO .ellipsis:=e2 _ _ Z.a3.symm hz1';have hez:ex≠z:=fun q=>by rw[q,hz2] at hoe;cases hoe;simp at hce
  exact aW hz2 (by simp) fun g3 _ e3=>hE g3 _ ex (fun c o c1 _ c3 _ q=>e3.extBut _ _ c1 (e2 _ _ c3 (e1.extBut _ _ c1 q))) ⟨oe,e3.extBut _ _ hez hoe,hce⟩
 ·refine ab (D1.item k _ _ _ l1 t1' fun x g2 tk2 px u1 e2=>aq ?_);have hTO2:IsPair g2 TO a b:=e2.extBut _ _ Z.a8 (e1.extBut _ _ Z.a2 hTO);refine ab (wpAny_seqItems hTO2 rfl ?_);refine ab (wpAny_updateSeq_pair hTO2 fun g3 hTO3 e3=>?_);refine ab (wpAny_letGo (aq ?_));refine ab (ab (wpAny_onRaise ?_));show wpAny _ _ (Builtin.SmallTypes.nextOf (.ref i2)>>=_) _ _ _;have t2':S2 k g3:=D2.frame _ _ _ t2 fun c hc o q=>e3.extBut c o (fun w'=>f2.2.1 (w'▸hc)) (e2.extBut c o (fun w'=>f2.2.2 (w'▸hc)) (e1.extBut c o (fun w'=>f2.1 (w'▸hc)) q));refine ab (D2.done _ _ _ t2' fun g4 ex e4 he=>?_);obtain⟨oe,hoe,hce⟩:=he;have hz4:IsZip g4 z TI TO .ellipsis:=e4 _ _ Z.a4.symm (e3.extBut _ _ Z.a2.symm (e2.extBut _ _ Z.a3.symm hz1'));have hez:ex≠z:=fun q=>by rw[q,hz4] at hoe;cases hoe;simp at hce
  exact aW hz4 (by simp) fun g5 _ e5=>hE g5 _ ex (fun c o c1 c2 c3 c4 q=>e5.extBut _ _ c1 (e4 _ _ c4 (e3.extBut _ _ c2 (e2.extBut _ _ c3 (e1.extBut _ _ c1 q))))) ⟨oe,e5.extBut _ _ hez hoe,hce⟩
end
noncomputable abbrev nq (kd:Bool)(l:Addr):Obj:={ cls:=.type (if kd=true then "list_iterator" else "tuple_iterator"),data:=.fields #[.ref l,.int 0 0] }
section
variable {prog:Program}{w:World}{A:Around}{E:Value->Shared->Prop}{s:Shared}
theorem wM {kd:Bool}{l:Addr}{its:Array Value}{Q:Value->Shared->Prop}(ob:j3 kd s.heap l its)(h:Q (.ref s.heap.objs.size) { s with heap:=s.heap.push (nq kd l) }):wpAny (model prog w) A (pyIter (.ref l)) Q E s:=by
 cases kd
 ·exact wpAny_pyIter_tuple (show s.heap.IsTuple l its from ob) h
 ·exact wpAny_pyIter_list (show s.heap.IsList l its from ob) h
end
noncomputable abbrev Fw (h:Heap)(k1:Bool)(l1:Addr):Heap:=h.push (nq k1 l1)
noncomputable abbrev ES (h:Heap)(k1 k2:Bool)(l1 l2:Addr):Heap:=(Fw h k1 l1).push (nq k2 l2)
noncomputable abbrev Iv (h:Heap)(k1 k2:Bool)(l1 l2:Addr):Heap:=(ES h k1 k2 l1 l2).push { cls:=.type "tuple", data:=.seq #[.ref h.objs.size,.ref (Fw h k1 l1).objs.size] }
noncomputable abbrev Iu (h:Heap)(k1 k2:Bool)(l1 l2:Addr):Heap:=(Iv h k1 k2 l1 l2).push { cls:=.type "tuple", data:=.seq #[.none,.none] }
noncomputable abbrev Ha (h:Heap)(k1 k2:Bool)(l1 l2:Addr):Heap:=(Iu h k1 k2 l1 l2).push { cls:=.type "zip", data:=.fields #[.none,.bool false,.bool false,.ref (ES h k1 k2 l1 l2).objs.size,.ref (Iv h k1 k2 l1 l2).objs.size] }
set_option maxRecDepth 100000 in
theorem Bc (k1 k2:Bool)(l1 l2:Addr)(xs ys:Array Value) :
  Meets (Builtin.«zip.__new__» ⟨[.type "zip", .ref l1,.ref l2],[]⟩) (fun _ R s=>j3 k1 s.heap l1 xs/\j3 k2 s.heap l2 ys ∧
   R (.ok (.ret (.ref (Iu s.heap k1 k2 l1 l2).objs.size))) { s with heap:=Ha s.heap k1 k2 l1 l2 }) :=
 .of_wp fun prog w A R s h=>by
  obtain⟨hp,g,d,tk,os⟩:=s;obtain⟨o1,o2,h⟩:=h;have hsub:=sub_zip;have q1:j3 k1 (Shared.heap ⟨hp,g,d,tk,os⟩) l1 xs:=o1;have q2:j3 k2 (Shared.heap ⟨hp.push (nq k1 l1),g,d,tk,os⟩) l2 ys:=j3.at o2 fun o e=>ae _ e
  wp_walk using wM q1,wM q2
  exact⟨_,rfl,h⟩
section
variable {prog:Program}{w:World}{A:Around}{E:Value->Shared->Prop}{s:Shared}
theorem call_zipK {k1 k2:Bool}{l1 l2:Addr}{xs ys:Array Value}{Q:Value->Shared->Prop}(o1:j3 k1 s.heap l1 xs)(o2:j3 k2 s.heap l2 ys)
  (h:∀h',IsZip h' (s.heap.objs.size+4) (s.heap.objs.size+2) (s.heap.objs.size+3) .none->IsPair h' (s.heap.objs.size+2) (.ref s.heap.objs.size) (.ref (s.heap.objs.size+1)) →
   IsPair h' (s.heap.objs.size+3) .none .none->ItK k1 h' s.heap.objs.size l1 0->ItK k2 h' (s.heap.objs.size+1) l2 0->(∀c o,s.heap.get? c=some o->h'.get? c=some o)->Q (.ref (s.heap.objs.size+4)) { s with heap:=h' }) :
  wpAny (model prog w) A (call (.type "zip") [.ref l1,.ref l2]) Q E s:=by
 refine callType_new F.called_zip (by decide) (F.typeCall_zip_2 _ _) (F.newCall_zip_2 _ _) (fun obj=>F.args_object_init_3 obj _ _) F.entry_zip_new (Bc k1 k2 l1 l2 xs ys) ⟨o1,o2,?_⟩;have y1:(Fw s.heap k1 l1).objs.size=s.heap.objs.size+1:=br ..;have y2:(ES s.heap k1 k2 l1 l2).objs.size=s.heap.objs.size+2:=by rw[br,y1]
 have y3:(Iv s.heap k1 k2 l1 l2).objs.size=s.heap.objs.size+3:=by rw[br,y2]
 have y4:(Iu s.heap k1 k2 l1 l2).objs.size=s.heap.objs.size+4:=by rw[br,y3]
 have r5:(Ha s.heap k1 k2 l1 l2).get? (Iu s.heap k1 k2 l1 l2).objs.size=some _:=aG _ rfl;have r4:(Ha s.heap k1 k2 l1 l2).get? (Iv s.heap k1 k2 l1 l2).objs.size=some _:=ae _ (aG _ rfl);have r3:(Ha s.heap k1 k2 l1 l2).get? (ES s.heap k1 k2 l1 l2).objs.size=some _:=ae _ (ae _ (aG _ rfl));have r2:(Ha s.heap k1 k2 l1 l2).get? (Fw s.heap k1 l1).objs.size=some (nq k2 l2):=ae _ (ae _ (ae _ (aG _ rfl)));have r1:(Ha s.heap k1 k2 l1 l2).get? s.heap.objs.size=some (nq k1 l1):=ae _ (ae _ (ae _ (ae _ (aG _ rfl))));have itk:∀(kd:Bool) (hh:Heap) (it l:Addr),hh.get? it=some (nq kd l)->ItK kd hh it l 0:=fun kd hh it l q=>by
  cases kd
  ·exact⟨_,q,rfl,rfl⟩
  ·exact⟨_,q,rfl,rfl⟩
 show _/\_;rw[y2,y3,y4] at r5;rw[y1,y2] at r3;rw[y3] at r4;rw[y1] at r2;rw[y4];exact⟨⟨_,r5,rfl⟩,h _ r5 r3 r4 (itk _ _ _ _ r1) (itk _ _ _ _ r2) fun c o x =>
  ae _ (ae _ (ae _ (ae _ (ae _ x))))⟩
end
noncomputable def Itz (K:PySem.W.Frag)(k1 k2:Bool)(a b:Addr):It :=
  ⟨fun i H=>∃xs ys x y,ib k1 K H a xs/\ib k2 K H b ys/\xs[i]?=some x/\ys[i]?=some y,
   fun i H v H'=>∃T x y,v=.ref T/\H T=none/\H'=dY H T (.tup [x,y])/\(∀xs,ib k1 K H a xs->xs[i]?=some x)/\∀ys,ib k2 K H b ys->ys[i]?=some y,
   fun i H=>∃xs ys,ib k1 K H a xs/\ib k2 K H b ys/\(xs.length=i\/(i<xs.length/\ys.length=i))⟩
theorem Bl {P:Program}{w:World}{K:PySem.W.Frag}{tes:List Expr}{tk:Nat}{tp:Pos}{k1 k2:Bool}(a b z TI TO i1 i2:Addr)(Z:Fo z TI TO i1 i2)(fa:∀c∈[z,TO,i1,i2],a≠c/\b≠c) :
  Turn P w K (.Tuple tes tk tp) (Itz K k1 k2 a b) [z,TI,TO,i1,i2] z (fun i h=>IsZip h z TI TO .none/\IsPair h TI (.ref i1) (.ref i2)/\(∃x y,IsPair h TO x y)/\ItK k1 h i1 a i/\ItK k2 h i2 b i) where
 mem:=by simp
 obj:=fun i h ⟨q1,q2,⟨x,y,q3⟩,q4,q5⟩ c hc=>by
  simp only[bt,bo,or_false] at hc;rcases hc with rfl|rfl|rfl|rfl|rfl
  ·exact⟨_,q1,fun v w'=>by cases w'⟩
  ·exact⟨_,q2,fun v w'=>by cases w'⟩
  ·exact⟨_,q3,fun v w'=>by cases w'⟩
  ·exact q4.obj
  ·exact q5.obj
 keep:=fun i h h' ⟨q1,q2,⟨x,y,q3⟩,q4,q5⟩ k=>⟨k z (by simp) _ q1,k TI (by simp) _ q2,⟨x,y,k TO (by simp) _ q3⟩,q4.at fun o q=>k i1 (by simp) o q,q5.at fun o q=>k i2 (by simp) o q⟩
 item:=by
  rintro X hP hw hK hc i pins s σ H E I hf ⟨q1,q2,⟨ox,oy,q3⟩,q4,q5⟩ ⟨xs,ys,vx,vy,sx,sy,gx,gy⟩;subst hP hw hK;obtain⟨its,rv,ob,hz⟩:=I.seqK sx;obtain⟨jts,rw',oc,hz'⟩:=I.seqK sy;obtain⟨u,hu,ru⟩:=rv.get gx;obtain⟨v,hv,rv'⟩:=rw'.get gy;have hi:i<its.toArray.size:=by rw[aE];exact (List.getElem?_eq_some_iff.mp hu).1
  have hj:i<jts.toArray.size:=by rw[aE];exact (List.getElem?_eq_some_iff.mp hv).1
  have fz:=fa z (by simp);have fTO:=fa TO (by simp);have f1:=fa i1 (by simp);have f2:=fa i2 (by simp);have D1:=draws_sq (prog:=X.prog) (w:=X.w) (A:=X.A.in1) (I.ok.hd hc) i1 a f1.1 its.toArray;have D2:=draws_sq (prog:=X.prog) (w:=X.w) (A:=X.A.in1) (I.ok.hd hc) i2 b f2.2 jts.toArray;have hT:s.TypeIs (.ref z) "zip" := ⟨_,q1,rfl⟩;have ap1:z∉[i1,a]/\TO∉[i1,a]/\i2∉[i1,a]:=⟨by simp[Z.a3.symm,fz.1.symm],by simp[Z.a8,fTO.1.symm],by simp[Z.b1.symm,f2.1.symm]⟩;have ap2:z∉[i2,b]/\TO∉[i2,b]/\i1∉[i2,b]:=⟨by simp[Z.a4.symm,fz.2.symm],by simp[Z.a9,fTO.2.symm],by simp[Z.b1,f1.2.symm]⟩;unfold pyNext;refine ab (wpAny_attempt (wpAny_callSpecial?_slot (name:=Str.ofString "__next__") hT F.slot_zip_next (wpAny_call_entry F.slot_zip_next hT F.entry_zip_next
   (zipItem Z D1 D2 ap1 ap2 q1 q2 q3 (q4.with ob) (q5.with oc) hi hj fun x y h' tk px py nz nTO n1 n2 nT hk=>aq ?_) (F.args_zip_next_1 _))))
  have ex:x=u:=by
   have:its[i]?=some x:=by simpa using px
   rw[hu] at this;exact (Option.some.inj this).symm
  have ey:y=v:=by
   have:jts[i]?=some y:=by simpa using py
   rw[hv] at this;exact (Option.some.inj this).symm
  subst ex ey;have ob':j3 k1 h' a its.toArray:=ob.at fun o q=>hk a o fz.1 fTO.1 f1.1 f2.1 q;have oc':j3 k2 h' b jts.toArray:=oc.at fun o q=>hk b o fz.2 fTO.2 f1.2 f2.2 q;have nTI:IsPair h' TI (.ref i1) (.ref i2):=hk TI _ Z.a1 Z.a5 Z.a6 Z.a7 q2;have lt:∀c∈[z,TI,TO,i1,i2],c<s.heap.objs.size:=fun c hc=>by
   simp only[bt,bo,or_false] at hc;rcases hc with rfl|rfl|rfl|rfl|rfl
   ·exact aC q1
   ·exact aC q2
   ·exact aC q3
   ·obtain⟨o,q,_⟩:=q4.obj;exact aC q
   ·obtain⟨o,q,_⟩:=q5.obj;exact aC q
  refine⟨_,rfl,?_⟩;have I1:cQ X pins σ (dY H s.heap.objs.size (.tup [vx,vy])) { s with heap:=h',toks:=tk }:=by
   refine I.turnedLay (fp:=[z,TI,TO,i1,i2]) (fun c o hc q=>hk c o (fun w'=>hc (by simp[w'])) (fun w'=>hc (by simp[w'])) (fun w'=>hc (by simp[w'])) (fun w'=>hc (by simp[w'])) q) (fun c hc=>?_) hf (aB _) ⟨sz2',[x,y],.cons ru (.cons rv' .nil),⟨_,nT,rfl,_,rfl⟩⟩;simp only[bt,bo,or_false] at hc;rcases hc with rfl|rfl|rfl|rfl|rfl
   ·exact⟨_,nz⟩
   ·exact⟨_,nTI⟩
   ·exact⟨_,nTO⟩
   ·obtain⟨o,q,_⟩:=n1.live;exact⟨o,q⟩
   ·obtain⟨o,q,_⟩:=n2.live;exact⟨o,q⟩
  have fr:H s.heap.objs.size=none:=I.hok.fresh (aB _);have fe:=hf z (by simp);refine wpAny_letOwnedTupleGo_zip (s:={ s with heap:=h',toks:=tk }) nz fun g2 nz2 hs2=>?_;have I2:cQ X pins σ (dY H s.heap.objs.size (.tup [vx,vy])) { s with heap:=g2,toks:=tk } :=
   cQ.turned (s:={ s with heap:=h',toks:=tk }) (it:=z) (t':=tk) I1 (fun c o hc q=>(hs2.2 c hc).trans q) (by rw[cC (aR (lt z (by simp)))];exact fe.1) fe.2.1 fe.2.2.2.1 fe.2.2.2.2.1 fe.2.2.2.2.2
  refine⟨.ref s.heap.objs.size,_,I2,rfl,⟨_,vx,vy,rfl,fr,rfl,fun zs hy=>?_,fun zs hy=>?_⟩,⟨nz2,(hs2.2 TI Z.a1).trans nTI,⟨_,_,(hs2.2 TO Z.a2).trans nTO⟩,(ItK.of n1 ob').at fun o q=>(hs2.2 i1 Z.a3).trans q,(ItK.of n2 oc').at fun o q=>(hs2.2 i2 Z.a4).trans q⟩,fun c hc=>?_⟩
  ·rw[I.seqK_inj hy sx];exact gx
  ·rw[I.seqK_inj hy sy];exact gy
  ·rw[cC (aR (lt c hc))];exact (hf c hc).1
 done:=by
  rintro X hP hw hK hc i pins s σ H E I hf ⟨q1,q2,⟨ox,oy,q3⟩,q4,q5⟩ ⟨xs,ys,sx,sy,hl⟩;subst hP hw hK;obtain⟨its,rv,ob,hz⟩:=I.seqK sx;obtain⟨jts,rw',oc,hz'⟩:=I.seqK sy;have fz:=fa z (by simp);have fTO:=fa TO (by simp);have f1:=fa i1 (by simp);have f2:=fa i2 (by simp);have D1:=draws_sq (prog:=X.prog) (w:=X.w) (A:=X.A.in1) (I.ok.hd hc) i1 a f1.1 its.toArray;have D2:=draws_sq (prog:=X.prog) (w:=X.w) (A:=X.A.in1) (I.ok.hd hc) i2 b f2.2 jts.toArray;have hT:s.TypeIs (.ref z) "zip" := ⟨_,q1,rfl⟩;have ap1:z∉[i1,a]/\TO∉[i1,a]/\i2∉[i1,a]:=⟨by simp[Z.a3.symm,fz.1.symm],by simp[Z.a8,fTO.1.symm],by simp[Z.b1.symm,f2.1.symm]⟩;have ap2:z∉[i2,b]/\TO∉[i2,b]/\i1∉[i2,b]:=⟨by simp[Z.a4.symm,fz.2.symm],by simp[Z.a9,fTO.2.symm],by simp[Z.b1,f1.2.symm]⟩;have hend:i=its.toArray.size\/(i<its.toArray.size/\i=jts.toArray.size):=by
   rw[aE,aE,<-rv.length,<-rw'.length];rcases hl with z|⟨z1,z2⟩
   ·exact .inl z.symm
   ·exact .inr ⟨z1,z2.symm⟩
  unfold pyNext;refine ab (wpAny_attempt (wpAny_callSpecial?_slot (name:=Str.ofString "__next__") hT F.slot_zip_next (wpAny_call_entry F.slot_zip_next hT F.entry_zip_next (zipEnd Z D1 D2 ap1 ap2 q1 q2 q3 (q4.with ob) (q5.with oc) hend fun h' tk ex hk he=>?_) (F.args_zip_next_1 _))));obtain⟨o,ho,hce⟩:=he;refine ab (wpAny_isInstance (T := "StopIteration") (b:=true) ⟨o,ho,hce⟩ isSubtype_stop ?_);refine aq ⟨rfl,?_⟩;refine I.step (g':=s.gens) (d':=s.drawn) (ch:=[z,TO,i1,i2]) (fun c hc=>?_) (fun c o _ _ hc q _=>hk c o (fun w'=>hc (by simp[w'])) (fun w'=>hc (by simp[w'])) (fun w'=>hc (by simp[w'])) (fun w'=>hc (by simp[w'])) q)
   (fun c o _ _ hc q _=>⟨o.slots,hk c o (fun w'=>hc (by simp[w'])) (fun w'=>hc (by simp[w'])) (fun w'=>hc (by simp[w'])) (fun w'=>hc (by simp[w'])) q⟩) (fun _ _ _ _ n=>n)
   (fun c o hc q=>⟨o,hk c o (fun w'=>hc (by simp[w'])) (fun w'=>hc (by simp[w'])) (fun w'=>hc (by simp[w'])) (fun w'=>hc (by simp[w'])) q⟩) (fun _ _ e=>e) (fun _ _ _ e=>e) (fun b ps e=>⟨#[],by rw[e];simp⟩) (fun m hm=>?_) (fun c u e=>?_) I.bare
  ·obtain⟨_,f1,f2,f3,f4,f5⟩:=hf c (by simp only[bt,bo,or_false] at hc ⊢;rcases hc with z|z|z|z <;> simp[z]);exact⟨f3,f1,f4,f5⟩
  ·obtain⟨o,es,ep,ho',r⟩:=hm;exact⟨o,es,ep,hk _ o (fun w'=>(hf z (by simp)).2.1 w'.symm) (fun w'=>(hf TO (by simp)).2.1 w'.symm) (fun w'=>(hf i1 (by simp)).2.1 w'.symm) (fun w'=>(hf i2 (by simp)).2.1 w'.symm) ho',r⟩
  ·have nf:∀d u,H d=some u->d≠z/\d≠TO/\d≠i1/\d≠i2:=fun d u e=>⟨(fun w'=>by rw[w',(hf z (by simp)).1] at e;cases e),(fun w'=>by rw[w',(hf TO (by simp)).1] at e;cases e),(fun w'=>by rw[w',(hf i1 (by simp)).1] at e;cases e),(fun w'=>by rw[w',(hf i2 (by simp)).1] at e;cases e)⟩;refine (I.hok c u e).stay (fun d v hd q=>?_) (fun _ q=>q) fun _ _ q=>q;rcases hd with w'|w'
   ·obtain⟨m1,m2,m3,m4⟩:=nf c u e;rw[w'] at q ⊢;exact hk c v m1 m2 m3 m4 q
   ·obtain⟨m1,m2,m3,m4⟩:=nf d _ w';exact hk d v m1 m2 m3 m4 q
 self:=fun _ _ _ _ _ ⟨x,_⟩ h=>wpAny_pyIter_zip x h
section
variable {X:Cx}{e1 e2:Expr}{p pos tp:Pos}{tes:List Expr}{tk:Nat}
noncomputable def Jw (K:PySem.W.Frag)(ta:TA):TI:=fun σ H R=>ta σ H fun vs H1=>∃k1 k2 a b,vs=[.ref a,.ref b]/\(∃xs,ib k1 K H1 a xs)/\(∃ys,ib k2 K H1 b ys)/\R (Itz K k1 k2 a b) H1
theorem pi_zip {ta:TA}(hg:Gl X "zip")(hm:X.mg "zip" = none)(ha:PA X [e1,e2] ta)(hs:starEach [e1,e2] X.env=[(false,eval e1 X.env),(false,eval e2 X.env)]:=by rfl)(hs2:starEach [e2] X.env=[(false,eval e2 X.env)]:=by rfl) :
  PI X (.Tuple tes tk tp) (.Call (.Name "zip" p) [e1,e2] [] pos) (Jw X.K ta):=by
 intro pins s σ H R I h;refine Call_ (ld_blt I hg hm boot_zip (PyProof.Rows.callWith_type1 (thn (ha pos pins s σ H _ I h) fun us s1 ⟨vs,H1,I1,r1,q1⟩=>?_) (by rw[hs,hs2]) (by rw[hs2];rfl)));obtain⟨k1,k2,a,b,e,⟨xs,hx⟩,⟨ys,hy⟩,q⟩:=q1;subst e;obtain⟨u,w',rfl,ru,rw'⟩:=cT.two r1;cases ru;cases rw';obtain⟨its,rv,ob,_⟩:=I1.seqK hx;obtain⟨jts,rv2,oc,_⟩:=I1.seqK hy;refine call_zipK ob oc fun h' hz hTI hTO it1 it2 hk=>?_;have I2:cQ X pins σ H1 { s1 with heap:=h' }:=I1.kept (t':=s1.toks) hk;have alt:=ob.lt;have blt:=oc.lt;generalize hn:s1.heap.objs.size=n at hz hTI hTO it1 it2 alt blt;refine wpAny_pyIter_zip hz ⟨_,_,_,_,H1,rfl,I2,Bl (k1:=k1) (k2:=k2) a b (n+4) (n+2) (n+3) n (n+1)
  ⟨by simp,by simp,by simp,by simp,by simp,by simp,by simp,by simp,by simp,by simp⟩ (fun c hc=>?_),⟨hz,hTI,⟨_,_,hTO⟩,it1,it2⟩,fun c hc=>?_,q⟩
 ·have:n<=c:=by
   simp only[bt,bo,or_false] at hc;rcases hc with z|z|z|z <;> rw[z] <;> first|exact aB _|exact bH _ _
  exact⟨aR (aF alt this),aR (aF blt this)⟩
 ·have:s1.heap.objs.size<=c:=by
   rw[hn];simp only[bt,bo,or_false] at hc;rcases hc with z|z|z|z|z <;> rw[z] <;> first|exact aB _|exact bH _ _
  exact I1.fpOk this (I1.hok.fresh this)
end
end L2
namespace DL
open PySem PySem.Spec PySem.SeqAt
open L2 (V Hp St HO VK TE TT TA TS TI TG Cx cQ PE PT PA PS PSs PI PG jj jR de dY cK cC cE cT dR EP TP AP SP jQ It ib)
theorem vI:∀(xs ys:List D) (i:Nat) (d:D),(nW xs ys)[i]?=some d->∃x y,xs[i]?=some x/\ys[i]?=some y/\d=.tuple [x,y]
 |[],_,i,d,h=>by simp[nW] at h
 |_::_,[],i,d,h=>by simp[nW] at h
 |x::xs,y::ys,0,d,h=>by simp[nW] at h;exact⟨x,y,rfl,rfl,h.symm⟩
 | x::xs,y::ys,i+1,d,h=>by
  obtain⟨a,b,h1,h2,h3⟩:=vI xs ys i d (by simpa [nW] using h);exact⟨a,b,by simpa using h1,by simpa using h2,h3⟩
theorem vH:∀(xs ys:List D),(nW xs ys).length=min xs.length ys.length
 |[],_=>by simp[nW]
 |_::_,[]=>by simp[nW]
 |_::xs,_::ys=>by simp[nW,vH xs ys]
theorem Ca {K:Fg}{H:Hp}{M O:List Addr}{a b:Addr}{k1 k2:Bool}{ds es:List D}{vs us:List V}(h1:∀O' H',iJ M O H O' H'->ib k1 K H' a vs)(q1:Rs K H O ds vs)(h2:∀O' H',iJ M O H O' H'->ib k2 K H' b us)(q2:Rs K H O es us) :
  md K (L2.Itz K k1 k2 a b) (nW ds es) M O H:=by
 intro O2 H2 x;have g1:=h1 _ _ x;have g2:=h2 _ _ x;have p1:=q1.ext x;have p2:=q2.ext x;have l1:=p1.length;have l2:=p2.length;refine⟨fun i d e=>?_,vs,us,g1,g2,?_⟩
 ·obtain⟨dx,dy,ex,ey,rfl⟩:=vI ds es i d e;obtain⟨v,ev,rv⟩:=p1.get ex;obtain⟨u,eu,ru⟩:=p2.get ey;refine⟨⟨vs,us,v,u,g1,g2,ev,eu⟩,fun y H3 ⟨T,z1,z2,e1,hT,eH,hz1,hz2⟩=>?_⟩;subst e1 eH;have a1:=hz1 vs g1;have a2:=hz2 us g2;rw[ev] at a1;rw[eu] at a2;cases a1;cases a2;have s2:de H2 (dY H2 T (.tup [v,u])):=fun b o e=>by rw[cC (cE e hT)];exact e
  exact⟨s2,.tuple (.inl (.inl cK)) (.cons (rv.same s2) (.cons (ru.same s2) .nil))⟩
 ·rw[vH];omega
theorem iJ.back {M O O':List Addr}{H H1 H':Hp}(s:de H H1)(x:iJ M O H1 O' H'):iJ M O H O' H' :=
 ⟨fun b _ e=>x.tup b _ (s b _ e),fun b _ _ e=>x.frz b _ _ (s b _ e),fun b _ n e=>x.lst b _ n (s b _ e),fun b _ n e=>x.ext b _ n (s b _ e),fun b hb=>(x.new b hb).elim .inl fun z=>.inr (s.free z),x.sub⟩
section
variable {X:Cx}{e1 e2:Expr}{f g:AD}{p pos tp:Pos}{tes:List Expr}{tk:Nat}
theorem Cz (hm:X.mg "zip" = none)(h1:DQ X e1 f)(h2:DQ X e2 g)(hg:L2.Gl X "zip" := by rfl)(hs:starEach [e1,e2] X.env=[(false,eval e1 X.env),(false,eval e2 X.env)]:=by rfl)(hs2:starEach [e2] X.env=[(false,eval e2 X.env)]:=by rfl) :
  DI X (.Tuple tes tk tp) (.Call (.Name "zip" p) [e1,e2] [] pos) (wU f g):=by
 have pa:PA X [e1,e2] (L2.tCons (uQ X.K f) (L2.tCons (uQ X.K g) L2.tNil)):=L2.pa_cons h1 (L2.pa_cons h2 L2.pa_nil hs2) (by rw[hs,hs2]);refine (L2.pi_zip hg hm pa hs hs2).imp fun σ H Q zz=>?_;obtain ⟨ρ,O,M,lad,zs,hE,hf,k⟩:=zz;unfold wU at hf;obtain⟨ds,hr,hf⟩:=Option.bind_eq_some_iff.mp hf;cases hr2:g ρ with
 |none=>rw[hr2] at hf;cases hf
 |some es =>
  rw[hr2,av] at hf;cases hf;refine⟨ρ,O,M,lad,ds,hE,hr,fun v H1 k1 s1 ⟨a,vs,ev,qs1,g1⟩=>⟨ρ,O,M,lad,es,hE.same s1,hr2,fun u H2 k2 s2 ⟨b,us,eu,qs2,g2⟩=>?_⟩⟩;subst ev eu;have i2:=iJ.id M O H2 ((hE.same s1).same s2).sub;exact⟨k1,k2,a,b,rfl,⟨vs,g1 _ _ (i2.back s2)⟩,⟨us,g2 _ _ i2⟩,k _ H2 (s1.trans s2) (Ca (fun O' H' x=>g1 O' H' (x.back s2)) (qs1.same s2) (fun O' H' x=>g2 O' H' x) qs2)⟩
end
end DL
namespace L2
open PySem PySem.Spec PyProof.Rows
abbrev eU (h:Heap)(T:Addr)(a b c:Value):Prop:=h.get? T=some { cls:=.type "tuple", data:=.seq #[a,b,c] }
structure GZ (z TI TO i1 i2 i3:Addr):Prop where
 zp:Fo z TI TO i1 i2
 c1:i3≠z
 c2:TI≠i3
 c3:TO≠i3
 c4:i1≠i3
 c5:i2≠i3
section
variable {prog:Program}{w:World}{A:Around}{E:Value->Shared->Prop}{s:Shared}
theorem me {T:Addr}{a b c x:Value}{k:Nat}{Q:Unit->Shared->Prop}(hT:eU s.heap T a b c)
  (h:∀h',h'.get? T=some { cls:=.type "tuple", data:=.seq ((#[a,b,c]:Array Value).setIfInBounds k x) }->Heap.SameBut T s.heap h'->Q () { s with heap:=h' }) :
  wpAny (model prog w) A (updateSeq T (·.setIfInBounds k x)) Q E s:=by
 refine wpAny_updateSeq hT rfl (h _ ?_ (Heap.SameBut.update ..));rw[Heap.get?_update_self _ hT rfl];simp[Obj.mapSeq]
end
section
variable {prog:Program}{w:World}{A:Around}{E:Value->Shared->Prop}{s:Shared}{z TI TO i1 i2 i3:Addr}{n1 n2 n3 k:Nat}{fp1 fp2 fp3:List Addr}{P1 P2 P3:Nat->Value->Prop}{S1 S2 S3:Nat->Heap->Prop}
theorem Bf {a b c:Value}{Q:Value->Shared->Prop}(Z:GZ z TI TO i1 i2 i3)(D1:Draws prog w A i1 fp1 n1 P1 S1)(D2:Draws prog w A i2 fp2 n2 P2 S2)(D3:Draws prog w A i3 fp3 n3 P3 S3)
  (f1:z∉fp1/\TO∉fp1/\i2∉fp1/\i3∉fp1) (f2:z∉fp2/\TO∉fp2/\i1∉fp2/\i3∉fp2) (f3:z∉fp3/\TO∉fp3/\i1∉fp3/\i2∉fp3)
  (hz:IsZip s.heap z TI TO .none) (hTI:eU s.heap TI (.ref i1) (.ref i2) (.ref i3)) (hTO:eU s.heap TO a b c) (t1:S1 k s.heap) (t2:S2 k s.heap) (t3:S3 k s.heap) (l1:k<n1) (l2:k<n2) (l3:k<n3)
  (hQ:∀x y v h' tk,P1 k x->P2 k y->P3 k v->IsZip h' z TI TO (rawInt s.heap.objs.size)->eU h' TO x y v->S1 (k+1) h'->S2 (k+1) h'->S3 (k+1) h'->eU h' s.heap.objs.size x y v →
   (∀c o,c≠z->c≠TO->c≠i1->c≠i2->c≠i3->s.heap.get? c=some o->h'.get? c=some o)->Q (.ref s.heap.objs.size) { s with heap:=h',toks:=tk }) :
  wpAny (model prog w) A (Builtin.«zip.__next__» ⟨[.ref z],[]⟩) (fun fin s'=>∃v,fin=.done (.ret v)/\Q v s') E s:=by
 show wpAny _ _ (field (.ref z) 2>>=_) _ _ _;refine ab (aZ hz rfl (x:=.bool false) rfl ?_);show wpAny _ _ (field (.ref z) 3>>=_) _ _ _;refine ab (aZ hz rfl (x:=.ref TI) rfl ?_);refine ab (wpAny_seqItems hTI rfl ?_);show wpAny _ _ (Builtin.SmallTypes.ownedTupleIsFree (.ref z)>>=_) _ _ _;refine ab ?_;unfold Builtin.SmallTypes.ownedTupleIsFree;refine ab (aZ hz rfl (x:=.none) rfl (aq ?_));simp only[if_true];refine ab (wpAny_rule ?_);refine ab (aZ hz rfl (x:=.ref TO) rfl ?_);refine ab (aW hz (by simp) fun g1 hz1 e1=>?_);have hz1':IsZip g1 z TI TO .ellipsis:=hz1;refine ab ?_;simp only[JH,JU,bV,JG];refine ab (ab (wpAny_onRaise ?_));show wpAny _ _ (Builtin.SmallTypes.nextOf (.ref i1)>>=_) _ _ _;have t1':S1 k g1:=D1.frame _ _ _ t1 fun c hc o q=>e1.extBut c o (fun w'=>f1.1 (w'▸hc)) q;refine ab (D1.item k _ _ _ l1 t1' fun x g2 tk2 px u1 e2=>aq ?_);have hTO2:eU g2 TO a b c:=e2.extBut _ _ Z.zp.a8 (e1.extBut _ _ Z.zp.a2 hTO);refine ab (wpAny_seqItems hTO2 rfl ?_);refine ab (me hTO2 fun g3 hTO3 e3=>?_);have hTO3':eU g3 TO x b c:=hTO3;refine ab (wpAny_letGo (aq ?_));refine ab (ab (wpAny_onRaise ?_));show wpAny _ _ (Builtin.SmallTypes.nextOf (.ref i2)>>=_) _ _ _;have t2':S2 k g3:=D2.frame _ _ _ t2 fun c hc o q=>e3.extBut c o (fun w'=>f2.2.1 (w'▸hc)) (e2.extBut c o (fun w'=>f2.2.2.1 (w'▸hc)) (e1.extBut c o (fun w'=>f2.1 (w'▸hc)) q));refine ab (D2.item k _ _ _ l2 t2' fun y g4 tk4 py u2 e4=>aq ?_);have hTO4:eU g4 TO x b c:=e4.extBut _ _ Z.zp.a9 hTO3';refine ab (wpAny_seqItems hTO4 rfl ?_);refine ab (me hTO4 fun g5 hTO5 e5=>?_);have hTO5':eU g5 TO x y c:=hTO5;refine ab (wpAny_letGo (aq ?_));refine ab (ab (wpAny_onRaise ?_));show wpAny _ _ (Builtin.SmallTypes.nextOf (.ref i3)>>=_) _ _ _;have t3':S3 k g5:=D3.frame _ _ _ t3 fun c hc o q=>e5.extBut c o (fun w'=>f3.2.1 (w'▸hc)) (e4.extBut c o (fun w'=>f3.2.2.2 (w'▸hc)) (e3.extBut c o (fun w'=>f3.2.1 (w'▸hc)) (e2.extBut c o (fun w'=>f3.2.2.1 (w'▸hc)) (e1.extBut c o (fun w'=>f3.1 (w'▸hc)) q))));refine ab (D3.item k _ _ _ l3 t3' fun v g5a tk5 pv u3 e5a=>aq ?_);have hTO5a:eU g5a TO x y c:=e5a.extBut _ _ Z.c3 hTO5';refine ab (wpAny_seqItems hTO5a rfl ?_);refine ab (me hTO5a fun g5b hTO5b e5b=>?_);have hTO5b':eU g5b TO x y v:=hTO5b;refine ab (wpAny_letGo (aq (aq ?_)));refine ab (wpAny_seqItems hTO5b' rfl ?_);refine ab (wpAny_newTuple ?_);have hsz:g5b.objs.size=s.heap.objs.size:=by rw[e5b.1,e5a.1,e5.1,e4.1,e3.1,e2.1,e1.1]
 have hz5:IsZip g5b z TI TO .ellipsis:=e5b.extBut _ _ Z.zp.a2.symm (e5a.extBut _ _ Z.c1.symm (e5.extBut _ _ Z.zp.a2.symm (e4.extBut _ _ Z.zp.a4.symm (e3.extBut _ _ Z.zp.a2.symm (e2.extBut _ _ Z.zp.a3.symm hz1')))));have hk5:∀c o,c≠z->c≠TO->c≠i1->c≠i2->c≠i3->s.heap.get? c=some o->g5b.get? c=some o:=fun c o c1 c2 c3 c4 c5 q =>
  e5b.extBut _ _ c2 (e5a.extBut _ _ c5 (e5.extBut _ _ c2 (e4.extBut _ _ c4 (e3.extBut _ _ c2 (e2.extBut _ _ c3 (e1.extBut _ _ c1 q))))))
 have v1:S1 (k+1) g5b:=D1.frame _ _ _ u1 fun c hc o q=>e5b.extBut c o (fun w'=>f1.2.1 (w'▸hc)) (e5a.extBut c o (fun w'=>f1.2.2.2 (w'▸hc)) (e5.extBut c o (fun w'=>f1.2.1 (w'▸hc)) (e4.extBut c o (fun w'=>f1.2.2.1 (w'▸hc)) (e3.extBut c o (fun w'=>f1.2.1 (w'▸hc)) q))));have v2:S2 (k+1) g5b:=D2.frame _ _ _ u2 fun c hc o q=>e5b.extBut c o (fun w'=>f2.2.1 (w'▸hc)) (e5a.extBut c o (fun w'=>f2.2.2.2 (w'▸hc)) (e5.extBut c o (fun w'=>f2.2.1 (w'▸hc)) q));have v3:S3 (k+1) g5b:=D3.frame _ _ _ u3 fun c hc o q=>e5b.extBut c o (fun w'=>f3.2.1 (w'▸hc)) q;have zlt:z<g5b.objs.size:=aC hz5;show wpAny _ _ (Builtin.SmallTypes.ownedTupleHandOut (.ref z) (.ref g5b.objs.size)>>=_) _ _ _;refine ab ?_;unfold Builtin.SmallTypes.ownedTupleHandOut;have hz6:IsZip (g5b.push { cls:=.type "tuple", data:=.seq #[x,y,v] }) z TI TO .ellipsis:=ae _ hz5;refine ab (aW hz6 (by simp) fun g7 hz7 e7=>?_);have hz7':IsZip g7 z TI TO (rawInt g5b.objs.size):=hz7;refine aW hz7' (by simp) fun g8 hz8 e8=>?_;have hz8':IsZip g8 z TI TO (rawInt g5b.objs.size):=hz8;have up:∀c o,c≠z->g5b.get? c=some o->g8.get? c=some o:=fun c o c1 q=>e8.extBut _ _ c1 (e7.extBut _ _ c1 (ae _ q));have hT8:eU g8 g5b.objs.size x y v:=e8.extBut _ _ (bq zlt) (e7.extBut _ _ (bq zlt) (aG _ rfl));rw[hsz] at hz8' hT8;refine aq ⟨_,rfl,?_⟩;show Q (.ref g5b.objs.size) _;rw[hsz];exact hQ x y v g8 _ px py pv hz8' (up _ _ Z.zp.a2 hTO5b') (D1.frame _ _ _ v1 fun c hc o q=>up c o (fun w'=>f1.1 (w'▸hc)) q) (D2.frame _ _ _ v2 fun c hc o q=>up c o (fun w'=>f2.1 (w'▸hc)) q) (D3.frame _ _ _ v3 fun c hc o q=>up c o (fun w'=>f3.1 (w'▸hc)) q) hT8 fun c o c1 c2 c3 c4 c5 q=>up c o c1 (hk5 c o c1 c2 c3 c4 c5 q)
theorem C7 {a b c:Value}{Q:Fin->Shared->Prop}(Z:GZ z TI TO i1 i2 i3)(D1:Draws prog w A i1 fp1 n1 P1 S1)(D2:Draws prog w A i2 fp2 n2 P2 S2)(D3:Draws prog w A i3 fp3 n3 P3 S3)
  (f1:z∉fp1/\TO∉fp1/\i2∉fp1/\i3∉fp1) (f2:z∉fp2/\TO∉fp2/\i1∉fp2/\i3∉fp2) (f3:z∉fp3/\TO∉fp3/\i1∉fp3/\i2∉fp3)
  (hz:IsZip s.heap z TI TO .none) (hTI:eU s.heap TI (.ref i1) (.ref i2) (.ref i3)) (hTO:eU s.heap TO a b c) (t1:S1 k s.heap) (t2:S2 k s.heap) (t3:S3 k s.heap) (hend:k=n1\/(k<n1/\k=n2)\/(k<n1/\k<n2/\k=n3))
  (hE:∀h' tk e,(∀c o,c≠z->c≠TO->c≠i1->c≠i2->c≠i3->s.heap.get? c=some o->h'.get? c=some o)->(∃o,h'.get? e=some o/\o.cls=.type "StopIteration")->E (.ref e) { s with heap:=h',toks:=tk }) :
  wpAny (model prog w) A (Builtin.«zip.__next__» ⟨[.ref z],[]⟩) Q E s:=by
 show wpAny _ _ (field (.ref z) 2>>=_) _ _ _;refine ab (aZ hz rfl (x:=.bool false) rfl ?_);show wpAny _ _ (field (.ref z) 3>>=_) _ _ _;refine ab (aZ hz rfl (x:=.ref TI) rfl ?_);refine ab (wpAny_seqItems hTI rfl ?_);show wpAny _ _ (Builtin.SmallTypes.ownedTupleIsFree (.ref z)>>=_) _ _ _;refine ab ?_;unfold Builtin.SmallTypes.ownedTupleIsFree;refine ab (aZ hz rfl (x:=.none) rfl (aq ?_));simp only[if_true];refine ab (wpAny_rule ?_);refine ab (aZ hz rfl (x:=.ref TO) rfl ?_);refine ab (aW hz (by simp) fun g1 hz1 e1=>?_);have hz1':IsZip g1 z TI TO .ellipsis:=hz1;refine ab ?_;simp only[JH,JU,bV,JG];refine ab (ab (wpAny_onRaise ?_));show wpAny _ _ (Builtin.SmallTypes.nextOf (.ref i1)>>=_) _ _ _;have t1':S1 k g1:=D1.frame _ _ _ t1 fun c hc o q=>e1.extBut c o (fun w'=>f1.1 (w'▸hc)) q;rcases hend with rfl|⟨l1,rfl⟩|⟨l1,l2,rfl⟩
 ·refine ab (D1.done _ _ _ t1' fun g2 ex e2 he=>?_);obtain⟨oe,hoe,hce⟩:=he;have hz2:IsZip g2 z TI TO .ellipsis:=e2 _ _ Z.zp.a3.symm hz1';have hez:ex≠z:=fun q=>by rw[q,hz2] at hoe;cases hoe;simp at hce
  exact aW hz2 (by simp) fun g3 _ e3=>hE g3 _ ex (fun c o c1 _ c3 _ _ q=>e3.extBut _ _ c1 (e2 _ _ c3 (e1.extBut _ _ c1 q))) ⟨oe,e3.extBut _ _ hez hoe,hce⟩
 ·refine ab (D1.item k _ _ _ l1 t1' fun x g2 tk2 px u1 e2=>aq ?_);have hTO2:eU g2 TO a b c:=e2.extBut _ _ Z.zp.a8 (e1.extBut _ _ Z.zp.a2 hTO);refine ab (wpAny_seqItems hTO2 rfl ?_);refine ab (me hTO2 fun g3 hTO3 e3=>?_);refine ab (wpAny_letGo (aq ?_));refine ab (ab (wpAny_onRaise ?_));show wpAny _ _ (Builtin.SmallTypes.nextOf (.ref i2)>>=_) _ _ _;have t2':S2 k g3:=D2.frame _ _ _ t2 fun c hc o q=>e3.extBut c o (fun w'=>f2.2.1 (w'▸hc)) (e2.extBut c o (fun w'=>f2.2.2.1 (w'▸hc)) (e1.extBut c o (fun w'=>f2.1 (w'▸hc)) q));refine ab (D2.done _ _ _ t2' fun g4 ex e4 he=>?_);obtain⟨oe,hoe,hce⟩:=he;have hz4:IsZip g4 z TI TO .ellipsis:=e4 _ _ Z.zp.a4.symm (e3.extBut _ _ Z.zp.a2.symm (e2.extBut _ _ Z.zp.a3.symm hz1'));have hez:ex≠z:=fun q=>by rw[q,hz4] at hoe;cases hoe;simp at hce
  exact aW hz4 (by simp) fun g5 _ e5=>hE g5 _ ex (fun c o c1 c2 c3 c4 _ q=>e5.extBut _ _ c1 (e4 _ _ c4 (e3.extBut _ _ c2 (e2.extBut _ _ c3 (e1.extBut _ _ c1 q))))) ⟨oe,e5.extBut _ _ hez hoe,hce⟩
 ·refine ab (D1.item k _ _ _ l1 t1' fun x g2 tk2 px u1 e2=>aq ?_);have hTO2:eU g2 TO a b c:=e2.extBut _ _ Z.zp.a8 (e1.extBut _ _ Z.zp.a2 hTO);refine ab (wpAny_seqItems hTO2 rfl ?_);refine ab (me hTO2 fun g3 hTO3 e3=>?_);have hTO3':eU g3 TO x b c:=hTO3;refine ab (wpAny_letGo (aq ?_));refine ab (ab (wpAny_onRaise ?_));show wpAny _ _ (Builtin.SmallTypes.nextOf (.ref i2)>>=_) _ _ _;have t2':S2 k g3:=D2.frame _ _ _ t2 fun c hc o q=>e3.extBut c o (fun w'=>f2.2.1 (w'▸hc)) (e2.extBut c o (fun w'=>f2.2.2.1 (w'▸hc)) (e1.extBut c o (fun w'=>f2.1 (w'▸hc)) q));refine ab (D2.item k _ _ _ l2 t2' fun y g4 tk4 py u2 e4=>aq ?_);have hTO4:eU g4 TO x b c:=e4.extBut _ _ Z.zp.a9 hTO3';refine ab (wpAny_seqItems hTO4 rfl ?_);refine ab (me hTO4 fun g5 hTO5 e5=>?_);refine ab (wpAny_letGo (aq ?_));refine ab (ab (wpAny_onRaise ?_));show wpAny _ _ (Builtin.SmallTypes.nextOf (.ref i3)>>=_) _ _ _;have t3':S3 k g5:=D3.frame _ _ _ t3 fun c hc o q=>e5.extBut c o (fun w'=>f3.2.1 (w'▸hc)) (e4.extBut c o (fun w'=>f3.2.2.2 (w'▸hc)) (e3.extBut c o (fun w'=>f3.2.1 (w'▸hc)) (e2.extBut c o (fun w'=>f3.2.2.1 (w'▸hc)) (e1.extBut c o (fun w'=>f3.1 (w'▸hc)) q))));refine ab (D3.done _ _ _ t3' fun g6 ex e6 he=>?_);obtain⟨oe,hoe,hce⟩:=he;have hz6:IsZip g6 z TI TO .ellipsis:=e6 _ _ Z.c1.symm (e5.extBut _ _ Z.zp.a2.symm (e4.extBut _ _ Z.zp.a4.symm (e3.extBut _ _ Z.zp.a2.symm (e2.extBut _ _ Z.zp.a3.symm hz1'))));have hez:ex≠z:=fun q=>by rw[q,hz6] at hoe;cases hoe;simp at hce
  exact aW hz6 (by simp) fun g7 _ e7=>hE g7 _ ex (fun c o c1 c2 c3 c4 c5 q=>e7.extBut _ _ c1 (e6 _ _ c5 (e5.extBut _ _ c2 (e4.extBut _ _ c4 (e3.extBut _ _ c2 (e2.extBut _ _ c3 (e1.extBut _ _ c1 q))))))) ⟨oe,e7.extBut _ _ hez hoe,hce⟩
end
noncomputable abbrev Dd (h:Heap)(k1 k2 k3:Bool)(l1 l2 l3:Addr):Heap:=(ES h k1 k2 l1 l2).push (nq k3 l3)
noncomputable abbrev Dc (h:Heap)(k1 k2 k3:Bool)(l1 l2 l3:Addr):Heap:=(Dd h k1 k2 k3 l1 l2 l3).push { cls:=.type "tuple", data:=.seq #[.ref h.objs.size,.ref (Fw h k1 l1).objs.size,.ref (ES h k1 k2 l1 l2).objs.size] }
noncomputable abbrev C9 (h:Heap)(k1 k2 k3:Bool)(l1 l2 l3:Addr):Heap:=(Dc h k1 k2 k3 l1 l2 l3).push { cls:=.type "tuple", data:=.seq #[.none,.none,.none] }
noncomputable abbrev xC (h:Heap)(k1 k2 k3:Bool)(l1 l2 l3:Addr):Heap:=(C9 h k1 k2 k3 l1 l2 l3).push { cls:=.type "zip", data:=.fields #[.none,.bool false,.bool false,.ref (Dd h k1 k2 k3 l1 l2 l3).objs.size,.ref (Dc h k1 k2 k3 l1 l2 l3).objs.size] }
set_option maxHeartbeats 4000000 in
set_option maxRecDepth 100000 in
theorem zW (k1 k2 k3:Bool)(l1 l2 l3:Addr)(xs ys zs:Array Value) :
  Meets (Builtin.«zip.__new__» ⟨[.type "zip", .ref l1,.ref l2,.ref l3],[]⟩) (fun _ R s=>j3 k1 s.heap l1 xs/\j3 k2 s.heap l2 ys/\j3 k3 s.heap l3 zs ∧
   R (.ok (.ret (.ref (C9 s.heap k1 k2 k3 l1 l2 l3).objs.size))) { s with heap:=xC s.heap k1 k2 k3 l1 l2 l3 }) :=
 .of_wp fun prog w A R s h=>by
  obtain⟨hp,g,d,tk,os⟩:=s;obtain⟨o1,o2,o3,h⟩:=h;have hsub:=sub_zip;have q1:j3 k1 (Shared.heap ⟨hp,g,d,tk,os⟩) l1 xs:=o1;have q2:j3 k2 (Shared.heap ⟨hp.push (nq k1 l1),g,d,tk,os⟩) l2 ys:=j3.at o2 fun o e=>ae _ e;have q3:j3 k3 (Shared.heap ⟨(hp.push (nq k1 l1)).push (nq k2 l2),g,d,tk,os⟩) l3 zs:=j3.at o3 fun o e=>ae _ (ae _ e)
  wp_walk using wM q1,wM q2,wM q3
  exact⟨_,rfl,h⟩
theorem sg (a b c:Value):checkTypeCall "zip" ⟨[a,b,c],[]⟩=pure ():=by kernel_rfl
theorem uy (a b c:Value):checkBuiltinCall "zip.__new__" ⟨[.type "zip", a,b,c],[]⟩=pure ():=by kernel_rfl
section
variable {prog:Program}{w:World}{A:Around}{E:Value->Shared->Prop}{s:Shared}
theorem yK {k1 k2 k3:Bool}{l1 l2 l3:Addr}{xs ys zs:Array Value}{Q:Value->Shared->Prop}(o1:j3 k1 s.heap l1 xs)(o2:j3 k2 s.heap l2 ys)(o3:j3 k3 s.heap l3 zs)
  (h:∀h',IsZip h' (s.heap.objs.size+5) (s.heap.objs.size+3) (s.heap.objs.size+4) .none->eU h' (s.heap.objs.size+3) (.ref s.heap.objs.size) (.ref (s.heap.objs.size+1)) (.ref (s.heap.objs.size+2)) →
   eU h' (s.heap.objs.size+4) .none .none .none->ItK k1 h' s.heap.objs.size l1 0->ItK k2 h' (s.heap.objs.size+1) l2 0->ItK k3 h' (s.heap.objs.size+2) l3 0->(∀c o,s.heap.get? c=some o->h'.get? c=some o)->Q (.ref (s.heap.objs.size+5)) { s with heap:=h' }) :
  wpAny (model prog w) A (call (.type "zip") [.ref l1,.ref l2,.ref l3]) Q E s:=by
 refine callType_new F.called_zip (by decide) (sg _ _ _) (uy _ _ _) (fun obj=>by kernel_rfl) F.entry_zip_new (zW k1 k2 k3 l1 l2 l3 xs ys zs) ⟨o1,o2,o3,?_⟩;have y1:(Fw s.heap k1 l1).objs.size=s.heap.objs.size+1:=br ..;have y2:(ES s.heap k1 k2 l1 l2).objs.size=s.heap.objs.size+2:=by rw[br,y1]
 have y3:(Dd s.heap k1 k2 k3 l1 l2 l3).objs.size=s.heap.objs.size+3:=by rw[br,y2]
 have y4:(Dc s.heap k1 k2 k3 l1 l2 l3).objs.size=s.heap.objs.size+4:=by rw[br,y3]
 have y5:(C9 s.heap k1 k2 k3 l1 l2 l3).objs.size=s.heap.objs.size+5:=by rw[br,y4]
 have r6:(xC s.heap k1 k2 k3 l1 l2 l3).get? (C9 s.heap k1 k2 k3 l1 l2 l3).objs.size=some _:=aG _ rfl;have r5:(xC s.heap k1 k2 k3 l1 l2 l3).get? (Dc s.heap k1 k2 k3 l1 l2 l3).objs.size=some _:=ae _ (aG _ rfl);have r4:(xC s.heap k1 k2 k3 l1 l2 l3).get? (Dd s.heap k1 k2 k3 l1 l2 l3).objs.size=some _:=ae _ (ae _ (aG _ rfl));have r3:(xC s.heap k1 k2 k3 l1 l2 l3).get? (ES s.heap k1 k2 l1 l2).objs.size=some (nq k3 l3):=ae _ (ae _ (ae _ (aG _ rfl)));have r2:(xC s.heap k1 k2 k3 l1 l2 l3).get? (Fw s.heap k1 l1).objs.size=some (nq k2 l2):=ae _ (ae _ (ae _ (ae _ (aG _ rfl))));have r1:(xC s.heap k1 k2 k3 l1 l2 l3).get? s.heap.objs.size=some (nq k1 l1):=ae _ (ae _ (ae _ (ae _ (ae _ (aG _ rfl)))));have itk:∀(kd:Bool) (hh:Heap) (it l:Addr),hh.get? it=some (nq kd l)->ItK kd hh it l 0:=fun kd hh it l q=>by
  cases kd
  ·exact⟨_,q,rfl,rfl⟩
  ·exact⟨_,q,rfl,rfl⟩
 show _/\_;rw[y3,y4,y5] at r6;rw[y1,y2,y3] at r4;rw[y4] at r5;rw[y2] at r3;rw[y1] at r2;rw[y5];exact⟨⟨_,r6,rfl⟩,h _ r6 r4 r5 (itk _ _ _ _ r1) (itk _ _ _ _ r2) (itk _ _ _ _ r3) fun c o x =>
  ae _ (ae _ (ae _ (ae _ (ae _ (ae _ x)))))⟩
end
noncomputable def Itz3 (K:PySem.W.Frag)(k1 k2 k3:Bool)(a b c:Addr):It :=
  ⟨fun i H=>∃xs ys zs x y z,ib k1 K H a xs/\ib k2 K H b ys/\ib k3 K H c zs/\xs[i]?=some x/\ys[i]?=some y/\zs[i]?=some z,
   fun i H v H'=>∃T x y z,v=.ref T/\H T=none/\H'=dY H T (.tup [x,y,z])/\(∀xs,ib k1 K H a xs->xs[i]?=some x)/\(∀ys,ib k2 K H b ys->ys[i]?=some y)/\∀zs,ib k3 K H c zs->zs[i]?=some z,
   fun i H=>∃xs ys zs,ib k1 K H a xs/\ib k2 K H b ys/\ib k3 K H c zs/\(xs.length=i\/(i<xs.length/\ys.length=i)\/(i<xs.length/\i<ys.length/\zs.length=i))⟩
theorem IP:(3:Nat)<=sizeLine:=by decide
theorem z6 {P:Program}{w:World}{K:PySem.W.Frag}{tes:List Expr}{tk:Nat}{tp:Pos}{k1 k2 k3:Bool}(a b c z TI TO i1 i2 i3:Addr)(Z:GZ z TI TO i1 i2 i3)(fa:∀d∈[z,TO,i1,i2,i3],a≠d/\b≠d/\c≠d) :
  Turn P w K (.Tuple tes tk tp) (Itz3 K k1 k2 k3 a b c) [z,TI,TO,i1,i2,i3] z (fun i h=>IsZip h z TI TO .none/\eU h TI (.ref i1) (.ref i2) (.ref i3)/\(∃x y v,eU h TO x y v)/\ItK k1 h i1 a i/\ItK k2 h i2 b i/\ItK k3 h i3 c i) where
 mem:=by simp
 obj:=fun i h ⟨q1,q2,⟨x,y,v,q3⟩,q4,q5,q6⟩ d hd=>by
  simp only[bt,bo,or_false] at hd;rcases hd with rfl|rfl|rfl|rfl|rfl|rfl
  ·exact⟨_,q1,fun v w'=>by cases w'⟩
  ·exact⟨_,q2,fun v w'=>by cases w'⟩
  ·exact⟨_,q3,fun v w'=>by cases w'⟩
  ·exact q4.obj
  ·exact q5.obj
  ·exact q6.obj
 keep:=fun i h h' ⟨q1,q2,⟨x,y,v,q3⟩,q4,q5,q6⟩ k=>⟨k z (by simp) _ q1,k TI (by simp) _ q2,⟨x,y,v,k TO (by simp) _ q3⟩,q4.at fun o q=>k i1 (by simp) o q,q5.at fun o q=>k i2 (by simp) o q,q6.at fun o q=>k i3 (by simp) o q⟩
 item:=by
  rintro X hP hw hK hc i pins s σ H E I hf ⟨q1,q2,⟨ox,oy,ov,q3⟩,q4,q5,q6⟩ ⟨xs,ys,zs,vx,vy,vz,sx,sy,sz,gx,gy,gz⟩;subst hP hw hK;obtain⟨its,rv,ob,hz⟩:=I.seqK sx;obtain⟨jts,rw',oc,hz'⟩:=I.seqK sy;obtain⟨kts,rk,od,hz''⟩:=I.seqK sz;obtain⟨u,hu,ru⟩:=rv.get gx;obtain⟨v,hv,rv'⟩:=rw'.get gy;obtain⟨t,ht,rt⟩:=rk.get gz;have hi:i<its.toArray.size:=by rw[aE];exact (List.getElem?_eq_some_iff.mp hu).1
  have hj:i<jts.toArray.size:=by rw[aE];exact (List.getElem?_eq_some_iff.mp hv).1
  have hk':i<kts.toArray.size:=by rw[aE];exact (List.getElem?_eq_some_iff.mp ht).1
  have fz:=fa z (by simp);have fTO:=fa TO (by simp);have f1:=fa i1 (by simp);have f2:=fa i2 (by simp);have f3:=fa i3 (by simp);have D1:=draws_sq (prog:=X.prog) (w:=X.w) (A:=X.A.in1) (I.ok.hd hc) i1 a f1.1 its.toArray;have D2:=draws_sq (prog:=X.prog) (w:=X.w) (A:=X.A.in1) (I.ok.hd hc) i2 b f2.2.1 jts.toArray;have D3:=draws_sq (prog:=X.prog) (w:=X.w) (A:=X.A.in1) (I.ok.hd hc) i3 c f3.2.2 kts.toArray;have hT:s.TypeIs (.ref z) "zip" := ⟨_,q1,rfl⟩;have ap1:z∉[i1,a]/\TO∉[i1,a]/\i2∉[i1,a]/\i3∉[i1,a]:=⟨by simp[Z.zp.a3.symm,fz.1.symm],by simp[Z.zp.a8,fTO.1.symm],by simp[Z.zp.b1.symm,f2.1.symm],by simp[Z.c4.symm,f3.1.symm]⟩;have ap2:z∉[i2,b]/\TO∉[i2,b]/\i1∉[i2,b]/\i3∉[i2,b]:=⟨by simp[Z.zp.a4.symm,fz.2.1.symm],by simp[Z.zp.a9,fTO.2.1.symm],by simp[Z.zp.b1,f1.2.1.symm],by simp[Z.c5.symm,f3.2.1.symm]⟩;have ap3:z∉[i3,c]/\TO∉[i3,c]/\i1∉[i3,c]/\i2∉[i3,c]:=⟨by simp[Z.c1.symm,fz.2.2.symm],by simp[Z.c3,fTO.2.2.symm],by simp[Z.c4,f1.2.2.symm],by simp[Z.c5,f2.2.2.symm]⟩;unfold pyNext;refine ab (wpAny_attempt (wpAny_callSpecial?_slot (name:=Str.ofString "__next__") hT F.slot_zip_next (wpAny_call_entry F.slot_zip_next hT F.entry_zip_next
   (Bf Z D1 D2 D3 ap1 ap2 ap3 q1 q2 q3 (q4.with ob) (q5.with oc) (q6.with od) hi hj hk' fun x y r h' tk px py pr nz nTO n1 n2 n3 nT hk=>aq ?_) (F.args_zip_next_1 _))))
  have ex:x=u:=by
   have:its[i]?=some x:=by simpa using px
   rw[hu] at this;exact (Option.some.inj this).symm
  have ey:y=v:=by
   have:jts[i]?=some y:=by simpa using py
   rw[hv] at this;exact (Option.some.inj this).symm
  have er:r=t:=by
   have:kts[i]?=some r:=by simpa using pr
   rw[ht] at this;exact (Option.some.inj this).symm
  subst ex ey er;have ob':j3 k1 h' a its.toArray:=ob.at fun o q=>hk a o fz.1 fTO.1 f1.1 f2.1 f3.1 q;have oc':j3 k2 h' b jts.toArray:=oc.at fun o q=>hk b o fz.2.1 fTO.2.1 f1.2.1 f2.2.1 f3.2.1 q;have od':j3 k3 h' c kts.toArray:=od.at fun o q=>hk c o fz.2.2 fTO.2.2 f1.2.2 f2.2.2 f3.2.2 q;have nTI:eU h' TI (.ref i1) (.ref i2) (.ref i3):=hk TI _ Z.zp.a1 Z.zp.a5 Z.zp.a6 Z.zp.a7 Z.c2 q2;have lt:∀d∈[z,TI,TO,i1,i2,i3],d<s.heap.objs.size:=fun d hd=>by
   simp only[bt,bo,or_false] at hd;rcases hd with rfl|rfl|rfl|rfl|rfl|rfl
   ·exact aC q1
   ·exact aC q2
   ·exact aC q3
   ·obtain⟨o,q,_⟩:=q4.obj;exact aC q
   ·obtain⟨o,q,_⟩:=q5.obj;exact aC q
   ·obtain⟨o,q,_⟩:=q6.obj;exact aC q
  refine⟨_,rfl,?_⟩;have I1:cQ X pins σ (dY H s.heap.objs.size (.tup [vx,vy,vz])) { s with heap:=h',toks:=tk }:=by
   refine I.turnedLay (fp:=[z,TI,TO,i1,i2,i3]) (fun d o hd q=>hk d o (fun w'=>hd (by simp[w'])) (fun w'=>hd (by simp[w'])) (fun w'=>hd (by simp[w'])) (fun w'=>hd (by simp[w'])) (fun w'=>hd (by simp[w'])) q) (fun d hd=>?_) hf (aB _) ⟨IP,[x,y,r],.cons ru (.cons rv' (.cons rt .nil)),⟨_,nT,rfl,_,rfl⟩⟩;simp only[bt,bo,or_false] at hd;rcases hd with rfl|rfl|rfl|rfl|rfl|rfl
   ·exact⟨_,nz⟩
   ·exact⟨_,nTI⟩
   ·exact⟨_,nTO⟩
   ·obtain⟨o,q,_⟩:=n1.live;exact⟨o,q⟩
   ·obtain⟨o,q,_⟩:=n2.live;exact⟨o,q⟩
   ·obtain⟨o,q,_⟩:=n3.live;exact⟨o,q⟩
  have fr:H s.heap.objs.size=none:=I.hok.fresh (aB _);have fe:=hf z (by simp);refine wpAny_letOwnedTupleGo_zip (s:={ s with heap:=h',toks:=tk }) nz fun g2 nz2 hs2=>?_;have I2:cQ X pins σ (dY H s.heap.objs.size (.tup [vx,vy,vz])) { s with heap:=g2,toks:=tk } :=
   cQ.turned (s:={ s with heap:=h',toks:=tk }) (it:=z) (t':=tk) I1 (fun d o hd q=>(hs2.2 d hd).trans q) (by rw[cC (aR (lt z (by simp)))];exact fe.1) fe.2.1 fe.2.2.2.1 fe.2.2.2.2.1 fe.2.2.2.2.2
  refine⟨.ref s.heap.objs.size,_,I2,rfl,⟨_,vx,vy,vz,rfl,fr,rfl,fun zs' hy=>?_,fun zs' hy=>?_,fun zs' hy=>?_⟩,⟨nz2,(hs2.2 TI Z.zp.a1).trans nTI,⟨_,_,_,(hs2.2 TO Z.zp.a2).trans nTO⟩,(ItK.of n1 ob').at fun o q=>(hs2.2 i1 Z.zp.a3).trans q,(ItK.of n2 oc').at fun o q=>(hs2.2 i2 Z.zp.a4).trans q,(ItK.of n3 od').at fun o q=>(hs2.2 i3 Z.c1).trans q⟩,fun d hd=>?_⟩
  ·rw[I.seqK_inj hy sx];exact gx
  ·rw[I.seqK_inj hy sy];exact gy
  ·rw[I.seqK_inj hy sz];exact gz
  ·rw[cC (aR (lt d hd))];exact (hf d hd).1
 done:=by
  rintro X hP hw hK hc i pins s σ H E I hf ⟨q1,q2,⟨ox,oy,ov,q3⟩,q4,q5,q6⟩ ⟨xs,ys,zs,sx,sy,sz,hl⟩;subst hP hw hK;obtain⟨its,rv,ob,hz⟩:=I.seqK sx;obtain⟨jts,rw',oc,hz'⟩:=I.seqK sy;obtain⟨kts,rk,od,hz''⟩:=I.seqK sz;have fz:=fa z (by simp);have fTO:=fa TO (by simp);have f1:=fa i1 (by simp);have f2:=fa i2 (by simp);have f3:=fa i3 (by simp);have D1:=draws_sq (prog:=X.prog) (w:=X.w) (A:=X.A.in1) (I.ok.hd hc) i1 a f1.1 its.toArray;have D2:=draws_sq (prog:=X.prog) (w:=X.w) (A:=X.A.in1) (I.ok.hd hc) i2 b f2.2.1 jts.toArray;have D3:=draws_sq (prog:=X.prog) (w:=X.w) (A:=X.A.in1) (I.ok.hd hc) i3 c f3.2.2 kts.toArray;have hT:s.TypeIs (.ref z) "zip" := ⟨_,q1,rfl⟩;have ap1:z∉[i1,a]/\TO∉[i1,a]/\i2∉[i1,a]/\i3∉[i1,a]:=⟨by simp[Z.zp.a3.symm,fz.1.symm],by simp[Z.zp.a8,fTO.1.symm],by simp[Z.zp.b1.symm,f2.1.symm],by simp[Z.c4.symm,f3.1.symm]⟩;have ap2:z∉[i2,b]/\TO∉[i2,b]/\i1∉[i2,b]/\i3∉[i2,b]:=⟨by simp[Z.zp.a4.symm,fz.2.1.symm],by simp[Z.zp.a9,fTO.2.1.symm],by simp[Z.zp.b1,f1.2.1.symm],by simp[Z.c5.symm,f3.2.1.symm]⟩;have ap3:z∉[i3,c]/\TO∉[i3,c]/\i1∉[i3,c]/\i2∉[i3,c]:=⟨by simp[Z.c1.symm,fz.2.2.symm],by simp[Z.c3,fTO.2.2.symm],by simp[Z.c4,f1.2.2.symm],by simp[Z.c5,f2.2.2.symm]⟩;have hend:i=its.toArray.size\/(i<its.toArray.size/\i=jts.toArray.size)\/(i<its.toArray.size/\i<jts.toArray.size/\i=kts.toArray.size):=by
   rw[aE,aE,aE,<-rv.length,<-rw'.length,<-rk.length];rcases hl with z|⟨z1,z2⟩|⟨z1,z2,z3⟩
   ·exact .inl z.symm
   ·exact .inr (.inl ⟨z1,z2.symm⟩)
   ·exact .inr (.inr ⟨z1,z2,z3.symm⟩)
  unfold pyNext;refine ab (wpAny_attempt (wpAny_callSpecial?_slot (name:=Str.ofString "__next__") hT F.slot_zip_next (wpAny_call_entry F.slot_zip_next hT F.entry_zip_next (C7 Z D1 D2 D3 ap1 ap2 ap3 q1 q2 q3 (q4.with ob) (q5.with oc) (q6.with od) hend fun h' tk ex hk he=>?_) (F.args_zip_next_1 _))));obtain⟨o,ho,hce⟩:=he;refine ab (wpAny_isInstance (T := "StopIteration") (b:=true) ⟨o,ho,hce⟩ isSubtype_stop ?_);refine aq ⟨rfl,?_⟩;have hk':∀d o,d∉[z,TO,i1,i2,i3]->s.heap.get? d=some o->h'.get? d=some o:=fun d o hd q=>hk d o (fun w'=>hd (by simp[w'])) (fun w'=>hd (by simp[w'])) (fun w'=>hd (by simp[w'])) (fun w'=>hd (by simp[w'])) (fun w'=>hd (by simp[w'])) q;have sub:∀d∈[z,TO,i1,i2,i3],d∈[z,TI,TO,i1,i2,i3]:=fun d hd=>by
   simp only[bt,bo,or_false] at hd ⊢;rcases hd with z|z|z|z|z <;> simp[z]
  refine I.step (g':=s.gens) (d':=s.drawn) (ch:=[z,TO,i1,i2,i3]) (fun d hd=>?_) (fun d o _ _ hd q _=>hk' d o hd q)
   (fun d o _ _ hd q _=>⟨o.slots,hk' d o hd q⟩) (fun _ _ _ _ n=>n)
   (fun d o hd q=>⟨o,hk' d o hd q⟩) (fun _ _ e=>e) (fun _ _ _ e=>e) (fun b ps e=>⟨#[],by rw[e];simp⟩) (fun m hm=>?_) (fun d u e=>?_) I.bare
  ·obtain⟨_,f1,f2,f3,f4,f5⟩:=hf d (sub d hd);exact⟨f3,f1,f4,f5⟩
  ·obtain⟨o,es,ep,ho',r⟩:=hm;exact⟨o,es,ep,hk' _ o (fun w'=>(hf _ (sub _ w')).2.1 rfl) ho',r⟩
  ·have nf:∀d u,H d=some u->d∉[z,TO,i1,i2,i3]:=fun d u e w'=>by rw[(hf d (sub d w')).1] at e;cases e
   refine (I.hok d u e).stay (fun d' v hd q=>?_) (fun _ q=>q) fun _ _ q=>q;rcases hd with w'|w'
   ·rw[w'] at q ⊢;exact hk' d v (nf d u e) q
   ·exact hk' d' v (nf d' _ w') q
 self:=fun _ _ _ _ _ ⟨x,_⟩ h=>wpAny_pyIter_zip x h
section
variable {X:Cx}{e1 e2 e3:Expr}{p pos tp:Pos}{tes:List Expr}{tk:Nat}
noncomputable def IX (K:PySem.W.Frag)(ta:TA):TI:=fun σ H R=>ta σ H fun vs H1=>∃k1 k2 k3 a b c,vs=[.ref a,.ref b,.ref c]/\(∃xs,ib k1 K H1 a xs)/\(∃ys,ib k2 K H1 b ys)/\(∃zs,ib k3 K H1 c zs)/\R (Itz3 K k1 k2 k3 a b c) H1
theorem pi_zip3 {ta:TA}(hg:Gl X "zip")(hm:X.mg "zip" = none)(ha:PA X [e1,e2,e3] ta)(hs:starEach [e1,e2,e3] X.env=[(false,eval e1 X.env),(false,eval e2 X.env),(false,eval e3 X.env)]:=by rfl)(hs2:starEach [e2,e3] X.env=[(false,eval e2 X.env),(false,eval e3 X.env)]:=by rfl) :
  PI X (.Tuple tes tk tp) (.Call (.Name "zip" p) [e1,e2,e3] [] pos) (IX X.K ta):=by
 intro pins s σ H R I h;refine Call_ (ld_blt I hg hm boot_zip (PyProof.Rows.callWith_type1 (thn (ha pos pins s σ H _ I h) fun us s1 ⟨vs,H1,I1,r1,q1⟩=>?_) (by rw[hs,hs2]) (by rw[hs2];rfl)));obtain⟨k1,k2,k3,a,b,c,e,⟨xs,hx⟩,⟨ys,hy⟩,⟨zs,hzs⟩,q⟩:=q1;subst e;cases r1 with
 |cons ru r1 =>
  obtain⟨w',v',rfl,rw',rz'⟩:=cT.two r1;cases ru;cases rw';cases rz';obtain⟨its,rv,ob,_⟩:=I1.seqK hx;obtain⟨jts,rv2,oc,_⟩:=I1.seqK hy;obtain⟨kts,rv3,od,_⟩:=I1.seqK hzs;refine yK ob oc od fun h' hz hTI hTO it1 it2 it3 hk=>?_;have I2:cQ X pins σ H1 { s1 with heap:=h' }:=I1.kept (t':=s1.toks) hk;have alt:=ob.lt;have blt:=oc.lt;have clt:=od.lt;generalize hn:s1.heap.objs.size=n at hz hTI hTO it1 it2 it3 alt blt clt;refine wpAny_pyIter_zip hz ⟨_,_,_,_,H1,rfl,I2,z6 (k1:=k1) (k2:=k2) (k3:=k3) a b c (n+5) (n+3) (n+4) n (n+1) (n+2)
   ⟨⟨by simp,by simp,by simp,by simp,by simp,by simp,by simp,by simp,by simp,by simp⟩,by simp,by simp,by simp,by simp,by simp⟩ (fun d hd=>?_),⟨hz,hTI,⟨_,_,_,hTO⟩,it1,it2,it3⟩,fun d hd=>?_,q⟩
  ·have:n<=d:=by
    simp only[bt,bo,or_false] at hd;rcases hd with z|z|z|z|z <;> rw[z] <;> first|exact aB _|exact bH _ _
   exact⟨aR (aF alt this),aR (aF blt this),aR (aF clt this)⟩
  ·have:s1.heap.objs.size<=d:=by
    rw[hn];simp only[bt,bo,or_false] at hd;rcases hd with z|z|z|z|z|z <;> rw[z] <;> first|exact aB _|exact bH _ _
   exact I1.fpOk this (I1.hok.fresh this)
end
end L2
namespace DL
open PySem PySem.Spec PySem.SeqAt
open L2 (V Hp St HO VK TE TT TA TS TI TG Cx cQ PE PT PA PS PSs PI PG jj jR de dY cK cC cE cT dR EP TP AP SP jQ It ib)
theorem sP:∀(xs ys zs:List D) (i:Nat) (d:D),(jh xs ys zs)[i]?=some d->∃x y z,xs[i]?=some x/\ys[i]?=some y/\zs[i]?=some z/\d=.tuple [x,y,z]
 |[],_,_,i,d,h=>by simp[jh] at h
 |_::_,[],_,i,d,h=>by simp[jh] at h
 |_::_,_::_,[],i,d,h=>by simp[jh] at h
 |x::xs,y::ys,z::zs,0,d,h=>by simp[jh] at h;exact⟨x,y,z,rfl,rfl,rfl,h.symm⟩
 | x::xs,y::ys,z::zs,i+1,d,h=>by
  obtain⟨a,b,c,h1,h2,h3,h4⟩:=sP xs ys zs i d (by simpa [jh] using h);exact⟨a,b,c,by simpa using h1,by simpa using h2,by simpa using h3,h4⟩
theorem sO:∀(xs ys zs:List D),(jh xs ys zs).length=min xs.length (min ys.length zs.length)
 |[],_,_=>by simp[jh]
 |_::_,[],_=>by simp[jh]
 |_::_,_::_,[]=>by simp[jh]
 | _::xs,_::ys,_::zs=>by
  have:=sO xs ys zs;simp only[jh,aJ];omega
theorem AG {K:Fg}{H:Hp}{M O:List Addr}{a b c:Addr}{k1 k2 k3:Bool}{ds es fs:List D}{vs us ws:List V}(h1:∀O' H',iJ M O H O' H'->ib k1 K H' a vs)(q1:Rs K H O ds vs)(h2:∀O' H',iJ M O H O' H'->ib k2 K H' b us)(q2:Rs K H O es us)
  (h3:∀O' H',iJ M O H O' H'->ib k3 K H' c ws) (q3:Rs K H O fs ws):md K (L2.Itz3 K k1 k2 k3 a b c) (jh ds es fs) M O H:=by
 intro O2 H2 x;have g1:=h1 _ _ x;have g2:=h2 _ _ x;have g3:=h3 _ _ x;have p1:=q1.ext x;have p2:=q2.ext x;have p3:=q3.ext x;have l1:=p1.length;have l2:=p2.length;have l3:=p3.length;refine⟨fun i d e=>?_,vs,us,ws,g1,g2,g3,?_⟩
 ·obtain⟨dx,dy,dz,ex,ey,ez,rfl⟩:=sP ds es fs i d e;obtain⟨v,ev,rv⟩:=p1.get ex;obtain⟨u,eu,ru⟩:=p2.get ey;obtain⟨t,et,rt⟩:=p3.get ez;refine⟨⟨vs,us,ws,v,u,t,g1,g2,g3,ev,eu,et⟩,fun y H3 ⟨T,z1,z2,z3,e1,hT,eH,hz1,hz2,hz3⟩=>?_⟩;subst e1 eH;have a1:=hz1 vs g1;have a2:=hz2 us g2;have a3:=hz3 ws g3;rw[ev] at a1;rw[eu] at a2;rw[et] at a3;cases a1;cases a2;cases a3;have s2:de H2 (dY H2 T (.tup [v,u,t])):=fun b o e=>by rw[cC (cE e hT)];exact e
  exact⟨s2,.tuple (.inl (.inl cK)) (.cons (rv.same s2) (.cons (ru.same s2) (.cons (rt.same s2) .nil)))⟩
 ·rw[sO];omega
section
variable {X:Cx}{e1 e2 e3:Expr}{f g k:AD}{p pos tp:Pos}{tes:List Expr}{tk:Nat}
theorem Ez (hm:X.mg "zip" = none)(h1:DQ X e1 f)(h2:DQ X e2 g)(h3:DQ X e3 k)(hg:L2.Gl X "zip" := by rfl)(hs:starEach [e1,e2,e3] X.env=[(false,eval e1 X.env),(false,eval e2 X.env),(false,eval e3 X.env)]:=by rfl)(hs2:starEach [e2,e3] X.env=[(false,eval e2 X.env),(false,eval e3 X.env)]:=by rfl)(hs3:starEach [e3] X.env=[(false,eval e3 X.env)]:=by rfl) :
  DI X (.Tuple tes tk tp) (.Call (.Name "zip" p) [e1,e2,e3] [] pos) (wR f g k):=by
 have pa:PA X [e1,e2,e3] (L2.tCons (uQ X.K f) (L2.tCons (uQ X.K g) (L2.tCons (uQ X.K k) L2.tNil))):=L2.pa_cons h1 (L2.pa_cons h2 (L2.pa_cons h3 L2.pa_nil hs3) (by rw[hs2,hs3])) (by rw[hs,hs2]);refine (L2.pi_zip3 hg hm pa hs hs2).imp fun σ H Q zz=>?_;obtain ⟨ρ,O,M,lad,zs,hE,hf,kk⟩:=zz;unfold wR at hf;obtain⟨ds,hr,hf⟩:=Option.bind_eq_some_iff.mp hf;obtain⟨es,hr2,hf⟩:=Option.bind_eq_some_iff.mp hf;cases hr3:k ρ with
 |none=>rw[hr3] at hf;cases hf
 |some fs =>
  rw[hr3,av] at hf;cases hf;refine⟨ρ,O,M,lad,ds,hE,hr,fun v H1 k1 s1 ⟨a,vs,ev,qs1,g1⟩=>⟨ρ,O,M,lad,es,hE.same s1,hr2,fun u H2 k2 s2 ⟨b,us,eu,qs2,g2⟩=>⟨ρ,O,M,lad,fs,(hE.same s1).same s2,hr3,fun t H3 k3 s3 ⟨c,ws,et,qs3,g3⟩=>?_⟩⟩⟩;subst ev eu et;have i3:=iJ.id M O H3 (((hE.same s1).same s2).same s3).sub;have s23:=s2.trans s3;exact⟨k1,k2,k3,a,b,c,rfl,⟨vs,g1 _ _ (i3.back s23)⟩,⟨us,g2 _ _ (i3.back s3)⟩,⟨ws,g3 _ _ i3⟩,kk _ H3 (s1.trans s23)
   (AG (fun O' H' x=>g1 O' H' (x.back s23)) ((qs1.same s2).same s3) (fun O' H' x=>g2 O' H' (x.back s3)) (qs2.same s3) (fun O' H' x=>g3 O' H' x) qs3)⟩
end
end DL
namespace L2.Srt
open PySem PyProof.Rows
section
variable {prog:Program}{w:World}{A:Around}{E:Value->Shared->Prop}{s:Shared}{a₀:Array Keyed}{κ:PyProof.Rows.KeyKind}{kd:SortKind}{st:SortSt}
noncomputable abbrev Im (st:SortSt):SortSt:=SortSt.mk' oneType' (arrOf st) (pendingOf st) (gallopOf st) (failedOf st)
structure Bs (a₀:Array Keyed)(kd:SortKind)(st:SortSt):Prop where
 b:SBase a₀ (Im st)
 k:kindOf st=kd
theorem Bs.sz (B:Bs a₀ kd st):(arrOf st).size=a₀.size:=B.b.size
theorem Bs.put (B:Bs a₀ kd st){xs:Array Keyed}(p:xs.Perm (arrOf st)):Bs a₀ kd (setArr st xs):=⟨B.b.setArr p,B.k⟩
noncomputable def Cm (prog:Program)(w:World)(A:Around)(s:Shared)(κ:PyProof.Rows.KeyKind)(kd:SortKind):Prop :=
 ∀(E:Value->Shared->Prop) (x y:Value) (a b:κ.α) (Q:Bool->Shared->Prop),κ.keyOf x=some a->κ.keyOf y=some b->Q (κ.blt a b) s->wpAny (model prog w) A (keyLt' kd x y) Q E s
noncomputable abbrev ky (κ:PyProof.Rows.KeyKind)(st:SortSt)(i:Nat):κ.α:=KK κ (arrOf st) i
theorem less (C:Cm prog w A s κ kd)(O:KeysOf κ a₀)(B:Bs a₀ kd st){i j:Nat}(hi:i<a₀.size)(hj:j<a₀.size){Q:Option Bool->SortSt->Prop}(h:Q (some (κ.blt (ky κ st i) (ky κ st j))) st) :
  wpS (model prog w) A E s (ltAt' i j) Q st:=by
 obtain⟨x,p,a,e1,ka,g1⟩:=B.b.atK O hi;obtain⟨y,q,b,e2,kb,g2⟩:=B.b.atK O hj;have e1':(arrOf st)[i]?=some (x,p):=e1;have e2':(arrOf st)[j]?=some (y,q):=e2;have g1':ky κ st i=a:=g1;have g2':ky κ st j=b:=g2;rw[g1',g2'] at h;rw[ltAt'_eq];refine wpS_bind (wpS_get (show wpS _ _ _ _ (elem' (arrOf st) i>>=fun x=>elem' (arrOf st) j>>=fun y=>lt' x y) Q st from ?_));rw[elem'_eq,elem'_eq,e1',e2'];refine wpS_bind (wpS_pure (wpS_bind (wpS_pure ?_)));rw[lt'_eq];refine wpS_bind (wpS_get ?_);rw[B.k];exact wpS_bind (wpS_lift (wpAny_attempt (C _ x y a b _ ka kb ⟨rfl,wpS_pure h⟩)))
theorem Jo {xs:Array Keyed}{x:Nat}(h:SortedToK κ xs x)(h1:1<=x)(l:κ.kle (KK κ xs (x-1)) (KK κ xs x)):SortedToK κ xs (x+1):=fun i j ij jx=>by
 rcases Nat.lt_or_ge j x with z|z
 ·exact h i j ij z
 ·cases (show j=x by omega);rcases Nat.lt_or_ge i x with z'|z'
  ·exact KeyOrd.kle_trans (h i (x-1) ⋯ ⋯) l
  ·cases (show i=x by omega);exact KeyOrd.kle_refl _
theorem Ie {xs:Array Keyed}{x:Nat}(h:NonIncK κ xs x)(h1:1<=x)(l:κ.kle (KK κ xs x) (KK κ xs (x-1))):NonIncK κ xs (x+1):=fun i j ij jx=>by
 rcases Nat.lt_or_ge j x with z|z
 ·exact h i j ij z
 ·cases (show j=x by omega);rcases Nat.lt_or_ge i x with z'|z'
  ·exact KeyOrd.kle_trans l (h i (x-1) ⋯ ⋯)
  ·cases (show i=x by omega);exact KeyOrd.kle_refl _
theorem one {xs:Array Keyed}:SortedToK κ xs 1:=fun i j ij j1=>by cases (show i=j by omega);exact KeyOrd.kle_refl _
theorem CO (C:Cm prog w A s κ kd)(O:KeysOf κ a₀)(B:Bs a₀ kd st){a n:Nat}(hn:n<=a₀.size)(h1:1<=a)(an:a<=n)(hs:SortedToK κ (arrOf st) a){Q:AscSt->SortSt->Prop}
  (h:∀m,a<=m->m<=n->SortedToK κ (arrOf st) m->(m<n->κ.klt (ky κ st m) (ky κ st (m-1)))->Q (none,m) st):wpS (model prog w) A E s (ascLoop a n) Q st:=by
 unfold ascLoop;refine wpS_forRange (I:=fun x c t=>t=st/\c=(none,x)/\SortedToK κ (arrOf st) x) (fun x c t ax xn ⟨et,ec,hx⟩=>?_) (fun c t ⟨et,ec,hx⟩=>?_) ⟨rfl,rfl,hs⟩
 ·subst et ec;refine wpS_bind (less C O B ⋯ ⋯ ?_);by_cases l:κ.blt (ky κ t x) (ky κ t (x-1))=true
  ·rw[l];exact wpS_pure (h x ax ⋯ hx fun _=>l)
  ·rw[Bool.not_eq_true] at l;rw[l];exact wpS_pure ⟨rfl,rfl,Jo hx ⋯ l⟩
 ·subst et ec;rw[show max a n=n by omega] at hx ⊢;exact h n an (aB n) hx fun z=>absurd z (bu n)
abbrev Jf (κ:PyProof.Rows.KeyKind)(a₀:Array Keyed)(kd:SortKind)(n:Nat)(Q:Option Nat->SortSt->Prop):Prop:=∀m t,Bs a₀ kd t->1<=m->m<=n->SortedToK κ (arrOf t) m->Q (some m) t
theorem turned (C:Cm prog w A s κ kd)(O:KeysOf κ a₀)(B:Bs a₀ kd st){m n:Nat}(hn:n<=a₀.size)(h1:1<=m)(mn:m<=n)(hs:NonIncK κ (arrOf st) m){Q:Option Nat->SortSt->Prop}(h:Jf κ a₀ kd n Q) :
  wpS (model prog w) A E s (tail3 m n) Q st:=by
 have B':=B.put (mirror_perm (arrOf st) 0 m ((m-0)/2));have z:m<=(arrOf st).size:=by rw[B.sz];omega
 unfold tail3;refine wpS_bind (wpS_reverse (wpS_bind (CO C O B' hn h1 mn (fun i j ij jm=>?_) fun k k1 k2 k3 _=>wpS_pure (h k _ B' ⋯ k2 k3))));show κ.kle (KK κ (mirror (arrOf st) 0 m ((m-0)/2)) i) (KK κ (mirror (arrOf st) 0 m ((m-0)/2)) j);rw[KK_mirror z i,KK_mirror z j,if_pos ⟨bx _,by omega⟩,if_pos ⟨bx _,by omega⟩];exact hs _ _ ⋯ ⋯
structure G9 (κ:PyProof.Rows.KeyKind)(t:SortSt)(m q:Nat):Prop where
 dn:NonIncK κ (arrOf t) m
 q1:q+1<=m
 eq:∀i,m-(q+1)<=i->i<m->ky κ t i=ky κ t (m-1)
theorem Ia (C:Cm prog w A s κ kd)(O:KeysOf κ a₀)(B:Bs a₀ kd st){m n:Nat}(hn:n<=a₀.size)(h1:1<=m)(mn:m<=n)(hs:NonIncK κ (arrOf st) m){Q:DescSt->SortSt->Prop}
  (h:∀k q t,Bs a₀ kd t->m<=k->k<=n->G9 κ t k q->Q (none,k,q) t):wpS (model prog w) A E s (descLoop m n) Q st:=by
 unfold descLoop;have alone:∀{t:SortSt}{k:Nat},NonIncK κ (arrOf t) k->1<=k->G9 κ t k 0:=fun {t k} d k1=>⟨d,by omega,fun i i1 i2=>by rw[show i=k-1 by omega]⟩;refine wpS_forRange (I:=fun x c t=>∃q,c=(none,x,q)/\Bs a₀ kd t/\G9 κ t x q) (fun x c t mx xn ⟨q,ec,Bt,F⟩=>?_) (fun c t ⟨q,ec,Bt,F⟩=>?_) ⟨0,rfl,B,alone hs h1⟩
 ·subst ec;have z:x<=(arrOf t).size:=by rw[Bt.sz];omega
  dsimp only;refine wpS_bind (less C O Bt ⋯ ⋯ ?_);by_cases l:κ.blt (ky κ t x) (ky κ t (x-1))=true
  ·rw[l];have same:∀i,KK κ (mirror (arrOf t) (x-(q+1)) x ((x-(x-(q+1)))/2)) i=ky κ t i:=KK_mirror_equal z F.eq;dsimp only;rw[if_pos rfl];by_cases hq:q>0
   ·rw[if_pos hq];refine wpS_bind (wpS_reverse (wpS_pure ⟨0,rfl,Bt.put (mirror_perm _ _ _ _),alone (fun i j ij jx=>?_) ⋯⟩));show κ.kle (KK κ (mirror (arrOf t) _ _ _) j) (KK κ (mirror (arrOf t) _ _ _) i);rw[same,same];exact Ie F.dn ⋯ (KeyOrd.kle_of_klt l) i j ij jx
   ·rw[if_neg hq];exact wpS_pure ⟨0,rfl,Bt,alone (Ie F.dn ⋯ (KeyOrd.kle_of_klt l)) ⋯⟩
  ·rw[Bool.not_eq_true] at l;rw[l];dsimp only;rw[if_neg Bool.false_ne_true];refine wpS_bind (less C O Bt ⋯ ⋯ ?_);by_cases g:κ.blt (ky κ t (x-1)) (ky κ t x)=true
   ·rw[g];exact wpS_pure (h x q t Bt mx ⋯ F)
   ·rw[Bool.not_eq_true] at g;rw[g];have ex:ky κ t x=ky κ t (x-1):=κ.total _ _ l g;refine wpS_pure ⟨q+1,rfl,Bt,⟨Ie F.dn ⋯ g,by have:=F.q1;omega,fun i i1 i2=>?_⟩⟩;rw[Nat.add_sub_cancel,ex];rcases Nat.lt_or_ge i x with z1|z1
    ·exact F.eq i ⋯ z1
    ·rw[show i=x by omega,ex]
 ·subst ec;rw[show max m n=n by omega] at F ⊢;exact h n q t Bt mn (aB n) F
theorem H0 (C:Cm prog w A s κ kd)(O:KeysOf κ a₀)(B:Bs a₀ kd st){m n:Nat}(hn:n<=a₀.size)(mn:m+1<=n)(hs:NonIncK κ (arrOf st) (m+1)){Q:Option Nat->SortSt->Prop}(h:Jf κ a₀ kd n Q) :
  wpS (model prog w) A E s (descPart m n) Q st:=by
 unfold descPart;refine wpS_bind (wpS_lift (wpAny_rule ⟨rfl,wpS_bind (Ia C O B hn ⋯ mn hs fun k q t Bt mk kn F=>?_)⟩));have z:k<=(arrOf t).size:=by rw[Bt.sz];omega
 have same:∀i,KK κ (mirror (arrOf t) (k-(q+1)) k ((k-(k-(q+1)))/2)) i=ky κ t i:=KK_mirror_equal z F.eq;dsimp only;by_cases hq:q>0
 ·rw[if_pos hq];refine wpS_bind (wpS_reverse (turned C O (Bt.put (mirror_perm _ _ _ _)) hn ⋯ kn (fun i j ij jk=>?_) h));show κ.kle (KK κ (mirror (arrOf t) _ _ _) j) (KK κ (mirror (arrOf t) _ _ _) i);rw[same,same];exact F.dn i j ij jk
 ·rw[if_neg hq];exact turned C O Bt hn ⋯ kn F.dn h
theorem GK (C:Cm prog w A s κ kd)(O:KeysOf κ a₀)(B:Bs a₀ kd st){n:Nat}(hn:n<=a₀.size)(h1:1<=n){Q:Option Nat->SortSt->Prop}(h:Jf κ a₀ kd n Q):wpS (model prog w) A E s (countRun' 0 n) Q st:=by
 rw[countRun0_eq];refine wpS_bind (CO C O B hn (aB 1) h1 one fun m m1 mn hs hl=>?_);dsimp only;by_cases e:m=n
 ·rw[if_pos (beq_iff_eq.mpr e)];exact wpS_pure (h m st B m1 mn hs)
 ·have l:=hl ⋯;rw[if_neg (fun z=>e (beq_iff_eq.mp z))];by_cases m2:m>1
  ·rw[if_pos m2];refine wpS_bind (less C O B ⋯ ⋯ ?_);by_cases r:κ.blt (ky κ st 0) (ky κ st (m-1))=true
   ·rw[r];exact wpS_pure (h m st B m1 mn hs)
   ·rw[Bool.not_eq_true] at r;rw[r];have alike:∀i,0<=i->i<m->ky κ st i=ky κ st (m-1):=fun i _ im=>κ.total _ _ (KeyOrd.kle_trans r (hs 0 i (bx _) im)) (hs i (m-1) ⋯ ⋯);have z:m<=(arrOf st).size:=by rw[B.sz];omega
    have same:∀i,KK κ (mirror (arrOf st) 0 m ((m-0)/2)) i=ky κ st i:=KK_mirror_equal z alike;have low:NonIncK κ (arrOf st) m:=fun i j ij jm=>by rw[show KK κ (arrOf st) j=_ from alike j (bx _) jm,show KK κ (arrOf st) i=_ from alike i (bx _) ⋯];exact KeyOrd.kle_refl _
    refine wpS_bind (wpS_reverse (H0 C O (B.put (mirror_perm _ _ _ _)) hn ⋯ (fun i j ij jm=>?_) h));show κ.kle (KK κ (mirror (arrOf st) _ _ _) j) (KK κ (mirror (arrOf st) _ _ _) i);rw[same,same];exact Ie low m1 (KeyOrd.kle_of_klt l) i j ij jm
  ·rw[if_neg m2];cases (show m=1 by omega);exact H0 C O B hn ⋯ (Ie (fun i j ij j1=>by cases (show i=j by omega);exact KeyOrd.kle_refl _) (aB 1) (KeyOrd.kle_of_klt l)) h
end
section
variable {prog:Program}{w:World}{A:Around}{E:Value->Shared->Prop}{s:Shared}{a₀:Array Keyed}{κ:PyProof.Rows.KeyKind}{kd:SortKind}{st:SortSt}
structure Jh (κ:PyProof.Rows.KeyKind)(t:SortSt)(k l r:Nat):Prop where
 lr:l<=r
 rk:r<=k
 lo:∀i,i<l->κ.kle (ky κ t i) (ky κ t k)
 hi:∀i,r<=i->i<k->κ.klt (ky κ t k) (ky κ t i)
theorem Jh.slid {t:SortSt}{k l:Nat}(G:Jh κ t k l l)(hs:SortedToK κ (arrOf t) k)(z:k<(arrOf t).size):SortedToK κ (bubble (arrOf t) k (k-l)) (k+1):=fun i j ij jk=>by
 have lk:=G.rk;have at_:∀i,KK κ (bubble (arrOf t) k (k-l)) i=if i=l then ky κ t k else if l<i/\i<=k then ky κ t (i-1) else ky κ t i:=fun i=>by
  rw[KK_bubble z (Nat.sub_le k l) i,show k-(k-l)=l by omega]
 rw[at_ i,at_ j];by_cases i1:i=l
 ·rw[if_pos i1];by_cases j1:j=l
  ·rw[if_pos j1];exact KeyOrd.kle_refl _
  ·rw[if_neg j1,if_pos ⋯];exact KeyOrd.kle_of_klt (G.hi _ ⋯ ⋯)
 ·rw[if_neg i1];by_cases i2:l<i/\i<=k
  ·rw[if_pos i2,if_neg ⋯,if_pos ⋯];exact hs _ _ ⋯ ⋯
  ·rw[if_neg i2];by_cases j1:j=l
   ·rw[if_pos j1];exact G.lo i ⋯
   ·rw[if_neg j1];by_cases j2:l<j/\j<=k
    ·rw[if_pos j2];exact hs _ _ ⋯ ⋯
    ·rw[if_neg j2];exact hs _ _ ij ⋯
theorem Eo (C:Cm prog w A s κ kd)(O:KeysOf κ a₀)(B:Bs a₀ kd st){n ok:Nat}(hn:n<=a₀.size)(o1:1<=ok)(on:ok<=n)(hs:SortedToK κ (arrOf st) ok){Q:Bool->SortSt->Prop}
  (h:∀t,Bs a₀ kd t->SortedToK κ (arrOf t) n->Q true t):wpS (model prog w) A E s (binarySort' 0 n ok) Q st:=by
 rw[binarySort'_eq];simp only[bE];rw[show max ok 1=ok by omega];refine wpS_bind (wpS_forRange (I:=fun k c t=>c=(none,())/\Bs a₀ kd t/\SortedToK κ (arrOf t) k) (fun k c t ak kn ⟨ec,Bt,hk⟩=>?_) (fun c t ⟨ec,Bt,hk⟩=>?_) ⟨rfl,B,hs⟩)
 ·subst ec;have z:k<(arrOf t).size:=by rw[Bt.sz];omega
  refine wpS_bind (wpS_forRange (I:=fun x c t'=>t'=t/\∃l r,c=(none,l,r)/\r-l<=k-x/\Jh κ t k l r) (fun x c t' _ xk ⟨et,l,r,ec,d,G⟩=>?_) (fun c t' ⟨et,l,r,ec,d,G⟩=>?_)
   ⟨rfl,0,k,rfl,by omega,⟨by omega,by omega,fun i z=>absurd z (Nat.not_lt_zero i),fun i z1 z2=>absurd z2 ⋯⟩⟩)
  ·subst et ec;have lr:=G.lr;have rk:=G.rk;dsimp only;by_cases done:l ≥ r
   ·have e:l=r:=by omega
    subst e;rw[if_pos done];refine wpS_pure ?_;show wpS _ _ _ _ (moveDown' k l>>=fun _=>pure (ForInStep.yield (none,()))) _ t';rw[moveDown'_eq];exact wpS_bind (wpS_modify (wpS_pure ⟨rfl,Bt.put (bubble_perm _ _ _),G.slid hk z⟩))
   ·rw[if_neg done];refine wpS_bind (less C O Bt ⋯ ⋯ ?_);by_cases c:κ.blt (ky κ t' k) (ky κ t' ((l+r)/2))=true
    ·rw[c];exact wpS_pure ⟨rfl,l,(l+r)/2,rfl,by omega,⟨by omega,by omega,G.lo,fun i i1 i2=>KeyOrd.klt_of_klt_of_kle c (hk _ _ i1 i2)⟩⟩
    ·rw[Bool.not_eq_true] at c;rw[c];exact wpS_pure ⟨rfl,(l+r)/2+1,r,rfl,by omega,⟨by omega,rk,fun i i1=>KeyOrd.kle_trans (hk i ((l+r)/2) ⋯ ⋯) c,G.hi⟩⟩
  ·subst et ec;have lr:=G.lr;have e:l=r:=by omega
   subst e;show wpS _ _ _ _ (moveDown' k l>>=fun _=>pure (ForInStep.yield (none,()))) _ t';rw[moveDown'_eq];exact wpS_bind (wpS_modify (wpS_pure ⟨rfl,Bt.put (bubble_perm _ _ _),G.slid hk z⟩))
 ·subst ec;rw[show max ok n=n by omega] at hk;exact wpS_pure (h t Bt hk)
theorem IQ (C:Cm prog w A s κ kd)(O:KeysOf κ a₀)(B:Bs a₀ kd st)(h2:2<=a₀.size)(h64:a₀.size<64){Q:Unit->SortSt->Prop}
  (h:∀t,(arrOf t).Perm a₀->failedOf t=none->SortedToK κ (arrOf t) a₀.size->Q () t):wpS (model prog w) A E s sortRuns' Q st:=by
 have mr:minRun' a₀.size a₀.size 0=a₀.size:=by
  rw[show a₀.size=(a₀.size-1)+1 by omega,minRun'_succ,if_pos ⋯]
 rw[sortRuns'_eq];refine wpS_bind (wpS_get ?_);dsimp only;simp only[B.sz,mr];refine wpS_bind (wpS_forRange (I:=fun x c t=>(x=0/\c=(none,0)/\Bs a₀ kd t)\/(0<x/\c=(none,a₀.size)/\(arrOf t).Perm a₀/\failedOf t=none/\pendingOf t=#[(0,a₀.size,0)]/\SortedToK κ (arrOf t) a₀.size)) (fun x c t _ xn hx=>?_) (fun c t hx=>?_) (.inl ⟨rfl,rfl,B⟩))
 ·rcases hx with ⟨ex,ec,Bt⟩|⟨x0,ec,p1,p2,p3,p4⟩
  ·subst ex ec;have fin:∀t,Bs a₀ kd t->SortedToK κ (arrOf t) a₀.size->(arrOf (setPending t ((pendingOf t).push (0,a₀.size,0)))).Perm a₀/\failedOf (setPending t ((pendingOf t).push (0,a₀.size,0)))=none/\pendingOf (setPending t ((pendingOf t).push (0,a₀.size,0)))=#[(0,a₀.size,0)] ∧
     SortedToK κ (arrOf (setPending t ((pendingOf t).push (0,a₀.size,0)))) a₀.size:=fun t Bt hs=>⟨Bt.b.perm,Bt.b.failed,(by have e:pendingOf t=#[]:=Bt.b.pend;show (pendingOf t).push _=_;rw[e];rfl),hs⟩
   dsimp only;rw[if_neg ⋯];simp only[Nat.sub_zero,Nat.min_self,bE];refine wpS_bind (GK C O Bt (aB _) ⋯ fun m t2 B2 m1 mn hs2=>?_);dsimp only;by_cases lt:m<a₀.size
   ·rw[if_pos lt];refine wpS_bind (wpS_lift (wpAny_rule ⟨rfl,wpS_bind (Eo C O B2 (aB _) m1 mn hs2 fun t3 B3 hs3=>?_)⟩));simp only[Bool.not_true,Bool.false_eq_true,if_false];refine wpS_bind (wpS_get ?_);rw[show (pendingOf t3).back?=none by rw[show pendingOf t3=#[] from B3.b.pend];rfl];exact wpS_bind (wpS_modify (wpS_pure (.inr ⟨Nat.succ_pos _,rfl,fin t3 B3 hs3⟩)))
   ·cases (show m=a₀.size by omega);rw[if_neg lt];refine wpS_bind (wpS_get ?_);rw[show (pendingOf t2).back?=none by rw[show pendingOf t2=#[] from B2.b.pend];rfl];exact wpS_bind (wpS_modify (wpS_pure (.inr ⟨Nat.succ_pos _,rfl,fin t2 B2 hs2⟩)))
  ·subst ec;dsimp only;rw[if_pos (aB _)];refine wpS_pure (wpS_bind (wpS_forRange (I:=fun _ c t'=>t'=t/\c=(none,())) (fun y c t' _ _ ⟨et,ec⟩=>?_) (fun c t' ⟨et,ec⟩=>?_) ⟨rfl,rfl⟩))
   ·subst et ec;refine wpS_bind (wpS_get ?_);rw[if_pos (by rw[p3];exact aB 1)];exact wpS_pure (wpS_pure (h _ p1 p2 p4))
   ·subst et ec;exact wpS_pure (h _ p1 p2 p4)
 ·rcases hx with ⟨ex,_⟩|⟨x0,ec,p1,p2,p3,p4⟩
  ·omega
  ·subst ec;dsimp only;refine wpS_bind (wpS_forRange (I:=fun _ c t'=>t'=t/\c=(none,())) (fun y c t' _ _ ⟨et,ec⟩=>?_) (fun c t' ⟨et,ec⟩=>?_) ⟨rfl,rfl⟩)
   ·subst et ec;refine wpS_bind (wpS_get ?_);rw[if_pos (by rw[p3];exact aB 1)];exact wpS_pure (wpS_pure (h _ p1 p2 p4))
   ·subst et ec;exact wpS_pure (h _ p1 p2 p4)
end
def ll (h:Heap)(v:Value)(p:Int×Int):Prop:=∃(c:Addr) (t u:Tok),v=.ref c/\h.IsTuple c #[.int p.1 t,.int p.2 u]
theorem ll.inj {h:Heap}{v:Value}{p q:Int×Int}(x:ll h v p)(y:ll h v q):p=q:=by
 obtain⟨c,t,u,rfl,o,e,_,n,d⟩:=x;obtain⟨c',t',u',e',o',e2,_,n',d'⟩:=y;cases e';rw[e] at e2;cases e2;rw[d] at d';cases p;cases q;simp only[Data.seq.injEq] at d';have z:=congrArg Array.toList d'.1;simp only[List.cons.injEq,Value.int.injEq] at z;rw[z.1.1,z.2.1.1]
inductive Prs (h:Heap):List Value->List (Int×Int)->Prop where
 |nil:Prs h [] []
 |cons {v:Value}{p:Int×Int}{vs:List Value}{ps:List (Int×Int)}:ll h v p->Prs h vs ps->Prs h (v::vs) (p::ps)
noncomputable def pLt (p q:Int×Int):Bool:=decide (p.1<q.1\/(p.1=q.1/\p.2<q.2))
open Classical in
@[reducible] noncomputable def prKd (h:Heap):PyProof.Rows.KeyKind where
 α:=Int×Int
 blt:=pLt
 irrefl:=fun a=>by simp[pLt]
 trans:=fun a b c x y=>by simp only[pLt,decide_eq_true_eq] at *;omega
 negTrans:=fun a b c x=>by simp only[pLt,decide_eq_true_eq] at *;omega
 total:=fun a b x y=>by
  simp only[pLt,decide_eq_false_iff_not] at *;cases a;cases b;simp only[Prod.mk.injEq] at *;omega
 keyOf:=fun v=>if e:∃p,ll h v p then some e.choose else none
 dflt:=(0,0)
open Classical in
theorem key_of {h:Heap}{v:Value}{p:Int×Int}(x:ll h v p):(prKd h).keyOf v=some p:=by
 have e:∃p,ll h v p:=⟨p,x⟩;show (if e:∃p,ll h v p then some e.choose else none)=some p;rw[dif_pos e,e.choose_spec.inj x]
open Classical in
theorem BK {h:Heap}{v:Value}{p:Int×Int}(x:(prKd h).keyOf v=some p):ll h v p:=by
 have x':(if e:∃p,ll h v p then some e.choose else none)=some p:=x;split at x'
 ·rename_i e;cases x';exact e.choose_spec
 ·cases x'
section
variable {prog:Program}{w:World}{A:Around}{E:Value->Shared->Prop}{s:Shared}
theorem uJ (f:Bool)(x y:Value):keyLt' (tuples' f) x y=(Builtin.List.listItems x>>=fun xs=>Builtin.List.listItems y>>=fun ys=>do
  for ((p,q),i) in (xs.toList.zip ys.toList).zipIdx do
   if !(<-eqBool p q) then return <-oneLt' (f&&i==0) p q
  return xs.size<ys.size):=rfl
theorem xY {a b:Int}{t u:Tok}{Q:Bool->Shared->Prop}(h:Q (decide (a<b)) s):wpAny (model prog w) A (oneLt' false (.int a t) (.int b u)) Q E s:=by
 rw[oneLt'_eq];simp only[Bool.false_eq_true,if_false];exact ab (show wpAny (model prog w) A (compareOp .Lt (.int a t) (.int b u)) _ E s from lt_int (wpAny_truthy_bool h))
theorem BI {h:Heap}(k:∀v p,ll h v p->ll s.heap v p):Cm prog w A s (prKd h) (tuples' true):=by
 intro E x y a b Q hx hy q;obtain⟨c,t,u,rfl,o,e,_,n,d⟩:=k _ _ (BK hx);obtain⟨c',t',u',rfl,o',e',_,n',d'⟩:=k _ _ (BK hy);rw[uJ];refine ab (listItems_at e d (ab (listItems_at e' d' ?_)));simp only[JM,List.zip_nil_right,JH,JU,bV,JG];have q':Q (pLt a b) s:=q;refine ab (ab (ab (wpAny_eqBool_int ?_)));by_cases e1:a.1=b.1
 ·rw[show (a.1==b.1)=true from beq_iff_eq.mpr e1];refine aq (ab (ab (wpAny_eqBool_int ?_)));by_cases e2:a.2=b.2
  ·rw[show (a.2==b.2)=true from beq_iff_eq.mpr e2];have:pLt a b=false:=by simp only[pLt,decide_eq_false_iff_not];omega
   rw[this] at q';exact aq (aq (aq q'))
  ·rw[show (a.2==b.2)=false from beq_eq_false_iff_ne.mpr e2];have:pLt a b=decide (a.2<b.2):=by simp only[pLt,e1,true_and,Int.lt_irrefl,false_or]
   rw[this] at q';exact ab (xY (aq (aq (aq q'))))
 ·rw[show (a.1==b.1)=false from beq_eq_false_iff_ne.mpr e1];have:pLt a b=decide (a.1<b.1):=by simp only[pLt,e1,false_and,or_false]
  rw[this] at q';exact ab (oneLt_int (aq (aq (aq q'))))
theorem oG (v:Value):firstOfTuple' v=(typeOf v>>=fun t=>if (t != .type "tuple")=true then pure none else Builtin.List.listItems v>>=fun xs=>pure xs[0]?):=rfl
theorem Cp {v:Value}{p:Int×Int}(x:ll s.heap v p){Q:Option Value->Shared->Prop}(h:∀t,Q (some (.int p.1 t)) s):wpAny (model prog w) A (firstOfTuple' v) Q E s:=by
 obtain⟨c,t,u,rfl,o,e,hc,n,d⟩:=x;rw[oG];refine ab (wpAny_typeOf (T := "tuple") ⟨o,e,hc⟩ ?_);exact ab (listItems_at e d (aq (h t)))
theorem tG:∀{vs:List Value}{ps:List (Int×Int)},Prs s.heap vs ps->∀{Q:List (Option Value)->Shared->Prop},(∀ts:List Tok,ts.length=ps.length->Q ((ps.zip ts).map fun x=>some (.int x.1.1 x.2)) s)->wpAny (model prog w) A (vs.mapM firstOfTuple') Q E s
 |_,_,.nil,Q,h=>by rw[List.mapM_nil];exact aq (h [] rfl)
 | _,_,.cons x r,Q,h=>by
  rw[List.mapM_cons];refine ab (Cp x fun t=>ab (tG r fun ts hl=>aq ?_));exact h (t::ts) (by rw[aJ,aJ,hl])
theorem sS:∀(xs:List (Int×Tok)),(xs.map fun x=>Value.int x.1 x.2).mapM typeOf=pure (xs.map fun _=>Value.type "int")
 |[]=>by simp
 | x::xs=>by
  rw[aA,List.mapM_cons,sS xs];show (pure (Value.type "int")>>=fun b=>pure _>>=fun bs=>pure (b::bs))=_;simp
theorem Eh {vs:List Value}{ps:List (Int×Int)}(hp:Prs s.heap vs ps)(hn:ps≠[]){Q:SortKind->Shared->Prop}(h:Q (tuples' true) s):wpAny (model prog w) A (keyKind' vs.toArray) Q E s:=by
 rw[keyKind'_eq,List.mapM_toArray,<-bind_pure_comp];refine ab (ab (tG hp fun ts hl=>aq ?_));have e1:((ps.zip ts).map fun x=>some (Value.int x.1.1 x.2)).toArray.all (fun x=>x.isSome)=true:=by simp
 have e2:(((ps.zip ts).map fun x=>some (Value.int x.1.1 x.2)).toArray.filterMap id)=(((ps.zip ts).map fun x=>(x.1.1,x.2)).map fun x=>Value.int x.1 x.2).toArray:=by simp[Function.comp_def]
 rw[if_pos e1,e2];refine ab (wpAny_rule ?_);rw[oneTypeOnly'_eq,List.mapM_toArray,sS];have hne:(ps.zip ts).map (fun x=>(x.1.1,x.2))≠[]:=by
  cases ps with
  |nil=>exact absurd rfl hn
  |cons p ps =>
   cases ts with
   |nil=>cases hl
   |cons t ts=>simp
 generalize (ps.zip ts).map (fun x=>(x.1.1,x.2))=zs at hne;cases zs with
 |nil=>exact absurd rfl hne
 |cons z zs =>
  have all:((z::zs).map fun _=>Value.type "int").toArray.all (fun t=>t==Value.type "int")=true:=by simp only[List.all_toArray,List.all_map,bp];intro _ _;rfl
  simp only[map_pure,pure_bind,aA];rw[show (Value.type "int" :: zs.map fun _=>Value.type "int").toArray[0]?=some (Value.type "int") by simp];rw[aA] at all;simp only[all,if_true,pure_bind];exact aq h
end
section
variable {prog:Program}{w:World}{A:Around}{E:Value->Shared->Prop}{s:Shared}
theorem yr {l:Addr}{vs:List Value}{Q:List Value->Shared->Prop}(hl:s.heap.IsTuple l vs.toArray)(hz:vs.length<=sizeLine)
  (h:Q vs { s with heap:=(s.heap.push (seqObj "list" #[] 0)).update s.heap.objs.size (Obj.mapSeq (·++vs.toArray)) }):wpAny (model prog w) A (collect (.ref l)) Q E s:=by
 obtain⟨o,ho,hc,n,hd⟩:=hl;have at0:(s.heap.push (seqObj "list" #[] 0)).get? s.heap.objs.size=some (seqObj "list" #[] 0):=aG _ rfl;have at1:(s.heap.push (seqObj "list" #[] 0)).get? l=some o:=ae _ ho;have e0:((#[]:Array Value)++vs.toArray).toList=vs:=by simp
 unfold collect;refine ab (wpAny_runValue (codeAny_builtin entry_proto_collect' ?_));show wpAny _ _ (newList []>>=fun x=>again (.builtin "list.__iadd__" ⟨[x,.ref l],[]⟩)) _ _ s;refine ab (wpAny_newList (aq ⟨Code.quiet_builtin _ (by decide +kernel),codeAny_builtin entry_list_iadd' (show wpAny _ _ (Builtin.List.listExtendWith (.ref s.heap.objs.size) (.ref l) (.ref s.heap.objs.size)) _ _ { s with heap:=s.heap.push (seqObj "list" #[] 0) } from ?_)⟩));unfold Builtin.List.listExtendWith;refine ab (wpAny_typeOf (T := "tuple") ⟨o,at1,hc⟩ ?_);rw[if_pos (by rw[show (Value.type "tuple" == Value.type "tuple")=true from rfl,Bool.or_true])];refine ab (listItems_at at1 hd (ab (listItems_at at0 rfl ?_)));rw[if_neg (by rw[show (#[]:Array Value).isEmpty=true from rfl];simp)];refine ab (listUpdate_at at0 rfl (aq ?_) (bx _) (by rw[Array.size_append,aE];simp only[aE,bU];omega));refine ab (wpAny_load (get?_update_seq at0 _) (show wpAny _ _ (pure ((#[]:Array Value)++vs.toArray).toList) Q E _ from ?_));rw[e0];exact aq h
theorem Dt {a:Addr}{vs:List Value}{ps:List (Int×Int)}{n:Nat}{h₀:Heap}{P:Fin->Shared->Prop}(ho:s.heap.get? a=some (seqObj "list" vs.toArray n))(hp:Prs h₀ vs ps)(hne:∀v p,ll h₀ v p->v≠.ref a)(hk:∀b o,s.heap.get? b=some o->h₀.get? b=some o\/b=a\/True)
  (ks:∀v p,ll h₀ v p->ll s.heap v p) (h64:vs.length<64)
  (h:∀t:SortSt,(arrOf t).Perm (pairsOf vs)->SortedToK (prKd h₀) (arrOf t) (pairsOf vs).size->P (.done (.ret .none)) { s with heap:=sortedHeap s.heap a vs ((arrOf t).map (·.2)) }) :
  wpAny (model prog w) A (Builtin.«list.sort» ⟨[.ref a],[]⟩) P E s:=by
 have alt:a<s.heap.objs.size:=aC ho;have hz:vs.toArray.size=vs.length:=by simp
 obtain⟨e1,g1⟩:∃e,(s.heap.update a (Obj.mapSeq fun _=>#[])).get? a=some (seqObj "list" #[] e):=⟨_,get?_update_seq ho _⟩;have up:∀b o,b≠a->s.heap.get? b=some o->(((s.heap.update a (Obj.mapSeq fun _=>#[])).push (seqObj "tuple" vs.toArray 0)).push (seqObj "list" #[] 0)).get? b=some o:=fun b o ne e =>
  ae _ (ae _ ((Heap.get?_update_ne _ _ _ _ ne).trans e))
 have g2:(((s.heap.update a (Obj.mapSeq fun _=>#[])).push (seqObj "tuple" vs.toArray 0)).push (seqObj "list" #[] 0)).get? a=some (seqObj "list" #[] e1):=ae _ (ae _ g1);have prs:∀v p,ll h₀ v p->ll (((s.heap.update a (Obj.mapSeq fun _=>#[])).push (seqObj "tuple" vs.toArray 0)).push (seqObj "list" #[] 0)) v p:=fun v p x=>by
  obtain⟨c,t,u,e,o,q1,q2⟩:=ks v p x;have ne:c≠a:=fun z=>hne v p x (by rw[e,z]);exact⟨c,t,u,e,o,up c o ne q1,q2⟩
 rw[list_sort_plain];refine ab (listItems_at ho rfl (ab (listUpdate_at ho rfl (ab (seqEpoch_at g1 rfl (ab (wpAny_newTuple (ab (wpAny_newList (bK ?_))))))))));show wpAny (model prog w) A _ P E { s with heap:=((s.heap.update a (Obj.mapSeq fun _=>#[])).push (seqObj "tuple" vs.toArray 0)).push (seqObj "list" #[] 0) };have small:∀{xs:Array Keyed},xs.Perm (pairsOf vs)->(xs.map (·.2)).size<=sizeLine+1:=fun {xs} p=>by rw[Array.size_map,p.size_eq,pairsOf_size,sizeLine_eq];omega
 dsimp only;by_cases two:vs.toArray.size<2
 ·rw[if_pos two,if_pos two];refine ab (aq ?_);rw[StateT.run_pure];refine ab (aq (ab (seqEpoch_at g2 rfl (ab (listUpdate_at g2 rfl ?_ (hsz2:=small (Array.Perm.refl _)))))));simp only[bne_self_eq_false,Bool.false_eq_true,if_false];refine aq (h (SortSt.mk' general' (vs.toArray.zip vs.toArray) #[] 7 none) (Array.Perm.refl _) fun i j ij jn=>?_);rw[pairsOf_size] at jn;cases (show i=j by omega);exact KeyOrd.kle_refl _
 ·rw[if_neg two,if_neg two];have all:∀{us:List Value}{qs:List (Int×Int)},Prs h₀ us qs->Prs (((s.heap.update a (Obj.mapSeq fun _=>#[])).push (seqObj "tuple" vs.toArray 0)).push (seqObj "list" #[] 0)) us qs:=fun {us qs} x=>by
   induction x with
   |nil=>exact .nil
   |cons y _ ih=>exact .cons (prs _ _ y) ih
  have keys:KeysOf (prKd h₀) (pairsOf vs):=fun p hm=>by
   have:∀{us:List Value}{qs:List (Int×Int)},Prs h₀ us qs->∀v∈us,∃q,ll h₀ v q:=fun {us qs} x=>by
    induction x with
    |nil=>exact fun v z=>nomatch z
    |cons y _ ih=>exact fun v z=>(List.mem_cons.mp z).elim (fun e=>⟨_,e▸y⟩) (ih v)
   have hm':p.1∈vs:=by
    have z:p∈(vs.toArray.zip vs.toArray).toList:=hm;rw[Array.toList_zip] at z;exact (JV z).1
   obtain⟨q,x⟩:=this hp _ hm';exact⟨q,key_of x⟩
  have nn:ps≠[]:=fun z=>by subst z;cases hp;simp at two
  refine ab (Eh (all hp) nn ?_);refine ab (wpAny_mono (IQ (a₀:=pairsOf vs) (kd:=tuples' true) (κ:=prKd h₀) (st:=SortSt.mk' (tuples' true) (vs.toArray.zip vs.toArray) #[] 7 none) (Q:=fun _ t=>(arrOf t).Perm (pairsOf vs)/\failedOf t=none/\SortedToK (prKd h₀) (arrOf t) (pairsOf vs).size)
   (BI prs) keys ⟨⟨Array.Perm.refl _,rfl,rfl,rfl⟩,rfl⟩ (by rw[pairsOf_size];omega) (by rw[pairsOf_size];exact h64) fun t p1 p2 p3=>⟨p1,p2,p3⟩) ?_ fun _ _ z=>z)
  intro r s' hr;obtain⟨es,p1,p2,p3⟩:=hr;subst es;obtain⟨⟨⟩,t⟩:=r;dsimp only at p1 p2 p3 ⊢;refine ab (seqEpoch_at g2 rfl (ab (listUpdate_at g2 rfl ?_ (hsz2:=small p1))));rw[p2];simp only[bne_self_eq_false,Bool.false_eq_true,if_false];exact aq (h t p1 p3)
theorem sorted_pr {kd:Bool}{l:Addr}{vs:List Value}{ps:List (Int×Int)}{Q:Value->Shared->Prop}(hl:j3 kd s.heap l vs.toArray)(hp:Prs s.heap vs ps)(h64:vs.length<64)
  (h:∀t:SortSt,(arrOf t).Perm (pairsOf vs)->SortedToK (prKd s.heap) (arrOf t) (pairsOf vs).size->Q (.ref (s.heap.objs.size+1)) { s with heap:=sortedAll s.heap vs ((arrOf t).map (·.2)) }) :
  wpAny (model prog w) A (call (.builtin "sorted") [.ref l]) Q E s:=by
 have hz:vs.length<=sizeLine:=by rw[sizeLine_eq];omega
 have sz:((s.heap.push (seqObj "list" #[] 0)).update s.heap.objs.size (Obj.mapSeq (·++vs.toArray))).objs.size=s.heap.objs.size+1:=by rw[Heap.size_update,size_push']
 have old:∀b o,s.heap.get? b=some o->(((s.heap.push (seqObj "list" #[] 0)).update s.heap.objs.size (Obj.mapSeq (·++vs.toArray))).push (seqObj "list" vs.toArray 0)).get? b=some o:=fun b o e =>
  ae _ ((Heap.get?_update_ne _ _ _ _ (aR (aC e))).trans (ae _ e))
 have at1:(((s.heap.push (seqObj "list" #[] 0)).update s.heap.objs.size (Obj.mapSeq (·++vs.toArray))).push (seqObj "list" vs.toArray 0)).get? (s.heap.objs.size+1)=some (seqObj "list" vs.toArray 0):=by
  have q:=aG ((s.heap.push (seqObj "list" #[] 0)).update s.heap.objs.size (Obj.mapSeq (·++vs.toArray))) (o:=seqObj "list" vs.toArray 0) rfl;rw[sz] at q;exact q
 have go:∀{A:Around}{R:List Value->Shared->Prop},R vs { s with heap:=(s.heap.push (seqObj "list" #[] 0)).update s.heap.objs.size (Obj.mapSeq (·++vs.toArray)) }->wpAny (model prog w) A (collect (.ref l)) R E s:=fun {A R} r=>by
  cases kd
  ·exact yr (show s.heap.IsTuple l vs.toArray from hl) hz r
  ·exact collect_list (show s.heap.IsList l vs.toArray from hl) r hz
 refine Calls.call_function_entry kind_sorted plain_sorted entry_sorted (args_sorted1 _) ?_;unfold Builtin.«sorted»;refine ab (m:=checkCount "sorted" 1 1 _) (aq ?_);refine ab (go ?_);refine ab (wpAny_newList ?_ (by rw[sizeLine_eq];omega));show wpAny _ _ _ _ _ { s with heap:=((s.heap.push (seqObj "list" #[] 0)).update s.heap.objs.size (Obj.mapSeq (·++vs.toArray))).push (seqObj "list" vs.toArray 0) };rw[sz];refine ab (bK (wpAny_call_entry slot_list_sort ⟨_,at1,rfl⟩ entry_list_sort (Dt (h₀:=s.heap) at1 hp (fun v p x e=>?_) (fun _ _ _=>.inr (.inr trivial)) (fun v p ⟨c,t,u,e,o,q1,q2⟩=>⟨c,t,u,e,o,old c o q1,q2⟩) h64 fun t p1 p2=>⟨_,rfl,aq ⟨_,rfl,h t p1 p2⟩⟩) (args_list_sort _)));obtain⟨c,t,u,e',o,q1,_⟩:=x;rw[e] at e';cases e';exact absurd (aC q1) (Nat.not_lt.mpr (JE _))
end
end L2.Srt
namespace L2
open PySem PySem.Spec PyProof.Rows
inductive PrV (K:PySem.W.Frag)(H:Hp):List Addr->List (Int×Int)->Prop where
 |nil:PrV K H [] []
 |cons {b:Addr}{p:Int×Int}{bs:List Addr}{ps:List (Int×Int)}:jj K H b [.int p.1,.int p.2]->PrV K H bs ps->PrV K H (b::bs) (p::ps)
theorem PrV.len {K:PySem.W.Frag}{H:Hp}{bs:List Addr}{ps:List (Int×Int)}(h:PrV K H bs ps):bs.length=ps.length:=by
 induction h with
 |nil=>rfl
 |cons _ _ ih=>rw[aJ,aJ,ih]
theorem zh:∀{bs:List Addr}{us:List Value},cT (bs.map V.ref) us->us=bs.map Value.ref
 |[],us,h=>by cases h;rfl
 | b::bs,us,h=>by
  cases h with
  |cons r rs=>rw[aA,zh rs,show _=Value.ref b from r]
theorem sR:∀bs:List Addr,cT (bs.map V.ref) (bs.map Value.ref)
 |[]=>.nil
 |b::bs=>.cons rfl (sR bs)
section
variable {X:Cx}
theorem FT {pins:List (Addr×Obj)}{σ:St}{H:Hp}{s:Shared}(I:cQ X pins σ H s){bs:List Addr}{ps:List (Int×Int)}(h:PrV X.K H bs ps):Srt.Prs s.heap (bs.map Value.ref) ps:=by
 induction h with
 |nil=>exact .nil
 |@cons b p bs ps q _ ih =>
  obtain⟨its,r,⟨o,e,c,n,d⟩,_⟩:=I.tuple q;obtain⟨u,v,rfl,r1,r2⟩:=cT.two r;obtain⟨t1,rfl⟩:=(show ∃t,u=Value.int p.1 t from r1);obtain⟨t2,rfl⟩:=(show ∃t,v=Value.int p.2 t from r2);exact .cons ⟨b,t1,t2,rfl,o,e,c,n,d⟩ ih
noncomputable def yU:Value->Addr
 |.ref a=>a
 |_=>0
theorem zt {h:Heap}:∀{bs:List Addr}{ps:List (Int×Int)},Srt.Prs h (bs.map Value.ref) ps->((bs.map Value.ref).zip (bs.map Value.ref)).map (fun x=>(yU x.2,((Srt.prKd h).keyOf x.1).getD (0,0)))=bs.zip ps
 |[],_,x=>by cases x;rfl
 | b::bs,_,x=>by
  cases x with
  |cons y ys =>
   rw[aA,JM,aA,JM,zt ys,Srt.key_of y];rfl
theorem call_sortedP:CallR X (.builtin "sorted") (fun xs H Q=>∃(kd:Bool) (a:Addr) (bs:List Addr) (ps:List (Int×Int)),xs=[.ref a]/\ib kd X.K H a (bs.map V.ref)/\bs.length<64/\PrV X.K H bs ps ∧
  ∀(l:Addr) (cs:List Addr) (qs:List (Int×Int)),H l=none->(cs.zip qs).Perm (bs.zip ps)->cs.length=qs.length->qs.Pairwise (fun p q=>Srt.pLt q p=false)->Q (.ref l) (dY H l (.lst (cs.map V.ref)))):=by
 intro pins s σ H xs us Q I rx h;obtain⟨kd,a,bs,ps,rfl,hq,h64,pv,q⟩:=h;obtain⟨u,rfl,ru⟩:=cT.one rx;cases ru;obtain⟨its,rv,ob,hz⟩:=I.seqK hq;have ei:=zh rv;subst ei;have pr:=FT I pv;refine Srt.sorted_pr ob pr (by rw[af];exact h64) fun t p1 p2=>?_;have pl:(arrOf t).toList.Perm ((bs.map Value.ref).zip (bs.map Value.ref)):=by
  have:=Array.perm_iff_toList_perm.mp p1;rwa[show (pairsOf (bs.map Value.ref)).toList=(bs.map Value.ref).zip (bs.map Value.ref) by unfold pairsOf;rw[Array.toList_zip]] at this
 have isref:∀x∈(arrOf t).toList,x.2=Value.ref (yU x.2):=fun x hx=>by
  have hm:=(JV (pl.mem_iff.mp hx)).2;obtain⟨b,_,e⟩:=List.mem_map.mp hm;rw[<-e];rfl
 let g:Keyed->Addr×(Int×Int):=fun x=>(yU x.2,((Srt.prKd s.heap).keyOf x.1).getD (0,0))
 have pz:=pl.map g;rw[show ((bs.map Value.ref).zip (bs.map Value.ref)).map g=bs.zip ps from zt pr] at pz;have zz:((arrOf t).toList.map fun x=>(g x).1).zip ((arrOf t).toList.map fun x=>(g x).2)=(arrOf t).toList.map g:=by
  generalize (arrOf t).toList=L;induction L with
  |nil=>rfl
  |cons x L ih=>rw[aA,aA,JM,ih];rfl
 have outs:((arrOf t).map (·.2)).toList=((arrOf t).toList.map fun x=>(g x).1).map Value.ref:=by
  rw[Array.toList_map,bg];exact List.map_congr_left fun x hx=>isref x hx
 obtain⟨e,he⟩:=sortedAll_at s.heap (bs.map Value.ref) ((arrOf t).map (·.2));have len:(arrOf t).toList.length=bs.length:=by rw[pl.length_eq,bP,af,Nat.min_self]
 have I':=I.laid (h':=sortedAll s.heap (bs.map Value.ref) ((arrOf t).map (·.2))) (t':=s.toks) (a:=s.heap.objs.size+1) (o:=.lst (((arrOf t).toList.map fun x=>(g x).1).map V.ref)) (fun b o z=>sortedAll_old z) (JE _)
  ⟨by rw[af,af,len];have:=hz;rw[af] at this;exact this,_,e,sR _,by rw[<-outs];exact he⟩
 refine⟨.ref (s.heap.objs.size+1),_,I',rfl,q _ _ ((arrOf t).toList.map fun x=>(g x).2) (I.hok.fresh (JE _)) (by rw[zz];exact pz) (by rw[af,af]) ?_⟩;rw[List.pairwise_iff_getElem];intro i j hi hj ij;rw[af] at hi hj;have kk:∀i (h:i<(arrOf t).toList.length),KK (Srt.prKd s.heap) (arrOf t) i=(g (arrOf t).toList[i]).2:=fun i h=>by
  unfold KK;rw[show (arrOf t)[i]?=some (arrOf t).toList[i] by rw[JJ (by simpa using h)];simp]
 have:=p2 i j (JY ij) (by rw[pairsOf_size,af,<-len];exact hj);rw[kk i hi,kk j hj] at this;rw[List.getElem_map,List.getElem_map];exact this
end
end L2
namespace DL
open PySem PySem.Spec PySem.SeqAt
open L2 (V Hp St HO VK TE TT TA TS TI TG Cx cQ PE PT PA PS PSs PI PG jj jR de dY cK cC cE cT dR EP TP AP SP jQ It ib)
section
variable {X:Cx}{e a b c:Expr}{es:List Expr}{f g:ED}{fb gb:BD}{t u:TD}{pos p:Pos}
theorem Am {d:D}{q:Int×Int}(h:FW d=some q):d=HE q:=by
 unfold FW at h;split at h
 ·cases h;rfl
 ·cases h
theorem As {K:Fg}{H:Hp}{O:List Addr}:∀{ds:List D}{vs:List V}{ps:List (Int×Int)},Rs K H O ds vs->m7 ds=some ps->∃bs,vs=bs.map V.ref/\L2.PrV K H bs ps:=by
 intro ds;induction ds with
 |nil=>intro vs ps q h;cases q;cases h;exact⟨[],rfl,.nil⟩
 |cons d ds ih =>
  intro vs ps q h;cases q with
  |cons q qs =>
    unfold m7 at h;obtain⟨pr,hp,h⟩:=Option.bind_eq_some_iff.mp h;cases hr:m7 ds with
    |none=>rw[hr] at h;cases h
    |some ps' =>
     rw[hr,av] at h;cases h;obtain⟨bs,rfl,hv⟩:=ih qs hr;rw[Am hp] at q;unfold HE at q;cases q with
     |tuple ha hs =>
      cases hs with
      |cons h1 h2 =>
       cases h1;cases h2 with
       |cons h3 h4 =>
        cases h3;cases h4;exact⟨_::bs,rfl,.cons ha hv⟩
theorem DN (p q:Int×Int):A9 p q=true<->L2.Srt.pLt q p=false:=by
 simp only[A9,L2.Srt.pLt,decide_eq_true_eq,decide_eq_false_iff_not];omega
theorem Bp {ps qs:List (Int×Int)}(h:qs.Perm ps)(s:qs.Pairwise (fun p q=>L2.Srt.pLt q p=false)):qs=ko ps:=by
 refine List.Perm.eq_of_pairwise (le:=fun p q=>L2.Srt.pLt q p=false) (fun a b _ _ h1 h2=>?_) s ?_ (h.trans (List.mergeSort_perm ps A9).symm)
 ·simp only[L2.Srt.pLt,decide_eq_false_iff_not] at h1 h2;cases a;cases b;simp only[Prod.mk.injEq] at *;omega
 ·refine (List.pairwise_mergeSort (le:=A9) (fun a b c h1 h2=>?_) (fun a b=>?_) ps).imp fun h=>(DN _ _).mp h
  ·simp only[A9,decide_eq_true_eq] at *;omega
  ·simp only[A9,Bool.or_eq_true,decide_eq_true_eq];omega
theorem Bx {K:Fg}{H:Hp}{O:List Addr}:∀(cs:List Addr) (qs:List (Int×Int)),cs.length=qs.length->(∀x∈cs.zip qs,jj K H x.1 [.int x.2.1,.int x.2.2])->Rs K H O (qs.map HE) (cs.map V.ref)
 |[],[],_,_=>.nil
 |[],_::_,h,_=>by cases h
 |_::_,[],h,_=>by cases h
 |c::cs,q::qs,h,k=>.cons (.tuple (k (c,q) (by simp)) (.cons (.int _) (.cons (.int _) .nil))) (Bx cs qs (by simpa using h) fun x hx=>k x (by simp[hx]))
theorem DJ {K:Fg}{H:Hp}{bs:List Addr}{ps:List (Int×Int)}(h:L2.PrV K H bs ps):∀x∈bs.zip ps,jj K H x.1 [.int x.2.1,.int x.2.2]:=by
 induction h with
 |nil=>exact fun x hx=>by cases hx
 |cons q _ ih =>
  intro x hx;rw[JM] at hx;rcases List.mem_cons.mp hx with z|z
  ·subst z;exact q
  ·exact ih x z
theorem z0:UD X (fun x H Q=>(fun xs H Q=>∃(kd:Bool) (a:Addr) (bs:List Addr) (ps:List (Int×Int)),xs=[.ref a]/\ib kd X.K H a (bs.map V.ref)/\bs.length<64/\L2.PrV X.K H bs ps ∧
  ∀(l:Addr) (cs:List Addr) (qs:List (Int×Int)),H l=none->(cs.zip qs).Perm (bs.zip ps)->cs.length=qs.length->qs.Pairwise (fun p q=>L2.Srt.pLt q p=false)->Q (.ref l) (dY H l (.lst (cs.map V.ref))):List V->Hp->VK->Prop) [x] H Q) kO:=by
 intro x vx H O r Q ne hx hf k;have go:∀{ds:List D}{vs:List V}{kd:Bool}{a:Addr},vT ds=some r->ib kd X.K H a vs->Rs X.K H O ds vs->∃(kd:Bool) (a':Addr) (bs:List Addr) (ps:List (Int×Int)),[V.ref a]=[.ref a']/\ib kd X.K H a' (bs.map V.ref)/\bs.length<64/\L2.PrV X.K H bs ps ∧
   ∀(l:Addr) (cs:List Addr) (qs:List (Int×Int)),H l=none->(cs.zip qs).Perm (bs.zip ps)->cs.length=qs.length->qs.Pairwise (fun p q=>L2.Srt.pLt q p=false)->Q (.ref l) (dY H l (.lst (cs.map V.ref))):=fun {ds vs kd a} hs ha qa=>by
  unfold vT at hs;obtain⟨ps,hp,hs⟩:=Option.bind_eq_some_iff.mp hs;split at hs
  ·rename_i h64;cases hs;obtain⟨bs,rfl,hv⟩:=As qa hp;refine⟨kd,a,bs,ps,rfl,ha,by rw[hv.len];exact h64,hv,fun l cs qs hl pm len st=>?_⟩;have pq:qs.Perm ps:=by
    have:=pm.map Prod.snd;rwa[List.map_snd_zip ⋯,List.map_snd_zip (by have:=hv.len;omega)] at this
   have eq:=Bp pq st;have s2:de H (dY H l (.lst (cs.map V.ref))):=fun b o e=>by rw[cC (cE e hl)];exact e
   have rs:Rs X.K H O (qs.map HE) (cs.map V.ref):=Bx cs qs len fun x hx=>DJ hv x (pm.mem_iff.mp hx);rw[<-eq] at k;exact k _ _ s2 (.inr ⟨rfl,l,_,_,rfl,rfl,hl,cK,rs.ext (iJ.fresh s2 hl)⟩)
  ·cases hs
 cases x <;> first|cases hf|skip
 ·obtain⟨a,vs,rfl,ha,qa⟩:=hx.list;exact go (kd:=true) hf ha qa
 ·obtain⟨a,vs,rfl,ha,qa⟩:=hx.tuple;exact go (kd:=false) hf ha qa
theorem AZ (hm:X.mg "sorted" = none)(ha:DB X a fb)(hg:L2.Gl X "sorted" := by rfl)(he:starEach [a] X.env=(false,eval a X.env)::starEach [] X.env:=by rfl):DE X (.Call (.Name "sorted" p) [a] [] pos) (d1 kO fb):=w8 L2.call_sortedP z0 hm PyProof.Rows.boot_sorted ha hg (by decide) (by decide) he
end
end DL
namespace HT
open PySem PyProof.Rows
section
variable {prog:Program}{w:World}{A:Around}{E:Value->Shared->Prop}{s:Shared}
end
end HT
namespace L2
open PySem PySem.Spec PyProof.Rows
section
variable {X:Cx}
end
end L2
namespace DL
open PySem PySem.Spec PySem.SeqAt
open L2 (V Hp St HO VK TE TT TA TS TI TG Cx cQ PE PT PA PS PSs PI PG jj jR de dY cK cC cE cT dR EP TP AP SP jQ It ib)
section
variable {X:Cx}{e a b c:Expr}{es:List Expr}{f g:ED}{fb gb:BD}{t u:TD}{pos p p2:Pos}{lo hi:Option Expr}{pl ph:PD}
mutual
theorem R.lf {K:Fg}{H:Hp}{O O':List Addr}{d:D}{v:V}:R K H O d v->oq d=true->R K H O' d v
 |.none,_=>.none
 |.bool b,_=>.bool b
 |.int i,_=>.int i
 |.str x,_=>.str x
 |.tuple h r,l=>.tuple h (Rs.lf r (by simpa [oq] using l))
 |.list _ _,l=>by simp[oq] at l
 |.dict _ _ _,l=>by simp[oq] at l
theorem Rs.lf {K:Fg}{H:Hp}{O O':List Addr}{ds:List D}{vs:List V}:Rs K H O ds vs->jL ds=true->Rs K H O' ds vs
 |.nil,_=>.nil
 | .cons h r,l=>by
  simp only[jL,Bool.and_eq_true] at l;exact .cons (R.lf h l.1) (Rs.lf r l.2)
end
theorem Bj {s:Option Vl}{x:Vl}(h:Hb s=some x):x.2=false/\(s=some x\/(∃xs,x.1=.list xs/\(s=some (.list xs,true)\/s=some (gX xs,true)\/s=some (CB xs,true)))\/∃kvs,x.1=.dict kvs/\s=some (mJ (.dict kvs),true)):=by
 unfold Hb at h;split at h
 ·cases h;exact⟨rfl,.inl rfl⟩
 ·cases h;exact⟨rfl,.inr (.inl ⟨_,rfl,.inl rfl⟩)⟩
 ·cases h;exact⟨rfl,.inr (.inl ⟨_,rfl,.inr (.inl rfl)⟩)⟩
 ·cases h;exact⟨rfl,.inr (.inl ⟨_,rfl,.inr (.inr rfl)⟩)⟩
 ·cases h;exact⟨rfl,.inr (.inr ⟨_,rfl,rfl⟩)⟩
 ·cases h
theorem jG {ρ:Sl}{i:Nat}{x:Vl}(h:(unown ρ)[i]?=some (some x)):x.2=false/\(ρ[i]?=some (some x)\/(∃xs,x.1=.list xs/\(ρ[i]?=some (some (.list xs,true))\/ρ[i]?=some (some (gX xs,true))\/ρ[i]?=some (some (CB xs,true))))\/∃kvs,x.1=.dict kvs/\ρ[i]?=some (some (mJ (.dict kvs),true))):=by
 unfold unown at h;rw[au] at h;cases hs:ρ[i]? with
 |none=>rw[hs] at h;cases h
 |some s =>
  rw[hs,av] at h;obtain⟨h1,h2⟩:=Bj (Option.some.inj h);refine⟨h1,?_⟩;rcases h2 with z|⟨xs,z1,z2|z2|z2⟩|⟨kvs,z1,z2⟩
  ·exact .inl (by rw[z])
  ·exact .inr (.inl ⟨xs,z1,.inl (by rw[z2])⟩)
  ·exact .inr (.inl ⟨xs,z1,.inr (.inl (by rw[z2]))⟩)
  ·exact .inr (.inl ⟨xs,z1,.inr (.inr (by rw[z2]))⟩)
  ·exact .inr (.inr ⟨kvs,z1,by rw[z2]⟩)
theorem Dp.rs0 {K:Fg}{H:Hp}{O M:List Addr}{ds:List D}{bs:List Addr}(h:Dp K H O M ds bs):Rs K H [] ds (bs.map V.ref):=by
 induction h with
 |nil=>exact .nil
 |cons h1 _ h3 _ ih=>exact .cons (.list (.inl ⟨h1,fun z=>nomatch z⟩) (h3.ext (.less fun b hb=>nomatch hb))) ih
theorem ER.unown {K:Fg}{H:Hp}{O M:List Addr}{lad:Nat->Addr}{ρ:Sl}{σ:St}(h:ER K H O M lad ρ σ):ER K H [] [] lad (unown ρ) σ where
 sh:=fun i d e=>by
  have less:iJ [] O H [] H:=.less fun b hb=>nomatch hb;obtain⟨_,z|⟨xs,z1,z2|z2|z2⟩|⟨kvs,z1,z2⟩⟩:=jG e
  ·obtain⟨v,e1,q⟩:=h.sh i d z;exact⟨v,e1,q.ext less⟩
  ·obtain⟨a,vs,e1,e2,_,q⟩:=h.ow i xs z2;rw[show d=.list xs from z1];exact⟨_,e1,.list (.inl ⟨e2,fun z=>nomatch z⟩) (q.ext less)⟩
  ·obtain⟨e1,vs,e2,_,_,q⟩:=h.le i xs z2;rw[show d=.list xs from z1];exact⟨_,e1,.list (.inl ⟨e2,fun z=>nomatch z⟩) (q.ext less)⟩
  ·obtain⟨a,bs,e1,e2,_,_,q,_⟩:=h.dp.at_ i xs z2;rw[show d=.list xs from z1];exact⟨_,e1,.list (.inl ⟨e2,fun z=>nomatch z⟩) q.rs0⟩
  ·obtain⟨a,es,e1,e2,_,q,_⟩:=h.dp.dc i kvs z2;rw[show d=.dict kvs from z1];exact⟨_,e1,.dict e2 (fun z=>nomatch z) (q.ext less)⟩
 ow:=fun i d e=>by cases (jG e).1
 le:=fun i d e=>by cases (jG e).1
 ap:=fun i j d e a e1=>by cases (jG e1).1
 tr:=fun a ha=>nomatch ha
 sub:=fun a ha=>nomatch ha
 len:=by unfold DL.unown;rw[af];exact h.len
 dp:=.none_ fun i x e=>(jG e).1
theorem Ct (h:DT X e t):DT X e (xI t):=h.imp fun σ H Q ⟨ρ,O,M,lad,c,hE,hf,k⟩=>⟨unown ρ,[],[],lad,c,hE.unown,hf,k⟩
end
end DL
namespace L2
open PySem PySem.Spec PyProof.Rows
section
variable {X:Cx}
end
end L2
namespace DL
open PySem PySem.Spec PySem.SeqAt
open L2 (V Hp St HO VK TE TT TA TS TI TG Cx cQ PE PT PA PS PSs PI PG jj jR de dY cK cC cE cT dR EP TP AP SP jQ It ib)
section
variable {X:Cx}{e a b c:Expr}{es:List Expr}{f g:ED}{fb gb:BD}{t u:TD}{pos p p2:Pos}
end
section
variable {X:Cx}{e a b c elt tg iter:Expr}{es ifs:List Expr}{f g:ED}{t u:TD}{pos:Pos}{it:AD}{gd:GD}{scope:Scope}{own caps:List Str}{ix:List Nat}{st:Stmt}{F:SD}
end
section
variable {X:Cx}{ek ex ev:Expr}{ke kx vx:ED}{pos p1 p2 p3 p4 p5 p6 p7 p8 p9:Pos}{i s:Nat}{x y:Str}
end
open PySem
theorem yE {X:Cx}{sc1 scope:Scope}{N1 own caps:List Str}{ix:List Nat}{s₀:Shared}{H₀:Hp}{ex:List Addr}{pn:List (Addr×Obj)}(h:qw sc1 N1 scope own ix caps=true) :
  L2.CompSc (L2.compCx X sc1 N1 s₀ H₀ ex pn).env.scope (L2.compCx X sc1 N1 s₀ H₀ ex pn).N scope own ix caps:=by
 unfold qw at h;simp only[Bool.and_eq_true,decide_eq_true_eq,bp,Bool.or_eq_true,beq_iff_eq,List.any_eq_true,bne_iff_ne,ne_eq] at h;obtain⟨⟨⟨⟨⟨⟨a1,a2⟩,a3⟩,a4⟩,a5⟩,a6⟩,a7⟩:=h;refine⟨a1,a2,a3,a4,fun p hp hf=>?_,fun y hy=>?_,a7⟩
 ·have key:(L2.compCx X sc1 N1 s₀ H₀ ex pn).env.scope.names.lookup p.1=(sc1.names.lookup p.1).map fun k=>if (k==NameKind.free&&X.env.scope.kind==.function&&X.env.kindOf p.1==some .cell)=true then .cell else k:=L2.lookup_relabel (env:=X.env) (scope:=sc1);rw[key];rcases a5 p hp with (z|z)|z
  ·exact absurd hf z
  ·rw[z];exact .inl rfl
  ·rw[z,av];by_cases c:(NameKind.free==NameKind.free&&X.env.scope.kind==.function&&X.env.kindOf p.1==some .cell)=true
   ·rw[if_pos c];exact .inl rfl
   ·rw[if_neg c];exact .inr rfl
 ·obtain⟨⟨z,k⟩,hp,e1,e2⟩:=a6 y hy;simp only at e1 e2;subst e1 e2;exact hp
end DL
namespace L2
open PySem PySem.Spec PyProof.Rows
section
variable {X:Cx}
end
end L2
namespace DL
open PySem PySem.Spec PySem.SeqAt
open L2 (V Hp St HO VK TE TT TA TS TI TG Cx cQ PE PT PA PS PSs PI PG jj jR de dY cK cC cE cT dR EP TP AP SP jQ It ib)
section
variable {X:Cx}
noncomputable def BC (K:Fg)(neg:Bool):L2.R2:=fun x y H Q=>∃(O:List Addr) (dx:D) (ds:List D) (a:Addr) (vs:List V) (kd:Bool),BR K H O dx x/\y=.ref a/\ib kd K H a vs/\Rs K H O ds vs/\shaped dx=true/\(∀d∈ds,shaped d=true/\noMix d dx=true)/\Q (.bl (if neg=true then !(ds.any fun d=>same d dx) else ds.any fun d=>same d dx)) H
open Classical in
noncomputable def g0 (h:Heap)(dx:D)(v:Value):Bool:=if e:∃d as,Reads h v d as/\d.canLay0=true then same e.choose dx else false
theorem AU {h:Heap}{dx d:D}{v:Value}{as:List Addr}(r:Reads h v d as)(hl:d.canLay0=true):g0 h dx v=same d dx:=by
 have e:∃d as,Reads h v d as/\d.canLay0=true:=⟨d,as,r,hl⟩;obtain⟨as',r',hl'⟩:=e.choose_spec;have:e.choose=d:=PySem.SeqAt.Reads.unique _ _ v _ _ hl' r' r;unfold g0;rw[dif_pos e,this]
theorem vc {X:Cx}{pins:List (Addr×Obj)}{σ:St}{H:Hp}{s:Shared}{O:List Addr}(I:cQ X pins σ H s)(hu:X.A.units+100<cLine){dx:D}{ux:Value}{bs:List Addr}(rx:Reads s.heap ux dx bs)(sx:shaped dx=true):∀{ds:List D}{vs:List V}{its:List Value},Rs X.K H O ds vs->cT vs its->(∀d∈ds,shaped d=true/\noMix d dx=true) →
  (∀y∈its,EqAt X.A.in1 s y ux (g0 s.heap dx y))/\its.any (g0 s.heap dx)=ds.any fun d=>same d dx
 |_,_,_,.nil,r,_=>by cases r;exact⟨(fun y hy=>nomatch hy),rfl⟩
 | d::ds,v::vs,_,.cons q qs,r,h=>by
  cases r with
  |@cons _ u _ us r rs =>
   obtain⟨h1,h2⟩:=vc I hu rx sx qs rs fun d hd=>h d (by simp[hd]);obtain⟨g1,g2⟩:=h d (by simp);obtain⟨as,ra⟩:=q.reads I (kK g1) u r;unfold shaped at g1 sx;rw[Bool.and_eq_true,decide_eq_true_eq] at g1 sx;have ew:=AU (dx:=dx) ra g1.1;refine⟨fun y hy=>?_,by rw[List.any_cons,List.any_cons,ew,h2]⟩;rcases List.mem_cons.mp hy with z|z
   ·subst z;rw[ew,same_eq_eqv d dx g2];exact eqAt_reads d dx X.A.in1 s _ ux as bs ra rx g1.1 sx.1 (by have:X.A.in1.units=X.A.units+1:=rfl;omega)
   ·exact h1 y z
theorem FZ (hu:X.A.units+100<cLine):L2.OpR X (compareOp .In) (BC X.K false):=by
 intro pins s σ H x y v u Q I rx ry h;obtain⟨O,dx,ds,a,vs,kd,hx,rfl,hq,qs,sx,hd,q⟩:=h;cases ry;obtain⟨bs,rb⟩:=hx.reads I (kK sx) v rx;obtain⟨its,rv,ob,_⟩:=I.seqK hq;obtain⟨e1,e2⟩:=vc I hu rb sx qs rv hd;rw[if_neg Bool.false_ne_true,<-e2] at q;have fin:EP X pins σ Q (.bool (its.toArray.any (g0 s.heap dx))) s:=by
  rw[show its.toArray.any (g0 s.heap dx)=its.any (g0 s.heap dx) by simp];exact⟨.bl _,H,I,rfl,q⟩
 cases kd
 ·exact in_tupleAt (g0 s.heap dx) (show s.heap.IsTuple a its.toArray from ob) (fun w hw=>e1 w (by simpa using hw)) fin
 ·exact in_listAt (g0 s.heap dx) (show s.heap.IsList a its.toArray from ob) (fun w hw=>e1 w (by simpa using hw)) fin
theorem Av (hu:X.A.units+100<cLine):L2.OpR X (compareOp .NotIn) (BC X.K true):=by
 intro pins s σ H x y v u Q I rx ry h;obtain⟨O,dx,ds,a,vs,kd,hx,rfl,hq,qs,sx,hd,q⟩:=h;cases ry;obtain⟨bs,rb⟩:=hx.reads I (kK sx) v rx;obtain⟨its,rv,ob,_⟩:=I.seqK hq;obtain⟨e1,e2⟩:=vc I hu rb sx qs rv hd;rw[if_pos rfl,<-e2] at q;have fin:EP X pins σ Q (.bool (!its.toArray.any (g0 s.heap dx))) s:=by
  rw[show its.toArray.any (g0 s.heap dx)=its.any (g0 s.heap dx) by simp];exact⟨.bl _,H,I,rfl,q⟩
 cases kd
 ·exact notIn_tupleAt (g0 s.heap dx) (show s.heap.IsTuple a its.toArray from ob) (fun w hw=>e1 w (by simpa using hw)) fin
 ·exact notIn_listAt (g0 s.heap dx) (show s.heap.IsList a its.toArray from ob) (fun w hw=>e1 w (by simpa using hw)) fin
theorem zv {K:Fg}{neg:Bool}{x:D}{ds:List D}{vx:V}{a:Addr}{vs:List V}{kd:Bool}{H:Hp}{O:List Addr}{c:Bool}{Q:VK}(hx:BR K H O x vx)(ha:ib kd K H a vs)(qs:Rs K H O ds vs)(hf:Fe x ds=some c)(q:Q (.bl (if neg=true then !c else c)) H):BC K neg vx (.ref a) H Q:=by
 unfold Fe at hf;split at hf
 ·rename_i h;cases hf;rw[Bool.and_eq_true,bp] at h;exact⟨O,x,ds,a,vs,kd,hx,rfl,ha,qs,h.1,fun d hd=>by have:=h.2 d hd;rwa[Bool.and_eq_true] at this,q⟩
 ·cases hf
theorem Ik:CD X (BC X.K false) He:=by
 intro x y vx vy H O k Q hx hy hf q;cases y <;> first|cases hf|skip
 ·obtain⟨a,vs,rfl,ha,qa⟩:=hy.list;exact zv (neg:=false) (kd:=true) hx ha qa hf q
 ·obtain⟨a,vs,rfl,ha,qa⟩:=hy.tuple;exact zv (neg:=false) (kd:=false) hx ha qa hf q
theorem CQ:CD X (BC X.K true) vp:=by
 intro x y vx vy H O k Q hx hy hf q;unfold vp at hf;cases hc:He x y with
 |none=>rw[hc] at hf;cases hf
 |some c =>
  rw[hc,av] at hf;cases hf;cases y <;> first|cases hc|skip
  ·obtain⟨a,vs,rfl,ha,qa⟩:=hy.list;exact zv (neg:=true) (kd:=true) hx ha qa hc q
  ·obtain⟨a,vs,rfl,ha,qa⟩:=hy.tuple;exact zv (neg:=true) (kd:=false) hx ha qa hc q
end
end DL
namespace L2
open PySem PySem.Spec PyProof.Rows
section
variable {prog:Program}{w:World}{A:Around}{E:Value->Shared->Prop}{s:Shared}
open AutoSeq1 (wpAny_loadPart')
set_option maxRecDepth 100000 in
end
section
variable {X:Cx}{a b:Expr}{ta:TA}{p p1 p2 pos:Pos}
theorem xD {lo:Int}{n:Nat}{acc:Array Value}(h:ItemsOf (fun i v=>∃t,v=Value.int (lo+i*1) t) acc n):cT ((aj n).map fun (i:Nat)=>V.int (lo+i)) acc.toList:=by
 obtain⟨hz,hi⟩:=h;have key:∀(l:List Value) (k:Nat),(∀j v,l[j]?=some v->∃t,v=Value.int (lo+((k+j:Nat):Int)) t)->cT ((bQ k l.length).map fun (i:Nat)=>V.int (lo+i)) l:=by
  intro l;induction l with
  |nil=>exact fun _ _=>.nil
  |cons x l ih =>
   intro k h;rw[aJ,bZ,aA];refine .cons (by obtain⟨t,e⟩:=h 0 x rfl;exact⟨t,by rw[e];rfl⟩) (ih (k+1) fun j v e=>?_);obtain⟨t,e'⟩:=h (j+1) v (by simpa using e);exact⟨t,by rw[e',show k+(j+1)=k+1+j by omega]⟩
 have:=key acc.toList 0 fun j v e=>by
  obtain⟨t,e'⟩:=hi j v (by simpa using e);exact⟨t,by rw[e',Int.mul_one,bE]⟩
 rw[<-bI,bY,hz] at this;exact this
end
end L2
namespace DL
open PySem PySem.Spec PySem.SeqAt
open L2 (V Hp St HO VK TE TT TA TS TI TG Cx cQ PE PT PA PS PSs PI PG jj jR de dY cK cC cE cT dR EP TP AP SP jQ It ib)
section
variable {X:Cx}{a b:Expr}{f g:ED}{p p1 p2 pos:Pos}
theorem Ht {K:Fg}{H:Hp}{O:List Addr}(lo:Int)(n:Nat):Rs K H O (fg lo n) ((aj n).map fun (i:Nat)=>V.int (lo+i)):=by
 unfold fg;generalize aj n=l;induction l with
 |nil=>exact .nil
 |cons x l ih=>exact .cons (.int _) ih
end
end DL
theorem L2.Room.u100 {k}{A:PySem.Around}(r:L2.Room k A):A.units+100<PySem.cLine:=by have:=r.un;omega
namespace DL
open PySem PySem.Spec PySem.SeqAt
end DL
theorem L2.Room.u200 {k}{A:PySem.Around}(r:L2.Room k A):A.units+200<PySem.cLine:=by have:=r.un;omega
namespace DL
open PySem PySem.Spec PySem.SeqAt
open L2 (V Hp St HO VK TE TT TA TS TI TG Cx cQ PE PT PA PS PSs PI PG jj jR de dY cK cC cE cT dR EP TP AP SP jQ It ib)
section
variable {X:Cx}
end
theorem tm {r:Vl}{d:D}(h:yc r=some d):r=(d,false)/\oq d=true:=by
 unfold yc at h;split at h
 ·split at h
  ·rename_i l;cases h;exact⟨rfl,l⟩
  ·cases h
 ·cases h
section
variable {X:Cx}{e ek ex ev:Expr}{f ke kx vx:ED}{pos p1 p2 p3 p4:Pos}{i:Nat}{x:Str}
end
end DL
namespace L2
open PySem PySem.Spec PyProof.Rows
section
variable {X:Cx}
end
section
variable {X:Cx}{a b:Expr}{ta:TA}{p p1 p2 pos:Pos}
theorem AF {pins:List (Addr×Obj)}{σ:St}{H:Hp}{s:Shared}{Q:VK}{lo hi:Int}{t u v:Tok}{tk:Nat}(hc:X.calm=true)(I:cQ X pins σ H s)(h1:-(2 ^ 62)<=lo)(h2:lo<2 ^ 62)(h3:-(2 ^ 62)<=hi)(h4:hi<2 ^ 62)(hn:(hi-lo).toNat<=1000000)
  (q:∀l,H l=none->Q (.ref l) (dY H l (.lst ((aj (hi-lo).toNat).map fun (i:Nat)=>V.int (lo+i))))) :
  wpAny (model X.prog X.w) X.A (call (.type "list") [.ref s.heap.objs.size]) (EP X pins σ Q) X.xe { s with heap:=s.heap.push { cls:=.type "range", data:=.fields #[.int lo t,.int hi u,.int 1 v] },toks:=tk }:=by
 have I1:cQ X pins σ H { s with heap:=s.heap.push { cls:=.type "range", data:=.fields #[.int lo t,.int hi u,.int 1 v] },toks:=tk }:=I.kept fun b o e=>ae _ e;refine call_list_range (a:=lo) (b:=hi) (n:=(hi-lo).toNat) (I.ok.hd hc) (IsRange.new ..) (small_one h1 h2 h3 h4) (by rw[rangeSize_one];split <;> omega) ⋯ fun h' tk' acc c' hk hS hacc=>?_;generalize hl:(s.heap.push { cls:=.type "range", data:=.fields #[.int lo t,.int hi u,.int 1 v] }).objs.size=l at hS ⊢;have I3:=I1.laid (t':=tk') (h':=h') (a:=l) (o:=.lst ((aj (hi-lo).toNat).map fun (i:Nat)=>V.int (lo+i))) hk (Nat.le_of_eq hl)
  (show ObjOk X.prog X.w _ _ _ (.lst _) from ⟨by rw[af,aD,sizeLine_eq];omega,acc.toList,c',xD hacc,by simpa using hS⟩)
 exact⟨.ref l,_,I3,rfl,q _ (I1.hok.fresh (Nat.le_of_eq hl))⟩
noncomputable def IJ (ta:TA):TE:=fun σ H Q=>ta σ H fun vs H1=>∃j:Int,vs=[.int j]/\-(2 ^ 62)<=j/\j<2 ^ 62/\j.toNat<=1000000/\∀l,H1 l=none->Q (.ref l) (dY H1 l (.lst ((aj j.toNat).map fun (i:Nat)=>V.int (0+i))))
theorem pe_lstR1 (hc:X.calm=true)(hgT:Gl X "list")(hmT:X.mg "list" = none)(hgR:Gl X "range")(hmR:X.mg "range" = none)(ha:PA X [a] ta)(hs:starEach [a] X.env=[(false,eval a X.env)]:=by rfl)
  (hs2:starEach [.Call (.Name "range" p1) [a] [] p2] X.env=[(false,eval (.Call (.Name "range" p1) [a] [] p2) X.env)]:=by rfl):PE X (.Call (.Name "list" p) [.Call (.Name "range" p1) [a] [] p2] [] pos) (IJ ta):=by
 intro pins s σ H Q I h;refine wpAny_Call_Name_kw (ld_blt I hgT hmT boot_list (PyProof.Rows.callWith_type1 ?_ hs2 rfl));rw[hs2];refine Calls.spliced_cons (wpAny_Call_Name_kw (ld_blt I hgR hmR boot_range (PyProof.Rows.callWith_type1 (thn (ha p2 pins s σ H _ I h) fun us s1 ⟨vs,H1,I1,r1,q1⟩=>?_) hs rfl)));obtain⟨j,e,q1,q2,q3,q⟩:=q1;subst e;obtain⟨u,rfl,ru⟩:=cT.one r1;obtain⟨t,rfl⟩:=(show ∃t,u=Value.int j t from ru);refine call_range_1 (Calls.spliced_nil ?_);exact AF hc I1 ⋯ ⋯ q1 q2 (by simpa using q3) (by simpa using q)
end
end L2
namespace DL
open PySem PySem.Spec PySem.SeqAt
open L2 (V Hp St HO VK TE TT TA TS TI TG Cx cQ PE PT PA PS PSs PI PG jj jR de dY cK cC cE cT dR EP TP AP SP jQ It ib)
section
variable {X:Cx}{a b:Expr}{f g:ED}{fb:BD}{p p1 p2 pos:Pos}
theorem CF (hc:X.calm=true)(hmT:X.mg "list" = none)(hmR:X.mg "range" = none)(h:DE X a f)(hgT:L2.Gl X "list" := by rfl)(hgR:L2.Gl X "range" := by rfl)(hs:starEach [a] X.env=[(false,eval a X.env)]:=by rfl)
  (hs2:starEach [.Call (.Name "range" p1) [a] [] p2] X.env=[(false,eval (.Call (.Name "range" p1) [a] [] p2) X.env)]:=by rfl):DE X (.Call (.Name "list" p) [.Call (.Name "range" p1) [a] [] p2] [] pos) (rT (cP f)) :=
 (L2.pe_lstR1 hc hgT hmT hgR hmR (b6 h cy hs) hs hs2).imp fun σ H Q zz=>by
  obtain ⟨ρ,O,M,lad,r0,hE,hf,k⟩:=zz;unfold rT cP at hf;cases hr:f ρ with
  |none=>rw[hr] at hf;cases hf
  |some r =>
   rw[hr,aa] at hf;cases hj:xy r.1 with
   |none=>rw[hj] at hf;cases hf
   |some j =>
    rw[hj,aa] at hf;split at hf
    ·rename_i hb;rw[aa] at hf;split at hf
     ·rename_i hz;cases hf;refine⟨ρ,O,M,lad,[r.1],hE,by unfold b4;rw[hr];rfl,fun vs H1 s1 q1=>?_⟩;rw[xm hj] at q1;cases q1 with
      |cons q qn =>
       cases q;cases qn;refine⟨j,rfl,hb.1,hb.2,by unfold fg at hz;rw[af,aD] at hz;exact hz,fun l hl=>?_⟩;have s2:de H1 (dY H1 l (.lst ((aj j.toNat).map fun (i:Nat)=>V.int (0+i)))):=fun b o e=>by rw[cC (cE e hl)];exact e
       exact k _ _ (s1.trans s2) (.inr ⟨rfl,l,_,_,rfl,rfl,s1.free hl,cK,Ht 0 j.toNat⟩)
     ·cases hf
    ·cases hf
end
mutual
noncomputable def C6:D->Nat->Bool
 |.int _,_=>true
 | .tuple ds,n=>match n with
  |0=>false
  |n+1=>wK ds n
 |_,_=>false
noncomputable def wK:List D->Nat->Bool
 |[],_=>true
 |d::ds,n=>C6 d n&&wK ds n
end
noncomputable def gj:D->Bool
 |.tuple ds=>wK ds 5
 |_=>false
noncomputable def fS (kvs:List (D×D)):Bool:=kvs.all fun p=>gj p.1
noncomputable def pZ (kvs:List (D×D))(k:D):Option D:=(kvs.find? fun p=>same p.1 k).map (·.2)
noncomputable def sM (kvs:List (D×D))(k v:D):List (D×D):=if (pZ kvs k).isSome=true then kvs.map fun p=>if same p.1 k=true then (p.1,v) else p else kvs++[(k,v)]
noncomputable def pD:O2:=fun x y=>match x with
 |.dict kvs=>if (fS kvs&&gj y)=true then (pZ kvs y).map fun d=>(d,false) else none
 |_=>none
noncomputable def zK (i:Nat)(ρ:Sl):Option (List (D×D)):=match ρ[i]? with
 |some (some (.dict [(.dict kvs,.bool true)],true))=>some kvs
 |_=>none
noncomputable def qO (i:Nat):SD:=fun ρ=>if pE (ρ.set i none)=true/\i<ρ.length then some (.next (ρ.set i (some (mJ (.dict []),true)))) else none
noncomputable def uh (i:Nat)(k v:ED):SD:=fun ρ=>(zK i ρ).bind fun kvs=>(v (unown ρ)).bind fun r=>(yc r).bind fun d=>(k (unown ρ)).bind fun z=>(yc z).bind fun y =>
 if (fS kvs&&gj y)=true/\kvs.length<sizeLine then some (.next (ρ.set i (some (mJ (.dict (sM kvs y d)),true)))) else none
noncomputable def iB:List D->Option (List Int)
 |[]=>some []
 |d::ds=>(xy d).bind fun i=>(iB ds).map fun is=>i::is
mutual
noncomputable def tM:D->Nat
 |.int _=>1
 |.tuple ds=>jM ds+1
 |_=>0
noncomputable def jM:List D->Nat
 |[]=>0
 |d::ds=>tM d+jM ds
end
theorem nu:∀xs ys:List D,gY (xs++ys)=gY xs++gY ys
 |[],_=>rfl
 |x::xs,ys=>by rw[JI,gY,gY,nu xs ys];rfl
theorem nD:∀xs ys:List D,jM (xs++ys)=jM xs+jM ys
 |[],_=>by simp[jM]
 |x::xs,ys=>by rw[JI,jM,jM,nD xs ys];omega
theorem yp {prog:Program}{w:World}:∀(n:Nat) (d:D) (A:Around) (E:Value->Shared->Prop) (s:Shared) (v:Value) (as:List Addr) (Q:Int->Shared->Prop),Kb n d->Reads s.heap v d as->A.units+n<cLine->Q (rE d) { s with toks:=s.toks+tM d }->wpAny (model prog w) A (pyHash v) Q E s:=by
 intro n;induction n with
 |zero =>
  intro d A E s v as Q kb rd hu q;cases kb;cases rd;rw[rE,tM] at q;exact wpAny_pyHash_int q
 |succ n ih =>
  intro d A E s v as Q kb rd hu q;cases kb with
  |int _ i =>
   cases rd;rw[rE,tM] at q;exact wpAny_pyHash_int q
  |@tuple _ ds kbs =>
   cases rd with
   |@tuple a o items k _ _ g1 g2 g3 g4 =>
    have tt:s.TypeIs (.ref a) "tuple" := ⟨o,g1,g2⟩;unfold pyHash pyHashByItsType;refine ab (wpAny_cRoomFor_or (.inr ⋯) (ab (wpAny_specialOf tt F.slot_tuple_hash.lookup ?_)));show wpAny _ _ (if (some (Value.builtin "tuple.__hash__")==some Value.none)=true then _ else _) _ _ s;rw[if_neg (by rw[beq_builtin_none];exact Bool.false_ne_true)];refine ab (wpAny_specialOf tt F.slot_tuple_hash.lookup ?_);show wpAny _ _ (callSpecialIfBoundUnlessNone? (.ref a) "__hash__" _>>=_) _ _ s;refine ab (wpAny_callSpecialIfBoundUnlessNone?_slot tt F.slot_tuple_hash (wpAny_call_entry F.slot_tuple_hash tt F.entry_tuple_hash ?_ (F.args_tuple_hash_1 _)));show wpAny _ _ (Builtin.Tuple.tupleItemsOf (.ref a)>>=_) _ _ s;refine ab (wpAny_tupleItemsOf g1 g3 (ab ?_));rw[<-J0];have hu1:A.in1.units=A.units+1:=rfl;refine wpAny_forIn_list _ (fun fN (b:Array Int) s'=>∃done left bs,ds=done++left/\vw n left/\ReadsAll s.heap fN left bs/\b.toList=gY done/\s'={ s with toks:=s.toks+jM done }) _ ?_ ?_ _ _ ⟨[],ds,_,rfl,kbs,g4,rfl,rfl⟩
    ·rintro x fN b s' ⟨done,left,bs,e,kl,rl,hb,rfl⟩;cases rl with
     |@cons _ _ y left' b1 b2 r1 r2 =>
      cases kl with
      |cons k1 k2 =>
       refine ab (ih y A.in1 _ _ x b1 _ k1 r1 ⋯ ?_)
       first
        |exact aq ⟨done++[y],left',b2,by rw[e,ba];rfl,k2,r2,by rw[nu];simp[hb,gY],by rw[nD];simp[jM,Nat.add_assoc]⟩
        |exact ab (aq (aq ⟨done++[y],left',b2,by rw[e,ba];rfl,k2,r2,by rw[nu];simp[hb,gY],by rw[nD];simp[jM,Nat.add_assoc]⟩))
    ·rintro b s' ⟨done,left,bs,e,kl,rl,hb,rfl⟩;cases rl;rw[bj] at e;subst e;show wpAny _ _ (retInt (Builtin.Tuple.tupleHashOf b.toList)) _ _ _;rw[hb];refine wpAny_ret_mkInt ?_;rw[rE,tM] at q;show wpAny _ _ (if (decide (-(2:Int) ^ 63<=Builtin.Tuple.tupleHashOf (gY ds))&&decide (Builtin.Tuple.tupleHashOf (gY ds)<2 ^ 63))=true then _ else _) _ _ _;unfold reduceHash at q;by_cases hr:(decide (-(2:Int) ^ 63<=Builtin.Tuple.tupleHashOf (gY ds))&&decide (Builtin.Tuple.tupleHashOf (gY ds)<2 ^ 63))=true
     ·rw[if_pos hr];rw[if_pos hr] at q;exact aq (by simpa [Nat.add_assoc] using q)
     ·rw[if_neg hr];rw[if_neg hr] at q;exact ab (wpAny_rule (aq (by simpa [Nat.add_assoc] using q)))
mutual
theorem Kb.nb {n:Nat}{d:D}:Kb n d->Nb n d
 |.int _ _=>.int _ _
 |.tuple h=>.tuple (vw.nb h)
theorem vw.nb {n:Nat}{ds:List D}:vw n ds->nV n ds
 |.nil=>.nil
 |.cons h hs=>.cons (Kb.nb h) (vw.nb hs)
end
mutual
theorem Kb.up {n:Nat}{d:D}:Kb n d->∀m,n<=m->Kb m d
 |.int _ _,_,_=>.int _ _
 | .tuple h,m,hm=>by
  obtain⟨m',rfl⟩:∃m',m=m'+1:=⟨m-1,by omega⟩;exact .tuple (vw.up h m' ⋯)
theorem vw.up {n:Nat}{ds:List D}:vw n ds->∀m,n<=m->vw m ds
 |.nil,_,_=>.nil
 |.cons h hs,m,hm=>.cons (Kb.up h m hm) (vw.up hs m hm)
end
theorem Ak {h:Heap}:∀(n:Nat) (x:D) (v:Value) (y:D) (as bs:List Addr),Kb n x->Kb n y->Reads h v x as->Reads h v y bs->x=y:=by
 intro n;induction n with
 |zero =>
  intro x v y as bs kx ky rx ry;cases kx;cases ky;cases rx;cases ry;rfl
 |succ n ih =>
  have all:∀(vs:List Value) (xs ys:List D) (as bs:List Addr),vw n xs->vw n ys->ReadsAll h vs xs as->ReadsAll h vs ys bs->xs=ys:=by
   intro vs;induction vs with
   |nil =>
    intro xs ys as bs _ _ rx ry;cases rx;cases ry;rfl
   |cons v vs ihv =>
    intro xs ys as bs kx ky rx ry;cases rx with
    |cons r1 r2 =>
     cases ry with
     |cons r3 r4 =>
      cases kx with
      |cons k1 k2 =>
       cases ky with
       |cons k3 k4=>rw[ih _ _ _ _ _ k1 k3 r1 r3,ihv _ _ _ _ k2 k4 r2 r4]
  intro x v y as bs kx ky rx ry;cases kx with
  |int _ i =>
   cases rx;cases ky with
   |int _ j=>cases ry;rfl
   |tuple k=>cases ry
  |tuple k1 =>
   cases rx with
   |tuple g1 g2 g3 g4 =>
    cases ky with
    |int _ j=>cases ry
    |tuple k2 =>
     cases ry with
     |tuple f1 f2 f3 f4 =>
      rw[g1] at f1;cases f1;rw[g3] at f3;cases f3;rw[all _ _ _ _ _ k1 k2 g4 f4]
theorem xV {h h':Heap}{d:Addr}{o:Obj}{es:Array DictEntry}{ep:Nat}(hd:h.get? d=some o)(ho:o.data=.dict es ep)(hs:Heap.SameBut d h h'):∀(n:Nat) (x:D) (v:Value) (as:List Addr),Kb n x->Reads h v x as->Reads h' v x as:=by
 intro n;induction n with
 |zero =>
  intro x v as kx rx;cases kx;cases rx;exact .int _ _
 |succ n ih =>
  have all:∀(vs:List Value) (xs:List D) (as:List Addr),vw n xs->ReadsAll h vs xs as->ReadsAll h' vs xs as:=by
   intro vs;induction vs with
   |nil =>
    intro xs as _ rx;cases rx;exact .nil
   |cons v vs ihv =>
    intro xs as kx rx;cases rx with
    |cons r1 r2 =>
     cases kx with
     |cons k1 k2=>exact .cons (ih _ _ _ k1 r1) (ihv _ _ k2 r2)
  intro x v as kx rx;cases kx with
  |int _ i=>cases rx;exact .int _ _
  |tuple k =>
   cases rx with
   |@tuple a o' _ _ _ _ g1 g2 g3 g4 =>
    have ne:a≠d:=fun z=>by
     subst z;rw[g1] at hd;cases hd;rw[g3] at ho;cases ho
    exact .tuple ((hs.2 a ne).trans g1) g2 g3 (all _ _ _ k g4)
theorem v8 {prog:Program}{w:World}:∀(n:Nat) (x:D) (f:Nat) (A:Around) (E:Value->Shared->Prop) (s:Shared) (v:Value) (as:List Addr) (Q:Bool->Shared->Prop),Kb n x->n<=f->Reads s.heap v x as->Q true s->wpAny (model prog w) A (eqIsQuiet f v) Q E s:=by
 intro n;induction n with
 |zero =>
  intro x f A E s v as Q kx hf rx q;cases kx;cases rx;rw[eqIsQuiet_byValue _ rfl];exact aq q
 |succ n ih =>
  intro x f A E s v as Q kx hf rx q;cases kx with
  |int _ i =>
   cases rx;rw[eqIsQuiet_byValue _ rfl];exact aq q
  |@tuple _ ds k =>
   cases rx with
   |@tuple a o items m _ _ g1 g2 g3 g4 =>
    obtain⟨f',rfl⟩:∃f',f=f'+1:=⟨f-1,by omega⟩;have tt:s.TypeIs (.ref a) "tuple" := ⟨o,g1,g2⟩;unfold eqIsQuiet;refine ab (wpAny_specialOf tt F.slot_tuple_eq.lookup ?_);show wpAny _ _ (isInstance (.ref a) (.type "tuple")>>=_) _ _ s;refine ab (wpAny_isInstance tt isSubtype_tuple_tuple ?_);rw[if_neg (by decide)];refine ab (wpAny_seqItems g1 g3 (ab ?_));show wpAny _ _ (forIn items _ _) _ _ s;rw[<-J0];refine wpAny_forIn_list _ (fun fN r s'=>r.1=none/\s'=s/\∃xs bs,vw n xs/\ReadsAll s.heap fN xs bs) _ ?_ ?_ _ _ ⟨rfl,rfl,ds,_,k,g4⟩
    ·rintro y fN r s' ⟨hr,rfl,xs,bs,kk,rr⟩;cases rr with
     |cons r1 r2 =>
      cases kk with
      |cons k1 k2 =>
       refine ab (ih _ f' _ _ _ _ _ _ k1 ⋯ r1 ?_);rw[if_neg (by decide)];exact aq ⟨rfl,rfl,_,_,k2,r2⟩
    ·rintro⟨c1,c2⟩ s' ⟨hr,rfl,_⟩;cases (show c1=none from hr);exact aq q
theorem Cq {n m:Nat}{x y:D}(kx:Kb n x)(ky:Kb m y):PyData.eqv x y=true<->x=y:=by
 rw[<-same_eq_eqv x y (kx.nb.mix ky.nb)];exact⟨fun e=>kx.nb.eq ky.nb e,fun e=>by rw[e];exact same_self _⟩
noncomputable instance decD:DecidableEq D:=fun _ _=>Classical.propDecidable _
def IW (h:Heap)(d:D)(a:Addr):Prop:=Kb 6 d/\∃as,Reads h (.ref a) d as
noncomputable def lP (prog:Program)(w:World):HeapKind prog w D where
 is:=IW
 hash:=rE
 draws:=tM
 room:=fun A=>A.units+100<cLine
 inj:=fun⟨k1,_,r1⟩ ⟨k2,_,r2⟩=>Ak 6 _ _ _ _ _ k1 k2 r1 r2
 keeps:=fun⟨k1,_,r1⟩ hd ho hs=>⟨k1,_,xV hd ho hs 6 _ _ _ k1 r1⟩
 pyHash:=fun hu ⟨k1,_,r1⟩ q=>yp 6 _ _ _ _ _ _ _ k1 r1 ⋯ q
 eqBool:=fun {A E s x y a b Q} hu ⟨k1,_,r1⟩ ⟨k2,_,r2⟩ q=>by
  have e:PyData.eqv x y=decide (x=y):=by
   by_cases z:x=y
   ·rw[(Cq k1 k2).mpr z,decide_eq_true z]
   ·rw[decide_eq_false z];exact Bool.eq_false_iff.mpr fun q=>z ((Cq k1 k2).mp q)
  have dx:=k1.nb.deep;refine eqAt_reads x y A s _ _ _ _ r1 r2 k1.nb.lay k2.nb.lay ⋯ prog w _ _ ?_;rw[e];exact q
 quiet:=fun⟨k1,_,r1⟩ q=>v8 6 _ 8 _ _ _ _ _ _ k1 (by decide) r1 q
mutual
theorem HQ:∀(d:D) (n:Nat),C6 d n=true->Kb n d
 |.int i,n,_=>.int n i
 |.tuple ds,0,h=>by simp[C6] at h
 |.tuple ds,n+1,h=>.tuple (yl ds n (by simpa [C6] using h))
 |.none,n,h=>by simp[C6] at h
 |.bool _,n,h=>by simp[C6] at h
 |.str _,n,h=>by simp[C6] at h
 |.list _,n,h=>by simp[C6] at h
 |.dict _,n,h=>by simp[C6] at h
theorem yl:∀(ds:List D) (n:Nat),wK ds n=true->vw n ds
 |[],n,_=>.nil
 | d::ds,n,h=>by
  simp only[wK,Bool.and_eq_true] at h;exact .cons (HQ d n h.1) (yl ds n h.2)
end
theorem key_of {d:D}(h:gj d=true):Kb 6 d:=by
 cases d <;> first|exact .tuple (yl _ 5 h)|(simp[gj] at h)
theorem uH {K:Fg}{H:Hp}{O:List Addr}{d:D}{v:V}(h:gj d=true)(r:R K H O d v):∃b,v=.ref b:=by
 cases r <;> first|exact⟨_,rfl⟩|(simp[gj] at h)
theorem qj {x y:D}(hx:gj x=true)(hy:gj y=true):same x y=true<->x=y :=
 ⟨fun e=>(key_of hx).nb.eq (key_of hy).nb e,fun e=>by rw[e];exact same_self _⟩
noncomputable def mQ (es:List En)(k:D):Option V:=(es.find? fun p=>same p.1 k).map (·.2.2)
theorem Rd.look {K:Fg}{H:Hp}{O:List Addr}{k:D}:∀{kvs:List (D×D)}{es:List En},Rd K H O kvs es->(pZ kvs k=none/\mQ es k=none)\/∃d v,pZ kvs k=some d/\mQ es k=some v/\R K H O d v
 |_,_,.nil=>.inl ⟨rfl,rfl⟩
 | (k',d)::kvs,(_,u,v)::es,.cons h g r=>by
  by_cases e:Spec.same k' k=true
  ·exact .inr ⟨d,v,by simp[pZ,JB,e],by simp[mQ,JB,e],g⟩
  ·rw[Bool.not_eq_true] at e;have:=Rd.look (k:=k) r;simpa [pZ,mQ,JB,e] using this
theorem Rd.keys {K:Fg}{H:Hp}{O:List Addr}:∀{kvs:List (D×D)}{es:List En},Rd K H O kvs es->es.map (·.1)=kvs.map (·.1)
 |_,_,.nil=>rfl
 |_,_,.cons _ _ r=>by rw[aA,aA,Rd.keys r]
theorem Rd.keyIn {K:Fg}{H:Hp}{O:List Addr}:∀{kvs:List (D×D)}{es:List En}{p:En},Rd K H O kvs es->p∈es->R K H O p.1 p.2.1
 |_,_,_,.nil,h=>nomatch h
 | _,_,_,.cons h g r,hp=>by
  rcases List.mem_cons.mp hp with z|z
  ·subst z;exact h
  ·exact Rd.keyIn r z
theorem lR {kvs:List (D×D)}{es:List En}(e:es.map (·.1)=kvs.map (·.1))(h:fS kvs=true):∀p∈es,gj p.1=true:=fun p hp=>by
 have:p.1∈kvs.map (·.1):=e▸List.mem_map_of_mem hp;obtain⟨q,hq,z⟩:=List.mem_map.mp this;rw[<-z];exact List.all_eq_true.mp h q hq
section
variable {X:Cx}{pins:List (Addr×Obj)}{σ:St}{H:Hp}{s:Shared}{O:List Addr}
theorem m8 {α β:Type}{r:α->β->Prop}:∀{xs:List α}{ys:List β},Paired r xs ys->∀y∈ys,∃x∈xs,r x y
 |_,_,.nil,y,hy=>nomatch hy
 | _,_,.cons h hs,y,hy=>by
  rcases List.mem_cons.mp hy with z|z
  ·subst z;exact⟨_,aQ,h⟩
  ·obtain⟨x,hx,q⟩:=m8 hs y z;exact⟨x,aH _ hx,q⟩
theorem Cy {a:Addr}{es:Es}{kvs:List (D×D)}(I:cQ X pins σ H s)(h:H a=some (mS a es))(hr:Rd X.K H O kvs es.2)(hk:fS kvs=true) :
  ∃xs,Paired pQ es.2 xs/\s.heap.DictOfH (lP X.prog X.w) a xs/\es.2.length<=sizeLine/\(a==sysModules)=false:=by
 obtain⟨⟨z,y,e1,xs,p,ds,ep,e2,e3,e4,e5⟩,_,_⟩:=(show L2.ObjOk X.prog X.w H s.heap a (mS a es) from I.hok a _ h);refine⟨xs,p,⟨es.1,ds,ep,e1,e2,e3,e4,fun x hx=>?_,e5⟩,z,y⟩;obtain⟨q,hq,q1,q2,_⟩:=m8 p x hx;have kq:=lR hr.keys hk q hq;have rq:=hr.keyIn hq;rw[q2] at rq;rw[q1] at kq rq;exact⟨key_of kq,R.reads I rq (key_of kq).nb.lay _ rfl⟩
theorem rK {k:D}(hk:gj k=true):∀{es:List En}{xs:List (D×Addr×Value)},Paired pQ es xs->(∀p∈es,gj p.1=true)->(mQ es k=none/\atKey xs k=none)\/∃v b u,mQ es k=some v/\atKey xs k=some (b,u)/\dR v u
 |_,_,.nil,_=>.inl ⟨rfl,rfl⟩
 | p::es,x::xs,.cons h hs,ok=>by
  obtain⟨h1,h2,h3⟩:=h;have kp:=ok p aQ;by_cases e:same p.1 k=true
  ·have e':x.1=k:=h1▸(qj kp hk).mp e;exact .inr ⟨p.2.2,x.2.1,x.2.2,by simp[mQ,JB,e],by simp[atKey,JB,e'],h3⟩
  ·have e':x.1≠k:=fun z=>e ((qj kp hk).mpr (h1.trans z));rw[Bool.not_eq_true] at e;have:=rK hk hs fun p hp=>ok p (aH _ hp);simpa [mQ,atKey,JB,e,e'] using this
noncomputable def HB (K:Fg):L2.R2:=fun x y H Q=>∃a es kvs O k v,x=.ref a/\H a=some (mS a es)/\Rd K H O kvs es.2/\fS kvs=true/\gj k=true/\R K H O k y/\mQ es.2 k=some v/\Q v H
theorem Gx (hu:X.A.units+200<cLine):L2.IxR X (HB X.K):=by
 intro value slice pins s σ H x y v u Q I rx ry h hs;obtain⟨a,es,kvs,O,k,w,rfl,ha,hr,hk,kk,rk,hl,q⟩:=h;cases rx;obtain⟨xs,p,dm,z,nm⟩:=Cy I ha hr hk;obtain⟨b,rfl⟩:=uH kk rk;cases ry;obtain⟨as,rd⟩:=R.reads I rk (key_of kk).nb.lay _ rfl;rcases rK kk p (lR hr.keys hk) with ⟨e,_⟩|⟨v',b',u',e1,e2,e3⟩
 ·rw[hl] at e;cases e
 ·rw[hl] at e1;cases e1;refine PyProof.Rows.subscriptTail_builtinR (x:=u') dm.typeIs PySem.F.slot_dict_getitem.lookup
   (wpAny_getItem_heap (knd:=lP X.prog X.w) (Q:=fun r s'=>r=u'/\EP X pins σ Q r s') (show X.A.in1.units+100<cLine by have:X.A.in1.units=X.A.units+1:=rfl;omega) ⟨key_of kk,as,rd⟩ dm e2 ⟨rfl,w,H,I.tok _,e3,q⟩) hs
end
section
variable {X:Cx}{a b:Expr}{fb gb:BD}{pos p:Pos}
theorem BR.key {K:Fg}{H:Hp}{O:List Addr}{d:D}{v:V}(k:gj d=true)(h:BR K H O d v):R K H O d v:=by
 rcases h with h|⟨a,ds,vs,e1,_⟩|⟨a,kvs',es,e1,e2,e3,q⟩
 ·exact h
 ·rw[e1] at k;cases k
 ·rw[e1] at k;cases k
theorem Ga:OD X (HB X.K) pD:=by
 intro x y vx vy H O r Q ne hx hy hf k;unfold pD at hf;cases x <;> first|cases hf|skip
 rename_i kvs;dsimp only at hf;split at hf
 ·rename_i c;rw[Bool.and_eq_true] at c;obtain⟨a,es,rfl,ha,hr⟩:=hx.dict;rcases hr.look (k:=y) with ⟨e1,_⟩|⟨d,v,e1,e2,rv⟩
  ·rw[e1] at hf;cases hf
  ·rw[e1] at hf;cases hf;exact⟨a,es,kvs,O,y,v,rfl,ha,hr,c.1,c.2,hy.key c.2,e2,k _ H (.refl H) (.of rv)⟩
 ·cases hf
theorem vi (hu:X.A.units+200<cLine)(ha:DB X a fb)(hb:DB X b gb)(hs:L2.PlainIx b:=by exact fun _ _=>rfl):DE X (.Subscript a b pos) (d2 pD fb gb):=(L2.pe_ix (Gx hu) ha hb hs).imp fun _ _ _ h=>vl Ga h
noncomputable def pj (es:List En)(k:D)(u v:V):List En:=if (mQ es k).isSome=true then es.map fun p=>if same p.1 k=true then (p.1,p.2.1,v) else p else es++[(k,u,v)]
noncomputable def Hv (K:Fg):L2.TSet:=fun o i v H Q=>∃a es kvs O k,o=.ref a/\H a=some (mS a es)/\es.2.length<sizeLine/\Rd K H O kvs es.2/\fS kvs=true/\gj k=true/\R K H O k i/\∀ob,Q (dY H a (mS a (ob,pj es.2 k i v)))
theorem qQ {k:D}{b:Addr}{v:V}{u:Value}(hk:gj k=true)(rv:dR v u){es:List En}{xs:List (D×Addr×Value)}(h:Paired pQ es xs)(ok:∀p∈es,gj p.1=true):Paired pQ (pj es k (.ref b) v) (storedH xs k b u):=by
 have lk:=rK hk h ok;have go:∀{es:List En}{xs:List (D×Addr×Value)},Paired pQ es xs->(∀p∈es,gj p.1=true)->Paired pQ (es.map fun p=>if same p.1 k=true then (p.1,p.2.1,v) else p) (xs.map (putAt k u)):=fun {es xs} h=>by
  induction h with
  |nil=>intro _;exact .nil
  |@cons p x es xs hp hs ih =>
   intro ok;obtain⟨h1,h2,h3⟩:=hp;have kp:=ok p aQ;refine .cons ?_ (ih fun p hp=>ok p (aH _ hp));by_cases e:same p.1 k=true
   ·have e':x.1=k:=h1▸(qj kp hk).mp e;dsimp only;rw[if_pos e];unfold putAt;rw[if_pos e'];exact⟨h1,h2,rv⟩
   ·have e':x.1≠k:=fun z=>e ((qj kp hk).mpr (h1.trans z));dsimp only;rw[if_neg e];unfold putAt;rw[if_neg e'];exact⟨h1,h2,h3⟩
 have app:∀{es:List En}{xs:List (D×Addr×Value)},Paired pQ es xs->Paired pQ (es++[(k,.ref b,v)]) (xs++[(k,b,u)]):=fun {es xs} h=>by
  induction h with
  |nil=>exact .cons ⟨rfl,rfl,rv⟩ .nil
  |cons hp _ ih=>exact .cons hp ih
 unfold pj storedH;rcases lk with ⟨e1,e2⟩|⟨v',b',u',e1,e2,e3⟩
 ·rw[e1,e2,if_neg (by simp),if_neg (by simp)];exact app h
 ·rw[e1,e2,if_pos (by rfl),if_pos (by rfl)];exact go h ok
theorem v9 (es:List En)(k:D)(u v:V):(pj es k u v).length<=es.length+1:=by
 unfold pj;split
 ·rw[af];omega
 ·rw[aw];simp
theorem Dv (hu:X.A.units+200<cLine):L2.PSet X (Hv X.K):=by
 intro pins s σ H o i v ov iv u Q I ro ri rv h;obtain⟨a,es,kvs,O,k,rfl,ha,hz,hr,hk,kk,rk,q⟩:=h;cases ro;obtain⟨xs,p,dm,z,nm⟩:=Cy I ha hr hk;obtain⟨b,rfl⟩:=uH kk rk;cases ri;obtain⟨as,rd⟩:=R.reads I rk (key_of kk).nb.lay _ rfl;have hl:=p.length;refine wpAny_setItem_heap (knd:=lP X.prog X.w) (show X.A.in1.units+100<cLine by have:X.A.in1.units=X.A.units+1:=rfl;omega) ⟨key_of kk,as,rd⟩ dm (fun h' dm' sb=>?_) ⋯;obtain⟨o',ds,ep,e1,e2,e3,e4,_,e5⟩:=dm';have pl:=v9 es.2 k (.ref b) v;have no:L2.ObjOk X.prog X.w (dY H a (mS a (o',pj es.2 k (.ref b) v))) h' a (mS a (o',pj es.2 k (.ref b) v)) :=
  CJ (es:=(o',pj es.2 k (.ref b) v)) ⟨by show (pj es.2 k (.ref b) v).length<=_;omega,nm,e1,storedH xs k b u,qQ kk rv p (lR hr.keys hk),ds,ep,e2,e3,e4,e5⟩
 exact⟨_,I.write (x:=a) (e:=a) (by rw[ha];trivial) (.inl rfl) (fun c o n e=>(sb.2 c n).trans e) ⟨_,e1⟩ no,q o'⟩
theorem Rd.putGo {K:Fg}{H:Hp}{O:List Addr}{k d:D}{v:V}(hv:R K H O d v):∀{kvs:List (D×D)}{es:List En},Rd K H O kvs es->Rd K H O (kvs.map fun p=>if Spec.same p.1 k=true then (p.1,d) else p) (es.map fun p=>if Spec.same p.1 k=true then (p.1,p.2.1,v) else p)
 |_,_,.nil=>.nil
 | (k',_)::_,(_,_,_)::_,.cons h1 h2 r=>by
  rw[aA,aA];by_cases e:Spec.same k' k=true
  ·simp only[e,if_true];exact .cons h1 hv (Rd.putGo hv r)
  ·simp only[e];exact .cons h1 h2 (Rd.putGo hv r)
theorem Rd.put {K:Fg}{H:Hp}{O:List Addr}{kvs:List (D×D)}{es:List En}{k d:D}{u v:V}(h:Rd K H O kvs es)(hk:R K H O k u)(hv:R K H O d v):Rd K H O (sM kvs k d) (pj es k u v):=by
 unfold sM pj;rcases h.look (k:=k) with ⟨e1,e2⟩|⟨d',v',e1,e2,_⟩
 ·rw[e1,e2,if_neg (by simp),if_neg (by simp)];exact h.append (.cons hk hv .nil)
 ·rw[e1,e2,if_pos (by rfl),if_pos (by rfl)];exact Rd.putGo hv h
end
section
variable {prog:Program}{w:World}{A:Around}{E:Value->Shared->Prop}{s:Shared}{d it:Addr}{od:Obj}{ds:Array DictEntry}{ep i n:Nat}
end
theorem qU {α β:Type}{r:α->β->Prop}:∀{xs:List α}{ys:List β}{i:Nat}{x:α},Paired r xs ys->xs[i]?=some x->∃y,ys[i]?=some y/\r x y
 |_,_,_,_,.nil,e=>by simp at e
 |_,_,0,_,.cons h _,e=>by simp at e;subst e;exact⟨_,rfl,h⟩
 |_,_,i+1,_,.cons _ hs,e=>by simpa using qU hs (by simpa using e)
section
variable {X:Cx}{tg e:Expr}{f:ED}
end
theorem yx {i:Nat}{ρ:Sl}{kvs:List (D×D)}(h:zK i ρ=some kvs):ρ[i]?=some (some (mJ (.dict kvs),true)):=by
 unfold zK at h;split at h
 ·rename_i e;cases h;exact e
 ·cases h
section
variable {K:Fg}{H:Hp}{B M:List Addr}{lad:Nat->Addr}{ρ:Sl}{σ:St}{i:Nat}
theorem ER.mutDc {kvs kvs':List (D×D)}{a:Addr}{es es':Es}(h:ER K H (M++B) M lad ρ σ)(hr:ρ[i]?=some (some (mJ (.dict kvs),true)))(e1:σ[i]?=some (some (.ref a)))(e2:H a=some (mS a es))(e3:a∈M)
  (ap:∀(j:Nat) (ys:List D) (c:Addr),ρ[j]?=some (some (.list ys,true))->σ[j]?=some (some (.ref c))->c≠a) (q:Rd K H (M++B) kvs' es'.2) :
  gJ M H M (dY H a (mS a es'))/\ER K (dY H a (mS a es')) (M++B) M lad (ρ.set i (some (mJ (.dict kvs'),true))) σ:=by
 have hi:i<ρ.length:=(List.getElem?_eq_some_iff.mp hr).1;have x:gJ M H M (dY H a (mS a es')):=by
  refine⟨fun b o n e=>?_,fun b xs e=>?_,fun b o u e=>?_,fun b hb=>.inl hb,fun b hb=>?_⟩
  ·rw[cC (fun (z:b=a)=>n (by rw[z];exact e3))];exact e
  ·rw[cC (fun z=>by subst z;rw[e2] at e;cases e)];exact e
  ·rw[cC (fun z=>by subst z;rw[e2] at e;cases e)];exact e
  ·by_cases hz:b=a
   ·subst hz;rw[cK];simp
   ·rw[cC hz];exact hb
 have x':iJ M (M++B) H (M++B) (dY H a (mS a es')):=x.ext;have ne:∀{j:Nat}{y:Vl},(∀c,y≠(mJ c,true))->(ρ.set i (some (mJ (.dict kvs'),true)))[j]?=some (some y)->i≠j:=fun {j y} hy ej z=>by subst z;rw[ay hi] at ej;exact hy _ (Option.some.inj (Option.some.inj ej)).symm
 refine⟨x,fun j d' ej=>?_,fun j d' ej=>?_,fun j d' ej=>?_,fun j k d' e' b e5 e6 e7 e8=>?_,fun b hb=>?_,h.sub,by rw[bf];exact h.len,⟨fun j c ej=>?_,fun j k c c' e5 e6=>?_⟩⟩
 ·have nj:=ne (by intro c z;cases z) ej;rw[ai nj] at ej;obtain⟨v,e5,q5⟩:=h.sh j d' ej;exact⟨v,e5,q5.ext x'⟩
 ·have nj:=ne (by intro c z;cases z) ej;rw[ai nj] at ej;obtain⟨b,us',e6,e7,e8,q5⟩:=h.ow j d' ej;refine⟨b,us',e6,?_,e8,q5.ext x'⟩;rw[cC (ap j d' b ej e6)];exact e7
 ·have nj:=ne (by intro c z;simp[gX,mJ] at z) ej;rw[ai nj] at ej;obtain⟨e6,us',e7,e8,e9,q5⟩:=h.le j d' ej;refine⟨e6,us',?_,e8,e9,q5.ext x'⟩;rw[cC (fun (z:lad j=a)=>e9 (by rw[z];exact e3))];exact e7
 ·have nj:=ne (by intro c z;cases z) e5;have nk:=ne (by intro c z;cases z) e6;rw[ai nj] at e5;rw[ai nk] at e6;exact h.ap j k d' e' b e5 e6 e7 e8
 ·by_cases z:b=a
  ·subst z;exact⟨.inr _,cK⟩
  ·obtain⟨u,e⟩:=h.tr b hb;exact⟨u,by rw[cC z];exact e⟩
 ·by_cases hj:i=j
  ·subst hj;rw[ay hi] at ej;have e5:PyData.dict kvs'=c:=by
    have:=Option.some.inj (Option.some.inj ej);simpa [mJ] using this
   subst e5;refine .inr ⟨_,rfl,a,es',e1,cK,e3,q.ext x',fun k ys c z1 z2=>?_⟩;have nk:=ne (by intro c z;cases z) z1;rw[ai nk] at z1;exact ap k ys c z1 z2
  ·rw[ai hj] at ej;exact absurd (h.dp.one i j (.dict kvs) c hr ej) hj
 ·have one:∀{j:Nat}{c:D},(ρ.set i (some (mJ (.dict kvs'),true)))[j]?=some (some (mJ c,true))->i=j:=fun {j c} ej=>by
   by_cases hj:i=j
   ·exact hj
   ·rw[ai hj] at ej;exact h.dp.one i j (.dict kvs) c hr ej
  exact (one e5).symm.trans (one e6)
theorem AE (h:pE ρ=true){j:Nat}{c:D}:ρ[j]?≠some (some (mJ c,true)):=fun e=>by
 have:=List.all_eq_true.mp h _ (az e);simp[mJ] at this
theorem ER.newDc {p:Addr}(h:ER K H (M++B) M lad ρ σ)(hB:∀c∈M,c∉B)(hp:H p=none)(nd:pE (ρ.set i none)=true)(hi:i<ρ.length)(es:Es)(he:es.2=[]) :
  gJ M H (p::M) (dY H p (mS p es))/\(∀c∈p::M,c∉B)/\ER K (dY H p (mS p es)) ((p::M)++B) (p::M) lad (ρ.set i (some (mJ (.dict []),true))) (σ.set i (some (.ref p))):=by
 have hi':i<σ.length:=by rw[<-h.len];exact hi
 have s:de H (dY H p (mS p es)):=fun b o e=>by rw[cC (cE e hp)];exact e
 have x:iJ [] (M++B) H ((p::M)++B) (dY H p (mS p es)):=iJ.fresh s hp;have notIn:∀b,b∈M++B->b≠p:=fun b hb z=>h.ne b hb (z▸hp);have ne:∀{j:Nat}{y:Vl},(∀c,y≠(mJ c,true))->(ρ.set i (some (mJ (.dict []),true)))[j]?=some (some y)->i≠j:=fun {j y} hy ej z=>by subst z;rw[ay hi] at ej;exact hy _ (Option.some.inj (Option.some.inj ej)).symm
 have one:∀{j:Nat}{c:D},(ρ.set i (some (mJ (.dict []),true)))[j]?=some (some (mJ c,true))->i=j:=fun {j c} ej=>by
  by_cases hj:i=j
  ·exact hj
  ·rw[ai hj] at ej;exact absurd (by rw[ai hj];exact ej) (AE nd (j:=j) (c:=c))
 refine⟨⟨fun b o _ e=>s b o e,fun b _ e=>s b _ e,fun b _ _ e=>s b _ e,fun b hb=>(List.mem_cons.mp hb).elim (fun z=>.inr (z▸hp)) .inl,(gJ.same (M:=M) s).there⟩,fun b hb=>(List.mem_cons.mp hb).elim (fun z hbB=>notIn b (aM _ hbB) z) (hB b),fun j d' ej=>?_,fun j d' ej=>?_,fun j d' ej=>?_,fun j k d' e' b e5 e6 e7 e8=>?_,fun b hb=>?_,fun b hb=>?_,by rw[bf,bf];exact h.len,⟨fun j c ej=>?_,fun j k c c' e5 e6=>(one e5).symm.trans (one e6)⟩⟩
 ·have nj:=ne (by intro c z;cases z) ej;rw[ai nj] at ej ⊢;obtain⟨v,e5,q5⟩:=h.sh j d' ej;exact⟨v,e5,q5.ext x⟩
 ·have nj:=ne (by intro c z;cases z) ej;rw[ai nj] at ej ⊢;obtain⟨b,us',e6,e7,e8,q5⟩:=h.ow j d' ej;exact⟨b,us',e6,s _ _ e7,aH _ e8,q5.ext x⟩
 ·have nj:=ne (by intro c z;simp[gX,mJ] at z) ej;rw[ai nj] at ej ⊢;obtain⟨e6,us',e7,e8,e9,q5⟩:=h.le j d' ej;exact⟨e6,us',s _ _ e7,aH _ e8,fun z=>(List.mem_cons.mp z).elim (fun z=>notIn _ e8 z) e9,q5.ext x⟩
 ·have nj:=ne (by intro c z;cases z) e5;have nk:=ne (by intro c z;cases z) e6;rw[ai nj] at e5 e7;rw[ai nk] at e6 e8;exact h.ap j k d' e' b e5 e6 e7 e8
 ·rcases kR hb with z|z
  ·subst z;exact⟨.inr _,cK⟩
  ·obtain⟨u,e⟩:=h.tr b z;exact⟨u,s _ _ e⟩
 ·rcases List.mem_cons.mp hb with z|z
  ·subst z;exact aU _ aQ
  ·exact aU _ (aH _ z)
 ·have hj:=one ej;subst hj;rw[ay hi] at ej;have e5:PyData.dict []=c:=by
   have:=Option.some.inj (Option.some.inj ej);simpa [mJ] using this
  subst e5;refine .inr ⟨_,rfl,p,es,ay hi',cK,aQ,by rw[he];exact .nil,fun k ys c z1 z2 z3=>?_⟩;have nk:=ne (by intro c z;cases z) z1;rw[ai nk] at z1 z2;obtain⟨b,us',e6,e7,e8,q5⟩:=h.ow k ys z1;rw[z2] at e6;cases e6;exact notIn _ (aU _ e8) z3
end
section
variable {X:Cx}{e ek ev:Expr}{f ke vx:ED}{pos p1 p2 py:Pos}{i:Nat}{x:Str}{st:Stmt}{F:SD}{sts:List Stmt}
noncomputable def FK:TE:=fun _ H Q=>∀p es,H p=none->es.2=[]->Q (.ref p) (dY H p (mS p es))
theorem BF:PE X (.Dict [] [] pos) FK:=fun pins s σ H Q I h=>by
 have no:L2.ObjOk X.prog X.w (dY H s.heap.objs.size (mS s.heap.objs.size ({ cls:=.type "dict", data:=.dict #[] },[]))) (s.heap.push { cls:=.type "dict", data:=.dict #[] }) s.heap.objs.size (mS s.heap.objs.size ({ cls:=.type "dict", data:=.dict #[] },[])) :=
  CJ (es:=({ cls:=.type "dict", data:=.dict #[] },[])) ⟨bx _,beq_eq_false_iff_ne.mpr (Ne.symm (aR (Nat.lt_trans (by decide) (I.mod.glob.keeps I.bk).lt))),aG _ rfl,[],.nil,#[],0,⟨rfl,rfl,rfl⟩,rfl,rfl,List.nodup_nil⟩
 exact wpAny_Dict_empty ⟨.ref s.heap.objs.size,_,I.laid (a:=s.heap.objs.size) (t':=s.toks) (fun _ _ q=>ae _ q) (aB _) no,rfl,h _ _ (I.hok.fresh (aB _)) rfl⟩
theorem Cv (hN:X.N.Nodup)(hi:X.N[i]?=some x:=by rfl)(hx:L2.Loc X.env.scope x:=by first|exact Or.inl rfl|exact Or.inr rfl)(hs:swapsWith (.Dict [] [] p1) (some (.Name x py)) pos.line X.env=pure false:=by rfl)
  (hf:X.fn x=true\/X.env.scope.names.lookup x=some .local:=by first|exact .inl rfl|exact .inr rfl|assumption):DS X (.Assign [.Name x py] (.Dict [] [] p1) pos) (qO i):=fun B H₀ M₀ lad=>(L2.ps_set hN hi hx BF hs hf).imp fun E σ H zz=>by
 obtain ⟨ρ,fl,⟨M,hx,hB,hE⟩,hf,k⟩:=zz;unfold qO at hf;split at hf
 ·rename_i c;cases hf;intro p es hp he;obtain⟨y1,y2,y3⟩:=hE.newDc hB hp c.1 c.2 es he;exact k _ _ ⟨_,hx.trans y1,y2,y3⟩
 ·cases hf
theorem Cu (hu:X.A.units+200<cLine)(hk:DE X ek ke)(he:DE X ev vx)(hN:X.N[i]?=some x:=by rfl)(hv:L2.Vis X.env.scope x:=by first|exact Or.inl rfl|exact Or.inr (Or.inl rfl)|exact Or.inr (Or.inr rfl))(hd:(x==("__debug__" : Str))=false:=by decide)
  (hcd:(x==("__classdict__" : Str))=false:=by decide)
  (ha:∀v,assign (.Subscript (.Name x p1) ek p2) X.env v=(do
   let ov <-holding [v] (eval (.Name x p1) X.env)
   let iv <-holding [v,ov] (eval ek X.env)
   standAt p2
   holding [v,ov,iv] (setItem ov iv v)
   release [v,ov,iv] []):=by intro _;rfl)
  (hs:swapsWithSole [.Subscript (.Name x p1) ek p2] ev pos.line X.env=pure false:=by rfl) (hw:swappedStores [.Subscript (.Name x p1) ek p2] ev X.env=pure none:=by rfl)
  (h1:(assignEach [.Subscript (.Name x p1) ek p2] X.env).map (·.2)=[assign (.Subscript (.Name x p1) ek p2) X.env]:=by rfl) :
  DS X (.Assign [.Subscript (.Name x p1) ek p2] ev pos) (uh i ke vx):=fun B H₀ M₀ lad =>
 (L2.ps_asg he (L2.pg_sub (L2.pe_var hN hv hd hcd) hk (Dv hu) ha) hs hw h1).imp fun E σ H zz=>by
  obtain ⟨ρ,fl,⟨M,hx,hB,hE⟩,hf,k⟩:=zz;have ne0:∀{Hx:Hp},∀a∈([]:List Addr),Hx a≠none:=fun a ha=>nomatch ha;unfold uh at hf;obtain⟨kvs,hr0,hf⟩:=Option.bind_eq_some_iff.mp hf;obtain⟨r,hr,hf⟩:=Option.bind_eq_some_iff.mp hf;obtain⟨d,ho,hf⟩:=Option.bind_eq_some_iff.mp hf;obtain⟨z,hz,hf⟩:=Option.bind_eq_some_iff.mp hf;obtain⟨y,hy,hf⟩:=Option.bind_eq_some_iff.mp hf;split at hf
  ·rename_i c;cases hf;rw[Bool.and_eq_true] at c;have hr':=yx hr0;obtain⟨a,es,e1,e2,e3,q,ap⟩:=hE.dp.dc i kvs hr';obtain⟨er,lf⟩:=tm ho;obtain⟨ey,ly⟩:=tm hy;subst er ey;refine⟨unown ρ,[],[],lad,_,hE.unown,hr,fun v H1 s1 q1=>⟨.ref a,e1,unown ρ,[],[],lad,_,hE.unown.same s1,hz,fun u H2 s2 q2=>?_⟩⟩;have S:de H H2:=s1.trans s2;have rk:R X.K H2 (M++B) y u:=(q2.toR ne0).lf ly;have rv:R X.K H2 (M++B) d v:=((q1.toR ne0).lf lf).same s2;have rd:=q.same S;refine⟨a,es,kvs,M++B,y,rfl,S _ _ e2,by rw[<-rd.length];exact c.2,rd,c.1.1,c.1.2,rk,fun ob=>?_⟩;obtain⟨sx,E5⟩:=(hE.same S).mutDc (es':=(ob,pj es.2 y u v)) hr' e1 (S _ _ e2) e3 ap (rd.put rk rv);exact k _ _ ⟨M,(hx.trans (.same S)).trans sx,hB,E5⟩
  ·cases hf
end
open PySem
open PySem PyProof.Rows
section
variable {prog:Program}{w:World}{A:Around}{E:Value->Shared->Prop}{s:Shared}
end
end DL
set_option maxHeartbeats 3200000
namespace DL
open PySem PyProof.Rows
section
variable {prog:Program}{w:World}{A:Around}{R:Result->Shared->Prop}{I:Addr}{fp wr:List Addr}{G:Array GenState->Array GenState->Prop}{n:Nat}{P:Nat->Value->Prop}{St:Nat->Shared->Prop}{led:Bool}
end
section
variable {prog:Program}{w:World}{A:Around}{E:Value->Shared->Prop}{s:Shared}
end
section
variable {prog:Program}{w:World}{A:Around}{E:Value->Shared->Prop}{s:Shared}{a it:Addr}{o:Obj}{es:Array (Int×Value)}{ep i:Nat}{t:SetTable}{led:Bool}{σ:List Int}
variable {n slot:Nat}
end
section
variable {prog:Program}{w:World}{A:Around}{E:Value->Shared->Prop}{s:Shared}{a it:Addr}{o:Obj}{es:Array (Int×Value)}{ep n:Nat}{t:SetTable}{led:Bool}{σ:List Int}
end
section
variable {prog:Program}{w:World}{A:Around}{E:Value->Shared->Prop}{s:Shared}{a it:Addr}{o:Obj}{es:Array (Int×Value)}{ep n:Nat}{t:SetTable}{led:Bool}{σ:List Int}
end
open PySem PySem.W PySem.Calls PyProof.Rows PyProof.V PySem.Spec
section
variable {prog:Program}{w:World}{A:Around}{E:Value->Shared->Prop}{s:Shared}{a it:Addr}{o:Obj}{es:Array (Int×Value)}{ep n:Nat}{t:SetTable}{σ:List Int}
end
section
variable {prog:Program}{w:World}{A:Around}{E:Value->Shared->Prop}{s:Shared}
end
open PySem PySem.Spec PySem.SeqAt PyProof.Rows
open L2 (V Hp St HO VK TE TT TA TS TI TG Cx cQ PE PT PA PS PSs PI PG jj jR de dY cK cC cE cT dR EP TP AP SP jQ It ib)
section
variable {X:Cx}
variable {a b:Expr}{fb gb:BD}{pos p p2 p3:Pos}
theorem ku {K:Fg}{H:Hp}{O:List Addr}:∀{ds:List D}{vs:List V}{is:List Int},iB ds=some is->Rs K H O ds vs->vs=is.map V.int:=by
 intro ds;induction ds with
 |nil =>
  intro vs is h q;cases h;cases q;rfl
 |cons d ds ih =>
  intro vs is h q;unfold iB at h;obtain⟨i,hd,h⟩:=Option.bind_eq_some_iff.mp h;cases hs:iB ds with
  |none=>rw[hs] at h;cases h
  |some js =>
   rw[hs,av] at h;cases h;cases d <;> first|(cases hd;done)|skip
   cases hd;cases q with
   |cons r rs =>
    cases r;rw[ih hs rs];rfl
end
end DL
namespace L2
open PySem PySem.Spec PyProof.Rows
section
variable {prog:Program}{w:World}{A:Around}{E:Value->Shared->Prop}{s:Shared}
end
end L2
namespace DL
open PySem PySem.Spec PySem.SeqAt PyProof.Rows
open L2 (V Hp HO VK TE TT TA TS TI TG Cx cQ PE PT PA PS PSs PI PG jj jR de dY cK cC cE cT dR EP TP AP SP jQ It ib)
section
variable {X:Cx}{a:Expr}{fb:BD}{pos p:Pos}
end
end DL
namespace L2
open PySem PySem.Spec PyProof.Rows
section
variable {X:Cx}{a b:Expr}{ta:TA}{p p1 p2 pos:Pos}
end
end L2
namespace DL
open PySem PySem.Spec PySem.SeqAt
open L2 (V Hp St HO VK TE TT TA TS TI TG Cx cQ PE PT PA PS PSs PI PG jj jR de dY cK cC cE cT dR EP TP AP SP jQ It ib)
section
variable {X:Cx}{a b:Expr}{f g:ED}{p p1 p2 pos:Pos}
end
noncomputable def yo:D->Option (List D)
 |.dict kvs=>if fS kvs=true then some (kvs.map fun p=>.tuple [p.1,p.2]) else none
 |_=>none
noncomputable def uP (f:ED):AD:=fun ρ=>(f ρ).bind fun x=>yo x.1
noncomputable def eS (p:Nat)(ρ:Sl):Option (List Int):=match ρ[p]? with
 |some (some (.dict [(.list xs,.none)],true))=>iB xs
 |_=>none
noncomputable def qo (p:Nat)(ρ:Sl):Option (List Int):=match ρ[p]? with
 |some (some (.list xs,true))=>iB xs
 |_=>none
noncomputable def lA (ns:List Int):D:=gX (ns.map .int)
noncomputable abbrev MD:=List Int->List D->Option (D×List Int)
noncomputable def l9 (i:Nat):BD:=fun ρ=>match ρ[i]? with
 |some (some (.dict [(.list xs,.none)],true))=>some (.list xs)
 |_=>none
noncomputable def pT (i:Nat)(k f:ED):SD:=fun ρ=>(f ρ).bind fun x=>(xy x.1).bind fun n=>(k ρ).bind fun y=>(xy y.1).bind fun j=>(eS i ρ).bind fun ns=>(vC ns.length j).bind fun p =>
 if iA (ρ.set i none)=true then some (.next (ρ.set i (some (lA (ns.set p n),true)))) else none
noncomputable def jK (i:Nat)(G:MD)(t:AD)(j:Nat):SD:=fun ρ=>(eS i ρ).bind fun ns=>(t ρ).bind fun ds=>(G ns ds).bind fun r =>
 if iA (ρ.set i none)=true/\i≠j then some (.next ((ρ.set i (some (lA r.2,true))).set j (some (r.1,false)))) else none
noncomputable def ui (i:Nat)(G:MD)(t:AD):SD:=fun ρ=>(qo i ρ).bind fun ns=>(t ρ).bind fun ds=>(G ns ds).bind fun r=>some (.next (ρ.set i (some (.list (r.2.map .int),true))))
noncomputable def vX (p:Nat)(it:AD)(g:GD)(b:SD):SD:=fun ρ=>if iA (ρ.set p none)=true/\(eS p ρ).isSome=true then (it (ρ.set p none)).bind fun ds=>eA g b ds ρ else none
noncomputable def rV (G:MD)(f1 f2:ED):ED:=fun ρ=>(f1 ρ).bind fun x=>(f2 ρ).bind fun y=>(IT y).bind fun ds=>(iB ds).bind fun ns=>(G ns [x.1]).map fun r=>(r.1,false)
noncomputable def wb (n1:Nat)(ns:List Int)(ds:List D)(m:Nat):Sl:=(ds.take n1).map (fun d=>some (d,false))++some (lA ns,true)::((ds.drop n1).map (fun d=>some (d,false))++aI m none)
noncomputable def GB (n n1 m:Nat)(b:SD)(f:ED):MD:=fun ns ds=>if ds.length+1=n/\n1<=ds.length then (b (wb n1 ns ds m)).bind fun fl=>match fl with
 |.next ρ=>(f ρ).bind fun r=>(eS n1 ρ).map fun ms=>(r.1,ms)
 |_=>none else none
noncomputable def jF:List D->List D->List (D×D)->Option (List (D×D))
 |x::xs,y::ys,kvs=>if gj x=true then jF xs ys (sM kvs x y) else none
 |_,_,kvs=>some kvs
noncomputable def yD (f g:AD):ED:=fun ρ=>(f ρ).bind fun xs=>(g ρ).bind fun ys=>if xs.length<=sizeLine then (jF xs ys []).map fun kvs=>(.dict kvs,false) else none
section
variable {prog:Program}{w:World}{A:Around}{E:Value->Shared->Prop}{s:Shared}{d it v:Addr}{od:Obj}{ds:Array DictEntry}{ep i n:Nat}{ok ov:Value}
theorem yL {Q:Value->Shared->Prop}(hd:(d==sysModules)=false)(ho:s.heap.get? d=some od)(hc:od.ExactDict)
  (hQ:Q (.ref s.heap.objs.size) { s with heap:=s.heap.push { cls:=.type "dict_items", data:=.fields #[.ref d] } }):wpAny (model prog w) A (call (.builtin "dict.items") [.ref d]) Q E s:=by
 have hT:s.TypeIs (.ref d) "dict" := ⟨od,ho,hc.1⟩;refine wpAny_call_entry F.slot_dict_items hT F.entry_dict_items ?_ (F.args_dict_items_1 _);unfold Builtin.«dict.items»;refine ab ?_;unfold Builtin.Dict.noArgs;refine ab (wpAny_notOrdered_dict hT ?_);show wpAny _ _ (pure d) _ _ s;refine aq ?_;show wpAny _ _ (Builtin.Dict.showsAll d>>=_) _ _ s;unfold Builtin.Dict.showsAll;rw[if_neg (by rw[hd];exact Bool.false_ne_true)];refine ab (aq ?_);exact ab (bW (aq ⟨_,rfl,hQ⟩))
theorem yn {Q:Value->Shared->Prop}(hv:s.heap.IsItemsView v d)(ho:s.heap.get? d=some od)(hdat:od.data=.dict ds ep)(hn:ds.size=n)
  (hQ:Q (.ref s.heap.objs.size) { s with heap:=s.heap.push { cls:=.type "dict_itemiterator", data:=.fields #[.none,.bool false,.ref d,.int 0 0,.int n 0,.int ep 0,.none,.none] } }):wpAny (model prog w) A (pyIter (.ref v)) Q E s:=by
 obtain⟨oV,hoV,hcV,hdV⟩:=id hv;refine wpAny_pyIter_slot hv.typeIs F.slot_dict_items_iter (wpAny_call_entry F.slot_dict_items_iter hv.typeIs F.entry_dict_items_iter ?_ (F.args_dict_items_iter_1 _));unfold Builtin.«dict_items.__iter__»;refine ab (aq (ab ?_));unfold Builtin.Dict_items.dictOf;refine ab (aZ hoV hdV (x:=.ref d) rfl (aq (ab ?_)));unfold Builtin.Dict_items.newIterator;refine ab (wpAny_dictEntries ho hdat (ab (wpAny_dictEpoch ho hdat ?_)));have hown:Builtin.Dict_items.ownsTuple "dict_itemiterator" = true:=by decide
 simp only[hown,if_true];refine bW (aq ⟨_,rfl, "dict_itemiterator", _,⟨_,aG _ rfl,rfl⟩,F.slot_dict_itemiterator_next.lookup,?_⟩) (by simp only[sizeOk,Builtin.Dict_items.ownedTupleFields,aE,aw,aJ,bU,sizeLine_eq];omega);simpa [rawInt,hn,Builtin.Dict_items.ownedTupleFields] using hQ
theorem yd {Q:Option Value->Shared->Prop}(lF:IsItemIter s.heap it d i n ep ok ov)(hod:s.heap.get? d=some od)(hdd:od.data=.dict ds ep)(hn:ds.size=n)(hi:i<ds.size)
  (hQ:∀h',IsItemIterOut h' it d (i+1) n ep ds[i].key ds[i].val s.heap.objs.size->h'.get? s.heap.objs.size=some { cls:=.type "tuple", data:=.seq #[ds[i].key,ds[i].val] }->h'.objs.size=s.heap.objs.size+1 →
   (∀b o,b≠it->s.heap.get? b=some o->h'.get? b=some o)->Q (some (.ref s.heap.objs.size)) { s with heap:=h' }):wpAny (model prog w) A (pyNext (.ref it)) Q E s:=by
 obtain⟨hp,g,dr,tk,os⟩:=s;have hT:Shared.TypeIs ⟨hp,g,dr,tk,os⟩ (.ref it) "dict_itemiterator" := ⟨_,lF,rfl⟩;unfold pyNext;refine ab (wpAny_attempt (wpAny_callSpecial?_slot (name:=Str.ofString "__next__") hT F.slot_dict_itemiterator_next (wpAny_call_entry F.slot_dict_itemiterator_next hT F.entry_dict_itemiterator_next ?_ (F.args_dict_itemiterator_next_1 _))));refine ab (aq (ab (ab ?_)));first|refine ab (wpAny_typeNameOfWhole_itemiter hT (aq ?_))|refine ab (wpAny_typeNameOf_itemiter hT (aq ?_)) <;> skip
 refine ab (wpAny_fieldsOf lF rfl ?_);have hown:Builtin.Dict_items.ownsTuple "dict_itemiterator" = true:=by decide
 simp only[hown,if_true];show wpAny _ _ (if (Value.ref d==Value.none)=true then _ else _) _ _ _;rw[if_neg (show ¬((Value.ref d==Value.none)=true) from Bool.false_ne_true)];refine ab (aq (ab (wpAny_dictEntries hod hdd ?_)));rw[if_neg (by rw[hn];simp)];refine ab (aq (ab (wpAny_dictEpoch hod hdd ?_)));rw[if_neg (by simp)];refine aq ?_;simp only[show ¬((i:Int)<0) from by omega,if_false,aV,JJ hi];refine ab ?_
 first|refine ab (wpAny_typeNameOfWhole_itemiter hT (aq ?_))|refine ab (wpAny_typeNameOf_itemiter hT (aq ?_)) <;> skip
 refine ab (wpAny_isOneOf_itemiter hT ?_);show wpAny _ _ (setField (.ref it) 3 (rawInt ((i:Int)+1))>>=_) _ _ ⟨hp,g,dr,tk,os⟩;refine ab (aW lF (by simp) fun h1 he1 hs1=>?_)
 replace hs1:Heap.SameBut it hp h1:=hs1
 replace he1:IsItemIter h1 it d (i+1) n ep ok ov:=by
  have e:((i+1:Nat):Int)=(i:Int)+1:=by omega
  unfold IsItemIter;rw[e];simpa [rawInt] using he1
 have hT1:Shared.TypeIs ⟨h1,g,dr,tk,os⟩ (.ref it) "dict_itemiterator" := ⟨_,he1,rfl⟩;refine ab (bK (ab (wpAny_isOneOf_itemiter hT1 (ab (wpAny_isOneOf_itemiter hT1 ?_)))));show wpAny _ _ (Builtin.Dict_items.pairFromOwner (.ref it) 6 ds[i].key ds[i].val) _ _ ⟨h1,g,dr,tk,os⟩;unfold Builtin.Dict_items.pairFromOwner;refine ab (wpAny_newTuple ?_);have he2:IsItemIter (h1.push { cls:=.type "tuple", data:=.seq #[ds[i].key,ds[i].val] }) it d (i+1) n ep ok ov:=ae _ he1;generalize hh2:h1.push { cls:=.type "tuple", data:=.seq #[ds[i].key,ds[i].val] }=h2 at he2;have hz1:h1.objs.size=hp.objs.size:=hs1.1;have hil:it<hp.objs.size:=aC lF;have ht2:h2.get? hp.objs.size=some { cls:=.type "tuple", data:=.seq #[ds[i].key,ds[i].val] }:=by rw[<-hh2,<-hz1];exact aG _ rfl
 have hz2:h2.objs.size=hp.objs.size+1:=by rw[<-hh2,br,hz1]
 have hk2:∀b o,b≠it->hp.get? b=some o->h2.get? b=some o:=fun b o hb e=>by rw[<-hh2];exact ae _ (hs1.extBut b o hb e)
 show wpAny _ _ (Builtin.Dict_items.ownedTupleIsFree (.ref it)>>=_) _ _ ⟨h2,g,dr,tk,os⟩;rw[hz1];clear hh2 he1 hs1 hT1 hz1 h1;refine ab ?_;unfold Builtin.Dict_items.ownedTupleIsFree;refine ab (aZ he2 rfl (x:=.none) rfl (aq ?_));simp only[if_true];refine ab (aZ he2 rfl (x:=ok) rfl (ab (aZ he2 rfl (x:=ov) rfl (ab (aW he2 (by simp) fun h3 he3 hs3=>?_)))))
 replace hs3:Heap.SameBut it h2 h3:=hs3
 replace he3:IsItemIter h3 it d (i+1) n ep ds[i].key ov:=he3
 refine ab (aW he3 (by simp) fun h4 he4 hs4=>?_)
 replace hs4:Heap.SameBut it h3 h4:=hs4
 replace he4:IsItemIter h4 it d (i+1) n ep ds[i].key ds[i].val:=he4
 refine ab (aW he4 (by simp) fun h5 he5 hs5=>?_)
 replace hs5:Heap.SameBut it h4 h5:=hs5
 replace he5:IsItemIterOut h5 it d (i+1) n ep ds[i].key ds[i].val hp.objs.size:=he5
 refine ab (aW he5 (by simp) fun h6 he6 hs6=>?_)
 replace hs6:Heap.SameBut it h5 h6:=hs6
 have st:∀b o,b≠it->h2.get? b=some o->h6.get? b=some o:=fun b o hb e=>hs6.extBut b o hb (hs5.extBut b o hb (hs4.extBut b o hb (hs3.extBut b o hb e)));refine ab (wpAny_letGo (aq (aq ⟨_,rfl,aq (hQ h6 he6 (st _ _ (bq hil) ht2) ?_ fun b o hb e=>st b o hb (hk2 b o hb e))⟩)));show h6.objs.size=hp.objs.size+1;rw[hs6.1,hs5.1,hs4.1,hs3.1,hz2]
theorem xK {Q:Option Value->Shared->Prop}(hh:A.handled=none)(lF:IsItemIter s.heap it d i n ep ok ov)(hod:s.heap.get? d=some od)(hdd:od.data=.dict ds ep)(hn:ds.size=n)(hi:ds.size<=i)
  (hQ:∀h',Heap.ExtBut it s.heap h'->Q none { s with heap:=h' }):wpAny (model prog w) A (pyNext (.ref it)) Q E s:=by
 have hT:s.TypeIs (.ref it) "dict_itemiterator" := ⟨_,lF,rfl⟩;unfold pyNext;refine ab (wpAny_attempt (wpAny_callSpecial?_slot (name:=Str.ofString "__next__") hT F.slot_dict_itemiterator_next (wpAny_call_entry F.slot_dict_itemiterator_next hT F.entry_dict_itemiterator_next ?_ (F.args_dict_itemiterator_next_1 _))));refine ab (aq (ab (ab ?_)));first|refine ab (wpAny_typeNameOfWhole_itemiter hT (aq ?_))|refine ab (wpAny_typeNameOf_itemiter hT (aq ?_)) <;> skip
 refine ab (wpAny_fieldsOf lF rfl ?_);have hown:Builtin.Dict_items.ownsTuple "dict_itemiterator" = true:=by decide
 simp only[hown,if_true];show wpAny _ _ (if (Value.ref d==Value.none)=true then _ else _) _ _ s;rw[if_neg (show ¬((Value.ref d==Value.none)=true) from Bool.false_ne_true)];refine ab (aq (ab (wpAny_dictEntries hod hdd ?_)));rw[if_neg (by rw[hn];simp)];refine ab (aq (ab (wpAny_dictEpoch hod hdd ?_)));rw[if_neg (by simp)];refine aq ?_;simp only[show ¬((i:Int)<0) from by omega,if_false,aV,Array.getElem?_eq_none hi];refine ab ?_
 first|refine ab (wpAny_typeNameOfWhole_itemiter hT (aq ?_))|refine ab (wpAny_typeNameOf_itemiter hT (aq ?_)) <;> skip
 show wpAny _ _ (setField (.ref it) 2 .none>>=_) _ _ s;refine ab (wpAny_setField lF rfl (by simp) ?_);show wpAny _ _ (newExc (.type "StopIteration") []>>=_) _ _ _;refine ab ?_;simp only[newExc,newTuple];refine ab (bW ?_ (by size_fits));refine ab (m:=firstArgMember _ _) (wpAny_of_eq (a:=Value.none) (by first|rfl|(simp only[firstArgMember];rfl)) ?_);refine bW ?_ (by size_fits);simp only[raiseNew];refine ab (wpAny_handled ?_);rw[show A.in1.handled=none from hh];refine ab (aq (wpAny_throw ?_));refine ab (wpAny_isInstance (T := "StopIteration") (b:=true) ⟨_,aG _ rfl,rfl⟩ isSubtype_stop ?_);exact aq (hQ _ (((Heap.SameBut.update ..).extBut.push _).push _))
theorem xP:entryFor table "dict_itemiterator.__iter__" = some Builtin.«dict_keyiterator.__iter__»:=entryFor_alias (id' := "dict_keyiterator.__iter__") (by kernel_rfl) (by first|rfl|decide +kernel|(unfold String.splitOn;simp +decide [String.splitOnAux])) (by decide +kernel) (by kernel_rfl)
theorem xO {Q:Value->Shared->Prop}(lF:IsItemIter s.heap it d i n ep ok ov)(h:Q (.ref it) s):wpAny (model prog w) A (pyIter (.ref it)) Q E s:=by
 have hT:s.TypeIs (.ref it) "dict_itemiterator" := ⟨_,lF,rfl⟩;refine wpAny_pyIter_slot hT F.slot_dict_itemiterator_iter (wpAny_call_entry F.slot_dict_itemiterator_iter hT xP ?_ (F.args_dict_itemiterator_iter_1 _));show wpAny _ _ (ret (.ref it)) _ _ s;exact aq ⟨_,rfl, "dict_itemiterator", _,hT,F.slot_dict_itemiterator_next.lookup,h⟩
end
noncomputable def Jm (a:Addr)(es:Es):It:=⟨fun i H=>H a=some (mS a es)/\i<es.2.length,fun i H x H'=>∃T p,x=.ref T/\H T=none/\H'=dY H T (.tup [p.2.1,p.2.2])/\es.2[i]?=some p,fun i H=>H a=some (mS a es)/\es.2.length<=i⟩
theorem xG {P:Program}{w:World}{K:Fg}{tes:List Expr}{tk:Nat}{tp:Pos}(a it:Addr)(es:Es)(hai:a≠it):L2.Turn P w K (.Tuple tes tk tp) (Jm a es) [it] it (fun i h=>∃ep ok ov,(∃ds,es.1.data=.dict ds ep)/\IsItemIter h it a i es.2.length ep ok ov) where
 mem:=by simp
 obj:=fun i h st b hb=>by
  have e:b=it:=by simpa using hb
  subst e;obtain⟨ep,ok,ov,_,st⟩:=st;exact⟨_,st,fun v z=>by cases z⟩
 keep:=fun i h h' st k=>by
  obtain⟨ep,ok,ov,q,st⟩:=st;exact⟨ep,ok,ov,q,k it (by simp) _ st⟩
 item:=by
  intro X hP hw hK hc i pins s σ H E I hf st hg;subst hP hw hK;obtain⟨ha,hi⟩:=hg;obtain⟨ep,ok,ov,⟨ds,hds⟩,st⟩:=st;obtain⟨⟨z,y,e1,xs,p,ds',ep',e2,e3,e4,e5⟩,_,_⟩:=(show L2.ObjOk X.prog X.w H s.heap a (mS a es) from I.hok a _ ha);rw[hds] at e3;cases e3;have fe:=hf it (by simp);have hl:=p.length;have hz:ds.size=es.2.length:=by rw[<-bY,e4,af,hl]
  have hi':i<ds.size:=by omega
  have hxi:i<xs.length:=by omega
  have ek:ds[i]=AW xs[i]:=by
   have:ds.toList[i]?=some (AW xs[i]):=by rw[e4,au,ao hxi];rfl
   rw[Array.getElem?_toList,JJ hi'] at this;exact Option.some.inj this
  obtain⟨x,hx,pe⟩:=qU p (ao hi);rw[ao hxi] at hx;cases hx;have ilt:it<s.heap.objs.size:=aC st;have fr:H s.heap.objs.size=none:=I.hok.fresh (aB _);refine yd st e1 hds hz hi' fun h' ho hT hsz hk=>⟨_,rfl,?_⟩;have I1:cQ X pins σ (dY H s.heap.objs.size (.tup [es.2[i].2.1,es.2[i].2.2])) { s with heap:=h',toks:=s.toks }:=by
   refine I.turnedLay (fp:=[it]) (fun b o hb q=>hk b o (fun z=>hb (by simp[z])) q) (fun b hb=>?_) hf (aB _) ⟨L2.sz2',[ds[i].key,ds[i].val],?_,⟨_,hT,rfl,_,rfl⟩⟩
   ·have z:b=it:=by simpa using hb
    subst z;exact⟨_,ho⟩
   ·rw[ek,pe.2.1];exact .cons rfl (.cons pe.2.2 .nil)
  refine wpAny_letOwnedTupleGo_items (s:={ s with heap:=h',toks:=s.toks }) ho fun h2 he2 hs2=>?_;have I2:cQ X pins σ (dY H s.heap.objs.size (.tup [es.2[i].2.1,es.2[i].2.2])) { s with heap:=h2,toks:=s.toks } :=
   cQ.turned (s:={ s with heap:=h',toks:=s.toks }) (it:=it) (t':=s.toks) I1 (fun b o hb q=>(hs2.2 b hb).trans q) (by rw[cC (aR ilt)];exact fe.1) fe.2.1 fe.2.2.2.1 fe.2.2.2.2.1 fe.2.2.2.2.2
  refine⟨.ref s.heap.objs.size,_,I2,rfl,⟨_,es.2[i],rfl,fr,rfl,ao hi⟩,⟨ep,_,_,⟨ds,hds⟩,he2⟩,fun b hb=>?_⟩;have z:b=it:=by simpa using hb
  subst z;rw[cC (aR ilt)];exact fe.1
 done:=by
  intro X hP hw hK hc i pins s σ H E I hf st hg;subst hP hw hK;obtain⟨ha,hi⟩:=hg;obtain⟨ep,ok,ov,⟨ds,hds⟩,st⟩:=st;obtain⟨⟨z,y,e1,xs,p,ds',ep',e2,e3,e4,e5⟩,_,_⟩:=(show L2.ObjOk X.prog X.w H s.heap a (mS a es) from I.hok a _ ha);rw[hds] at e3;cases e3;obtain⟨f0,f1,f2,f3,f4,f5⟩:=hf it (by simp);have hl:=p.length;have hz:ds.size=es.2.length:=by rw[<-bY,e4,af,hl]
  exact xK (I.ok.hd hc) st e1 hds hz ⋯ fun h' eb=>⟨rfl,I.turned (t':=s.toks) (fun b o hb e=>eb b o hb e) f0 f1 f3 f4 f5⟩
 self:=fun _ _ _ _ _ st h=>by
  obtain⟨_,_,_,_,st⟩:=st;exact xO st h
theorem uM {K:Fg}{H:Hp}{M O:List Addr}{a:Addr}{kvs:List (D×D)}{es:Es}(h:H a=some (mS a es))(n:a∉M)(q:Rd K H O kvs es.2):md K (Jm a es) (kvs.map fun p=>.tuple [p.1,p.2]) M O H:=by
 intro O2 H2 x;have h2:=x.ext _ _ n h;have q2:=q.ext x;have hl:=q.length;refine⟨fun i d e=>?_,h2,by rw[af,hl];exact aB _⟩;rw[au] at e;cases e':kvs[i]? with
 |none=>rw[e'] at e;cases e
 |some p =>
  rw[e'] at e;cases e;obtain⟨u,v,eu,r1,r2⟩:=q2.get e';have hi:=(List.getElem?_eq_some_iff.mp eu).1;refine⟨⟨h2,hi⟩,fun y H3 ⟨T,p',ey,hT,eH,hp⟩=>?_⟩;subst ey eH;rw[eu] at hp;cases hp;have s2:de H2 (dY H2 T (.tup [u,v])):=fun b o e=>by rw[cC (cE e hT)];exact e
  exact⟨s2,.tuple (.inl (.inl cK)) (.cons (r1.same s2) (.cons (r2.same s2) .nil))⟩
section
variable {X:Cx}{e:Expr}{f:ED}{p pos tp:Pos}{tes:List Expr}{tk:Nat}
theorem CA (h:DE X e f)(hbase:attributeBase e "items" X.env (eval e X.env)=eval e X.env:=by rfl)(hline:(p.endLine==pos.line)=true:=by rfl):DI X (.Tuple tes tk tp) (.Call (.Attribute e "items" p) [] [] pos) (uP f):=by
 intro pins s σ H R I ⟨ρ,O,M,lad,ks,hE,hf,k⟩;unfold uP at hf;obtain⟨r,hr,hf⟩:=Option.bind_eq_some_iff.mp hf;refine wpAny_Call_method0_late hbase hline (L2.thn (h pins s σ H _ I ⟨ρ,O,M,lad,r,hE,hr,fun v H1 s1 q1=>(⟨s1,q1⟩:de H H1/\vE X.K H O H1 r v)⟩) fun v s1 zz=>?_);obtain ⟨x,H1,I1,r1,s2,q1⟩:=zz;have q:=q1.toR hE.ne;unfold yo at hf;cases e0:r.1 <;> rw[e0] at hf <;> first|cases hf|skip
 rename_i kvs;rw[e0] at q;dsimp only at hf;split at hf
 ·rename_i hk;cases hf;cases q with
  |@dict a _ es ha na hd =>
   cases (show v=Value.ref a from r1);obtain⟨⟨z,y,e1,xs,p,ds,ep,e2,e3,e4,e5⟩,_,_⟩:=(show L2.ObjOk X.prog X.w H1 s1.heap a (mS a es) from I1.hok a _ ha);have hl:=p.length;have hz:ds.size=es.2.length:=by rw[<-bY,e4,af,hl]
   have alt:a<s1.heap.objs.size:=aC e1;refine⟨"dict", "dict.items", F.plainAttrs_dict,F.slot_dict_items,F.type_dict_items,⟨_,e1,e2.1⟩,fun b eb=>by cases eb;exact⟨_,e1,e2.2.1⟩,PySem.Calls.callWith_builtin rfl (PySem.evalArgs_none (yL y e1 e2 ?_))⟩;refine yn (s:={ s1 with heap:=s1.heap.push { cls:=.type "dict_items", data:=.fields #[.ref a] } }) ⟨_,aG _ rfl,rfl,rfl⟩ (ae _ e1) e3 hz ?_;have hsz:(s1.heap.push { cls:=.type "dict_items", data:=.fields #[.ref a] }).objs.size=s1.heap.objs.size+1:=br ..;rw[hsz];refine⟨s1.heap.objs.size+1,[s1.heap.objs.size+1],_,_,H1,rfl,I1.kept (t':=s1.toks) fun b o e=>ae _ (ae _ e),xG a _ es (aR (Nat.lt_succ_of_lt alt)),⟨ep,.none,.none,⟨ds,e3⟩,?_⟩,fun b hb=>?_,k _ H1 s2 (uM ha (fun z=>na ((hE.same s2).sub _ z)) hd)⟩
   ·have q:=aG (s1.heap.push { cls:=.type "dict_items", data:=.fields #[.ref a] }) (o:={ cls:=.type "dict_itemiterator", data:=.fields #[.none,.bool false,.ref a,.int 0 0,.int es.2.length 0,.int ep 0,.none,.none] }) rfl;rw[hsz] at q;exact q
   ·have e:b=s1.heap.objs.size+1:=by simpa using hb
    subst e;exact I1.fpOk (JE _) (I1.hok.fresh (JE _))
 ·cases hf
end
theorem kr (K:Fg)(H:Hp)(O:List Addr):∀ns:List Int,Rs K H O (ns.map .int) (ns.map V.int)
 |[]=>.nil
 |n::ns=>.cons (.int n) (kr K H O ns)
theorem rD:∀ns:List Int,iB (ns.map .int)=some ns
 |[]=>rfl
 |n::ns=>by simp only[aA,iB,xy,aa,rD ns,av]
theorem gu {p:Nat}{ρ:Sl}{ns:List Int}(h:eS p ρ=some ns):∃xs,ρ[p]?=some (some (gX xs,true))/\iB xs=some ns:=by
 unfold eS at h;split at h
 ·rename_i xs e;exact⟨xs,e,h⟩
 ·cases h
theorem um {p:Nat}{ρ:Sl}{ns:List Int}(h:qo p ρ=some ns):∃xs,ρ[p]?=some (some (.list xs,true))/\iB xs=some ns:=by
 unfold qo at h;split at h
 ·rename_i xs e;exact⟨xs,e,h⟩
 ·cases h
theorem AA {ρ:Sl}{i j:Nat}{xs:List D}(no:iA (ρ.set i none)=true)(e:ρ[j]?=some (some (gX xs,true))):i=j:=by
 by_cases z:i=j
 ·exact z
 ·exact (tx no (by rw[ai z];exact e)).elim
theorem ER.mutL {K:Fg}{H:Hp}{O M:List Addr}{lad:Nat->Addr}{ρ:Sl}{σ:St}{i:Nat}{ds ds':List D}{vs':List V}(h:ER K H O M lad ρ σ)(hr:ρ[i]?=some (some (gX ds,true)))(no:iA (ρ.set i none)=true)(q:Rs K H O ds' vs') :
  ER K (dY H (lad i) (.lst vs')) O M lad (ρ.set i (some (gX ds',true))) σ:=by
 have hi:i<ρ.length:=(List.getElem?_eq_some_iff.mp hr).1;obtain⟨e1,us,e2,e3,e4,q0⟩:=h.le i _ hr;generalize ha:lad i=a at e1 e2 e3 e4;have x:iJ [a] O H O (dY H a (.lst vs')):=by
  refine⟨fun b xs e=>?_,fun b o u e=>?_,fun b xs n e=>?_,fun b φ n e=>?_,fun b hb=>.inl hb,fun b hb=>(List.mem_singleton.mp hb)▸e3⟩
  ·rw[cC (fun (z:b=a)=>by rw[z,e2] at e;cases e)];exact e
  ·rw[cC (fun (z:b=a)=>by rw[z,e2] at e;cases e)];exact e
  ·rw[cC (fun (z:b=a)=>n (by rw[z];exact List.mem_singleton.mpr rfl))];exact e
  ·rw[cC (fun (z:b=a)=>n (by rw[z];exact List.mem_singleton.mpr rfl))];exact e
 have ne:∀b∈M,b≠a:=fun b hb z=>e4 (z▸hb);refine⟨fun j d' ej=>?_,fun j d' ej=>?_,fun j d' ej=>?_,fun j k d' e' b e5 e6 e7 e8=>?_,fun b hb=>?_,h.sub,by rw[bf];exact h.len,h.dp.go x (fun j c ej=>?_) (fun b hb _=>⟨hb,fun _ e=>by rw[cC (ne b hb)];exact e⟩) fun j es c ej ec=>.inr ?_⟩
 ·have nj:i≠j:=fun z=>by subst z;rw[ay hi] at ej;cases ej
  rw[ai nj] at ej;obtain⟨v,e5,q5⟩:=h.sh j d' ej;exact⟨v,e5,q5.ext x⟩
 ·have nj:i≠j:=fun z=>by subst z;rw[ay hi] at ej;cases ej
  rw[ai nj] at ej;obtain⟨b,us',e6,e7,e8,q5⟩:=h.ow j d' ej;exact⟨b,us',e6,by rw[cC (ne b e8)];exact e7,e8,q5.ext x⟩
 ·by_cases hj:i=j
  ·subst hj;rw[ay hi] at ej;cases ej;rw[ha];exact⟨e1,vs',cK,e3,e4,q.ext x⟩
  ·rw[ai hj] at ej;exact absurd (AA no ej) hj
 ·have nj:i≠j:=fun z=>by subst z;rw[ay hi] at e5;cases e5
  have nk:i≠k:=fun z=>by subst z;rw[ay hi] at e6;cases e6
  rw[ai nj] at e5;rw[ai nk] at e6;exact h.ap j k d' e' b e5 e6 e7 e8
 ·by_cases hz:b=a
  ·subst hz;exact⟨.inl vs',cK⟩
  ·rw[cC hz];exact h.tr b hb
 ·have nj:i≠j:=fun z=>by
   subst z;rw[ay hi] at ej;have:=congrArg (fun (x:Option (Option Vl))=>match x with|some (some (.dict [(_,.none)],_))=>true|_=>false) ej;simp[gX,mJ] at this
  rw[ai nj] at ej;exact⟨ej,rfl⟩
 ·have nj:i≠j:=fun z=>by subst z;rw[ay hi] at ej;cases ej
  rw[ai nj] at ej;exact⟨j,es,ej,ec⟩
theorem gJ.putL {M₀ M:List Addr}{H₀ H:Hp}{a:Addr}{us vs:List V}(x:gJ M₀ H₀ M H)(ha:a∈M₀)(e:H a=some (.lst us)):gJ M₀ H₀ M (dY H a (.lst vs)) where
 keep:=fun b o n q=>by rw[cC (fun (z:b=a)=>n (z▸ha))];exact x.keep b o n q
 tup:=fun b xs q=>by
  have:=x.tup b xs q;rw[cC (fun (z:b=a)=>by rw[z,e] at this;cases this)];exact this
 frz:=fun b o u q=>by
  have:=x.frz b o u q;rw[cC (fun (z:b=a)=>by rw[z,e] at this;cases this)];exact this
 new:=x.new
 there:=fun b hb=>by
  by_cases z:b=a
  ·subst z;rw[cK];simp
  ·rw[cC z];exact x.there b hb
def Fs (p:Nat)(X:Cx)(st:Stmt)(F:SD):Prop:=∀B H₀ M₀ lad,lad p∈M₀->PS X st (uS X.K B H₀ M₀ lad F)
def xu (p:Nat)(X:Cx)(st:List Stmt)(F:SD):Prop:=∀B H₀ M₀ lad,lad p∈M₀->PSs X st (uS X.K B H₀ M₀ lad F)
section
variable {X:Cx}{p:Nat}{e c tg iter:Expr}{es:List Expr}{f:ED}{t:TD}{pos:Pos}{st:Stmt}{fN body:List Stmt}{F G:SD}{it:AD}{gd:GD}
theorem zG (h:DS X st F):Fs p X st F:=fun B H₀ M₀ lad _=>h B H₀ M₀ lad
theorem oI (h1:Fs p X st F)(h2:xu p X fN G):xu p X (st::fN) (cG F G):=fun B H₀ M₀ lad hp=>(L2.pss_cons (h1 B H₀ M₀ lad hp) (h2 B H₀ M₀ lad hp)).imp fun E σ H zz=>by
 obtain ⟨ρ,fl,hR,hf,k⟩:=zz;unfold cG at hf;obtain⟨fl1,hx,hf⟩:=Option.bind_eq_some_iff.mp hf;refine⟨ρ,fl1,hR,hx,?_⟩;cases fl1 with
 |next ρ'=>exact fun σ' H' r=>⟨ρ',fl,r,hf,k⟩
 |ret r=>cases hf;exact k
 |brk ρ'=>cases hf;exact k
 |cont ρ'=>cases hf;exact k
theorem vh (h1:Fs p X st F):xu p X [st] F:=fun B H₀ M₀ lad hp=>L2.pss_one (h1 B H₀ M₀ lad hp)
theorem AX (hc:DT X c t)(hb:xu p X body F)(hp:PassesOwn (model X.prog X.w) X.A X.env X.xe:=by exact PassesOwn.never):Fs p X (.While c body [] pos) (j4 t F):=fun B H₀ M₀ lad hm=>(L2.ps_while hp hc (hb B H₀ M₀ lad hm)).imp fun E σ H zz=>by
 obtain ⟨ρ,fl,hR,hf,k⟩:=zz;obtain⟨n,hn⟩:=pS hf;refine⟨fun m σ' H'=>∃ρ',SR X.K B H₀ M₀ lad ρ' σ' H'/\eO t F m ρ'=some fl,⟨n,ρ,hR,hn⟩,?_⟩;rintro m σ' H' ⟨ρ',⟨M,hx,hB,hE⟩,hw⟩;cases m with
 |zero=>cases hw
 |succ m =>
  unfold eO at hw;obtain⟨c,ht,hw⟩:=Option.bind_eq_some_iff.mp hw;refine⟨ρ',_,M,lad,c,hE,ht,fun H1 s1=>?_⟩;have r1:SR X.K B H₀ M₀ lad ρ' σ' H1:=⟨M,hx.trans (.same s1),hB,hE.same s1⟩;cases c with
  |false =>
   dsimp only at hw ⊢;rw[if_neg Bool.false_ne_true] at hw ⊢;cases hw;exact k σ' H1 r1
  |true =>
   dsimp only at hw ⊢;rw[if_pos rfl] at hw ⊢;obtain⟨fl1,hF,hw⟩:=Option.bind_eq_some_iff.mp hw;refine⟨fun σ2 H2=>∃ρ2,SR X.K B H₀ M₀ lad ρ2 σ2 H2/\eO t F m ρ2=some fl,fun σ2 H2 r2=>⟨m,Nat.lt_succ_self m,r2⟩,ρ',fl1,r1,hF,?_⟩;cases fl1 with
   |next ρ2=>exact fun σ4 H4 r4=>⟨ρ2,r4,hw⟩
   |cont ρ2=>exact fun σ4 H4 r4=>⟨ρ2,r4,hw⟩
   |brk ρ2=>cases hw;exact k
   |ret r=>cases hw;exact k
theorem ER.hide {K:Fg}{H:Hp}{B M:List Addr}{lad:Nat->Addr}{ρ:Sl}{σ:St}{ds:List D}(h:ER K H (M++B) M lad ρ σ)(hr:ρ[p]?=some (some (gX ds,true)))(no:iA (ρ.set p none)=true) :
  ER K H ((lad p::M)++B) (lad p::M) lad (ρ.set p none) σ:=by
 obtain⟨e1,us,e2,e3,e4,q0⟩:=h.le p _ hr;have hi:p<ρ.length:=(List.getElem?_eq_some_iff.mp hr).1;have back:∀{j:Nat}{x:Vl},(ρ.set p none)[j]?=some (some x)->ρ[j]?=some (some x):=fun {j x} ej=>by
  by_cases z:p=j
  ·subst z;rw[ay hi] at ej;cases ej
  ·rw[ai z] at ej;exact ej
 have m:∀b∈(lad p::M)++B,b∈M++B:=fun b hb=>(kR hb).elim (fun z=>z▸e3) id;have x:iJ [] (M++B) H ((lad p::M)++B) H:=.less m;refine⟨fun j d ej=>?_,fun j d ej=>?_,fun j d ej=>(tx no ej).elim,fun j k d e a e5 e6=>h.ap j k d e a (back e5) (back e6),fun b hb=>h.tr b (m b hb),fun b hb=>aU _ hb,by rw[bf];exact h.len,h.dp.go x (fun j c ej=>⟨back ej,rfl⟩) (fun b hb _=>⟨aH _ hb,fun _ e=>e⟩) fun j es c ej ec=>.inr ⟨j,es,back ej,ec⟩⟩
 ·obtain⟨v,e5,q5⟩:=h.sh j d (back ej);exact⟨v,e5,q5.ext x⟩
 ·obtain⟨a,vs,e5,e6,e7,q5⟩:=h.ow j d (back ej);exact⟨a,vs,e5,e6,aH _ e7,q5.ext x⟩
noncomputable def Jq (K:Fg)(p:Nat)(F:SD):TS:=fun E σ H=>∃B H₀ M₀ lad,lad p∈M₀/\uS K B H₀ M₀ lad F E σ H
theorem xu.x (h:xu p X fN F):PSs X fN (Jq X.K p F):=fun pins s σ H D I ⟨B,H₀,M₀,lad,hp,q⟩=>h B H₀ M₀ lad hp pins s σ H D I q
theorem Ey (hc:X.calm=true)(hi:DI X tg iter it)(hg:DG X tg gd)(hb:xu p X body F)(hp:PassesOwn (model X.prog X.w) X.A X.env X.xe:=by exact PassesOwn.never)
  (hs:∀x,foldedSetIterable iter X.env x=pure x:=by intro _;rfl):Fs p X (.For tg iter body [] pos) (vX p it gd F):=fun B H₀ M₀ lad hm=>(L2.ps_for hp hc hi hg hb.x hs).imp fun E σ H zz=>by
 obtain ⟨ρ,fl,⟨M,hx,hB,hE⟩,hf,k⟩:=zz;unfold vX at hf;split at hf
 ·rename_i hno;obtain⟨no,hpl⟩:=hno;obtain⟨ds,hd,hf⟩:=Option.bind_eq_some_iff.mp hf;obtain⟨ns0,hn0⟩:=Option.isSome_iff_exists.mp hpl;obtain⟨xs0,hr0,_⟩:=gu hn0
  ·refine⟨ρ.set p none,_,lad p::M,lad,ds,hE.hide hr0 no,hd,fun J H1 s1 iok=>?_⟩;have x1:gJ M₀ H₀ (lad p::M) H1:=by
    have z:=hx.trans (.same s1);exact⟨z.keep,z.tup,z.frz,fun b hb=>(List.mem_cons.mp hb).elim (fun q=>.inl (q▸hm)) (z.new b),z.there⟩
   have x0:gJ (lad p::M) H1 M H1:=⟨fun _ _ _ e=>e,fun _ _ e=>e,fun _ _ _ e=>e,fun b hb=>.inl (aH _ hb),fun _ h=>h⟩;refine⟨fun i m σ' H'=>m=ds.length-i/\i<=ds.length/\∃ρ',SR X.K B H1 (lad p::M) lad ρ' σ' H'/\eA gd F (ds.drop i) ρ'=some fl,⟨ds.length,by simp,bx _,ρ,⟨M,x0,hB,hE.same s1⟩,by simpa using hf⟩,?_⟩;rintro i m σ' H' ⟨rfl,hi,ρ',hR,hl⟩;obtain⟨M',x',hB',hE'⟩:=id hR;obtain⟨go,stop⟩:=iok _ _ x'.ext;by_cases hlt:i<ds.length
   ·have ed:ds.drop i=ds[i]::ds.drop (i+1):=bT hlt;rw[ed] at hl;unfold eA at hl;obtain⟨ρ1,hg1,hl⟩:=Option.bind_eq_some_iff.mp hl;obtain⟨fl1,hF,hl⟩:=Option.bind_eq_some_iff.mp hl;obtain⟨g1,g2⟩:=go i ds[i] (by simp[hlt]);refine .inr ⟨g1,fun σ2 H2=>∃ρ2,SR X.K B H1 (lad p::M) lad ρ2 σ2 H2/\eA gd F (ds.drop (i+1)) ρ2=some fl,fun σ2 H2 ⟨ρ2,r2,l2⟩=>⟨ds.length-(i+1),by omega,rfl,hlt,ρ2,r2,l2⟩,fun x H2 hy=>?_⟩;obtain⟨s2,q2⟩:=g2 x H2 hy;refine⟨ρ',_,M',lad,ds[i],ρ1,hE'.same s2,q2,hg1,fun σ3 H3 s3 E3=>⟨B,H1,lad p::M,lad,aQ,ρ1,fl1,⟨M',(x'.trans (.same s2)).trans (.same s3),hB',E3⟩,hF,?_⟩⟩;cases fl1 with
    |next ρ2=>exact fun σ4 H4 r4=>⟨ρ2,r4,hl⟩
    |cont ρ2=>exact fun σ4 H4 r4=>⟨ρ2,r4,hl⟩
    |brk ρ2 =>
     cases hl;exact fun σ4 H4 r4=>k σ4 H4 (r4.up x1)
    |ret r =>
     cases hl;exact fun v H4 r4=>k v H4 (r4.up x1)
   ·have e:i=ds.length:=by omega
    subst e;rw[JQ] at hl;cases hl;exact .inl ⟨stop,k σ' H' (hR.up x1)⟩
 ·cases hf
theorem qv (i:Nat){x:Str}(hN:X.N[i]?=some x:=by rfl)(hv:L2.Vis X.env.scope x:=by first|exact Or.inl rfl|exact Or.inr (Or.inl rfl)|exact Or.inr (Or.inr rfl))(hd:(x==("__debug__" : Str))=false:=by decide)
  (hcd:(x==("__classdict__" : Str))=false:=by decide):DB X (.Name x pos) (l9 i):=(L2.pe_var hN hv hd hcd).imp fun σ H Q zz=>by
 obtain ⟨ρ,O,M,lad,d,hE,hf,k⟩:=zz;unfold l9 at hf;split at hf
 ·rename_i ds hr;cases hf;obtain⟨e2,vs,e3,e4,e5,q⟩:=hE.le i _ hr;exact⟨_,e2,k _ H (.refl H) (.inr (.inl ⟨_,ds,vs,rfl,rfl,e3,q⟩))⟩
 ·cases hf
theorem GY {d:D}{j:Int}(h:xy d=some j):d=.int j:=by
 cases d <;> first|(cases h;rfl)|cases h
theorem vE.int {K:Fg}{H H':Hp}{O:List Addr}{r:Vl}{v:V}{j:Int}(tr:∀a∈O,H a≠none)(h:xy r.1=some j)(q:vE K H O H' r v):v=.int j:=by
 have:=q.toR tr;rw[GY h] at this;cases this;rfl
theorem wH (ns:List Int)(p:Nat)(n:Int):(ns.map V.int).set p (.int n)=(ns.set p n).map V.int:=by rw[List.map_set]
theorem zF {x:Str}{p1 p2:Pos}{kx:ED}{ke:Expr}(hk:DE X ke kx)(he:DE X e f)(hN:X.N[p]?=some x:=by rfl)(hv:L2.Vis X.env.scope x:=by first|exact Or.inl rfl|exact Or.inr (Or.inl rfl)|exact Or.inr (Or.inr rfl))(hd:(x==("__debug__" : Str))=false:=by decide)
  (hcd:(x==("__classdict__" : Str))=false:=by decide)
  (ha:∀v,assign (.Subscript (.Name x p1) ke p2) X.env v=(do
   let ov <-holding [v] (eval (.Name x p1) X.env)
   let iv <-holding [v,ov] (eval ke X.env)
   standAt p2
   holding [v,ov,iv] (setItem ov iv v)
   release [v,ov,iv] []):=by intro _;rfl)
  (hs:swapsWithSole [.Subscript (.Name x p1) ke p2] e pos.line X.env=pure false:=by rfl) (hw:swappedStores [.Subscript (.Name x p1) ke p2] e X.env=pure none:=by rfl)
  (h1:(assignEach [.Subscript (.Name x p1) ke p2] X.env).map (·.2)=[assign (.Subscript (.Name x p1) ke p2) X.env]:=by rfl) :
  Fs p X (.Assign [.Subscript (.Name x p1) ke p2] e pos) (pT p kx f):=fun B H₀ M₀ lad hm =>
 (L2.ps_asg he (L2.pg_sub (L2.pe_var hN hv hd hcd) hk L2.set_list ha) hs hw h1).imp fun E σ H zz=>by
  obtain ⟨ρ,fl,⟨M,hx,hB,hE⟩,hf,k⟩:=zz;unfold pT at hf;simp only[bG] at hf;obtain⟨r,hr,n,hn,y,hy,j,hj,ns,hns,q,hq,hf⟩:=hf;split at hf
  ·rename_i no;cases hf;obtain⟨xs,hi,hint⟩:=gu hns;obtain⟨e1,vs,e2,e3,e4,qs⟩:=hE.le p _ hi;have ev:=ku hint qs;subst ev;refine⟨ρ,_,M,lad,r,hE,hr,fun v H1 s1 q1=>⟨_,e1,ρ,_,M,lad,y,hE.same s1,hy,fun u H2 s2 q2=>?_⟩⟩;have E2:=(hE.same s1).same s2;have e2':=s2 _ _ (s1 _ _ e2);refine⟨lad p,ns.map V.int,j,q,rfl,q2.int (hE.same s1).ne hj,e2',by rw[af];exact hq,?_⟩;rw[q1.int hE.ne hn,wH];exact k _ _ ⟨M,(hx.trans (.same (s1.trans s2))).putL hm e2',hB,E2.mutL hi no (kr _ _ _ _)⟩
  ·cases hf
noncomputable def FP (K:Fg)(n1:Nat)(G:MD):L2.Sp:=fun vs H Q _=>∃us1 us2 a ns ds B r,vs=us1++.ref a::us2/\us1.length=n1/\H a=some (.lst (ns.map V.int))/\a∉B/\Rs K H (a::B) ds (us1++us2)/\(∀b∈a::B,∃u,H b=some (oW u))/\G ns ds=some r ∧
 ∀v H',(∀b o,b≠a->H b=some o->H' b=some o)->H' a=some (.lst (r.2.map V.int))->R K H' (a::B) r.1 v->Q v H'
structure qd (P:Program)(w:World)(K:Fg)(mg:Str->Option Value)(base:Heap)(k:Nat)(x:Str)(ps:List Str)(n1:Nat)(G:MD):Prop where
 ex:∃(fa:Addr) (fd:FuncData),L2.FnOk P w K mg base L2.CX0 k fa fd ps (FP K n1 G)/\mg x=some (.ref fa)/\PySem.W.keepIn K (.ref fa)=true/\L2.Binds K fd ps []
theorem de.of_but {H H1 H':Hp}{a:Addr}{vs:List V}(k:∀b o,b≠a->H b=some o->H' b=some o)(e:H' a=some (.lst vs)):de (dY H a (.lst vs)) H':=fun b o q=>by
 by_cases z:b=a
 ·subst z;rw[cK] at q;cases q;exact e
 ·rw[cC z] at q;exact k b o z q
theorem rL {x y:Str}{k j i:Nat}{ps:List Str}{g:MD}{t:AD}{p1 p2 p3 py:Pos}(Gf:qd X.prog X.w X.K X.mg X.base k y ps 0 g)(hr:L2.Room j X.A)(hN0:X.N.Nodup)(ha:DA X es t)(hj:k<=j:=by decide){z:Str}(hN:X.N[p]?=some x:=by rfl)(hv:L2.Vis X.env.scope x:=by first|exact Or.inl rfl|exact Or.inr (Or.inl rfl)|exact Or.inr (Or.inr rfl))(hd:(x==("__debug__" : Str))=false:=by decide)
  (hcd:(x==("__classdict__" : Str))=false:=by decide) (hg:L2.Gl X y:=by rfl) (hdb:(y==("__debug__" : Str))=false:=by decide) (he:starEach (.Name x p1::es) X.env=(false,eval (.Name x p1) X.env)::starEach es X.env:=by rfl) (hpl:(backTo p3 (starEach es X.env)).any (·.1)=false:=by rfl)
  (hi:X.N[i]?=some z:=by rfl) (hx:L2.Loc X.env.scope z:=by first|exact Or.inl rfl|exact Or.inr rfl) (hs:swapsWith (.Call (.Name y p2) (.Name x p1::es) [] p3) (some (.Name z py)) pos.line X.env=pure false:=by rfl) (hf':X.fn z=true\/X.env.scope.names.lookup z=some .local:=by first|exact .inl rfl|exact .inr rfl|assumption) :
  Fs p X (.Assign [.Name z py] (.Call (.Name y p2) (.Name x p1::es) [] p3) pos) (jK p g t i):=by
 obtain⟨fa,fd,h1,h2,h3,h4⟩:=Gf.ex;refine fun B H₀ M₀ lad hm=>(L2.ps_set hN0 hi hx (L2.pe_call h1 (hr.mono hj) hg h2 h3 h4 (.nil:cT [] []) L2.pass0 (L2.pa_cons (L2.pe_var hN hv hd hcd) ha he) hdb he hpl) hs hf').imp fun E σ H zz=>?_;obtain ⟨ρ,fl,⟨M,hx,hB,hE⟩,hf,kk⟩:=zz;unfold jK at hf;simp only[bG] at hf;obtain⟨ns,hns,ds,hds,r,hr,hf⟩:=hf;split at hf
 ·rename_i no;obtain⟨no,nij⟩:=no;cases hf;obtain⟨xs,hi,hint⟩:=gu hns;obtain⟨e1,vs,e2,e3,e4,qs⟩:=hE.le p _ hi;have ev:=ku hint qs;subst ev;refine⟨_,e1,ρ,_,M,lad,ds,hE,hds,fun us H1 s1 q1=>?_⟩;have E1:=hE.same s1;have e2':=s1 _ _ e2;have sub1:∀b∈lad p::(M++B).filter (fun b=>decide (b≠lad p)),b∈M++B:=fun b hb=>(List.mem_cons.mp hb).elim (fun z=>z▸e3) fun z=>(List.mem_filter.mp z).1;have sub2:∀b∈M++B,b∈lad p::(M++B).filter (fun b=>decide (b≠lad p)):=fun b hb=>by
   by_cases z:b=lad p
   ·subst z;exact aQ
   ·exact aH _ (List.mem_filter.mpr ⟨hb,decide_eq_true z⟩)
  dsimp only;rw[bj];refine⟨[],us,lad p,ns,ds,(M++B).filter (fun b=>decide (b≠lad p)),r,rfl,rfl,e2',fun z=>absurd rfl (of_decide_eq_true (List.mem_filter.mp z).2),q1.ext (.less sub1),fun b hb=>E1.tr b (sub1 b hb),hr,fun v H' kp ea rv=>?_⟩;have E2:=(E1.mutL hi no (kr X.K H1 (M++B) r.2)).same (de.of_but (H1:=H1) kp ea);have x2:gJ M₀ H₀ M H':=((hx.trans (.same s1)).putL hm e2' (vs:=r.2.map V.int)).trans (.same (de.of_but (H1:=H1) kp ea));obtain⟨M',x3,B3,E3⟩:=E2.set i hB (.refl _) (.of (rv.ext (.less sub2)));exact kk _ _ ⟨M',x2.trans x3,B3,E3⟩
 ·cases hf
theorem Cw {x y:Str}{k j i:Nat}{ps:List Str}{g:MD}{t:AD}{p1 p2 p3:Pos}(Gf:qd X.prog X.w X.K X.mg X.base k y ps 0 g)(hr:L2.Room j X.A)(ha:DA X es t)(hj:k<=j:=by decide)(hN:X.N[i]?=some x:=by rfl)(hv:L2.Vis X.env.scope x:=by first|exact Or.inl rfl|exact Or.inr (Or.inl rfl)|exact Or.inr (Or.inr rfl))(hd:(x==("__debug__" : Str))=false:=by decide)
  (hcd:(x==("__classdict__" : Str))=false:=by decide) (hg:L2.Gl X y:=by rfl) (hdb:(y==("__debug__" : Str))=false:=by decide) (he:starEach (.Name x p1::es) X.env=(false,eval (.Name x p1) X.env)::starEach es X.env:=by rfl) (hpl:(backTo p3 (starEach es X.env)).any (·.1)=false:=by rfl)
  (hs:swapsWith (.Call (.Name y p2) (.Name x p1::es) [] p3) none pos.line X.env=pure false:=by rfl) :
  DS X (.Expr (.Call (.Name y p2) (.Name x p1::es) [] p3) pos) (ui i g t):=by
 obtain⟨fa,fd,h1,h2,h3,h4⟩:=Gf.ex;refine fun B H₀ M₀ lad=>(L2.ps_expr (L2.pe_call h1 (hr.mono hj) hg h2 h3 h4 (.nil:cT [] []) L2.pass0 (L2.pa_cons (L2.pe_var hN hv hd hcd) ha he) hdb he hpl) hs).imp fun E σ H zz=>?_;obtain ⟨ρ,fl,⟨M,hx,hB,hE⟩,hf,kk⟩:=zz;unfold ui at hf;simp only[bG] at hf;obtain⟨ns,hns,ds,hds,r,hr,hf⟩:=hf;cases hf;obtain⟨xs,hi,hint⟩:=um hns;obtain⟨a,vs,e1,e2,e4,qs⟩:=hE.ow i _ hi;have ev:=ku hint qs;subst ev;refine⟨_,e1,ρ,_,M,lad,ds,hE,hds,fun us H1 s1 q1=>?_⟩;have E1:=hE.same s1;have e2':=s1 _ _ e2;have e3:a∈M++B:=aU _ e4;have sub1:∀b∈a::(M++B).filter (fun b=>decide (b≠a)),b∈M++B:=fun b hb=>(List.mem_cons.mp hb).elim (fun z=>z▸e3) fun z=>(List.mem_filter.mp z).1;dsimp only;rw[bj];refine⟨[],us,a,ns,ds,(M++B).filter (fun b=>decide (b≠a)),r,rfl,rfl,e2',fun z=>absurd rfl (of_decide_eq_true (List.mem_filter.mp z).2),q1.ext (.less sub1),fun b hb=>E1.tr b (sub1 b hb),hr,fun v H' kp ea rv=>?_⟩;obtain⟨x2,E2⟩:=E1.mut hi e1 (kr X.K H1 (M++B) r.2);have s2:=de.of_but (H1:=H1) kp ea;exact kk _ _ ⟨M,((hx.trans (.same s1)).trans x2).trans (.same s2),hB,E2.same s2⟩
theorem CI {y:Str}{k j:Nat}{ps:List Str}{g:MD}{f1 f2:ED}{p2 p3:Pos}{a b:Expr}(Gf:qd X.prog X.w X.K X.mg X.base k y ps 1 g)(hr:L2.Room j X.A)(ha:DE X a f1)(hb:DE X b f2)(hj:k<=j:=by decide)
  (hg:L2.Gl X y:=by rfl) (hdb:(y==("__debug__" : Str))=false:=by decide) (he:starEach (a::[b]) X.env=(false,eval a X.env)::starEach [b] X.env:=by rfl) (he2:starEach [b] X.env=(false,eval b X.env)::starEach [] X.env:=by rfl) (hpl:(backTo p3 (starEach [b] X.env)).any (·.1)=false:=by rfl) :
  DE X (.Call (.Name y p2) [a,b] [] p3) (rV g f1 f2):=by
 obtain⟨fa,fd,h1,h2,h3,h4⟩:=Gf.ex;refine (L2.pe_call h1 (hr.mono hj) hg h2 h3 h4 (.nil:cT [] []) L2.pass0 (L2.pa_cons ha (L2.pa_cons hb L2.pa_nil he2) he) hdb he hpl).imp fun σ H Q zz=>?_;obtain ⟨ρ,O,M,lad,res,hE,hf,k⟩:=zz;unfold rV at hf;simp only[bG,Option.map_eq_some_iff] at hf;obtain⟨x,hx,z,hz,ds,hds,ns,hns,r,hr,hf⟩:=hf;subst hf;refine⟨ρ,O,M,lad,x,hE,hx,fun v H1 s1 q1=>⟨ρ,O,M,lad,z,hE.same s1,hz,fun u H2 s2 q2=>?_⟩⟩;have R1:=(q1.toR hE.ne).same s2;obtain⟨zd,zb⟩:=z;cases zb with
 |false=>cases zd <;> cases hds
 |true =>
  rcases q2 with ⟨e0,_⟩|⟨_,c,es',ws,e1,e2,e3,e4,q⟩
  ·cases e0
  ·cases e1;cases hds;have ev:=ku hns q;subst ev e2;have nO:c∉O:=fun m=>(hE.same s1).ne c m e3;have tr2:∀b∈c::O,∃u,H2 b=some (oW u):=fun b hb=>(List.mem_cons.mp hb).elim (fun z=>⟨.inl _,z▸e4⟩) fun m=>((hE.same s1).same s2).tr b m;have R2:R X.K H2 (c::O) x.1 v:=by
    have xx:iJ [] O H1 (c::O) H2:=iJ.fresh s2 e3;exact (q1.toR hE.ne).ext xx
   refine⟨[v],[],c,ns,[x.1],O,r,rfl,rfl,e4,nO,.cons R2 .nil,tr2,hr,fun w H' kp ea rv=>k _ _ (fun b o e=>?_) (.of (rv.ext (.less fun b hb=>aH _ hb)))⟩;have eb:=s1 _ _ e;exact kp b o (fun z=>by subst z;rw[e3] at eb;cases eb) (s2 _ _ eb)
noncomputable def uR (K:Fg)(B:List Addr)(H₀:Hp)(M₀:List Addr)(lad:Nat->Addr)(F:SD)(f:ED):TS:=fun E σ H=>∃ρ ρ' r,SR K B H₀ M₀ lad ρ σ H/\F ρ=some (.next ρ')/\f ρ'=some r ∧
 ∀v σ' H' M,gJ M₀ H₀ M H'->ER K H' (M++B) M lad ρ' σ'->R K H' (M++B) r.1 v->E.rt v H'
def Hg (p:Nat)(X:Cx)(sts:List Stmt)(F:SD)(f:ED):Prop:=∀B H₀ M₀ lad,lad p∈M₀->PSs X sts (uR X.K B H₀ M₀ lad F f)
theorem zI (he:DE X e f):Hg p X [.Return (some e) pos] fM f:=fun B H₀ M₀ lad _=>(L2.pss_one (L2.ps_ret he)).imp fun E σ H zz=>by
 obtain ⟨ρ,ρ',r,⟨M,hx,hB,hE⟩,hF,hf,k⟩:=zz;cases hF;exact⟨ρ,_,M,lad,r,hE,hf,fun v H1 s1 q1=>k v σ H1 M (hx.trans (.same s1)) (hE.same s1) (q1.toR hE.ne)⟩
theorem oJ (h1:Fs p X st F)(h2:Hg p X fN G f):Hg p X (st::fN) (cG F G) f:=fun B H₀ M₀ lad hp=>(L2.pss_cons (h1 B H₀ M₀ lad hp) (h2 B H₀ M₀ lad hp)).imp fun E σ H zz=>by
 obtain ⟨ρ,ρ',r,hR,hF,hf,k⟩:=zz;unfold cG at hF;obtain⟨fl1,hx,hF⟩:=Option.bind_eq_some_iff.mp hF;cases fl1 with
 |next ρ1=>exact⟨ρ,.next ρ1,hR,hx,fun σ' H' r'=>⟨ρ1,ρ',r,r',hF,hf,k⟩⟩
 |ret r=>cases hF
 |brk ρ1=>cases hF
 |cont ρ1=>cases hF
end
theorem og {ds1 ds2:List D}{ns:List Int}{m:Nat}{i:Nat}{x:Vl}(e:(ds1.map (fun d=>some (d,false))++some (lA ns,true)::(ds2.map (fun d=>some (d,false))++aI m none):Sl)[i]?=some (some x)) :
  (i=ds1.length/\x=(lA ns,true))\/(x.2=false/\(ds1++ds2)[if i<ds1.length then i else i-1]?=some x.1/\i≠ds1.length/\i<ds1.length+ds2.length+1):=by
 rcases Nat.lt_trichotomy i ds1.length with h|h|h
 ·refine .inr ?_;rw[aP (by rw[af];exact h),au,ao h] at e;cases e;rw[if_pos h,aP h];exact⟨rfl,ao h,by omega,by omega⟩
 ·refine .inl ⟨h,?_⟩;rw[aN (by rw[af];omega),af,h,JX] at e;cases e;rfl
 ·refine .inr ?_;rw[aN (by rw[af];omega),af,show i-ds1.length=(i-ds1.length-1)+1 by omega,aK] at e;by_cases hi:i-ds1.length-1<ds2.length
  ·rw[aP (by rw[af];exact hi),au,ao hi] at e;cases e;rw[if_neg ⋯,aN ⋯,show i-1-ds1.length=i-ds1.length-1 by omega];exact⟨rfl,ao hi,by omega,by omega⟩
  ·rw[aN (by rw[af];omega),bN] at e;split at e <;> cases e
theorem BE {K:Fg}{H:Hp}{B:List Addr}{a:Addr}{m:Nat}{ds1 ds2:List D}{us1 us2:List V}{ns:List Int}(hl:ds1.length=us1.length)(q:Rs K H (a::B) (ds1++ds2) (us1++us2))(ea:H a=some (.lst (ns.map V.int)))(tr:∀b∈a::B,∃u,H b=some (oW u)) :
  ER K H ([]++(a::B)) [] (fun _=>a) (ds1.map (fun d=>some (d,false))++some (lA ns,true)::(ds2.map (fun d=>some (d,false))++aI m none)) ((us1++.ref a::us2).map some++aI m none):=by
 have lq:=q.length;rw[aw,aw] at lq;have at_:∀{i:Nat}{v:V},i≠us1.length->(us1++us2)[if i<us1.length then i else i-1]?=some v->((us1++.ref a::us2).map some++aI m none:St)[i]?=some (some v):=fun {i v} ni e=>by
  by_cases h:i<us1.length
  ·rw[if_pos h,aP h] at e;rw[aP (by simp;omega),au,aP h,e];rfl
  ·rw[if_neg h,aN ⋯] at e;have hlt:=(List.getElem?_eq_some_iff.mp e).1;rw[aP (by simp;omega),au,aN ⋯,show i-us1.length=(i-1-us1.length)+1 by omega,aK,e];rfl
 have nt:∀{i:Nat}{d:List D},(ds1.map (fun d=>some (d,false))++some (lA ns,true)::(ds2.map (fun d=>some (d,false))++aI m none):Sl)[i]?≠some (some (.list d,true)):=fun {i d} e=>by
  rcases og e with ⟨_,z⟩|⟨z,_⟩
  ·cases z
  ·cases z
 refine⟨fun i d e=>?_,fun i d e=>(nt e).elim,fun i d e=>?_,fun i j d e b e1=>(nt e1).elim,tr,(fun b hb=>nomatch hb),by simp;omega,⟨fun i c e=>?_,fun i j c c' e=>?_⟩⟩
 ·rcases og e with ⟨_,z⟩|⟨_,z,ni,_⟩
  ·cases z
  ·obtain⟨v,ev,rv⟩:=q.get z;rw[hl] at ev ni;exact⟨v,at_ ni ev,rv⟩
 ·rcases og e with ⟨hi,z⟩|⟨z,_⟩
  ·have z':gX d=lA ns:=(Prod.mk.inj z).1;unfold lA gX at z';simp only[PyData.dict.injEq,List.cons.injEq,Prod.mk.injEq,PyData.list.injEq,and_true] at z';subst z';refine⟨?_,ns.map V.int,ea,aM _ aQ,(fun h=>nomatch h),kr _ _ _ _⟩;rw[hi,hl,aP (by simp),au,aN (aB _),JX];rfl
  ·cases z
 ·exfalso;rcases og e with ⟨_,z⟩|⟨z,_⟩
  ·have z':=(Prod.mk.inj z).1;simp[lA,gX,mJ] at z'
  ·cases z
 ·exfalso;rcases og e with ⟨_,z⟩|⟨z,_⟩
  ·have z':=(Prod.mk.inj z).1;simp[lA,gX,mJ] at z'
  ·cases z
theorem oD {n n1 m:Nat}{b:SD}{f:ED}{ns:List Int}{ds:List D}{r:D×List Int}(h:GB n n1 m b f ns ds=some r):ds.length+1=n/\n1<=ds.length/\∃ρ v ms,b (wb n1 ns ds m)=some (.next ρ)/\f ρ=some v/\eS n1 ρ=some ms/\r=(v.1,ms):=by
 unfold GB at h;split at h
 ·rename_i hl;simp only[bG] at h;obtain⟨fl,hb,h⟩:=h;cases fl with
  |next ρ =>
   simp only[bG,Option.map_eq_some_iff] at h;obtain⟨v,hv,ms,hm,rfl⟩:=h;exact⟨hl.1,hl.2,ρ,v,ms,hb,hv,hm,rfl⟩
  |ret r=>cases h
  |brk ρ=>cases h
  |cont ρ=>cases h
 ·cases h
theorem vR {K:Fg}{H:Hp}{O:List Addr}{ds:List D}{us1 us2:List V}{n1:Nat}(q:Rs K H O ds (us1++us2))(hn:us1.length=n1)(hl:n1<=ds.length):(ds.take n1).length=us1.length/\Rs K H O (ds.take n1++ds.drop n1) (us1++us2):=by
 refine⟨by rw[List.length_take,JT hl,hn],by rw[List.take_append_drop];exact q⟩
theorem Ck {P:Program}{w:World}{K:Fg}{mg:Str->Option Value}{base:Heap}{x qual:Str}{st:Stmt}{f:Addr}{fd:FuncData}{N ps:List Str}{k n1:Nat}{b:SD}{fe:ED}(F:L2.Fun K x qual st f fd)(S:L2.FnScope N ps (L2.defScope st))
  (hb:∀(cdv:Value) (A:Around) (outer:List Env) (s:Shared) (H:Hp) (E:L2.XK),L2.Room k (A.deeper (PyProof.Rows.envOfC qual (L2.defScope st) s.heap.objs.size f cdv))->Hg n1 (L2.cxOf L2.CX0 P w K mg base N qual (L2.defScope st) f cdv A outer s H E).nox (L2.defBody st) b fe) :
  L2.FnOk P w K mg base L2.CX0 (k+1) f fd ps (FP K n1 (GB ps.length n1 (N.length-ps.length) b fe)):=by
 refine F.ok S (fun vs H Q E ⟨us1,us2,a,ns,ds,B,r,e,en,ea,na,q,tr,hF,_⟩=>?_) fun cdv A outer s H vs Q E hr ⟨us1,us2,a,ns,ds,B,r,e,en,ea,na,q,tr,hF,kk⟩=>?_
 ·obtain⟨h1,h2,_⟩:=oD hF;have:=q.length;rw[e];simp at this ⊢;omega
 ·obtain⟨h1,h2,ρ,v,ms,hbd,hv,hm,rfl⟩:=oD hF;obtain⟨l1,q1⟩:=vR q en h2;have hlen:vs.length=ps.length:=by
   have:=q.length;rw[e];simp at this ⊢;omega
  refine⟨_,hb cdv A outer s H E hr (a::B) H [a] (fun _=>a) aQ,_,ρ,v,⟨[],⟨fun _ _ _ e=>e,fun _ _ e=>e,fun _ _ _ e=>e,(fun b hb=>nomatch hb),fun _ h=>h⟩,(fun _ z=>nomatch z),?_⟩,hbd,hv,fun u σ' H' M xx E' rv=>?_⟩
  ·have z:=BE (m:=N.length-ps.length) l1 q1 ea tr;unfold L2.start;rw[hlen,e];exact z
  ·obtain⟨xs,hi,hint⟩:=gu hm;obtain⟨_,ws,e2,_,_,qs⟩:=E'.le n1 _ hi;have ev:=ku hint qs;subst ev;exact kk u H' (fun b o nb e=>xx.keep b o (fun z=>nb (List.mem_singleton.mp z)) e) e2 (rv.ext (.less fun b hb=>aM _ hb))
theorem Eu {P:Program}{w:World}{K:Fg}{mg:Str->Option Value}{base:Heap}{x qual:Str}{st:Stmt}{f:Addr}{fd:FuncData}{N ps:List Str}{k n1:Nat}{b:SD}(F:L2.Fun K x qual st f fd)(S:L2.FnScope N ps (L2.defScope st))
  (hb:∀(cdv:Value) (A:Around) (outer:List Env) (s:Shared) (H:Hp) (E:L2.XK),L2.Room k (A.deeper (PyProof.Rows.envOfC qual (L2.defScope st) s.heap.objs.size f cdv))->xu n1 (L2.cxOf L2.CX0 P w K mg base N qual (L2.defScope st) f cdv A outer s H E).nox (L2.defBody st) b) :
  L2.FnOk P w K mg base L2.CX0 (k+1) f fd ps (FP K n1 (GB ps.length n1 (N.length-ps.length) b (dC .none))):=by
 refine F.ok S (fun vs H Q E ⟨us1,us2,a,ns,ds,B,r,e,en,ea,na,q,tr,hF,_⟩=>?_) fun cdv A outer s H vs Q E hr ⟨us1,us2,a,ns,ds,B,r,e,en,ea,na,q,tr,hF,kk⟩=>?_
 ·obtain⟨h1,h2,_⟩:=oD hF;have:=q.length;rw[e];simp at this ⊢;omega
 ·obtain⟨h1,h2,ρ,v,ms,hbd,hv,hm,rfl⟩:=oD hF;obtain⟨l1,q1⟩:=vR q en h2;have hlen:vs.length=ps.length:=by
   have:=q.length;rw[e];simp at this ⊢;omega
  cases hv;refine⟨_,hb cdv A outer s H E hr (a::B) H [a] (fun _=>a) aQ,_,.next ρ,⟨[],⟨fun _ _ _ e=>e,fun _ _ e=>e,fun _ _ _ e=>e,(fun b hb=>nomatch hb),fun _ h=>h⟩,(fun _ z=>nomatch z),?_⟩,hbd,fun σ' H' ⟨M,xx,_,E'⟩=>?_⟩
  ·have z:=BE (m:=N.length-ps.length) l1 q1 ea tr;unfold L2.start;rw[hlen,e];exact z
  ·obtain⟨xs,hi,hint⟩:=gu hm;obtain⟨_,ws,e2,_,_,qs⟩:=E'.le n1 _ hi;have ev:=ku hint qs;subst ev;exact kk _ H' (fun b o nb e=>xx.keep b o (fun z=>nb (List.mem_singleton.mp z)) e) e2 .none
end DL
namespace L2
open PySem PySem.Spec PyProof.Rows
noncomputable abbrev yW (h:Heap)(z TI TO T:Addr)(b:Bool):Prop :=
 h.get? z=some { cls:=.type "zip", dict:=none,data:=.fields #[rawInt T,.bool b,.bool false,.ref TI,.ref TO],slots:=#[] }
theorem CZ {M:Model}{A:Around}{E:Value->Shared->Prop}{s:Shared}{a:Addr}{Q:Option Obj->Shared->Prop}(h:Q (s.heap.get? a) s):wpAny M A (loadIfAlive a) Q E s:=fun Γ p _=>by
 unfold loadIfAlive;rw[Sem.wp_loadIfAlive];exact h
section
variable {prog:Program}{w:World}{A:Around}{E:Value->Shared->Prop}{s:Shared}{z TI TO i1 i2 T:Addr}{n1 n2 k:Nat}{fp1 fp2:List Addr}{P1 P2:Nat->Value->Prop}{S1 S2:Nat->Heap->Prop}
theorem vG {b:Bool}{oT:Obj}{Q:Bool->Shared->Prop}(hz:yW s.heap z TI TO T b)(hT:s.heap.get? T=some oT)(h:∀h',yW h' z TI TO T true->Heap.SameBut z s.heap h'->Q false { s with heap:=h' }) :
  wpAny (model prog w) A (Builtin.SmallTypes.ownedTupleIsFree (.ref z)) Q E s:=by
 unfold Builtin.SmallTypes.ownedTupleIsFree;refine ab (aZ hz rfl (x:=rawInt T) rfl ?_);show wpAny _ _ (loadIfAlive (T:Int).toNat>>=_) _ _ _;rw[aV];refine ab (CZ ?_);rw[hT];refine ab (aZ hz rfl (x:=.bool b) rfl ?_);cases b with
 |true =>
  rw[show (Value.bool true != Value.bool true)=false by decide];refine aq ?_;exact h s.heap hz ⟨rfl,fun _ _=>rfl⟩
 |false =>
  rw[show (Value.bool false != Value.bool true)=true by decide];refine ab (aW hz (by simp) fun h' hz' hs'=>aq (h h' hz' hs'))
theorem zipItem2 {b:Bool}{oT:Obj}{Q:Value->Shared->Prop}(Z:Fo z TI TO i1 i2)(D1:Draws prog w A i1 fp1 n1 P1 S1)(D2:Draws prog w A i2 fp2 n2 P2 S2)(f1:z∉fp1/\i2∉fp1)(f2:z∉fp2/\i1∉fp2)
  (hz:yW s.heap z TI TO T b) (hT:s.heap.get? T=some oT) (hTI:IsPair s.heap TI (.ref i1) (.ref i2)) (t1:S1 k s.heap) (t2:S2 k s.heap) (l1:k<n1) (l2:k<n2)
  (hQ:∀x y h' tk,P1 k x->P2 k y->yW h' z TI TO T true->S1 (k+1) h'->S2 (k+1) h'->IsPair h' s.heap.objs.size x y->(∀c o,c≠z->c≠i1->c≠i2->s.heap.get? c=some o->h'.get? c=some o)->Q (.ref s.heap.objs.size) { s with heap:=h',toks:=tk }) :
  wpAny (model prog w) A (Builtin.«zip.__next__» ⟨[.ref z],[]⟩) (fun fin s'=>∃v,fin=.done (.ret v)/\Q v s') E s:=by
 show wpAny _ _ (field (.ref z) 2>>=_) _ _ _;refine ab (aZ hz rfl (x:=.bool false) rfl ?_);show wpAny _ _ (field (.ref z) 3>>=_) _ _ _;refine ab (aZ hz rfl (x:=.ref TI) rfl ?_);refine ab (wpAny_seqItems hTI rfl ?_);show wpAny _ _ (Builtin.SmallTypes.ownedTupleIsFree (.ref z)>>=_) _ _ _;refine ab (vG hz hT fun g1 hz1 e1=>?_);simp only[Bool.false_eq_true,if_false];refine ab ?_;rw[<-J0];simp only[bV,JG];refine ab (ab (bK ?_));show wpAny _ _ (Builtin.SmallTypes.nextOf (.ref i1)>>=_) _ _ _;have t1':S1 k g1:=D1.frame _ _ _ t1 fun c hc o q=>e1.extBut c o (fun w'=>f1.1 (w'▸hc)) q;refine ab (D1.item k _ _ _ l1 t1' fun x g2 tk2 px u1 e2=>aq ?_);refine aq ?_;refine ab (ab (bK ?_));show wpAny _ _ (Builtin.SmallTypes.nextOf (.ref i2)>>=_) _ _ _;have t2':S2 k g2:=D2.frame _ _ _ t2 fun c hc o q=>e2.extBut c o (fun w'=>f2.2 (w'▸hc)) (e1.extBut c o (fun w'=>f2.1 (w'▸hc)) q);refine ab (D2.item k _ _ _ l2 t2' fun y g3 tk3 py u2 e3=>aq ?_);refine aq (aq ?_);refine ab (wpAny_newTuple ?_ (show 2<=sizeLine from sz2'));have hsz:g3.objs.size=s.heap.objs.size:=by rw[e3.1,e2.1,e1.1]
 have up:∀c o,c≠z->c≠i1->c≠i2->s.heap.get? c=some o->(g3.push { cls:=.type "tuple", data:=.seq #[x,y] }).get? c=some o:=fun c o c1 c2 c3 q =>
  ae _ (e3.extBut _ _ c3 (e2.extBut _ _ c2 (e1.extBut _ _ c1 q)))
 refine aq ⟨_,rfl,?_⟩;show Q (.ref g3.objs.size) _;have hP:IsPair (g3.push { cls:=.type "tuple", data:=.seq #[x,y] }) g3.objs.size x y:=aG _ rfl;rw[hsz] at hP ⊢;refine hQ x y _ _ px py (ae _ (e3.extBut _ _ Z.a4.symm (e2.extBut _ _ Z.a3.symm hz1))) (D1.frame _ _ _ u1 fun c hc o q=>?_) (D2.frame _ _ _ u2 fun c hc o q=>ae _ q) hP up;exact ae _ (e3.extBut c o (fun w'=>f1.2 (w'▸hc)) q)
theorem zipEnd2 {b:Bool}{oT:Obj}{Q:Fin->Shared->Prop}(Z:Fo z TI TO i1 i2)(D1:Draws prog w A i1 fp1 n1 P1 S1)(D2:Draws prog w A i2 fp2 n2 P2 S2)(f1:z∉fp1/\i2∉fp1)(f2:z∉fp2/\i1∉fp2)
  (hz:yW s.heap z TI TO T b) (hT:s.heap.get? T=some oT) (hTI:IsPair s.heap TI (.ref i1) (.ref i2)) (t1:S1 k s.heap) (t2:S2 k s.heap) (hend:k=n1\/(k<n1/\k=n2))
  (hE:∀h' tk e,(∀c o,c≠z->c≠i1->c≠i2->s.heap.get? c=some o->h'.get? c=some o)->(∃o,h'.get? e=some o/\o.cls=.type "StopIteration")->E (.ref e) { s with heap:=h',toks:=tk }) :
  wpAny (model prog w) A (Builtin.«zip.__next__» ⟨[.ref z],[]⟩) Q E s:=by
 show wpAny _ _ (field (.ref z) 2>>=_) _ _ _;refine ab (aZ hz rfl (x:=.bool false) rfl ?_);show wpAny _ _ (field (.ref z) 3>>=_) _ _ _;refine ab (aZ hz rfl (x:=.ref TI) rfl ?_);refine ab (wpAny_seqItems hTI rfl ?_);show wpAny _ _ (Builtin.SmallTypes.ownedTupleIsFree (.ref z)>>=_) _ _ _;refine ab (vG hz hT fun g1 hz1 e1=>?_);simp only[Bool.false_eq_true,if_false];refine ab ?_;rw[<-J0];simp only[bV,JG];refine ab (ab (bK ?_));show wpAny _ _ (Builtin.SmallTypes.nextOf (.ref i1)>>=_) _ _ _;have t1':S1 k g1:=D1.frame _ _ _ t1 fun c hc o q=>e1.extBut c o (fun w'=>f1.1 (w'▸hc)) q;rcases hend with e|⟨l1,e⟩
 ·subst e;refine ab (D1.done _ _ _ t1' fun h' e hb hx=>?_);exact hE h' _ e (fun c o c1 c2 _ q=>hb c o c2 (e1.extBut _ _ c1 q)) hx
 ·subst e;refine ab (D1.item k _ _ _ l1 t1' fun x g2 tk2 px u1 e2=>aq ?_);refine aq ?_;refine ab (ab (bK ?_));show wpAny _ _ (Builtin.SmallTypes.nextOf (.ref i2)>>=_) _ _ _;have t2':S2 k g2:=D2.frame _ _ _ t2 fun c hc o q=>e2.extBut c o (fun w'=>f2.2 (w'▸hc)) (e1.extBut c o (fun w'=>f2.1 (w'▸hc)) q);refine ab (D2.done _ _ _ t2' fun h' e hb hx=>?_);exact hE h' _ e (fun c o c1 c2 c3 q=>hb c o c3 (e2.extBut _ _ c2 (e1.extBut _ _ c1 q))) hx
end
theorem Fv:entryFor table "zip.__getattribute__" = some Builtin.«object.__getattribute__»:=entryFor_alias (id' := "object.__getattribute__") (by kernel_rfl) (by first|rfl|decide +kernel) (by decide +kernel) (by kernel_rfl)
theorem Bd:typeLookup (.type "zip") "keys" = pure none:=by rw[typeLookup_type,builtinLookup_eq_fast];kernel_rfl
theorem vF:typeLookup (.type "zip") "__getattr__" = pure none:=by rw[typeLookup_type,builtinLookup_eq_fast];kernel_rfl
theorem xB (a:Addr)(fs:Array Value)(sl:Array (Option Value))(u:Tok) :
  Meets (Builtin.«object.__getattribute__» ⟨[.ref a,.str "keys" u],[]⟩) (fun A R s=>s.heap.get? a=some { cls:=.type "zip", dict:=none,data:=.fields fs,slots:=sl }/\raisesAttr (.ref a) "keys" A R s) :=
 Meets.of_wp fun prog w A R s hs=>by
  obtain⟨hp,g,d,tk,os⟩:=s;obtain⟨hx,hs⟩:=hs;have hT:(⟨hp,g,d,tk,os⟩:Shared).TypeIs (.ref a) "zip" := ⟨_,hx,rfl⟩;have hm:=Bd;have hname : (["__module__", "__name__", "__qualname__", "__doc__", "__annotations__"] : List Str).contains (Str.ofString "keys") = false := by decide +kernel
  unfold Builtin.«object.__getattribute__»
  repeat (any_goals (first|assumption|wp_step))
  all_goals (try simp only[hname,Bool.false_eq_true,if_false])
  repeat (any_goals (first|assumption|wp_step))
  exact wpAny_raiseAttrError hs.1 hs.2 (attrMsg_fits (by decide +kernel) (by decide +kernel))
theorem zip_nokeys {prog:Program}{w:World}{A:Around}{E:Value->Shared->Prop}{s:Shared}{a:Addr}{fs:Array Value}{sl:Array (Option Value)}{Q:Option Value->Shared->Prop}(hx:s.heap.get? a=some { cls:=.type "zip", dict:=none,data:=.fields fs,slots:=sl })(hA:A.handled=none)
  (h:∀h' tk,(∀b o,s.heap.get? b=some o->h'.get? b=some o)->Q none { s with heap:=h',toks:=tk }):wpAny (model prog w) A (getAttr? (.ref a) "keys") Q E s:=by
 obtain⟨hp,g,d,tk,os⟩:=s;have hT:∀tk',(⟨hp,g,d,tk',os⟩:Shared).TypeIs (.ref a) "zip" := fun _=>⟨_,hx,rfl⟩;have f1:=sub_AttributeError;have f3:=F.slot_zip_getattribute.lookup;have f4:=F.slot_zip_getattribute.bind (.ref a);have f5:=vF;unfold getAttr? getAttrBy? getAttrBy
 repeat (any_goals (first|assumption|exact hT _|((with_reducible show wpAny _ _ (call (Value.builtin "zip.__getattribute__") _ _) _ _ _);refine call_meets F.slot_zip_getattribute (hT _) Fv (F.args_zip_getattribute_2 _ _) (xB a fs sl _) ⟨hx,hA,fun h' tk' e hx'=>?_⟩)|wp_step))
 obtain⟨t',u',he⟩:=hx'.there;show wpAny _ _ (getattributeRaised _ _ _ _ _ _ _) _ _ _;unfold getattributeRaised
 repeat (any_goals (first|assumption|wp_step))
 exact h _ _ hx'.keeps
end L2
namespace DL
open PySem PySem.Spec PySem.SeqAt
open L2 (V Hp St HO VK TE TT TA TS TI TG Cx cQ PE PT PA PS PSs PI PG jj jR de dY cK cC cE cT dR EP TP AP SP jQ It ib yW Fo ItK j3)
theorem rg:mroOf (.type "dict")=pure [.type "dict", .type "object"]:=by rw[mroOf_type];kernel_rfl
theorem sG:typeLookup (.type "dict") "__new__" = pure (some (.builtin "dict.__new__")):=by rw[typeLookup_type,builtinLookup_eq_fast];kernel_rfl
theorem xj:TypeCalled "dict" "dict.__new__" "dict.__init__" := ⟨by decide +kernel,by decide +kernel,⟨_,_,rg⟩,madeBy_type rg sG (by decide +kernel),by decide +kernel,by rw[isSubtype_type];kernel_rfl,F.slot_dict_init⟩
theorem si (a:Value):checkTypeCall "dict" ⟨[a],[]⟩=pure ():=by kernel_rfl
theorem uz (a:Value):checkBuiltinCall "dict.__new__" ⟨[.type "dict", a],[]⟩=pure ():=by kernel_rfl
theorem rJ:entryFor table "dict.__new__" = some Builtin.«dict.__new__»:=entryFor_of_tree (by kernel_rfl)
theorem lN:plainId "dict.__new__" = true:=by decide +kernel
theorem tK:entryFor table "dict.update.loop" = some Builtin.«dict.update.loop»:=entryFor_of_tree (by kernel_rfl)
theorem mh:plainId "dict.update.loop" = true:=by decide +kernel
theorem sk:isSubtype (.type "dict") (.type "dict")=pure true:=by rw[isSubtype_type];kernel_rfl
theorem qF:typeOf (.type "dict")=pure (.type "type"):=by kernel_rfl
noncomputable abbrev sF:Obj:={ cls:=.type "dict", dict:=none,data:=.dict #[] }
section
variable {prog:Program}{w:World}{A:Around}{E:Value->Shared->Prop}{s:Shared}
theorem vn (a:Value){Q₁:Value->Shared->Prop}(h:Q₁ (.ref s.heap.objs.size) { s with heap:=s.heap.push sF }):codeAny (model prog w) A (.call (.builtin "dict.__new__") ⟨[.type "dict", a],[]⟩) (wants Q₁ E) s:=by
 refine codeAny_of_tree ?_;show wpAny _ A.in1 (do checkBuiltinCall "dict.__new__" ⟨[.type "dict", a],[]⟩;again (.builtin "dict.__new__" ⟨[.type "dict", a],[]⟩)) _ _ s;refine ab (wpAny_of_eq (uz a) (aq ⟨plainId_quiet lN _,codeAny_builtin rJ ?_⟩));rw[Around.under_plainId lN _];unfold Builtin.«dict.__new__»;have hsub:=sk;have hm:=rg;have hty:=qF;obtain⟨hp,g,d,tk,os⟩:=s;dsimp only
 wp_walk
 exact h
end
def Jy (h:Heap)(z TI TO i1 i2 dd:Addr):Prop:=(IsZip h z TI TO .none/\∃x y,IsPair h TO x y)\/∃T b oT,yW h z TI TO T b/\h.get? T=some oT/\T≠z/\T≠i1/\T≠i2/\T≠dd
structure G0 (X:Cx)(s0:Shared)(z TI TO i1 i2 dd:Addr)(k1 k2:Bool)(a b:Addr)(i:Nat)(zs:List (D×Addr×Value))(h:Heap):Prop where
 keep:∀c o,s0.heap.get? c=some o->h.get? c=some o
 zst:Jy h z TI TO i1 i2 dd
 ti:IsPair h TI (.ref i1) (.ref i2)
 it1:ItK k1 h i1 a i
 it2:ItK k2 h i2 b i
 dic:∃od ds ep,h.get? dd=some od/\od.ExactDict/\od.data=.dict ds ep/\ds.toList=zs.map AW/\(zs.map (·.1)).Nodup
structure IA (n:Nat)(z TI TO i1 i2 dd:Addr):Prop where
 Z:Fo z TI TO i1 i2
 le:n<=z/\n<=TI/\n<=TO/\n<=i1/\n<=i2/\n<=dd
 nd:dd≠z/\dd≠TI/\dd≠TO/\dd≠i1/\dd≠i2
section
variable {X:Cx}{pins:List (Addr×Obj)}{σ:St}{H:Hp}{s0:Shared}{O:List Addr}{A:Around}{R':Result->Shared->Prop}{z TI TO i1 i2 dd a b:Addr}{k1 k2:Bool}{ds1 ds2:List D}{vs1 vs2:List V}{kvsF:List (D×D)}
theorem yk {kvs:List (D×D)}{k d:D}(h:fS kvs=true)(hk:gj k=true):fS (sM kvs k d)=true:=by
 unfold fS sM at *;rw[bp] at *;intro p hp;split at hp
 ·obtain⟨q,hq,e⟩:=List.mem_map.mp hp;have:=h q hq;split at e <;> (subst e;exact this)
 ·rcases List.mem_append.mp hp with z|z
  ·exact h p z
  ·have z':=List.mem_singleton.mp z;subst z';exact hk
theorem Ec {i:Nat}{zs:List (D×Addr×Value)}{h:Heap}{tk:Nat}{Q:Option Value->Shared->Prop}{E:Value->Shared->Prop}{its jts:List Value}(hh:A.handled=none)(Zf:IA s0.heap.objs.size z TI TO i1 i2 dd)(L:G0 X s0 z TI TO i1 i2 dd k1 k2 a b i zs h)
  (oa:j3 k1 s0.heap a its.toArray) (ob:j3 k2 s0.heap b jts.toArray) {x y:Value} (hx:its[i]?=some x) (hy:jts[i]?=some y)
  (hQ:∀h' tk' T,G0 X s0 z TI TO i1 i2 dd k1 k2 a b (i+1) zs h'->IsPair h' T x y->T≠dd->Q (some (.ref T)) { s0 with heap:=h',toks:=tk' }) :
  wpAny (model X.prog X.w) A (pyNext (.ref z)) Q E { s0 with heap:=h,toks:=tk }:=by
 have alt:=oa.lt;have blt:=ob.lt;obtain⟨le1,le2,le3,le4,le5,le6⟩:=Zf.le;obtain⟨nd1,nd2,nd3,nd4,nd5⟩:=Zf.nd;have Z:=Zf.Z;have an:∀{c:Addr},s0.heap.objs.size<=c->a≠c:=fun h z=>bu _ (aF (z▸alt) h);have bn:∀{c:Addr},s0.heap.objs.size<=c->b≠c:=fun h z=>bu _ (aF (z▸blt) h);have oa':j3 k1 h a its.toArray:=oa.at fun o q=>L.keep a o q;have ob':j3 k2 h b jts.toArray:=ob.at fun o q=>L.keep b o q;have hi:i<its.toArray.size:=by rw[aE];exact (List.getElem?_eq_some_iff.mp hx).1
 have hj:i<jts.toArray.size:=by rw[aE];exact (List.getElem?_eq_some_iff.mp hy).1
 have hh1:A.in1.handled=none:=hh;have D1:=L2.draws_sq (prog:=X.prog) (w:=X.w) (A:=A.in1) hh1 i1 a (an le4) its.toArray;have D2:=L2.draws_sq (prog:=X.prog) (w:=X.w) (A:=A.in1) hh1 i2 b (bn le5) jts.toArray;have ap1:z∉[i1,a]/\TO∉[i1,a]/\i2∉[i1,a]:=⟨by simp[Z.a3.symm,(an le1).symm],by simp[Z.a8,(an le3).symm],by simp[Z.b1.symm,(an le5).symm]⟩;have ap2:z∉[i2,b]/\TO∉[i2,b]/\i1∉[i2,b]:=⟨by simp[Z.a4.symm,(bn le1).symm],by simp[Z.a9,(bn le3).symm],by simp[Z.b1,(bn le4).symm]⟩;have same:∀{x':Value},its.toArray[i]?=some x'->x'=x:=fun e=>by rw[List.getElem?_toArray,hx] at e;exact (Option.some.inj e).symm
 have same2:∀{x':Value},jts.toArray[i]?=some x'->x'=y:=fun e=>by rw[List.getElem?_toArray,hy] at e;exact (Option.some.inj e).symm
 have hlt:∀{c o},h.get? c=some o->c<h.objs.size:=fun e=>aC e;obtain⟨od,es,ep,ho,hc,hd,he,hn⟩:=L.dic;have apart:∀{c d:Addr},c<s0.heap.objs.size->s0.heap.objs.size<=d->c≠d:=fun h1 h2=>aR (aF h1 h2);rcases L.zst with ⟨q1,ox,oy,q3⟩|⟨T,bb,oT,q1,qT,n1,n2,n3,n4⟩
 ·have hT:Shared.TypeIs { s0 with heap:=h,toks:=tk } (.ref z) "zip" := ⟨_,q1,rfl⟩;unfold pyNext;refine ab (wpAny_attempt (wpAny_callSpecial?_slot (name:=Str.ofString "__next__") hT F.slot_zip_next (wpAny_call_entry F.slot_zip_next hT F.entry_zip_next
   (L2.zipItem (s:={ s0 with heap:=h,toks:=tk }) Z D1 D2 ap1 ap2 q1 L.ti q3 (L.it1.with oa') (L.it2.with ob') hi hj fun x' y' h' tk' px py nz nTO m1 m2 nT hk=>aq ?_) (F.args_zip_next_1 _))))
  have ex:=same px;have ey:=same2 py;subst ex ey;have kp:∀c o,c≠z->c≠TO->c≠i1->c≠i2->h.get? c=some o->h'.get? c=some o:=hk;have k0:∀c o,s0.heap.get? c=some o->h'.get? c=some o:=fun c o q=>by
   have lt:c<s0.heap.objs.size:=aC q;exact kp c o (apart lt le1) (apart lt le3) (apart lt le4) (apart lt le5) (L.keep c o q)
  refine hQ h' tk' h.objs.size ⟨k0,.inr ⟨h.objs.size,false,_,nz,nT,(bq (hlt q1)),?_,?_,(bq (hlt ho))⟩,kp TI _ Z.a1 Z.a5 Z.a6 Z.a7 L.ti,L2.ItK.of m1 (oa.at fun o q=>k0 a o q),L2.ItK.of m2 (ob.at fun o q=>k0 b o q),?_⟩ nT (bq (hlt ho))
  ·obtain⟨o,q,_⟩:=L.it1.obj;exact bq (hlt q)
  ·obtain⟨o,q,_⟩:=L.it2.obj;exact bq (hlt q)
  ·exact⟨od,es,ep,kp dd _ nd1 nd3 nd4 nd5 ho,hc,hd,he,hn⟩
 ·have hT:Shared.TypeIs { s0 with heap:=h,toks:=tk } (.ref z) "zip" := ⟨_,q1,rfl⟩;unfold pyNext;refine ab (wpAny_attempt (wpAny_callSpecial?_slot (name:=Str.ofString "__next__") hT F.slot_zip_next (wpAny_call_entry F.slot_zip_next hT F.entry_zip_next
   (L2.zipItem2 (s:={ s0 with heap:=h,toks:=tk }) Z D1 D2 ⟨ap1.1,ap1.2.2⟩ ⟨ap2.1,ap2.2.2⟩ q1 qT L.ti (L.it1.with oa') (L.it2.with ob') hi hj fun x' y' h' tk' px py nz m1 m2 nT hk=>aq ?_) (F.args_zip_next_1 _))))
  have ex:=same px;have ey:=same2 py;subst ex ey;have kp:∀c o,c≠z->c≠i1->c≠i2->h.get? c=some o->h'.get? c=some o:=hk;have k0:∀c o,s0.heap.get? c=some o->h'.get? c=some o:=fun c o q=>by
   have lt:c<s0.heap.objs.size:=aC q;exact kp c o (apart lt le1) (apart lt le4) (apart lt le5) (L.keep c o q)
  refine hQ h' tk' h.objs.size ⟨k0,.inr ⟨T,true,_,nz,kp T _ n1 n2 n3 qT,n1,n2,n3,n4⟩,kp TI _ Z.a1 Z.a6 Z.a7 L.ti,L2.ItK.of m1 (oa.at fun o q=>k0 a o q),L2.ItK.of m2 (ob.at fun o q=>k0 b o q),?_⟩ nT (bq (hlt ho));exact⟨od,es,ep,kp dd _ nd1 nd4 nd5 ho,hc,hd,he,hn⟩
theorem Eb {i:Nat}{zs:List (D×Addr×Value)}{h:Heap}{tk:Nat}{Q:Option Value->Shared->Prop}{E:Value->Shared->Prop}{its jts:List Value}(hh:A.handled=none)(Zf:IA s0.heap.objs.size z TI TO i1 i2 dd)(L:G0 X s0 z TI TO i1 i2 dd k1 k2 a b i zs h)
  (oa:j3 k1 s0.heap a its.toArray) (ob:j3 k2 s0.heap b jts.toArray) (hend:i=its.length\/(i<its.length/\i=jts.length))
  (hQ:∀h' tk',(∀c o,s0.heap.get? c=some o->h'.get? c=some o)->(∀o,h.get? dd=some o->h'.get? dd=some o)->Q none { s0 with heap:=h',toks:=tk' }) :
  wpAny (model X.prog X.w) A (pyNext (.ref z)) Q E { s0 with heap:=h,toks:=tk }:=by
 have alt:=oa.lt;have blt:=ob.lt;obtain⟨le1,le2,le3,le4,le5,le6⟩:=Zf.le;obtain⟨nd1,nd2,nd3,nd4,nd5⟩:=Zf.nd;have Z:=Zf.Z;have an:∀{c:Addr},s0.heap.objs.size<=c->a≠c:=fun h z=>bu _ (aF (z▸alt) h);have bn:∀{c:Addr},s0.heap.objs.size<=c->b≠c:=fun h z=>bu _ (aF (z▸blt) h);have apart:∀{c d:Addr},c<s0.heap.objs.size->s0.heap.objs.size<=d->c≠d:=fun h1 h2=>aR (aF h1 h2);have oa':j3 k1 h a its.toArray:=oa.at fun o q=>L.keep a o q;have ob':j3 k2 h b jts.toArray:=ob.at fun o q=>L.keep b o q;have hh1:A.in1.handled=none:=hh;have D1:=L2.draws_sq (prog:=X.prog) (w:=X.w) (A:=A.in1) hh1 i1 a (an le4) its.toArray;have D2:=L2.draws_sq (prog:=X.prog) (w:=X.w) (A:=A.in1) hh1 i2 b (bn le5) jts.toArray;have ap1:z∉[i1,a]/\TO∉[i1,a]/\i2∉[i1,a]:=⟨by simp[Z.a3.symm,(an le1).symm],by simp[Z.a8,(an le3).symm],by simp[Z.b1.symm,(an le5).symm]⟩;have ap2:z∉[i2,b]/\TO∉[i2,b]/\i1∉[i2,b]:=⟨by simp[Z.a4.symm,(bn le1).symm],by simp[Z.a9,(bn le3).symm],by simp[Z.b1,(bn le4).symm]⟩;have hend':i=its.toArray.size\/(i<its.toArray.size/\i=jts.toArray.size):=by rw[aE,aE];exact hend
 have fin:∀(h':Heap) (tk':Nat) (e:Addr),(∀c o,c≠z->c≠TO->c≠i1->c≠i2->h.get? c=some o->h'.get? c=some o)->(∃o,h'.get? e=some o/\o.cls=.type "StopIteration") →
   wpAny (model X.prog X.w) A (do if <-isInstance (.ref e) (.type "StopIteration") then pure none else throw (.ref e):Sem (Option Value)) Q E { s0 with heap:=h',toks:=tk' }:=fun h' tk' e hk he=>by
  obtain⟨o,ho,hce⟩:=he;refine ab (wpAny_isInstance (s:={ s0 with heap:=h',toks:=tk' }) (T := "StopIteration") (b:=true) ⟨o,ho,hce⟩ isSubtype_stop ?_);exact aq (hQ h' tk' (fun c o q=>have lt:c<s0.heap.objs.size:=aC q;hk c o (apart lt le1) (apart lt le3) (apart lt le4) (apart lt le5) (L.keep c o q)) fun o q=>hk dd o nd1 nd3 nd4 nd5 q)
 rcases L.zst with ⟨q1,ox,oy,q3⟩|⟨T,bb,oT,q1,qT,n1,n2,n3,n4⟩
 ·have hT:Shared.TypeIs { s0 with heap:=h,toks:=tk } (.ref z) "zip" := ⟨_,q1,rfl⟩;unfold pyNext;exact ab (wpAny_attempt (wpAny_callSpecial?_slot (name:=Str.ofString "__next__") hT F.slot_zip_next (wpAny_call_entry F.slot_zip_next hT F.entry_zip_next (L2.zipEnd (s:={ s0 with heap:=h,toks:=tk }) Z D1 D2 ap1 ap2 q1 L.ti q3 (L.it1.with oa') (L.it2.with ob') hend' fun h' tk' ex hk he=>fin h' tk' ex hk he) (F.args_zip_next_1 _))))
 ·have hT:Shared.TypeIs { s0 with heap:=h,toks:=tk } (.ref z) "zip" := ⟨_,q1,rfl⟩;unfold pyNext;exact ab (wpAny_attempt (wpAny_callSpecial?_slot (name:=Str.ofString "__next__") hT F.slot_zip_next (wpAny_call_entry F.slot_zip_next hT F.entry_zip_next (L2.zipEnd2 (s:={ s0 with heap:=h,toks:=tk }) Z D1 D2 ⟨ap1.1,ap1.2.2⟩ ⟨ap2.1,ap2.2.2⟩ q1 qT L.ti (L.it1.with oa') (L.it2.with ob') hend' fun h' tk' ex hk he=>fin h' tk' ex (fun c o c1 _ c3 c4 q=>hk c o c1 c3 c4 q) he) (F.args_zip_next_1 _))))
theorem Be (I:cQ X pins σ H s0)(hh:A.handled=none)(hu:A.units+120<cLine)(Zf:IA s0.heap.objs.size z TI TO i1 i2 dd)(sx:ib k1 X.K H a vs1)(sy:ib k2 X.K H b vs2)(q1:Rs X.K H O ds1 vs1)(q2:Rs X.K H O ds2 vs2)(hlen:ds1.length<=sizeLine) :
  ∀(m i:Nat) (h:Heap) (tk:Nat) (kvs:List (D×D)) (es:List En) (zs:List (D×Addr×Value)),ds1.length-i=m->i<=ds1.length->i<=ds2.length->es.length<=i->fS kvs=true->Rd X.K H O kvs es->Paired pQ es zs->jF (ds1.drop i) (ds2.drop i) kvs=some kvsF →
   G0 X s0 z TI TO i1 i2 dd k1 k2 a b i zs h →
   (∀h' tk' esF zsF,Rd X.K H O kvsF esF->Paired pQ esF zsF->esF.length<=ds1.length->(∀c o,s0.heap.get? c=some o->h'.get? c=some o)->(∃od ds ep,h'.get? dd=some od/\od.ExactDict/\od.data=.dict ds ep/\ds.toList=zsF.map AW/\(zsF.map (·.1)).Nodup)->R' (.ok (.ret .none)) { s0 with heap:=h',toks:=tk' }) →
   codeAny (model X.prog X.w) A (.builtin "dict.update.loop" ⟨[.ref dd,.ref z,rawInt i,.none],[]⟩) R' { s0 with heap:=h,toks:=tk }:=by
 obtain⟨its,r1,oa,_⟩:=I.seqK sx;obtain⟨jts,r2,ob,_⟩:=I.seqK sy;have ln1:ds1.length=its.length:=q1.length.trans r1.length;have ln2:ds2.length=jts.length:=q2.length.trans r2.length;have hh1:A.in1.handled=none:=hh;have stop:∀(i:Nat) (h:Heap) (tk:Nat) (es:List En) (zs:List (D×Addr×Value)),(i=its.length\/(i<its.length/\i=jts.length))->es.length<=ds1.length->Rd X.K H O kvsF es->Paired pQ es zs->G0 X s0 z TI TO i1 i2 dd k1 k2 a b i zs h →
   (∀h' tk' esF zsF,Rd X.K H O kvsF esF->Paired pQ esF zsF->esF.length<=ds1.length->(∀c o,s0.heap.get? c=some o->h'.get? c=some o)->(∃od ds ep,h'.get? dd=some od/\od.ExactDict/\od.data=.dict ds ep/\ds.toList=zsF.map AW/\(zsF.map (·.1)).Nodup)->R' (.ok (.ret .none)) { s0 with heap:=h',toks:=tk' }) →
   codeAny (model X.prog X.w) A (.builtin "dict.update.loop" ⟨[.ref dd,.ref z,rawInt i,.none],[]⟩) R' { s0 with heap:=h,toks:=tk }:=by
  intro i h tk es zs hend he hr hp L hR;refine codeAny_builtin tK ?_;rw[Around.under_plainId mh _];show wpAny _ A.in1 (pyNext (.ref z)>>=_) _ _ _;refine ab (Eb hh1 Zf L oa ob hend fun h' tk' k0 kd=>?_);obtain⟨od,ds,ep,d1,d2,d3,d4,d5⟩:=L.dic;exact aq (hR h' tk' es zs hr hp he k0 ⟨od,ds,ep,kd _ d1,d2,d3,d4,d5⟩)
 intro m;induction m with
 |zero =>
  intro i h tk kvs es zs hm hi hj hl hk hr hp hz L hR;have e:i=ds1.length:=by omega
  have ed:ds1.drop i=[]:=by rw[e,JQ]
  rw[ed] at hz;unfold jF at hz;cases hz;exact stop i h tk es zs (.inl (e.trans ln1)) ⋯ hr hp L hR
 |succ m ih =>
  intro i h tk kvs es zs hm hi hj hl hk hr hp hz L hR;have hlt:i<ds1.length:=by omega
  have ed:ds1.drop i=ds1[i]::ds1.drop (i+1):=bT hlt;by_cases hlt2:i<ds2.length
  ·have ed2:ds2.drop i=ds2[i]::ds2.drop (i+1):=bT hlt2;rw[ed,ed2] at hz;unfold jF at hz;split at hz
   ·rename_i kk;obtain⟨v1,e1,rk⟩:=q1.get (ao hlt);obtain⟨v2,e2,rv⟩:=q2.get (ao hlt2);obtain⟨x,hx,rx⟩:=r1.get e1;obtain⟨y,hy,ry⟩:=r2.get e2;obtain⟨kb,rfl⟩:=uH kk rk;cases (show x=Value.ref kb from rx);refine codeAny_builtin tK ?_;rw[Around.under_plainId mh _];show wpAny _ A.in1 (pyNext (.ref z)>>=_) _ _ _;refine ab (Ec hh1 Zf L oa ob hx hy fun h' tk' T L' hT nT=>?_);refine ab (bK ?_);refine ab (wpAny_tryCatch ?_);unfold Builtin.Dict.pairItems;refine ab (wpAny_typeOf (s:={ s0 with heap:=h',toks:=tk' }) ⟨_,hT,rfl⟩ ?_);rw[show (Value.type "tuple" == Value.type "list" || Value.type "tuple" == Value.type "tuple")=true by decide];rw[if_pos rfl];refine ab (wpAny_seqItems (s:={ s0 with heap:=h',toks:=tk' }) hT rfl (aq ?_));show wpAny _ _ (holding [Value.ref kb,y] (dictSet dd (.ref kb) y)) _ _ _;refine bK ?_;have I':cQ X pins σ H { s0 with heap:=h',toks:=tk' }:=I.kept (t':=tk') L'.keep;obtain⟨as,rd⟩:=R.reads I' rk (key_of kk).nb.lay _ rfl;obtain⟨od,dss,ep,d1,d2,d3,d4,d5⟩:=L'.dic;have dm:Heap.DictOfH (lP X.prog X.w) h' dd zs:=⟨od,dss,ep,d1,d2,d3,d4,fun x hx=>by
     obtain⟨q,hq,p1,p2,_⟩:=m8 hp x hx;have kq:=lR hr.keys hk q hq;have rq:=hr.keyIn hq;rw[p2] at rq;rw[p1] at kq rq;exact⟨key_of kq,R.reads I' rq (key_of kq).nb.lay _ rfl⟩,d5⟩
    have pl:=hp.length;refine wpAny_dictSet_heap (s:={ s0 with heap:=h',toks:=tk' }) (knd:=lP X.prog X.w) (show A.in1.units+100<cLine by have:A.in1.units=A.units+1:=rfl;omega) ⟨key_of kk,as,rd⟩ dm (fun h2 dm2 sb=>?_) ⋯;obtain⟨le1,le2,le3,le4,le5,le6⟩:=Zf.le;obtain⟨nd1,nd2,nd3,nd4,nd5⟩:=Zf.nd;have kp:∀c o,c≠dd->h'.get? c=some o->h2.get? c=some o:=fun c o n e=>(sb.2 c n).trans e;obtain⟨o',ds',ep',g1,g2,g3,g4,_,g5⟩:=dm2;have L2':G0 X s0 z TI TO i1 i2 dd k1 k2 a b (i+1) (storedH zs ds1[i] kb y) h2:=by
     refine⟨fun c o e=>kp c o (aR (aF (aC e) le6)) (L'.keep c o e),?_,kp TI _ nd2.symm L'.ti,L'.it1.at fun o e=>kp i1 o nd4.symm e,L'.it2.at fun o e=>kp i2 o nd5.symm e,⟨o',ds',ep',g1,g2,g3,g4,g5⟩⟩;rcases L'.zst with ⟨w1,x',y',w3⟩|⟨T',bb,oT,w1,wT,n1,n2,n3,n4⟩
     ·exact .inl ⟨kp z _ nd1.symm w1,x',y',kp TO _ nd3.symm w3⟩
     ·exact .inr ⟨T',bb,oT,kp z _ nd1.symm w1,kp T' _ n4 wT,n1,n2,n3,n4⟩
    refine aq ⟨plainId_quiet mh _,?_⟩;have ec:(Value.int ((i:Int)+1) 0)=rawInt ((i+1:Nat):Int):=by unfold rawInt;rw[Int.natCast_add];rfl
    show codeAny _ A (.builtin "dict.update.loop" ⟨[.ref dd,.ref z,Value.int ((i:Int)+1) 0,.none],[]⟩) R' _;rw[ec];have pz:=v9 es ds1[i] (.ref kb) v2;exact ih (i+1) h2 _ (sM kvs ds1[i] ds2[i]) (pj es ds1[i] (.ref kb) v2) _ ⋯ hlt hlt2 ⋯ (yk hk kk) (hr.put rk rv) (qQ kk ry hp (lR hr.keys hk)) hz L2' hR
   ·cases hz
  ·have e2:i=ds2.length:=by omega
   have ed2:ds2.drop i=[]:=by rw[e2,JQ]
   rw[ed,ed2] at hz;unfold jF at hz;cases hz;exact stop i h tk es zs (.inr ⟨by omega,by omega⟩) ⋯ hr hp L hR
end
section
variable {X:Cx}{pins:List (Addr×Obj)}{σ:St}{H:Hp}{s0:Shared}{O:List Addr}{A:Around}{a b:Addr}{k1 k2:Bool}{ds1 ds2:List D}{vs1 vs2:List V}{kvsF:List (D×D)}
theorem yN {h:Heap}{tk:Nat}{Q:Value->Shared->Prop}{E:Value->Shared->Prop}{n:Nat}(hn:s0.heap.objs.size=n)(I:cQ X pins σ H s0)(hh:A.handled=none)(hu:A.units+130<cLine)(sx:ib k1 X.K H a vs1)(sy:ib k2 X.K H b vs2)(q1:Rs X.K H O ds1 vs1)(q2:Rs X.K H O ds2 vs2)(hlen:ds1.length<=sizeLine)(hput:jF ds1 ds2 []=some kvsF)
  (hz:IsZip h (n+4) (n+2) (n+3) .none) (hTI:IsPair h (n+2) (.ref n) (.ref (n+1))) (hTO:IsPair h (n+3) .none .none) (it1:ItK k1 h n a 0) (it2:ItK k2 h (n+1) b 0) (hk:∀c o,s0.heap.get? c=some o->h.get? c=some o)
  (hQ:∀(h':Heap) (tk':Nat) (dd:Addr) (es:Es),n<=dd->Rd X.K H O kvsF es.2->(∀c o,s0.heap.get? c=some o->h'.get? c=some o)->qe dd es.1 es.2 h'->Q (.ref dd) { s0 with heap:=h',toks:=tk' }) :
  wpAny (model X.prog X.w) A (call (.type "dict") [.ref (n+4)]) Q E { s0 with heap:=h,toks:=tk }:=by
 have zlt:n+4<h.objs.size:=aC hz;refine callType_codes xj (si _) F.entry_dict_init (vn (s:={ s0 with heap:=h,toks:=tk }) _ (Q₁:=fun obj s₁=>obj=.ref h.objs.size/\s₁={ s0 with heap:=h.push sF,toks:=tk }) ⟨rfl,rfl⟩) fun obj s₁ zz=>?_;obtain ⟨e1,e2⟩:=zz;subst e1 e2;have hD:(h.push sF).get? h.objs.size=some sF:=aG _ rfl;have hTd:Shared.TypeIs { s0 with heap:=h.push sF,toks:=tk } (.ref h.objs.size) "dict" := ⟨_,hD,rfl⟩;refine⟨hTd,F.args_dict_init_2 _ _,?_⟩;have hz':IsZip (h.push sF) (n+4) (n+2) (n+3) .none:=ae _ hz;have hTz:Shared.TypeIs { s0 with heap:=h.push sF,toks:=tk } (.ref (n+4)) "zip" := ⟨_,hz',rfl⟩;unfold Builtin.«dict.__init__»;refine ab ?_;unfold Builtin.Dict.selfAndRest;refine ab (wpAny_notOrdered_dict hTd ?_);show wpAny _ _ (pure (h.objs.size,[Value.ref (n+4)])) _ _ _;refine aq ?_;show wpAny _ _ (Builtin.Dict.updateFrom "dict.__init__" h.objs.size (.ref (n+4)) [] .none) _ _ _;unfold Builtin.Dict.updateFrom;refine ab (wpAny_typeOf hTz ?_);rw[show (Value.type "zip" != Value.type "dict")=true by decide];rw[if_pos rfl];refine ab (L2.zip_nokeys (s:={ s0 with heap:=h.push sF,toks:=tk }) hz' hh fun h2 tk2 kp=>?_);rw[show (Option.isNone (none:Option Value))=true from rfl,if_pos rfl];refine ab (wpAny_rule ?_);have kp':∀c o,(h.push sF).get? c=some o->h2.get? c=some o:=kp;refine ab (wpAny_pyIter_zip (s:={ s0 with heap:=h2,toks:=tk2 }) (kp' _ _ hz') ?_);have up:∀c o,h.get? c=some o->h2.get? c=some o:=fun c o e=>kp' c o (ae _ e);refine aq ⟨plainId_quiet mh _,?_⟩;have Zf:IA s0.heap.objs.size (n+4) (n+2) (n+3) n (n+1) h.objs.size:=by
  rw[hn];have t1:n+3<h.objs.size:=aC hTO;refine⟨⟨by simp,by simp,by simp,by simp,by simp,by simp,by simp,by simp,by simp,by simp⟩,⟨bH _ _,bH _ _,bH _ _,aB _,bH _ _,by omega⟩,bq zlt,bq (show n+2<h.objs.size by omega),bq t1,bq (show n<h.objs.size by omega),bq (show n+1<h.objs.size by omega)⟩
 have L:G0 X s0 (n+4) (n+2) (n+3) n (n+1) h.objs.size k1 k2 a b 0 [] h2:=⟨fun c o e=>up c o (hk c o e),.inl ⟨up _ _ hz,_,_,up _ _ hTO⟩,up _ _ hTI,it1.at fun o e=>up n o e,it2.at fun o e=>up (n+1) o e,⟨sF,#[],0,kp' _ _ hD,⟨rfl,rfl,rfl⟩,rfl,rfl,List.nodup_nil⟩⟩;refine Be (A:=A.in1) I hh (show A.in1.units+120<cLine by have:A.in1.units=A.units+1:=rfl;omega) Zf sx sy q1 q2 hlen ds1.length 0 h2 tk2 [] [] [] ⋯ (bx _) (bx _) (bx _) rfl .nil .nil (by rw[List.drop_zero,List.drop_zero];exact hput) L fun h' tk' esF zsF rd pr le k0 dc=>?_;obtain⟨od,ds,ep,g1,g2,g3,g4,g5⟩:=dc;refine⟨rfl,hQ h' tk' h.objs.size (od,esF) ⋯ rd k0 ⟨aS le hlen,?_,g1,zsF,pr,ds,ep,g2,g3,g4,g5⟩⟩;exact beq_eq_false_iff_ne.mpr (Ne.symm (aR (aF (Nat.lt_trans (by decide) (I.mod.glob.keeps I.bk).lt) ⋯)))
end
section
variable {X:Cx}{e1 e2:Expr}{ta:TA}{p p1 p2 pos:Pos}{f g:AD}
noncomputable def Js (K:Fg)(ta:TA):TE:=fun σ H Q=>ta σ H fun vs H1=>∃(k1 k2:Bool) (a b:Addr) (vs1 vs2:List V) (ds1 ds2:List D) (O:List Addr) (kvs:List (D×D)),vs=[.ref a,.ref b]/\ib k1 K H1 a vs1/\ib k2 K H1 b vs2/\Rs K H1 O ds1 vs1/\Rs K H1 O ds2 vs2/\ds1.length<=sizeLine/\jF ds1 ds2 []=some kvs ∧
 ∀(l:Addr) (es:Es),H1 l=none->Rd K H1 O kvs es.2->Q (.ref l) (dY H1 l (mS l es))
theorem BG (hu:X.A.units+200<cLine)(hc:X.calm=true)(hgD:L2.Gl X "dict")(hmD:X.mg "dict" = none)(hgZ:L2.Gl X "zip")(hmZ:X.mg "zip" = none)(ha:PA X [e1,e2] ta)(hs:starEach [e1,e2] X.env=[(false,eval e1 X.env),(false,eval e2 X.env)]:=by rfl)(hs1:starEach [e2] X.env=[(false,eval e2 X.env)]:=by rfl)
  (hs2:starEach [.Call (.Name "zip" p1) [e1,e2] [] p2] X.env=[(false,eval (.Call (.Name "zip" p1) [e1,e2] [] p2) X.env)]:=by rfl):PE X (.Call (.Name "dict" p) [.Call (.Name "zip" p1) [e1,e2] [] p2] [] pos) (Js X.K ta):=by
 intro pins s σ H Q I h;refine wpAny_Call_Name_kw (L2.ld_blt I hgD hmD PyProof.Rows.boot_dict (PyProof.Rows.callWith_type1 ?_ hs2 rfl));rw[hs2];refine Calls.spliced_cons (wpAny_Call_Name_kw (L2.ld_blt I hgZ hmZ PyProof.Rows.boot_zip (PyProof.Rows.callWith_type1 (L2.thn (ha p2 pins s σ H _ I h) fun us s1 z=>?_) (by rw[hs,hs1]) (by rw[hs1];rfl))));obtain⟨vs,H1,I1,r1,k1,k2,a,b,vs1,vs2,ds1,ds2,O,kvs,e,sx,sy,q1,q2,hl,hp,q⟩:=z;subst e;obtain⟨u,v,rfl,ru,rv⟩:=cT.two r1;cases ru;cases rv;obtain⟨its,_,oa,_⟩:=I1.seqK sx;obtain⟨jts,_,ob,_⟩:=I1.seqK sy;refine L2.call_zipK oa ob fun h' hz hTI hTO it1 it2 hk=>Calls.spliced_nil ?_;refine yN (s0:=s1) (h:=h') (tk:=s1.toks) rfl I1 (I1.ok.hd hc) ⋯ sx sy q1 q2 hl hp hz hTI hTO it1 it2 hk fun h2 tk2 dd es le rd k0 di=>?_;have fr:H1 dd=none:=I1.hok.fresh le;exact⟨.ref dd,_,I1.laid (t':=tk2) k0 le (CJ di),rfl,q dd es fr rd⟩
theorem CG (hu:X.A.units+200<cLine)(hc:X.calm=true)(hmD:X.mg "dict" = none)(hmZ:X.mg "zip" = none)(h1:DQ X e1 f)(h2:DQ X e2 g)(hgD:L2.Gl X "dict" := by rfl)(hgZ:L2.Gl X "zip" := by rfl)(hs:starEach [e1,e2] X.env=[(false,eval e1 X.env),(false,eval e2 X.env)]:=by rfl)(hs1:starEach [e2] X.env=[(false,eval e2 X.env)]:=by rfl)
  (hs2:starEach [.Call (.Name "zip" p1) [e1,e2] [] p2] X.env=[(false,eval (.Call (.Name "zip" p1) [e1,e2] [] p2) X.env)]:=by rfl):DE X (.Call (.Name "dict" p) [.Call (.Name "zip" p1) [e1,e2] [] p2] [] pos) (yD f g) :=
 (BG hu hc hgD hmD hgZ hmZ (L2.pa_cons h1 (L2.pa_cons h2 L2.pa_nil (by rw[hs1];rfl)) (by rw[hs,hs1])) hs hs1 hs2).imp fun σ H Q zz=>by
  obtain ⟨ρ,O,M,lad,res,hE,hf,k⟩:=zz;unfold yD at hf;simp only[bG] at hf;obtain⟨xs,hx,ys,hy,hf⟩:=hf;split at hf
  ·rename_i hl;rw[Option.map_eq_some_iff] at hf;obtain⟨kvs,hz,rfl⟩:=hf;refine⟨ρ,O,M,lad,xs,hE,hx,fun v H1 k1 s1 ⟨a,vs,ev,qs1,g1⟩=>⟨ρ,O,M,lad,ys,hE.same s1,hy,fun u H2 k2 s2 ⟨b,us,eu,qs2,g2⟩=>?_⟩⟩;subst ev eu;have i2:=iJ.id M O H2 ((hE.same s1).same s2).sub;refine⟨k1,k2,a,b,vs,us,xs,ys,O,kvs,rfl,g1 _ _ (i2.back s2),g2 _ _ i2,qs1.same s2,qs2,hl,hz,fun l es hl' rd=>?_⟩;have s3:de H2 (dY H2 l (mS l es)):=fun c o e=>by rw[cC (cE e hl')];exact e
   have nO:l∉O:=fun z=>((hE.same s1).same s2).ne l z hl';exact k _ _ ((s1.trans s2).trans s3) (.of (.dict cK nO (rd.same s3)))
  ·cases hf
theorem AY {q:Nat}{sts:List Stmt}{F:SD}{fe:ED}(i:Nat)(h:Hg q X sts F fe):Hg q X sts (j5 i F) fe:=fun B H₀ M₀ lad hp=>(h B H₀ M₀ lad hp).imp fun E σ H ⟨ρ,ρ',r,hR,hF,hf,k⟩=>⟨_,ρ',r,hR.share i,hF,hf,k⟩
end
open PySem
def FH (K:Fg)(x:Str)(st:Stmt):Prop:=∃(f:Addr) (oc:Value) (od:Option Addr) (kV dc pm:Value) (an:Option Addr) (cd ct:Value) (sl:Array (Option Value)),PySem.W.nsIn K mainGlobals x=some (some (.ref f)) ∧
 K.lookup f=some ⟨oc,od,.func (PySem.W.fnOf x x (L2.defArgs st) (L2.defBody st) (L2.defScope st) .none kV dc pm an cd ct),sl⟩/\PySem.W.codeIn K cd x=true/\PySem.W.keepIn K (.ref f)=true
def Ft (x:Str)(st:Stmt)(ps:List Str):Prop:=∀(kV doc pm:Value) (an:Option Addr) (cdv ct:Value) (us:List Value),us.length=ps.length->bindArgs (PySem.W.fnOf x x (L2.defArgs st) (L2.defBody st) (L2.defScope st) .none kV doc pm an cdv ct) ⟨us,[]⟩=pure (ps.zip us)
section
variable {K:Fg}{mg:Str->Option Value}{h:Heap}{x:Str}{st:Stmt}{ps:List Str}{k n1:Nat}{F:FD}{G':MD}
theorem ip (P:Program)(w:World)(base:Heap)(X:K.In h)(G:h.Ns mainGlobals mg)(H:FH K x st)(hb:Ft x st ps)(ok:∀f fd,L2.Fun K x x st f fd->L2.FnOk P w K mg base L2.CX0 k f fd ps (spD K F)):fG P w K mg base k x ps F:=by
 obtain⟨f,oc,od,kV,dc,pm,an,cd,ct,sl,a,l,c,kp⟩:=H;have Fu:=L2.fun_mk (st:=st) l c kp;exact⟨_,_,ok _ _ Fu,PySem.W.mg_of X G a,kp,Fu.binds (ps:=ps) hb⟩
theorem BY (P:Program)(w:World)(base:Heap)(X:K.In h)(G:h.Ns mainGlobals mg)(H:FH K x st)(hb:Ft x st ps)(ok:∀f fd,L2.Fun K x x st f fd->L2.FnOk P w K mg base L2.CX0 k f fd ps (FP K n1 G')):qd P w K mg base k x ps n1 G':=by
 obtain⟨f,oc,od,kV,dc,pm,an,cd,ct,sl,a,l,c,kp⟩:=H;have Fu:=L2.fun_mk (st:=st) l c kp;exact⟨_,_,ok _ _ Fu,PySem.W.mg_of X G a,kp,Fu.binds (ps:=ps) hb⟩
end
end DL
local macro_rules | `(tactic| trivial) => `(tactic| first | (intro _ _ _ _ _ _ us hl; first | (obtain ⟨_, e⟩ := DL.len1 hl; subst e; rfl) | (obtain ⟨_, _, e⟩ := DL.len2 hl; subst e; rfl) | (obtain ⟨_, _, _, e⟩ := DL.len3 hl; subst e; rfl) | (obtain ⟨_, _, _, _, e⟩ := DL.len4 hl; subst e; rfl) | (obtain ⟨_, _, _, _, _, e⟩ := DL.len5 hl; subst e; rfl) | (obtain ⟨_, _, _, _, _, _, e⟩ := DL.len6 hl; subst e; rfl)) | fail)
local macro_rules | `(tactic| trivial) => `(tactic| first | exact ⟨_, _, _, _, _, _, _, _, _, _, by k_is, by k_is, by k_is, by k_is⟩ | fail)
namespace Lw
open PySem DL
noncomputable section
noncomputable def l6:SD :=
 (cG (cF 3 (d2 oi (cA (d2 eD (cA (d2 ng (b7 0) (b7 2))) (cA (dC (.int 7919))))) (cA (dC (.int 2147483647)))))
  (cG (cF 3 (d2 oi (cA (d2 ng (cA (d2 oi (cA (d2 ng (b7 3) (b7 3))) (cA (dC (.int 2147483647))))) (cA (dC (.int 40692))))) (cA (dC (.int 2147483399)))))
  (cF 1 (d2 eD (cA (d2 ng (b7 1) (cA (d2 BM (cA (dC (.int 10))) (cA (dC (.int 9))))))) (cA (d2 yb (b7 3) (cA (dC (.int 7)))))))))
noncomputable def rQ:SD :=
 (cG (cF 1 (dC (.int 0)))
  (cG (dW (du (fT (cW (b4 (dC (.int 48271)) (b4 (dC (.int 69621)) (b4 (dC (.int 39373)) (b4 (dC (.int 44488)) cv))))))) (gN 2) l6)
  (dI (cf 1))))
noncomputable def iI:FD:=ki 1 3 rQ
noncomputable def nJ:SD :=
 (cG (i9 (dk (b7 1) [(Hd,(cA (d1 fF (b7 0))))]) (dI (cD iI (b4 (d2 cL (b7 0) (b7 1)) cv))) fM)
  (dI (cD iI (b4 (dC (.int 0)) cv))))
noncomputable def cN:FD:=ki 2 0 nJ
noncomputable def l8:SD :=
 (cF 3 (d2 oi (cA (d2 ng (b7 3) (cA (dC (.int 48271))))) (cA (dC (.int 2147483647)))))
noncomputable def rR:SD :=
 (cG (cF 3 (d2 oi (cA (d2 eD (cA (d2 eD (cA (d2 oi (b7 0) (cA (dC (.int 2147483629))))) (cA (dC (.int 1))))) (cA (d2 ng (b7 1) (cA (dC (.int 1000003))))))) (cA (dC (.int 2147483647)))))
  (cG (dW (cP (dC (.int 3))) (gN 4) l8)
  (dI (d2 oi (cA (d2 yb (b7 3) (cA (dC (.int 97))))) (b7 2)))))
noncomputable def cX:FD:=ki 3 2 rR
noncomputable def j0:SD :=
 (cG (cF 7 (cD cX (b4 (cD cN (b4 (cf 0) (b4 (d2 eD (b7 1) (cA (dC (.int 1)))) cv))) (b4 (cf 6) (b4 (d2 BL (b7 4) (cA (dC (.int 1)))) cv)))))
  (cG (cF 8 (d2 eD (cA (d2 eD (b7 7) (cA (dC (.int 1))))) (cA (cD cX (b4 (cD cN (b4 (cf 0) (b4 (d2 eD (b7 1) (cA (dC (.int 2)))) cv))) (b4 (cf 6) (b4 (d2 BL (cA (d2 BL (b7 4) (cA (dC (.int 1))))) (b7 7)) cv)))))))
  (gp 5 (dM (b4 (cf 7) (b4 (cf 8) cv))))))
noncomputable def nH:SD :=
 (cG (cF 4 (d2 eD (cA (dC (.int 1))) (cA (d2 oi (cA (cD cN (b4 (cf 0) (b4 (cf 1) cv)))) (b7 2)))))
  (cG (cF 5 (cW cv))
  (cG (i9 (dk (b7 4) [(A2,(cA (dC (.int 1))))]) (dW (cP (d2 oi (cA (d2 yb (cA (cD cN (b4 (cf 0) (b4 (cf 1) cv)))) (b7 2))) (cA (d2 eD (b7 3) (cA (dC (.int 1))))))) (gN 6) j0) fM)
  (dI (dM (b4 (cf 4) (b4 (d1 cU (b7 5)) cv)))))))
noncomputable def eV:FD:=ki 4 5 nH
noncomputable def hZ:SD :=
 (i9 (dk (cA (d2 cL (b7 9) (cA (dC (.int 0))))) [(o4,(b7 7))]) (gp 5 (dM (b4 (d2 eD (b7 6) (cA (dM (b4 (cf 8) cv)))) (b4 (d2 cL (b7 9) (cA (dC (.int 1)))) cv)))) fM)
noncomputable def jC:SD :=
 (cG (i9 (dk (b7 7) [(o4,(b7 2))]) (gp 3 (cf 6)) fM)
  (dW (eY (fT (d2 cL (b7 0) (cA (dC (.int 1)))))) (gT [(gN 8),(gN 9)]) hZ))
noncomputable def jB:SD :=
 (cG (cF 5 (cW cv))
  (cG (dW (du (eo 4)) (gT [(gN 6),(gN 7)]) jC)
  (j5 5 (cF 4 (cf 5)))))
noncomputable def jo:TD :=
 (dk (b7 4) [(sN,(cA (cW cv)))])
noncomputable def l5:SD :=
 (cG (cF 3 (cW cv))
  (cG (fL 4 (cF 4 (cW (b4 (dM (b4 (dM cv) (b4 (cf 1) cv))) cv))))
  (cG (j4 jo jB)
  (lx 3))))
noncomputable def fJ:FD:=ki 3 7 l5
noncomputable def gQ:SD :=
 (i9 (qf (dk (b7 6) [(o4,(b7 3))]) (dk (cA (cD fJ (b4 (cf 0) (b4 (d2 cL (b7 1) (b7 5)) (b4 (cf 4) cv))))) [(o4,(cA (cW cv)))])) (dI (dC (.bool false))) fM)
noncomputable def nI:SD :=
 (cG (dW (du (eo 2)) (gT [(gN 5),(gN 6)]) gQ)
  (dI (dC (.bool true))))
noncomputable def fv:FD:=ki 5 2 nI
noncomputable def hV:SD :=
 (i9 (xI (kj (sT (cD fv (b4 (cf 3) (b4 (cf 4) (b4 (d2 cL (b7 2) (cA (dC (.int 1)))) (b4 (cf 5) (b4 (cf 6) cv))))))))) (cF 6 (d2 oi (cA (d2 eD (b7 6) (cA (dC (.int 1))))) (cA (d2 cL (b7 3) (cA (dC (.int 0))))))) fM)
noncomputable def hU:SD :=
 (cG (cF 6 (cD cX (b4 (cD cN (b4 (cf 0) (b4 (cf 1) cv))) (b4 (cf 5) (b4 (d2 cL (b7 3) (cA (dC (.int 0)))) cv)))))
  (cG (dW (cP (d2 cL (b7 3) (cA (dC (.int 0))))) (gN 7) hV)
  (cG (i9 (xI (kj (sT (cD fv (b4 (cf 3) (b4 (cf 4) (b4 (d2 cL (b7 2) (cA (dC (.int 1)))) (b4 (cf 5) (b4 (cf 6) cv))))))))) (dI (dM (b4 (d1 cU (cA (pY (Fc (cW (b4 (cf 6) cv))) (cA (d2 cL (b7 2) (cA (dC (.int 0)))))))) (b4 (d1 cU (cA (pY (Fc (cW (b4 (dM cv) cv))) (cA (d1 fF (cA (d2 cL (b7 2) (cA (dC (.int 1)))))))))) cv)))) fM)
  (gp 4 (cf 6)))))
noncomputable def jA:SD :=
 (cG (fL 11 (cF 11 (cD fJ (b4 (cf 3) (b4 (d2 cL (b7 4) (cA (d2 cL (b7 10) (cA (dC (.int 0)))))) (b4 (d2 cL (b7 4) (cA (d2 cL (b7 10) (cA (dC (.int 1)))))) cv))))))
  (gp 8 (d2 cL (b7 11) (cA (cD cX (b4 (cD cN (b4 (cf 0) (b4 (d2 eD (b7 1) (cA (dC (.int 1)))) cv))) (b4 (cf 9) (b4 (d1 fF (b7 11)) cv))))))))
noncomputable def l4:SD :=
 (cG (cF 4 (cW cv))
  (cG (dW (cP (d2 cL (b7 2) (cA (dC (.int 0))))) (gN 5) hU)
  (cG (cF 8 (cW cv))
  (cG (dW (eY (fT (d2 cL (b7 2) (cA (dC (.int 1)))))) (gT [(gN 9),(gN 10)]) jA)
  (dI (dM (b4 (d1 cU (b7 4)) (b4 (d1 cU (b7 8)) cv))))))))
noncomputable def fY:FD:=ki 4 8 l4
noncomputable def iX:ED :=
 (cD cX (b4 (cD cN (b4 (cf 1) (b4 (cf 2) cv))) (b4 (cf 0) (b4 (d2 eD (b7 3) (cA (dC (.int 1)))) cv))))
noncomputable def fX:SD :=
 (i9 (qf (dk (cA (d2 cL (b7 4) (b7 5))) [(A2,(cA (dC (.int 0))))]) (dk (cA (d2 cL (b7 4) (b7 6))) [(o4,(cA (dC (.int 0))))])) (DC 4 (cf 6) (dC (.int 1))) fM)
noncomputable def jX:ED :=
 (cD cX (b4 (cf 1) (b4 (d2 eD (cA (d2 ng (cA (dC (.int 61))) (b7 3))) (b7 0)) (b4 (d2 cL (b7 2) (cA (d2 cL (b7 4) (cA (dC (.int 1)))))) cv))))
noncomputable def i7:SD :=
 (cG (cF 10 (cD cN (b4 (cf 0) (b4 (d2 eD (b7 1) (cA (dC (.int 1)))) cv))))
  (gp 7 (d1 cU (cA (dN (cP (d2 cL (b7 4) (cA (d2 cL (b7 9) (cA (dC (.int 0))))))) 1 [10,4,8,9] (gN 0) gF jX)))))
noncomputable def nK:SD :=
 (cG (cF 4 (dN (cP (d2 cL (b7 2) (cA (dC (.int 0))))) 1 [0,1,3] (gN 0) gF iX))
  (cG (dW (du (fT (d1 kO (cA (d2 cL (b7 2) (cA (dC (.int 1)))))))) (gT [(gN 5),(gN 6)]) fX)
  (cG (cF 7 (cW cv))
  (cG (dW (eY (fT (d2 cL (b7 2) (cA (dC (.int 1)))))) (gT [(gN 8),(gN 9)]) i7)
  (dI (dM (b4 (d1 cU (b7 4)) (b4 (d1 cU (b7 7)) cv))))))))
noncomputable def fy:FD:=ki 4 7 nK
noncomputable def iD:ED :=
 (dM (b4 (cf 1) (b4 (cf 2) (b4 (cf 0) cv))))
noncomputable def gc:SD :=
 (pf 2 (dN (cP (d2 cL (cA (d2 cL (b7 1) (cA (dC (.int 0))))) (b7 3))) 1 [3,5] (gN 0) gF iD))
noncomputable def f9:SD :=
 (dW (du (eo 4)) (gN 5) gc)
noncomputable def je:SD :=
 (cG (cF 2 (cW cv))
  (cG (dW (eY (eo 0)) (gT [(gN 3),(gN 4)]) f9)
  (lx 2)))
noncomputable def eG:FD:=ki 2 4 je
noncomputable def rS:SD :=
 (cG (i9 (dk (cA (d1 fF (b7 2))) [(o4,(cA (dC (.int 0))))]) (dI (cf 1)) fM)
  (cG (cF 3 (d2 cL (cA (d2 cL (b7 0) (cA (dC (.int 1))))) (cA (d2 cL (b7 2) (cA (d1 Gd (cA (dC (.int 1)))))))))
  (dI (d2 cL (b7 3) (cA (dC (.int 1)))))))
noncomputable def fO:FD:=ki 3 1 rS
noncomputable def gv:ED :=
 (d2 eD (b7 2) (cA (dM (b4 (cf 0) cv))))
noncomputable def fR:SD :=
 (cG (cF 5 (cD fO (b4 (cf 0) (b4 (cf 1) (b4 (cf 4) cv)))))
  (pf 3 (dN (eY (fT (d2 cL (b7 0) (cA (dC (.int 1)))))) 2 [4,5] (gT [(gN 0),(gN 1)]) (dk (cA (d2 cL (b7 1) (cA (dC (.int 0))))) [(o4,(b7 3))]) gv)))
noncomputable def k8:SD :=
 (cG (cF 3 (cW cv))
  (cG (dW (du (eo 2)) (gN 4) fR)
  (lx 3)))
noncomputable def ik:FD:=ki 3 3 k8
noncomputable def kA:ED :=
 (cf 0)
noncomputable def oZ:SD :=
 (cG (pf 3 (dN (du (eo 4)) 1 [2,0,1] (gN 0) (dk (cA (cD fO (b4 (cf 2) (b4 (cf 3) (b4 (cf 0) cv))))) [(o4,(b7 1))]) kA))
  (fL 4 (cF 4 (cD ik (b4 (cf 0) (b4 (cf 1) (b4 (cf 4) cv)))))))
noncomputable def nZ:TD :=
 (dk (cA (d1 fF (b7 4))) [(A2,(cA (dC (.int 0))))])
noncomputable def vk:SD :=
 (cG (cF 3 (cW cv))
  (cG (fL 4 (cF 4 (cW (b4 (dM cv) cv))))
  (cG (j4 nZ oZ)
  (lx 3))))
noncomputable def mI:FD:=ki 3 2 vk
noncomputable def jO:SD :=
 (cG (pT 0 (cf 1) (d2 cL (l9 0) (cA (d2 cL (l9 0) (b7 1)))))
  (cF 1 (d2 cL (l9 0) (b7 1))))
noncomputable def jH:TD :=
 (dk (cA (d2 cL (l9 0) (b7 1))) [(sN,(b7 1))])
noncomputable def pL:SD :=
 (cG (j4 jH jO)
  fM)
noncomputable def o5:ED:=(cf 1)
noncomputable def eC:MD:=GB 2 0 0 pL o5
noncomputable def iZ:SD :=
 (cG (jK 1 eC (b4 (cf 4) cv) 5)
  (i9 (dk (b7 5) [(o4,(b7 4))]) (cG (gp 2 (cf 3))
  (cF 3 (d2 eD (b7 3) (cA (dC (.int 1)))))) (gp 2 (d2 cL (b7 2) (b7 5)))))
noncomputable def nE:SD :=
 (cG (cF 2 (cW cv))
  (cG (cF 3 (dC (.int 0)))
  (cG (vX 1 (cP (d1 fF (b7 0))) (gN 4) iZ)
  (j5 2 fM))))
noncomputable def kF:ED:=(yD (eo 0) (eo 2))
noncomputable def gK:MD:=GB 2 1 4 nE kF
noncomputable def CK:SD :=
 (cG (jK 0 eC (b4 (cf 1) cv) 3)
  (cG (jK 0 eC (b4 (cf 2) cv) 4)
  (pT 0 (d2 sD (b7 3) (b7 4)) (d2 ya (b7 3) (b7 4)))))
noncomputable def EW:ED:=(dC .none)
noncomputable def tY:MD:=GB 3 0 2 CK EW
noncomputable def oY:SD :=
 (uh 5 (cf 7) (cf 6))
noncomputable def qC:SD :=
 (ui 8 tY (b4 (d2 pD (b7 5) (cA (dM (b4 (d2 cL (b7 9) (cA (dC (.int 0)))) (b4 (d2 eD (b7 10) (b7 12)) (b4 (cf 13) cv)))))) (b4 (d2 pD (b7 5) (cA (dM (b4 (d2 cL (b7 9) (cA (dC (.int 1)))) (b4 (cf 12) (b4 (cf 14) cv)))))) cv)))
noncomputable def qB:SD :=
 (dW (eY (eo 11)) (gT [(gN 13),(gN 14)]) qC)
noncomputable def qA:SD :=
 (dW (du (fT (d2 cL (b7 3) (cA (d2 cL (b7 9) (cA (dC (.int 1)))))))) (gN 12) qB)
noncomputable def yA:SD :=
 (cG (qO 5)
  (cG (dW (eY (eo 4)) (gT [(gN 6),(gN 7)]) oY)
  (cG (cF 8 (rT (cP (d1 fF (b7 4)))))
  (cG (dW (wR (fT (d2 cL (b7 0) (cA (dC (.int 1))))) (fT (d2 cL (b7 1) (cA (dC (.int 1))))) (fT (d2 cL (b7 2) (cA (dC (.int 1)))))) (gT [(gN 9),(gN 10),(gN 11)]) qA)
  (lx 8)))))
noncomputable def nU:FD:=ki 5 10 yA
noncomputable def iN:ED :=
 (cD mI (b4 (cf 1) (b4 (cf 0) (b4 (cf 2) cv))))
noncomputable def iR:SD :=
 (cG (fL 6 (cF 6 (dN (du (fT (d2 cL (b7 2) (cA (dC (.int 0)))))) 1 [1,5] (gN 0) gF iN)))
  (cG (fL 7 (cF 7 (cD eG (b4 (cf 6) (b4 (cf 3) cv)))))
  (gp 4 (rV gK (cf 7) (cD nU (b4 (cf 0) (b4 (cf 2) (b4 (cf 3) (b4 (cf 6) (b4 (cf 7) cv))))))))))
noncomputable def k7:SD :=
 (cG (cF 4 (cW cv))
  (cG (dW (cP (d2 cL (b7 1) (cA (dC (.int 0))))) (gN 5) iR)
  (lx 4)))
noncomputable def df:FD:=ki 4 4 k7
noncomputable def gf:SD :=
 (i9 (dk (b7 3) [(o4,(cA (d1 fF (b7 1))))]) (gp 1 (cf 2)) fM)
noncomputable def jf:SD :=
 (cG (cF 1 (cW cv))
  (cG (dW (uP (cf 0)) (gT [(gN 2),(gN 3)]) gf)
  (lx 1)))
noncomputable def cV:FD:=ki 1 3 jf
noncomputable def nC:ED :=
 (cD cV (b4 (cf 0) cv))
noncomputable def kZ:ED :=
 (d2 pD (b7 3) (cA (dM (b4 (cf 0) (b4 (d2 eD (b7 1) (cA (dM (b4 (cf 4) cv)))) (b4 (cf 2) cv))))))
noncomputable def lj:SD :=
 (cG (cF 9 (d2 cL (b7 4) (cA (d2 cL (b7 8) (cA (dC (.int 1)))))))
  (gp 6 (d1 cU (cA (dN (du (fT (d2 cL (b7 5) (cA (d2 cL (b7 8) (cA (dC (.int 0)))))))) 3 [9,7] (gT [(gN 0),(gN 1),(gN 2)]) gF kZ)))))
noncomputable def nB:ED :=
 (d1 fF (b7 0))
noncomputable def pM:SD :=
 (cG (fL 4 (cF 4 (cD df (b4 (cf 0) (b4 (cf 1) (b4 (cf 2) (b4 (cf 3) cv)))))))
  (cG (fL 5 (cF 5 (dN (du (eo 4)) 1 [] (gN 0) gF nC)))
  (cG (cF 6 (cW cv))
  (cG (dW (eY (fT (d2 cL (b7 1) (cA (dC (.int 1)))))) (gT [(gN 7),(gN 8)]) lj)
  (dI (dM (b4 (d1 cU (cA (dN (du (eo 5)) 1 [] (gN 0) gF nB))) (b4 (d1 cU (b7 6)) cv))))))))
noncomputable def kE:FD:=ki 4 6 pM
noncomputable def qx:SD :=
 (cF 2 (d2 cL (cA (d2 cL (cA (d2 cL (b7 0) (cA (dC (.int 1))))) (b7 3))) (b7 2)))
noncomputable def yy:SD :=
 (cG (dW (du (eo 1)) (gN 3) qx)
  (dI (cf 2)))
noncomputable def nS:FD:=ki 3 1 yy
noncomputable def iM:ED :=
 (d2 cL (cA (d2 cL (b7 1) (cA (dC (.int 0))))) (b7 0))
noncomputable def kc:ED :=
 (cD nS (b4 (cf 1) (b4 (cf 2) (b4 (cf 0) cv))))
noncomputable def kf:SD :=
 (gp 4 (d1 cU (cA (dN (cP (d2 cL (b7 3) (cA (d2 cL (b7 5) (cA (dC (.int 0))))))) 1 [2,6] (gN 0) gF kc))))
noncomputable def k6:SD :=
 (cG (cF 3 (d1 cU (cA (dN (du (fT (d2 cL (b7 1) (cA (dC (.int 0)))))) 1 [2] (gN 0) gF iM))))
  (cG (cF 4 (cW cv))
  (cG (dW (wU (fT (d2 cL (b7 0) (cA (dC (.int 1))))) (fT (d2 cL (b7 1) (cA (dC (.int 1)))))) (gT [(gN 5),(gN 6)]) kf)
  (dI (dM (b4 (cf 3) (b4 (d1 cU (b7 4)) cv)))))))
noncomputable def gg:FD:=ki 3 4 k6
noncomputable def pX:SD :=
 (dI (EC (d1 (qY "int") (b7 0)) (EB (d1 (qY "bool") (b7 0)))))
noncomputable def i8:FD:=ki 1 0 pX
noncomputable def gD:SD :=
 (i9 (xH (kj (sT (cD i8 (b4 (cf 5) cv)))) (kj (dk (cA (dC (.int 0))) [(Iz,(b7 5)),(Hd,(cA (d2 cL (cA (d2 cL (b7 2) (cA (dC (.int 0))))) (b7 4))))]))) (dI (dC (.bool false))) fM)
noncomputable def gB:SD :=
 (cG (i9 (xH (kj (sT (d1 (qY "tuple") (cA (d2 cL (b7 3) (b7 4)))))) (dk (cA (d1 fF (cA (d2 cL (b7 3) (b7 4))))) [(sN,(cA (d2 cL (cA (d2 cL (b7 1) (cA (dC (.int 0))))) (b7 4))))])) (dI (dC (.bool false))) fM)
  (dW (du (fT (d2 cL (b7 3) (b7 4)))) (gN 5) gD))
noncomputable def gA:SD :=
 (cG (cF 8 (d2 cL (cA (d2 cL (b7 3) (cA (d2 cL (b7 7) (cA (dC (.int 1))))))) (cA (d2 cL (cA (d2 cL (cA (d2 cL (b7 1) (cA (dC (.int 1))))) (b7 6))) (b7 5)))))
  (cG (cF 9 (d2 cL (cA (d2 cL (b7 3) (cA (d2 cL (b7 7) (cA (dC (.int 0))))))) (b7 5)))
  (i9 (dk (b7 8) [(sN,(cA (d2 cL (cA (d2 cL (cA (d2 cL (b7 2) (cA (dC (.int 1))))) (b7 6))) (b7 9))))]) (dI (dC (.bool false))) fM)))
noncomputable def gw:SD :=
 (dW (cP (d2 cL (cA (d2 cL (b7 1) (cA (dC (.int 0))))) (cA (d2 cL (b7 7) (cA (dC (.int 0))))))) (gN 5) gA)
noncomputable def la:SD :=
 (cG (i9 (xH (kj (sT (d1 (qY "tuple") (b7 3)))) (dk (cA (d1 fF (b7 3))) [(sN,(cA (d2 cL (b7 0) (cA (dC (.int 0))))))])) (dI (dC (.bool false))) fM)
  (cG (dW (cP (d2 cL (b7 0) (cA (dC (.int 0))))) (gN 4) gB)
  (cG (dW (eY (fT (d2 cL (b7 0) (cA (dC (.int 1)))))) (gT [(gN 6),(gN 7)]) gw)
  (dI (dC (.bool true))))))
noncomputable def gi:FD:=ki 4 6 la
noncomputable def iO:ED :=
 (d2 eD (b7 1) (cA (dM (b4 (cf 0) cv))))
noncomputable def kg:SD :=
 (pf 4 (dN (cP (cf 1)) 1 [5] (gN 0) gF iO))
noncomputable def iS:SD :=
 (cG (cF 4 (cW cv))
  (cG (dW (du (eo 2)) (gN 5) kg)
  (j5 4 (cF 2 (cf 4)))))
noncomputable def k9:SD :=
 (cG (fL 2 (cF 2 (cW (b4 (dM cv) cv))))
  (cG (dW (cP (cf 0)) (gN 3) iS)
  (dI (cf 2))))
noncomputable def gh:FD:=ki 2 4 k9
noncomputable def jW:ED :=
 (d2 eD (b7 1) (cA (dM (b4 (cf 0) cv))))
noncomputable def l7:SD :=
 (pf 5 (dN (du (fT (cD gh (b4 (d2 cL (cA (d2 cL (b7 1) (cA (dC (.int 0))))) (b7 4)) (b4 (d2 cL (cA (d2 cL (b7 2) (cA (dC (.int 0))))) (b7 4)) cv))))) 1 [6] (gN 0) gF jW))
noncomputable def jZ:SD :=
 (cG (cF 5 (cW cv))
  (cG (dW (du (eo 3)) (gN 6) l7)
  (j5 5 (cF 3 (cf 5)))))
noncomputable def pW:ED :=
 (cf 0)
noncomputable def nG:SD :=
 (cG (fL 3 (cF 3 (cW (b4 (dM cv) cv))))
  (cG (dW (cP (d2 cL (b7 0) (cA (dC (.int 0))))) (gN 4) jZ)
  (dI (dN (du (eo 3)) 1 [0,1,2] (gN 0) (sT (cD gi (b4 (cf 1) (b4 (cf 2) (b4 (cf 3) (b4 (cf 0) cv)))))) pW))))
noncomputable def fZ:FD:=ki 3 4 nG
noncomputable def ve:ED :=
 (d2 cL (b7 1) (b7 0))
noncomputable def vd:ED :=
 (d1 cU (cA (dN (du (eo 0)) 1 [1] (gN 0) gF ve)))
noncomputable def yB:SD :=
 (dI (d1 cU (cA (dN (wU (eo 0) (eo 1)) 2 [] (gT [(gN 0),(gN 1)]) gF vd))))
noncomputable def pO:FD:=ki 2 0 yB
noncomputable def qu:ED :=
 (d2 pD (cA (d2 cL (b7 1) (b7 2))) (cA (dM (b4 (cf 3) (b4 (dM cv) (b4 (cf 0) cv))))))
noncomputable def qz:SD :=
 (gp 5 (d1 cU (cA (dN (cP (d2 cL (cA (d2 cL (b7 3) (cA (dC (.int 0))))) (b7 6))) 1 [4,7,6] (gN 0) gF qu))))
noncomputable def yz:SD :=
 (cG (fL 4 (cF 4 (cD df (b4 (cf 0) (b4 (cf 1) (b4 (cf 2) (b4 (cf 3) cv)))))))
  (cG (cF 5 (cW cv))
  (cG (dW (eY (fT (d2 cL (b7 2) (cA (dC (.int 0)))))) (gT [(gN 6),(gN 7)]) qz)
  (dI (d1 cU (b7 5))))))
noncomputable def se:FD:=ki 4 4 yz
noncomputable def lX:ED :=
 (d2 cL (b7 1) (b7 0))
noncomputable def nF:SD :=
 (dI (d1 cU (cA (dN (du (fT (d2 cL (b7 0) (cA (dC (.int 0)))))) 1 [1] (gN 0) gF lX))))
noncomputable def iH:FD:=ki 2 0 nF
noncomputable def yC:SD :=
 (dI (cD pO (b4 (cD se (b4 (cf 0) (b4 (cf 1) (b4 (cf 2) (b4 (cf 3) cv))))) (b4 (cD iH (b4 (cf 2) (b4 (cf 4) cv))) cv))))
noncomputable def pP:FD:=ki 5 0 yC
noncomputable def jz:SD :=
 (cF 3 (d2 ng (b7 3) (cA (d2 cL (cA (d2 cL (b7 2) (cA (dC (.int 0))))) (b7 4)))))
noncomputable def jy:SD :=
 (dW (cP (d2 cL (cA (d2 cL (b7 1) (cA (dC (.int 0))))) (b7 4))) (gN 5) jz)
noncomputable def lZ:SD :=
 (cG (cF 3 (dC (.int 1)))
  (cG (dW (cP (d2 cL (b7 0) (cA (dC (.int 0))))) (gN 4) jy)
  (dI (cf 3))))
noncomputable def fI:FD:=ki 3 3 lZ
noncomputable def mw:ED :=
 (cD nS (b4 (cf 3) (b4 (cf 1) (b4 (d2 cL (cA (d2 cL (b7 4) (b7 0))) (b7 2)) cv))))
noncomputable def mG:SD :=
 (gp 6 (d1 cU (cA (dN (du (fT (cD cV (b4 (cf 7) cv)))) 3 [4,5] (gT [(gN 0),(gN 1),(gN 2)]) gF mw))))
noncomputable def rP:SD :=
 (cG (cF 6 (cW cv))
  (cG (dW (du (fT (cD df (b4 (cf 0) (b4 (cf 1) (b4 (cf 2) (b4 (cf 3) cv))))))) (gN 7) mG)
  (dI (d1 cU (b7 6)))))
noncomputable def kD:FD:=ki 6 2 rP
noncomputable def vq:SD :=
 (cG (cF 12 (cD pP (b4 (cf 1) (b4 (cf 2) (b4 (cf 3) (b4 (cf 4) (b4 (cf 11) cv)))))))
  (cG (i9 (xH (dk (b7 12) [(vp,(b7 9))]) (dk (b7 12) [(He,(b7 10))])) (dI (dC (.bool false))) fM)
  (cG (gp 10 (cf 12))
  (i9 (dk (cA (cD kD (b4 (cf 1) (b4 (cf 2) (b4 (cf 3) (b4 (cf 4) (b4 (cf 5) (b4 (cf 12) cv)))))))) [(sN,(b7 11))]) (dI (dC (.bool false))) fM))))
noncomputable def zM:SD :=
 (cG (cF 1 (cD eV (b4 (cf 0) (b4 (dC (.int 0)) (b4 (dC (.int 2)) (b4 (dC (.int 2)) cv))))))
  (cG (cF 2 (cD eV (b4 (cf 0) (b4 (dC (.int 3)) (b4 (dC (.int 3)) (b4 (dC (.int 2)) cv))))))
  (cG (cF 3 (cD fY (b4 (cf 0) (b4 (dC (.int 6)) (b4 (cf 1) (b4 (cf 2) cv))))))
  (cG (cF 4 (cD fy (b4 (cf 0) (b4 (dC (.int 8)) (b4 (cf 1) (b4 (dC (.int 2)) cv))))))
  (cG (cF 5 (cD fy (b4 (cf 0) (b4 (dC (.int 10)) (b4 (cf 2) (b4 (dC (.int 2)) cv))))))
  (cG (cF 6 (cD kE (b4 (cf 1) (b4 (cf 2) (b4 (cf 3) (b4 (cf 4) cv))))))
  (cG (cF 7 (cD gg (b4 (cf 1) (b4 (cf 3) (b4 (cf 5) cv)))))
  (cG (i9 (dk (cA (d2 sD (cA (cD fI (b4 (cf 2) (b4 (cf 6) (b4 (cf 5) cv))))) (cA (cD fI (b4 (cf 1) (b4 (cf 4) (b4 (cf 7) cv))))))) [(A2,(cA (dC (.int 500))))]) (dI (dC (.bool true))) fM)
  (cG (fL 8 (cF 8 (cD fZ (b4 (cf 2) (b4 (cf 6) (b4 (cf 5) cv))))))
  (cG (fL 9 (cF 9 (cD fZ (b4 (cf 1) (b4 (cf 4) (b4 (cf 7) cv))))))
  (cG (i9 (dk (cA (d1 fF (b7 8))) [(sN,(cA (d1 fF (b7 9))))]) (dI (dC (.bool false))) fM)
  (cG (cF 10 (cW cv))
  (cG (dW (du (eo 8)) (gN 11) vq)
  (dI (dC (.bool true))))))))))))))))
noncomputable def F_law:FD:=ki 1 12 zM
end
noncomputable def Hc (c f found:Int):Int :=
 found*1000000000+(((c*f+7919)%2147483647*((c*f+7919)%2147483647))%2147483647*40692%2147483399)/7
noncomputable def FL (c:Int):Int:=Hc c 44488 (Hc c 39373 (Hc c 69621 (Hc c 48271 0)))
theorem vP {c f found:Int}{x:Option Vl}(hf:-(2 ^ 64)<f)(hf2:f<2 ^ 64):l6 [some (.int c,false),some (.int found,false),some (.int f,false),x] =
  some (.next [some (.int c,false),some (.int (Hc c f found),false),some (.int f,false),some (.int ((((c*f+7919)%2147483647*((c*f+7919)%2147483647))%2147483647*40692%2147483399)),false)]):=by
 have b1:0<=(c*f+7919)%2147483647:=JW _ (by decide);have b2:(c*f+7919)%2147483647<2147483647:=JN _ (by decide);simp[l6,cG,cF,d2,cA,b7,dC,qX hf hf2,eD,iV,qZ,Gb,BN (i:=(c*f+7919)%2147483647) (j:=(c*f+7919)%2147483647) ⋯ ⋯,qX,Hc]
theorem yZ (c:Int):iI [.int c]=some (.int (FL c),false):=by
 simp[iI,ki,eP,rQ,cG,cF,dW,du,cW,b4,cv,dC,Ju,dP,fT,eA,gN,vP,dI,cf,FL]
noncomputable def cell (ns:List Int)(k:Nat):Int:=FL (ns.getD k 0)
theorem uK {n k:Nat}(h:k<n):vC n (k:Int)=some k:=by
 unfold vC;rw[if_pos ⋯,if_pos ⋯];simp
theorem vv {xs:List D}{k:Nat}{d:D}(h:xs[k]?=some d):sf xs (k:Int)=some d:=by
 unfold sf;have:k<xs.length:=(List.getElem?_eq_some_iff.mp h).1;rw[uK this,aa,h]
theorem lh (ns:List Int)(k:Nat):cN [.list (ns.map .int),.int (k:Int)]=some (.int (cell ns k),false):=by
 by_cases h:k<ns.length
 ·have h':(k:Int)<(ns.length:Int):=by omega
  have e:sf (ns.map PyData.int) (k:Int)=some (.int (ns.getD k 0)):=vv (by rw[au,ao h,ag,ao h];rfl);simp[cN,ki,eP,nJ,cG,i9,dk,tChain,b7,cA,d1,fF,Hd,h',dI,cD,b4,cv,d2,cL,e,yZ,cell]
 ·have h':¬(k:Int)<(ns.length:Int):=by omega
  have e:ns[k]?=none:=aT ⋯;simp[cN,ki,eP,nJ,cG,i9,dk,tChain,b7,cA,d1,fF,Hd,h',fM,dI,cD,b4,cv,dC,yZ,cell,e]
noncomputable def Ic (s:Int):Int:=s*48271%2147483647
noncomputable def oK (c k b:Int):Int:=Ic (Ic (Ic ((c%2147483629+1+k*1000003)%2147483647)))/97%b
theorem w4 {s c k b:Int}{x:Option Vl}:l8 [some (.int c,false),some (.int k,false),some (.int b,false),some (.int s,false),x] =
  some (.next [some (.int c,false),some (.int k,false),some (.int b,false),some (.int (Ic s),false),x]):=by
 simp[l8,cF,d2,cA,b7,dC,qX,iV,Ic]
theorem mB {c k b:Int}(hb:0<b):cX [.int c,.int k,.int b]=some (.int (oK c k b),false):=by
 simp[cX,ki,eP,rR,cG,cF,d2,cA,b7,dC,iV,eD,qX,dW,cP,xy,fg,aj,List.range.loop,eA,gN,w4,dI,qZ,iV hb,oK]
theorem my {c k b:Int}(hb:0<b):0<=oK c k b:=JW _ ⋯
theorem mz {c k b:Int}(hb:0<b):oK c k b<b:=JN _ hb
noncomputable def cH (p:Int×Int):D:=.tuple [.int p.1,.int p.2]
noncomputable def cc (k:Int)(ar:List (Int×Int)):D:=.tuple [.int k,.tuple (ar.map cH)]
structure Wf (k:Int)(ar:List (Int×Int)):Prop where
 lo:1<=k
 ok:∀p∈ar,0<=p.1/\p.1<p.2/\p.2<k
theorem wN (n:Nat):fg 0 n=(aj n).map fun (k:Nat)=>.int (k:Int):=by
 unfold fg;simp
theorem wX {ns:List Int}{first i most many kinds a b:Int}{ca cb:Int}{ar:List (Int×Int)}{y z:Option Vl}(c1:cN [.list (ns.map .int),.int (first+1)]=some (.int ca,false))(c2:cN [.list (ns.map .int),.int (first+2)]=some (.int cb,false))
  (d1':cX [.int ca,.int i,.int (kinds-1)]=some (.int a,false)) (d2':cX [.int cb,.int i,.int (kinds-1-a)]=some (.int b,false)) (hz:ar.length<sizeLine) :
  j0 [some (.list (ns.map .int),false),some (.int first,false),some (.int most,false),some (.int many,false),some (.int kinds,false),some (.list (ar.map cH),true),some (.int i,false),y,z] =
   some (.next [some (.list (ns.map .int),false),some (.int first,false),some (.int most,false),some (.int many,false),some (.int kinds,false),some (.list ((ar++[(a,a+1+b)]).map cH),true),some (.int i,false),some (.int a,false),some (.int (a+1+b),false)]):=by
 simp[j0,cG,cF,cD,b4,cv,cf,d2,cA,b7,dC,eD,BL,c1,c2,d1',d2',gp,dM,lE,hz,C4,cH]
theorem Cj {ns:List Int}{first:Nat}{most many kinds:Int}(hk:1<kinds)(n:Nat):∀(i:Nat) (ar:List (Int×Int)) (x y z:Option Vl),Wf kinds ar->ar.length+n<=1000->∃ar' x' y' z',Wf kinds ar'/\ar'.length=ar.length+n ∧
  eA (gN 6) j0 ((bQ i n).map fun (k:Nat)=>.int (k:Int)) [some (.list (ns.map .int),false),some (.int (first:Int),false),some (.int most,false),some (.int many,false),some (.int kinds,false),some (.list (ar.map cH),true),x,y,z] =
   some (.next [some (.list (ns.map .int),false),some (.int (first:Int),false),some (.int most,false),some (.int many,false),some (.int kinds,false),some (.list (ar'.map cH),true),x',y',z']):=by
 induction n with
 |zero=>exact fun i ar x y z w _=>⟨ar,x,y,z,w,rfl,rfl⟩
 |succ n ih =>
  intro i ar x y z w hn;have c1:=lh ns (first+1);have c2:=lh ns (first+2);rw[show (((first+1:Nat)):Int)=(first:Int)+1 by omega] at c1;rw[show (((first+2:Nat)):Int)=(first:Int)+2 by omega] at c2;generalize cell ns (first+1)=ca at c1;generalize cell ns (first+2)=cb at c2;have hb1:0<kinds-1:=by omega
  have a0:=my (c:=ca) (k:=(i:Int)) hb1;have a1:=mz (c:=ca) (k:=(i:Int)) hb1;have d1':=mB (c:=ca) (k:=(i:Int)) hb1;generalize oK ca (i:Int) (kinds-1)=a at a0 a1 d1';have hb2:0<kinds-1-a:=by omega
  have b0:=my (c:=cb) (k:=(i:Int)) hb2;have b1:=mz (c:=cb) (k:=(i:Int)) hb2;have d2':=mB (c:=cb) (k:=(i:Int)) hb2;generalize oK cb (i:Int) (kinds-1-a)=b at b0 b1 d2';have w':Wf kinds (ar++[(a,a+1+b)]):=⟨w.lo,fun p hp=>by
   rcases List.mem_append.mp hp with h|h
   ·exact w.ok p h
   ·cases List.mem_singleton.mp h;dsimp only;omega⟩
  have hz:ar.length<sizeLine:=xJ ⋯;obtain⟨ar',x',y',z',w2,l2,e2⟩:=ih (i+1) (ar++[(a,a+1+b)]) (some (.int (i:Int),false)) (some (.int a,false)) (some (.int (a+1+b),false)) w' (by rw[aw,aO];omega);refine⟨ar',x',y',z',w2,by rw[l2,aw,aO];omega,?_⟩;rw[bZ,aA,eA];simp only[gN,bX,aa];rw[wX c1 c2 d1' d2' hz,aa];exact e2
theorem zx (ns:List Int)(first:Nat){most many:Int}(hm:0<most)(hm2:most<1073741824)(hy:0<=many)(hy2:many<1000):∃k ar,eV [.list (ns.map .int),.int (first:Int),.int most,.int many]=some (cc k ar,false)/\Wf k ar/\k<=most/\(ar.length:Int)<=many:=by
 have c0:=lh ns first
 have k0:0<=cell ns first%most:=JW _ ⋯
 have k1:cell ns first%most<most:=JN _ hm
 have n0:0<=cell ns first/most%(many+1):=JW _ ⋯
 have n1:cell ns first/most%(many+1)<many+1:=JN _ ⋯
 have hmod:=iV (i:=cell ns first/most) (j:=many+1) ⋯;by_cases hk:1<1+cell ns first%most
 ·obtain⟨ar,x,y,z,w,l,e⟩:=Cj (ns:=ns) (first:=first) (most:=most) (many:=many) (kinds:=1+cell ns first%most) hk (cell ns first/most%(many+1)).toNat 0 [] none none none ⟨by omega,fun p hp=>by cases hp⟩ (by simp;omega);refine⟨1+cell ns first%most,ar,?_,w,by omega,by rw[l];simp;omega⟩;have hbd:-4611686018427387904<=cell ns first/most%(many+1)/\cell ns first/most%(many+1)<4611686018427387904:=by omega
  rw[bL,<-bI] at e;have ei:=wN (cell ns first/most%(many+1)).toNat;simp[eV,ki,eP,nH,cG,cF,cD,b4,cv,cf,d2,cA,b7,dC,eD,c0,iV hm,qZ hm hm2,hmod,cW,i9,dk,tChain,A2,hk,dW,cP,xy,hbd,ei,e,dI,dM,d1,cU,C4,cc]
 ·refine⟨1+cell ns first%most,[],?_,⟨by omega,fun p hp=>by cases hp⟩,by omega,by simpa using hy⟩;simp[eV,ki,eP,nH,cG,cF,cD,b4,cv,cf,d2,cA,b7,dC,eD,c0,iV hm,cW,i9,dk,tChain,A2,hk,fM,dI,dM,d1,cU,C4,cc]
noncomputable abbrev Ar:=List (Int×Int)
noncomputable def oB (n:Nat):D:=.int (n:Int)
noncomputable def ck (p:List Nat):D:=.tuple (p.map oB)
noncomputable def dj (ar:Ar)(kind:Int)(p:List Nat):Int:=match p.getLast? with
 |none=>kind
 |some i=>(ar.getD i (0,0)).2
def ig (ar:Ar)(p:List Nat):Prop:=∀i∈p,i<ar.length
theorem uC (p:List Nat):Nb 1 (ck p):=.tuple (mj (f:=oB) (fun n=>.int 0 _) p)
theorem BX (ps:List (List Nat)):Nb 2 (.list (ps.map ck)):=.list (mj uC ps)
theorem lS (k:Int)(ar:Ar):cL (cc k ar) (.int 0)=some (.int k,false):=by simp[cc,cL,sf,vC]
theorem jU (k:Int)(ar:Ar):cL (cc k ar) (.int 1)=some (.tuple (ar.map cH),false):=by simp[cc,cL,sf,vC]
theorem lz (p:Int×Int):cL (cH p) (.int 0)=some (.int p.1,false):=by simp[cH,cL,sf,vC]
theorem oh (p:Int×Int):cL (cH p) (.int 1)=some (.int p.2,false):=by simp[cH,cL,sf,vC]
theorem iW (ar:Ar)(kind:Int):dj ar kind []=kind:=rfl
theorem pI (ar:Ar)(kind:Int)(p:List Nat)(i:Nat):dj ar kind (p++[i])=(ar.getD i (0,0)).2:=by
 unfold dj;rw[List.getLast?_concat]
theorem Io {ar:Ar}{i:Nat}(h:i<ar.length):sf (ar.map cH) (i:Int)=some (cH (ar.getD i (0,0))) :=
 vv (by rw[au,ao h,ag,ao h];rfl)
theorem EK (xs:List D)(d:D):sf (xs++[d]) (-1)=some d:=by
 unfold sf vC;rw[if_neg ⋯,if_pos (by rw[aw,aO];omega),aw,aO,aa,show ((-1:Int)+((xs.length+1:Nat):Int)).toNat=xs.length by omega];simp
noncomputable def iq (e:Int)(p:List Nat)(s:Nat):Ar->List (List Nat)
 |[]=>[]
 |a::r=>if a.1=e then (p++[s])::iq e p (s+1) r else iq e p (s+1) r
theorem lW (e:Int)(p:List Nat):∀(r:Ar) (s:Nat),(iq e p s r).length<=r.length
 |[],s=>by simp[iq]
 | a::r,s=>by
  have:=lW e p r (s+1);unfold iq;split <;> simp <;> omega
theorem lV {e:Int}{p q:List Nat}:∀{r:Ar}{s:Nat},q∈iq e p s r->∃i a,q=p++[s+i]/\r[i]?=some a/\a.1=e
 |[],s,h=>by simp[iq] at h
 | a::r,s,h=>by
  unfold iq at h;split at h
  ·rename_i ha;rcases List.mem_cons.mp h with z|z
   ·exact⟨0,a,z,rfl,ha⟩
   ·obtain⟨i,b,e1,e2,e3⟩:=lV z;exact⟨i+1,b,by rw[e1,show s+1+i=s+(i+1) by omega],by simpa using e2,e3⟩
  ·obtain⟨i,b,e1,e2,e3⟩:=lV h;exact⟨i+1,b,by rw[e1,show s+1+i=s+(i+1) by omega],by simpa using e2,e3⟩
noncomputable def step (ar:Ar)(kind:Int)(r:List (List Nat)):List (List Nat):=r.flatMap fun p=>iq (dj ar kind p) p 0 ar
theorem qK (ar:Ar)(kind:Int):∀r:List (List Nat),(step ar kind r).length<=ar.length*r.length
 |[]=>by simp[step]
 | p::r=>by
  have h1:=qK ar kind r;have h2:=lW (dj ar kind p) p ar 0;unfold step at h1 ⊢;rw[bz,aw,aJ,Nat.mul_succ];omega
theorem km {ar:Ar}{kind:Int}{r:List (List Nat)}{q:List Nat}(h:q∈step ar kind r):∃p i a,p∈r/\q=p++[i]/\ar[i]?=some a/\a.1=dj ar kind p/\dj ar kind q=a.2:=by
 obtain⟨p,hp,hq⟩:=List.mem_flatMap.mp h;obtain⟨i,a,e1,e2,e3⟩:=lV hq;rw[bE] at e1;refine⟨p,i,a,hp,e1,e2,e3,?_⟩;rw[e1,pI,ag,e2];rfl
theorem y0 {ar:Ar}{kind:Int}{r:List (List Nat)}(h:∀p∈r,ig ar p):∀q∈step ar kind r,ig ar q:=fun q hq i hi=>by
 obtain⟨p,j,a,hp,e1,e2,_⟩:=km hq;subst e1;rcases List.mem_append.mp hi with z|z
 ·exact h p hp i z
 ·cases List.mem_singleton.mp z;exact (List.getElem?_eq_some_iff.mp e2).1
theorem qJ {ar:Ar}{kind:Int}{r:List (List Nat)}{b:Nat}(h:∀p∈r,p.length+1<=b):∀q∈step ar kind r,q.length<=b:=fun q hq=>by
 obtain⟨p,j,a,hp,e1,_⟩:=km hq;have:=h p hp;rw[e1,aw,aO];exact this
noncomputable def lay (ar:Ar)(kind:Int):Nat->List (List Nat)->List (List Nat)
 |0,r=>r
 |m+1,r=>lay ar kind m (step ar kind r)
theorem uD {k:Int}{ar:Ar}{kind:Int}(w:Wf k ar):∀(m:Nat) (r:List (List Nat)),(∀p∈r,k-m<=dj ar kind p/\dj ar kind p<k)->lay ar kind m r=[]
 | 0,r,h=>by
  cases r with
  |nil=>rfl
  |cons p r =>
   have:=h p (by simp);omega
 | m+1,r,h=>by
  refine uD w m (step ar kind r) fun q hq=>?_;obtain⟨p,i,a,hp,e1,e2,e3,e4⟩:=km hq;have h1:=h p hp;have h2:=w.ok a (az e2);rw[e4];omega
noncomputable def lF (ar:Ar)(kind other:Int)(r:List (List Nat)):List (List Nat):=r.filter fun p=>decide (dj ar kind p=other)
noncomputable def run (ar:Ar)(kind other:Int):Nat->List (List Nat)->List (List Nat)->List (List Nat)
 |0,_,f=>f
 |m+1,r,f=>run ar kind other m (step ar kind r) (f++lF ar kind other r)
theorem uj (ar:Ar)(kind other:Int):∀(m:Nat) (f:List (List Nat)),run ar kind other m [] f=f
 |0,f=>rfl
 | m+1,f=>by
  show run ar kind other m [] (f++[])=f;rw[bj];exact uj ar kind other m f
theorem oH:∀(ds:List D) (s:Nat),(eZ s ds).length=ds.length
 |[],_=>rfl
 |d::ds,s=>by rw[eZ,aJ,aJ,oH ds]
theorem qp (ar:Ar)(kind other:Int)(r:List (List Nat)):(lF ar kind other r).length<=r.length:=JO _ _
theorem sW {k kind:Int}{ar:Ar}(hk:0<=kind)(hk2:kind<k):∀p∈([[]]:List (List Nat)),k-(k.toNat:Int)<=dj ar kind p/\dj ar kind p<k:=fun p hp=>by
 cases List.mem_singleton.mp hp;rw[iW];omega
noncomputable def fu (k:Int)(ar:Ar)(kind other:Int):List (List Nat):=run ar kind other k.toNat [[]] []
theorem td {m:Nat}(h:m<=4):6 ^ m<=1296:=JR (by decide) h
theorem ze {ar:Ar}{kind other:Int}{b:Nat}:∀(m:Nat) (r f:List (List Nat)),(∀q∈r,ig ar q/\q.length+m<=b)->(∀q∈f,dj ar kind q=other/\ig ar q/\q.length<=b)->∀p∈run ar kind other m r f,dj ar kind p=other/\ig ar p/\p.length<=b
 |0,r,f,_,hf,p,hp=>hf p hp
 | m+1,r,f,hr,hf,p,hp=>by
  refine ze m (step ar kind r) (f++lF ar kind other r) (fun q hq=>⟨y0 (fun p hp=>(hr p hp).1) q hq,?_⟩) (fun q hq=>?_) p hp
  ·obtain⟨p',_,_,hp',e1,_⟩:=km hq;have:=(hr p' hp').2;rw[e1,aw,aO];omega
  ·rcases List.mem_append.mp hq with z|z
   ·exact hf q z
   ·obtain⟨z1,z2⟩:=List.mem_filter.mp z;have:=(hr q z1).2;exact⟨of_decide_eq_true z2,(hr q z1).1,by omega⟩
theorem CW {k:Int}{ar:Ar}{kind other:Int}(h4:k<=4):∀p∈fu k ar kind other,dj ar kind p=other/\ig ar p/\p.length<=4 :=
 ze _ _ _ (fun q hq=>by cases List.mem_singleton.mp hq;exact⟨fun i hi=>(by cases hi),(by simp;omega)⟩) (fun q hq=>by cases hq)
noncomputable def eQ (ar:Ar)(kind:Int)(p:List Nat):D:=.tuple [ck p,.int (dj ar kind p)]
theorem D7 (ar:Ar)(kind:Int)(p:List Nat):Nb 2 (eQ ar kind p):=.tuple (.cons (uC p) (.cons (.int 1 _) .nil))
theorem Ed {s0 s1 s2 s3 s4:Option Vl}{G:List D}{p:List Nat}{e:Int}{s:Nat}{a:Int×Int}(hp:p.length+1<=1000000)(hG:G.length<1000000) :
  hZ [s0,s1,s2,s3,s4,some (.list G,true),some (ck p,false),some (.int e,false),some (.int (s:Int),false),some (cH a,false)] =
   some (.next [s0,s1,s2,s3,s4,some (.list (if a.1=e then G++[.tuple [ck (p++[s]),.int a.2]] else G),true),some (ck p,false),some (.int e,false),some (.int (s:Int),false),some (cH a,false)]):=by
 have hz:p.length+1<=sizeLine:=tZ hp;have hz2:G.length<sizeLine:=xJ hG;have ho:eD (ck p) (.tuple [.int (s:Int)])=some (ck (p++[s]),false):=by simp[ck,eD,hz,oB]
 by_cases h:a.1=e
 ·simp[hZ,i9,dk,tChain,cA,d2,b7,dC,lz,oh,ft,h,gp,dM,b4,cv,cf,ho,Bo,C4,lE,hz2]
 ·simp[hZ,i9,dk,tChain,cA,d2,b7,dC,lz,ft,h,fM]
theorem rj {s0 s1 s2 s3 s4:Option Vl}{ar:Ar}{kind e:Int}{p:List Nat}(hp:p.length+1<=1000000):∀(r:Ar) (s:Nat) (g:List (List Nat)) (x y:Option Vl),ar.drop s=r->g.length+r.length<=1000000->∃x' y',
  eA (gT [gN 8,gN 9]) hZ (eZ s (r.map cH)) [s0,s1,s2,s3,s4,some (.list (g.map (eQ ar kind)),true),some (ck p,false),some (.int e,false),x,y] =
   some (.next [s0,s1,s2,s3,s4,some (.list ((g++iq e p s r).map (eQ ar kind)),true),some (ck p,false),some (.int e,false),x',y'])
 |[],s,g,x,y,_,_=>⟨x,y,by simp[eZ,eA,iq]⟩
 | a::r,s,g,x,y,hd,hz=>by
  rw[aJ] at hz;have hat:ar[s]?=some a:=by
   have:=congrArg (fun l=>l[0]?) hd;simpa using this
  have hd2:ar.drop (s+1)=r:=by
   rw[<-List.drop_drop,hd];rfl
  have hn:eQ ar kind (p++[s])=.tuple [ck (p++[s]),.int a.2]:=by
   unfold eQ;rw[pI,ag,hat];rfl
  have hb:=Ed (s0:=s0) (s1:=s1) (s2:=s2) (s3:=s3) (s4:=s4) (G:=g.map (eQ ar kind)) (p:=p) (e:=e) (s:=s) (a:=a) hp (by rw[af];omega);rw[aA,eZ,eA];simp only[gT,oC,gN,bX,aa];rw[hb,aa];by_cases h:a.1=e
  ·obtain⟨x',y',q⟩:=rj (s0:=s0) (s1:=s1) (s2:=s2) (s3:=s3) (s4:=s4) (kind:=kind) (e:=e) hp r (s+1) (g++[p++[s]]) (some (.int (s:Int),false)) (some (cH a,false)) hd2 (by rw[aw,aO];omega);refine⟨x',y',?_⟩;rw[aX,aA,bL,hn] at q;rw[if_pos h];dsimp only;refine Eq.trans q ?_;rw[iq,if_pos h,ba];rfl
  ·obtain⟨x',y',q⟩:=rj (s0:=s0) (s1:=s1) (s2:=s2) (s3:=s3) (s4:=s4) (kind:=kind) (e:=e) hp r (s+1) g (some (.int (s:Int),false)) (some (cH a,false)) hd2 ⋯;refine⟨x',y',?_⟩;rw[if_neg h];dsimp only;refine Eq.trans q ?_;rw[iq,if_neg h]
theorem Gn {k kind other:Int}{ar:Ar}{s1 s4 x y:Option Vl}{f g:List (List Nat)}{p:List Nat}(hp:p.length+1<=1000000)(hf:f.length<1000000)(hg:g.length+ar.length<=1000000):∃x' y',
  jC [some (cc k ar,false),s1,some (.int other,false),some (.list (f.map ck),true),s4,some (.list (g.map (eQ ar kind)),true),some (ck p,false),some (.int (dj ar kind p),false),x,y] =
   some (.next [some (cc k ar,false),s1,some (.int other,false),some (.list ((f++lF ar kind other [p]).map ck),true),s4,some (.list ((g++iq (dj ar kind p) p 0 ar).map (eQ ar kind)),true),some (ck p,false),some (.int (dj ar kind p),false),x',y']):=by
 have hz:(f.map ck).length<sizeLine:=xJ (by rw[af];exact hf);obtain⟨x',y',q⟩:=rj (s0:=some (cc k ar,false)) (s1:=s1) (s2:=some (.int other,false)) (s3:=some (.list ((f++lF ar kind other [p]).map ck),true)) (s4:=s4) (kind:=kind) (e:=dj ar kind p) hp ar 0 g x y rfl hg;refine⟨x',y',?_⟩;have s1':(i9 (dk (b7 7) [(o4,(b7 2))]) (gp 3 (cf 6)) fM) [some (cc k ar,false),s1,some (.int other,false),some (.list (f.map ck),true),s4,some (.list (g.map (eQ ar kind)),true),some (ck p,false),some (.int (dj ar kind p),false),x,y] =
   some (.next [some (cc k ar,false),s1,some (.int other,false),some (.list ((f++lF ar kind other [p]).map ck),true),s4,some (.list (g.map (eQ ar kind)),true),some (ck p,false),some (.int (dj ar kind p),false),x,y]):=by
  rw[af] at hz;by_cases h:dj ar kind p=other
  ·simp[i9,dk,tChain,b7,ft,h,gp,cf,lE,hz,lF]
  ·simp[i9,dk,tChain,b7,ft,h,fM,lF]
 rw[jC,cG,s1',aa];dsimp only;rw[dW];have hi:∀ρ:Sl,(eY (fT (d2 cL (b7 0) (cA (dC (.int 1)))))) (some (cc k ar,false)::ρ)=some (eZ 0 (ar.map cH)):=fun ρ=>by
  simp[eY,fT,d2,b7,cA,dC,jU,dP]
 rw[hi,aa,q]
theorem Ce (ar:Ar)(kind other:Int)(p:List Nat)(r:List (List Nat)):lF ar kind other (p::r)=lF ar kind other [p]++lF ar kind other r:=by
 unfold lF;rw[<-b3];rfl
theorem Ad (ar:Ar)(kind:Int)(p:List Nat)(r:List (List Nat)):step ar kind (p::r)=iq (dj ar kind p) p 0 ar++step ar kind r:=by
 unfold step;rw[bz]
theorem B1 {k kind other:Int}{ar:Ar}{s1 s4:Option Vl}:∀(r f g:List (List Nat)) (a b x y:Option Vl),(∀p∈r,p.length+1<=1000000)->f.length+r.length<=1000000->g.length+ar.length*r.length<=1000000->∃a' b' x' y',
  eA (gT [gN 6,gN 7]) jC (r.map (eQ ar kind)) [some (cc k ar,false),s1,some (.int other,false),some (.list (f.map ck),true),s4,some (.list (g.map (eQ ar kind)),true),a,b,x,y] =
   some (.next [some (cc k ar,false),s1,some (.int other,false),some (.list ((f++lF ar kind other r).map ck),true),s4,some (.list ((g++step ar kind r).map (eQ ar kind)),true),a',b',x',y'])
 |[],f,g,a,b,x,y,_,_,_=>⟨a,b,x,y,by simp[eA,lF,step]⟩
 | p::r,f,g,a,b,x,y,hl,hf,hg=>by
  rw[aJ,Nat.mul_succ] at hg;rw[aJ] at hf;have hx:=lW (dj ar kind p) p ar 0;have hh:=qp ar kind other [p];rw[aO] at hh;obtain⟨x1,y1,q1⟩:=Gn (k:=k) (kind:=kind) (other:=other) (ar:=ar) (s1:=s1) (s4:=s4) (x:=x) (y:=y) (f:=f) (g:=g) (p:=p) (hl p (by simp)) ⋯ ⋯;obtain⟨a',b',x',y',q2⟩:=B1 (k:=k) (kind:=kind) (other:=other) (ar:=ar) (s1:=s1) (s4:=s4) r (f++lF ar kind other [p]) (g++iq (dj ar kind p) p 0 ar) (some (ck p,false)) (some (.int (dj ar kind p),false)) x1 y1 (fun q hq=>hl q (by simp[hq])) (by rw[aw];omega) (by rw[aw];omega);refine⟨a',b',x',y',?_⟩;rw[aA,eA];have ht:gT [gN 6,gN 7] (eQ ar kind p) [some (cc k ar,false),s1,some (.int other,false),some (.list (f.map ck),true),s4,some (.list (g.map (eQ ar kind)),true),a,b,x,y] =
    some [some (cc k ar,false),s1,some (.int other,false),some (.list (f.map ck),true),s4,some (.list (g.map (eQ ar kind)),true),some (ck p,false),some (.int (dj ar kind p),false),x,y]:=by
   simp[eQ,gT,oC,gN]
  rw[ht,aa,q1,aa];dsimp only;rw[q2,Ce ar kind other p r,Ad ar kind p r,ba f,ba g]
theorem Gm {k kind other:Int}{ar:Ar}{s1 b5 a b x y:Option Vl}{r f:List (List Nat)}(hl:∀p∈r,p.length+1<=1000000)(hf:f.length+r.length<=1000000)(hg:ar.length*r.length<=1000000):∃b5' a' b' x' y',
  jB [some (cc k ar,false),s1,some (.int other,false),some (.list (f.map ck),true),some (.list (r.map (eQ ar kind)),false),b5,a,b,x,y] =
   some (.next [some (cc k ar,false),s1,some (.int other,false),some (.list ((f++lF ar kind other r).map ck),true),some (.list ((step ar kind r).map (eQ ar kind)),false),b5',a',b',x',y']):=by
 obtain⟨a',b',x',y',q⟩:=B1 (k:=k) (kind:=kind) (other:=other) (ar:=ar) (s1:=s1) (s4:=some (.list (r.map (eQ ar kind)),false)) r f [] a b x y hl hf (by simpa using hg);rw[bL] at q;refine⟨some (.list ((step ar kind r).map (eQ ar kind)),false),a',b',x',y',?_⟩;have e1:(cF 5 (cW cv)) [some (cc k ar,false),s1,some (.int other,false),some (.list (f.map ck),true),some (.list (r.map (eQ ar kind)),false),b5,a,b,x,y] =
   some (.next [some (cc k ar,false),s1,some (.int other,false),some (.list (f.map ck),true),some (.list (r.map (eQ ar kind)),false),some (.list [],true),a,b,x,y]):=by simp[cF,cW,cv]
 have e2:(du (eo 4)) [some (cc k ar,false),s1,some (.int other,false),some (.list (f.map ck),true),some (.list (r.map (eQ ar kind)),false),some (.list [],true),a,b,x,y]=some (r.map (eQ ar kind)):=by simp[du,eo]
 rw[jB,cG,e1,aa];dsimp only;rw[cG,dW,e2,aa,q,aa];simp[j5,share,cF,cf]
theorem zo {k kind other:Int}{ar:Ar}{s1:Option Vl}(ha:ar.length<=5):∀(m:Nat) (r f:List (List Nat)) (b5 a b x y:Option Vl),lay ar kind m r=[]->(∀p∈r,p.length+m<=1000)->r.length*6 ^ m+f.length<=100000->∃b5' a' b' x' y',
  eO jo jB (m+1) [some (cc k ar,false),s1,some (.int other,false),some (.list (f.map ck),true),some (.list (r.map (eQ ar kind)),false),b5,a,b,x,y] =
   some (.next [some (cc k ar,false),s1,some (.int other,false),some (.list ((run ar kind other m r f).map ck),true),some (.list [],false),b5',a',b',x',y'])
 | m,r,f,b5,a,b,x,y,hl,hs,hz=>by
  have nb:Nb 3 (.list (r.map (eQ ar kind))):=.list (mj (D7 ar kind) r);have nb0:Nb 3 (.list []):=.list .nil;have ht:jo [some (cc k ar,false),s1,some (.int other,false),some (.list (f.map ck),true),some (.list (r.map (eQ ar kind)),false),b5,a,b,x,y]=some (decide (r≠[])):=by
   have:sN (.list (r.map (eQ ar kind))) (.list [])=some (decide (r≠[])):=by
    by_cases hr:r=[]
    ·subst hr;exact xl nb0
    ·rw[GO nb nb0 (by simpa using hr),decide_eq_true hr]
   simp only[jo,dk,tChain,cA,b7,cW,cv,aK,aL,aa,bU,Dn,if_true,av,this]
  by_cases hr:r=[]
  ·subst hr;refine⟨b5,a,b,x,y,?_⟩;rw[eO,ht,aa,if_neg (by simp),uj];rfl
  ·have h0:0<r.length:=List.length_pos_iff.mpr hr;cases m with
   |zero=>exact absurd hl hr
   |succ m =>
    obtain⟨p0,hp0⟩:=J2 r hr;have hs0:=hs p0 hp0;have hst:=qK ar kind r;have hh:=qp ar kind other r;have hp:1<=6 ^ m:=Nat.one_le_pow _ _ (by decide);have q1:r.length<=r.length*6 ^ m:=Nat.le_mul_of_pos_right _ ⋯;have q2:ar.length*r.length<=5*r.length:=JS _ ha;have q3:(step ar kind r).length*6 ^ m<=(5*r.length)*6 ^ m:=JS _ ⋯;rw[Nat.pow_succ,<-Nat.mul_assoc] at hz;have q4:5*r.length*6 ^ m=5*(r.length*6 ^ m):=Nat.mul_assoc ..;obtain⟨c5,c6,c7,c8,c9,e1⟩:=Gm (k:=k) (kind:=kind) (other:=other) (ar:=ar) (s1:=s1) (b5:=b5) (a:=a) (b:=b) (x:=x) (y:=y) (r:=r) (f:=f) (fun p hp=>by have:=hs p hp;omega) ⋯ ⋯;obtain⟨d5,d6,d7,d8,d9,e2⟩:=zo (k:=k) (kind:=kind) (other:=other) (s1:=s1) ha m (step ar kind r) (f++lF ar kind other r) c5 c6 c7 c8 c9 hl (fun q hq=>by have:=qJ (b:=1000-m) (fun p hp=>by have:=hs p hp;omega) q hq;omega) (by rw[aw];omega);refine⟨d5,d6,d7,d8,d9,?_⟩;rw[eO,ht,aa,if_pos (decide_eq_true hr),e1,aa];exact e2
theorem ou {k kind other:Int}{ar:Ar}(w:Wf k ar)(h4:k<=4)(ha:ar.length<=5)(hk:0<=kind)(hk2:kind<k):fJ [cc k ar,.int kind,.int other]=some (.list ((fu k ar kind other).map ck),true):=by
 have hp:=td (m:=k.toNat) ⋯;obtain⟨c5,c6,c7,c8,c9,e⟩:=zo (k:=k) (kind:=kind) (other:=other) (s1:=some (.int kind,false)) ha k.toNat [[]] [] none none none none none (uD w _ _ (sW hk hk2)) (fun p hp=>by cases List.mem_singleton.mp hp;simp;omega) (by simp;omega);have rn:fJ [cc k ar,.int kind,.int other]=(l5 [some (cc k ar,false),some (.int kind,false),some (.int other,false),none,none,none,none,none,none,none]).bind eP:=rfl;rw[rn];unfold l5;have s1:(cF 3 (cW cv)) [some (cc k ar,false),some (.int kind,false),some (.int other,false),none,none,none,none,none,none,none]=some (.next [some (cc k ar,false),some (.int kind,false),some (.int other,false),some (.list [],true),none,none,none,none,none,none]):=by
  simp[cF,cW,cv]
 have s2:(fL 4 (cF 4 (cW (b4 (dM (b4 (dM cv) (b4 (cf 1) cv))) cv)))) [some (cc k ar,false),some (.int kind,false),some (.int other,false),some (.list [],true),none,none,none,none,none,none] =
   some (.next [some (cc k ar,false),some (.int kind,false),some (.int other,false),some (.list [],true),some (.list ([[]].map (eQ ar kind)),false),none,none,none,none,none]):=by
  simp[fL,cF,cW,b4,dM,cv,cf,Bo,C4,share,ck,eQ,dj]
 rw[bL] at e;rw[cG,s1,aa];dsimp only;rw[cG,s2,aa];dsimp only;rw[cG,pb e,aa];simp[lx,eP,fu]
noncomputable def cR (xs:List Int):D:=.tuple (xs.map .int)
noncomputable def cu (rows:List Int)(steps:List (List Int)):D:=.tuple [cR rows,.tuple (steps.map cR)]
noncomputable def gI (xs:List Int)(i:Int):Int:=xs.getD i.toNat 0
theorem oX (rows:List Int)(steps:List (List Int)):cL (cu rows steps) (.int 0)=some (cR rows,false):=by simp[cu,cL,sf,vC]
theorem zS (rows:List Int)(steps:List (List Int)):cL (cu rows steps) (.int 1)=some (.tuple (steps.map cR),false):=by simp[cu,cL,sf,vC]
theorem ml {xs:List Int}{i:Int}(h0:0<=i)(h1:i<xs.length):xs[i.toNat]?=some (gI xs i):=by
 have hl:i.toNat<xs.length:=by omega
 unfold gI;rw[ag,ao hl];rfl
theorem ir {xs:List Int}{i:Int}(h0:0<=i)(h1:i<xs.length):cL (cR xs) (.int i)=some (.int (gI xs i),false):=by
 unfold cR cL;dsimp only;rw[oz h0 (d:=.int (gI xs i)) (by rw[au,ml h0 h1];rfl)];rfl
theorem rh {xs:List Int}{i:Int}(h0:0<=i)(h1:i<xs.length):cL (.list (xs.map .int)) (.int i)=some (.int (gI xs i),false):=by
 unfold cL;dsimp only;rw[oz h0 (d:=.int (gI xs i)) (by rw[au,ml h0 h1];rfl)];rfl
theorem vQ {ss:List (List Int)}{i:Nat}{s:List Int}(h:ss[i]?=some s):cL (.tuple (ss.map cR)) (.int (i:Int))=some (cR s,false):=by
 unfold cL;dsimp only;rw[oz ⋯ (d:=cR s) (by rw[aV,au,h];rfl)];rfl
theorem E9 (xs:List Int):Nb 1 (cR xs):=.tuple (mj (f:=PyData.int) (fun n=>.int 0 _) xs)
theorem GA {xs:List Int}{i j v:Int}(hi:0<=i)(hj:0<=j)(hl:i<xs.length):gI (xs.set i.toNat v) j=if j=i then v else gI xs j:=by
 unfold gI;rw[ag,ag];by_cases h:j=i
 ·subst h;rw[ay ⋯,if_pos rfl];rfl
 ·rw[ai ⋯,if_neg h]
theorem gZ {xs:List Int}(h:∀r∈xs,0<=r)(i:Int):0<=gI xs i:=by
 unfold gI;rw[ag];cases e:xs[i.toNat]? with
 |none=>exact Int.le_refl 0
 |some r=>exact h r (az e)
theorem ji {xs:List Int}{m:Int}(hm:0<=m)(h:∀r∈xs,r<=m)(i:Int):gI xs i<=m:=by
 unfold gI;rw[ag];cases e:xs[i.toNat]? with
 |none=>exact hm
 |some r=>exact h r (az e)
structure dq (k:Int)(ar:Ar)(rows:List Int)(steps:List (List Int)):Prop where
 len:(rows.length:Int)=k
 nn:∀r∈rows,0<=r
 sl:steps.length=ar.length
 st:∀(i:Nat) (a:Int×Int) (s:List Int),ar[i]?=some a->steps[i]?=some s->(s.length:Int)=gI rows a.1/\∀x∈s,0<=x/\x<gI rows a.2
theorem FN (xs:List Int):fF (cR xs)=some (.int (xs.length:Int),false):=by simp[cR,fF]
theorem FF (xs:List D):fF (.tuple xs)=some (.int (xs.length:Int),false):=rfl
noncomputable def mP (c:Int)(k most:Int):List Int:=(aj k.toNat).map fun (i:Nat)=>oK c (i:Int) (most+1)
noncomputable def kX (rows:List Int)(p:Int×Int):List Int:=if 0<gI rows p.1/\gI rows p.2=0 then rows.set p.2.toNat 1 else rows
structure ie (k most:Int)(rows:List Int):Prop where
 len:(rows.length:Int)=k
 nn:∀r∈rows,0<=r
 le:∀r∈rows,r<=most
theorem oE {k most:Int}{rows:List Int}{p:Int×Int}(h:ie k most rows)(hm:1<=most):ie k most (kX rows p):=by
 unfold kX;split
 ·refine⟨by rw[bf];exact h.len,fun r hr=>?_,fun r hr=>?_⟩
  ·rcases List.mem_or_eq_of_mem_set hr with z|z
   ·exact h.nn r z
   ·omega
  ·rcases List.mem_or_eq_of_mem_set hr with z|z
   ·exact h.le r z
   ·omega
 ·exact h
theorem zA {k most:Int}(hm:1<=most):∀(l:List (Int×Int)) (rows:List Int),ie k most rows->ie k most (l.foldl kX rows)
 |[],_,h=>h
 |p::l,rows,h=>zA hm l (kX rows p) (oE h hm)
theorem qt {k most:Int}{rows:List Int}{p:Int×Int}(h:ie k most rows)(hp:0<=p.2/\p.2<k){j:Int}(hj:0<=j):gI (kX rows p) j=if j=p.2/\0<gI rows p.1/\gI rows p.2=0 then 1 else gI rows j:=by
 have hl:=h.len;unfold kX;by_cases c:0<gI rows p.1/\gI rows p.2=0
 ·rw[if_pos c,GA hp.1 hj ⋯];by_cases e:j=p.2
  ·rw[if_pos e,if_pos ⟨e,c⟩]
  ·rw[if_neg e,if_neg fun z=>e z.1]
 ·rw[if_neg c,if_neg fun z=>c z.2]
theorem Ew {k most:Int}{rows:List Int}{p:Int×Int}(h:ie k most rows)(hp:0<=p.2/\p.2<k){j:Int}(hj:0<=j)(c:0<gI rows j):0<gI (kX rows p) j:=by
 rw[qt h hp hj];split
 ·decide
 ·exact c
theorem zy {k most:Int}(hm:1<=most):∀(l:List (Int×Int)) (rows:List Int),ie k most rows->(∀p∈l,0<=p.2/\p.2<k)->∀{j:Int},0<=j->0<gI rows j->0<gI (l.foldl kX rows) j
 |[],_,_,_,_,_,c=>c
 |p::l,rows,h,hp,j,hj,c=>zy hm l (kX rows p) (oE h hm) (fun q hq=>hp q (by simp[hq])) hj (Ew h (hp p (by simp)) hj c)
theorem tE {k most:Int}(hm:1<=most):∀(l:List (Int×Int)) (rows:List Int),ie k most rows->(∀p∈l,0<=p.2/\p.2<k)->∀{j:Int},0<=j->(∀p∈l,p.2≠j)->gI (l.foldl kX rows) j=gI rows j
 |[],_,_,_,_,_,_=>rfl
 | p::l,rows,h,hp,j,hj,c=>by
  rw[List.foldl_cons,tE hm l (kX rows p) (oE h hm) (fun q hq=>hp q (by simp[hq])) hj fun q hq=>c q (by simp[hq]),qt h (hp p (by simp)) hj,if_neg fun z=>c p (by simp) z.1.symm]
theorem tF {k most:Int}(hm:1<=most):∀(l:List (Int×Int)) (rows:List Int),ie k most rows->(∀p∈l,0<=p.1/\p.1<p.2/\p.2<k)->l.Pairwise (fun p q=>p.1<=q.1)->∀p∈l,0<gI (l.foldl kX rows) p.1->0<gI (l.foldl kX rows) p.2
 |[],_,_,_,_,p,hp,_=>by cases hp
 | q::l,rows,h,hl,hs,p,hp,c=>by
  obtain⟨s1,s2⟩:=List.pairwise_cons.mp hs;have h':=oE (p:=q) h hm;have hl':∀p∈l,0<=p.1/\p.1<p.2/\p.2<k:=fun p hp=>hl p (by simp[hp]);have hb:∀p∈l,0<=p.2/\p.2<k:=fun p hp=>by have:=hl' p hp;omega
  rw[List.foldl_cons] at c ⊢;rcases List.mem_cons.mp hp with z|z
  ·subst z;obtain⟨a0,a1,a2⟩:=hl p (by simp);rw[tE hm l _ h' hb a0 fun q hq=>by have:=hl' q hq;have:=s1 q hq;omega] at c;rw[qt h ⟨by omega,a2⟩ a0,if_neg fun z=>by omega] at c;refine zy hm l _ h' hb ⋯ ?_;rw[qt h ⟨by omega,a2⟩ ⋯];have nn:=gZ h.nn p.2;by_cases e:gI rows p.2=0
   ·rw[if_pos ⟨rfl,c,e⟩];decide
   ·rw[if_neg fun z=>e z.2.2];omega
  ·exact tF hm l _ h' hl' s2 p z c
theorem we:∀ar:Ar,m7 (ar.map cH)=some ar
 |[]=>rfl
 | p::ar=>by
  rw[aA,m7,we ar];rfl
theorem Du {ar:Ar}(h:ar.length<64):kO (.tuple (ar.map cH))=some (.list ((ko ar).map cH),true):=by
 unfold kO vT;dsimp only;rw[we,aa,if_pos h];rfl
theorem vS {ar:Ar}{p:Int×Int}:p∈ko ar<->p∈ar:=(List.mergeSort_perm ar A9).mem_iff
theorem Ds (ar:Ar):(ko ar).Pairwise (fun p q=>p.1<=q.1):=by
 refine (List.pairwise_mergeSort (le:=A9) (fun a b c h1 h2=>?_) (fun a b=>?_) ar).imp fun h=>?_
 ·simp only[A9,decide_eq_true_eq] at *;omega
 ·simp only[A9,Bool.or_eq_true,decide_eq_true_eq];omega
 ·simp only[A9,decide_eq_true_eq] at h;omega
noncomputable def o7 (c:Int)(i:Nat)(n m:Int):List Int:=(aj n.toNat).map fun (x:Nat)=>oK c (61*(i:Int)+(x:Int)) m
noncomputable def ua (c:Int)(rows:List Int)(ar:Ar):List (List Int):=(ar.zipIdx).map fun p=>o7 c p.2 (gI rows p.1.1) (gI rows p.1.2)
theorem GW {scr:D}{first c x most y:Int}(hc:cN [scr,.int first]=some (.int c,false))(hf:cX [.int c,.int x,.int (most+1)]=some (.int y,false)):iX [some (.int x,false),some (scr,false),some (.int first,false),some (.int most,false)]=some (.int y,false):=by
 simp[iX,cD,b4,cv,cf,hc,d2,b7,cA,dC,eD,hf]
theorem GV {c x i y:Int}{rows:List Int}{a:Int×Int}(i2:cL (.list (rows.map .int)) (.int a.2)=some (.int (gI rows a.2),false))(hf:cX [.int c,.int (61*i+x),.int (gI rows a.2)]=some (.int y,false)):jX [some (.int x,false),some (.int c,false),some (.list (rows.map .int),true),some (.int i,false),some (cH a,false)]=some (.int y,false):=by
 have hm:ng (.int 61) (.int i)=some (.int (61*i),false):=BN (by decide) (by decide);simp[jX,cD,b4,cv,cf,d2,b7,cA,dC,eD,hm,oh,i2,hf]
noncomputable def qP (f:Nat->Int)(k:Int):List Int:=(aj k.toNat).map f
theorem A4 {scr:D}{first c k most:Int}{ar:Ar}{f:Nat->Int}(hc:cN [scr,.int first]=some (.int c,false))(hf:∀x:Nat,cX [.int c,.int (x:Int),.int (most+1)]=some (.int (f x),false))(hk:0<=k)(hk2:k<1000) :
  (cF 4 (dN (cP (d2 cL (b7 2) (cA (dC (.int 0))))) 1 [0,1,3] (gN 0) gF iX)) [some (scr,false),some (.int first,false),some (cc k ar,false),some (.int most,false),none,none,none,none,none,none,none] =
   some (.next [some (scr,false),some (.int first,false),some (cc k ar,false),some (.int most,false),some (.list ((qP f k).map .int),true),none,none,none,none,none,none]):=by
 have hi:(cP (d2 cL (b7 2) (cA (dC (.int 0))))) [some (scr,false),some (.int first,false),some (cc k ar,false),some (.int most,false),none,none,none,none,none,none,none]=some (fg 0 k.toNat):=by
  exact dB (o:=false) (by simp[d2,b7,cA,dC,lS]) hk ⋯
 have hz:(fg 0 k.toNat).length<=sizeLine:=tZ (by rw[da,af,aD];omega);have hcp:fA 1 [0,1,3] [some (scr,false),some (.int first,false),some (cc k ar,false),some (.int most,false),none,none,none,none,none,none,none]=[none,some (scr,false),some (.int first,false),some (.int most,false)]:=by simp[fA]
 have hcm:hJ (gN 0) gF iX [none,some (scr,false),some (.int first,false),some (.int most,false)] (fg 0 k.toNat)=some ((qP f k).map .int):=by
  rw[da,qP,bg];exact oM (aj k.toNat) fun x _=>⟨_,false,rfl,GW hc (hf x)⟩
 rw[cF,dN,hi,aa,if_pos hz,hcp,hcm];rfl
theorem By {c k most:Int}(hk:0<=k)(hm:0<=most):ie k most (mP c k most):=by
 refine⟨by rw[mP,af,aD];omega,fun r hr=>?_,fun r hr=>?_⟩
 ·obtain⟨x,_,rfl⟩:=List.mem_map.mp hr;exact my ⋯
 ·obtain⟨x,_,rfl⟩:=List.mem_map.mp hr;have:=mz (c:=c) (k:=(x:Int)) (b:=most+1) ⋯;omega
theorem CT {k most:Int}{rows:List Int}{s0 s1 s2 s3 s7 s8 s9 s10:Option Vl}{p:Int×Int}(h:ie k most rows)(hp:0<=p.1/\p.1<p.2/\p.2<k) :
  fX [s0,s1,s2,s3,some (.list (rows.map .int),true),some (.int p.1,false),some (.int p.2,false),s7,s8,s9,s10]=some (.next [s0,s1,s2,s3,some (.list ((kX rows p).map .int),true),some (.int p.1,false),some (.int p.2,false),s7,s8,s9,s10]):=by
 have hl:=h.len;have i1:=rh (xs:=rows) (i:=p.1) hp.1 ⋯;have i2:=rh (xs:=rows) (i:=p.2) ⋯ ⋯;have hx:vC (rows.map PyData.int).length p.2=some p.2.toNat:=by
  unfold vC;rw[if_pos ⋯,if_pos (by rw[af];omega)]
 rw[af] at hx;unfold kX;by_cases c1:0<gI rows p.1
 ·by_cases c2:gI rows p.2=0
  ·rw[if_pos ⟨c1,c2⟩];simp[fX,i9,qf,dk,tChain,cA,d2,b7,dC,i1,i2,A2,c1,ft,c2,DC,cf,xy,lE,hx,List.map_set]
  ·rw[if_neg fun z=>c2 z.2];simp[fX,i9,qf,dk,tChain,cA,d2,b7,dC,i1,i2,A2,c1,ft,c2,fM]
 ·rw[if_neg fun z=>c1 z.1];simp[fX,i9,qf,dk,tChain,cA,d2,b7,dC,i1,A2,c1,fM]
theorem A3 {k most c:Int}{rows:List Int}{scr:D}{first:Int}{s2 s3 s5 s6 s10:Option Vl}{a:Int×Int}{i:Nat}{g:List (List Int)}{f:Nat->Int}(hc:cN [scr,.int (first+1)]=some (.int c,false))(hf:0<gI rows a.1->∀x:Nat,cX [.int c,.int (61*(i:Int)+(x:Int)),.int (gI rows a.2)]=some (.int (f x),false))(h:ie k most rows)(hm:most<1000)(ha:0<=a.1/\a.1<a.2/\a.2<k)(hg:g.length<1000000) :
  i7 [some (scr,false),some (.int first,false),s2,s3,some (.list (rows.map .int),true),s5,s6,some (.list (g.map cR),true),some (.int (i:Int),false),some (cH a,false),s10] =
   some (.next [some (scr,false),some (.int first,false),s2,s3,some (.list (rows.map .int),true),s5,s6,some (.list ((g++[qP f (gI rows a.1)]).map cR),true),some (.int (i:Int),false),some (cH a,false),some (.int c,false)]):=by
 have hl:=h.len;have i1:=rh (xs:=rows) (i:=a.1) ha.1 ⋯;have i2:=rh (xs:=rows) (i:=a.2) ⋯ ⋯;have n0:=gZ h.nn a.1;have n1:=ji (m:=most) (by have:=gZ h.nn a.1;have:=h.le;by_cases e:rows=[];(subst e;simp at hl;omega);obtain⟨r,hr⟩:=J2 rows e;have:=h.le r hr;have:=h.nn r hr;omega) h.le a.1;have e1:(cF 10 (cD cN (b4 (cf 0) (b4 (d2 eD (b7 1) (cA (dC (.int 1)))) cv)))) [some (scr,false),some (.int first,false),s2,s3,some (.list (rows.map .int),true),s5,s6,some (.list (g.map cR),true),some (.int (i:Int),false),some (cH a,false),s10] =
   some (.next [some (scr,false),some (.int first,false),s2,s3,some (.list (rows.map .int),true),s5,s6,some (.list (g.map cR),true),some (.int (i:Int),false),some (cH a,false),some (.int c,false)]):=by
  simp[cF,cD,b4,cv,cf,d2,b7,cA,dC,eD,hc]
 have hi:(cP (d2 cL (b7 4) (cA (d2 cL (b7 9) (cA (dC (.int 0))))))) [some (scr,false),some (.int first,false),s2,s3,some (.list (rows.map .int),true),s5,s6,some (.list (g.map cR),true),some (.int (i:Int),false),some (cH a,false),some (.int c,false)]=some (fg 0 (gI rows a.1).toNat):=by
  exact dB (o:=false) (by simp[d2,b7,cA,dC,lz,i1]) n0 ⋯
 have hz:(fg 0 (gI rows a.1).toNat).length<=sizeLine:=tZ (by rw[da,af,aD];omega);have hcp:fA 1 [10,4,8,9] [some (scr,false),some (.int first,false),s2,s3,some (.list (rows.map .int),true),s5,s6,some (.list (g.map cR),true),some (.int (i:Int),false),some (cH a,false),some (.int c,false)] =
   [none,some (.int c,false),some (.list (rows.map .int),true),some (.int (i:Int),false),some (cH a,false)]:=by simp[fA]
 have hcm:hJ (gN 0) gF jX [none,some (.int c,false),some (.list (rows.map .int),true),some (.int (i:Int),false),some (cH a,false)] (fg 0 (gI rows a.1).toNat)=some ((qP f (gI rows a.1)).map .int):=by
  rw[da,qP,bg];refine oM (aj (gI rows a.1).toNat) fun x hx=>⟨_,false,rfl,GV i2 (hf ?_ x)⟩;rw[aY] at hx;omega
 have hap:(g.map cR).length<sizeLine:=xJ (by rw[af];exact hg);rw[i7,cG,e1,aa];dsimp only;rw[gp,d1,cA,dN,hi,aa,if_pos hz,hcp,hcm];simp only[av,aa,cU,lE,aK,aL,hap,if_true,bX,aX,aA,bL,cR]
theorem Ae {c n m:Int}{i:Nat}(hn:0<=n)(go:0<n->0<m):((o7 c i n m).length:Int)=n/\∀x∈o7 c i n m,0<=x/\x<m:=by
 refine⟨by rw[o7,af,aD];omega,fun x hx=>?_⟩;obtain⟨y,hy,rfl⟩:=List.mem_map.mp hx;rw[aY] at hy;have hm:=go ⋯;exact⟨my hm,mz hm⟩
theorem rZ {k most c:Int}{rows:List Int}{scr:D}{first:Int}{s2 s3 s5 s6:Option Vl}(hc:cN [scr,.int (first+1)]=some (.int c,false))(h:ie k most rows)(hm:most<1000):∀(l:List ((Int×Int)×Nat)) (g:List (List Int)) (x y z:Option Vl),(∀p∈l,(0<=p.1.1/\p.1.1<p.1.2/\p.1.2<k)/\(0<gI rows p.1.1->0<gI rows p.1.2))->g.length+l.length<=1000->∃x' y' z',
  eA (gT [gN 8,gN 9]) i7 (l.map fun p=>.tuple [.int (p.2:Int),cH p.1]) [some (scr,false),some (.int first,false),s2,s3,some (.list (rows.map .int),true),s5,s6,some (.list (g.map cR),true),x,y,z] =
   some (.next [some (scr,false),some (.int first,false),s2,s3,some (.list (rows.map .int),true),s5,s6,some (.list ((g++l.map fun p=>o7 c p.2 (gI rows p.1.1) (gI rows p.1.2)).map cR),true),x',y',z'])
 |[],g,x,y,z,_,_=>⟨x,y,z,by simp[eA]⟩
 | p::l,g,x,y,z,hp,hg=>by
  rw[aJ] at hg;obtain⟨x',y',z',e⟩:=rZ (s2:=s2) (s3:=s3) (s5:=s5) (s6:=s6) hc h hm l (g++[o7 c p.2 (gI rows p.1.1) (gI rows p.1.2)]) (some (.int (p.2:Int),false)) (some (cH p.1,false)) (some (.int c,false)) (fun q hq=>hp q (by simp[hq])) (by rw[aw,aO];omega);refine⟨x',y',z',?_⟩;rw[aA,eA];simp only[gT,oC,gN,bX,aa];rw[A3 (f:=fun x=>oK c (61*(p.2:Int)+(x:Int)) (gI rows p.1.2)) hc (fun z x=>mB ((hp p (by simp)).2 z)) h hm (hp p (by simp)).1 ⋯,aa];dsimp only;refine Eq.trans e ?_;rw[ba];rfl
theorem zR (ns:List Int)(first:Nat){k most:Int}{ar:Ar}(w:Wf k ar)(hk2:k<1000)(ha:ar.length<64)(hm:1<=most)(hm2:most<1000):∃rows steps,fy [.list (ns.map .int),.int (first:Int),cc k ar,.int most]=some (cu rows steps,false)/\dq k ar rows steps/\(∀r∈rows,r<=most):=by
 have c1:=lh ns first
 have c2:=lh ns (first+1);rw[show (((first+1:Nat)):Int)=(first:Int)+1 by omega] at c2;generalize cell ns first=c at c1
 generalize cell ns (first+1)=c' at c2;generalize PyData.list (ns.map .int)=scr at c1 c2;have k0:0<=k:=by have:=w.lo;omega
 have t1:=A4 (ar:=ar) (most:=most) (f:=fun (i:Nat)=>oK c (i:Int) (most+1)) c1 (fun x=>mB ⋯) k0 hk2;rw[show qP (fun (i:Nat)=>oK c (i:Int) (most+1)) k=mP c k most from rfl] at t1;have r0:=By (c:=c) (most:=most) k0 ⋯;have mem:∀p∈ko ar,0<=p.1/\p.1<p.2/\p.2<k:=fun p hp=>w.ok p (vS.mp hp);have r1:=zA (k:=k) hm (ko ar) (mP c k most) r0;have go:∀p∈ar,0<gI ((ko ar).foldl kX (mP c k most)) p.1->0<gI ((ko ar).foldl kX (mP c k most)) p.2:=fun p hp=>tF hm (ko ar) _ r0 mem (Ds ar) p (vS.mpr hp);obtain⟨ρ1,l1,⟨x5,x6,e1⟩,_⟩:=lT (g:=gT [gN 5,gN 6]) (b:=fX) (d:=cH) (f:=kX) (P:=fun rows ρ=>(∃x y,ρ=[some (scr,false),some (.int (first:Int),false),some (cc k ar,false),some (.int most,false),some (.list (rows.map .int),true),x,y,none,none,none,none])/\ie k most rows) (ko ar) (mP c k most) _ ⟨⟨none,none,rfl⟩,r0⟩ (fun p hp rows ρ zz=>by
  obtain ⟨⟨x,y,e⟩,ro⟩:=zz;subst e;exact⟨_,_,rfl,CT ro (mem p hp),⟨_,_,rfl⟩,oE ro hm⟩)
 generalize (ko ar).foldl kX (mP c k most)=rows at r1 go e1;subst e1;have mem2:∀p∈ar.zipIdx,p.1∈ar:=fun p hp=>by
  obtain⟨q,j⟩:=p;exact (List.mem_zipIdx hp).2.2▸List.getElem_mem _
 obtain⟨y8,y9,y10,l2⟩:=rZ (s2:=some (cc k ar,false)) (s3:=some (.int most,false)) (s5:=x5) (s6:=x6) c2 r1 hm2 ar.zipIdx [] none none none (fun p hp=>⟨w.ok _ (mem2 p hp),go _ (mem2 p hp)⟩) (by rw[bF];simp;omega);rw[<-iC] at l2;have t2:(dW (du (fT (d1 kO (cA (d2 cL (b7 2) (cA (dC (.int 1)))))))) (gT [(gN 5),(gN 6)]) fX) [some (scr,false),some (.int (first:Int),false),some (cc k ar,false),some (.int most,false),some (.list ((mP c k most).map .int),true),none,none,none,none,none,none] =
   some (.next [some (scr,false),some (.int (first:Int),false),some (cc k ar,false),some (.int most,false),some (.list (rows.map .int),true),x5,x6,none,none,none,none]):=by
  have hi:(du (fT (d1 kO (cA (d2 cL (b7 2) (cA (dC (.int 1)))))))) [some (scr,false),some (.int (first:Int),false),some (cc k ar,false),some (.int most,false),some (.list ((mP c k most).map .int),true),none,none,none,none,none,none]=some ((ko ar).map cH):=by
   simp[du,fT,d1,cA,d2,b7,dC,jU,Du ha,dP]
  rw[dW,hi,aa,l1]
 have t3:(cF 7 (cW cv)) [some (scr,false),some (.int (first:Int),false),some (cc k ar,false),some (.int most,false),some (.list (rows.map .int),true),x5,x6,none,none,none,none] =
   some (.next [some (scr,false),some (.int (first:Int),false),some (cc k ar,false),some (.int most,false),some (.list (rows.map .int),true),x5,x6,some (.list ([].map cR),true),none,none,none]):=by simp[cF,cW,cv]
 have t4:(dW (eY (fT (d2 cL (b7 2) (cA (dC (.int 1)))))) (gT [(gN 8),(gN 9)]) i7) [some (scr,false),some (.int (first:Int),false),some (cc k ar,false),some (.int most,false),some (.list (rows.map .int),true),x5,x6,some (.list ([].map cR),true),none,none,none] =
   some (.next [some (scr,false),some (.int (first:Int),false),some (cc k ar,false),some (.int most,false),some (.list (rows.map .int),true),x5,x6,some (.list ((ua c' rows ar).map cR),true),y8,y9,y10]):=by
  have hi:(eY (fT (d2 cL (b7 2) (cA (dC (.int 1)))))) [some (scr,false),some (.int (first:Int),false),some (cc k ar,false),some (.int most,false),some (.list (rows.map .int),true),x5,x6,some (.list ([].map cR),true),none,none,none]=some (eZ 0 (ar.map cH)):=by
   simp[eY,fT,d2,cA,b7,dC,jU,dP]
  rw[dW,hi,aa,l2];rfl
 refine⟨rows,ua c' rows ar,?_,⟨r1.len,r1.nn,by rw[ua,af,bF],fun i a s e1 e2=>?_⟩,r1.le⟩
 ·have run:fy [scr,.int (first:Int),cc k ar,.int most]=(nK [some (scr,false),some (.int (first:Int),false),some (cc k ar,false),some (.int most,false),none,none,none,none,none,none,none]).bind eP:=rfl;rw[run,nK,cG,t1,aa];dsimp only;rw[cG,t2,aa];dsimp only;rw[cG,t3,aa];dsimp only;rw[cG,t4,aa];simp[dI,dM,b4,cv,d1,b7,cU,C4,eP,cu,cR]
 ·unfold ua at e2;rw[au,bB,e1] at e2;simp only[av,Option.some.injEq] at e2;subst e2;have hp:a∈ar:=az e1;exact Ae (gZ r1.nn _) (go a hp)
theorem vK (i:Int):i8 [.int i]=some (.bool true,false):=by
 simp[i8,ki,eP,pX,dI,EC,d1,qY,Cb,b7,zT,EB]
noncomputable def dG (ar:Ar):Int->List Nat->Prop
 |_,[]=>True
 |kd,i::p=>∃a,ar[i]?=some a/\a.1=kd/\dG ar a.2 p
theorem fi {ar:Ar}{kd:Int}{i:Nat}{p:List Nat}{a:Int×Int}(h:ar[i]?=some a):dj ar kd (i::p)=dj ar a.2 p:=by
 have e:(ar.getD i (0,0))=a:=by rw[ag,h];rfl
 cases p with
 |nil =>
  show (ar.getD i (0,0)).2=a.2;rw[e]
 |cons j p =>
  unfold dj;rw[List.getLast?_cons_cons];cases hq:(j::p).getLast? with
  |none=>simp at hq
  |some q=>rfl
theorem dG.snoc {ar:Ar}:∀{p:List Nat}{kd:Int}{i:Nat}{a:Int×Int},dG ar kd p->ar[i]?=some a->a.1=dj ar kd p->dG ar kd (p++[i])
 |[],kd,i,a,_,h1,h2=>⟨a,h1,h2,trivial⟩
 |j::p,kd,i,a,⟨b,g1,g2,g3⟩,h1,h2=>⟨b,g1,g2,dG.snoc g3 h1 (by rw[h2,fi g1])⟩
theorem sZ {ar:Ar}{kind other:Int}:∀(m:Nat) (r f:List (List Nat)),(∀q∈r,dG ar kind q)->(∀q∈f,dG ar kind q)->∀p∈run ar kind other m r f,dG ar kind p
 |0,r,f,_,hf,p,hp=>hf p hp
 | m+1,r,f,hr,hf,p,hp=>by
  refine sZ m (step ar kind r) (f++lF ar kind other r) (fun q hq=>?_) (fun q hq=>?_) p hp
  ·obtain⟨p',i,a,hp',e1,e2,e3,_⟩:=km hq;rw[e1];exact (hr p' hp').snoc e2 e3
  ·rcases List.mem_append.mp hq with z|z
   ·exact hf q z
   ·exact hr q (List.mem_filter.mp z).1
theorem yT {k:Int}{ar:Ar}{kind other:Int}:∀p∈fu k ar kind other,dG ar kind p:=sZ _ _ _ (fun q hq=>by cases List.mem_singleton.mp hq;trivial) (fun q hq=>by cases hq)
noncomputable def mK (steps:List (List Int)):List Nat->Int->Int
 |[],x=>x
 |i::p,x=>mK steps p (gI (steps.getD i []) x)
theorem kJ {k:Int}{ar:Ar}{rows:List Int}{steps:List (List Int)}(b:dq k ar rows steps){i:Nat}{a:Int×Int}(h:ar[i]?=some a):∃s,steps[i]?=some s/\steps.getD i []=s/\(s.length:Int)=gI rows a.1/\∀x∈s,0<=x/\x<gI rows a.2:=by
 have hi:i<ar.length:=(List.getElem?_eq_some_iff.mp h).1;have hi2:i<steps.length:=by rw[b.sl];exact hi
 have e:=ao hi2;obtain⟨h1,h2⟩:=b.st i a _ h e;exact⟨_,e,by rw[ag,e];rfl,h1,h2⟩
theorem jd {xs:List Int}{i:Int}(h0:0<=i)(h1:i<xs.length):gI xs i∈xs:=az (ml h0 h1)
theorem yq {k:Int}{ar:Ar}{rows:List Int}{steps:List (List Int)}(b:dq k ar rows steps):∀(p:List Nat) (kd x:Int),dG ar kd p->0<=x->x<gI rows kd->0<=mK steps p x/\mK steps p x<gI rows (dj ar kd p)
 |[],kd,x,_,h0,h1=>⟨h0,h1⟩
 | i::p,kd,x,⟨a,g1,g2,g3⟩,h0,h1=>by
  obtain⟨s,_,e,l,m⟩:=kJ b g1;rw[fi g1,mK,e];have:=m _ (jd h0 (by rw[l,g2];exact h1));exact yq b p a.2 _ g3 this.1 this.2
open PySem.SeqAt (shaped noMix)
open PySem.Spec (same same_self)
theorem zC {e:Int}{p:List Nat}:∀{r:Ar}{s i:Nat}{a:Int×Int},r[i]?=some a->a.1=e->p++[s+i]∈iq e p s r
 |[],s,i,a,h,_=>by simp at h
 | b::r,s,0,a,h,he=>by
  rw[aL,Option.some.injEq] at h;subst h;unfold iq;rw[if_pos he];simp
 | b::r,s,i+1,a,h,he=>by
  have q:=zC (p:=p) (s:=s+1) (r:=r) (i:=i) (a:=a) (by simpa using h) he;rw[show s+1+i=s+(i+1) by omega] at q;unfold iq;split
  ·exact aH _ q
  ·exact q
theorem Dr {ar:Ar}{kind:Int}{r:List (List Nat)}{p:List Nat}{i:Nat}{a:Int×Int}(hp:p∈r)(hi:ar[i]?=some a)(ha:a.1=dj ar kind p):p++[i]∈step ar kind r:=by
 refine List.mem_flatMap.mpr ⟨p,hp,?_⟩;have:=zC (p:=p) (s:=0) hi ha;rwa[bE] at this
theorem wJ {ar:Ar}{kind:Int}:∀(n:Nat) (r:List (List Nat)),lay ar kind (n+1) r=step ar kind (lay ar kind n r)
 |0,r=>rfl
 |n+1,r=>wJ n (step ar kind r)
theorem zc {ar:Ar}{kind other:Int}{p:List Nat}:∀(m:Nat) (r f:List (List Nat)),p∈f->p∈run ar kind other m r f
 |0,_,_,h=>h
 |m+1,r,f,h=>zc m _ _ (aU _ h)
theorem zf {ar:Ar}{kind other:Int}{p:List Nat}:∀(m:Nat) (r f:List (List Nat)) (j:Nat),j<m->p∈lay ar kind j r->dj ar kind p=other->p∈run ar kind other m r f
 |0,_,_,_,h,_,_=>by omega
 |m+1,r,f,0,_,hp,he=>zc m _ _ (aM _ (List.mem_filter.mpr ⟨hp,decide_eq_true he⟩))
 |m+1,r,f,j+1,h,hp,he=>zf m (step ar kind r) _ j ⋯ hp he
theorem dG.unsnoc {ar:Ar}:∀{p:List Nat}{kd:Int}{i:Nat},dG ar kd (p++[i])->dG ar kd p/\∃a,ar[i]?=some a/\a.1=dj ar kd p
 |[],kd,i,⟨a,h1,h2,_⟩=>⟨trivial,a,h1,h2⟩
 | j::p,kd,i,⟨b,g1,g2,g3⟩=>by
  obtain⟨h1,a,h2,h3⟩:=dG.unsnoc (p:=p) g3;exact⟨⟨b,g1,g2,h1⟩,a,h2,by rw[h3,fi g1]⟩
theorem tQ {ar:Ar}{kind:Int}:∀(n:Nat) (p:List Nat),p.length=n->dG ar kind p->p∈lay ar kind n [[]]
 | 0,p,hl,_=>by
  rw[List.length_eq_zero_iff] at hl;subst hl;exact List.mem_singleton.mpr rfl
 | n+1,p,hl,h=>by
  have hne:p≠[]:=fun e=>by rw[e] at hl;simp at hl
  have e:=List.dropLast_concat_getLast hne;generalize p.dropLast=q at e;generalize p.getLast hne=i at e;subst e;obtain⟨h1,a,h2,h3⟩:=h.unsnoc;rw[wJ];exact Dr (tQ n q (by simpa using hl) h1) h2 h3
theorem oR {k:Int}{ar:Ar}(w:Wf k ar):∀(p:List Nat) (kd:Int),dG ar kd p->kd+p.length<=dj ar kd p
 |[],kd,_=>by rw[iW];simp
 | i::p,kd,⟨a,g1,g2,g3⟩=>by
  have h1:=oR w p a.2 g3;have h2:=w.ok a (az g1);rw[fi g1,aJ];omega
theorem oS {k:Int}{ar:Ar}(w:Wf k ar):∀(p:List Nat) (kd:Int),dG ar kd p->kd<k->dj ar kd p<k
 |[],kd,_,h=>h
 | i::p,kd,⟨a,g1,g2,g3⟩,h=>by
  rw[fi g1];exact oS w p a.2 g3 (w.ok a (az g1)).2.2
theorem EL {k:Int}{ar:Ar}(w:Wf k ar){kind other:Int}(h0:0<=kind)(h1:kind<k){p:List Nat}(hc:dG ar kind p)(he:dj ar kind p=other):p∈fu k ar kind other:=by
 have a:=oR w p kind hc;have b:=oS w p kind hc h1;exact zf _ _ _ p.length ⋯ (tQ p.length p rfl hc) he
theorem ia {k:Int}{ar:Ar}(w:Wf k ar)(h4:k<=4){kind other:Int}(h0:0<=kind)(h1:kind<k){p:List Nat}:p∈fu k ar kind other<->dG ar kind p/\dj ar kind p=other :=
 ⟨fun h=>⟨yT p h,(CW h4 p h).1⟩,fun h=>EL w h0 h1 h.1 h.2⟩
theorem jV {ar:Ar}:∀(p q:List Nat) (kd:Int),dG ar kd p->dj ar kd (p++q)=dj ar (dj ar kd p) q
 |[],q,kd,_=>rfl
 | i::p,q,kd,⟨a,g1,g2,g3⟩=>by
  rw[JI,fi g1,fi g1];exact jV p q a.2 g3
theorem dG.append {ar:Ar}:∀{p q:List Nat}{kd:Int},dG ar kd p->dG ar (dj ar kd p) q->dG ar kd (p++q)
 |[],q,kd,_,h=>h
 |i::p,q,kd,⟨a,g1,g2,g3⟩,h=>⟨a,g1,g2,dG.append g3 (by rw[fi g1] at h;exact h)⟩
theorem dG.ok {ar:Ar}:∀{p:List Nat}{kd:Int},dG ar kd p->ig ar p
 |[],_,_,j,hj=>by cases hj
 | i::p,kd,⟨a,g1,g2,g3⟩,j,hj=>by
  rcases List.mem_cons.mp hj with z|z
  ·subst z;exact (List.getElem?_eq_some_iff.mp g1).1
  ·exact dG.ok g3 j z
theorem mF {k:Int}{ar:Ar}(w:Wf k ar){kd:Int}(h0:0<=kd)(h1:kd<k){p:List Nat}(h:dG ar kd p):(p.length:Int)<k:=by
 have a:=oR w p kd h;have b:=oS w p kd h h1;omega
theorem nv (steps:List (List Int)):∀(p q:List Nat) (x:Int),mK steps (p++q) x=mK steps q (mK steps p x)
 |[],q,x=>rfl
 |i::p,q,x=>nv steps p q _
theorem Aq {p q:List Nat}(h:ck p=ck q):p=q:=by
 unfold ck at h;injection h with h
 have hi:Function.Injective oB:=fun a b e=>by
  unfold oB at e;injection e with e
  omega
 exact (List.map_inj_right hi).mp h
structure mH (k:Int)(ar:Ar)(k2:Int)(ar2:Ar)(pl:List Int)(ws:List (List Nat)):Prop where
 len:(pl.length:Int)=k
 nn:∀x∈pl,0<=x/\x<k2
 wl:ws.length=ar.length
 way:∀(i:Nat) (a:Int×Int) (p:List Nat),ar[i]?=some a->ws[i]?=some p->dG ar2 (gI pl a.1) p/\dj ar2 (gI pl a.1) p=gI pl a.2
noncomputable def vL (ws:List (List Nat)):D:=.tuple (ws.map ck)
noncomputable def dZ (pl:List Int)(ws:List (List Nat)):D:=.tuple [cR pl,vL ws]
theorem ub (pl:List Int)(ws:List (List Nat)):cL (dZ pl ws) (.int 0)=some (cR pl,false):=by simp[dZ,cL,sf,vC]
theorem Bq (pl:List Int)(ws:List (List Nat)):cL (dZ pl ws) (.int 1)=some (vL ws,false):=by simp[dZ,cL,sf,vC]
theorem HV {k:Int}{xs:List Int}(hl:(xs.length:Int)=k){P:Int->Prop}(h:∀x∈xs,P x){i:Int}(h0:0<=i)(h1:i<k):P (gI xs i):=h _ (jd h0 ⋯)
noncomputable def Co (k2:Int)(ar2:Ar)(pl:List Int)(kind spot:Int)(a:Int×Int):Bool:=!(decide (a.2=kind)&&decide (fu k2 ar2 (gI pl a.1) spot=[]))
noncomputable def oF (k2:Int)(ar2:Ar)(pl:List Int)(ar:Ar)(kind spot:Int):Bool:=ar.all (Co k2 ar2 pl kind spot)
theorem EI {ps:List (List Nat)}:o4 (.list (ps.map ck)) (.list [])=some (decide (ps=[])):=by
 have nb0:Nb 2 (.list []):=.list .nil;by_cases h:ps=[]
 ·subst h;rw[decide_eq_true rfl];exact CS nb0
 ·rw[GR (BX ps) nb0 (by simpa using h),decide_eq_false h]
theorem AS {k2 kind spot:Int}{ar2:Ar}{pl:List Int}{s2:Option Vl}{a:Int×Int}(w2:Wf k2 ar2)(h4:k2<=4)(ha2:ar2.length<=5)(hpl:∀x∈pl,0<=x/\x<k2)(ha:a.2=kind->0<=a.1/\a.1<pl.length) :
  gQ [some (cc k2 ar2,false),some (.list (pl.map .int),false),s2,some (.int kind,false),some (.int spot,false),some (.int a.1,false),some (.int a.2,false)] =
   if Co k2 ar2 pl kind spot a=true then some (.next [some (cc k2 ar2,false),some (.list (pl.map .int),false),s2,some (.int kind,false),some (.int spot,false),some (.int a.1,false),some (.int a.2,false)]) else some (.ret (.bool false,false)):=by
 unfold Co;by_cases h:a.2=kind
 ·obtain⟨h0,h1⟩:=ha h;have i1:=rh (xs:=pl) h0 h1;have hp:=hpl _ (jd h0 h1);have e:=ou (other:=spot) w2 h4 ha2 hp.1 hp.2;have c:=EI (ps:=fu k2 ar2 (gI pl a.1) spot);by_cases hq:fu k2 ar2 (gI pl a.1) spot=[]
  ·rw[decide_eq_true hq] at c ⊢;simp[gQ,i9,qf,dk,tChain,b7,ft,h,cA,cD,b4,cv,cf,d2,i1,e,cW,c,dI,dC]
  ·rw[decide_eq_false hq] at c ⊢;simp[gQ,i9,qf,dk,tChain,b7,ft,h,cA,cD,b4,cv,cf,d2,i1,e,cW,c,fM]
 ·simp[gQ,i9,qf,dk,tChain,b7,ft,h,fM]
theorem Ex {k2 kind spot:Int}{ar2 ar:Ar}{pl:List Int}(w2:Wf k2 ar2)(h4:k2<=4)(ha2:ar2.length<=5)(hpl:∀x∈pl,0<=x/\x<k2)(ha:∀a∈ar,a.2=kind->0<=a.1/\a.1<pl.length) :
  fv [cc k2 ar2,.list (pl.map .int),.tuple (ar.map cH),.int kind,.int spot]=some (.bool (oF k2 ar2 pl ar kind spot),false):=by
 have l:=jE (g:=gT [gN 5,gN 6]) (b:=gQ) (d:=cH) (ok:=Co k2 ar2 pl kind spot) (r:=(.bool false,false))
  (P:=fun ρ=>∃x y,ρ=[some (cc k2 ar2,false),some (.list (pl.map .int),false),some (.tuple (ar.map cH),false),some (.int kind,false),some (.int spot,false),x,y]) ar _ ⟨none,none,rfl⟩
  (fun a ha' ρ ⟨x,y,e⟩=>⟨[some (cc k2 ar2,false),some (.list (pl.map .int),false),some (.tuple (ar.map cH),false),some (.int kind,false),some (.int spot,false),some (.int a.1,false),some (.int a.2,false)],by rw[e];rfl,by
   rw[AS w2 h4 ha2 hpl (ha a ha')];split
   ·exact⟨_,rfl,_,_,rfl⟩
   ·rfl⟩)
 have run:fv [cc k2 ar2,.list (pl.map .int),.tuple (ar.map cH),.int kind,.int spot]=(nI [some (cc k2 ar2,false),some (.list (pl.map .int),false),some (.tuple (ar.map cH),false),some (.int kind,false),some (.int spot,false),none,none]).bind eP:=rfl;have hi:(du (eo 2)) [some (cc k2 ar2,false),some (.list (pl.map .int),false),some (.tuple (ar.map cH),false),some (.int kind,false),some (.int spot,false),none,none]=some (ar.map cH):=by simp[du,eo]
 rw[run,nI,cG,dW,hi,aa];unfold oF;split at l
 ·rename_i hl;obtain⟨ρ',l,_⟩:=l;rw[l,hl];simp[dI,dC,eP]
 ·rename_i hl;rw[l,Bool.eq_false_iff.mpr hl];rfl
structure xt (k2:Int)(ar2 ar:Ar)(pl:List Int):Prop where
 nn:∀x∈pl,0<=x/\x<k2
 go:∀a∈ar,a.2<pl.length->fu k2 ar2 (gI pl a.1) (gI pl a.2)≠[]
theorem pG {xs:List Int}{x i:Int}(h1:i<xs.length)(hp:0<xs.length):gI (xs++[x]) i=gI xs i:=by
 unfold gI;rw[ag,ag,aP ⋯]
theorem AQ {xs:List Int}{x:Int}:gI (xs++[x]) (xs.length:Int)=x:=by
 unfold gI;rw[ag,aV];simp
theorem xt.snoc {k k2:Int}{ar2 ar:Ar}{pl:List Int}{spot:Int}(w:Wf k ar)(h:xt k2 ar2 ar pl)(h0:0<=spot)(h1:spot<k2)(hf:oF k2 ar2 pl ar (pl.length:Int) spot=true):xt k2 ar2 ar (pl++[spot]):=by
 refine⟨fun x hx=>?_,fun a ha hl=>?_⟩
 ·rcases List.mem_append.mp hx with z|z
  ·exact h.nn x z
  ·cases List.mem_singleton.mp z;exact⟨h0,h1⟩
 ·rw[aw,aO] at hl;have wa:=w.ok a ha;by_cases c:a.2=(pl.length:Int)
  ·have hq:=List.all_eq_true.mp hf a ha;unfold Co at hq;rw[c,decide_eq_true rfl,Bool.true_and,Bool.not_eq_true',decide_eq_false_iff_not] at hq;rw[c,AQ,pG ⋯ ⋯];exact hq
  ·rw[pG ⋯ ⋯,pG ⋯ ⋯];exact h.go a ha ⋯
theorem z9 {k k2 kind spot:Int}{ar2 ar:Ar}{pl:List Int}{s0 s1 s7 s8 s9 s10 s11:Option Vl}{b:Bool}(h2:0<k2)(hf:fv [cc k2 ar2,.list (pl.map .int),.tuple (ar.map cH),.int kind,.int spot]=some (.bool b,false)) :
  hV [s0,s1,some (cc k ar,false),some (cc k2 ar2,false),some (.list (pl.map .int),true),some (.int kind,false),some (.int spot,false),s7,s8,s9,s10,s11] =
   some (.next [s0,s1,some (cc k ar,false),some (cc k2 ar2,false),some (.list (pl.map .int),true),some (.int kind,false),some (.int (if b=true then spot else (spot+1)%k2),false),s7,s8,s9,s10,s11]):=by
 cases b <;> simp[hV,i9,xI,unown,Hb,kj,sT,cD,b4,cv,cf,d2,b7,cA,dC,jU,lS,hf,zT,cF,eD,iV h2,fM]
theorem z7 {k k2 kind:Int}{ar2 ar:Ar}{pl:List Int}{s0 s1 s8 s9 s10 s11:Option Vl}(h2:0<k2)(hf:∀spot,fv [cc k2 ar2,.list (pl.map .int),.tuple (ar.map cH),.int kind,.int spot]=some (.bool (oF k2 ar2 pl ar kind spot),false))(n:Nat){spot:Int}(q0:0<=spot)(q1:spot<k2)(s7:Option Vl):∃spot' s7',0<=spot'/\spot'<k2 ∧
  eA (gN 7) hV (fg 0 n) [s0,s1,some (cc k ar,false),some (cc k2 ar2,false),some (.list (pl.map .int),true),some (.int kind,false),some (.int spot,false),s7,s8,s9,s10,s11] =
   some (.next [s0,s1,some (cc k ar,false),some (cc k2 ar2,false),some (.list (pl.map .int),true),some (.int kind,false),some (.int spot',false),s7',s8,s9,s10,s11]):=by
 rw[da];obtain⟨ρ',l,⟨t,e⟩,g⟩:=lT (g:=gN 7) (b:=hV) (d:=fun (i:Nat)=>.int (i:Int)) (f:=fun (st:Int) (_:Nat)=>if oF k2 ar2 pl ar kind st=true then st else (st+1)%k2)
  (P:=fun st ρ=>(∃t,ρ=[s0,s1,some (cc k ar,false),some (cc k2 ar2,false),some (.list (pl.map .int),true),some (.int kind,false),some (.int st,false),t,s8,s9,s10,s11])/\0<=st/\st<k2) (aj n) spot _ ⟨⟨s7,rfl⟩,q0,q1⟩
  (fun i _ st ρ zz=>by
   obtain ⟨⟨t,e⟩,g⟩:=zz;subst e;refine⟨_,_,rfl,z9 h2 (hf st),⟨_,rfl⟩,?_⟩;split
   ·exact g
   ·exact⟨JW _ ⋯,JN _ h2⟩)
 exact⟨_,t,g.1,g.2,by rw[l,e]⟩
theorem D5 (n:Nat):(aI n [PyData.tuple []]).flatten=(aI n ([]:List Nat)).map ck:=by
 rw[List.map_replicate];show _=aI n (PyData.tuple []);induction n with
 |zero=>rfl
 |succ n ih=>rw[bC,bO,ih];rfl
theorem Em (n:Nat)(i:Int):(aI n [PyData.int i]).flatten=(aI n i).map PyData.int:=by
 rw[List.map_replicate];induction n with
 |zero=>rfl
 |succ n ih=>rw[bC,bO,ih];rfl
theorem Aj {k spot:Int}{ar:Ar}{ρ:Sl}(k0:0<=k)(k1:k<=100)(hρ:ρ[2]?=some (some (cc k ar,false)))(h6:ρ[6]?=some (some (.int spot,false))):pY (Fc (cW (b4 (cf 6) cv))) (cA (d2 cL (b7 2) (cA (dC (.int 0))))) ρ=some (.list ((aI k.toNat spot).map .int),true):=by
 have n1:((k.toNat:Nat):Int)=k:=by omega
 rw[<-Em];refine tN (xs:=[.int spot]) (n:=k.toNat) (by simp[Fc,cW,b4,cv,cf,h6,Bo]) ?_ ⋯ (tZ (by rw[aO];omega));rw[n1];simp[d2,b7,cA,dC,lS,hρ]
theorem BA {k:Int}{ar:Ar}{ρ:Sl}(h:ar.length<=100)(hρ:ρ[2]?=some (some (cc k ar,false))):pY (Fc (cW (b4 (dM cv) cv))) (cA (d1 fF (cA (d2 cL (b7 2) (cA (dC (.int 1))))))) ρ=some (.list ((aI ar.length []).map ck),true):=by
 rw[<-D5];exact tN (xs:=[.tuple []]) (n:=ar.length) (by simp[Fc,cW,b4,dM,cv,Bo]) (by simp[d2,d1,fF,b7,cA,dC,jU,hρ]) ⋯ (tZ (by rw[aO];omega))
theorem xW {ns:List Int}{first:Nat}{k k2 c:Int}{ar2 ar:Ar}{pl:List Int}{s6 s7 s8 s9 s10 s11:Option Vl}(w:Wf k ar)(hk4:k<=4)(hal:ar.length<=5)(w2:Wf k2 ar2)(h4:k2<=4)(ha2:ar2.length<=5)(hc:cN [.list (ns.map .int),.int (first:Int)]=some (.int c,false))(ok:xt k2 ar2 ar pl)(hl:pl.length<4):∃spot t,0<=spot/\spot<k2 ∧
  hU [some (.list (ns.map .int),false),some (.int (first:Int),false),some (cc k ar,false),some (cc k2 ar2,false),some (.list (pl.map .int),true),some (.int (pl.length:Int),false),s6,s7,s8,s9,s10,s11] =
   if oF k2 ar2 pl ar (pl.length:Int) spot=true then some (.next [some (.list (ns.map .int),false),some (.int (first:Int),false),some (cc k ar,false),some (cc k2 ar2,false),some (.list ((pl++[spot]).map .int),true),some (.int (pl.length:Int),false),some (.int spot,false),t,s8,s9,s10,s11])
   else some (.ret (dZ (aI k.toNat spot) (aI ar.length []),false)):=by
 have h2:0<k2:=by have:=w2.lo;omega
 have h1:0<k:=by have:=w.lo;omega
 have hf:∀spot,fv [cc k2 ar2,.list (pl.map .int),.tuple (ar.map cH),.int (pl.length:Int),.int spot]=some (.bool (oF k2 ar2 pl ar (pl.length:Int) spot),false):=fun spot=>Ex w2 h4 ha2 ok.nn fun a ha e=>by have:=w.ok a ha;omega
 have dr:=mB (c:=c) (k:=(pl.length:Int)) h2;obtain⟨spot,t,q0,q1,l⟩:=z7 (k:=k) (s0:=some (.list (ns.map .int),false)) (s1:=some (.int (first:Int),false)) (s8:=s8) (s9:=s9) (s10:=s10) (s11:=s11) h2 hf k2.toNat (my (c:=c) (k:=(pl.length:Int)) h2) (mz (c:=c) (k:=(pl.length:Int)) h2) s7;refine⟨spot,t,q0,q1,?_⟩;have e1:(cF 6 (cD cX (b4 (cD cN (b4 (cf 0) (b4 (cf 1) cv))) (b4 (cf 5) (b4 (d2 cL (b7 3) (cA (dC (.int 0)))) cv))))) [some (.list (ns.map .int),false),some (.int (first:Int),false),some (cc k ar,false),some (cc k2 ar2,false),some (.list (pl.map .int),true),some (.int (pl.length:Int),false),s6,s7,s8,s9,s10,s11] =
   some (.next [some (.list (ns.map .int),false),some (.int (first:Int),false),some (cc k ar,false),some (cc k2 ar2,false),some (.list (pl.map .int),true),some (.int (pl.length:Int),false),some (.int (oK c (pl.length:Int) k2),false),s7,s8,s9,s10,s11]):=by
  have u3:(cD cN (b4 (cf 0) (b4 (cf 1) cv))) [some (.list (ns.map .int),false),some (.int (first:Int),false),some (cc k ar,false),some (cc k2 ar2,false),some (.list (pl.map .int),true),some (.int (pl.length:Int),false),s6,s7,s8,s9,s10,s11]=some (.int c,false):=by
   simp only[cD,b4,cf,aK,aL,aa,cv,hc]
  have u8:(b4 (cD cN (b4 (cf 0) (b4 (cf 1) cv))) (b4 (cf 5) (b4 (d2 cL (b7 3) (cA (dC (.int 0)))) cv))) [some (.list (ns.map .int),false),some (.int (first:Int),false),some (cc k ar,false),some (cc k2 ar2,false),some (.list (pl.map .int),true),some (.int (pl.length:Int),false),s6,s7,s8,s9,s10,s11]=some [.int c,.int (pl.length:Int),.int k2]:=by
   have u2:(d2 cL (b7 3) (cA (dC (.int 0)))) [some (.list (ns.map .int),false),some (.int (first:Int),false),some (cc k ar,false),some (cc k2 ar2,false),some (.list (pl.map .int),true),some (.int (pl.length:Int),false),s6,s7,s8,s9,s10,s11]=some (.int k2,false):=by
    simp only[d2,b7,cA,dC,aK,aL,aa,av,lS]
   have u9:(b4 (cf 5) (b4 (d2 cL (b7 3) (cA (dC (.int 0)))) cv)) [some (.list (ns.map .int),false),some (.int (first:Int),false),some (cc k ar,false),some (cc k2 ar2,false),some (.list (pl.map .int),true),some (.int (pl.length:Int),false),s6,s7,s8,s9,s10,s11]=some [.int (pl.length:Int),.int k2]:=by
    rw[b4,b4,u2];simp only[cf,aK,aL,aa,cv]
   rw[b4,u3,aa,u9,aa]
  rw[cF,cD,u8,aa,dr,aa];rfl
 have e2:(cP (d2 cL (b7 3) (cA (dC (.int 0))))) [some (.list (ns.map .int),false),some (.int (first:Int),false),some (cc k ar,false),some (cc k2 ar2,false),some (.list (pl.map .int),true),some (.int (pl.length:Int),false),some (.int (oK c (pl.length:Int) k2),false),s7,s8,s9,s10,s11]=some (fg 0 k2.toNat) :=
  dB (o:=false) (by simp[d2,b7,cA,dC,lS]) ⋯ ⋯
 have hf':=hf spot;rw[hU,cJ e1];rw[cG,dW,e2,aa,l,aa];dsimp only;cases b:oF k2 ar2 pl ar (pl.length:Int) spot with
 |true =>
  rw[b] at hf';have hz:pl.length<sizeLine:=xJ ⋯;simp[cG,i9,xI,unown,Hb,kj,sT,cD,b4,cv,cf,d2,b7,cA,dC,jU,hf',zT,fM,gp,lE,hz]
 |false =>
  rw[b] at hf';have e3:(xI (kj (sT (cD fv (b4 (cf 3) (b4 (cf 4) (b4 (d2 cL (b7 2) (cA (dC (.int 1)))) (b4 (cf 5) (b4 (cf 6) cv))))))))) [some (.list (ns.map .int),false),some (.int (first:Int),false),some (cc k ar,false),some (cc k2 ar2,false),some (.list (pl.map .int),true),some (.int (pl.length:Int),false),some (.int spot,false),t,s8,s9,s10,s11]=some true:=by
   simp[xI,unown,Hb,kj,sT,cD,b4,cv,cf,d2,b7,cA,dC,jU,hf',zT]
  rw[cG,i9,e3,aa,if_pos rfl,dI,dM,b4,d1,cA,Aj (ar:=ar) ⋯ ⋯ rfl rfl,av,aa,cU,aa,b4,d1,cA,BA (k:=k) ⋯ rfl,av,aa,cU];simp[cv,C4,dZ,cR,vL]
theorem qR {ns:List Int}{first:Nat}{k k2 c:Int}{ar2 ar:Ar}{s8 s9 s10 s11:Option Vl}(w:Wf k ar)(hk4:k<=4)(hal:ar.length<=5)(w2:Wf k2 ar2)(h4:k2<=4)(ha2:ar2.length<=5)(hc:cN [.list (ns.map .int),.int (first:Int)]=some (.int c,false)):∀(n:Nat) (pl:List Int) (s5 s6 s7:Option Vl),xt k2 ar2 ar pl->pl.length+n<=4 →
  (∃pl' t5 t6 t7,xt k2 ar2 ar pl'/\pl'.length=pl.length+n/\eA (gN 5) hU ((bQ pl.length n).map fun (i:Nat)=>.int (i:Int)) [some (.list (ns.map .int),false),some (.int (first:Int),false),some (cc k ar,false),some (cc k2 ar2,false),some (.list (pl.map .int),true),s5,s6,s7,s8,s9,s10,s11] =
   some (.next [some (.list (ns.map .int),false),some (.int (first:Int),false),some (cc k ar,false),some (cc k2 ar2,false),some (.list (pl'.map .int),true),t5,t6,t7,s8,s9,s10,s11])) ∨
  (∃spot,0<=spot/\spot<k2/\eA (gN 5) hU ((bQ pl.length n).map fun (i:Nat)=>.int (i:Int)) [some (.list (ns.map .int),false),some (.int (first:Int),false),some (cc k ar,false),some (cc k2 ar2,false),some (.list (pl.map .int),true),s5,s6,s7,s8,s9,s10,s11] =
   some (.ret (dZ (aI k.toNat spot) (aI ar.length []),false)))
 |0,pl,s5,s6,s7,ok,_=>.inl ⟨pl,s5,s6,s7,ok,rfl,rfl⟩
 | n+1,pl,s5,s6,s7,ok,hl=>by
  obtain⟨spot,t,q0,q1,e⟩:=xW (s6:=s6) (s7:=s7) (s8:=s8) (s9:=s9) (s10:=s10) (s11:=s11) w hk4 hal w2 h4 ha2 hc ok ⋯;rw[bZ,aA,eA];simp only[gN,bX,aa];cases b:oF k2 ar2 pl ar (pl.length:Int) spot with
  |false =>
   rw[b,if_neg Bool.false_ne_true] at e;exact .inr ⟨spot,q0,q1,by rw[e];rfl⟩
  |true =>
   rw[b,if_pos rfl] at e;have ok':=ok.snoc w q0 q1 b;have ih:=qR (s8:=s8) (s9:=s9) (s10:=s10) (s11:=s11) w hk4 hal w2 h4 ha2 hc n (pl++[spot]) (some (.int (pl.length:Int),false)) (some (.int spot,false)) t ok' (by rw[aw,aO];omega);rw[show (pl++[spot]).length=pl.length+1 by simp] at ih;rw[e,aa];rcases ih with ⟨pl',t5,t6,t7,i1,i2,i3⟩|⟨sp,i1,i2,i3⟩
   ·exact .inl ⟨pl',t5,t6,t7,i1,by omega,i3⟩
   ·exact .inr ⟨sp,i1,i2,i3⟩
theorem FR {ps:List (List Nat)}{i:Int}{p:List Nat}(h0:0<=i)(h:ps[i.toNat]?=some p):cL (.list (ps.map ck)) (.int i)=some (ck p,false):=by
 unfold cL;dsimp only;rw[oz h0 (d:=ck p) (by rw[au,h];rfl)];rfl
theorem Bi {ns:List Int}{first:Nat}{k k2 c:Int}{ar2 ar:Ar}{pl:List Int}{s5 s6 s7 s11:Option Vl}{ws:List (List Nat)}{i:Nat}{a:Int×Int}(w:Wf k ar)(hpk:(pl.length:Int)=k)(w2:Wf k2 ar2)(h4:k2<=4)(ha2:ar2.length<=5)(hc:cN [.list (ns.map .int),.int ((first:Int)+1)]=some (.int c,false))(ok:xt k2 ar2 ar pl)(ha:a∈ar)(hw:ws.length<1000):∃p t,dG ar2 (gI pl a.1) p/\dj ar2 (gI pl a.1) p=gI pl a.2 ∧
  jA [some (.list (ns.map .int),false),some (.int (first:Int),false),some (cc k ar,false),some (cc k2 ar2,false),some (.list (pl.map .int),true),s5,s6,s7,some (.list (ws.map ck),true),some (.int (i:Int),false),some (cH a,false),s11] =
   some (.next [some (.list (ns.map .int),false),some (.int (first:Int),false),some (cc k ar,false),some (cc k2 ar2,false),some (.list (pl.map .int),true),s5,s6,s7,some (.list ((ws++[p]).map ck),true),some (.int (i:Int),false),some (cH a,false),t]):=by
 have wa:=w.ok a ha;have i1:=rh (xs:=pl) (i:=a.1) wa.1 ⋯;have i2:=rh (xs:=pl) (i:=a.2) ⋯ ⋯;have hp:=ok.nn _ (jd (xs:=pl) (i:=a.1) wa.1 ⋯);have e:=ou (other:=gI pl a.2) w2 h4 ha2 hp.1 hp.2;have hne:=ok.go a ha ⋯;have hm:∀p,p∈fu k2 ar2 (gI pl a.1) (gI pl a.2)<->_:=fun p=>ia (p:=p) (other:=gI pl a.2) w2 h4 hp.1 hp.2;generalize fu k2 ar2 (gI pl a.1) (gI pl a.2)=ps at e hne hm;have hpos:(0:Int)<(ps.length:Int):=by
  have:=List.length_pos_iff.mpr hne;omega
 have dr:=mB (c:=c) (k:=(i:Int)) hpos;have d0:=my (c:=c) (k:=(i:Int)) hpos;have d1':=mz (c:=c) (k:=(i:Int)) hpos;generalize oK c (i:Int) (ps.length:Int)=j at dr d0 d1';have hj:j.toNat<ps.length:=by omega
 have g:=FR (ps:=ps) d0 (ao hj);have hmj:=(hm _).mp (List.getElem_mem hj);refine⟨ps[j.toNat],some (.list (ps.map ck),false),hmj.1,hmj.2,?_⟩;have hz:(ws.map ck).length<sizeLine:=xJ (by rw[af];omega);have t1:(fL 11 (cF 11 (cD fJ (b4 (cf 3) (b4 (d2 cL (b7 4) (cA (d2 cL (b7 10) (cA (dC (.int 0)))))) (b4 (d2 cL (b7 4) (cA (d2 cL (b7 10) (cA (dC (.int 1)))))) cv)))))) [some (.list (ns.map .int),false),some (.int (first:Int),false),some (cc k ar,false),some (cc k2 ar2,false),some (.list (pl.map .int),true),s5,s6,s7,some (.list (ws.map ck),true),some (.int (i:Int),false),some (cH a,false),s11] =
   some (.next [some (.list (ns.map .int),false),some (.int (first:Int),false),some (cc k ar,false),some (cc k2 ar2,false),some (.list (pl.map .int),true),s5,s6,s7,some (.list (ws.map ck),true),some (.int (i:Int),false),some (cH a,false),some (.list (ps.map ck),false)]):=by
  simp only[fL,cF,cD,b4,cv,cf,d2,b7,cA,dC,aK,aL,aa,av,lz,oh,i1,i2,e,bX,share]
 have u3:(cD cN (b4 (cf 0) (b4 (d2 eD (b7 1) (cA (dC (.int 1)))) cv))) [some (.list (ns.map .int),false),some (.int (first:Int),false),some (cc k ar,false),some (cc k2 ar2,false),some (.list (pl.map .int),true),s5,s6,s7,some (.list (ws.map ck),true),some (.int (i:Int),false),some (cH a,false),some (.list (ps.map ck),false)]=some (.int c,false):=by
  have u1:(d2 eD (b7 1) (cA (dC (.int 1)))) [some (.list (ns.map .int),false),some (.int (first:Int),false),some (cc k ar,false),some (cc k2 ar2,false),some (.list (pl.map .int),true),s5,s6,s7,some (.list (ws.map ck),true),some (.int (i:Int),false),some (cH a,false),some (.list (ps.map ck),false)]=some (.int ((first:Int)+1),false):=by
   simp only[d2,b7,cA,dC,aK,aL,aa,av,eD]
  simp only[cD,b4,u1,cf,aK,aL,aa,cv,hc]
 have u8:(b4 (cD cN (b4 (cf 0) (b4 (d2 eD (b7 1) (cA (dC (.int 1)))) cv))) (b4 (cf 9) (b4 (d1 fF (b7 11)) cv))) [some (.list (ns.map .int),false),some (.int (first:Int),false),some (cc k ar,false),some (cc k2 ar2,false),some (.list (pl.map .int),true),s5,s6,s7,some (.list (ws.map ck),true),some (.int (i:Int),false),some (cH a,false),some (.list (ps.map ck),false)]=some [.int c,.int (i:Int),.int (ps.length:Int)]:=by
  have u2:(d1 fF (b7 11)) [some (.list (ns.map .int),false),some (.int (first:Int),false),some (cc k ar,false),some (cc k2 ar2,false),some (.list (pl.map .int),true),s5,s6,s7,some (.list (ws.map ck),true),some (.int (i:Int),false),some (cH a,false),some (.list (ps.map ck),false)]=some (.int (ps.length:Int),false):=by
   simp only[d1,b7,aK,aL,aa,av,fF,af]
  have u9:(b4 (cf 9) (b4 (d1 fF (b7 11)) cv)) [some (.list (ns.map .int),false),some (.int (first:Int),false),some (cc k ar,false),some (cc k2 ar2,false),some (.list (pl.map .int),true),s5,s6,s7,some (.list (ws.map ck),true),some (.int (i:Int),false),some (cH a,false),some (.list (ps.map ck),false)]=some [.int (i:Int),.int (ps.length:Int)]:=by
   rw[b4,b4,u2];simp only[cf,aK,aL,aa,cv]
  rw[b4,u3,aa,u9,aa]
 have t2:(d2 cL (b7 11) (cA (cD cX (b4 (cD cN (b4 (cf 0) (b4 (d2 eD (b7 1) (cA (dC (.int 1)))) cv))) (b4 (cf 9) (b4 (d1 fF (b7 11)) cv)))))) [some (.list (ns.map .int),false),some (.int (first:Int),false),some (cc k ar,false),some (cc k2 ar2,false),some (.list (pl.map .int),true),s5,s6,s7,some (.list (ws.map ck),true),some (.int (i:Int),false),some (cH a,false),some (.list (ps.map ck),false)]=some (ck ps[j.toNat],false):=by
  have u5:(b7 11) [some (.list (ns.map .int),false),some (.int (first:Int),false),some (cc k ar,false),some (cc k2 ar2,false),some (.list (pl.map .int),true),s5,s6,s7,some (.list (ws.map ck),true),some (.int (i:Int),false),some (cH a,false),some (.list (ps.map ck),false)]=some (.list (ps.map ck)):=by
   simp only[b7,aK,aL]
  rw[d2,u5,aa,cA,cD,u8,aa,dr,av,aa,g]
 rw[jA,cJ t1,gp,t2,aa,lE];simp only[aK,aL,if_pos hz,av,bX,aX,aA,bL]
theorem vM {ns:List Int}{first:Nat}{k k2 c:Int}{ar2 ar:Ar}{pl:List Int}{s5 s6 s7:Option Vl}(w:Wf k ar)(hpk:(pl.length:Int)=k)(w2:Wf k2 ar2)(h4:k2<=4)(ha2:ar2.length<=5)(hc:cN [.list (ns.map .int),.int ((first:Int)+1)]=some (.int c,false))(ok:xt k2 ar2 ar pl)(hal:ar.length<=5):∀(r:Ar) (s:Nat) (ws:List (List Nat)) (x y z:Option Vl),ar.drop s=r->ws.length=s->(∀(i:Nat) (a:Int×Int) (p:List Nat),ar[i]?=some a->ws[i]?=some p->dG ar2 (gI pl a.1) p/\dj ar2 (gI pl a.1) p=gI pl a.2)->∃(ws':List (List Nat)) (x' y' z':Option Vl),ws'.length=s+r.length/\(∀(i:Nat) (a:Int×Int) (p:List Nat),ar[i]?=some a->ws'[i]?=some p->dG ar2 (gI pl a.1) p/\dj ar2 (gI pl a.1) p=gI pl a.2) ∧
  eA (gT [gN 9,gN 10]) jA (eZ s (r.map cH)) [some (.list (ns.map .int),false),some (.int (first:Int),false),some (cc k ar,false),some (cc k2 ar2,false),some (.list (pl.map .int),true),s5,s6,s7,some (.list (ws.map ck),true),x,y,z] =
   some (.next [some (.list (ns.map .int),false),some (.int (first:Int),false),some (cc k ar,false),some (cc k2 ar2,false),some (.list (pl.map .int),true),s5,s6,s7,some (.list (ws'.map ck),true),x',y',z'])
 |[],s,ws,x,y,z,_,hw,h=>⟨ws,x,y,z,by simpa using hw,h,rfl⟩
 | a::r,s,ws,x,y,z,hd,hw,h=>by
  have hat:ar[s]?=some a:=by
   have:=congrArg (fun l=>l[0]?) hd;simpa using this
  have hd2:ar.drop (s+1)=r:=by
   rw[<-List.drop_drop,hd];rfl
  have hs:s<ar.length:=(List.getElem?_eq_some_iff.mp hat).1;obtain⟨p,t,c1,c2,e⟩:=Bi (s5:=s5) (s6:=s6) (s7:=s7) (s11:=z) (ws:=ws) (i:=s) w hpk w2 h4 ha2 hc ok (az hat) ⋯;obtain⟨ws',x',y',z',l1,l2,l3⟩:=vM (s5:=s5) (s6:=s6) (s7:=s7) w hpk w2 h4 ha2 hc ok hal r (s+1) (ws++[p]) (some (.int (s:Int),false)) (some (cH a,false)) t hd2 (by simp[hw]) (fun i b q hi hq=>by
   by_cases hlt:i<ws.length
   ·rw[aP hlt] at hq;exact h i b q hi hq
   ·have hi2:i<(ws++[p]).length:=(List.getElem?_eq_some_iff.mp hq).1;rw[aw,aO] at hi2;have:i=s:=by omega
    subst this;rw[hat] at hi;cases hi;rw[<-hw,JZ] at hq;cases hq;exact⟨c1,c2⟩)
  refine⟨ws',x',y',z',by rw[l1,aJ];omega,l2,?_⟩;rw[aA,eZ,eA];simp only[gT,oC,gN,bX,aa];rw[e,aa];exact l3
theorem uk {k k2 spot:Int}{ar ar2:Ar}(w:Wf k ar)(h0:0<=spot)(h1:spot<k2):mH k ar k2 ar2 (aI k.toNat spot) (aI ar.length []):=by
 have k0:=w.lo;have g:∀i:Int,0<=i->i<k->gI (aI k.toNat spot) i=spot:=fun i i0 i1=>by
  unfold gI;rw[ag,bN,if_pos ⋯];rfl
 refine⟨by rw[bh];omega,fun x hx=>by cases (List.mem_replicate.mp hx).2;exact⟨h0,h1⟩,by rw[bh],fun i a p hi hp=>?_⟩;have wa:=w.ok a (az hi);have:p=[]:=(List.mem_replicate.mp (az hp)).2;subst this;rw[g a.1 wa.1 ⋯,g a.2 ⋯ wa.2.2];exact⟨trivial,rfl⟩
theorem uF (ns:List Int)(first:Nat){k k2:Int}{ar2 ar:Ar}(w:Wf k ar)(hk4:k<=4)(hal:ar.length<=5)(w2:Wf k2 ar2)(h4:k2<=4)(ha2:ar2.length<=5):∃pl ws,fY [.list (ns.map .int),.int (first:Int),cc k ar,cc k2 ar2]=some (dZ pl ws,false)/\mH k ar k2 ar2 pl ws:=by
 have c1:=lh ns first
 have c2:=lh ns (first+1);rw[show (((first+1:Nat)):Int)=(first:Int)+1 by omega] at c2;have run:fY [.list (ns.map .int),.int (first:Int),cc k ar,cc k2 ar2]=(l4 [some (.list (ns.map .int),false),some (.int (first:Int),false),some (cc k ar,false),some (cc k2 ar2,false),none,none,none,none,none,none,none,none]).bind eP:=rfl;have k0:=w.lo;have e1:(cF 4 (cW cv)) [some (.list (ns.map .int),false),some (.int (first:Int),false),some (cc k ar,false),some (cc k2 ar2,false),none,none,none,none,none,none,none,none] =
   some (.next [some (.list (ns.map .int),false),some (.int (first:Int),false),some (cc k ar,false),some (cc k2 ar2,false),some (.list (([]:List Int).map .int),true),none,none,none,none,none,none,none]):=by simp[cF,cW,cv]
 have e2:(cP (d2 cL (b7 2) (cA (dC (.int 0))))) [some (.list (ns.map .int),false),some (.int (first:Int),false),some (cc k ar,false),some (cc k2 ar2,false),some (.list (([]:List Int).map .int),true),none,none,none,none,none,none,none]=some (fg 0 k.toNat) :=
  dB (o:=false) (by simp[d2,b7,cA,dC,lS]) ⋯ ⋯
 have l:=qR (s8:=none) (s9:=none) (s10:=none) (s11:=none) w hk4 hal w2 h4 ha2 c1 k.toNat [] none none none ⟨fun x hx=>(by cases hx),fun a ha hl=>by have:=w.ok a ha;simp at hl;omega⟩ (by simp;omega);rw[show ([]:List Int).length=0 from rfl,<-bI,<-da] at l;rw[run,l4,cJ e1,cG,dW,e2,aa];rcases l with ⟨pl,t5,t6,t7,ok,hl,l⟩|⟨spot,q0,q1,l⟩
 ·rw[l,aa];dsimp only;have hpk:(pl.length:Int)=k:=by rw[hl];omega
  obtain⟨ws,x,y,z,m1,m2,m3⟩:=vM (s5:=t5) (s6:=t6) (s7:=t7) w hpk w2 h4 ha2 c2 ok hal ar 0 [] none none none rfl rfl (fun i a p _ h=>by simp at h);rw[bE] at m1;have e3:(cF 8 (cW cv)) [some (.list (ns.map .int),false),some (.int (first:Int),false),some (cc k ar,false),some (cc k2 ar2,false),some (.list (pl.map .int),true),t5,t6,t7,none,none,none,none] =
    some (.next [some (.list (ns.map .int),false),some (.int (first:Int),false),some (cc k ar,false),some (cc k2 ar2,false),some (.list (pl.map .int),true),t5,t6,t7,some (.list (([]:List (List Nat)).map ck),true),none,none,none]):=by simp[cF,cW,cv]
  have e4:(eY (fT (d2 cL (b7 2) (cA (dC (.int 1)))))) [some (.list (ns.map .int),false),some (.int (first:Int),false),some (cc k ar,false),some (cc k2 ar2,false),some (.list (pl.map .int),true),t5,t6,t7,some (.list (([]:List (List Nat)).map ck),true),none,none,none]=some (eZ 0 (ar.map cH)):=by
   simp[eY,fT,d2,b7,cA,dC,jU,dP]
  refine⟨pl,ws,?_,hpk,ok.nn,m1,m2⟩;rw[cJ e3,cG,dW,e4,aa,m3,aa];simp[dI,dM,b4,cv,d1,b7,cU,C4,eP,dZ,vL,cR]
 ·refine⟨_,_,?_,uk w q0 q1⟩;rw[l];rfl
noncomputable def up (p:List Nat):List Int:=p.map fun (n:Nat)=>(n:Int)
theorem yt {xs:List Int}{f:Int->Int}{i:Int}(h0:0<=i)(h1:i<xs.length):gI (xs.map f) i=f (gI xs i):=by
 have e:=ml h0 h1;unfold gI;rw[ag,au,e];rfl
noncomputable def gC (ch:List (List Int))(i:Int):List Int:=ch.getD i.toNat []
theorem mq {ch:List (List Int)}{i:Int}(h0:0<=i)(h1:i<ch.length):ch[i.toNat]?=some (gC ch i):=by
 have hl:i.toNat<ch.length:=by omega
 unfold gC;rw[ag,ao hl];rfl
theorem zO {ch:List (List Int)}{i:Int}(h0:0<=i)(h1:i<ch.length):cL (.tuple (ch.map cR)) (.int i)=some (cR (gC ch i),false):=by
 unfold cL;dsimp only;rw[oz h0 (d:=cR (gC ch i)) (by rw[au,mq h0 h1];rfl)];rfl
noncomputable def iw (pl rows:List Int):List Int:=pl.map (gI rows)
noncomputable def nP (pl rows:List Int)(steps:List (List Int))(q:(Int×Int)×List Nat):List Int:=(aj (gI rows (gI pl q.1.1)).toNat).map fun (x:Nat)=>mK steps q.2 (x:Int)
noncomputable def tW (ar:Ar)(pl:List Int)(ws:List (List Nat))(rows:List Int)(steps:List (List Int)):List (List Int):=(ar.zip ws).map (nP pl rows steps)
theorem yX {k k2:Int}{ar ar2:Ar}{pl:List Int}{ws:List (List Nat)}(s:mH k ar k2 ar2 pl ws){q:(Int×Int)×List Nat}(hq:q∈ar.zip ws):q.1∈ar/\q.2∈ws/\dG ar2 (gI pl q.1.1) q.2/\dj ar2 (gI pl q.1.1) q.2=gI pl q.1.2:=by
 obtain⟨i,hi⟩:=JF hq;rw[J1] at hi;have:=s.way i q.1 q.2 hi.1 hi.2;exact⟨az hi.1,az hi.2,this.1,this.2⟩
theorem EJ {k k2:Int}{ar ar2:Ar}{pl:List Int}{ws:List (List Nat)}{rows:List Int}{steps:List (List Int)}(w:Wf k ar)(s:mH k ar k2 ar2 pl ws)(b:dq k2 ar2 rows steps):dq k ar (iw pl rows) (tW ar pl ws rows steps):=by
 have hl:=s.len;have hw:=s.wl;have gr:∀i:Int,0<=i->i<k->gI (iw pl rows) i=gI rows (gI pl i):=fun i h0 h1=>yt h0 ⋯;refine⟨by unfold iw;rw[af];exact s.len,fun r hr=>?_,by unfold tW;rw[af,bP];omega,fun i a st e1 e2=>?_⟩
 ·obtain⟨x,hx,rfl⟩:=List.mem_map.mp hr;have:=s.nn x hx;exact gZ b.nn _
 ·have wa:=w.ok a (az e1);unfold tW at e2;rw[au] at e2;cases e:(ar.zip ws)[i]? with
  |none=>rw[e] at e2;cases e2
  |some q =>
   rw[e] at e2;have hq:=yX s (az e);rw[J1,e1] at e;have:a=q.1:=by simpa using e.1
   subst this;cases e2;rw[gr _ wa.1 ⋯,gr _ ⋯ wa.2.2];have n0:=gZ b.nn (gI pl q.1.1);unfold nP;refine⟨by rw[af,aD];omega,fun x hx=>?_⟩;obtain⟨n,hn,rfl⟩:=List.mem_map.mp hx;rw[aY] at hn;rw[<-hq.2.2.2];exact yq b q.2 _ _ hq.2.2.1 ⋯ ⋯
noncomputable def xU (m x:Int):Bool:=decide (0<=x)&&decide (x<m)
noncomputable def pV (r1 r2:List Int)(ch:List (List Int))(i:Nat):Bool:=decide (((gC ch (i:Int)).length:Int)=gI r1 (i:Int))&&(gC ch (i:Int)).all (xU (gI r2 (i:Int)))
noncomputable def Ac (s1 s2 ch:List (List Int))(p:(Int×Int)×Nat)(x:Nat):Bool:=decide (gI (gC ch p.1.2) (gI (s1.getD p.2 []) (x:Int))=gI (s2.getD p.2 []) (gI (gC ch p.1.1) (x:Int)))
noncomputable def nQ (r1:List Int)(s1 s2 ch:List (List Int))(p:(Int×Int)×Nat):Bool:=(aj (gI r1 p.1.1).toNat).all (Ac s1 s2 ch p)
noncomputable def j9 (k:Int)(ar:Ar)(r1:List Int)(s1:List (List Int))(r2:List Int)(s2 ch:List (List Int)):Bool :=
 decide ((ch.length:Int)=k)&&((aj k.toNat).all (pV r1 r2 ch)&&ar.zipIdx.all (nQ r1 s1 s2 ch))
theorem FO (xs:List Int):qY "tuple" (cR xs)=some (.bool true,false):=rfl
theorem Gk {s0 s1 s3 s6 s7 s8 s9:Option Vl}{r2:List Int}{s2:List (List Int)}{i x:Int}(h0:0<=i)(h1:i<r2.length) :
  gD [s0,s1,some (cu r2 s2,false),s3,some (.int i,false),some (.int x,false),s6,s7,s8,s9] =
   if xU (gI r2 i) x=true then some (.next [s0,s1,some (cu r2 s2,false),s3,some (.int i,false),some (.int x,false),s6,s7,s8,s9]) else some (.ret (.bool false,false)):=by
 have e:=ir h0 h1;unfold xU;by_cases a:0<=x
 ·by_cases b:x<gI r2 i <;> simp[gD,i9,xH,kj,sT,cD,b4,cv,cf,vK,zT,dk,tChain,cA,dC,b7,Iz,Hd,d2,oX,e,a,b,fM,dI]
 ·simp[gD,i9,xH,kj,sT,cD,b4,cv,cf,vK,zT,dk,tChain,cA,dC,b7,Iz,a,dI]
theorem Gj {s0 s5 s6 s7 s8 s9:Option Vl}{r1 r2:List Int}{s1 s2 ch:List (List Int)}{i:Nat}(hc:(i:Int)<ch.length)(h1:(i:Int)<r1.length)(h2:(i:Int)<r2.length) :
  if pV r1 r2 ch i=true then ∃x,gB [s0,some (cu r1 s1,false),some (cu r2 s2,false),some (.tuple (ch.map cR),false),some (.int (i:Int),false),s5,s6,s7,s8,s9]=some (.next [s0,some (cu r1 s1,false),some (cu r2 s2,false),some (.tuple (ch.map cR),false),some (.int (i:Int),false),x,s6,s7,s8,s9])
  else gB [s0,some (cu r1 s1,false),some (cu r2 s2,false),some (.tuple (ch.map cR),false),some (.int (i:Int),false),s5,s6,s7,s8,s9]=some (.ret (.bool false,false)):=by
 have e1:=zO (ch:=ch) (i:=(i:Int)) ⋯ hc;have e2:=ir (xs:=r1) (i:=(i:Int)) ⋯ h1;have t:(xH (kj (sT (d1 (qY "tuple") (cA (d2 cL (b7 3) (b7 4)))))) (dk (cA (d1 fF (cA (d2 cL (b7 3) (b7 4))))) [(sN,(cA (d2 cL (cA (d2 cL (b7 1) (cA (dC (.int 0))))) (b7 4))))])) [s0,some (cu r1 s1,false),some (cu r2 s2,false),some (.tuple (ch.map cR),false),some (.int (i:Int),false),s5,s6,s7,s8,s9] =
   some (!decide (((gC ch (i:Int)).length:Int)=gI r1 (i:Int))):=by
  simp[xH,kj,sT,d1,d2,cA,b7,e1,FO,zT,dk,tChain,FN,dC,oX,e2,oU]
 have q:(du (fT (d2 cL (b7 3) (b7 4)))) [s0,some (cu r1 s1,false),some (cu r2 s2,false),some (.tuple (ch.map cR),false),some (.int (i:Int),false),s5,s6,s7,s8,s9]=some ((gC ch (i:Int)).map .int):=by
  simp[du,fT,d2,b7,e1,cR,dP]
 have l:=jE (g:=gN 5) (b:=gD) (d:=PyData.int) (ok:=xU (gI r2 (i:Int))) (r:=(.bool false,false))
  (P:=fun ρ=>∃x,ρ=[s0,some (cu r1 s1,false),some (cu r2 s2,false),some (.tuple (ch.map cR),false),some (.int (i:Int),false),x,s6,s7,s8,s9]) (gC ch (i:Int)) _ ⟨s5,rfl⟩
  (fun x _ ρ ⟨y,e⟩=>⟨[s0,some (cu r1 s1,false),some (cu r2 s2,false),some (.tuple (ch.map cR),false),some (.int (i:Int),false),some (.int x,false),s6,s7,s8,s9],by rw[e];rfl,by
   rw[Gk ⋯ h2];split
   ·exact⟨_,rfl,_,rfl⟩
   ·rfl⟩)
 unfold pV;rw[gB];cases b:decide (((gC ch (i:Int)).length:Int)=gI r1 (i:Int)) with
 |false =>
  rw[b] at t;rw[Bool.false_and,if_neg Bool.false_ne_true,nr t rfl]
 |true =>
  rw[b] at t;rw[Bool.true_and,kv t,dS q];cases c:(gC ch (i:Int)).all (xU (gI r2 (i:Int))) with
  |false =>
   rw[c,if_neg Bool.false_ne_true] at l;rw[if_neg Bool.false_ne_true];exact l
  |true =>
   rw[c,if_pos rfl] at l;obtain⟨ρ',l,x,e⟩:=l;rw[if_pos rfl];exact⟨x,by rw[l,e]⟩
structure dA (k:Int)(r1 r2:List Int)(ch:List (List Int)):Prop where
 len:(ch.length:Int)=k
 row:∀i:Int,0<=i->i<k->((gC ch i).length:Int)=gI r1 i/\∀x∈gC ch i,0<=x/\x<gI r2 i
theorem xc {k:Int}{r1 r2:List Int}{ch:List (List Int)}(h1:(ch.length:Int)=k)(h2:(aj k.toNat).all (pV r1 r2 ch)=true):dA k r1 r2 ch:=by
 refine⟨h1,fun i i0 i1=>?_⟩;have:=List.all_eq_true.mp h2 i.toNat (List.mem_range.mpr ⋯);unfold pV at this;rw[Bool.and_eq_true,decide_eq_true_eq,show ((i.toNat:Nat):Int)=i by omega,bp] at this;refine⟨this.1,fun x hx=>?_⟩;have:=this.2 x hx;unfold xU at this;rwa[Bool.and_eq_true,decide_eq_true_eq,decide_eq_true_eq] at this
theorem Gi {k:Int}{ar:Ar}{s0 s4 s8 s9:Option Vl}{r1 r2:List Int}{s1 s2 ch:List (List Int)}{a:Int×Int}{i x:Nat}(w:Wf k ar)(b1:dq k ar r1 s1)(b2:dq k ar r2 s2)(c:dA k r1 r2 ch)(ha:ar[i]?=some a)(hx:(x:Int)<gI r1 a.1):∃y z,
  gA [s0,some (cu r1 s1,false),some (cu r2 s2,false),some (.tuple (ch.map cR),false),s4,some (.int (x:Int),false),some (.int (i:Int),false),some (cH a,false),s8,s9] =
   if Ac s1 s2 ch (a,i) x=true then some (.next [s0,some (cu r1 s1,false),some (cu r2 s2,false),some (.tuple (ch.map cR),false),s4,some (.int (x:Int),false),some (.int (i:Int),false),some (cH a,false),y,z]) else some (.ret (.bool false,false)):=by
 have wa:=w.ok a (az ha);have hl:=c.len;obtain⟨t1,e1,g1,l1,m1⟩:=kJ b1 ha;obtain⟨t2,e2,g2,l2,m2⟩:=kJ b2 ha;obtain⟨c1,d1'⟩:=c.row a.1 wa.1 ⋯;obtain⟨c2,_⟩:=c.row a.2 ⋯ wa.2.2;have x0:(0:Int)<=(x:Int):=by omega
 have q1:=m1 _ (jd (xs:=t1) x0 ⋯);have q2:=d1' _ (jd (xs:=gC ch a.1) x0 ⋯);have i1:=zO (ch:=ch) (i:=a.1) wa.1 ⋯;have i2:=zO (ch:=ch) (i:=a.2) ⋯ ⋯;have i3:=ir (xs:=t1) x0 ⋯;have i4:=ir (xs:=gC ch a.2) q1.1 ⋯;have i5:=ir (xs:=gC ch a.1) x0 ⋯;have i6:=ir (xs:=t2) q2.1 ⋯;refine⟨some (.int (gI (gC ch a.2) (gI t1 (x:Int))),false),some (.int (gI (gC ch a.1) (x:Int)),false),?_⟩;unfold Ac;dsimp only;rw[g1,g2];by_cases h:gI (gC ch a.2) (gI t1 (x:Int))=gI t2 (gI (gC ch a.1) (x:Int))
 ·simp[gA,cG,cF,d2,cA,b7,dC,lz,oh,i1,i2,zS,vQ e1,vQ e2,i3,i4,i5,i6,i9,dk,tChain,oU,h,fM]
 ·simp[gA,cG,cF,d2,cA,b7,dC,lz,oh,i1,i2,zS,vQ e1,vQ e2,i3,i4,i5,i6,i9,dk,tChain,oU,h,dI]
theorem Gh {k m:Int}{ar:Ar}{s4 s5 s8 s9:Option Vl}{s0:Option Vl}{r1 r2:List Int}{s1 s2 ch:List (List Int)}{a:Int×Int}{i:Nat}(w:Wf k ar)(b1:dq k ar r1 s1)(b2:dq k ar r2 s2)(c:dA k r1 r2 ch)(ha:ar[i]?=some a)(hm:∀r∈r1,r<=1000000) :
  if nQ r1 s1 s2 ch (a,i)=true then ∃x y z,gw [s0,some (cu r1 s1,false),some (cu r2 s2,false),some (.tuple (ch.map cR),false),s4,s5,some (.int (i:Int),false),some (cH a,false),s8,s9]=some (.next [s0,some (cu r1 s1,false),some (cu r2 s2,false),some (.tuple (ch.map cR),false),s4,x,some (.int (i:Int),false),some (cH a,false),y,z])
  else gw [s0,some (cu r1 s1,false),some (cu r2 s2,false),some (.tuple (ch.map cR),false),s4,s5,some (.int (i:Int),false),some (cH a,false),s8,s9]=some (.ret (.bool false,false)):=by
 have wa:=w.ok a (az ha);have hl:=b1.len;have e1:=ir (xs:=r1) (i:=a.1) wa.1 ⋯;have n0:=gZ b1.nn a.1;have n1:=ji (m:=1000000) ⋯ hm a.1;have q:(cP (d2 cL (cA (d2 cL (b7 1) (cA (dC (.int 0))))) (cA (d2 cL (b7 7) (cA (dC (.int 0))))))) [s0,some (cu r1 s1,false),some (cu r2 s2,false),some (.tuple (ch.map cR),false),s4,s5,some (.int (i:Int),false),some (cH a,false),s8,s9]=some ((aj (gI r1 a.1).toNat).map fun (x:Nat)=>.int (x:Int)):=by
  rw[<-da];exact dB (o:=false) (by simp[d2,b7,cA,dC,oX,lz,e1]) n0 n1
 have l:=jE (g:=gN 5) (b:=gA) (d:=fun (x:Nat)=>.int (x:Int)) (ok:=Ac s1 s2 ch (a,i)) (r:=(.bool false,false))
  (P:=fun ρ=>∃x y z,ρ=[s0,some (cu r1 s1,false),some (cu r2 s2,false),some (.tuple (ch.map cR),false),s4,x,some (.int (i:Int),false),some (cH a,false),y,z]) (aj (gI r1 a.1).toNat) _ ⟨s5,s8,s9,rfl⟩
  (fun x hx ρ ⟨u,v,v',e⟩=>⟨[s0,some (cu r1 s1,false),some (cu r2 s2,false),some (.tuple (ch.map cR),false),s4,some (.int (x:Int),false),some (.int (i:Int),false),some (cH a,false),v,v'],by rw[e];rfl,by
   rw[aY] at hx;obtain⟨y,z,e3⟩:=Gi (s0:=s0) (s4:=s4) (s8:=v) (s9:=v') w b1 b2 c ha (x:=x) ⋯;rw[e3];split
   ·exact⟨_,rfl,_,_,_,rfl⟩
   ·rfl⟩)
 unfold nQ;rw[gw,dS q];split at l
 ·rename_i hq;rw[if_pos hq];obtain⟨ρ',l,x,y,z,e⟩:=l;exact⟨x,y,z,by rw[l,e]⟩
 ·rename_i hq;rw[if_neg hq];exact l
theorem sJ {k:Int}{ar:Ar}{r1 r2:List Int}{s1 s2 ch:List (List Int)}(w:Wf k ar)(hk:k<=1000000)(b1:dq k ar r1 s1)(b2:dq k ar r2 s2)(hm:∀r∈r1,r<=1000000) :
  gi [cc k ar,cu r1 s1,cu r2 s2,.tuple (ch.map cR)]=some (.bool (j9 k ar r1 s1 r2 s2 ch),false):=by
 have k0:=w.lo;have hl1:=b1.len;have hl2:=b2.len;have run:gi [cc k ar,cu r1 s1,cu r2 s2,.tuple (ch.map cR)]=(la [some (cc k ar,false),some (cu r1 s1,false),some (cu r2 s2,false),some (.tuple (ch.map cR),false),none,none,none,none,none,none]).bind eP:=rfl;have t:(xH (kj (sT (d1 (qY "tuple") (b7 3)))) (dk (cA (d1 fF (b7 3))) [(sN,(cA (d2 cL (b7 0) (cA (dC (.int 0))))))])) [some (cc k ar,false),some (cu r1 s1,false),some (cu r2 s2,false),some (.tuple (ch.map cR),false),none,none,none,none,none,none] =
   some (!decide ((ch.length:Int)=k)):=by
  have a1:qY "tuple" (.tuple (ch.map cR))=some (.bool true,false):=rfl;simp[xH,kj,sT,d1,d2,cA,b7,a1,zT,dk,tChain,FF,dC,lS,oU]
 rw[run,la];unfold j9;cases h1:decide ((ch.length:Int)=k) with
 |false =>
  rw[h1] at t;rw[nr t rfl];rfl
 |true =>
  rw[h1] at t;rw[kv t,Bool.true_and];rw[decide_eq_true_eq] at h1;have q1:(cP (d2 cL (b7 0) (cA (dC (.int 0))))) [some (cc k ar,false),some (cu r1 s1,false),some (cu r2 s2,false),some (.tuple (ch.map cR),false),none,none,none,none,none,none]=some ((aj k.toNat).map fun (x:Nat)=>.int (x:Int)):=by
   rw[<-da];exact dB (o:=false) (by simp[d2,b7,cA,dC,lS]) ⋯ hk
  have l:=jE (g:=gN 4) (b:=gB) (d:=fun (x:Nat)=>.int (x:Int)) (ok:=pV r1 r2 ch) (r:=(.bool false,false))
   (P:=fun ρ=>∃x y,ρ=[some (cc k ar,false),some (cu r1 s1,false),some (cu r2 s2,false),some (.tuple (ch.map cR),false),x,y,none,none,none,none]) (aj k.toNat) _ ⟨none,none,rfl⟩
   (fun i hi ρ ⟨x,y,e⟩=>⟨[some (cc k ar,false),some (cu r1 s1,false),some (cu r2 s2,false),some (.tuple (ch.map cR),false),some (.int (i:Int),false),y,none,none,none,none],by rw[e];rfl,by
    rw[aY] at hi;have:=Gj (s0:=some (cc k ar,false)) (s1:=s1) (s2:=s2) (s5:=y) (s6:=none) (s7:=none) (s8:=none) (s9:=none) (r1:=r1) (r2:=r2) (ch:=ch) (i:=i) ⋯ ⋯ ⋯;split at this
    ·rename_i hq;rw[if_pos hq];obtain⟨x,e2⟩:=this;exact⟨_,e2,_,_,rfl⟩
    ·rename_i hq;rw[if_neg hq];exact this⟩)
  rw[cG,dS q1];cases h2:(aj k.toNat).all (pV r1 r2 ch) with
  |false =>
   rw[h2,if_neg Bool.false_ne_true] at l;rw[l];rfl
  |true =>
   rw[h2,if_pos rfl] at l;obtain⟨ρ1,l,x,y,e⟩:=l;subst e;have c:=xc h1 h2;rw[l,aa,Bool.true_and];dsimp only;have q2:(eY (fT (d2 cL (b7 0) (cA (dC (.int 1)))))) [some (cc k ar,false),some (cu r1 s1,false),some (cu r2 s2,false),some (.tuple (ch.map cR),false),x,y,none,none,none,none]=some (ar.zipIdx.map fun p=>.tuple [.int (p.2:Int),cH p.1]):=by
    rw[<-iC];simp[eY,fT,d2,b7,cA,dC,jU,dP]
   have l2:=jE (g:=gT [gN 6,gN 7]) (b:=gw) (d:=fun p:(Int×Int)×Nat=>.tuple [.int (p.2:Int),cH p.1]) (ok:=nQ r1 s1 s2 ch) (r:=(.bool false,false))
    (P:=fun ρ=>∃a b c d e,ρ=[some (cc k ar,false),some (cu r1 s1,false),some (cu r2 s2,false),some (.tuple (ch.map cR),false),x,a,b,c,d,e]) ar.zipIdx _ ⟨y,none,none,none,none,rfl⟩
    (fun p hp ρ ⟨a,b,c',d,e',e⟩=>⟨[some (cc k ar,false),some (cu r1 s1,false),some (cu r2 s2,false),some (.tuple (ch.map cR),false),x,a,some (.int (p.2:Int),false),some (cH p.1,false),d,e'],by rw[e];rfl,by
     have hp':ar[p.2]?=some p.1:=by
      obtain⟨q,j⟩:=p;have:=List.mem_zipIdx hp;rw[List.getElem?_eq_some_iff];refine⟨by simpa using this.2.1,?_⟩;have h3:=this.2.2;simpa using h3.symm
     have:=Gh (s0:=some (cc k ar,false)) (s4:=x) (s5:=a) (s8:=d) (s9:=e') w b1 b2 c hp' hm (m:=0);split at this
     ·rename_i hq;rw[if_pos hq];obtain⟨x',y',z',e2⟩:=this;exact⟨_,e2,_,_,_,_,_,rfl⟩
     ·rename_i hq;rw[if_neg hq];exact this⟩)
   rw[cG,dS q2];cases h3:ar.zipIdx.all (nQ r1 s1 s2 ch) with
   |false =>
    rw[h3,if_neg Bool.false_ne_true] at l2;rw[l2];rfl
   |true =>
    rw[h3,if_pos rfl] at l2;obtain⟨ρ2,l2,_⟩:=l2;rw[l2];rfl
noncomputable def rG (m:Nat)(r:List Int):List (List Int):=(aj m).map fun (x:Nat)=>r++[(x:Int)]
noncomputable def cY (m:Nat):Nat->List (List Int)
 |0=>[[]]
 |n+1=>(cY m n).flatMap (rG m)
theorem lU {α β:Type}{f:α->List β}{c:Nat}(h:∀x,(f x).length=c):∀l:List α,(l.flatMap f).length=l.length*c
 |[]=>by simp
 | x::l=>by
  rw[bz,aw,h,lU h l,aJ,Nat.succ_mul];omega
theorem jS (m:Nat):∀n,(cY m n).length=m ^ n
 |0=>rfl
 | n+1=>by
  rw[cY,lU (c:=m) (fun r=>by simp[rG]),jS m n,Nat.pow_succ]
theorem kH {m:Nat}:∀{n:Nat}{r:List Int},r∈cY m n->r.length=n/\∀x∈r,0<=x/\x<(m:Int)
 | 0,r,h=>by
  cases List.mem_singleton.mp h;exact⟨rfl,fun x hx=>by cases hx⟩
 | n+1,r,h=>by
  obtain⟨q,hq,hr⟩:=List.mem_flatMap.mp h;obtain⟨x,hx,rfl⟩:=List.mem_map.mp hr;obtain⟨h1,h2⟩:=kH hq;rw[aY] at hx;refine⟨by rw[aw,aO,h1],fun y hy=>?_⟩;rcases List.mem_append.mp hy with z|z
  ·exact h2 y z
  ·cases List.mem_singleton.mp z;omega
theorem Aa {r:List Int}{x:Int}(h:r.length+1<=1000000):iO [some (.int x,false),some (cR r,false)]=some (cR (r++[x]),false):=by
 have hz:r.length+1<=sizeLine:=tZ h;simp[iO,d2,b7,cA,dM,b4,cv,cf,Bo,cR,eD,hz]
theorem sI {n m:Nat}(hn:n<=1000)(hm:m<=1000000)(hb:∀j≤n,m ^ j<=1000000):gh [.int (n:Int),.int (m:Int)]=some (.list ((cY m n).map cR),false):=by
 have run:gh [.int (n:Int),.int (m:Int)]=(k9 [some (.int (n:Int),false),some (.int (m:Int),false),none,none,none,none]).bind eP:=rfl;have q1:(fL 2 (cF 2 (cW (b4 (dM cv) cv)))) [some (.int (n:Int),false),some (.int (m:Int),false),none,none,none,none]=some (.next [some (.int (n:Int),false),some (.int (m:Int),false),some (.list ((cY m 0).map cR),false),none,none,none]):=by
  simp[fL,cF,cW,b4,dM,cv,Bo,share,cY,cR]
 have q2:(cP (cf 0)) [some (.int (n:Int),false),some (.int (m:Int),false),some (.list ((cY m 0).map cR),false),none,none,none]=some ((aj n).map fun (x:Nat)=>.int (x:Int)):=by
  rw[<-da];exact dB (j:=(n:Int)) (o:=false) (by simp[cf]) ⋯ ⋯
 have turn:∀(j:Nat) (s3 s4 s5:Option Vl),j<n->∃t4 t5,iS [some (.int (n:Int),false),some (.int (m:Int),false),some (.list ((cY m j).map cR),false),s3,s4,s5]=some (.next [some (.int (n:Int),false),some (.int (m:Int),false),some (.list ((cY m (j+1)).map cR),false),s3,t4,t5]):=by
  intro j s3 s4 s5 hj;have e1:(cF 4 (cW cv)) [some (.int (n:Int),false),some (.int (m:Int),false),some (.list ((cY m j).map cR),false),s3,s4,s5]=some (.next [some (.int (n:Int),false),some (.int (m:Int),false),some (.list ((cY m j).map cR),false),s3,some (.list (([]:List (List Int)).map cR),true),s5]):=by simp[cF,cW,cv]
  have e2:(du (eo 2)) [some (.int (n:Int),false),some (.int (m:Int),false),some (.list ((cY m j).map cR),false),s3,some (.list (([]:List (List Int)).map cR),true),s5]=some ((cY m j).map cR):=by simp[du,eo]
  obtain⟨ρ',l,u,e⟩:=kU (g:=gN 5) (b:=kg) (d:=cR) (f:=rG m)
   (P:=fun acc ρ=>∃u,ρ=[some (.int (n:Int),false),some (.int (m:Int),false),some (.list ((cY m j).map cR),false),s3,some (.list (acc.map cR),true),u]) 1000000 (cY m j) [] _ ⟨s5,rfl⟩
   (by have:=jS m (j+1);rw[cY] at this;rw[this];simpa using hb (j+1) ⋯)
   (fun r hr acc ρ ⟨u,e⟩ ha=>by
    subst e;refine⟨_,_,rfl,?_,some (cR r,false),rfl⟩;have hl:=(kH hr).1;have c:=eB (it:=cP (cf 1)) (n:=1) (ix:=[5]) (g:=gN 0) (e:=iO) (ρ:=[some (.int (n:Int),false),some (.int (m:Int),false),some (.list ((cY m j).map cR),false),s3,some (.list (acc.map cR),true),some (cR r,false)]) (d:=fun (x:Nat)=>.int (x:Int)) (β:=fun (x:Nat)=>cR (r++[(x:Int)])) (aj m)
     (by rw[<-da];exact dB (j:=(m:Int)) (o:=false) (by simp[cf]) ⋯ ⋯) (by rw[aD];exact hm)
     (fun x _=>⟨_,false,rfl,Aa ⋯⟩)
    have hz:acc.length+m<=sizeLine:=tZ (by simpa [rG] using ha);rw[kg,pf];simp only[bX];rw[c];simp[lE,hz,rG,bg])
  rw[bM] at e;subst e;refine⟨some (.list ((cY m (j+1)).map cR),false),u,?_⟩;rw[iS,cJ e1,cG,dS e2,l,aa];simp[j5,share,cF,cf,cY]
 have l:∀(c j:Nat) (s3 s4 s5:Option Vl),j+c=n->∃t3 t4 t5,eA (gN 3) iS ((bQ j c).map fun (x:Nat)=>.int (x:Int)) [some (.int (n:Int),false),some (.int (m:Int),false),some (.list ((cY m j).map cR),false),s3,s4,s5]=some (.next [some (.int (n:Int),false),some (.int (m:Int),false),some (.list ((cY m n).map cR),false),t3,t4,t5]):=by
  intro c;induction c with
  |zero =>
   intro j s3 s4 s5 h;have:j=n:=by omega
   subst this;exact⟨s3,s4,s5,rfl⟩
  |succ c ih =>
   intro j s3 s4 s5 h;obtain⟨t4,t5,e⟩:=turn j (some (.int (j:Int),false)) s4 s5 ⋯;obtain⟨u3,u4,u5,e2⟩:=ih (j+1) (some (.int (j:Int),false)) t4 t5 ⋯;refine⟨u3,u4,u5,?_⟩;rw[bZ,aA,kz rfl e];exact e2
 obtain⟨t3,t4,t5,l⟩:=l n 0 none none none ⋯;rw[<-bI] at l;rw[run,k9,cJ q1,cG,dS q2,l,aa];simp[dI,cf,eP]
noncomputable def rN (r:List Int)(j:Nat):Nat:=(gI r (j:Int)).toNat
noncomputable def wY (r1 r2:List Int)(j:Nat)(ch:List (List Int)):List (List (List Int)):=(cY (rN r2 j) (rN r1 j)).map fun r=>ch++[r]
noncomputable def cZ (r1 r2:List Int):Nat->List (List (List Int))
 |0=>[[]]
 |j+1=>(cZ r1 r2 j).flatMap (wY r1 r2 j)
noncomputable def ja (r1 r2:List Int):Nat->Nat
 |0=>1
 |j+1=>ja r1 r2 j*rN r2 j ^ rN r1 j
theorem jY (r1 r2:List Int):∀j,(cZ r1 r2 j).length=ja r1 r2 j
 |0=>rfl
 | j+1=>by
  rw[cZ,lU (c:=rN r2 j ^ rN r1 j) (fun ch=>by rw[wY,af,jS]),jY r1 r2 j,ja]
theorem oQ {r1 r2:List Int}:∀{j:Nat}{ch:List (List Int)},ch∈cZ r1 r2 j->ch.length=j/\∀i<j,((ch.getD i []).length=rN r1 i/\∀x∈ch.getD i [],0<=x/\x<(rN r2 i:Int))
 | 0,ch,h=>by
  cases List.mem_singleton.mp h;exact⟨rfl,fun i hi=>by omega⟩
 | j+1,ch,h=>by
  obtain⟨q,hq,hr⟩:=List.mem_flatMap.mp h;obtain⟨r,hr',rfl⟩:=List.mem_map.mp hr;obtain⟨h1,h2⟩:=oQ hq;refine⟨by rw[aw,aO,h1],fun i hi=>?_⟩;by_cases c:i<j
  ·rw[ag,aP ⋯,<-ag];exact h2 i c
  ·have:i=q.length:=by omega
   subst this;rw[ag,JZ,h1];exact kH hr'
theorem Ea {ch:List (List Int)}{r:List Int}(h:ch.length+1<=1000000):jW [some (cR r,false),some (.tuple (ch.map cR),false)]=some (.tuple ((ch++[r]).map cR),false):=by
 have hz:ch.length+1<=sizeLine:=tZ h;simp[jW,d2,b7,cA,dM,b4,cv,cf,Bo,eD,hz]
noncomputable def eN (ch:List (List Int)):D:=.tuple (ch.map cR)
theorem pU {k:Int}{ar:Ar}{r1 r2:List Int}{s1 s2:List (List Int)}(w:Wf k ar)(hk:k<=1000)(b1:dq k ar r1 s1)(b2:dq k ar r2 s2)(hm1:∀r∈r1,r<=1000)(hm2:∀r∈r2,r<=1000000)(hb1:∀i<k.toNat,∀j≤rN r1 i,rN r2 i ^ j<=1000000)(hb2:∀j≤k.toNat,ja r1 r2 j<=1000000) :
  fZ [cc k ar,cu r1 s1,cu r2 s2]=some (.list (((cZ r1 r2 k.toNat).filter (j9 k ar r1 s1 r2 s2)).map eN),true):=by
 have k0:=w.lo;have hl1:=b1.len;have hl2:=b2.len;have run:fZ [cc k ar,cu r1 s1,cu r2 s2]=(nG [some (cc k ar,false),some (cu r1 s1,false),some (cu r2 s2,false),none,none,none,none]).bind eP:=rfl;have q1:(fL 3 (cF 3 (cW (b4 (dM cv) cv)))) [some (cc k ar,false),some (cu r1 s1,false),some (cu r2 s2,false),none,none,none,none]=some (.next [some (cc k ar,false),some (cu r1 s1,false),some (cu r2 s2,false),some (.list ((cZ r1 r2 0).map eN),false),none,none,none]):=by
  simp[fL,cF,cW,b4,dM,cv,Bo,share,cZ,eN]
 have q2:(cP (d2 cL (b7 0) (cA (dC (.int 0))))) [some (cc k ar,false),some (cu r1 s1,false),some (cu r2 s2,false),some (.list ((cZ r1 r2 0).map eN),false),none,none,none]=some ((aj k.toNat).map fun (x:Nat)=>.int (x:Int)):=by
  rw[<-da];exact dB (o:=false) (by simp[d2,b7,cA,dC,lS]) ⋯ ⋯
 have turn:∀(j:Nat) (s5 s6:Option Vl),j<k.toNat->∃t5 t6,jZ [some (cc k ar,false),some (cu r1 s1,false),some (cu r2 s2,false),some (.list ((cZ r1 r2 j).map eN),false),some (.int (j:Int),false),s5,s6]=some (.next [some (cc k ar,false),some (cu r1 s1,false),some (cu r2 s2,false),some (.list ((cZ r1 r2 (j+1)).map eN),false),some (.int (j:Int),false),t5,t6]):=by
  intro j s5 s6 hj;have e1:(cF 5 (cW cv)) [some (cc k ar,false),some (cu r1 s1,false),some (cu r2 s2,false),some (.list ((cZ r1 r2 j).map eN),false),some (.int (j:Int),false),s5,s6]=some (.next [some (cc k ar,false),some (cu r1 s1,false),some (cu r2 s2,false),some (.list ((cZ r1 r2 j).map eN),false),some (.int (j:Int),false),some (.list (([]:List (List (List Int))).map eN),true),s6]):=by simp[cF,cW,cv]
  have e2:(du (eo 3)) [some (cc k ar,false),some (cu r1 s1,false),some (cu r2 s2,false),some (.list ((cZ r1 r2 j).map eN),false),some (.int (j:Int),false),some (.list (([]:List (List (List Int))).map eN),true),s6]=some ((cZ r1 r2 j).map eN):=by simp[du,eo]
  have i1:=ir (xs:=r1) (i:=(j:Int)) ⋯ ⋯;have i2:=ir (xs:=r2) (i:=(j:Int)) ⋯ ⋯;have n1:=gZ b1.nn (j:Int);have n2:=gZ b2.nn (j:Int);have m1:=ji (m:=1000) ⋯ hm1 (j:Int);have m2:=ji (m:=1000000) ⋯ hm2 (j:Int);have c1:((rN r1 j:Nat):Int)=gI r1 (j:Int):=by unfold rN;omega
  have c2:((rN r2 j:Nat):Int)=gI r2 (j:Int):=by unfold rN;omega
  have tu:=sI (n:=rN r1 j) (m:=rN r2 j) ⋯ ⋯ (hb1 j hj);rw[c1,c2] at tu;have hw:=hb2 (j+1) ⋯;obtain⟨ρ',l,u,e⟩:=kU (g:=gN 6) (b:=l7) (d:=eN) (f:=wY r1 r2 j)
   (P:=fun acc ρ=>∃u,ρ=[some (cc k ar,false),some (cu r1 s1,false),some (cu r2 s2,false),some (.list ((cZ r1 r2 j).map eN),false),some (.int (j:Int),false),some (.list (acc.map eN),true),u]) 1000000 (cZ r1 r2 j) [] _ ⟨s6,rfl⟩
   (by have:=jY r1 r2 (j+1);rw[cZ] at this;rw[this];simpa using hw)
   (fun ch hch acc ρ ⟨u,e⟩ ha=>by
    subst e;refine⟨_,_,rfl,?_,some (eN ch,false),rfl⟩;have hl:=(oQ hch).1;have c:=eB (it:=du (fT (cD gh (b4 (d2 cL (cA (d2 cL (b7 1) (cA (dC (.int 0))))) (b7 4)) (b4 (d2 cL (cA (d2 cL (b7 2) (cA (dC (.int 0))))) (b7 4)) cv))))) (n:=1) (ix:=[6]) (g:=gN 0) (e:=jW) (ρ:=[some (cc k ar,false),some (cu r1 s1,false),some (cu r2 s2,false),some (.list ((cZ r1 r2 j).map eN),false),some (.int (j:Int),false),some (.list (acc.map eN),true),some (eN ch,false)]) (d:=cR) (β:=fun r=>eN (ch++[r])) (cY (rN r2 j) (rN r1 j))
     (by simp[du,fT,cD,b4,cv,d2,cA,b7,dC,oX,i1,i2,tu,dP]) (by rw[jS];exact hb1 j hj _ (aB _))
     (fun r _=>⟨_,false,rfl,Ea ⋯⟩)
    have hz:acc.length+(cY (rN r2 j) (rN r1 j)).length<=sizeLine:=tZ (by simpa [wY] using ha);rw[l7,pf];simp only[bX];rw[c];simp[lE,hz,wY,bg])
  rw[bM] at e;subst e;refine⟨some (.list ((cZ r1 r2 (j+1)).map eN),false),u,?_⟩;rw[jZ,cJ e1,cG,dS e2,l,aa];simp[j5,share,cF,cf,cZ]
 have l:∀(c j:Nat) (s4 s5 s6:Option Vl),j+c=k.toNat->∃t4 t5 t6,eA (gN 4) jZ ((bQ j c).map fun (x:Nat)=>.int (x:Int)) [some (cc k ar,false),some (cu r1 s1,false),some (cu r2 s2,false),some (.list ((cZ r1 r2 j).map eN),false),s4,s5,s6]=some (.next [some (cc k ar,false),some (cu r1 s1,false),some (cu r2 s2,false),some (.list ((cZ r1 r2 k.toNat).map eN),false),t4,t5,t6]):=by
  intro c;induction c with
  |zero =>
   intro j s4 s5 s6 h;have:j=k.toNat:=by omega
   subst this;exact⟨s4,s5,s6,rfl⟩
  |succ c ih =>
   intro j s4 s5 s6 h;obtain⟨t5,t6,e⟩:=turn j s5 s6 ⋯;obtain⟨u4,u5,u6,e2⟩:=ih (j+1) (some (.int (j:Int),false)) t5 t6 ⋯;refine⟨u4,u5,u6,?_⟩;rw[bZ,aA,kz rfl e];exact e2
 obtain⟨t4,t5,t6,l⟩:=l k.toNat 0 none none none ⋯;rw[<-bI] at l;have c:=CL (it:=du (eo 3)) (n:=1) (ix:=[0,1,2]) (g:=gN 0) (t:=sT (cD gi (b4 (cf 1) (b4 (cf 2) (b4 (cf 3) (b4 (cf 0) cv)))))) (e:=pW) (ρ:=[some (cc k ar,false),some (cu r1 s1,false),some (cu r2 s2,false),some (.list ((cZ r1 r2 k.toNat).map eN),false),t4,t5,t6]) (d:=eN) (β:=eN) (c:=j9 k ar r1 s1 r2 s2) (cZ r1 r2 k.toNat)
  (by simp[du,eo]) (by rw[jY];exact hb2 _ (aB _))
  (fun ch _=>⟨_,rfl,by
   have:=sJ (ch:=ch) w ⋯ b1 b2 (fun r hr=>by have:=hm1 r hr;omega);simp[sT,cD,b4,cv,cf,fA,eN,this,zT],fun _=>⟨false,rfl⟩⟩)
 rw[run,nG,cJ q1,cG,dS q2,l,aa];dsimp only;rw[dI,c];rfl
theorem Bg {k:Int}{ar:Ar}{r1 r2:List Int}{s1 s2:List (List Int)}{s0 s5:Option Vl}{W:Nat}{j:Nat}(b1:dq k ar r1 s1)(b2:dq k ar r2 s2)(hj:(j:Int)<k)(hm1:∀r∈r1,r<=1000)(hm2:∀r∈r2,r<=1000):∃x,
  jy [s0,some (cu r1 s1,false),some (cu r2 s2,false),some (.int (W:Int),false),some (.int (j:Int),false),s5]=some (.next [s0,some (cu r1 s1,false),some (cu r2 s2,false),some (.int ((W*rN r2 j ^ rN r1 j:Nat):Int),false),some (.int (j:Int),false),x]):=by
 have hl1:=b1.len;have hl2:=b2.len;have i1:=ir (xs:=r1) (i:=(j:Int)) ⋯ ⋯;have i2:=ir (xs:=r2) (i:=(j:Int)) ⋯ ⋯;have n1:=gZ b1.nn (j:Int);have n2:=gZ b2.nn (j:Int);have m1:=ji (m:=1000) ⋯ hm1 (j:Int);have m2:=ji (m:=1000) ⋯ hm2 (j:Int);have c2:((rN r2 j:Nat):Int)=gI r2 (j:Int):=by unfold rN;omega
 have q:(cP (d2 cL (cA (d2 cL (b7 1) (cA (dC (.int 0))))) (b7 4))) [s0,some (cu r1 s1,false),some (cu r2 s2,false),some (.int (W:Int),false),some (.int (j:Int),false),s5]=some ((aj (rN r1 j)).map fun (x:Nat)=>.int (x:Int)):=by
  rw[<-da];exact dB (o:=false) (by simp[d2,b7,cA,dC,oX,i1]) n1 ⋯
 obtain⟨ρ',l,u,e⟩:=lT (g:=gN 5) (b:=jz) (d:=fun (x:Nat)=>.int (x:Int)) (f:=fun (W:Nat) (_:Nat)=>W*rN r2 j)
  (P:=fun (W:Nat) ρ=>∃u,ρ=[s0,some (cu r1 s1,false),some (cu r2 s2,false),some (.int (W:Int),false),some (.int (j:Int),false),u]) (aj (rN r1 j)) W _ ⟨s5,rfl⟩
  (fun x _ W ρ zz=>by
   obtain ⟨u,e⟩:=zz;subst e;refine⟨_,_,rfl,?_,some (.int (x:Int),false),rfl⟩;have hmul:=qX (i:=(W:Int)) (j:=gI r2 (j:Int)) ⋯ ⋯;rw[Int.natCast_mul,c2];have u1:(cA (d2 cL (cA (d2 cL (b7 2) (cA (dC (.int 0))))) (b7 4))) [s0,some (cu r1 s1,false),some (cu r2 s2,false),some (.int (W:Int),false),some (.int (j:Int),false),some (.int (x:Int),false)]=some (.int (gI r2 (j:Int))):=by
    simp only[d2,b7,cA,dC,aK,aL,aa,av,oX,i2]
   have u2:(b7 3) [s0,some (cu r1 s1,false),some (cu r2 s2,false),some (.int (W:Int),false),some (.int (j:Int),false),some (.int (x:Int),false)]=some (.int (W:Int)):=by
    simp only[b7,aK,aL]
   show jz [s0,some (cu r1 s1,false),some (cu r2 s2,false),some (.int (W:Int),false),some (.int (j:Int),false),some (.int (x:Int),false)]=_;rw[jz,cF,d2,u2,aa,u1,aa,hmul,aa];rfl)
 have pw:∀(l:List Nat) (W:Nat),l.foldl (fun (W:Nat) (_:Nat)=>W*rN r2 j) W=W*rN r2 j ^ l.length:=by
  intro l;induction l with
  |nil=>intro W;simp
  |cons a l ih=>intro W;rw[List.foldl_cons,ih,aJ,Nat.pow_succ,Nat.mul_assoc,Nat.mul_comm (rN r2 j)]
 rw[pw,aD] at e;exact⟨u,by rw[jy,dS q,l,e]⟩
theorem ot {k:Int}{ar:Ar}{r1 r2:List Int}{s1 s2:List (List Int)}(w:Wf k ar)(hk:k<=1000)(b1:dq k ar r1 s1)(b2:dq k ar r2 s2)(hm1:∀r∈r1,r<=1000)(hm2:∀r∈r2,r<=1000) :
  fI [cc k ar,cu r1 s1,cu r2 s2]=some (.int (ja r1 r2 k.toNat:Int),false):=by
 have k0:=w.lo;have run:fI [cc k ar,cu r1 s1,cu r2 s2]=(lZ [some (cc k ar,false),some (cu r1 s1,false),some (cu r2 s2,false),none,none,none]).bind eP:=rfl;have q1:(cF 3 (dC (.int 1))) [some (cc k ar,false),some (cu r1 s1,false),some (cu r2 s2,false),none,none,none]=some (.next [some (cc k ar,false),some (cu r1 s1,false),some (cu r2 s2,false),some (.int ((1:Nat):Int),false),none,none]):=by simp[cF,dC]
 have q2:(cP (d2 cL (b7 0) (cA (dC (.int 0))))) [some (cc k ar,false),some (cu r1 s1,false),some (cu r2 s2,false),some (.int ((1:Nat):Int),false),none,none]=some ((aj k.toNat).map fun (x:Nat)=>.int (x:Int)):=by
  rw[<-da];exact dB (o:=false) (by simp[d2,b7,cA,dC,lS]) ⋯ ⋯
 obtain⟨ρ',l,u,v,e⟩:=lT (g:=gN 4) (b:=jy) (d:=fun (x:Nat)=>.int (x:Int)) (f:=fun (W:Nat) (j:Nat)=>W*rN r2 j ^ rN r1 j)
  (P:=fun (W:Nat) ρ=>∃u v,ρ=[some (cc k ar,false),some (cu r1 s1,false),some (cu r2 s2,false),some (.int (W:Int),false),u,v]) (aj k.toNat) 1 _ ⟨none,none,rfl⟩
  (fun j hj W ρ zz=>by
   obtain ⟨u,v,e⟩:=zz;subst e;rw[aY] at hj;obtain⟨x,e⟩:=Bg (s0:=some (cc k ar,false)) (s5:=v) (W:=W) (j:=j) b1 b2 ⋯ hm1 hm2;exact⟨_,_,rfl,e,_,_,rfl⟩)
 have fw:∀n,(aj n).foldl (fun (W:Nat) (j:Nat)=>W*rN r2 j ^ rN r1 j) 1=ja r1 r2 n:=by
  intro n;induction n with
  |zero=>rfl
  |succ n ih=>rw[JL,List.foldl_append,ih];rfl
 rw[fw] at e;subst e;rw[run,lZ,cJ q1,cG,dS q2,l,aa];simp[dI,cf,eP]
theorem kP {α β:Type}{f:α->List β}(g:β->α):∀{l:List α},l.Nodup->(∀a∈l,(f a).Nodup)->(∀a∈l,∀b∈f a,g b=a)->(l.flatMap f).Nodup
 |[],_,_,_=>by simp
 | a::l,nd,h1,h2=>by
  rw[bz,List.nodup_append];rw[List.nodup_cons] at nd;refine⟨h1 a (by simp),kP g nd.2 (fun b hb=>h1 b (by simp[hb])) (fun b hb=>h2 b (by simp[hb])),fun x hx y hy z=>?_⟩;subst z;obtain⟨b,hb,hxb⟩:=List.mem_flatMap.mp hy;have e1:=h2 a (by simp) x hx;have e2:=h2 b (by simp[hb]) x hxb;exact nd.1 (by rw[<-e1,e2];exact hb)
theorem nA {e:Int}{p:List Nat}:∀{r:Ar}{s:Nat},(iq e p s r).Nodup
 |[],s=>List.nodup_nil
 | a::r,s=>by
  unfold iq;split
  ·refine List.nodup_cons.mpr ⟨fun h=>?_,nA⟩;obtain⟨i,_,e1,_⟩:=lV h;have:=List.append_cancel_left e1;simp at this;omega
  ·exact nA
theorem xM {ar:Ar}{kind:Int}{r:List (List Nat)}(h:r.Nodup):(step ar kind r).Nodup:=by
 unfold step;refine kP List.dropLast h (fun _ _=>nA) fun p _ q hq=>?_;obtain⟨i,_,rfl,_⟩:=lV hq;rw[List.dropLast_concat]
theorem sY {ar:Ar}{kind other:Int}:∀(m n:Nat) (r f:List (List Nat)),r.Nodup->f.Nodup->(∀p∈r,p.length=n)->(∀p∈f,p.length<n)->(run ar kind other m r f).Nodup
 |0,_,_,_,_,hf,_,_=>hf
 | m+1,n,r,f,hr,hf,lr,lf=>by
  refine sY m (n+1) _ _ (xM hr) (List.nodup_append.mpr ⟨hf,hr.sublist List.filter_sublist,fun x hx y hy z=>?_⟩) (fun q hq=>?_) fun q hq=>?_
  ·have a:=lf x hx;have b:=lr y (List.mem_filter.mp hy).1;rw[z] at a;omega
  ·obtain⟨p,i,_,hp,e,_⟩:=km hq;rw[e,aw,aO,lr p hp]
  ·rcases List.mem_append.mp hq with z|z
   ·have:=lf q z;omega
   ·have:=lr q (List.mem_filter.mp z).1;omega
theorem nR {k:Int}{ar:Ar}{kind other:Int}:(fu k ar kind other).Nodup:=sY _ 0 _ _ (by simp) List.nodup_nil (fun p hp=>by cases List.mem_singleton.mp hp;rfl) fun p hp=>nomatch hp
end Lw
namespace Td
inductive Cn {α:Type}(r:α->α->Prop):α->α->Prop where
 |refl (i:α):Cn r i i
 |tie {i j k:α}:r i j->Cn r j k->Cn r i k
 |eit {i j k:α}:r j i->Cn r j k->Cn r i k
section
variable {α β:Type}{r:α->α->Prop}
theorem Cn.trans {i j k:α}(h:Cn r i j)(g:Cn r j k):Cn r i k:=by
 induction h with
 |refl=>exact g
 |tie t _ ih=>exact .tie t (ih g)
 |eit t _ ih=>exact .eit t (ih g)
theorem Cn.one {i j:α}(h:r i j):Cn r i j:=.tie h (.refl _)
theorem Cn.symm {i j:α}(h:Cn r i j):Cn r j i:=by
 induction h with
 |refl=>exact .refl _
 |tie t _ ih=>exact ih.trans (.eit t (.refl _))
 |eit t _ ih=>exact ih.trans (.tie t (.refl _))
theorem Cn.map {s:β->β->Prop}(f:α->β)(h:∀i j,r i j->Cn s (f i) (f j)){i j:α}(c:Cn r i j):Cn s (f i) (f j):=by
 induction c with
 |refl=>exact .refl _
 |tie t _ ih=>exact (h _ _ t).trans ih
 |eit t _ ih=>exact (h _ _ t).symm.trans ih
theorem Cn.eq (f:α->β)(h:∀i j,r i j->f i=f j){i j:α}(c:Cn r i j):f i=f j:=by
 induction c with
 |refl=>rfl
 |tie t _ ih=>exact (h _ _ t).trans ih
 |eit t _ ih=>exact (h _ _ t).symm.trans ih
end
section
variable {α:Type}[DecidableEq α]
open Classical in
noncomputable def fh (ts:List α)(r:α->α->Prop)(t:α):Bool:=decide (∀u∈ts,Cn r u t->ts.idxOf t<=ts.idxOf u)
noncomputable def eJ (ts:List α)(r:α->α->Prop):List α:=ts.filter (fh ts r)
open Classical in
noncomputable def sE (ts:List α)(r:α->α->Prop)(t:α):Nat:=(eJ ts r).findIdx fun u=>decide (Cn r u t)
variable {ts:List α}{r:α->α->Prop}
open Classical in
theorem ny {t:α}:fh ts r t=true<->∀u∈ts,Cn r u t->ts.idxOf t<=ts.idxOf u:=by
 unfold fh;exact decide_eq_true_iff (p:=∀u∈ts,Cn r u t->ts.idxOf t<=ts.idxOf u)
theorem mem_firsts {t:α}:t∈eJ ts r<->t∈ts/\∀u∈ts,Cn r u t->ts.idxOf t<=ts.idxOf u:=by
 unfold eJ;rw[List.mem_filter,ny]
theorem AO:∀(n:Nat) (t:α),t∈ts->ts.idxOf t<=n->∃u∈eJ ts r,Cn r u t:=by
 intro n;induction n with
 |zero =>
  intro t ht hn;exact⟨t,mem_firsts.mpr ⟨ht,fun u _ _=>by omega⟩,.refl t⟩
 |succ n ih =>
  intro t ht hn;by_cases h:∀u∈ts,Cn r u t->ts.idxOf t<=ts.idxOf u
  ·exact⟨t,mem_firsts.mpr ⟨ht,h⟩,.refl t⟩
  ·simp only[Classical.not_forall] at h;obtain⟨u,hu,c,l⟩:=h;obtain⟨v,hv,d⟩:=ih u hu ⋯;exact⟨v,hv,d.trans c⟩
theorem zj {t:α}(ht:t∈ts):sE ts r t<(eJ ts r).length:=by
 obtain⟨u,hu,c⟩:=AO (r:=r) _ t ht (aB _);exact List.findIdx_lt_length_of_exists ⟨u,hu,@decide_eq_true _ (Classical.propDecidable _) c⟩
theorem oj {t:α}(ht:t∈ts):∃u,(eJ ts r)[sE ts r t]?=some u/\u∈ts/\Cn r u t:=by
 have h:=zj (r:=r) ht;refine⟨_,ao h,(mem_firsts.mp (List.getElem_mem h)).1,?_⟩;have:=List.findIdx_getElem (w:=h);exact @of_decide_eq_true _ (Classical.propDecidable _) this
theorem yu {t u:α}(ht:t∈eJ ts r)(hu:u∈eJ ts r)(c:Cn r t u):t=u:=by
 obtain⟨h1,h2⟩:=mem_firsts.mp ht;obtain⟨g1,g2⟩:=mem_firsts.mp hu;have a:=h2 u g1 c.symm;have b:=g2 t h1 c;have e:ts.idxOf t=ts.idxOf u:=by omega
 have x1:=bA (List.idxOf_lt_length_iff.mpr h1);have x2:=bA (List.idxOf_lt_length_iff.mpr g1);rw[<-x1,<-x2];simp only[e]
theorem zk {t u:α}(ht:t∈ts)(hu:u∈ts):sE ts r t=sE ts r u<->Cn r t u:=by
 refine⟨fun e=>?_,fun c=>?_⟩
 ·obtain⟨v,h1,_,h2⟩:=oj (r:=r) ht;obtain⟨w,g1,_,g2⟩:=oj (r:=r) hu;rw[e,g1] at h1;cases h1;exact h2.symm.trans g2
 ·unfold sE;congr 1;funext v;exact (@decide_eq_decide _ _ (Classical.propDecidable _) (Classical.propDecidable _)).mpr ⟨fun d=>d.trans c,fun d=>d.trans c.symm⟩
theorem pH (nd:ts.Nodup){i:Nat}{u:α}(h:(eJ ts r)[i]?=some u):u∈ts/\sE ts r u=i:=by
 have hm:=az h;have ht:=(mem_firsts.mp hm).1;refine⟨ht,?_⟩;obtain⟨v,h1,_,h2⟩:=oj (r:=r) ht;have e:=yu (az h1) hm h2;subst e;have nf:(eJ ts r).Nodup:=List.Nodup.sublist List.filter_sublist nd;have hi:=(List.getElem?_eq_some_iff.mp h).1;have hj:=(List.getElem?_eq_some_iff.mp h1).1;have e1:=(List.getElem?_eq_some_iff.mp h).2;have e2:=(List.getElem?_eq_some_iff.mp h1).2;exact (JP nf).mp (e2.trans e1.symm)
theorem GX {γ:Type}{f:α->γ}(hf:∀t∈ts,∀u∈ts,Cn r t u->f t=f u){t:α}(ht:t∈ts):((eJ ts r).map f)[sE ts r t]?=some (f t):=by
 obtain⟨u,h1,h2,h3⟩:=oj (r:=r) ht;rw[au,h1,av,hf u h2 t ht h3]
end
end Td
namespace Lw
open Td
noncomputable abbrev Tr:=Int×List Nat×Int
structure Sb where
 k1:Int
 ar1:Ar
 k2:Int
 ar2:Ar
 pl:List Int
 ws:List (List Nat)
 rows:List Int
 steps:List (List Int)
structure dE (e:Sb):Prop where
 w1:Wf e.k1 e.ar1
 w2:Wf e.k2 e.ar2
 h4:e.k2<=4
 s:mH e.k1 e.ar1 e.k2 e.ar2 e.pl e.ws
 b:dq e.k1 e.ar1 e.rows e.steps
structure qh (e:Sb)(d:Int)(t:Tr):Prop where
 c0:0<=t.1
 c1:t.1<e.k1
 ch:dG e.ar2 (gI e.pl t.1) t.2.1
 en:dj e.ar2 (gI e.pl t.1) t.2.1=d
 x0:0<=t.2.2
 x1:t.2.2<gI e.rows t.1
noncomputable def cj (e:Sb)(d:Int):List Tr:=(aj e.k1.toNat).flatMap fun (c:Nat)=>(fu e.k2 e.ar2 (gI e.pl (c:Int)) d).flatMap fun p=>(aj (gI e.rows (c:Int)).toNat).map fun (x:Nat)=>((c:Int),p,(x:Int))
structure Jd (e:Sb)(d:Int)(t u:Tr)(i:Nat)(a:Int×Int)(w q:List Nat)(s:List Int)(x:Int):Prop where
 ha:e.ar1[i]?=some a
 hw:e.ws[i]?=some w
 hs:e.steps[i]?=some s
 ch:dG e.ar2 (gI e.pl a.2) q
 en:dj e.ar2 (gI e.pl a.2) q=d
 x0:0<=x
 x1:x<gI e.rows a.1
 et:t=(a.1,w++q,x)
 eu:u=(a.2,q,gI s x)
def iy (e:Sb)(d:Int)(t u:Tr):Prop:=∃i a w q s x,Jd e d t u i a w q s x
noncomputable def fs (e:Sb)(d:Int):List Tr:=eJ (cj e d) (iy e d)
noncomputable def ju (e:Sb)(d:Int)(t:Tr):Int:=(sE (cj e d) (iy e d) t:Int)
noncomputable def xw (t:Tr)(q:List Nat):Tr:=(t.1,t.2.1++q,t.2.2)
section
variable {e:Sb}{d:Int}{t u:Tr}
theorem dU (ok:dE e){c:Int}(h0:0<=c)(h1:c<e.k1):0<=gI e.pl c/\gI e.pl c<e.k2:=HV ok.s.len (P:=fun x=>0<=x/\x<e.k2) ok.s.nn h0 h1
theorem eg (ok:dE e):t∈cj e d<->qh e d t:=by
 obtain⟨c,p,x⟩:=t;unfold cj;simp only[List.mem_flatMap,aY,List.mem_map,Prod.mk.injEq];constructor
 ·rintro⟨c',hc,p',hp,x',hx,rfl,rfl,rfl⟩;have pk:=dU ok (c:=(c':Int)) ⋯ ⋯;have:=(ia ok.w2 ok.h4 pk.1 pk.2).mp hp;exact⟨by show (0:Int)<=c';omega,by show (c':Int)<_;omega,this.1,this.2,by show (0:Int)<=x';omega,by show (x':Int)<gI e.rows (c':Int);omega⟩
 ·rintro⟨c0,c1,ch,en,x0,x1⟩;dsimp only at c0 c1 ch en x0 x1;have pk:=dU ok c0 c1;have ec:((c.toNat:Nat):Int)=c:=by omega
  refine⟨c.toNat,by omega,p,?_,x.toNat,?_,ec,rfl,by omega⟩
  ·rw[ec];exact (ia ok.w2 ok.h4 pk.1 pk.2).mpr ⟨ch,en⟩
  ·rw[ec];omega
theorem iU (e:Sb)(d:Int):(cj e d).Nodup:=by
 unfold cj;refine kP (fun t=>t.1.toNat) List.nodup_range (fun c _=>?_) fun c _ t ht=>?_
 ·refine kP (fun t=>t.2.1) nR (fun p _=>?_) fun p _ t ht=>?_
  ·refine List.Pairwise.map _ (fun x y h z=>?_) List.nodup_range;simp only[Prod.mk.injEq,true_and] at z;omega
  ·obtain⟨x,_,rfl⟩:=List.mem_map.mp ht;rfl
 ·obtain⟨p,_,hp⟩:=List.mem_flatMap.mp ht;obtain⟨x,_,rfl⟩:=List.mem_map.mp hp;simp
theorem mV (ok:dE e)(h:iy e d t u):qh e d t/\qh e d u:=by
 obtain⟨i,a,w,q,s,x,ha,hw,hs,ch,en,x0,x1,rfl,rfl⟩:=h;have wa:=ok.w1.ok a (az ha);obtain⟨c1,c2⟩:=ok.s.way i a w ha hw;obtain⟨l,m⟩:=ok.b.st i a s ha hs;have mx:=m _ (jd x0 ⋯);exact⟨⟨wa.1,by show a.1<_;omega,c1.append (by rw[c2];exact ch),by show dj _ _ (w++q)=d;rw[jV _ _ _ c1,c2];exact en,x0,x1⟩,⟨by show 0<=a.2;omega,wa.2.2,ch,en,mx.1,mx.2⟩⟩
theorem wC (ok:dE e)(h:qh e d t):0<=ju e d t/\ju e d t<(fs e d).length:=by
 have:=zj (r:=iy e d) ((eg ok).mpr h);unfold ju fs;omega
theorem E7 (ok:dE e)(h:qh e d t)(g:qh e d u):ju e d t=ju e d u<->Cn (iy e d) t u:=by
 rw[<-zk ((eg ok).mpr h) ((eg ok).mpr g)];unfold ju;omega
theorem Ff (ok:dE e){i:Nat}(h:(fs e d)[i]?=some t):qh e d t/\ju e d t=i:=by
 obtain⟨h1,h2⟩:=pH (iU e d) h;exact⟨(eg ok).mp h1,by unfold ju;rw[h2]⟩
theorem u0 (ok:dE e)(h:t∈fs e d):qh e d t:=by
 obtain⟨i,hi⟩:=JF h;exact (Ff ok hi).1
theorem HP (ok:dE e){n:Int}(h0:0<=n)(h1:n<(fs e d).length):∃t,qh e d t/\ju e d t=n:=by
 have hl:n.toNat<(fs e d).length:=by omega
 obtain⟨h2,h3⟩:=Ff ok (ao hl);exact⟨_,h2,by rw[h3];omega⟩
theorem Fn (ok:dE e){f:Tr->Int}(hf:∀t u,qh e d t->qh e d u->iy e d t u->f t=f u)(h:qh e d t):gI ((fs e d).map f) (ju e d t)=f t:=by
 have g:∀t u,Cn (iy e d) t u->f t=f u:=fun t u c=>c.eq f fun i j r=>hf i j (mV ok r).1 (mV ok r).2 r;have:=GX (r:=iy e d) (f:=f) (fun t _ u _ c=>g t u c) ((eg ok).mpr h);unfold gI ju;rw[aV,ag];unfold fs;rw[this];rfl
theorem HU (h:qh e d t){q:List Nat}(c:dG e.ar2 d q):qh e (dj e.ar2 d q) (xw t q):=by
 obtain⟨c0,c1,ch,en,x0,x1⟩:=h;refine⟨c0,c1,ch.append (by rw[en];exact c),?_,x0,x1⟩;show dj e.ar2 (gI e.pl t.1) (t.2.1++q)=_;rw[jV _ _ _ ch,en]
theorem Gy (h:iy e d t u){q:List Nat}(c:dG e.ar2 d q):iy e (dj e.ar2 d q) (xw t q) (xw u q):=by
 obtain⟨i,a,w,p,s,x,ha,hw,hs,ch,en,x0,x1,rfl,rfl⟩:=h;refine⟨i,a,w,p++q,s,x,ha,hw,hs,ch.append (by rw[en];exact c),?_,x0,x1,?_,rfl⟩
 ·rw[jV _ _ _ ch,en]
 ·show (a.1,(w++p)++q,x)=_;rw[ba]
end
noncomputable def gk (e:Sb):List Int:=(aj e.k2.toNat).map fun (d:Nat)=>((fs e (d:Int)).length:Int)
noncomputable def xi (e:Sb)(p:(Int×Int)×Nat):List Int:=(fs e p.1.1).map fun t=>ju e p.1.2 (xw t [p.2])
noncomputable def iY (e:Sb):List (List Int):=e.ar2.zipIdx.map (xi e)
section
variable {e:Sb}{d:Int}{t u:Tr}
theorem uY {n:Int}(f:Nat->Int){i:Int}(h0:0<=i)(h1:i<n):gI ((aj n.toNat).map f) i=f i.toNat:=by
 unfold gI;rw[ag,au,bc ⋯];rfl
theorem uZ {n:Int}(f:Nat->List Int){i:Int}(h0:0<=i)(h1:i<n):gC ((aj n.toNat).map f) i=f i.toNat:=by
 unfold gC;rw[ag,au,bc ⋯];rfl
theorem jw (h0:0<=d)(h1:d<e.k2):gI (gk e) d=((fs e d).length:Int):=by
 unfold gk;rw[uY _ h0 h1,show ((d.toNat:Nat):Int)=d by omega]
theorem zQ {b:Nat}{a:Int×Int}(h:e.ar2[b]?=some a):(iY e)[b]?=some (xi e (a,b)):=by
 unfold iY;rw[au,bB,h];simp
theorem tj {ar:Ar}{b:Nat}{a:Int×Int}(h:ar[b]?=some a):dG ar a.1 [b]/\dj ar a.1 [b]=a.2:=⟨⟨a,h,rfl,trivial⟩,by rw[fi h,iW]⟩
theorem pF (h:qh e d t){b:Nat}{a:Int×Int}(hb:e.ar2[b]?=some a)(hd:a.1=d):qh e a.2 (xw t [b]):=by
 obtain⟨c,en⟩:=tj hb;subst hd;have:=HU h c;rwa[en] at this
theorem yH (ok:dE e):dq e.k2 e.ar2 (gk e) (iY e):=by
 have w:=ok.w2;refine⟨?_,fun r hr=>?_,?_,fun b a s ha hs=>?_⟩
 ·unfold gk;rw[af,aD];have:=w.lo;omega
 ·obtain⟨n,_,rfl⟩:=List.mem_map.mp hr;omega
 ·unfold iY;rw[af,bF]
 ·rw[zQ ha] at hs;cases hs;have wa:=w.ok a (az ha);rw[jw wa.1 ⋯,jw ⋯ wa.2.2];unfold xi;refine⟨by rw[af],fun x hx=>?_⟩;obtain⟨t,ht,rfl⟩:=List.mem_map.mp hx;exact wC ok (pF (u0 ok ht) ha rfl)
theorem xh (ok:dE e){b:Nat}{a:Int×Int}(hb:e.ar2[b]?=some a)(h:qh e a.1 t):gI ((iY e).getD b []) (ju e a.1 t)=ju e a.2 (xw t [b]):=by
 rw[ag,zQ hb];show gI ((fs e a.1).map fun t=>ju e a.2 (xw t [b])) (ju e a.1 t)=_;refine Fn ok (fun t u ht hu r=>?_) h;obtain⟨c,en⟩:=tj hb;have:=Gy r c;rw[en] at this;exact (E7 ok (pF ht hb rfl) (pF hu hb rfl)).mpr (.one this)
theorem Et (t:Tr):xw t []=t:=by
 unfold xw;rw[bj]
theorem Gz (t:Tr)(p q:List Nat):xw (xw t p) q=xw t (p++q):=by
 unfold xw;rw[ba]
theorem yJ (ok:dE e):∀(q:List Nat) (d:Int) (t:Tr),dG e.ar2 d q->qh e d t->mK (iY e) q (ju e d t)=ju e (dj e.ar2 d q) (xw t q)
 |[],d,t,_,_=>by rw[iW,Et];rfl
 | b::q,d,t,⟨a,g1,g2,g3⟩,h=>by
  subst g2;rw[mK,xh ok g1 h,yJ ok q a.2 _ g3 (pF h g1 rfl),fi g1,Gz];rfl
end
noncomputable def nX (e:Sb):List (List Int):=(aj e.k1.toNat).map fun (c:Nat)=>(aj (gI e.rows (c:Int)).toNat).map fun (x:Nat)=>ju e (gI e.pl (c:Int)) ((c:Int),[],(x:Int))
section
variable {e:Sb}{d:Int}{t u:Tr}
theorem Dh {c x:Int}(h0:0<=c)(h1:c<e.k1)(x0:0<=x)(x1:x<gI e.rows c):gI (gC (nX e) c) x=ju e (gI e.pl c) (c,[],x):=by
 unfold nX;rw[uZ _ h0 h1,show ((c.toNat:Nat):Int)=c by omega,uY _ x0 x1,show ((x.toNat:Nat):Int)=x by omega]
theorem kG {c x:Int}(h0:0<=c)(h1:c<e.k1)(x0:0<=x)(x1:x<gI e.rows c):qh e (gI e.pl c) (c,[],x):=⟨h0,h1,trivial,iW _ _,x0,x1⟩
end
structure kC (k:Int)(ar:Ar)(r1:List Int)(s1:List (List Int))(r2:List Int)(s2 ch:List (List Int)):Prop where
 c:dA k r1 r2 ch
 t:∀(i:Nat) (a:Int×Int),ar[i]?=some a->∀x:Int,0<=x->x<gI r1 a.1->gI (gC ch a.2) (gI (s1.getD i []) x)=gI (s2.getD i []) (gI (gC ch a.1) x)
theorem dA.at_ {k:Int}{r1 r2:List Int}{ch:List (List Int)}(h:dA k r1 r2 ch){c x:Int}(c0:0<=c)(c1:c<k)(x0:0<=x)(x1:x<gI r1 c):0<=gI (gC ch c) x/\gI (gC ch c) x<gI r2 c:=by
 obtain⟨l,m⟩:=h.row c c0 c1;exact m _ (jd x0 ⋯)
theorem B5 {xs ys:List Int}(hl:xs.length=ys.length)(h:∀x:Int,0<=x->x<xs.length->gI xs x=gI ys x):xs=ys:=by
 refine bD fun i=>?_;by_cases hi:i<xs.length
 ·have:=h (i:Int) ⋯ ⋯;unfold gI at this;rw[aV,ag,ag] at this;rw[ao hi,ao ⋯] at this ⊢;exact congrArg some this
 ·rw[aT ⋯,aT ⋯]
theorem pN {k:Int}{r1 r2 r3:List Int}{c1 c2:List (List Int)}(h1:dA k r1 r2 c1)(h2:dA k r1 r3 c2)(h:∀c:Int,0<=c->c<k->∀x:Int,0<=x->x<gI r1 c->gI (gC c1 c) x=gI (gC c2 c) x):c1=c2:=by
 refine bD fun i=>?_;have l1:=h1.len;have l2:=h2.len;by_cases hi:i<c1.length
 ·have e:gC c1 (i:Int)=gC c2 (i:Int):=by
   obtain⟨m1,_⟩:=h1.row (i:Int) ⋯ ⋯;obtain⟨m2,_⟩:=h2.row (i:Int) ⋯ ⋯;exact B5 ⋯ fun x x0 x1=>h (i:Int) ⋯ ⋯ x x0 ⋯
  have g1:=mq (ch:=c1) (i:=(i:Int)) ⋯ ⋯;have g2:=mq (ch:=c2) (i:=(i:Int)) ⋯ ⋯;rw[aV] at g1 g2;rw[g1,g2,e]
 ·rw[aT ⋯,aT ⋯]
theorem yi {k:Int}{ar:Ar}{r1:List Int}{s1:List (List Int)}{r2:List Int}{s2 ch:List (List Int)}(w:Wf k ar)(b:dq k ar r1 s1)(m:kC k ar r1 s1 r2 s2 ch):∀(p:List Nat) (c x:Int),dG ar c p->0<=x->x<gI r1 c->gI (gC ch (dj ar c p)) (mK s1 p x)=mK s2 p (gI (gC ch c) x)
 |[],c,x,_,_,_=>by rw[iW];rfl
 | i::p,c,x,⟨a,g1,g2,g3⟩,x0,x1=>by
  subst g2;obtain⟨s,_,e2,l,mm⟩:=kJ b g1;have q:=mm (gI s x) (jd x0 ⋯);rw[fi g1,mK,mK,<-m.t i a g1 x x0 x1,e2];exact yi w b m p a.2 _ g3 q.1 q.2
noncomputable def Sb.bk (e:Sb)(r:List Int)(s:List (List Int)):Sb:=⟨e.k1,e.ar1,e.k2,e.ar2,e.pl,e.ws,r,s⟩
section
variable {e:Sb}{d:Int}{t u:Tr}{r:List Int}{s ch:List (List Int)}
theorem dE.bk (ok:dE e)(b:dq e.k1 e.ar1 r s):dE (e.bk r s):=⟨ok.w1,ok.w2,ok.h4,ok.s,b⟩
end
section
variable {e:Sb}{d:Int}{t u:Tr}{r:List Int}{s ch:List (List Int)}
theorem uw {k:Int}{r1 r2:List Int}(k0:0<=k)(f:Nat->List Int)(h:∀d:Nat,(d:Int)<k->((f d).length:Int)=gI r1 (d:Int)/\∀x∈f d,0<=x/\x<gI r2 (d:Int)):dA k r1 r2 ((aj k.toNat).map f):=by
 refine⟨by rw[af,aD];omega,fun i i0 i1=>?_⟩;rw[uZ _ i0 i1];have:=h i.toNat ⋯;rwa[show ((i.toNat:Nat):Int)=i by omega] at this
theorem Fj (ok:dE e)(d0:0<=d)(d1:d<e.k2){x:Int}(x0:0<=x)(x1:x<gI (gk e) d):∃t,qh e d t/\ju e d t=x:=by
 rw[jw d0 d1] at x1;exact HP ok x0 x1
end
noncomputable def qW (e:Sb)(s2 ch:List (List Int)):List (List Int):=(aj e.k2.toNat).map fun (d:Nat)=>(fs e (d:Int)).map fun t=>mK s2 t.2.1 (gI (gC ch t.1) t.2.2)
noncomputable abbrev bR (e:Sb)(r2:List Int):List Int:=iw e.pl r2
noncomputable abbrev bS (e:Sb)(r2:List Int)(s2:List (List Int)):List (List Int):=tW e.ar1 e.pl e.ws r2 s2
section
variable {e:Sb}{d:Int}{t u:Tr}{r2:List Int}{s2 ch:List (List Int)}
theorem r8 (ok:dE e){c:Int}(c0:0<=c)(c1:c<e.k1):gI (bR e r2) c=gI r2 (gI e.pl c):=by
 have hl:=ok.s.len;have h:=ml (xs:=e.pl) c0 ⋯;show (e.pl.map (gI r2)).getD c.toNat 0=_;rw[ag,au,h];rfl
theorem Fm (ok:dE e){i:Nat}{a:Int×Int}{w:List Nat}(ha:e.ar1[i]?=some a)(hw:e.ws[i]?=some w){x:Int}(x0:0<=x)(x1:x<gI r2 (gI e.pl a.1)):gI ((bS e r2 s2).getD i []) x=mK s2 w x:=by
 have h:(e.ar1.zip e.ws)[i]?=some (a,w):=List.getElem?_zip_eq_some.mpr ⟨ha,hw⟩;show gI (((e.ar1.zip e.ws).map (nP e.pl r2 s2)).getD i []) x=_;rw[ag,au,h];show gI (nP e.pl r2 s2 (a,w)) x=_;unfold nP;rw[uY _ x0 x1,show ((x.toNat:Nat):Int)=x by omega]
theorem DO (ok:dE e)(m:kC e.k1 e.ar1 e.rows e.steps (bR e r2) (bS e r2 s2) ch)(h:iy e d t u):mK s2 t.2.1 (gI (gC ch t.1) t.2.2)=mK s2 u.2.1 (gI (gC ch u.1) u.2.2):=by
 obtain⟨i,a,w,q,st,x,ha,hw,hs,c,en,x0,x1,rfl,rfl⟩:=h;have wa:=ok.w1.ok a (az ha);have mx:=m.c.at_ wa.1 ⋯ x0 x1;rw[r8 ok wa.1 ⋯] at mx;have:=m.t i a ha x x0 x1;rw[Fm ok ha hw mx.1 mx.2,ag,hs] at this;show mK s2 (w++q) (gI (gC ch a.1) x)=mK s2 q (gI (gC ch a.2) (gI st x));rw[nv,<-this];rfl
theorem FY (ok:dE e)(b2:dq e.k2 e.ar2 r2 s2)(m:dA e.k1 e.rows (bR e r2) ch)(h:qh e d t):0<=mK s2 t.2.1 (gI (gC ch t.1) t.2.2)/\mK s2 t.2.1 (gI (gC ch t.1) t.2.2)<gI r2 d:=by
 obtain⟨c0,c1,c,en,x0,x1⟩:=h;have:=m.at_ c0 c1 x0 x1;rw[r8 ok c0 c1] at this;have:=yq b2 _ _ _ c this.1 this.2;rwa[en] at this
theorem uo (ok:dE e)(m:kC e.k1 e.ar1 e.rows e.steps (bR e r2) (bS e r2 s2) ch)(d0:0<=d)(d1:d<e.k2)(h:qh e d t):gI (gC (qW e s2 ch) d) (ju e d t)=mK s2 t.2.1 (gI (gC ch t.1) t.2.2):=by
 unfold qW;rw[uZ _ d0 d1,show ((d.toNat:Nat):Int)=d by omega];exact Fn ok (f:=fun t=>mK s2 t.2.1 (gI (gC ch t.1) t.2.2)) (fun t u _ _ c=>DO ok m c) h
theorem pA (ok:dE e)(b2:dq e.k2 e.ar2 r2 s2)(m:dA e.k1 e.rows (bR e r2) ch):dA e.k2 (gk e) r2 (qW e s2 ch):=by
 have:=ok.w2.lo;refine uw ⋯ _ fun d hd=>?_;rw[jw ⋯ hd];refine⟨by rw[af],fun x hx=>?_⟩;obtain⟨t,ht,rfl⟩:=List.mem_map.mp hx;exact FY ok b2 m (u0 ok ht)
theorem Ci (s:List (List Int))(p:List Nat)(b:Nat)(x:Int):mK s (p++[b]) x=gI (s.getD b []) (mK s p x):=by
 rw[nv];rfl
theorem FX (ok:dE e)(b2:dq e.k2 e.ar2 r2 s2)(m:kC e.k1 e.ar1 e.rows e.steps (bR e r2) (bS e r2 s2) ch):kC e.k2 e.ar2 (gk e) (iY e) r2 s2 (qW e s2 ch):=by
 refine⟨pA ok b2 m.c,fun i a ha x x0 x1=>?_⟩;have wa:=ok.w2.ok a (az ha);obtain⟨t,ht,rfl⟩:=Fj ok wa.1 (show a.1<e.k2 by omega) x0 x1;rw[xh ok ha ht,uo ok m ⋯ wa.2.2 (pF ht ha rfl),uo ok m wa.1 ⋯ ht];exact Ci _ _ _ _
end
noncomputable def fD (e:Sb)(ch:List (List Int)):List (List Int):=(aj e.k1.toNat).map fun (c:Nat)=>(aj (gI e.rows (c:Int)).toNat).map fun (x:Nat)=>gI (gC ch (gI e.pl (c:Int))) (ju e (gI e.pl (c:Int)) ((c:Int),[],(x:Int)))
section
variable {e:Sb}{d:Int}{t u:Tr}{r2:List Int}{s2 ch:List (List Int)}
theorem oA {c x:Int}(c0:0<=c)(c1:c<e.k1)(x0:0<=x)(x1:x<gI e.rows c):gI (gC (fD e ch) c) x=gI (gC ch (gI e.pl c)) (ju e (gI e.pl c) (c,[],x)):=by
 unfold fD;rw[uZ _ c0 c1,show ((c.toNat:Nat):Int)=c by omega,uY _ x0 x1,show ((x.toNat:Nat):Int)=x by omega]
theorem kT (ok:dE e)(m:dA e.k2 (gk e) r2 ch):dA e.k1 e.rows (bR e r2) (fD e ch):=by
 have:=ok.w1.lo;refine uw ⋯ _ fun c hc=>?_;have pk:=dU ok (c:=(c:Int)) ⋯ hc;have nn:=gZ ok.b.nn (c:Int);refine⟨by rw[af,aD];omega,fun y hy=>?_⟩;obtain⟨x,hx,rfl⟩:=List.mem_map.mp hy;rw[aY] at hx;rw[r8 ok ⋯ hc];have it:=kG (e:=e) (c:=(c:Int)) (x:=(x:Int)) ⋯ hc ⋯ ⋯;have lt:=wC ok it;exact m.at_ pk.1 pk.2 lt.1 (by rw[jw pk.1 pk.2];exact lt.2)
theorem zY (ok:dE e){i:Nat}{a:Int×Int}{w:List Nat}{st:List Int}(ha:e.ar1[i]?=some a)(hw:e.ws[i]?=some w)(hs:e.steps[i]?=some st){x:Int}(x0:0<=x)(x1:x<gI e.rows a.1):ju e (gI e.pl a.2) (a.2,[],gI st x)=mK (iY e) w (ju e (gI e.pl a.1) (a.1,[],x)):=by
 have wa:=ok.w1.ok a (az ha);obtain⟨c1,c2⟩:=ok.s.way i a w ha hw;have it:=kG (e:=e) (c:=a.1) (x:=x) wa.1 ⋯ x0 x1;have r:iy e (gI e.pl a.2) (a.1,w,x) (a.2,[],gI st x):=⟨i,a,w,[],st,x,ha,hw,hs,trivial,iW _ _,x0,x1,by rw[bj],rfl⟩;have ti:=mV ok r;rw[yJ ok w _ _ c1 it,c2];exact ((E7 ok ti.1 ti.2).mpr (.one r)).symm
theorem uN (ok:dE e)(m:kC e.k2 e.ar2 (gk e) (iY e) r2 s2 ch):kC e.k1 e.ar1 e.rows e.steps (bR e r2) (bS e r2 s2) (fD e ch):=by
 refine⟨kT ok m.c,fun i a ha x x0 x1=>?_⟩;have wa:=ok.w1.ok a (az ha);have hl:i<e.ws.length:=by rw[ok.s.wl];exact (List.getElem?_eq_some_iff.mp ha).1
 have hw:=ao hl;obtain⟨c1,c2⟩:=ok.s.way i a _ ha hw;obtain⟨st,h1,h2,l,mm⟩:=kJ ok.b ha;have q:=mm (gI st x) (jd x0 ⋯);have it:=kG (e:=e) (c:=a.1) (x:=x) wa.1 ⋯ x0 x1;have lt:=wC ok it;have pk:=dU ok wa.1 (show a.1<e.k1 by omega);have lt':ju e (gI e.pl a.1) (a.1,[],x)<gI (gk e) (gI e.pl a.1):=by rw[jw pk.1 pk.2];exact lt.2
 have mx:=m.c.at_ pk.1 pk.2 lt.1 lt';have g:=yi ok.w2 (yH ok) m _ _ _ c1 lt.1 lt';rw[c2] at g;rw[h2,oA ⋯ wa.2.2 q.1 q.2,oA wa.1 ⋯ x0 x1,Fm ok ha hw mx.1 mx.2,zY ok ha hw h1 x0 x1,g]
theorem wO (ok:dE e)(b2:dq e.k2 e.ar2 r2 s2)(m:kC e.k1 e.ar1 e.rows e.steps (bR e r2) (bS e r2 s2) ch):fD e (qW e s2 ch)=ch:=by
 refine pN (kT ok (pA ok b2 m.c)) m.c fun c c0 c1 x x0 x1=>?_;have pk:=dU ok c0 c1;rw[oA c0 c1 x0 x1,uo ok m pk.1 pk.2 (kG c0 c1 x0 x1)];rfl
theorem qV (ok:dE e)(b2:dq e.k2 e.ar2 r2 s2)(m:kC e.k2 e.ar2 (gk e) (iY e) r2 s2 ch):qW e s2 (fD e ch)=ch:=by
 refine pN (pA ok b2 (kT ok m.c)) m.c fun d d0 d1 x x0 x1=>?_;obtain⟨t,ht,rfl⟩:=Fj ok d0 d1 x0 x1;rw[uo ok (uN ok m) d0 d1 ht,oA ht.c0 ht.c1 ht.x0 ht.x1];have pk:=dU ok ht.c0 ht.c1;have it:=kG (e:=e) ht.c0 ht.c1 ht.x0 ht.x1;have lt:=wC ok it;rw[<-yi ok.w2 (yH ok) m _ _ _ ht.ch lt.1 (by rw[jw pk.1 pk.2];exact lt.2),ht.en,yJ ok _ _ _ ht.ch it,ht.en];rfl
end
end Lw
namespace Td
noncomputable abbrev jP:=List (Nat×Nat)
inductive jg (ts:jP):Nat->Nat->Prop where
 |refl (i:Nat):jg ts i i
 |tie {i j k:Nat}:(i,j)∈ts->jg ts j k->jg ts i k
 |eit {i j k:Nat}:(j,i)∈ts->jg ts j k->jg ts i k
theorem jg.trans {ts:jP}{i j k:Nat}(h:jg ts i j)(g:jg ts j k):jg ts i k:=by
 induction h with
 |refl=>exact g
 |tie t _ ih=>exact .tie t (ih g)
 |eit t _ ih=>exact .eit t (ih g)
theorem jg.symm {ts:jP}{i j:Nat}(h:jg ts i j):jg ts j i:=by
 induction h with
 |refl=>exact .refl _
 |tie t _ ih=>exact ih.trans (.eit t (.refl _))
 |eit t _ ih=>exact ih.trans (.tie t (.refl _))
theorem jg.one {ts:jP}{i j:Nat}(h:(i,j)∈ts):jg ts i j:=.tie h (.refl _)
noncomputable def mark (m:List Nat)(i:Nat):Nat:=m.getD i 0
theorem fV {m:List Nat}{i j v:Nat}(hi:i<m.length):mark (m.set i v) j=if j=i then v else mark m j:=by
 unfold mark;rw[ag,ag];by_cases h:j=i
 ·subst h;rw[ay hi,if_pos rfl];rfl
 ·rw[ai (Ne.symm h),if_neg h]
structure xq (ts:jP)(n:Nat)(m:List Nat):Prop where
 len:m.length=n
 in_:∀i<n,jg ts i (mark m i)
 le:∀i<n,mark m i<=i
def ic (ts:jP)(m:List Nat):Prop:=∀p∈ts,mark m p.1=mark m p.2
theorem xq.least {ts:jP}{n:Nat}{m:List Nat}(h:xq ts n m)(s:ic ts m){i:Nat}(hi:i<n):jg ts i (mark m i)/\∀j<n,jg ts i j->mark m i<=j:=by
 have same:∀{i j:Nat},jg ts i j->mark m i=mark m j:=fun {i j} c=>by
  induction c with
  |refl=>rfl
  |tie t _ ih=>exact (s _ t).trans ih
  |eit t _ ih=>exact (s _ t).symm.trans ih
 exact⟨h.in_ i hi,fun j hj c=>by rw[same c];exact h.le j hj⟩
noncomputable def lB (m:List Nat)(i:Nat):Bool:=mark m i==i
noncomputable def kY (m:List Nat):List Nat:=(aj m.length).filter (lB m)
noncomputable def lG (m:List Nat)(i:Nat):Nat:=(kY m).idxOf (mark m i)
theorem vb (m:List Nat){i:Nat}(h:i<=m.length):kY m=(aj i).filter (lB m)++(bQ i (m.length-i)).filter (lB m):=by
 unfold kY;have a:=List.range'_append_1 (s:=0) (m:=i) (n:=m.length-i);rw[bE,show i+(m.length-i)=m.length by omega] at a;rw[<-b3,bI,bI,a]
theorem xq.mark_mark {ts:jP}{n:Nat}{m:List Nat}(h:xq ts n m)(s:ic ts m){i:Nat}(hi:i<n):mark m (mark m i)=mark m i:=by
 have l:=h.le i hi;have a:=h.least s hi;have b:=h.least s (i:=mark m i) ⋯;have l2:=h.le (mark m i) ⋯;exact Nat.le_antisymm l2 (a.2 _ ⋯ (a.1.trans b.1))
theorem xq.mem_firsts {ts:jP}{n:Nat}{m:List Nat}(h:xq ts n m)(s:ic ts m){i:Nat}(hi:i<n):mark m i∈kY m:=by
 have l:=h.le i hi;refine List.mem_filter.mpr ⟨List.mem_range.mpr (by rw[h.len];omega),?_⟩;unfold lB;rw[beq_iff_eq];exact h.mark_mark s hi
theorem xq.num_first {ts:jP}{n:Nat}{m:List Nat}(h:xq ts n m)(s:ic ts m){i:Nat}(hi:i<n):(lG m i==((aj i).filter (lB m)).length)=lB m i:=by
 have l:=h.le i hi;have hl:i<m.length:=by rw[h.len];exact hi
 unfold lG;rw[vb m (JY hl)];cases e:lB m i with
 |true =>
  have e':mark m i=i:=by unfold lB at e;exact beq_iff_eq.mp e
  have ni:i∉(aj i).filter (lB m):=fun z=>by
   have:=List.mem_range.mp (List.mem_filter.mp z).1;omega
  have hr:bQ i (m.length-i)=i::bQ (i+1) (m.length-i-1):=by
   rw[show m.length-i=(m.length-i-1)+1 by omega,bZ];rfl
  rw[e',JD,if_neg ni,hr,bJ,if_pos e,List.idxOf_cons_self];simp
 |false =>
  have ne:mark m i≠i:=fun z=>by unfold lB at e;rw[z] at e;simp at e
  have mem:mark m i∈(aj i).filter (lB m):=by
   refine List.mem_filter.mpr ⟨List.mem_range.mpr ⋯,?_⟩;unfold lB;rw[beq_iff_eq];exact h.mark_mark s hi
  rw[JD,if_pos mem];have:=List.idxOf_lt_length_iff.mpr mem;exact beq_eq_false_iff_ne.mpr ⋯
theorem xq.num_lt {ts:jP}{n:Nat}{m:List Nat}(h:xq ts n m)(s:ic ts m){i:Nat}(hi:i<n):lG m i<(kY m).length:=List.idxOf_lt_length_iff.mpr (h.mem_firsts s hi)
theorem xq.num_eq {ts:jP}{n:Nat}{m:List Nat}(h:xq ts n m)(s:ic ts m){i j:Nat}(hi:i<n)(hj:j<n):lG m i=lG m j<->jg ts i j:=by
 have e:mark m i=mark m j<->jg ts i j:=by
  have same:∀{i j:Nat},jg ts i j->mark m i=mark m j:=fun {i j} c=>by
   induction c with
   |refl=>rfl
   |tie t _ ih=>exact (s _ t).trans ih
   |eit t _ ih=>exact (s _ t).symm.trans ih
  exact⟨fun e=>(h.in_ i hi).trans (e▸(h.in_ j hj).symm),same⟩
 rw[<-e];refine⟨fun q=>?_,fun q=>by unfold lG;rw[q]⟩;have a:=h.mem_firsts s hi;have b:=h.mem_firsts s hj;have ga:=bA (List.idxOf_lt_length_iff.mpr a);have gb:=bA (List.idxOf_lt_length_iff.mpr b);unfold lG at q;rw[<-ga,<-gb];simp only[q]
structure r9 {α:Type}(ts:List α)(r:α->α->Prop)(its:jP):Prop where
 nd:ts.Nodup
 inn:∀p∈its,p.1<ts.length/\p.2<ts.length
 to:∀p∈its,∀t u,ts[p.1]?=some t->ts[p.2]?=some u->r t u
 fro:∀t u,r t u->∃p∈its,ts[p.1]?=some t/\ts[p.2]?=some u
section
variable {α:Type}{ts:List α}{r:α->α->Prop}{its:jP}
theorem vt (nd:ts.Nodup){i j:Nat}{t:α}(hi:ts[i]?=some t)(hj:ts[j]?=some t):i=j:=by
 obtain⟨a,ea⟩:=List.getElem?_eq_some_iff.mp hi;obtain⟨b,eb⟩:=List.getElem?_eq_some_iff.mp hj;exact (JP nd).mp (ea.trans eb.symm)
theorem r9.conn (h:r9 ts r its){i j:Nat}(c:jg its i j):∀t u,ts[i]?=some t->ts[j]?=some u->Cn r t u:=by
 induction c with
 |refl i =>
  intro t u ht hu;rw[ht] at hu;cases hu;exact .refl _
 |@tie i j k p _ ih =>
  intro t u ht hu;have e:=ao (h.inn _ p).2;exact .tie (h.to _ p _ _ ht e) (ih _ _ e hu)
 |@eit i j k p _ ih =>
  intro t u ht hu;have e:=ao (h.inn _ p).1;exact .eit (h.to _ p _ _ e ht) (ih _ _ e hu)
theorem r9.cn (h:r9 ts r its){t u:α}(c:Cn r t u):∀i j,ts[i]?=some t->ts[j]?=some u->jg its i j:=by
 induction c with
 |refl t =>
  intro i j hi hj;rw[vt h.nd hi hj];exact .refl _
 |@tie t v u q _ ih =>
  intro i j hi hj;obtain⟨p,hp,h1,h2⟩:=h.fro _ _ q;rw[vt h.nd hi h1];exact .tie hp (ih _ _ h2 hj)
 |@eit t v u q _ ih =>
  intro i j hi hj;obtain⟨p,hp,h1,h2⟩:=h.fro _ _ q;rw[vt h.nd hi h2];exact .eit hp (ih _ _ h1 hj)
variable [DecidableEq α]
theorem uO (nd:ts.Nodup){i:Nat}{t:α}(h:ts[i]?=some t):ts.idxOf t=i:=by
 have hm:=az h;have hl:=List.idxOf_lt_length_iff.mpr hm;have:=bA hl;exact vt nd (by rw[ao hl,this]) h
theorem r9.first (h:r9 ts r its){m:List Nat}(w:xq its ts.length m)(s:ic its m){i:Nat}{t:α}(hi:ts[i]?=some t):fh ts r t=lB m i:=by
 have hl:=(List.getElem?_eq_some_iff.mp hi).1;have le:=w.le i hl;have ls:=w.least s hl;rw[Bool.eq_iff_iff,ny,lB,beq_iff_eq];constructor
 ·intro q;have e:=ao (show mark m i<ts.length by omega);have:=q _ (az e) (h.conn ls.1.symm _ _ e hi);rw[uO h.nd hi,uO h.nd e] at this;omega
 ·intro q u hu c;obtain⟨j,hj⟩:=JF hu;have jl:=(List.getElem?_eq_some_iff.mp hj).1;rw[uO h.nd hi,uO h.nd hj];have:=ls.2 j jl (h.cn c.symm _ _ hi hj);omega
theorem tH {f:α->Bool}{g:Nat->Bool}:∀(l:List α) (n:Nat),(∀(i:Nat) (t:α),l[i]?=some t->f t=g (n+i))->(l.filter f).map some=((bQ n l.length).filter g).map fun i=>l[i-n]?
 |[],n,_=>rfl
 | a::l,n,h=>by
  have h0:=h 0 a rfl;have ih:=tH (f:=f) (g:=g) l (n+1) fun i t e=>by
   have:=h (i+1) t (by simpa using e);rw[this];congr 1;omega
  have tail:((bQ (n+1) l.length).filter g).map (fun i=>l[i-(n+1)]?)=((bQ (n+1) l.length).filter g).map fun i=>(a::l)[i-n]?:=by
   refine List.map_congr_left fun i hi=>?_;have:=(List.mem_range'_1.mp (List.mem_filter.mp hi).1).1;rw[show i-n=(i-(n+1))+1 by omega,aK]
  rw[aJ,bZ,bJ,bJ,h0,Nat.add_zero];cases g n with
  |true =>
   rw[if_pos rfl,if_pos rfl,aA,aA,ih,tail];simp
  |false =>
   rw[if_neg Bool.false_ne_true,if_neg Bool.false_ne_true,ih,tail]
theorem r9.firsts_eq (h:r9 ts r its){m:List Nat}(w:xq its ts.length m)(s:ic its m):(eJ ts r).map some=(kY m).map fun i=>ts[i]?:=by
 have:=tH (f:=fh ts r) (g:=lB m) ts 0 fun i t e=>by rw[bE];exact h.first w s e
 unfold eJ kY;rw[this,w.len,bI];rfl
theorem r9.num_eq (h:r9 ts r its){m:List Nat}(w:xq its ts.length m)(s:ic its m){i:Nat}{t:α}(hi:ts[i]?=some t):sE ts r t=lG m i:=by
 have hl:=(List.getElem?_eq_some_iff.mp hi).1;have le:=w.le i hl;have ls:=w.least s hl;have e:=ao (show mark m i<ts.length by omega);have hf:=h.firsts_eq w s;have nl:=w.num_lt s hl;have g:(kY m)[lG m i]?=some (mark m i):=by
  have:=bA nl;exact (ao nl).trans (congrArg some this)
 have g2:(eJ ts r)[lG m i]?=some ts[mark m i]:=by
  have x:((eJ ts r).map some)[lG m i]?=((kY m).map fun i=>ts[i]?)[lG m i]?:=by rw[hf]
  rw[au,au,g,av,e] at x;cases y:(eJ ts r)[lG m i]? with
  |none=>rw[y] at x;cases x
  |some z=>rw[y] at x;cases x;rfl
 have f:=pH h.nd g2;rw[<-f.2];exact (zk (az hi) f.1).mpr (h.conn ls.1 _ _ hi e)
end
end Td
namespace Lw
open PySem DL Td
open PySem.Spec (same same_self)
noncomputable def cS (t:Tr):D:=.tuple [.int t.1,ck t.2.1,.int t.2.2]
theorem B7 (p:List Nat)(n:Nat):wK (p.map oB) n=true:=by
 induction p with
 |nil=>rfl
 |cons a p ih=>rw[aA,wK,ih];rfl
theorem nY (t:Tr):gj (cS t)=true:=by
 simp[gj,cS,wK,C6,ck,B7]
theorem BW (t:Tr):Nb 2 (cS t):=.tuple (.cons (.int 1 _) (.cons (uC t.2.1) (.cons (.int 1 _) .nil)))
theorem Di {t u:Tr}(h:cS t=cS u):t=u:=by
 obtain⟨c,p,x⟩:=t;obtain⟨c',p',x'⟩:=u;unfold cS at h;simp only[PyData.tuple.injEq,List.cons.injEq,PyData.int.injEq,and_true] at h;obtain⟨h1,h2,h3⟩:=h;rw[h1,Aq h2,h3]
theorem Bu (t u:Tr):same (cS t) (cS u)=decide (t=u):=by
 by_cases h:t=u
 ·rw[h,decide_eq_true rfl];exact same_self _
 ·rw[decide_eq_false h];exact Bool.eq_false_iff.mpr fun q=>h (Di ((BW t).eq (BW u) q))
noncomputable def lY (ts:List Tr)(f:Tr->D):List (D×D):=ts.map fun t=>(cS t,f t)
theorem mD (ts:List Tr)(f:Tr->D):fS (lY ts f)=true:=by
 unfold fS lY;rw[List.all_map,bp];exact fun t _=>nY t
theorem rz {ts:List Tr}{f:Tr->D}{t:Tr}:pZ (lY ts f) (cS t)=if t∈ts then some (f t) else none:=by
 unfold lY pZ;induction ts with
 |nil=>rfl
 |cons u ts ih =>
  rw[aA,JB];dsimp only;rw[Bu];by_cases h:u=t
  ·subst h;simp
  ·rw[decide_eq_false h];dsimp only;rw[ih];have:t∈u::ts<->t∈ts:=by simp[Ne.symm h]
   simp only[this]
theorem zi {ts:List Tr}{f:Tr->D}{t:Tr}{v:D}(h:t∉ts):sM (lY ts f) (cS t) v=lY ts f++[(cS t,v)]:=by
 unfold sM;rw[rz,if_neg h,if_neg (by simp)]
noncomputable def mN (e:Sb)(d:Int):List (Tr×Tr):=e.ar1.zipIdx.flatMap fun p=>(fu e.k2 e.ar2 (gI e.pl p.1.2) d).flatMap fun q=>(aj (gI e.rows p.1.1).toNat).map fun (x:Nat)=>((p.1.1,e.ws.getD p.2 []++q,(x:Int)),(p.1.2,q,gI (e.steps.getD p.2 []) (x:Int)))
theorem lQ {e:Sb}{d:Int}(ok:dE e){t u:Tr}:(t,u)∈mN e d<->iy e d t u:=by
 unfold mN;simp only[List.mem_flatMap,List.mem_map,aY,Prod.mk.injEq];constructor
 ·rintro⟨⟨a,i⟩,hp,q,hq,x,hx,e1,e2⟩;have ha:e.ar1[i]?=some a:=List.mem_zipIdx_iff_getElem?.mp hp;have wa:=ok.w1.ok a (az ha);have pk:=dU ok (show 0<=a.2 by omega) wa.2.2;have hl:i<e.ws.length:=by rw[ok.s.wl];exact (List.getElem?_eq_some_iff.mp ha).1
  have hw:=ao hl;obtain⟨s,h1,h2,_,_⟩:=kJ ok.b ha;have:=(ia ok.w2 ok.h4 pk.1 pk.2).mp hq;have n0:=gZ ok.b.nn a.1;dsimp only at hx e1 e2;refine⟨i,a,_,q,s,(x:Int),ha,hw,h1,this.1,this.2,by omega,by omega,?_,?_⟩
  ·rw[<-e1,ag,hw];rfl
  ·rw[<-e2,h2]
 ·rintro⟨i,a,w,q,s,x,ha,hw,hs,ch,en,x0,x1,rfl,rfl⟩;have wa:=ok.w1.ok a (az ha);have pk:=dU ok (show 0<=a.2 by omega) wa.2.2;have ex:((x.toNat:Nat):Int)=x:=by omega
  refine⟨(a,i),List.mem_zipIdx_iff_getElem?.mpr ha,q,(ia ok.w2 ok.h4 pk.1 pk.2).mpr ⟨ch,en⟩,x.toNat,by dsimp only;omega,?_,?_⟩
  ·rw[ex,ag,hw];rfl
  ·rw[ex,ag,hs];rfl
theorem wc {p q:List Nat}(h:p.length+q.length<=1000000):eD (ck p) (ck q)=some (ck (p++q),false):=by
 have hz:(p.map oB).length+(q.map oB).length<=sizeLine:=tZ (by rw[af,af];exact h);unfold ck eD;dsimp only;rw[if_pos hz,<-aX]
structure mL (e:Sb):Prop where
 k1:e.k1<=4
 a1:e.ar1.length<=5
 a2:e.ar2.length<=5
 rw:∀r∈e.rows,r<=1000
theorem Ii {f g:ED}{x y:D}{o o':Bool}{ρ:Sl}(h1:f ρ=some (x,o))(h2:g ρ=some (y,o')):dM (b4 f (b4 g cv)) ρ=some (.tuple [x,y],false):=by
 simp[dM,b4,cv,h1,h2,C4]
theorem w9 {f g h:ED}{x y z:D}{o o' o'':Bool}{ρ:Sl}(h1:f ρ=some (x,o))(h2:g ρ=some (y,o'))(h3:h ρ=some (z,o'')):dM (b4 f (b4 g (b4 h cv))) ρ=some (.tuple [x,y,z],false):=by
 simp[dM,b4,cv,h1,h2,h3,Jv]
section
variable {e:Sb}{d:Int}
noncomputable abbrev gR (e:Sb):D:=cc e.k1 e.ar1
noncomputable abbrev jb (e:Sb):D:=cc e.k2 e.ar2
noncomputable abbrev iu (e:Sb):D:=dZ e.pl e.ws
noncomputable abbrev il (e:Sb):D:=cu e.rows e.steps
noncomputable def lu (e:Sb)(p:(Int×Int)×Nat)(q:List Nat)(x:Nat):Tr×Tr:=((p.1.1,e.ws.getD p.2 []++q,(x:Int)),(p.1.2,q,gI (e.steps.getD p.2 []) (x:Int)))
end
theorem qq {α:Type}{g:GD}{b:SD}{d:α->D}{P:List α->Sl->Prop}(whole:List α):∀(l pre:List α) (ρ:Sl),pre++l=whole->P pre ρ->(∀pre x post ρ,pre++x::post=whole->P pre ρ->∃ρ1 ρ2,g (d x) ρ=some ρ1/\b ρ1=some (.next ρ2)/\P (pre++[x]) ρ2)->∃ρ',eA g b (l.map d) ρ=some (.next ρ')/\P whole ρ'
 |[],pre,ρ,e,h,_=>⟨ρ,rfl,by rw[bj] at e;rw[<-e];exact h⟩
 | x::l,pre,ρ,e,h,k=>by
  obtain⟨ρ1,ρ2,h1,h2,h3⟩:=k pre x l ρ e h;obtain⟨ρ',h4,h5⟩:=qq (g:=g) (b:=b) whole l (pre++[x]) ρ2 (by rw[ba];exact e) h3 k;exact⟨ρ',by rw[aA,kz h1 h2];exact h4,h5⟩
noncomputable def dQ (acc:List Tr):List (D×D):=lY acc fun t=>.int (acc.idxOf t:Int)
theorem yg (acc:List Tr):(dQ acc).length=acc.length:=by unfold dQ lY;rw[af]
theorem wF {acc:List Tr}{t:Tr}(h:t∉acc):sM (dQ acc) (cS t) (.int (acc.length:Int))=dQ (acc++[t]):=by
 unfold dQ;rw[zi h];unfold lY;rw[aX,List.map_singleton];congr 1
 ·refine List.map_congr_left fun u hu=>?_;dsimp only;rw[JD,if_pos hu]
 ·dsimp only;rw[JD,if_neg h,List.idxOf_cons_self,bE]
theorem FE (t:Tr):oq (cS t)=true:=by
 have:jL (t.2.1.map oB)=true:=by
  induction t.2.1 with
  |nil=>rfl
  |cons a p ih=>rw[aA,jL,ih];rfl
 simp[cS,oq,jL,ck,this]
def Pl (s:Option Vl):Prop:=∀c,s≠some (mJ c,true)
theorem DK:Pl none:=fun c h=>by cases h
theorem HG {x:D}:Pl (some (x,false)):=fun c h=>by cases h
theorem AB {ρ:Sl}(h:∀s∈ρ,Pl s):pE ρ=true:=by
 unfold pE;rw[bp];intro s hs;split
 ·exact absurd rfl (h _ hs _)
 ·rfl
section
variable {e:Sb}{d:Int}
noncomputable abbrev IU (kvs:List (D×D)):Option Vl:=some (mJ (.dict kvs),true)
end
theorem iL {ts:List Tr}{t:Tr}(h:t∈ts):ts.idxOf t<ts.length:=List.idxOf_lt_length_iff.mpr h
theorem D8 (a b:Nat):ya (.int (a:Int)) (.int (b:Int))=some (.int ((min a b:Nat):Int),false):=by
 unfold ya;dsimp only;by_cases h:(b:Int)<(a:Int)
 ·rw[if_pos h,Nat.min_eq_right ⋯]
 ·rw[if_neg h,JT ⋯]
section
variable {e:Sb}{d:Int}
noncomputable def nh (e:Sb)(d:Int):jP:=(mN e d).map fun p=>((cj e d).idxOf p.1,(cj e d).idxOf p.2)
theorem B9 (ok:dE e):∀p∈nh e d,p.1<(cj e d).length/\p.2<(cj e d).length:=fun p hp=>by
 obtain⟨q,hq,rfl⟩:=List.mem_map.mp hp;have:=mV ok ((lQ ok).mp hq);exact⟨iL ((eg ok).mpr this.1),iL ((eg ok).mpr this.2)⟩
theorem Dj (ok:dE e):r9 (cj e d) (iy e d) (nh e d):=by
 refine⟨iU e d,B9 ok,fun p hp t u ht hu=>?_,fun t u r=>?_⟩
 ·obtain⟨q,hq,rfl⟩:=List.mem_map.mp hp;have ti:=mV ok ((lQ ok).mp hq);have m1:=(eg ok).mpr ti.1;have m2:=(eg ok).mpr ti.2;have e1:t=q.1:=by
   have:=bA (iL m1);rw[ao (iL m1),this] at ht;exact (Option.some.inj ht).symm
  have e2:u=q.2:=by
   have:=bA (iL m2);rw[ao (iL m2),this] at hu;exact (Option.some.inj hu).symm
  rw[e1,e2];exact (lQ ok).mp hq
 ·have ti:=mV ok r;have m1:=(eg ok).mpr ti.1;have m2:=(eg ok).mpr ti.2;refine⟨_,List.mem_map_of_mem ((lQ ok).mpr r),?_,?_⟩
  ·rw[ao (iL m1)];exact congrArg some (bA (iL m1))
  ·rw[ao (iL m2)];exact congrArg some (bA (iL m2))
end
section
variable {e:Sb}{d:Int}
noncomputable def eT (e:Sb)(d:Int):List (D×D):=lY (cj e d) fun t=>.int (ju e d t)
end
end Lw
namespace Td
section
variable {α:Type}[DecidableEq α]{ts:List α}{r:α->α->Prop}
theorem yv (nd:ts.Nodup){pre post:List α}{t:α}(hw:pre++t::post=ts):sE ts r t=(pre.filter (fh ts r)).length<->fh ts r t=true:=by
 have ht:t∈ts:=hw▸by simp
 have sp:eJ ts r=pre.filter (fh ts r)++(t::post).filter (fh ts r):=by
  unfold eJ;rw[<-b3,hw]
 constructor
 ·intro h;obtain⟨u,h1,h2,h3⟩:=oj (r:=r) ht;rw[sp,h,aN (aB _),JX] at h1;have hu:u∈(t::post).filter (fh ts r):=az h1;obtain⟨hu1,hu2⟩:=List.mem_filter.mp hu;have le:=ny.mp hu2 t ht h3.symm;have np:∀x∈t::post,x∉pre:=fun x hx z=>(List.nodup_append.mp (hw▸nd:(pre++t::post).Nodup)).2.2 x z x hx rfl;have i1:ts.idxOf t=pre.length:=by rw[<-hw,JD,if_neg (np t (by simp)),List.idxOf_cons_self,bE]
  have i2:ts.idxOf u=(t::post).idxOf u+pre.length:=by rw[<-hw,JD,if_neg (np u hu1)]
  have:(t::post).idxOf u=0:=by omega
  rw[List.idxOf_cons] at this;cases e:t==u with
  |true=>rw[eq_of_beq e];exact hu2
  |false=>rw[e] at this;simp at this
 ·intro h;refine (pH nd (i:=(pre.filter (fh ts r)).length) ?_).2;rw[sp,aN (aB _),JX,bJ,if_pos h];rfl
end
end Td
namespace Lw
open PySem DL Td
section
variable {e:Sb}{d:Int}
def lD (e:Sb):Prop:=∀d:Int,0<=d->d<e.k2->(cj e d).length<64/\(mN e d).length<=1000000
noncomputable def jN (e:Sb):D:=.list ((aj e.k2.toNat).map fun (d:Nat)=>.dict (eT e (d:Int)))
theorem HR {t:Tr}(ok:dE e)(h:qh e d t):pD (.dict (eT e d)) (cS t)=some (.int (ju e d t),false):=by
 unfold pD;dsimp only;rw[show fS (eT e d)=true from mD _ _,nY,if_pos (by rfl)];unfold eT;rw[rz,if_pos ((eg ok).mpr h)];rfl
end
section
variable {e:Sb}{d:Int}
theorem zJ (e:Sb){d:Int}(h0:0<=d)(h1:d<e.k2):cL (jN e) (.int d)=some (.dict (eT e d),false):=by
 unfold jN cL;dsimp only;rw[oz h0 (d:=.dict (eT e d)) (by rw[au,bc ⋯,av,show ((d.toNat:Nat):Int)=d by omega])];rfl
noncomputable def HY (e:Sb):D:=.list ((aj e.k2.toNat).map fun (d:Nat)=>.list ((fs e (d:Int)).map cS))
theorem HX (e:Sb){d:Int}(h0:0<=d)(h1:d<e.k2):cL (HY e) (.int d)=some (.list ((fs e d).map cS),false):=by
 unfold HY cL;dsimp only;rw[oz h0 (d:=.list ((fs e d).map cS)) (by rw[au,bc ⋯,av,show ((d.toNat:Nat):Int)=d by omega])];rfl
theorem va (e:Sb)(d:Int):(fs e d).length<=(cj e d).length:=JO _ _
theorem Ap {p:List Nat}(b:Nat)(h:p.length<=4):eD (ck p) (.tuple [.int (b:Int)])=some (ck (p++[b]),false):=wc (p:=p) (q:=[b]) (by simp;omega)
theorem qG (ok:dE e){t:Tr}(h:qh e d t):t.2.1.length<=4:=by
 have pk:=dU ok h.c0 h.c1;have:=mF ok.w2 pk.1 pk.2 h.ch;have:=ok.h4;omega
noncomputable def zZ (e:Sb)(p:Int×Nat):List Int:=(aj (gI e.rows (p.2:Int)).toNat).map fun (x:Nat)=>ju e p.1 ((p.2:Int),[],(x:Int))
theorem Fx (ok:dE e):e.pl.zipIdx.map (zZ e)=nX e:=by
 have l:=ok.s.len;unfold nX;refine bD fun i=>?_;rw[au,au,bB];by_cases hi:i<e.pl.length
 ·rw[ao hi,bc ⋯];have pg:gI e.pl (i:Int)=e.pl[i]:=by
   unfold gI;rw[aV,ag,ao hi];rfl
  show some (zZ e (e.pl[i],0+i))=_;rw[bE,<-pg];rfl
 ·rw[aT ⋯,aT (by rw[aD];omega)];rfl
end
end Lw
namespace Td
structure Uf (n:Nat)(h:List Nat):Prop where
 len:h.length=n
 le:∀i<n,mark h i<=i
inductive Rt (h:List Nat):Nat->Nat->Prop where
 |here {i:Nat}:mark h i=i->Rt h i i
 |up {i r:Nat}:mark h i≠i->Rt h (mark h i) r->Rt h i r
theorem Rt.one {h:List Nat}{i r s:Nat}(a:Rt h i r)(b:Rt h i s):r=s:=by
 induction a with
 |here e =>
  cases b with
  |here _=>rfl
  |up ne _=>exact absurd e ne
 |up ne _ ih =>
  cases b with
  |here e=>exact absurd e ne
  |up _ b=>exact ih b
theorem Rt.fix {h:List Nat}{i r:Nat}(a:Rt h i r):mark h r=r:=by
 induction a with
 |here e=>exact e
 |up _ _ ih=>exact ih
section
variable {n:Nat}{h:List Nat}
theorem Uf.has (u:Uf n h):∀i<n,∃r,Rt h i r/\r<=i:=by
 intro i;induction i using Nat.strongRecOn with
 |_ i ih =>
  intro hi;by_cases e:mark h i=i
  ·exact⟨i,.here e,aB _⟩
  ·have l:=u.le i hi;obtain⟨r,a,b⟩:=ih (mark h i) ⋯ ⋯;exact⟨r,.up e a,by omega⟩
theorem Uf.le_of (u:Uf n h){i r:Nat}(hi:i<n)(a:Rt h i r):r<=i:=by
 obtain⟨s,b,l⟩:=u.has i hi;rw[a.one b];exact l
theorem Uf.range (n:Nat):Uf n (aj n):=⟨aD,fun i hi=>by
 unfold mark;rw[ag,bc hi];exact aB _⟩
theorem Uf.half (u:Uf n h){s:Nat}(hs:s<n)(ne:mark h s≠s):Uf n (h.set s (mark h (mark h s)))/\∀i r,Rt h i r->Rt (h.set s (mark h (mark h s))) i r:=by
 have l:=u.le s hs;have l2:=u.le (mark h s) ⋯;have hl:s<h.length:=by rw[u.len];exact hs
 refine⟨⟨by rw[bf];exact u.len,fun i hi=>?_⟩,fun i r a=>?_⟩
 ·rw[fV hl];split
  ·omega
  ·exact u.le i hi
 ·induction a with
  |@here i e =>
   refine .here ?_;rw[fV hl,if_neg (fun z=>ne (by rw[<-z];exact e))];exact e
  |@up i r ne' a ih =>
   by_cases z:i=s
   ·subst z;have e:mark (h.set i (mark h (mark h i))) i=mark h (mark h i):=by rw[fV hl,if_pos rfl]
    have ep:mark (h.set i (mark h (mark h i))) (mark h i)=mark h (mark h i):=by rw[fV hl,if_neg ne]
    refine .up (by rw[e];omega) ?_;rw[e];generalize hg:mark h (mark h i)=g at *;cases ih with
    |here q=>rw[ep] at q;subst q;exact .here ep
    |up _ b=>rw[ep] at b;exact b
   ·have e:mark (h.set s (mark h (mark h s))) i=mark h i:=by rw[fV hl,if_neg z]
    exact .up (by rw[e];exact ne') (by rw[e];exact ih)
theorem Uf.tie (u:Uf n h){p q:Nat}(hp:p<n)(hq:q<n)(fp:mark h p=p)(fq:mark h q=q):Uf n (h.set (max p q) (min p q))/\∀i r,Rt h i r->Rt (h.set (max p q) (min p q)) i (if r=max p q then min p q else r):=by
 have hm:max p q<h.length:=by rw[u.len];omega
 have fm:mark h (max p q)=max p q:=by rcases Nat.le_total p q with z|z <;> simp[z,fp,fq]
 have fn:mark h (min p q)=min p q:=by rcases Nat.le_total p q with z|z <;> simp[z,fp,fq]
 refine⟨⟨by rw[bf];exact u.len,fun i hi=>?_⟩,fun i r a=>?_⟩
 ·rw[fV hm];split
  ·omega
  ·exact u.le i hi
 ·induction a with
  |@here i e =>
   by_cases z:i=max p q
   ·rw[if_pos z];have e2:mark (h.set (max p q) (min p q)) i=min p q:=by rw[fV hm,if_pos z]
    by_cases y:min p q=max p q
    ·have:i=min p q:=by omega
     rw[this] at e2 ⊢;exact .here e2
    ·refine .up (by rw[e2];omega) ?_;rw[e2];refine .here ?_;rw[fV hm,if_neg y];exact fn
   ·rw[if_neg z];refine .here ?_;rw[fV hm,if_neg z];exact e
  |@up i r ne a ih =>
   have z:i≠max p q:=fun z=>ne (by rw[z];exact fm);have e:mark (h.set (max p q) (min p q)) i=mark h i:=by rw[fV hm,if_neg z]
   exact .up (by rw[e];exact ne) (by rw[e];exact ih)
end
structure tX (its done:jP)(n:Nat)(h:List Nat):Prop where
 u:Uf n h
 cn:∀i<n,∀r,Rt h i r->jg its i r
 dn:∀p∈done,∃r,Rt h p.1 r/\Rt h p.2 r
theorem tX.start (its:jP)(n:Nat):tX its [] n (aj n):=by
 refine⟨.range n,fun i hi r a=>?_,fun p hp=>nomatch hp⟩;have e:mark (aj n) i=i:=by
  unfold mark;rw[ag,bc hi];rfl
 cases a with
 |here _=>exact .refl _
 |up ne _=>exact absurd e ne
theorem tX.same {its done:jP}{n:Nat}{h h':List Nat}(t:tX its done n h)(inn:∀p∈done,p.1<n/\p.2<n)(u:Uf n h')(k:∀i r,Rt h i r->Rt h' i r):tX its done n h':=by
 refine⟨u,fun i hi r a=>?_,fun p hp=>?_⟩
 ·obtain⟨s,b,_⟩:=t.u.has i hi;rw[a.one (k i s b)];exact t.cn i hi s b
 ·obtain⟨r,a,b⟩:=t.dn p hp;exact⟨r,k _ _ a,k _ _ b⟩
theorem tX.tie {its done:jP}{n:Nat}{h:List Nat}(t:tX its done n h){a b p q:Nat}(hm:(a,b)∈its)(ha:a<n)(hb:b<n)(ra:Rt h a p)(rb:Rt h b q):tX its (done++[(a,b)]) n (h.set (max p q) (min p q)):=by
 have lp:=t.u.le_of ha ra;have lq:=t.u.le_of hb rb;obtain⟨u',k⟩:=t.u.tie (p:=p) (q:=q) ⋯ ⋯ ra.fix rb.fix;refine⟨u',fun i hi r c=>?_,fun x hx=>?_⟩
 ·obtain⟨s,d,_⟩:=t.u.has i hi;rw[c.one (k i s d)];have cs:=t.cn i hi s d;split
  ·rename_i z;subst z;have cpq:jg its p q:=((t.cn a ha p ra).symm.trans (.one hm)).trans (t.cn b hb q rb);rcases Nat.le_total p q with z|z
   ·rw[Nat.max_eq_right z] at cs;rw[JT z];exact cs.trans cpq.symm
   ·rw[Nat.max_eq_left z] at cs;rw[Nat.min_eq_right z];exact cs.trans cpq
  ·exact cs
 ·rcases List.mem_append.mp hx with z|z
  ·obtain⟨r,c,d⟩:=t.dn x z;exact⟨_,k _ _ c,k _ _ d⟩
  ·have z':=List.mem_singleton.mp z;subst z';refine⟨min p q,?_,?_⟩
   ·have:=k _ _ ra;split at this
    ·exact this
    ·rename_i y;rcases Nat.le_total p q with w|w
     ·have e:=JT w;generalize min p q=x at *;subst e;exact this
     ·exact absurd (Nat.max_eq_left w).symm y
   ·have:=k _ _ rb;split at this
    ·exact this
    ·rename_i y;rcases Nat.le_total p q with w|w
     ·exact absurd (Nat.max_eq_right w).symm y
     ·have e:=Nat.min_eq_right w;generalize min p q=x at *;subst e;exact this
noncomputable def vZ:Nat->List Nat->Nat->Nat
 |0,_,i=>i
 |f+1,h,i=>if mark h i=i then i else vZ f h (mark h i)
theorem vY {n:Nat}{h:List Nat}(u:Uf n h):∀(f i:Nat),i<n->i<f->Rt h i (vZ f h i)
 |0,_,_,hf=>by omega
 | f+1,i,hi,hf=>by
  unfold vZ;split
  ·rename_i e;exact .here e
  ·rename_i ne;have l:=u.le i hi;exact .up ne (vY u f (mark h i) ⋯ ⋯)
noncomputable def fc (n:Nat)(h:List Nat):List Nat:=(aj n).map fun i=>vZ n h i
theorem Ai {n:Nat}(h:List Nat){i:Nat}(hi:i<n):mark (fc n h) i=vZ n h i:=by
 unfold mark fc;rw[ag,au,bc hi];rfl
theorem Rt.mark {n:Nat}{h:List Nat}(u:Uf n h){i r:Nat}(hi:i<n)(a:Rt h i r):Td.mark (fc n h) i=r:=by
 rw[Ai h hi];exact (vY u n i hi hi).one a
theorem tX.way {its:jP}{n:Nat}{h:List Nat}(t:tX its its n h)(inn:∀p∈its,p.1<n/\p.2<n):xq its n (fc n h)/\ic its (fc n h):=by
 refine⟨⟨by unfold fc;rw[af,aD],fun i hi=>?_,fun i hi=>?_⟩,fun p hp=>?_⟩
 ·obtain⟨r,a,_⟩:=t.u.has i hi;rw[a.mark t.u hi];exact t.cn i hi r a
 ·obtain⟨r,a,l⟩:=t.u.has i hi;rw[a.mark t.u hi];exact l
 ·obtain⟨r,a,b⟩:=t.dn p hp;rw[a.mark t.u (inn p hp).1,b.mark t.u (inn p hp).2]
end Td
namespace Lw
open PySem DL
theorem tL {k kind:Int}{ar:Ar}{p:List Nat}(h:ig ar p):fO [cc k ar,.int kind,ck p]=some (.int (dj ar kind p),false):=by
 rcases List.eq_nil_or_concat p with rfl|⟨q,i,rfl⟩
 ·simp[fO,ki,eP,rS,cG,i9,dk,tChain,cA,b7,d1,fF,ck,dC,ft,dI,cf,dj]
 ·have hi:i<ar.length:=h i (by simp);have e1:fF (ck (q++[i]))=some (.int ((q.length+1:Nat):Int),false):=by simp[fF,ck]
  have e2:cL (ck (q++[i])) (.int (-1))=some (.int (i:Int),false):=by
   simp only[ck,cL,aX,aA,bL,EK];rfl
  have e3:cL (.tuple (ar.map cH)) (.int (i:Int))=some (cH (ar.getD i (0,0)),false):=by
   simp only[cL,Io hi];rfl
  have n0:¬((q.length+1:Nat):Int)=0:=by omega
  have neg1:Gd (.int 1)=some (.int (-1),false):=rfl;rw[List.concat_eq_append,pI];simp only[fO,ki,aJ,bU,if_true,aA,bL,aI,JI,bM,rS,cG,i9,dk,tChain,cA,b7,d1,d2,dC,aL,aK,aa,av,e1,ft,n0,decide_false,Bool.false_eq_true,if_false,fM,cF,jU,neg1,e2,e3,bX,dI,oh,eP]
theorem zr {p:List Nat}{e:Int}(hp:p.length+1<=1000000):∀(r:Ar) (s:Nat) , hJ (gT [gN 0,gN 1]) (dk (cA (d2 cL (b7 1) (cA (dC (.int 0))))) [(o4,b7 3)]) gv [none,none,some (ck p,false),some (.int e,false)] (eZ s (r.map cH))=some ((iq e p s r).map ck)
 |[],s=>rfl
 | a::r,s=>by
  have ih:=zr (e:=e) hp r (s+1);have hz:(p.map oB).length+1<=sizeLine:=tZ (by rw[af];exact hp);have el:gv [some (.int (s:Int),false),some (cH a,false),some (ck p,false),some (.int e,false)]=some (ck (p++[s]),false):=by
   simp only[af] at hz;simp[gv,d2,b7,cA,dM,b4,cv,cf,Bo,ck,eD,hz,oB]
  rw[aA,eZ,hJ,ih];by_cases h:a.1=e
  ·simp[gT,oC,gN,dk,tChain,cA,d2,b7,dC,lz,ft,h,el,iq]
  ·simp[gT,oC,gN,dk,tChain,cA,d2,b7,dC,lz,ft,h,iq]
theorem Ef {k kind:Int}{ar:Ar}{rs:D}{p:List Nat}{g:List (List Nat)}{y:Option Vl}(hp:ig ar p)(hl:p.length+1<=1000000)(ha:ar.length<=1000)(hg:g.length+ar.length<=1000000) :
  fR [some (cc k ar,false),some (.int kind,false),some (rs,false),some (.list (g.map ck),true),some (ck p,false),y] =
   some (.next [some (cc k ar,false),some (.int kind,false),some (rs,false),some (.list ((g++iq (dj ar kind p) p 0 ar).map ck),true),some (ck p,false),some (.int (dj ar kind p),false)]):=by
 have e1:=tL (k:=k) (kind:=kind) hp;have e2:=zr (p:=p) (e:=dj ar kind p) hl ar 0;have hz:(eZ 0 (ar.map cH)).length<=sizeLine:=tZ (by rw[oH,af];omega);have hx:=lW (dj ar kind p) p ar 0;have hz2:(g.map ck).length+((iq (dj ar kind p) p 0 ar).map ck).length<=sizeLine:=tZ (by rw[af,af];omega);have hc:(dN (eY (fT (d2 cL (b7 0) (cA (dC (.int 1)))))) 2 [4,5] (gT [gN 0,gN 1]) (dk (cA (d2 cL (b7 1) (cA (dC (.int 0))))) [(o4,b7 3)]) gv)
   [some (cc k ar,false),some (.int kind,false),some (rs,false),some (.list (g.map ck),true),some (ck p,false),some (.int (dj ar kind p),false)]=some (.list ((iq (dj ar kind p) p 0 ar).map ck),true):=by
  have hi:(eY (fT (d2 cL (b7 0) (cA (dC (.int 1)))))) [some (cc k ar,false),some (.int kind,false),some (rs,false),some (.list (g.map ck),true),some (ck p,false),some (.int (dj ar kind p),false)]=some (eZ 0 (ar.map cH)):=by
   simp[eY,fT,d2,b7,cA,dC,jU,dP]
  rw[dN,hi,aa,if_pos hz];have hcp:fA 2 [4,5] [some (cc k ar,false),some (.int kind,false),some (rs,false),some (.list (g.map ck),true),some (ck p,false),some (.int (dj ar kind p),false)]=[none,none,some (ck p,false),some (.int (dj ar kind p),false)]:=by simp[fA]
  rw[hcp,e2];rfl
 have s1:(cF 5 (cD fO (b4 (cf 0) (b4 (cf 1) (b4 (cf 4) cv))))) [some (cc k ar,false),some (.int kind,false),some (rs,false),some (.list (g.map ck),true),some (ck p,false),y] =
   some (.next [some (cc k ar,false),some (.int kind,false),some (rs,false),some (.list (g.map ck),true),some (ck p,false),some (.int (dj ar kind p),false)]):=by
  simp[cF,cD,b4,cv,cf,e1]
 rw[fR,cG,s1,aa];dsimp only;rw[pf,hc,aa];dsimp only;simp only[lE,aK,aL,hz2,if_true,av,bX,aX]
theorem zq {k kind:Int}{ar:Ar}{rs:D}(ha:ar.length<=1000):∀(r g:List (List Nat)) (x y:Option Vl),(∀p∈r,ig ar p)->(∀p∈r,p.length+1<=1000000)->g.length+ar.length*r.length<=1000000->∃x' y',
  eA (gN 4) fR (r.map ck) [some (cc k ar,false),some (.int kind,false),some (rs,false),some (.list (g.map ck),true),x,y] =
   some (.next [some (cc k ar,false),some (.int kind,false),some (rs,false),some (.list ((g++step ar kind r).map ck),true),x',y'])
 |[],g,x,y,_,_,_=>⟨x,y,by simp[eA,step]⟩
 | p::r,g,x,y,hok,hl,hz=>by
  rw[aJ,Nat.mul_succ] at hz;have hx:=lW (dj ar kind p) p ar 0;obtain⟨x',y',e⟩:=zq (rs:=rs) (k:=k) (kind:=kind) ha r (g++iq (dj ar kind p) p 0 ar) (some (ck p,false)) (some (.int (dj ar kind p),false)) (fun q hq=>hok q (by simp[hq])) (fun q hq=>hl q (by simp[hq])) (by rw[aw];omega);refine⟨x',y',?_⟩;rw[aA,eA];simp only[gN,bX,aa];rw[Ef (hok p (by simp)) (hl p (by simp)) ha ⋯,aa];dsimp only;rw[e,ba];rfl
theorem sH {k kind:Int}{ar:Ar}{r:List (List Nat)}(ha:ar.length<=1000)(hok:∀p∈r,ig ar p)(hl:∀p∈r,p.length+1<=1000000)(hz:ar.length*r.length<=1000000) :
  ik [cc k ar,.int kind,.list (r.map ck)]=some (.list ((step ar kind r).map ck),true):=by
 obtain⟨x,y,e⟩:=zq (rs:=.list (r.map ck)) (k:=k) (kind:=kind) ha r [] none none hok hl (by simpa using hz);have run:ik [cc k ar,.int kind,.list (r.map ck)]=(k8 [some (cc k ar,false),some (.int kind,false),some (.list (r.map ck),false),none,none,none]).bind eP:=rfl;rw[run];unfold k8;have s1:(cF 3 (cW cv)) [some (cc k ar,false),some (.int kind,false),some (.list (r.map ck),false),none,none,none]=some (.next [some (cc k ar,false),some (.int kind,false),some (.list (r.map ck),false),some (.list [],true),none,none]):=by
  simp[cF,cW,cv]
 rw[cG,s1,aa];dsimp only;have s2:(dW (du (eo 2)) (gN 4) fR) [some (cc k ar,false),some (.int kind,false),some (.list (r.map ck),false),some (.list [],true),none,none]=eA (gN 4) fR (r.map ck) [some (cc k ar,false),some (.int kind,false),some (.list (r.map ck),false),some (.list [],true),none,none]:=by
  simp[dW,du,eo]
 rw[cG,s2];rw[bL] at e;rw[e,aa];simp[lx,eP]
theorem zw {k kind other:Int}{ar:Ar}:∀r:List (List Nat),(∀p∈r,ig ar p)->hJ (gN 0) (dk (cA (cD fO (b4 (cf 2) (b4 (cf 3) (b4 (cf 0) cv))))) [(o4,(b7 1))]) kA [none,some (.int other,false),some (cc k ar,false),some (.int kind,false)] (r.map ck)=some ((lF ar kind other r).map ck)
 |[],_=>rfl
 | p::r,h=>by
  have ih:=zw (k:=k) (kind:=kind) (other:=other) r fun q hq=>h q (by simp[hq]);have e1:=tL (k:=k) (kind:=kind) (h p (by simp));rw[aA,hJ,ih];by_cases he:dj ar kind p=other
  ·simp[gN,dk,tChain,cA,cD,b4,cv,cf,b7,e1,ft,he,kA,lF]
  ·simp[gN,dk,tChain,cA,cD,b4,cv,cf,b7,e1,ft,he,kA,lF]
theorem Ao {k kind other:Int}{ar:Ar}{r f:List (List Nat)}(ha:ar.length<=1000)(hok:∀p∈r,ig ar p)(hl:∀p∈r,p.length+1<=1000000)(hz:ar.length*r.length<=1000000)(hr:r.length+f.length<=1000000) :
  oZ [some (cc k ar,false),some (.int kind,false),some (.int other,false),some (.list (f.map ck),true),some (.list (r.map ck),false)] =
   some (.next [some (cc k ar,false),some (.int kind,false),some (.int other,false),some (.list ((f++lF ar kind other r).map ck),true),some (.list ((step ar kind r).map ck),false)]):=by
 have e1:=zw (k:=k) (kind:=kind) (other:=other) r hok;have e2:=sH (k:=k) (kind:=kind) ha hok hl hz;have hh:=qp ar kind other r;have hz1:(r.map ck).length<=sizeLine:=tZ (by rw[af];omega);have hz2:(f.map ck).length+((lF ar kind other r).map ck).length<=sizeLine:=tZ (by rw[af,af];omega);have hc:(dN (du (eo 4)) 1 [2,0,1] (gN 0) (dk (cA (cD fO (b4 (cf 2) (b4 (cf 3) (b4 (cf 0) cv))))) [(o4,(b7 1))]) kA)
   [some (cc k ar,false),some (.int kind,false),some (.int other,false),some (.list (f.map ck),true),some (.list (r.map ck),false)]=some (.list ((lF ar kind other r).map ck),true):=by
  have hi:(du (eo 4)) [some (cc k ar,false),some (.int kind,false),some (.int other,false),some (.list (f.map ck),true),some (.list (r.map ck),false)]=some (r.map ck):=by simp[du,eo]
  rw[dN,hi,aa,if_pos hz1];have hcp:fA 1 [2,0,1] [some (cc k ar,false),some (.int kind,false),some (.int other,false),some (.list (f.map ck),true),some (.list (r.map ck),false)]=[none,some (.int other,false),some (cc k ar,false),some (.int kind,false)]:=by simp[fA]
  rw[hcp,e1];rfl
 have s1:(pf 3 (dN (du (eo 4)) 1 [2,0,1] (gN 0) (dk (cA (cD fO (b4 (cf 2) (b4 (cf 3) (b4 (cf 0) cv))))) [(o4,(b7 1))]) kA))
   [some (cc k ar,false),some (.int kind,false),some (.int other,false),some (.list (f.map ck),true),some (.list (r.map ck),false)] =
   some (.next [some (cc k ar,false),some (.int kind,false),some (.int other,false),some (.list ((f++lF ar kind other r).map ck),true),some (.list (r.map ck),false)]):=by
  rw[pf,hc,aa];dsimp only;simp only[lE,aK,aL,hz2,if_true,av,bX,aX]
 rw[oZ,cG,s1,aa];dsimp only;simp[fL,cF,cD,b4,cv,cf,e2,share]
theorem tf {k kind other:Int}{ar:Ar}(ha:ar.length<=5):∀(m:Nat) (r f:List (List Nat)),lay ar kind m r=[]->(∀p∈r,ig ar p)->(∀p∈r,p.length+m<=1000)->r.length*6 ^ m+f.length<=100000 →
  eO nZ oZ (m+1) [some (cc k ar,false),some (.int kind,false),some (.int other,false),some (.list (f.map ck),true),some (.list (r.map ck),false)] =
   some (.next [some (cc k ar,false),some (.int kind,false),some (.int other,false),some (.list ((run ar kind other m r f).map ck),true),some (.list [],false)])
 | m,r,f,hl,hok,hs,hz=>by
  have ht:nZ [some (cc k ar,false),some (.int kind,false),some (.int other,false),some (.list (f.map ck),true),some (.list (r.map ck),false)]=some (decide (0<r.length)):=by
   have:(0<(r.length:Int))<->0<r.length:=by omega
   simp only[nZ,dk,tChain,cA,d1,b7,aK,aL,aa,fF,av,dC,A2,af,this]
  rw[eO,ht,aa];by_cases hr:r=[]
  ·subst hr;rw[if_neg (by simp),uj];rfl
  ·have h0:0<r.length:=List.length_pos_iff.mpr hr;rw[if_pos (decide_eq_true h0)];cases m with
   |zero=>exact absurd hl hr
   |succ m =>
    obtain⟨p0,hp0⟩:=J2 r hr;have hs0:=hs p0 hp0;have hst:=qK ar kind r;have hh:=qp ar kind other r;have hp:1<=6 ^ m:=Nat.one_le_pow _ _ (by decide);have q1:r.length<=r.length*6 ^ m:=Nat.le_mul_of_pos_right _ ⋯;have q2:ar.length*r.length<=5*r.length:=JS _ ha;have q3:(step ar kind r).length*6 ^ m<=(5*r.length)*6 ^ m:=JS _ ⋯;rw[Nat.pow_succ,<-Nat.mul_assoc] at hz;have q4:5*r.length*6 ^ m=5*(r.length*6 ^ m):=Nat.mul_assoc ..;rw[Ao ⋯ hok (fun p hp=>by have:=hs p hp;omega) ⋯ ⋯,aa];exact tf ha m (step ar kind r) (f++lF ar kind other r) hl (y0 hok) (fun q hq=>by have:=qJ (b:=1000-m) (fun p hp=>by have:=hs p hp;omega) q hq;omega) (by rw[aw];omega)
theorem BH {k kind other:Int}{ar:Ar}(w:Wf k ar)(h4:k<=4)(ha:ar.length<=5)(hk:0<=kind)(hk2:kind<k):mI [cc k ar,.int kind,.int other]=some (.list ((fu k ar kind other).map ck),true):=by
 have hp:=td (m:=k.toNat) ⋯;have e:=tf (k:=k) (kind:=kind) (other:=other) ha k.toNat [[]] [] (uD w _ _ (sW hk hk2)) (fun p hp i hi=>by cases List.mem_singleton.mp hp;cases hi) (fun p hp=>by cases List.mem_singleton.mp hp;simp;omega) (by simp;omega);have rn:mI [cc k ar,.int kind,.int other]=(vk [some (cc k ar,false),some (.int kind,false),some (.int other,false),none,none]).bind eP:=rfl;rw[rn];unfold vk;have s1:(cF 3 (cW cv)) [some (cc k ar,false),some (.int kind,false),some (.int other,false),none,none]=some (.next [some (cc k ar,false),some (.int kind,false),some (.int other,false),some (.list [],true),none]):=by
  simp[cF,cW,cv]
 have s2:(fL 4 (cF 4 (cW (b4 (dM cv) cv)))) [some (cc k ar,false),some (.int kind,false),some (.int other,false),some (.list [],true),none]=some (.next [some (cc k ar,false),some (.int kind,false),some (.int other,false),some (.list [],true),some (.list ([[]].map ck),false)]):=by
  simp[fL,cF,cW,b4,dM,cv,Bo,share,ck]
 rw[bL] at e;rw[cG,s1,aa];dsimp only;rw[cG,s2,aa];dsimp only;rw[cG,pb e,aa];simp[lx,eP,fu]
open PySem DL Td
noncomputable def eR (h:List Nat):List Int:=h.map fun (n:Nat)=>(n:Int)
noncomputable def B4 (h:List Nat):Option Vl:=some (lA (eR h),true)
theorem wD (h:List Nat)(i v:Nat):(eR h).set i (v:Int)=eR (h.set i v):=by unfold eR;rw[List.map_set]
theorem rf (h:List Nat):(eR h).length=h.length:=by unfold eR;rw[af]
theorem yf {h:List Nat}{s:Nat}(hs:s<h.length):cL (.list ((eR h).map .int)) (.int (s:Int))=some (.int (mark h s:Int),false):=by
 unfold cL;dsimp only;rw[vv (k:=s) (d:=.int (mark h s:Int)) (by
  unfold eR mark;rw[bg,au,ao hs,ag,ao hs];rfl)]
 rfl
theorem Gg (a b:Int):sN (.int a) (.int b)=some (!decide (a=b)):=by
 have h:∀x:Int,SeqAt.shaped (.int x)=true:=fun x=>by simp[SeqAt.shaped,PyData.canLay0,PyData.depth]
 unfold sN;rw[h,h];simp[SeqAt.noMix,Spec.same];by_cases e:a=b <;> simp[e]
theorem rC (h:List Nat):iB ((eR h).map .int)=some (eR h):=rD _
theorem jv {h:List Nat}{p:Nat}{ρ:Sl}(e:ρ[p]?=some (B4 h)):eS p ρ=some (eR h):=by
 unfold eS;rw[e];exact rC h
noncomputable def wV (h:List Nat)(s:Nat):Sl:=[B4 h,some (.int (s:Int),false)]
theorem uU {h:List Nat}{s:Nat}(hs:s<h.length):(d2 cL (l9 0) (b7 1)) (wV h s)=some (.int (mark h s:Int),false):=by
 show (cL (.list ((eR h).map .int)) (.int (s:Int)))=_;exact yf hs
theorem Ep {h:List Nat}{s:Nat}(hs:s<h.length):jH (wV h s)=some (!decide (mark h s=s)):=by
 rw[jH,dk,cA,uU hs];show sN (.int (mark h s:Int)) (.int (s:Int))=_;rw[Gg];congr 2;exact decide_eq_decide.mpr ⋯
theorem Er {h:List Nat}{s:Nat}(hs:s<h.length)(h2:mark h s<h.length):jO (wV h s)=some (.next (wV (h.set s (mark h (mark h s))) (mark (h.set s (mark h (mark h s))) s))):=by
 have q1:(d2 cL (l9 0) (cA (d2 cL (l9 0) (b7 1)))) (wV h s)=some (.int (mark h (mark h s):Int),false):=by
  rw[d2,cA,uU hs];show (cL (.list ((eR h).map .int)) (.int (mark h s:Int)))=_;exact yf h2
 have q2:pT 0 (cf 1) (d2 cL (l9 0) (cA (d2 cL (l9 0) (b7 1)))) (wV h s)=some (.next (wV (h.set s (mark h (mark h s))) s)):=by
  have dv:cf 1 (wV h s)=some (.int (s:Int),false):=rfl;have no:iA ((wV h s).set 0 none)=true:=rfl;simp only[pT,q1,dv,xy,aa,jv (h:=h) (p:=0) (ρ:=wV h s) rfl,uK (show s<(eR h).length by rw[rf];exact hs),no,if_true,wD];rfl
 rw[jO,cJ q2,cF,uU (by rw[bf];exact hs)];rfl
theorem AN {n:Nat}:∀(s:Nat) (h:List Nat),Uf n h->s<n->∃(h':List Nat) (r:Nat),eO jH jO (s+1) (wV h s)=some (.next (wV h' r))/\Uf n h'/\Rt h s r/\∀i r,Rt h i r->Rt h' i r:=by
 intro s;induction s using Nat.strongRecOn with
 |_ s ih =>
  intro h u hs;have hl:s<h.length:=by rw[u.len];exact hs
  have l:=u.le s hs;unfold eO;rw[Ep hl,aa];by_cases e:mark h s=s
  ·rw[decide_eq_true e];exact⟨h,s,rfl,u,.here e,fun _ _ a=>a⟩
  ·rw[decide_eq_false e];obtain⟨u1,k1⟩:=u.half hs e;have e1:mark (h.set s (mark h (mark h s))) s=mark h (mark h s):=by rw[fV hl,if_pos rfl]
   have l2:=u.le (mark h s) ⋯;obtain⟨h',r,w,u',rt,k2⟩:=ih (mark h (mark h s)) ⋯ _ u1 ⋯;refine⟨h',r,?_,u',?_,fun i r a=>k2 i r (k1 i r a)⟩
   ·rw[show (!false)=true from rfl,if_pos rfl,Er hl ⋯,aa];dsimp only;rw[e1];have:=iT w (s-(mark h (mark h s)+1));rwa[show mark h (mark h s)+1+(s-(mark h (mark h s)+1))=s by omega] at this
   ·obtain⟨r',a,_⟩:=u.has s hs;have b:=k1 s r' a;cases b with
    |here q=>exact absurd (e1.symm.trans q) ⋯
    |up _ b =>
     rw[e1] at b;rw[rt.one b];exact a
theorem uW {n:Nat}{h:List Nat}{s:Nat}(u:Uf n h)(hs:s<n):∃(h':List Nat) (r:Nat),eC (eR h) [.int (s:Int)]=some (.int (r:Int),eR h')/\Uf n h'/\Rt h s r/\∀i r,Rt h i r->Rt h' i r:=by
 obtain⟨h',r,w,u',rt,k⟩:=AN s h u hs;refine⟨h',r,?_,u',rt,k⟩;have e:j4 jH jO (wV h s)=some (.next (wV h' r)):=pb w;have run:eC (eR h) [.int (s:Int)]=(pL (wV h s)).bind fun fl=>match fl with
  |.next ρ=>(o5 ρ).bind fun r=>(eS 0 ρ).map fun ms=>(r.1,ms)
  |_=>none:=rfl
 rw[run,pL,cJ e];show ((o5 (wV h' r)).bind fun x=>(eS 0 (wV h' r)).map fun ms=>(x.1,ms))=_;rw[jv (h:=h') rfl];rfl
noncomputable def A7 (h:List Nat)(a b:Nat)(s3 s4:Option Vl):Sl:=[B4 h,some (.int (a:Int),false),some (.int (b:Int),false),s3,s4]
theorem D9 (a b:Nat):sD (.int (a:Int)) (.int (b:Int))=some (.int ((max a b:Nat):Int),false):=by
 unfold sD;dsimp only;congr 3;split <;> omega
theorem FG {its done:jP}{n:Nat}{h:List Nat}{a b:Nat}(t:tX its done n h)(inn:∀p∈done,p.1<n/\p.2<n)(hm:(a,b)∈its)(ha:a<n)(hb:b<n):∃(h':List Nat),tY (eR h) [.int (a:Int),.int (b:Int)]=some (.none,eR h')/\tX its (done++[(a,b)]) n h':=by
 obtain⟨h1,p,e1,u1,r1,k1⟩:=uW t.u ha;have t1:=t.same inn u1 k1;obtain⟨h2,q,e2,u2,r2,k2⟩:=uW u1 hb;have t2:=t1.same inn u2 k2;have rp:=k2 _ _ (k1 _ _ r1);have rq:=k2 _ _ r2;have lp:=u2.le_of ha rp;have lq:=u2.le_of hb rq;refine⟨h2.set (max p q) (min p q),?_,t2.tie hm ha hb rp rq⟩;have q1:jK 0 eC (b4 (cf 1) cv) 3 (A7 h a b none none)=some (.next (A7 h1 a b (some (.int (p:Int),false)) none)):=by
  rw[jK,jv (h:=h) rfl,aa];show ((eC (eR h) [.int (a:Int)]).bind _)=_;rw[e1];rfl
 have q2:jK 0 eC (b4 (cf 2) cv) 4 (A7 h1 a b (some (.int (p:Int),false)) none)=some (.next (A7 h2 a b (some (.int (p:Int),false)) (some (.int (q:Int),false)))):=by
  rw[jK,jv (h:=h1) rfl,aa];show ((eC (eR h1) [.int (b:Int)]).bind _)=_;rw[e2];rfl
 have q3:pT 0 (d2 sD (b7 3) (b7 4)) (d2 ya (b7 3) (b7 4)) (A7 h2 a b (some (.int (p:Int),false)) (some (.int (q:Int),false)))=some (.next (A7 (h2.set (max p q) (min p q)) a b (some (.int (p:Int),false)) (some (.int (q:Int),false)))):=by
  have m1:(d2 ya (b7 3) (b7 4)) (A7 h2 a b (some (.int (p:Int),false)) (some (.int (q:Int),false)))=some (.int ((min p q:Nat):Int),false):=D8 p q;have m2:(d2 sD (b7 3) (b7 4)) (A7 h2 a b (some (.int (p:Int),false)) (some (.int (q:Int),false)))=some (.int ((max p q:Nat):Int),false):=D9 p q;have no:iA ((A7 h2 a b (some (.int (p:Int),false)) (some (.int (q:Int),false))).set 0 none)=true:=rfl;simp only[pT,m1,m2,xy,aa,jv (h:=h2) (p:=0) (ρ:=A7 h2 a b (some (.int (p:Int),false)) (some (.int (q:Int),false))) rfl,uK (show max p q<(eR h2).length by rw[rf,u2.len];omega),no,if_true,wD];rfl
 have run:tY (eR h) [.int (a:Int),.int (b:Int)]=(CK (A7 h a b none none)).bind fun fl=>match fl with
  |.next ρ=>(EW ρ).bind fun r=>(eS 0 ρ).map fun ms=>(r.1,ms)
  |_=>none:=rfl
 rw[run,CK,cJ q1,cJ q2,q3];show ((some ((PyData.none,false):Vl)).bind fun x=>(eS 0 (A7 (h2.set (max p q) (min p q)) a b (some (.int (p:Int),false)) (some (.int (q:Int),false)))).map fun ms=>(x.1,ms))=_;rw[jv (h:=h2.set (max p q) (min p q)) rfl];rfl
theorem v5 {n:Nat}{pre post:List Nat}{x:Nat}(h:pre++x::post=aj n):pre=aj x/\x<n:=by
 have hl:pre.length<n:=by
  have:=congrArg List.length h;rw[aw,aJ,aD] at this;omega
 have hx:x=pre.length:=by
  have:=congrArg (fun l=>l[pre.length]?) h;rw[aN (aB _),JX,aL,bc hl] at this;exact Option.some.inj this
 refine⟨?_,by omega⟩;have:=congrArg (fun l=>l.take pre.length) h;rw[List.take_append_of_le_length (aB _),List.take_length,List.take_range,JT (JY hl)] at this;rw[hx];exact this
theorem qD {f:Tr->D}:∀(l pre:List Tr),(pre++l).Nodup->jF (l.map cS) (l.map f) (lY pre f)=some (lY (pre++l) f)
 |[],pre,_=>by rw[bj];rfl
 | t::l,pre,nd=>by
  have nt:t∉pre:=fun z=>(List.nodup_append.mp nd).2.2 t z t (by simp) rfl;rw[aA,aA,jF,if_pos (nY t),zi nt];have e:lY pre f++[(cS t,f t)]=lY (pre++[t]) f:=by unfold lY;rw[aX];rfl
  rw[e,qD l (pre++[t]) (by rw[ba];exact nd),ba];rfl
def NL (s:Option Vl):Prop:=∀c,s≠some (.dict [(c,.none)],true)
theorem Az {ρ:Sl}(h:∀s∈ρ,NL s):iA ρ=true:=by
 unfold iA;rw[bp];intro s hs;split
 ·exact absurd rfl (h _ hs _)
 ·rfl
theorem zl:NL none:=fun c h=>by cases h
theorem BQ {x:D}:NL (some (x,false)):=fun c h=>by cases h
theorem Ge {xs:List D}:NL (some (.list xs,true)):=fun c h=>by cases h
noncomputable def pv (s:Option D):Option Vl:=s.map fun d=>(d,false)
noncomputable def xv (ts:List Tr)(h:List Nat)(rows:List Nat)(height:Nat)(s4 s5:Option D):Sl:=[some (.list (ts.map cS),false),B4 h,some (.list ((eR rows).map .int),true),some (.int (height:Int),false),pv s4,pv s5]
theorem E8 (s:Option D):NL (pv s):=by
 cases s with
 |none=>exact zl
 |some d=>exact BQ
theorem E6 {ts:List Tr}{h rows:List Nat}{c:Nat}{s4 s5:Option D}:iA ((xv ts h rows c s4 s5).set 1 none)=true:=by
 refine Az fun s hs=>?_;have hs':s∈[some (.list (ts.map cS),false),none,some (.list ((eR rows).map .int),true),some (.int (c:Int),false),pv s4,pv s5]:=hs;simp only[bt,bo,or_false] at hs';rcases hs' with rfl|rfl|rfl|rfl|rfl|rfl
 ·exact BQ
 ·exact zl
 ·exact Ge
 ·exact BQ
 ·exact E8 _
 ·exact E8 _
theorem BO {its:jP}{n:Nat}{m:List Nat}(w:xq its n m)(s:ic its m){i:Nat}(hi:i<n):lG m (mark m i)=lG m i:=by
 unfold lG;rw[w.mark_mark s hi]
theorem yh {m:Nat->Nat}{x r:Nat}(h:r<x):mark ((aj x).map m) r=m r:=by
 unfold mark;rw[ag,au,bc h];rfl
theorem BP {its:jP}{n:Nat}{h h':List Nat}{ts:List Tr}{x:Nat}{s5:Option D}(t:tX its its n h)(inn:∀p∈its,p.1<n/\p.2<n)(u:Uf n h')(k:∀i r,Rt h i r->Rt h' i r)(hx:x<n)(hn:n<1000000) :
  ∃(h2:List Nat) (t5:Option D),Uf n h2/\(∀i r,Rt h i r->Rt h2 i r)/\iZ (xv ts h' ((aj x).map (lG (fc n h))) ((aj x).filter (lB (fc n h))).length (some (.int (x:Int))) s5) =
   some (.next (xv ts h2 ((aj (x+1)).map (lG (fc n h))) ((aj (x+1)).filter (lB (fc n h))).length (some (.int (x:Int))) t5)):=by
 obtain⟨w,st⟩:=t.way inn;obtain⟨h2,r,e1,u2,r1,k2⟩:=uW u hx;obtain⟨r0,a0,l0⟩:=t.u.has x hx;have er:r=r0:=r1.one (k _ _ a0);subst er;have em:mark (fc n h) x=r:=a0.mark t.u hx;refine⟨h2,some (.int (r:Int)),u2,fun i r a=>k2 _ _ (k _ _ a),?_⟩;generalize hm:fc n h=m at *;have q1:jK 1 eC (b4 (cf 4) cv) 5 (xv ts h' ((aj x).map (lG m)) ((aj x).filter (lB m)).length (some (.int (x:Int))) s5)=some (.next (xv ts h2 ((aj x).map (lG m)) ((aj x).filter (lB m)).length (some (.int (x:Int))) (some (.int (r:Int))))):=by
  rw[jK,jv (h:=h') rfl,aa];show ((eC (eR h') [.int (x:Int)]).bind _)=_;rw[e1,aa,if_pos ⟨E6,by decide⟩];rfl
 have tst:(dk (b7 5) [(o4,(b7 4))]) (xv ts h2 ((aj x).map (lG m)) ((aj x).filter (lB m)).length (some (.int (x:Int))) (some (.int (r:Int))))=some (decide (r=x)):=by
  show o4 (.int (r:Int)) (.int (x:Int))=_;rw[ft];exact congrArg some (decide_eq_decide.mpr ⋯)
 have hz:((eR ((aj x).map (lG m))).map PyData.int).length<sizeLine:=xJ (by rw[af,rf,af,aD];omega);have nat_app:∀(l:List Nat) (v:Nat),(eR l).map PyData.int++[.int (v:Int)]=(eR (l++[v])).map .int:=fun l v=>by unfold eR;rw[aX,aX];rfl
 rw[iZ,cJ q1,i9,tst,aa];by_cases e:r=x
 ·rw[decide_eq_true e,if_pos rfl];have isf:lB m x=true:=by unfold lB;rw[em,e];exact beq_self_eq_true _
  have nf:=w.num_first st hx;rw[isf,beq_iff_eq] at nf;have a1:gp 2 (cf 3) (xv ts h2 ((aj x).map (lG m)) ((aj x).filter (lB m)).length (some (.int (x:Int))) (some (.int (r:Int))))=some (.next (xv ts h2 ((aj (x+1)).map (lG m)) ((aj x).filter (lB m)).length (some (.int (x:Int))) (some (.int (r:Int))))):=by
   rw[JL,aX,List.map_singleton,nf];show ((if ((eR ((aj x).map (lG m))).map PyData.int).length<sizeLine then some ((eR ((aj x).map (lG m))).map PyData.int++[.int (((aj x).filter (lB m)).length:Int)]) else none).map fun ys=>Fl.next _)=_;rw[if_pos hz,nat_app];rfl
  rw[cJ a1];have e2:((aj (x+1)).filter (lB m)).length=((aj x).filter (lB m)).length+1:=by rw[JL,b3,aw,bJ,isf];rfl
  rw[e2];rfl
 ·rw[decide_eq_false e,if_neg Bool.false_ne_true];have isf:lB m x=false:=by unfold lB;rw[em];exact beq_eq_false_iff_ne.mpr e
  have e2:((aj (x+1)).filter (lB m)).length=((aj x).filter (lB m)).length:=by rw[JL,b3,aw,bJ,isf];rfl
  rw[e2];have rx:(d2 cL (b7 2) (b7 5)) (xv ts h2 ((aj x).map (lG m)) ((aj x).filter (lB m)).length (some (.int (x:Int))) (some (.int (r:Int))))=some (.int (lG m x:Int),false):=by
   show cL (.list ((eR ((aj x).map (lG m))).map .int)) (.int (r:Int))=_;rw[yf (by rw[af,aD];omega),yh ⋯,<-em,BO w st hx]
  rw[gp,rx,aa,JL,aX,List.map_singleton];show ((if ((eR ((aj x).map (lG m))).map PyData.int).length<sizeLine then some ((eR ((aj x).map (lG m))).map PyData.int++[.int (lG m x:Int)]) else none).map fun ys=>Fl.next _)=_;rw[if_pos hz,nat_app];rfl
section
variable {e:Sb}{d:Int}
theorem wz (ok:dE e){h:List Nat}(t:tX (nh e d) (nh e d) (cj e d).length h)(hz:(cj e d).length<1000000):∃ms,gK (eR h) [.list ((cj e d).map cS)]=some (.dict (eT e d),ms):=by
 have inn:=B9 (d:=d) ok;obtain⟨w,st⟩:=t.way inn;have h0:(cF 2 (cW cv)) [some (.list ((cj e d).map cS),false),B4 h,none,none,none,none]=some (.next [some (.list ((cj e d).map cS),false),B4 h,some (.list [],true),none,none,none]):=by simp[cF,cW,cv,Dn]
 have h1:(cF 3 (dC (.int 0))) [some (.list ((cj e d).map cS),false),B4 h,some (.list [],true),none,none,none]=some (.next (xv (cj e d) h [] 0 none none)):=rfl;have hr:(cP (d1 fF (b7 0))) ((xv (cj e d) h [] 0 none none).set 1 none)=some ((aj (cj e d).length).map fun (x:Nat)=>.int (x:Int)):=by
  rw[<-da];have hl:(d1 fF (b7 0)) ((xv (cj e d) h [] 0 none none).set 1 none)=some (.int ((cj e d).length:Int),false):=by
   show some ((PyData.int (((cj e d).map cS).length:Int),false):Vl)=_;rw[af]
  have:=dB (o:=false) hl ⋯ ⋯;rwa[aV] at this
 obtain⟨ρ',f1,h',s4,s5,u',k',eq⟩:=qq (g:=gN 4) (b:=iZ) (d:=fun (x:Nat)=>.int (x:Int)) (P:=fun pre ρ=>∃h' s4 s5,Uf (cj e d).length h'/\(∀i r,Rt h i r->Rt h' i r)/\ρ=xv (cj e d) h' (pre.map (lG (fc (cj e d).length h))) (pre.filter (lB (fc (cj e d).length h))).length s4 s5) (aj (cj e d).length) (aj (cj e d).length) [] _ rfl ⟨h,none,none,t.u,fun _ _ a=>a,rfl⟩
  (fun pre x post ρ hw zz=>by
   obtain ⟨h',s4,s5,u',k',eq⟩:=zz;obtain⟨ep,hx⟩:=v5 hw;obtain⟨h2,t5,u2,k2,hb⟩:=BP (ts:=cj e d) (s5:=s5) t inn u' k' hx hz;refine⟨xv (cj e d) h' ((aj x).map (lG (fc (cj e d).length h))) ((aj x).filter (lB (fc (cj e d).length h))).length (some (.int (x:Int))) s5,_,by rw[eq,ep];rfl,hb,h2,some (.int (x:Int)),t5,u2,k2,?_⟩;rw[ep,<-JL])
 have f2:vX 1 (cP (d1 fF (b7 0))) (gN 4) iZ (xv (cj e d) h [] 0 none none)=some (.next ρ'):=by
  rw[vX,jv (h:=h) rfl,if_pos ⟨E6,rfl⟩,hr,aa];exact f1
 have rows:(eR ((aj (cj e d).length).map (lG (fc (cj e d).length h)))).map PyData.int=(cj e d).map fun t=>.int (ju e d t):=by
  unfold eR;rw[bg,bg];refine bD fun i=>?_;rw[au,au];by_cases hi:i<(cj e d).length
  ·rw[bc hi,ao hi];have:=(Dj (d:=d) ok).num_eq w st (ao hi);unfold ju;rw[av,av,this];rfl
  ·rw[aT (by rw[aD];omega),aT ⋯];rfl
 have zp:=qD (f:=fun t=>.int (ju e d t)) (cj e d) [] (iU e d);have sh:(j5 2 fM) (xv (cj e d) h' ((aj (cj e d).length).map (lG (fc (cj e d).length h))) ((aj (cj e d).length).filter (lB (fc (cj e d).length h))).length s4 s5)=some (.next [some (.list ((cj e d).map cS),false),B4 h',some (.list ((cj e d).map fun t=>.int (ju e d t)),false),some (.int (((aj (cj e d).length).filter (lB (fc (cj e d).length h))).length:Int),false),pv s4,pv s5]):=by
  rw[<-rows];rfl
 have v:kF [some (.list ((cj e d).map cS),false),B4 h',some (.list ((cj e d).map fun t=>.int (ju e d t)),false),some (.int (((aj (cj e d).length).filter (lB (fc (cj e d).length h))).length:Int),false),pv s4,pv s5]=some (.dict (eT e d),false):=by
  show (if ((cj e d).map cS).length<=sizeLine then (jF ((cj e d).map cS) ((cj e d).map fun t=>.int (ju e d t)) []).map fun kvs=>((.dict kvs,false):Vl) else none)=_;rw[if_pos (tZ (by rw[af];omega)),show ([]:List (D×D))=lY [] (fun t=>.int (ju e d t)) from rfl,zp];rfl
 refine⟨eR h',?_⟩;have run:gK (eR h) [.list ((cj e d).map cS)]=(nE [some (.list ((cj e d).map cS),false),B4 h,none,none,none,none]).bind fun fl=>match fl with
  |.next ρ=>(kF ρ).bind fun r=>(eS 1 ρ).map fun ms=>(r.1,ms)
  |_=>none:=rfl
 rw[run,nE,cJ h0,cJ h1,cJ f2,eq,sh];show ((kF _).bind fun r=>(eS 1 [some (.list ((cj e d).map cS),false),B4 h',some (.list ((cj e d).map fun t=>.int (ju e d t)),false),some (.int (((aj (cj e d).length).filter (lB (fc (cj e d).length h))).length:Int),false),pv s4,pv s5]).map fun ms=>(r.1,ms))=_;rw[v,jv (h:=h') rfl];rfl
end
theorem rH (n:Nat)(f:Nat->D):eZ 0 ((aj n).map f)=(aj n).map fun (c:Nat)=>.tuple [.int (c:Int),f c]:=by
 rw[iC];refine bD fun i=>?_;rw[au,au,bB];by_cases h:i<n
 ·rw[bc h];simp
 ·rw[aT (by rw[aD];omega)];rfl
theorem rF {α:Type}(l:List α):l.zipIdx.map (·.1)=l:=by
 refine bD fun i=>?_;rw[au,bB];cases l[i]? <;> rfl
theorem vJ {α β γ:Type}(f:α->D)(g:β->D)(h:γ->D):∀(xs:List α) (ys:List β) (zs:List γ),jh (xs.map f) (ys.map g) (zs.map h)=(xs.zip (ys.zip zs)).map fun p=>.tuple [f p.1,g p.2.1,h p.2.2]
 |[],_,_=>rfl
 |_::_,[],_=>rfl
 |_::_,_::_,[]=>rfl
 |x::xs,y::ys,z::zs=>by rw[aA,aA,aA,jh,vJ f g h xs ys zs];rfl
section
variable {e:Sb}{d:Int}
noncomputable def lM (e:Sb)(c:Nat)(p:List Nat):List Tr:=(aj (gI e.rows (c:Int)).toNat).map fun (x:Nat)=>((c:Int),p,(x:Int))
noncomputable def kN (e:Sb)(d:Int)(c:Nat):D:=.list ((fu e.k2 e.ar2 (gI e.pl (c:Int)) d).map ck)
noncomputable def dO (e:Sb)(d:Int):D:=.list ((aj e.k1.toNat).map (kN e d))
noncomputable def A8 (e:Sb)(d:Int)(acc:List Tr)(s3 s4 s5:Option Vl):Sl:=[some (dO e d,false),some (il e,false),some (.list (acc.map cS),true),s3,s4,s5]
theorem Hl (ok:dE e)(sm:mL e){acc:List Tr}{c:Nat}{p:List Nat}{s4:Option Vl}(hc:(c:Int)<e.k1)(hn:acc.length+(lM e c p).length<=1000000) :
  gc (A8 e d acc (some (.int (c:Int),false)) s4 (some (ck p,false)))=some (.next (A8 e d (acc++lM e c p) (some (.int (c:Int),false)) s4 (some (ck p,false)))):=by
 have lb:=ok.b.len;have n0:=gZ ok.b.nn (c:Int);have n1:=ji (m:=1000) ⋯ sm.rw (c:Int);have ix:=ir (xs:=e.rows) (i:=(c:Int)) ⋯ ⋯;have hr:(cP (d2 cL (cA (d2 cL (b7 1) (cA (dC (.int 0))))) (b7 3))) (A8 e d acc (some (.int (c:Int),false)) s4 (some (ck p,false)))=some ((aj (gI e.rows (c:Int)).toNat).map fun (x:Nat)=>.int (x:Int)):=by
  rw[<-da];exact dB (o:=false) (by simp[A8,d2,b7,cA,dC,oX,ix]) n0 ⋯
 have cm:=eB (it:=cP (d2 cL (cA (d2 cL (b7 1) (cA (dC (.int 0))))) (b7 3))) (n:=1) (ix:=[3,5]) (g:=gN 0) (e:=iD) (ρ:=A8 e d acc (some (.int (c:Int),false)) s4 (some (ck p,false))) (d:=fun (x:Nat)=>.int (x:Int)) (β:=fun (x:Nat)=>cS ((c:Int),p,(x:Int))) (aj (gI e.rows (c:Int)).toNat) hr (by rw[aD];omega) (fun x hx=>⟨_,false,rfl,by
  show iD [some (.int (x:Int),false),some (.int (c:Int),false),some (ck p,false)]=_;exact w9 (o:=false) (o':=false) (o'':=false) (by simp[cf]) (by simp[cf]) (by simp[cf])⟩)
 have er:(aj (gI e.rows (c:Int)).toNat).map (fun (x:Nat)=>cS ((c:Int),p,(x:Int)))=(lM e c p).map cS:=by unfold lM;rw[bg];rfl
 rw[er] at cm;have hz:(acc.map cS).length+((lM e c p).map cS).length<=sizeLine:=tZ (by rw[af,af];exact hn);rw[gc,pf,cm,aa];show ((if (acc.map cS).length+((lM e c p).map cS).length<=sizeLine then some (acc.map cS++(lM e c p).map cS) else none).map fun ys=>Fl.next _)=_;rw[if_pos hz,<-aX];rfl
theorem Hk (ok:dE e)(sm:mL e){acc:List Tr}{c:Nat}{s5:Option Vl}(hc:(c:Int)<e.k1)(hn:acc.length+((fu e.k2 e.ar2 (gI e.pl (c:Int)) d).flatMap (lM e c)).length<=1000000):∃t5,
  f9 (A8 e d acc (some (.int (c:Int),false)) (some (kN e d c,false)) s5)=some (.next (A8 e d (acc++(fu e.k2 e.ar2 (gI e.pl (c:Int)) d).flatMap (lM e c)) (some (.int (c:Int),false)) (some (kN e d c,false)) t5)):=by
 obtain⟨ρ',h1,t5,h2⟩:=kU (g:=gN 5) (b:=gc) (d:=ck) (f:=lM e c) (P:=fun acc ρ=>∃s5,ρ=A8 e d acc (some (.int (c:Int),false)) (some (kN e d c,false)) s5) 1000000 (fu e.k2 e.ar2 (gI e.pl (c:Int)) d) acc _ ⟨s5,rfl⟩ hn
  (fun p _ acc' ρ ⟨u5,eq⟩ hl=>⟨_,_,by rw[eq];rfl,Hl ok sm hc hl,_,rfl⟩)
 refine⟨t5,?_⟩;rw[f9,dS (ds:=(fu e.k2 e.ar2 (gI e.pl (c:Int)) d).map ck) rfl,h1,h2]
theorem CV (ok:dE e)(sm:mL e)(hz:(cj e d).length<=1000000):eG [dO e d,il e]=some (.list ((cj e d).map cS),true):=by
 have k0:=ok.w1.lo;have k1:=sm.k1;have h0:(cF 2 (cW cv)) [some (dO e d,false),some (il e,false),none,none,none,none]=some (.next (A8 e d [] none none none)):=by simp[cF,cW,cv,Dn,A8]
 have hr:(eY (eo 0)) (A8 e d [] none none none)=some ((aj e.k1.toNat).map fun (c:Nat)=>.tuple [.int (c:Int),kN e d c]):=by
  rw[<-rH];rfl
 obtain⟨ρ',h1,t3,t4,t5,h2⟩:=kU (g:=gT [gN 3,gN 4]) (b:=f9) (d:=fun (c:Nat)=>.tuple [.int (c:Int),kN e d c]) (f:=fun c=>(fu e.k2 e.ar2 (gI e.pl (c:Int)) d).flatMap (lM e c)) (P:=fun acc ρ=>∃s3 s4 s5,ρ=A8 e d acc s3 s4 s5) 1000000 (aj e.k1.toNat) [] _ ⟨none,none,none,rfl⟩ (by rw[bU,bE];exact hz)
  (fun c hc acc ρ ⟨u3,u4,u5,eq⟩ hl=>by
   rw[aY] at hc;obtain⟨t5,hb⟩:=Hk (d:=d) (s5:=u5) ok sm (c:=c) ⋯ hl;exact⟨_,_,by rw[eq];rfl,hb,_,_,t5,rfl⟩)
 have run:eG [dO e d,il e]=(je [some (dO e d,false),some (il e,false),none,none,none,none]).bind eP:=rfl;rw[run,je,cJ h0,cG,dS hr,h1,aa,h2,bM];rfl
noncomputable def qH (e:Sb)(d:Int)(kvs:List (D×D))(s6 s7 s8 s9 s10 s11 s12 s13 s14:Option Vl):Sl:=[some (gR e,false),some (iu e,false),some (il e,false),some (dO e d,false),some (.list ((cj e d).map cS),false),IU kvs,s6,s7,s8,s9,s10,s11,s12,s13,s14]
noncomputable def Ba (h:List Nat):Option Vl:=some (.list ((eR h).map .int),true)
theorem Dm {acc:List Tr}{t:Tr}{s8 s9 s10 s11 s12 s13 s14:Option Vl}(hn:acc.length<1000000)(h:t∉acc) :
  oY (qH e d (dQ acc) (some (.int (acc.length:Int),false)) (some (cS t,false)) s8 s9 s10 s11 s12 s13 s14)=some (.next (qH e d (dQ (acc++[t])) (some (.int (acc.length:Int),false)) (some (cS t,false)) s8 s9 s10 s11 s12 s13 s14)):=by
 have h1:zK 5 (qH e d (dQ acc) (some (.int (acc.length:Int),false)) (some (cS t,false)) s8 s9 s10 s11 s12 s13 s14)=some (dQ acc):=rfl;have h2:yc ((PyData.int (acc.length:Int),false):Vl)=some (.int (acc.length:Int)):=rfl;have h3:yc ((cS t,false):Vl)=some (cS t):=by simp[yc,FE]
 have hv:(cf 6) (unown (qH e d (dQ acc) (some (.int (acc.length:Int),false)) (some (cS t,false)) s8 s9 s10 s11 s12 s13 s14))=some (.int (acc.length:Int),false):=rfl;have hk:(cf 7) (unown (qH e d (dQ acc) (some (.int (acc.length:Int),false)) (some (cS t,false)) s8 s9 s10 s11 s12 s13 s14))=some (cS t,false):=rfl;rw[oY,uh,h1,aa,hv,aa,h2,aa,hk,aa,h3,aa,show fS (dQ acc)=true from mD _ _,nY,if_pos ⟨rfl,xJ (by rw[yg];exact hn)⟩,wF h];rfl
theorem Bn (hz:(cj e d).length<1000000):∃s6 s7,(dW (eY (eo 4)) (gT [(gN 6),(gN 7)]) oY) (qH e d [] none none none none none none none none none)=some (.next (qH e d (dQ (cj e d)) s6 s7 none none none none none none none)):=by
 have hr:(eY (eo 4)) (qH e d [] none none none none none none none none none)=some ((cj e d).zipIdx.map fun p=>.tuple [.int (p.2:Int),cS p.1]):=by
  rw[<-iC];rfl
 obtain⟨ρ',h1,s6,s7,h2⟩:=qq (g:=gT [gN 6,gN 7]) (b:=oY) (d:=fun (p:Tr×Nat)=>.tuple [.int (p.2:Int),cS p.1]) (P:=fun pre ρ=>∃s6 s7,ρ=qH e d (dQ (pre.map (·.1))) s6 s7 none none none none none none none) (cj e d).zipIdx (cj e d).zipIdx [] _ rfl ⟨none,none,rfl⟩
  (fun pre p post ρ hw zz=>by
   obtain ⟨u6,u7,eq⟩:=zz;have hi:(cj e d).zipIdx[pre.length]?=some p:=by rw[<-hw,aN (aB _),JX];rfl
   have hl:pre.length<(cj e d).length:=by
    have:=congrArg List.length hw;rw[aw,aJ,bF] at this;omega
   rw[bB,ao hl,av,bE] at hi;have ep:=(Option.some.inj hi).symm;have nt:p.1∉pre.map (·.1):=by
    have nd:=iU e d;have e1:pre.map (·.1)++p.1::post.map (·.1)=cj e d:=by
     have:=congrArg (List.map (·.1)) hw;rw[aX,aA,rF] at this;exact this
    rw[<-e1] at nd;exact fun z=>(List.nodup_append.mp nd).2.2 _ z _ (by simp) rfl
   have e2:(p.2:Int)=((pre.map (·.1)).length:Int):=by rw[af,ep]
   have hb:=Dm (e:=e) (d:=d) (acc:=pre.map (·.1)) (t:=p.1) (s8:=none) (s9:=none) (s10:=none) (s11:=none) (s12:=none) (s13:=none) (s14:=none) (by rw[af];omega) nt;refine⟨_,_,?_,hb,_,_,by rw[aX];rfl⟩;rw[eq,e2];rfl)
 refine⟨s6,s7,?_⟩;rw[rF] at h2;rw[dS hr];exact h1.trans (by rw[h2])
noncomputable def sL (e:Sb)(d:Int)(p:Tr×Tr):Nat×Nat:=((cj e d).idxOf p.1,(cj e d).idxOf p.2)
theorem Fb (ok:dE e){t:Tr}(h:qh e d t):pD (.dict (dQ (cj e d))) (cS t)=some (.int ((cj e d).idxOf t:Int),false):=by
 unfold pD;dsimp only;rw[show fS (dQ (cj e d))=true from mD _ _,nY,if_pos (by rfl)];unfold dQ;rw[rz,if_pos ((eg ok).mpr h)];rfl
def Hf (e:Sb)(d:Int)(s6 s7 s9 s10 s11 s12:Option Vl)(done:List (Nat×Nat))(ρ:Sl):Prop:=∃h s13 s14,tX (nh e d) done (cj e d).length h/\(∀p∈done,p.1<(cj e d).length/\p.2<(cj e d).length)/\ρ=qH e d (dQ (cj e d)) s6 s7 (Ba h) s9 s10 s11 s12 s13 s14
theorem FI (ok:dE e){a:Int×Int}{i x:Nat}{q:List Nat}{w:List Nat}{s:List Int}{h:List Nat}{done:List (Nat×Nat)}{s6 s7:Option Vl}(ha:e.ar1[i]?=some a)(hw:e.ws[i]?=some w)(hs:e.steps[i]?=some s)(hq:q∈fu e.k2 e.ar2 (gI e.pl a.2) d)(hx:x<s.length)
  (t:tX (nh e d) done (cj e d).length h) (inn:∀p∈done,p.1<(cj e d).length/\p.2<(cj e d).length):∃h',tX (nh e d) (done++[sL e d (lu e (a,i) q x)]) (cj e d).length h'/\(∀p∈done++[sL e d (lu e (a,i) q x)],p.1<(cj e d).length/\p.2<(cj e d).length) ∧
   qC (qH e d (dQ (cj e d)) s6 s7 (Ba h) (some (cH a,false)) (some (ck w,false)) (some (cR s,false)) (some (ck q,false)) (some (.int (x:Int),false)) (some (.int (gI s (x:Int)),false))) =
    some (.next (qH e d (dQ (cj e d)) s6 s7 (Ba h') (some (cH a,false)) (some (ck w,false)) (some (cR s,false)) (some (ck q,false)) (some (.int (x:Int),false)) (some (.int (gI s (x:Int)),false)))):=by
 have wa:=ok.w1.ok a (az ha);have pk:=dU ok (show 0<=a.2 by omega) wa.2.2;have cq:=(ia ok.w2 ok.h4 pk.1 pk.2).mp hq;obtain⟨ls,ms⟩:=ok.b.st i a s ha hs;have n0:=gZ ok.b.nn a.1;have r:iy e d (a.1,w++q,(x:Int)) (a.2,q,gI s (x:Int)):=⟨i,a,w,q,s,(x:Int),ha,hw,hs,cq.1,cq.2,by omega,by omega,rfl,rfl⟩;obtain⟨i1,i2⟩:=mV ok r;have et:lu e (a,i) q x=((a.1,w++q,(x:Int)),(a.2,q,gI s (x:Int))):=by
  unfold lu;rw[ag,hw,ag,hs];rfl
 have m1:=List.idxOf_lt_length_iff.mpr ((eg ok).mpr i1);have m2:=List.idxOf_lt_length_iff.mpr ((eg ok).mpr i2);have hm:sL e d (lu e (a,i) q x)∈nh e d:=by
  rw[et];exact List.mem_map.mpr ⟨((a.1,w++q,(x:Int)),(a.2,q,gI s (x:Int))),(lQ ok).mpr r,rfl⟩
 rw[et] at hm ⊢;obtain⟨h',e1,t'⟩:=FG t inn hm m1 m2;refine⟨h',t',fun p hp=>?_,?_⟩
 ·rcases List.mem_append.mp hp with z|z
  ·exact inn p z
  ·rw[List.mem_singleton.mp z];exact⟨m1,m2⟩
 ·have sq:=qG ok i2;have pk1:=dU ok wa.1 (show a.1<e.k1 by omega);have cw:=mF ok.w2 pk1.1 pk1.2 (ok.s.way i a w ha hw).1;have h4:=ok.h4;have pa:=wc (p:=w) (q:=q) (by dsimp only at sq;omega);generalize hρ:qH e d (dQ (cj e d)) s6 s7 (Ba h) (some (cH a,false)) (some (ck w,false)) (some (cR s,false)) (some (ck q,false)) (some (.int (x:Int),false)) (some (.int (gI s (x:Int)),false))=ρ;have b9:b7 9 ρ=some (cH a):=by rw[<-hρ];rfl
  have k1:(dM (b4 (d2 cL (b7 9) (cA (dC (.int 0)))) (b4 (d2 eD (b7 10) (b7 12)) (b4 (cf 13) cv)))) ρ=some (cS (a.1,w++q,(x:Int)),false) :=
   w9 (o:=false) (o':=false) (o'':=false) (by rw[d2,b9];exact lz a) (by rw[d2,<-hρ];exact pa) (by rw[<-hρ];rfl)
  have k2:(dM (b4 (d2 cL (b7 9) (cA (dC (.int 1)))) (b4 (cf 12) (b4 (cf 14) cv)))) ρ=some (cS (a.2,q,gI s (x:Int)),false) :=
   w9 (o:=false) (o':=false) (o'':=false) (by rw[d2,b9];exact oh a) (by rw[<-hρ];rfl) (by rw[<-hρ];rfl)
  have b5:b7 5 ρ=some (.dict (dQ (cj e d))):=by rw[<-hρ];rfl
  have l1:(d2 pD (b7 5) (cA (dM (b4 (d2 cL (b7 9) (cA (dC (.int 0)))) (b4 (d2 eD (b7 10) (b7 12)) (b4 (cf 13) cv)))))) ρ=some (.int ((cj e d).idxOf (a.1,w++q,(x:Int)):Int),false):=by
   rw[d2,b5,cA,k1];exact Fb ok i1
  have l2:(d2 pD (b7 5) (cA (dM (b4 (d2 cL (b7 9) (cA (dC (.int 1)))) (b4 (cf 12) (b4 (cf 14) cv)))))) ρ=some (.int ((cj e d).idxOf (a.2,q,gI s (x:Int)):Int),false):=by
   rw[d2,b5,cA,k2];exact Fb ok i2
  have ow:qo 8 ρ=some (eR h):=by rw[<-hρ];exact rC h
  rw[qC,ui,ow,aa,b4,l1,b4,l2];show ((tY (eR h) [.int ((cj e d).idxOf (a.1,w++q,(x:Int)):Int),.int ((cj e d).idxOf (a.2,q,gI s (x:Int)):Int)]).bind _)=_;rw[e1,<-hρ];rfl
theorem Hj (ok:dE e){a:Int×Int}{i:Nat}{q:List Nat}{w:List Nat}{s:List Int}{done:List (Nat×Nat)}{ρ:Sl}{s6 s7:Option Vl}(ha:e.ar1[i]?=some a)(hw:e.ws[i]?=some w)(hs:e.steps[i]?=some s)(hq:q∈fu e.k2 e.ar2 (gI e.pl a.2) d)
  (hn:done.length+(gI e.rows a.1).toNat<=1000000) (hP:Hf e d s6 s7 (some (cH a,false)) (some (ck w,false)) (some (cR s,false)) (some (ck q,false)) done ρ) :
  ∃ρ',qB ρ=some (.next ρ')/\Hf e d s6 s7 (some (cH a,false)) (some (ck w,false)) (some (cR s,false)) (some (ck q,false)) (done++(aj (gI e.rows a.1).toNat).map fun x=>sL e d (lu e (a,i) q x)) ρ':=by
 obtain⟨ls,ms⟩:=ok.b.st i a s ha hs;have n0:=gZ ok.b.nn a.1;have hr:(eY (eo 11)) ρ=some ((aj (gI e.rows a.1).toNat).map fun (x:Nat)=>.tuple [.int (x:Int),.int (gI s (x:Int))]):=by
  rw[<-rH];obtain⟨h,s13,s14,_,_,eq⟩:=hP;rw[eq];show some (eZ 0 (s.map .int))=_;congr 2;refine bD fun j=>?_;rw[au,au];by_cases hj:j<s.length
  ·rw[ao hj,bc ⋯];unfold gI;rw[av,av,aV,ag,ao hj];rfl
  ·rw[aT ⋯,aT (by rw[aD];omega)];rfl
 obtain⟨ρ',h1,h2⟩:=kW (g:=gT [gN 13,gN 14]) (b:=qC) (d:=fun (x:Nat)=>.tuple [.int (x:Int),.int (gI s (x:Int))]) (f:=fun x=>sL e d (lu e (a,i) q x)) (P:=Hf e d s6 s7 (some (cH a,false)) (some (ck w,false)) (some (cR s,false)) (some (ck q,false))) 1000000 (aj (gI e.rows a.1).toNat) done ρ hP (by rw[aD];exact hn)
  (fun x hx acc ρ ⟨h,u13,u14,t,inn,eq⟩ _=>by
   rw[aY] at hx;obtain⟨h',t',inn',hb⟩:=FI (s6:=s6) (s7:=s7) ok ha hw hs hq (x:=x) ⋯ t inn;exact⟨_,_,by rw[eq];rfl,hb,h',_,_,t',inn',rfl⟩)
 exact⟨ρ',by rw[qB,dS hr,h1],h2⟩
theorem Bz (ok:dE e){c:Int}(h0:0<=c)(h1:c<e.k1):cL (dO e d) (.int c)=some (.list ((fu e.k2 e.ar2 (gI e.pl c) d).map ck),false):=by
 unfold dO cL;dsimp only;rw[oz h0 (d:=kN e d c.toNat) (by rw[au,bc ⋯,av])];unfold kN;rw[show ((c.toNat:Nat):Int)=c by omega];rfl
theorem Hi (ok:dE e){a:Int×Int}{i:Nat}{w:List Nat}{s:List Int}{done:List (Nat×Nat)}{h:List Nat}{s6 s7 s12 s13 s14:Option Vl}(ha:e.ar1[i]?=some a)(hw:e.ws[i]?=some w)(hs:e.steps[i]?=some s)
  (hn:done.length+((fu e.k2 e.ar2 (gI e.pl a.2) d).flatMap fun q=>(aj (gI e.rows a.1).toNat).map fun x=>sL e d (lu e (a,i) q x)).length<=1000000)
  (t:tX (nh e d) done (cj e d).length h) (inn:∀p∈done,p.1<(cj e d).length/\p.2<(cj e d).length) :
  ∃ρ' t12,qA (qH e d (dQ (cj e d)) s6 s7 (Ba h) (some (cH a,false)) (some (ck w,false)) (some (cR s,false)) s12 s13 s14)=some (.next ρ')/\Hf e d s6 s7 (some (cH a,false)) (some (ck w,false)) (some (cR s,false)) t12 (done++(fu e.k2 e.ar2 (gI e.pl a.2) d).flatMap fun q=>(aj (gI e.rows a.1).toNat).map fun x=>sL e d (lu e (a,i) q x)) ρ':=by
 have wa:=ok.w1.ok a (az ha);have rx:=Bz (d:=d) ok (c:=a.2) ⋯ wa.2.2;have hr:(du (fT (d2 cL (b7 3) (cA (d2 cL (b7 9) (cA (dC (.int 1)))))))) (qH e d (dQ (cj e d)) s6 s7 (Ba h) (some (cH a,false)) (some (ck w,false)) (some (cR s,false)) s12 s13 s14)=some ((fu e.k2 e.ar2 (gI e.pl a.2) d).map ck):=by
  show ((((cL (cH a) (.int 1)).map (·.1)).bind fun y=>cL (dO e d) y).bind fun x=>dP x.1)=_;rw[oh];show ((cL (dO e d) (.int a.2)).bind fun x=>dP x.1)=_;rw[rx];rfl
 obtain⟨ρ',h1,t12,h2⟩:=kU (g:=gN 12) (b:=qB) (d:=ck) (f:=fun q=>(aj (gI e.rows a.1).toNat).map fun x=>sL e d (lu e (a,i) q x)) (P:=fun done ρ=>∃s12,Hf e d s6 s7 (some (cH a,false)) (some (ck w,false)) (some (cR s,false)) s12 done ρ) 1000000 (fu e.k2 e.ar2 (gI e.pl a.2) d) done _ ⟨s12,h,s13,s14,t,inn,rfl⟩ hn
  (fun q hq acc ρ ⟨u12,h',u13,u14,t',inn',eq⟩ hl=>by
   rw[af,aD] at hl;obtain⟨ρ2,hb,hP⟩:=Hj (s6:=s6) (s7:=s7) ok ha hw hs hq hl ⟨h',u13,u14,t',inn',rfl⟩;exact⟨_,ρ2,by rw[eq];rfl,hb,_,hP⟩)
 exact⟨ρ',t12,by rw[qA,dS hr,h1],h2⟩
theorem C8 (ok:dE e):e.ar1.zip (e.ws.zip e.steps)=e.ar1.zipIdx.map fun p=>(p.1,e.ws.getD p.2 [],e.steps.getD p.2 []):=by
 have l1:=ok.s.wl;have l2:=ok.b.sl;refine bD fun i=>?_;rw[au,bB];by_cases hi:i<e.ar1.length
 ·rw[ao (by rw[bP,bP];omega),List.getElem_zip,List.getElem_zip,ao hi];simp[ag,show i<e.ws.length by omega,show i<e.steps.length by omega]
 ·rw[aT (by rw[bP,bP];omega),aT ⋯];rfl
theorem Dk (ok:dE e)(sm:mL e)(hz:(cj e d).length<1000000)(hn:(mN e d).length<=1000000):∃h,nU [gR e,iu e,il e,dO e d,.list ((cj e d).map cS)]=some (.list ((eR h).map .int),true)/\tX (nh e d) (nh e d) (cj e d).length h:=by
 have run:nU [gR e,iu e,il e,dO e d,.list ((cj e d).map cS)]=(yA [some (gR e,false),some (iu e,false),some (il e,false),some (dO e d,false),some (.list ((cj e d).map cS),false),none,none,none,none,none,none,none,none,none,none]).bind eP:=rfl;have h0:qO 5 [some (gR e,false),some (iu e,false),some (il e,false),some (dO e d,false),some (.list ((cj e d).map cS),false),none,none,none,none,none,none,none,none,none,none]=some (.next (qH e d [] none none none none none none none none none)):=by
  have nd:pE (([some (gR e,false),some (iu e,false),some (il e,false),some (dO e d,false),some (.list ((cj e d).map cS),false),none,none,none,none,none,none,none,none,none,none]:Sl).set 5 none)=true:=AB fun s hs=>by
   have hs':s∈[some (gR e,false),some (iu e,false),some (il e,false),some (dO e d,false),some (.list ((cj e d).map cS),false),none,none,none,none,none,none,none,none,none,none]:=hs;simp only[bt,bo,or_false] at hs';rcases hs' with rfl|rfl|rfl|rfl|rfl|rfl|rfl|rfl|rfl|rfl|rfl|rfl|rfl|rfl|rfl <;> first|exact HG|exact DK
  rw[qO,if_pos ⟨nd,by simp⟩];rfl
 obtain⟨s6,s7,h1⟩:=Bn (e:=e) (d:=d) hz;have h2:cF 8 (rT (cP (d1 fF (b7 4)))) (qH e d (dQ (cj e d)) s6 s7 none none none none none none none)=some (.next (qH e d (dQ (cj e d)) s6 s7 (Ba (aj (cj e d).length)) none none none none none none)):=by
  have hl:(d1 fF (b7 4)) (qH e d (dQ (cj e d)) s6 s7 none none none none none none none)=some (.int ((cj e d).length:Int),false):=by
   show some ((PyData.int (((cj e d).map cS).length:Int),false):Vl)=_;rw[af]
  have hr:=dB (o:=false) hl ⋯ ⋯;rw[aV,da] at hr;rw[cF,rT,hr,aa,if_pos (by rw[af,aD];omega)];show some (Fl.next _)=_;unfold Ba eR;rw[bg];rfl
 have hr:(wR (fT (d2 cL (b7 0) (cA (dC (.int 1))))) (fT (d2 cL (b7 1) (cA (dC (.int 1))))) (fT (d2 cL (b7 2) (cA (dC (.int 1)))))) (qH e d (dQ (cj e d)) s6 s7 (Ba (aj (cj e d).length)) none none none none none none)=some (e.ar1.zipIdx.map fun p=>.tuple [cH p.1,ck (e.ws.getD p.2 []),cR (e.steps.getD p.2 [])]):=by
  have z:=vJ cH ck cR e.ar1 e.ws e.steps;rw[C8 ok,bg] at z;have q1:(fT (d2 cL (b7 0) (cA (dC (.int 1))))) (qH e d (dQ (cj e d)) s6 s7 (Ba (aj (cj e d).length)) none none none none none none)=some (e.ar1.map cH):=by
   show ((cL (gR e) (.int 1)).bind fun x=>dP x.1)=_;rw[jU];rfl
  have q2:(fT (d2 cL (b7 1) (cA (dC (.int 1))))) (qH e d (dQ (cj e d)) s6 s7 (Ba (aj (cj e d).length)) none none none none none none)=some (e.ws.map ck):=by
   show ((cL (iu e) (.int 1)).bind fun x=>dP x.1)=_;rw[Bq];rfl
  have q3:(fT (d2 cL (b7 2) (cA (dC (.int 1))))) (qH e d (dQ (cj e d)) s6 s7 (Ba (aj (cj e d).length)) none none none none none none)=some (e.steps.map cR):=by
   show ((cL (il e) (.int 1)).bind fun x=>dP x.1)=_;rw[zS];rfl
  rw[wR,q1,aa,q2,aa,q3,av];rw[z];rfl
 have ef:(e.ar1.zipIdx.flatMap fun p=>(fu e.k2 e.ar2 (gI e.pl p.1.2) d).flatMap fun q=>(aj (gI e.rows p.1.1).toNat).map fun x=>sL e d (lu e p q x))=nh e d:=by
  unfold nh mN;simp only[List.map_flatMap,bg];rfl
 have hl:(nh e d).length=(mN e d).length:=by unfold nh;rw[af]
 obtain⟨ρ',f1,s9,s10,s11,s12,h,s13,s14,t,_,eq⟩:=kU (g:=gT [gN 9,gN 10,gN 11]) (b:=qA) (d:=fun (p:(Int×Int)×Nat)=>.tuple [cH p.1,ck (e.ws.getD p.2 []),cR (e.steps.getD p.2 [])]) (f:=fun p=>(fu e.k2 e.ar2 (gI e.pl p.1.2) d).flatMap fun q=>(aj (gI e.rows p.1.1).toNat).map fun x=>sL e d (lu e p q x)) (P:=fun done ρ=>∃s9 s10 s11 s12,Hf e d s6 s7 s9 s10 s11 s12 done ρ) 1000000 e.ar1.zipIdx [] _ ⟨none,none,none,none,aj (cj e d).length,none,none,tX.start _ _,(fun p hp=>nomatch hp),rfl⟩ (by rw[ef,hl,bU];omega)
  (fun p hp acc ρ ⟨u9,u10,u11,u12,h,u13,u14,t,inn,eq⟩ hl=>by
   have ha:e.ar1[p.2]?=some p.1:=List.mem_zipIdx_iff_getElem?.mp hp;have lt:=(List.getElem?_eq_some_iff.mp ha).1;have l1:=ok.s.wl;have l2:=ok.b.sl;have hw:e.ws[p.2]?=some (e.ws.getD p.2 []):=by rw[ag,ao (show p.2<e.ws.length by omega)];rfl
   have hs:e.steps[p.2]?=some (e.steps.getD p.2 []):=by rw[ag,ao (show p.2<e.steps.length by omega)];rfl
   obtain⟨ρ2,t12,hb,hP⟩:=Hi (d:=d) (s6:=s6) (s7:=s7) (s12:=u12) (s13:=u13) (s14:=u14) ok ha hw hs hl t inn;exact⟨_,ρ2,by rw[eq];rfl,hb,_,_,_,t12,hP⟩)
 rw[ef,bM] at t;refine⟨h,?_,t⟩;rw[run,yA,cJ h0,cJ h1,cJ h2,cG,dS hr,f1,aa,eq];rfl
noncomputable def vA (e:Sb)(acc:List D)(s5 s6 s7:Option Vl):Sl:=[some (gR e,false),some (jb e,false),some (iu e,false),some (il e,false),some (.list acc,true),s5,s6,s7]
theorem Ah (ok:dE e)(sm:mL e){acc:List D}{s6 s7:Option Vl}:(dN (du (fT (d2 cL (b7 2) (cA (dC (.int 0)))))) 1 [1,5] (gN 0) gF iN) (vA e acc (some (.int d,false)) s6 s7)=some (dO e d,true):=by
 have l:=ok.s.len;have k1:=sm.k1;have hr:(du (fT (d2 cL (b7 2) (cA (dC (.int 0)))))) (vA e acc (some (.int d,false)) s6 s7)=some ((aj e.k1.toNat).map fun (c:Nat)=>.int (gI e.pl (c:Int))):=by
  show ((cL (iu e) (.int 0)).bind fun x=>dP x.1)=_;rw[ub];show some (e.pl.map PyData.int)=_;congr 1;refine bD fun i=>?_;rw[au,au];by_cases hi:i<e.pl.length
  ·rw[ao hi,bc ⋯];unfold gI;rw[av,av,aV,ag,ao hi];rfl
  ·rw[aT ⋯,aT (by rw[aD];omega)];rfl
 have cm:=eB (it:=du (fT (d2 cL (b7 2) (cA (dC (.int 0)))))) (n:=1) (ix:=[1,5]) (g:=gN 0) (e:=iN) (ρ:=vA e acc (some (.int d,false)) s6 s7) (d:=fun (c:Nat)=>.int (gI e.pl (c:Int))) (β:=kN e d) (aj e.k1.toNat) hr (by rw[aD];omega) (fun c hc=>by
  rw[aY] at hc;have pk:=dU ok (c:=(c:Int)) ⋯ ⋯;exact⟨_,true,rfl,(show _=mI [jb e,.int (gI e.pl (c:Int)),.int d] from rfl).trans (BH ok.w2 ok.h4 sm.a2 pk.1 pk.2)⟩)
 exact cm
theorem DD (ok:dE e)(sm:mL e){acc:List D}{s6 s7:Option Vl}(hl:acc.length<1000000)(hz:(cj e d).length<1000000)(hn:(mN e d).length<=1000000):∃t6 t7,
  iR (vA e acc (some (.int d,false)) s6 s7)=some (.next (vA e (acc++[.dict (eT e d)]) (some (.int d,false)) t6 t7)):=by
 obtain⟨h,e1,t⟩:=Dk (d:=d) ok sm hz hn;obtain⟨ms,e2⟩:=wz ok t hz;refine⟨some (dO e d,false),some (.list ((cj e d).map cS),false),?_⟩;have q1:(fL 6 (cF 6 (dN (du (fT (d2 cL (b7 2) (cA (dC (.int 0)))))) 1 [1,5] (gN 0) gF iN))) (vA e acc (some (.int d,false)) s6 s7)=some (.next (vA e acc (some (.int d,false)) (some (dO e d,false)) s7)):=by
  rw[fL,cF,Ah ok sm,aa];rfl
 have q2:(fL 7 (cF 7 (cD eG (b4 (cf 6) (b4 (cf 3) cv))))) (vA e acc (some (.int d,false)) (some (dO e d,false)) s7)=some (.next (vA e acc (some (.int d,false)) (some (dO e d,false)) (some (.list ((cj e d).map cS),false)))):=by
  have c:(cD eG (b4 (cf 6) (b4 (cf 3) cv))) (vA e acc (some (.int d,false)) (some (dO e d,false)) s7)=some (.list ((cj e d).map cS),true):=CV ok sm ⋯;rw[fL,cF,c,aa];rfl
 have q3:(rV gK (cf 7) (cD nU (b4 (cf 0) (b4 (cf 2) (b4 (cf 3) (b4 (cf 6) (b4 (cf 7) cv))))))) (vA e acc (some (.int d,false)) (some (dO e d,false)) (some (.list ((cj e d).map cS),false)))=some (.dict (eT e d),false):=by
  have c:(cD nU (b4 (cf 0) (b4 (cf 2) (b4 (cf 3) (b4 (cf 6) (b4 (cf 7) cv)))))) (vA e acc (some (.int d,false)) (some (dO e d,false)) (some (.list ((cj e d).map cS),false)))=some (.list ((eR h).map .int),true):=e1;have v:cf 7 (vA e acc (some (.int d,false)) (some (dO e d,false)) (some (.list ((cj e d).map cS),false)))=some (.list ((cj e d).map cS),false):=rfl;rw[rV,v,aa,c,aa];show ((iB ((eR h).map .int)).bind fun ns=>(gK ns [.list ((cj e d).map cS)]).map fun r=>((r.1,false):Vl))=_;rw[rC,aa,e2];rfl
 rw[iR,cJ q1,cJ q2,gp,q3,aa];show ((if acc.length<sizeLine then some (acc++[.dict (eT e d)]) else none).map fun ys=>Fl.next _)=_;rw[if_pos (xJ hl)];rfl
theorem o6 (ok:dE e)(sm:mL e)(fw:lD e):df [gR e,jb e,iu e,il e]=some (jN e,true):=by
 have k0:=ok.w2.lo;have k4:=ok.h4;have run:df [gR e,jb e,iu e,il e]=(k7 [some (gR e,false),some (jb e,false),some (iu e,false),some (il e,false),none,none,none,none]).bind eP:=rfl;have h0:(cF 4 (cW cv)) [some (gR e,false),some (jb e,false),some (iu e,false),some (il e,false),none,none,none,none]=some (.next (vA e [] none none none)):=by simp[cF,cW,cv,Dn,vA]
 have hr:(cP (d2 cL (b7 1) (cA (dC (.int 0))))) (vA e [] none none none)=some ((aj e.k2.toNat).map fun (x:Nat)=>.int (x:Int)):=by
  rw[<-da];exact dB (o:=false) (by simp[vA,d2,b7,cA,dC,lS]) ⋯ ⋯
 obtain⟨ρ',h1,s5,s6,s7,h2⟩:=kW (g:=gN 5) (b:=iR) (d:=fun (x:Nat)=>.int (x:Int)) (f:=fun (d:Nat)=>(.dict (eT e (d:Int)):D)) (P:=fun acc ρ=>∃s5 s6 s7,ρ=vA e acc s5 s6 s7) 1000000 (aj e.k2.toNat) [] _ ⟨none,none,none,rfl⟩ (by rw[aD,bU];omega)
  (fun x hx acc ρ ⟨u5,u6,u7,eq⟩ hl=>by
   rw[aY] at hx;have f:=fw (x:Int) ⋯ ⋯;obtain⟨t6,t7,hb⟩:=DD (d:=(x:Int)) (s6:=u6) (s7:=u7) ok sm hl ⋯ f.2;exact⟨_,_,by rw[eq];rfl,hb,_,t6,t7,rfl⟩)
 rw[run,k7,cJ h0,cG,dS hr,h1,aa,h2,bM];rfl
end
section
variable {e:Sb}{d:Int}
theorem Ek (e:Sb)(d:Int):yo (.dict (eT e d))=some ((cj e d).map fun t=>.tuple [cS t,.int (ju e d t)]):=by
 show (if fS (eT e d)=true then some ((eT e d).map fun p=>PyData.tuple [p.1,p.2]) else none)=_;rw[show fS (eT e d)=true from mD _ _,if_pos rfl];unfold eT lY;rw[bg];rfl
theorem oG (ok:dE e)(hz:(cj e d).length<1000000):cV [.dict (eT e d)]=some (.list ((fs e d).map cS),true):=by
 have hr:(uP (cf 0)) [some (.dict (eT e d),false),some (.list [],true),none,none]=some ((cj e d).map fun t=>.tuple [cS t,.int (ju e d t)]):=Ek e d;obtain⟨ρ',h1,s2,s3,h2⟩:=qq (g:=gT [gN 2,gN 3]) (b:=gf) (d:=fun t=>.tuple [cS t,.int (ju e d t)]) (P:=fun pre ρ=>∃s2 s3,ρ=[some (.dict (eT e d),false),some (.list ((pre.filter (fh (cj e d) (iy e d))).map cS),true),s2,s3]) (cj e d) (cj e d) [] _ rfl ⟨none,none,rfl⟩
  (fun pre t post ρ hw zz=>by
   obtain ⟨u2,u3,eq⟩:=zz;have ht:t∈cj e d:=hw▸by simp
   have hl:(pre++t::post).length=(cj e d).length:=by rw[hw]
   rw[aw,aJ] at hl;have fl:(pre.filter (fh (cj e d) (iy e d))).length<=pre.length:=JO _ _;have fst:=yv (r:=iy e d) (iU e d) hw;have tst:(dk (b7 3) [(o4,(cA (d1 fF (b7 1))))]) [some (.dict (eT e d),false),some (.list ((pre.filter (fh (cj e d) (iy e d))).map cS),true),some (cS t,false),some (.int (ju e d t),false)]=some (fh (cj e d) (iy e d) t):=by
    show o4 (.int (ju e d t)) (.int ((((pre.filter (fh (cj e d) (iy e d))).map cS).length:Nat):Int))=_;rw[ft,af];congr 1;rw[Bool.eq_iff_iff,decide_eq_true_eq,<-fst];unfold ju;omega
   refine⟨[some (.dict (eT e d),false),some (.list ((pre.filter (fh (cj e d) (iy e d))).map cS),true),some (cS t,false),some (.int (ju e d t),false)],[some (.dict (eT e d),false),some (.list (((pre++[t]).filter (fh (cj e d) (iy e d))).map cS),true),some (cS t,false),some (.int (ju e d t),false)],by rw[eq];rfl,?_,_,_,rfl⟩;rw[gf,b3];cases hb:fh (cj e d) (iy e d) t with
   |true =>
    rw[hb] at tst;have hz':((pre.filter (fh (cj e d) (iy e d))).map cS).length<sizeLine:=xJ (by rw[af];omega);rw[Cc tst];show ((if ((pre.filter (fh (cj e d) (iy e d))).map cS).length<sizeLine then some ((pre.filter (fh (cj e d) (iy e d))).map cS++[cS t]) else none).map fun ys=>Fl.next _)=_;rw[if_pos hz',bJ,hb,if_pos rfl,List.filter_nil,aX];rfl
   |false =>
    rw[hb] at tst;rw[Cd tst,bJ,hb,if_neg Bool.false_ne_true,List.filter_nil,bj];rfl)
 have run:cV [.dict (eT e d)]=(jf [some (.dict (eT e d),false),none,none,none]).bind eP:=rfl;have h0:(cF 1 (cW cv)) [some (.dict (eT e d),false),none,none,none]=some (.next [some (.dict (eT e d),false),some (.list [],true),none,none]):=by simp[cF,cW,cv,Dn]
 rw[run,jf,cJ h0,cG,dS hr,show eA (gT [gN 2,gN 3]) gf ((cj e d).map fun t=>PyData.tuple [cS t,.int (ju e d t)]) [some (.dict (eT e d),false),some (.list [],true),none,none]=_ from h1,aa,h2];rfl
noncomputable def vB (e:Sb)(s6 s7 s8 s9:Option Vl):Sl:=[some (gR e,false),some (jb e,false),some (iu e,false),some (il e,false),some (jN e,false),some (HY e,false),s6,s7,s8,s9]
theorem HH (ok:dE e)(fw:lD e){a:Int×Int}{b:Nat}{acc:List (List Int)}{s9:Option Vl}(ha:e.ar2[b]?=some a)(hn:acc.length<1000000):∃t9,
  lj (vB e (some (.list (acc.map cR),true)) (some (.int (b:Int),false)) (some (cH a,false)) s9)=some (.next (vB e (some (.list ((acc++[xi e (a,b)]).map cR),true)) (some (.int (b:Int),false)) (some (cH a,false)) t9)):=by
 have wa:=ok.w2.ok a (az ha);have fl:=va e a.1;have f1:=(fw a.1 wa.1 ⋯).1;have x0:=HX e (d:=a.1) wa.1 ⋯;have x1:=zJ e (d:=a.2) ⋯ wa.2.2;have h0:(cF 9 (d2 cL (b7 4) (cA (d2 cL (b7 8) (cA (dC (.int 1))))))) (vB e (some (.list (acc.map cR),true)) (some (.int (b:Int),false)) (some (cH a,false)) s9)=some (.next (vB e (some (.list (acc.map cR),true)) (some (.int (b:Int),false)) (some (cH a,false)) (some (.dict (eT e a.2),false)))):=by
  have q:(d2 cL (b7 4) (cA (d2 cL (b7 8) (cA (dC (.int 1)))))) (vB e (some (.list (acc.map cR),true)) (some (.int (b:Int),false)) (some (cH a,false)) s9)=some (.dict (eT e a.2),false):=by
   show (((cL (cH a) (.int 1)).map (·.1)).bind fun y=>cL (jN e) y)=_;rw[oh];exact x1
  rw[cF,q,aa];rfl
 have hr:(du (fT (d2 cL (b7 5) (cA (d2 cL (b7 8) (cA (dC (.int 0)))))))) (vB e (some (.list (acc.map cR),true)) (some (.int (b:Int),false)) (some (cH a,false)) (some (.dict (eT e a.2),false)))=some ((fs e a.1).map cS):=by
  show ((((cL (cH a) (.int 0)).map (·.1)).bind fun y=>cL (HY e) y).bind fun x=>dP x.1)=_;rw[lz];show ((cL (HY e) (.int a.1)).bind fun x=>dP x.1)=_;rw[x0];rfl
 have c:=eB (it:=du (fT (d2 cL (b7 5) (cA (d2 cL (b7 8) (cA (dC (.int 0)))))))) (n:=3) (ix:=[9,7]) (g:=gT [gN 0,gN 1,gN 2]) (e:=kZ) (ρ:=vB e (some (.list (acc.map cR),true)) (some (.int (b:Int),false)) (some (cH a,false)) (some (.dict (eT e a.2),false))) (d:=cS) (β:=fun t=>.int (ju e a.2 (xw t [b]))) (fs e a.1) hr ⋯ (fun t ht=>by
  have it:=u0 ok ht;have sh:=qG ok it;have pa:=Ap b sh;have x2:=HR ok (pF it ha rfl);refine⟨[some (.int t.1,false),some (ck t.2.1,false),some (.int t.2.2,false),some (.dict (eT e a.2),false),some (.int (b:Int),false)],false,rfl,?_⟩;have q1:(dM (b4 (cf 4) cv):ED) [some (.int t.1,false),some (ck t.2.1,false),some (.int t.2.2,false),some (.dict (eT e a.2),false),some (.int (b:Int),false)]=some (.tuple [.int (b:Int)],false):=by simp[dM,b4,cv,cf,Bo]
  have q2:(dM (b4 (cf 0) (b4 (d2 eD (b7 1) (cA (dM (b4 (cf 4) cv)))) (b4 (cf 2) cv)))) [some (.int t.1,false),some (ck t.2.1,false),some (.int t.2.2,false),some (.dict (eT e a.2),false),some (.int (b:Int),false)]=some (cS (xw t [b]),false) :=
   w9 (o:=false) (o':=false) (o'':=false) rfl (by rw[d2,cA,q1];exact pa) rfl
  rw[kZ,d2,cA,q2];exact x2)
 have hz:(acc.map cR).length<sizeLine:=xJ (by rw[af];exact hn);have q:(d1 cU (cA (dN (du (fT (d2 cL (b7 5) (cA (d2 cL (b7 8) (cA (dC (.int 0)))))))) 3 [9,7] (gT [(gN 0),(gN 1),(gN 2)]) gF kZ))) (vB e (some (.list (acc.map cR),true)) (some (.int (b:Int),false)) (some (cH a,false)) (some (.dict (eT e a.2),false)))=some (cR (xi e (a,b)),false):=by
  rw[d1,cA,c,av,aa];unfold xi cR;rw[bg];rfl
 refine⟨some (.dict (eT e a.2),false),?_⟩;rw[lj,cJ h0,gp,q,aa];show ((if (acc.map cR).length<sizeLine then some (acc.map cR++[cR (xi e (a,b))]) else none).map fun ys=>Fl.next _)=_;rw[if_pos hz,aX];rfl
theorem yG (ok:dE e)(sm:mL e)(fw:lD e):kE [gR e,jb e,iu e,il e]=some (cu (gk e) (iY e),false):=by
 have k0:=ok.w2.lo;have k4:=ok.h4;have run:kE [gR e,jb e,iu e,il e]=(pM [some (gR e,false),some (jb e,false),some (iu e,false),some (il e,false),none,none,none,none,none,none]).bind eP:=rfl;have q0:(fL 4 (cF 4 (cD df (b4 (cf 0) (b4 (cf 1) (b4 (cf 2) (b4 (cf 3) cv))))))) [some (gR e,false),some (jb e,false),some (iu e,false),some (il e,false),none,none,none,none,none,none]=some (.next [some (gR e,false),some (jb e,false),some (iu e,false),some (il e,false),some (jN e,false),none,none,none,none,none]):=by
  have c:(cD df (b4 (cf 0) (b4 (cf 1) (b4 (cf 2) (b4 (cf 3) cv))))) [some (gR e,false),some (jb e,false),some (iu e,false),some (il e,false),none,none,none,none,none,none]=some (jN e,true):=o6 ok sm fw;rw[fL,cF,c,aa];rfl
 have c1:=eB (it:=du (eo 4)) (n:=1) (ix:=[]) (g:=gN 0) (e:=nC) (ρ:=[some (gR e,false),some (jb e,false),some (iu e,false),some (il e,false),some (jN e,false),none,none,none,none,none]) (d:=fun (d:Nat)=>.dict (eT e (d:Int))) (β:=fun (d:Nat)=>.list ((fs e (d:Int)).map cS)) (aj e.k2.toNat) rfl (by rw[aD];omega) (fun x hx=>by
  rw[aY] at hx;have f:=fw (x:Int) ⋯ ⋯;exact⟨_,true,rfl,(show _=cV [.dict (eT e (x:Int))] from rfl).trans (oG ok ⋯)⟩)
 have q1:(fL 5 (cF 5 (dN (du (eo 4)) 1 [] (gN 0) gF nC))) [some (gR e,false),some (jb e,false),some (iu e,false),some (il e,false),some (jN e,false),none,none,none,none,none]=some (.next (vB e none none none none)):=by
  rw[fL,cF,c1,aa];rfl
 have h0:(cF 6 (cW cv)) (vB e none none none none)=some (.next (vB e (some (.list (([]:List (List Int)).map cR),true)) none none none)):=by simp[cF,cW,cv,Dn,vB]
 have hr:(eY (fT (d2 cL (b7 1) (cA (dC (.int 1)))))) (vB e (some (.list (([]:List (List Int)).map cR),true)) none none none)=some (e.ar2.zipIdx.map fun p=>.tuple [.int (p.2:Int),cH p.1]):=by
  rw[<-iC];show (((cL (jb e) (.int 1)).bind fun x=>dP x.1).map (eZ 0))=_;rw[jU];rfl
 have a2:=sm.a2;obtain⟨ρ',h1,t7,t8,t9,h2⟩:=kW (g:=gT [gN 7,gN 8]) (b:=lj) (d:=fun (p:(Int×Int)×Nat)=>.tuple [.int (p.2:Int),cH p.1]) (f:=xi e) (P:=fun acc ρ=>∃s7 s8 s9,ρ=vB e (some (.list (acc.map cR),true)) s7 s8 s9) 1000000 e.ar2.zipIdx [] _ ⟨none,none,none,rfl⟩ (by rw[bF];simp;omega)
  (fun p hp acc ρ ⟨u7,u8,u9,eq⟩ hl=>by
   obtain⟨t9,hb⟩:=HH (s9:=u9) ok fw (List.mem_zipIdx_iff_getElem?.mp hp) hl;exact⟨_,_,by rw[eq];rfl,hb,_,_,t9,rfl⟩)
 have c2:=eB (it:=du (eo 5)) (n:=1) (ix:=[]) (g:=gN 0) (e:=nB) (ρ:=vB e (some (.list ((iY e).map cR),true)) t7 t8 t9) (d:=fun (d:Nat)=>.list ((fs e (d:Int)).map cS)) (β:=fun (d:Nat)=>.int ((fs e (d:Int)).length:Int)) (aj e.k2.toNat) rfl (by rw[aD];omega) (fun x hx=>⟨_,false,rfl,by
  show some ((PyData.int (((fs e (x:Int)).map cS).length:Int),false):Vl)=_;rw[af]⟩)
 have q3:(d1 cU (cA (dN (du (eo 5)) 1 [] (gN 0) gF nB))) (vB e (some (.list ((iY e).map cR),true)) t7 t8 t9)=some (cR (gk e),false):=by
  rw[d1,cA,c2,av,aa];unfold gk cR;rw[bg];rfl
 have q4:(d1 cU (b7 6)) (vB e (some (.list ((iY e).map cR),true)) t7 t8 t9)=some (.tuple ((iY e).map cR),false):=rfl;rw[run,pM,cJ q0,cJ q1,cJ h0,cG,dS hr,h1,aa,h2,bM];show ((dI _) (vB e (some (.list ((iY e).map cR),true)) t7 t8 t9)).bind eP=_;rw[dI,Ii q3 q4];rfl
noncomputable def Al (e:Sb)(s5 s6 s7:Option Vl):Sl:=[some (gR e,false),some (jb e,false),some (iu e,false),some (il e,false),some (jN e,false),s5,s6,s7]
theorem HD (ok:dE e)(sm:mL e){p:Int×Nat}{acc:List (List Int)}(hp:p∈e.pl.zipIdx)(hn:acc.length<1000000) :
  qz (Al e (some (.list (acc.map cR),true)) (some (.int (p.2:Int),false)) (some (.int p.1,false)))=some (.next (Al e (some (.list ((acc++[zZ e p]).map cR),true)) (some (.int (p.2:Int),false)) (some (.int p.1,false)))):=by
 have hp':e.pl[p.2]?=some p.1:=List.mem_zipIdx_iff_getElem?.mp hp;have l:=ok.s.len;have lb:=ok.b.len;have hl:=(List.getElem?_eq_some_iff.mp hp').1;have pg:gI e.pl (p.2:Int)=p.1:=by
  unfold gI;rw[aV,ag,hp'];rfl
 have pk:=dU ok (show 0<=(p.2:Int) by omega) ⋯;rw[pg] at pk;have n0:=gZ ok.b.nn (p.2:Int);have n1:=ji (m:=1000) ⋯ sm.rw (p.2:Int);have ix:=ir (xs:=e.rows) (i:=(p.2:Int)) ⋯ ⋯;have x1:=zJ e pk.1 pk.2;have hr:(cP (d2 cL (cA (d2 cL (b7 3) (cA (dC (.int 0))))) (b7 6))) (Al e (some (.list (acc.map cR),true)) (some (.int (p.2:Int),false)) (some (.int p.1,false)))=some ((aj (gI e.rows (p.2:Int)).toNat).map fun (x:Nat)=>.int (x:Int)):=by
  rw[<-da];exact dB (o:=false) (by simp[Al,d2,b7,cA,dC,oX,ix]) n0 ⋯
 have c:=eB (it:=cP (d2 cL (cA (d2 cL (b7 3) (cA (dC (.int 0))))) (b7 6))) (n:=1) (ix:=[4,7,6]) (g:=gN 0) (e:=qu) (ρ:=Al e (some (.list (acc.map cR),true)) (some (.int (p.2:Int),false)) (some (.int p.1,false))) (d:=fun (x:Nat)=>.int (x:Int)) (β:=fun (x:Nat)=>.int (ju e p.1 ((p.2:Int),[],(x:Int)))) (aj (gI e.rows (p.2:Int)).toNat) hr (by rw[aD];omega) (fun x hx=>by
  rw[aY] at hx;have it:=kG (e:=e) (c:=(p.2:Int)) (x:=(x:Int)) ⋯ ⋯ ⋯ ⋯;rw[pg] at it;have x2:=HR ok it;refine⟨[some (.int (x:Int),false),some (jN e,false),some (.int p.1,false),some (.int (p.2:Int),false)],false,rfl,?_⟩;have q0:(dM cv:ED) [some (.int (x:Int),false),some (jN e,false),some (.int p.1,false),some (.int (p.2:Int),false)]=some (.tuple [],false):=by simp[dM,cv,Dn]
  have q2:(dM (b4 (cf 3) (b4 (dM cv) (b4 (cf 0) cv)))) [some (.int (x:Int),false),some (jN e,false),some (.int p.1,false),some (.int (p.2:Int),false)]=some (cS ((p.2:Int),[],(x:Int)),false):=w9 (o:=false) (o':=false) (o'':=false) (by simp[cf]) q0 (by simp[cf]);rw[qu,d2,cA,cA,q2];simp only[d2,b7,aK,aL,aa,av,x1,x2])
 have hz:(acc.map cR).length<sizeLine:=xJ (by rw[af];exact hn);have q:(d1 cU (cA (dN (cP (d2 cL (cA (d2 cL (b7 3) (cA (dC (.int 0))))) (b7 6))) 1 [4,7,6] (gN 0) gF qu))) (Al e (some (.list (acc.map cR),true)) (some (.int (p.2:Int),false)) (some (.int p.1,false)))=some (cR (zZ e p),false):=by
  rw[d1,cA,c,av,aa];unfold zZ cR;rw[bg];rfl
 rw[qz,gp,q,aa,lE];simp only[Al,aK,aL,hz,if_true,av,bX,aX,aA,bL]
theorem Dg (ok:dE e)(sm:mL e)(fw:lD e):se [gR e,jb e,iu e,il e]=some (.tuple ((nX e).map cR),false):=by
 have l:=ok.s.len;have k1:=sm.k1;have run:se [gR e,jb e,iu e,il e]=(yz [some (gR e,false),some (jb e,false),some (iu e,false),some (il e,false),none,none,none,none]).bind eP:=rfl;have q0:(fL 4 (cF 4 (cD df (b4 (cf 0) (b4 (cf 1) (b4 (cf 2) (b4 (cf 3) cv))))))) [some (gR e,false),some (jb e,false),some (iu e,false),some (il e,false),none,none,none,none]=some (.next (Al e none none none)):=by
  have c:(cD df (b4 (cf 0) (b4 (cf 1) (b4 (cf 2) (b4 (cf 3) cv))))) [some (gR e,false),some (jb e,false),some (iu e,false),some (il e,false),none,none,none,none]=some (jN e,true):=o6 ok sm fw;rw[fL,cF,c,aa];rfl
 have h0:(cF 5 (cW cv)) (Al e none none none)=some (.next (Al e (some (.list (([]:List (List Int)).map cR),true)) none none)):=by simp[cF,cW,cv,Dn,Al]
 have hr:(eY (fT (d2 cL (b7 2) (cA (dC (.int 0)))))) (Al e (some (.list (([]:List (List Int)).map cR),true)) none none)=some (e.pl.zipIdx.map fun p=>.tuple [.int (p.2:Int),.int p.1]):=by
  rw[<-iC];show (((cL (iu e) (.int 0)).bind fun x=>dP x.1).map (eZ 0))=_;rw[ub];rfl
 obtain⟨ρ',h1,t6,t7,h2⟩:=kW (g:=gT [gN 6,gN 7]) (b:=qz) (d:=fun (p:Int×Nat)=>.tuple [.int (p.2:Int),.int p.1]) (f:=zZ e) (P:=fun acc ρ=>∃s6 s7,ρ=Al e (some (.list (acc.map cR),true)) s6 s7) 1000000 e.pl.zipIdx [] _ ⟨none,none,rfl⟩ (by rw[bF];simp;omega)
  (fun p hp acc ρ ⟨u6,u7,eq⟩ hl=>⟨_,_,by rw[eq];rfl,HD ok sm hp hl,_,_,rfl⟩)
 rw[run,yz,cJ q0,cJ h0,cG,dS hr,h1,aa,h2,bM,Fx ok];rfl
end
noncomputable def nN (ar:Ar):Nat->Int->Int->Nat
 |0,_,_=>0
 |n+1,a,b=>(if a=b then 1 else 0)+(ar.map fun p=>if p.1=a then nN ar n p.2 b else 0).sum
noncomputable def FV:Ar:=[(0,1),(0,2),(0,3),(1,2),(1,3),(2,3)]
noncomputable def yS:Nat->List Ar
 |0=>[[]]
 |n+1=>[]::(yS n).flatMap fun r=>FV.map fun p=>p::r
noncomputable def Gu:List Int:=[0,1,2,3]
noncomputable def HM:Bool:=(yS 4).all fun ar=>Gu.all fun a=>Gu.all fun b=>decide (nN ar 4 a b<=4)
theorem F6:HM=true:=by decide +kernel
theorem FU {p:Int×Int}(h0:0<=p.1)(h1:p.1<p.2)(h2:p.2<4):p∈FV:=by
 obtain⟨a,b⟩:=p;dsimp only at h0 h1 h2;have:(a=0/\b=1)\/(a=0/\b=2)\/(a=0/\b=3)\/(a=1/\b=2)\/(a=1/\b=3)\/(a=2/\b=3):=by omega
 rcases this with ⟨rfl,rfl⟩|⟨rfl,rfl⟩|⟨rfl,rfl⟩|⟨rfl,rfl⟩|⟨rfl,rfl⟩|⟨rfl,rfl⟩ <;> simp[FV]
theorem yR:∀(n:Nat) (ar:Ar),ar.length<=n->(∀p∈ar,0<=p.1/\p.1<p.2/\p.2<4)->ar∈yS n
 |0,[],_,_=>by simp[yS]
 |0,p::ar,h,_=>by simp at h
 |n+1,[],_,_=>by simp[yS]
 | n+1,p::ar,h,w=>by
  rw[yS,bt];have wp:=w p (by simp);exact .inr (List.mem_flatMap.mpr ⟨ar,yR n ar (by simpa using h) fun q hq=>w q (by simp[hq]),List.mem_map.mpr ⟨p,FU wp.1 wp.2.1 wp.2.2,rfl⟩⟩)
noncomputable def EE (ar:Ar):Nat->Int->Int->List (List Nat)
 |0,_,_=>[]
 |n+1,a,b=>(if a=b then [[]] else [])++ar.zipIdx.flatMap fun p=>if p.1.1=a then (EE ar n p.1.2 b).map fun q=>p.2::q else []
theorem vo (ar:Ar):∀(n:Nat) (a b:Int),(EE ar n a b).length=nN ar n a b
 |0,_,_=>rfl
 | n+1,a,b=>by
  have go:∀(l:Ar) (s:Nat),((l.zipIdx s).flatMap fun p=>if p.1.1=a then (EE ar n p.1.2 b).map fun q=>p.2::q else []).length=(l.map fun p=>if p.1=a then nN ar n p.2 b else 0).sum:=fun l=>by
   induction l with
   |nil=>intro s;rfl
   |cons p l ih =>
    intro s;rw[JH,bz,aw,ih,aA,List.sum_cons];congr 1;dsimp only;split
    ·rw[af,vo ar n]
    ·rfl
  rw[EE,nN,aw,go];congr 1;split <;> rfl
theorem CP {ar:Ar}:∀(n:Nat) (p:List Nat) (a b:Int),p.length<n->dG ar a p->dj ar a p=b->p∈EE ar n a b
 |0,_,_,_,h,_,_=>by omega
 | n+1,[],a,b,_,_,e=>by
  rw[iW] at e;subst e;rw[EE,if_pos rfl];simp
 | n+1,i::p,a,b,h,⟨c,g1,g2,g3⟩,e=>by
  rw[fi g1] at e;rw[EE,List.mem_append];refine .inr (List.mem_flatMap.mpr ⟨(c,i),List.mem_zipIdx_iff_getElem?.mpr g1,?_⟩);dsimp only;rw[if_pos g2];exact List.mem_map.mpr ⟨p,CP n p c.2 b (by simpa using h) g3 e,rfl⟩
theorem n5 {α:Type}[DecidableEq α]:∀{l l':List α},l.Nodup->(∀x∈l,x∈l')->l.length<=l'.length
 |[],_,_,_=>bx _
 | a::l,l',n,h=>by
  rw[List.nodup_cons] at n;have ha:=h a (by simp);have:=n5 (l:=l) (l':=l'.erase a) n.2 fun x hx=>(List.mem_erase_of_ne (fun (z:x=a)=>n.1 (z▸hx))).mpr (h x (by simp[hx]));rw[List.length_erase_of_mem ha] at this;have:=List.length_pos_of_mem ha;rw[aJ];omega
theorem xp {k:Int}{ar:Ar}(w:Wf k ar)(h4:k<=4)(ha:ar.length<=4){kind other:Int}(h0:0<=kind)(h1:kind<k):(fu k ar kind other).length<=4:=by
 by_cases ho:0<=other/\other<4
 ·have l:=n5 (l:=fu k ar kind other) (l':=EE ar 4 kind other) nR fun p hp=>by
   obtain⟨c,e⟩:=(ia w h4 h0 h1).mp hp;have:=mF w h0 h1 c;exact CP 4 p kind other ⋯ c e
  rw[vo] at l;have m:=yR 4 ar ha fun p hp=>by
   have:=w.ok p hp;omega
  have q:=List.all_eq_true.mp F6 ar m;have kin:∀{x:Int},0<=x->x<4->x∈Gu:=fun {x} x0 x1=>by
   have:x=0\/x=1\/x=2\/x=3:=by omega
   rcases this with rfl|rfl|rfl|rfl <;> simp[Gu]
  have q:=List.all_eq_true.mp (List.all_eq_true.mp q kind (kin h0 ⋯)) other (kin ho.1 ho.2);have:=of_decide_eq_true q;omega
 ·have:fu k ar kind other=[]:=by
   refine List.eq_nil_iff_forall_not_mem.mpr fun p hp=>ho ?_;obtain⟨c,e⟩:=(ia w h4 h0 h1).mp hp;have a:=oR w p kind c;have b:=oS w p kind c h1;omega
  rw[this];exact bx _
theorem mv {α β:Type}{f:α->List β}{m:Nat}:∀{l:List α},(∀x∈l,(f x).length<=m)->(l.flatMap f).length<=l.length*m
 |[],_=>by simp
 | x::l,h=>by
  have a:=h x (by simp);have b:=mv (l:=l) (f:=f) (m:=m) fun y hy=>h y (by simp[hy]);rw[bz,aw,aJ,Nat.succ_mul];omega
theorem GC {e:Sb}(ok:dE e)(k3:e.k1<=3)(a1:e.ar1.length<=5)(a2:e.ar2.length<=4)(r4:∀r∈e.rows,r<=4):lD e:=by
 intro d d0 d1;have rl:∀c:Int,(gI e.rows c).toNat<=4:=fun c=>by
  have:=ji (m:=4) ⋯ r4 c;omega
 constructor
 ·have h:(cj e d).length<=(aj e.k1.toNat).length*16:=by
   unfold cj;refine mv fun c hc=>?_;rw[aY] at hc;have pk:=dU ok (c:=(c:Int)) ⋯ ⋯;refine aS (mv (m:=4) fun p _=>?_) ?_
   ·rw[af,aD];exact rl _
   ·have:=xp ok.w2 ok.h4 a2 (other:=d) pk.1 pk.2;omega
  rw[aD] at h;omega
 ·have h:(mN e d).length<=e.ar1.zipIdx.length*16:=by
   unfold mN;refine mv fun p hp=>?_;have ha:=List.mem_zipIdx_iff_getElem?.mp hp;have wa:=ok.w1.ok p.1 (az ha);have pk:=dU ok (c:=p.1.2) ⋯ wa.2.2;refine aS (mv (m:=4) fun q _=>?_) ?_
   ·rw[af,aD];exact rl _
   ·have:=xp ok.w2 ok.h4 a2 (other:=d) pk.1 pk.2;omega
  rw[bF] at h;omega
theorem Hh {rows:List Int}{steps:List (List Int)}{s1:Option Vl}{i:Nat}{x:Int}{s:List Int}(hs:steps[i]?=some s)(h0:0<=x)(h1:x<s.length) :
  qx [some (cu rows steps,false),s1,some (.int x,false),some (.int (i:Int),false)]=some (.next [some (cu rows steps,false),s1,some (.int (gI s x),false),some (.int (i:Int),false)]):=by
 simp[qx,cF,d2,cA,b7,dC,zS,vQ hs,ir h0 h1]
theorem ET {k:Int}{ar:Ar}{rows:List Int}{steps:List (List Int)}{s1:Option Vl}(b:dq k ar rows steps):∀(p:List Nat) (kd x:Int) (z:Option Vl),dG ar kd p->0<=x->x<gI rows kd->∃z',
  eA (gN 3) qx (p.map oB) [some (cu rows steps,false),s1,some (.int x,false),z]=some (.next [some (cu rows steps,false),s1,some (.int (mK steps p x),false),z'])
 |[],kd,x,z,_,_,_=>⟨z,rfl⟩
 | i::p,kd,x,z,⟨a,g1,g2,g3⟩,h0,h1=>by
  obtain⟨s,e1,e,l,m⟩:=kJ b g1;have h1':x<s.length:=by rw[l,g2];exact h1
  have:=m _ (jd h0 h1');obtain⟨z',q⟩:=ET (s1:=s1) b p a.2 (gI s x) (some (.int (i:Int),false)) g3 this.1 this.2;refine⟨z',?_⟩;rw[aA,eA];simp only[gN,bX,aa,oB];rw[Hh e1 h0 h1',aa];dsimp only;rw[mK,e];exact q
theorem yY {k:Int}{ar:Ar}{rows:List Int}{steps:List (List Int)}(b:dq k ar rows steps){p:List Nat}{kd x:Int}(hp:dG ar kd p)(h0:0<=x)(h1:x<gI rows kd):nS [cu rows steps,ck p,.int x]=some (.int (mK steps p x),false):=by
 obtain⟨z,q⟩:=ET (s1:=some (ck p,false)) b p kd x none hp h0 h1;have run:nS [cu rows steps,ck p,.int x]=(yy [some (cu rows steps,false),some (ck p,false),some (.int x,false),none]).bind eP:=rfl;have hi:(du (eo 1)) [some (cu rows steps,false),some (ck p,false),some (.int x,false),none]=some (p.map oB):=by simp[du,eo,ck]
 rw[run,yy,cG,dW,hi,aa,q,aa];simp[dI,cf,eP]
theorem wI {pl:List Int}{ws:List (List Nat)}{ch:List (List Int)}(hl:pl.length<=1000)(hp:∀x∈pl,0<=x/\x<ch.length):iH [dZ pl ws,eN ch]=some (eN (pl.map (gC ch)),false):=by
 have run:iH [dZ pl ws,eN ch]=(nF [some (dZ pl ws,false),some (eN ch,false)]).bind eP:=rfl;have c:=eB (it:=du (fT (d2 cL (b7 0) (cA (dC (.int 0)))))) (n:=1) (ix:=[1]) (g:=gN 0) (e:=lX) (ρ:=[some (dZ pl ws,false),some (eN ch,false)]) (d:=PyData.int) (β:=fun x=>cR (gC ch x)) pl (by simp[du,fT,d2,b7,cA,dC,ub,cR,dP]) ⋯
  (fun v hv=>⟨[some (.int v,false),some (eN ch,false)],false,rfl,by
   have:=zO (hp v hv).1 (hp v hv).2;have e:cL (eN ch) (.int v)=some (cR (gC ch v),false):=this;simp[lX,d2,b7,e]⟩)
 rw[run,nF,dI,d1,cA,c];simp[cU,eP,eN,bg]
theorem sj {k k2:Int}{ar ar2:Ar}{pl:List Int}{ws:List (List Nat)}{rows:List Int}{steps:List (List Int)}(w:Wf k ar)(hk:k<=4)(ha:ar.length<=5)(s:mH k ar k2 ar2 pl ws)(b:dq k2 ar2 rows steps)(hr:∀r∈rows,r<=200) :
  gg [cc k ar,dZ pl ws,cu rows steps]=some (cu (iw pl rows) (tW ar pl ws rows steps),false):=by
 have run:gg [cc k ar,dZ pl ws,cu rows steps]=(k6 [some (cc k ar,false),some (dZ pl ws,false),some (cu rows steps,false),none,none,none,none]).bind eP:=rfl;have hl:=s.len;have hbl:=b.len;have c1:=eB (it:=du (fT (d2 cL (b7 1) (cA (dC (.int 0)))))) (n:=1) (ix:=[2]) (g:=gN 0) (e:=iM) (ρ:=[some (cc k ar,false),some (dZ pl ws,false),some (cu rows steps,false),none,none,none,none]) (d:=PyData.int) (β:=fun x=>.int (gI rows x)) pl (by simp[du,fT,d2,b7,cA,dC,ub,cR,dP]) ⋯
  (fun v hv=>⟨[some (.int v,false),some (cu rows steps,false)],false,rfl,by
   have:=s.nn v hv;have:=ir (xs:=rows) this.1 ⋯;simp[iM,d2,cA,b7,dC,oX,this]⟩)
 have q1:(cF 3 (d1 cU (cA (dN (du (fT (d2 cL (b7 1) (cA (dC (.int 0)))))) 1 [2] (gN 0) gF iM)))) [some (cc k ar,false),some (dZ pl ws,false),some (cu rows steps,false),none,none,none,none]=some (.next [some (cc k ar,false),some (dZ pl ws,false),some (cu rows steps,false),some (cR (iw pl rows),false),none,none,none]):=by
  rw[cF,d1,cA,c1];simp[cU,cR,iw,bg]
 have q2:(cF 4 (cW cv)) [some (cc k ar,false),some (dZ pl ws,false),some (cu rows steps,false),some (cR (iw pl rows),false),none,none,none]=some (.next [some (cc k ar,false),some (dZ pl ws,false),some (cu rows steps,false),some (cR (iw pl rows),false),some (.list (([]:List (List Int)).map cR),true),none,none]):=by simp[cF,cW,cv]
 have q3:(wU (fT (d2 cL (b7 0) (cA (dC (.int 1))))) (fT (d2 cL (b7 1) (cA (dC (.int 1)))))) [some (cc k ar,false),some (dZ pl ws,false),some (cu rows steps,false),some (cR (iw pl rows),false),some (.list (([]:List (List Int)).map cR),true),none,none]=some ((ar.zip ws).map fun p=>.tuple [cH p.1,ck p.2]):=by
  rw[<-qE];simp[wU,fT,d2,b7,cA,dC,jU,Bq,vL,dP]
 obtain⟨ρ',e,x,y,e'⟩:=kW (g:=gT [(gN 5),(gN 6)]) (b:=kf) (d:=fun (p:(Int×Int)×List Nat)=>.tuple [cH p.1,ck p.2]) (f:=nP pl rows steps) (P:=fun acc ρ=>∃x y,ρ=[some (cc k ar,false),some (dZ pl ws,false),some (cu rows steps,false),some (cR (iw pl rows),false),some (.list (acc.map cR),true),x,y]) 1000 (ar.zip ws) [] _ ⟨none,none,rfl⟩ (by rw[bP];simp;omega)
  (fun q hq acc ρ ⟨x,y,e⟩ hn=>⟨[some (cc k ar,false),some (dZ pl ws,false),some (cu rows steps,false),some (cR (iw pl rows),false),some (.list (acc.map cR),true),some (cH q.1,false),some (ck q.2,false)],_,by rw[e];rfl,by
   obtain⟨h1,h2,h3,h4⟩:=yX s hq;have wa:=w.ok _ h1;have i1:=ir (xs:=iw pl rows) (i:=q.1.1) wa.1 (by unfold iw;rw[af];omega);have g1:gI (iw pl rows) q.1.1=gI rows (gI pl q.1.1):=yt wa.1 ⋯;have n0:=gZ b.nn (gI pl q.1.1);have n1:=ji (m:=200) (by decide) hr (gI pl q.1.1);rw[g1] at i1;have c:=eB (it:=cP (d2 cL (b7 3) (cA (d2 cL (b7 5) (cA (dC (.int 0))))))) (n:=1) (ix:=[2,6]) (g:=gN 0) (e:=kc) (ρ:=[some (cc k ar,false),some (dZ pl ws,false),some (cu rows steps,false),some (cR (iw pl rows),false),some (.list (acc.map cR),true),some (cH q.1,false),some (ck q.2,false)]) (d:=fun (x:Nat)=>.int (x:Int)) (β:=fun (x:Nat)=>.int (mK steps q.2 (x:Int))) (aj (gI rows (gI pl q.1.1)).toNat)
    (by rw[<-da];exact dB (o:=false) (by simp[d2,b7,cA,dC,lz,i1]) n0 ⋯) (by rw[aD];omega)
    (fun x hx=>⟨[some (.int (x:Int),false),some (cu rows steps,false),some (ck q.2,false)],false,rfl,by
     rw[aY] at hx;have:=yY b h3 (x:=(x:Int)) ⋯ ⋯;simp[kc,cD,b4,cv,cf,this]⟩)
   have hz:acc.length<sizeLine:=xJ ⋯;rw[kf,gp,d1,cA,c];simp[cU,lE,hz];rfl,some (cH q.1,false),some (ck q.2,false),by simp[nP,cR]⟩)
 rw[run,k6,cJ q1,cJ q2,cG,dS q3,e,aa,e'];simp[dI,dM,b4,cv,cf,d1,b7,cU,C4,eP,cu,tW]
theorem GL {ch:List (List Int)}{c:Int}(h0:0<=c)(h1:c<ch.length):cL (.tuple (ch.map cR)) (.int c)=some (cR (gC ch c),false):=by
 unfold cL;dsimp only;rw[oz h0 (d:=cR (gC ch c)) (by rw[au,mq h0 h1];rfl)];rfl
section
variable {e:Sb}{r2:List Int}{s2 ch:List (List Int)}
noncomputable def C5 (e:Sb)(r2:List Int)(s2 ch:List (List Int))(s6 s7:Option Vl):Sl:=[some (gR e,false),some (jb e,false),some (iu e,false),some (il e,false),some (cu r2 s2,false),some (.tuple (ch.map cR),false),s6,s7]
noncomputable def HJ (e:Sb)(s2 ch:List (List Int))(d:Nat):List Int:=(fs e (d:Int)).map fun t=>mK s2 t.2.1 (gI (gC ch t.1) t.2.2)
theorem HI (ok:dE e)(b2:dq e.k2 e.ar2 r2 s2)(m:dA e.k1 e.rows (bR e r2) ch){d:Nat}{acc:List (List Int)}(hz:(cj e (d:Int)).length<1000000)(hn:acc.length<1000000) :
  mG (C5 e r2 s2 ch (some (.list (acc.map cR),true)) (some (.dict (eT e (d:Int)),false)))=some (.next (C5 e r2 s2 ch (some (.list ((acc++[HJ e s2 ch d]).map cR),true)) (some (.dict (eT e (d:Int)),false)))):=by
 have fl:=va e (d:Int);have hr:(du (fT (cD cV (b4 (cf 7) cv)))) (C5 e r2 s2 ch (some (.list (acc.map cR),true)) (some (.dict (eT e (d:Int)),false)))=some ((fs e (d:Int)).map cS):=by
  show ((cV [.dict (eT e (d:Int))]).bind fun x=>dP x.1)=_;rw[oG ok hz];rfl
 have c:=eB (it:=du (fT (cD cV (b4 (cf 7) cv)))) (n:=3) (ix:=[4,5]) (g:=gT [gN 0,gN 1,gN 2]) (e:=mw) (ρ:=C5 e r2 s2 ch (some (.list (acc.map cR),true)) (some (.dict (eT e (d:Int)),false))) (d:=cS) (β:=fun t=>.int (mK s2 t.2.1 (gI (gC ch t.1) t.2.2))) (fs e (d:Int)) hr ⋯ (fun t ht=>by
  have it:=u0 ok ht;have hl:=m.len;obtain⟨rl,rm⟩:=m.row t.1 it.c0 it.c1;have i1:=GL (ch:=ch) it.c0 (by have:=it.c1;omega);have i2:=ir (xs:=gC ch t.1) (i:=t.2.2) it.x0 (by have:=it.x1;omega);have mx:=m.at_ it.c0 it.c1 it.x0 it.x1;rw[r8 ok it.c0 it.c1] at mx;have wq:=yY b2 it.ch mx.1 mx.2;refine⟨[some (.int t.1,false),some (ck t.2.1,false),some (.int t.2.2,false),some (cu r2 s2,false),some (.tuple (ch.map cR),false)],false,rfl,?_⟩;have q1:(d2 cL (cA (d2 cL (b7 4) (b7 0))) (b7 2)) [some (.int t.1,false),some (ck t.2.1,false),some (.int t.2.2,false),some (cu r2 s2,false),some (.tuple (ch.map cR),false)]=some (.int (gI (gC ch t.1) t.2.2),false):=by
   show ((((cL (.tuple (ch.map cR)) (.int t.1)).map (·.1))).bind fun x=>cL x (.int t.2.2))=_;rw[i1];exact i2
  rw[mw,cD,b4,b4,b4,q1];exact wq)
 have q:(d1 cU (cA (dN (du (fT (cD cV (b4 (cf 7) cv)))) 3 [4,5] (gT [(gN 0),(gN 1),(gN 2)]) gF mw))) (C5 e r2 s2 ch (some (.list (acc.map cR),true)) (some (.dict (eT e (d:Int)),false)))=some (cR (HJ e s2 ch d),false):=by
  rw[d1,cA,c,av,aa];unfold HJ cR;rw[bg];rfl
 have hz':(acc.map cR).length<sizeLine:=xJ (by rw[af];exact hn);rw[mG,gp,q,aa];show ((if (acc.map cR).length<sizeLine then some (acc.map cR++[cR (HJ e s2 ch d)]) else none).map fun ys=>Fl.next _)=_;rw[if_pos hz',aX];rfl
theorem Au (ok:dE e)(sm:mL e)(fw:lD e)(b2:dq e.k2 e.ar2 r2 s2)(m:dA e.k1 e.rows (bR e r2) ch):kD [gR e,jb e,iu e,il e,cu r2 s2,.tuple (ch.map cR)]=some (.tuple ((qW e s2 ch).map cR),false):=by
 have k0:=ok.w2.lo;have k4:=ok.h4;have run:kD [gR e,jb e,iu e,il e,cu r2 s2,.tuple (ch.map cR)]=(rP [some (gR e,false),some (jb e,false),some (iu e,false),some (il e,false),some (cu r2 s2,false),some (.tuple (ch.map cR),false),none,none]).bind eP:=rfl;have h0:(cF 6 (cW cv)) [some (gR e,false),some (jb e,false),some (iu e,false),some (il e,false),some (cu r2 s2,false),some (.tuple (ch.map cR),false),none,none]=some (.next (C5 e r2 s2 ch (some (.list (([]:List (List Int)).map cR),true)) none)):=by simp[cF,cW,cv,Dn,C5]
 have hr:(du (fT (cD df (b4 (cf 0) (b4 (cf 1) (b4 (cf 2) (b4 (cf 3) cv))))))) (C5 e r2 s2 ch (some (.list (([]:List (List Int)).map cR),true)) none)=some ((aj e.k2.toNat).map fun (d:Nat)=>.dict (eT e (d:Int))):=by
  have c:(cD df (b4 (cf 0) (b4 (cf 1) (b4 (cf 2) (b4 (cf 3) cv))))) (C5 e r2 s2 ch (some (.list (([]:List (List Int)).map cR),true)) none)=some (jN e,true):=o6 ok sm fw;rw[du,fT,c];rfl
 obtain⟨ρ',h1,t8,h2⟩:=kW (g:=gN 7) (b:=mG) (d:=fun (d:Nat)=>.dict (eT e (d:Int))) (f:=HJ e s2 ch) (P:=fun acc ρ=>∃s7,ρ=C5 e r2 s2 ch (some (.list (acc.map cR),true)) s7) 1000000 (aj e.k2.toNat) [] _ ⟨none,rfl⟩ (by rw[aD,bU];omega)
  (fun d hd acc ρ ⟨u8,eq⟩ hl=>by
   rw[aY] at hd;have f:=(fw (d:Int) ⋯ ⋯).1;exact⟨_,_,by rw[eq];rfl,HI ok b2 m ⋯ hl,_,rfl⟩)
 rw[run,rP,cJ h0,cG,dS hr,h1,aa,h2,bM];rfl
end
noncomputable def mO (there back:List (List Int)):List (List Int):=there.zipIdx.map fun p=>p.1.map (gI (gC back (p.2:Int)))
def Iq (there back:List (List Int)):Prop:=there.length=back.length/\∀(i:Nat) (row:List Int),there[i]?=some row->∀x∈row,0<=x/\x<((gC back (i:Int)).length:Int)
structure Sm (N:Nat)(ch:List (List Int)):Prop where
 len:ch.length<=N
 row:∀s∈ch,s.length<=N
theorem Jb {α:Type}{xs:List α}{i:Nat}{d x:α}(h:xs[i]?=some x):xs.getD i d=x:=by rw[ag,h];rfl
theorem Dw {there back:List (List Int)}(f:Iq there back)(h1:Sm 1000 there)(h2:Sm 1000 back):pO [eN there,eN back]=some (eN (mO there back),false):=by
 have run:pO [eN there,eN back]=(yB [some (eN there,false),some (eN back,false)]).bind eP:=rfl;have fl:=f.1;have tl:=h1.len;have c:=eB (it:=wU (eo 0) (eo 1)) (n:=2) (ix:=[]) (g:=gT [(gN 0),(gN 1)]) (e:=vd) (ρ:=[some (eN there,false),some (eN back,false)]) (d:=fun (p:List Int×List Int)=>.tuple [cR p.1,cR p.2]) (β:=fun p=>cR (p.1.map (gI p.2))) (there.zip back)
  (by rw[<-qE];simp[wU,eo,eN]) (by rw[bP];omega)
  (fun p hp=>⟨[some (cR p.1,false),some (cR p.2,false)],false,rfl,by
   obtain⟨i,hi⟩:=JF hp;rw[J1] at hi;have gb:gC back (i:Int)=p.2:=by
    unfold gC;rw[aV];exact Jb hi.2
   have fx:=f.2 i p.1 hi.1;rw[gb] at fx;have hr:=h1.row _ (az hi.1);have c:=eB (it:=du (eo 0)) (n:=1) (ix:=[1]) (g:=gN 0) (e:=ve) (ρ:=[some (cR p.1,false),some (cR p.2,false)]) (d:=PyData.int) (β:=fun x=>.int (gI p.2 x)) p.1 rfl ⋯
    (fun x hx=>⟨[some (.int x,false),some (cR p.2,false)],false,rfl,by
     have:=ir (fx x hx).1 (fx x hx).2;simp[ve,d2,b7,this]⟩)
   rw[vd,d1,cA,c];simp[cU,cR,bg]⟩)
 have e:(there.zip back).map (fun p=>p.1.map (gI p.2))=mO there back:=by
  unfold mO;refine bD fun i=>?_;rw[au,au];by_cases hi:i<there.length
  ·have e1:=ao hi;have e2:=ao (show i<back.length by omega);have e3:=mq (ch:=back) (i:=(i:Int)) ⋯ ⋯;rw[aV] at e3;rw[show (there.zip back)[i]?=some (there[i],gC back (i:Int)) from List.getElem?_zip_eq_some.mpr ⟨e1,e3⟩,bB,e1];simp
  ·rw[aT (by rw[bP];omega),aT (by rw[bF];omega)];rfl
 rw[run,yB,dI,d1,cA,c,<-e];simp[cU,eP,eN,bg]
section
variable {k:Int}{r1 r2 r3:List Int}{a b:List (List Int)}
theorem vU {c:Int}(c0:0<=c)(c1:c<a.length):gC (mO a b) c=(gC a c).map (gI (gC b c)):=by
 have h:=mq (ch:=a) c0 c1;unfold mO
 conv=>lhs;unfold gC
 rw[ag,au,bB,h,bE];show (gC a c).map (gI (gC b ((c.toNat:Nat):Int)))=_;rw[show ((c.toNat:Nat):Int)=c by omega]
theorem Dx (h1:dA k r1 r2 a){c x:Int}(c0:0<=c)(c1:c<k)(x0:0<=x)(x1:x<gI r1 c):gI (gC (mO a b) c) x=gI (gC b c) (gI (gC a c) x):=by
 have l:=h1.len;have q:=(h1.row c c0 c1).1;rw[vU c0 ⋯];exact yt x0 ⋯
theorem xN (h1:dA k r1 r2 a)(h2:dA k r2 r3 b):dA k r1 r3 (mO a b):=by
 have l:=h1.len;refine⟨by unfold mO;rw[af,bF];exact l,fun i i0 i1=>?_⟩;rw[vU i0 ⋯,af];obtain⟨q1,q2⟩:=h1.row i i0 i1;obtain⟨p1,p2⟩:=h2.row i i0 i1;refine⟨q1,fun x hx=>?_⟩;obtain⟨y,hy,rfl⟩:=List.mem_map.mp hx;have:=q2 y hy;exact p2 _ (jd this.1 ⋯)
theorem Br (h1:dA k r1 r2 a)(h2:dA k r2 r3 b):Iq a b:=by
 have l1:=h1.len;have l2:=h2.len;refine⟨by omega,fun i row h x hx=>?_⟩;have hi:=(List.getElem?_eq_some_iff.mp h).1;have e:gC a (i:Int)=row:=by unfold gC;rw[aV,ag,h];rfl
 have q:=(h1.row (i:Int) ⋯ ⋯).2;have p:=(h2.row (i:Int) ⋯ ⋯).1;rw[e] at q;have:=q x hx;omega
theorem xb (h:dA k r1 r2 a)(hk:k<=4)(hr:∀r∈r1,r<=1000):Sm 1000 a:=by
 have l:=h.len;refine⟨by omega,fun s hs=>?_⟩;obtain⟨i,hi⟩:=JF hs;have hl:=(List.getElem?_eq_some_iff.mp hi).1;have e:gC a (i:Int)=s:=by unfold gC;rw[aV,ag,hi];rfl
 have q:=(h.row (i:Int) ⋯ ⋯).1;have:=ji (m:=1000) ⋯ hr (i:Int);rw[e] at q;omega
end
open PySem PySem.SeqAt PySem.Spec DL Td
theorem tw {α:Type}{l:List (List α)}{f:List α->List α}(h:l.Nodup)(hf:∀c,(f c).Nodup):(l.flatMap fun c=>(f c).map fun r=>c++[r]).Nodup:=by
 unfold List.Nodup;rw[List.pairwise_flatMap];refine⟨fun c _=>?_,h.imp fun {c d} hcd x hx y hy e=>?_⟩
 ·rw[List.pairwise_map];exact (hf c).imp fun {a b} hab e=>hab (by simpa using e)
 ·obtain⟨a,_,rfl⟩:=List.mem_map.mp hx;obtain⟨b,_,rfl⟩:=List.mem_map.mp hy;exact hcd (List.append_inj_left' e rfl)
theorem mM (m:Nat):∀n,(cY m n).Nodup
 |0=>by simp[cY]
 | n+1=>by
  have:=tw (f:=fun _=>(aj m).map fun (x:Nat)=>(x:Int)) (mM m n) fun _=>by
   unfold List.Nodup;rw[List.pairwise_map];exact (List.nodup_range (n:=m)).imp fun {a b} hab e=>hab ⋯
  rw[cY];have e:rG m=fun c=>((aj m).map fun (x:Nat)=>(x:Int)).map fun r=>c++[r]:=by
   funext c;unfold rG;rw[bg];rfl
  rw[e];exact this
theorem iQ (r1 r2:List Int):∀j,(cZ r1 r2 j).Nodup
 |0=>by simp[cZ]
 |j+1=>tw (f:=fun _=>cY (rN r2 j) (rN r1 j)) (iQ r1 r2 j) fun _=>mM _ _
theorem y6 {α:Type}{l:List α}{n:Nat}(h:l.length=n+1):∃l' x,l=l'++[x]/\l'.length=n:=by
 have ne:l≠[]:=fun e=>by rw[e] at h;cases h
 refine⟨l.dropLast,l.getLast ne,(List.dropLast_concat_getLast ne).symm,?_⟩;rw[List.length_dropLast,h];rfl
theorem pR {m:Nat}:∀{n:Nat}{r:List Int},r.length=n->(∀x∈r,0<=x/\x<(m:Int))->r∈cY m n
 | 0,r,h,_=>by
  cases List.length_eq_zero_iff.mp h;simp[cY]
 | n+1,r,h,hx=>by
  obtain⟨r',x,rfl,hl⟩:=y6 h;have q:=hx x (by simp);rw[cY];refine List.mem_flatMap.mpr ⟨r',pR hl fun y hy=>hx y (by simp[hy]),?_⟩;exact List.mem_map.mpr ⟨x.toNat,List.mem_range.mpr ⋯,by rw[show ((x.toNat:Nat):Int)=x by omega]⟩
theorem qc {r1 r2:List Int}:∀{j:Nat}{ch:List (List Int)},ch.length=j->(∀i<j,((ch.getD i []).length=rN r1 i/\∀x∈ch.getD i [],0<=x/\x<(rN r2 i:Int)))->ch∈cZ r1 r2 j
 | 0,ch,h,_=>by
  cases List.length_eq_zero_iff.mp h;simp[cZ]
 | j+1,ch,h,hr=>by
  obtain⟨c',r,rfl,hl⟩:=y6 h;have q:=hr j ⋯;rw[ag,<-hl,JZ] at q;rw[cZ];refine List.mem_flatMap.mpr ⟨c',qc hl fun i hi=>?_,?_⟩
  ·have:=hr i ⋯;rwa[ag,aP ⋯,<-ag] at this
  ·rw[hl] at q;exact List.mem_map.mpr ⟨r,pR q.1 q.2,rfl⟩
theorem rX {k:Int}{r1 r2:List Int}{ch:List (List Int)}(h:dA k r1 r2 ch):ch∈cZ r1 r2 k.toNat:=by
 have l:=h.len;refine qc ⋯ fun i hi=>?_;obtain⟨a,b⟩:=h.row (i:Int) ⋯ ⋯;have e:gC ch (i:Int)=ch.getD i []:=by unfold gC;rw[aV]
 rw[e] at a b;refine⟨by unfold rN;omega,fun x hx=>?_⟩;have:=b x hx;unfold rN;omega
theorem EF {c d:List (List Int)}(h:eN c=eN d):c=d:=by
 unfold eN at h;injection h with h
 have hi:Function.Injective PyData.int:=fun a b e=>by injection e
 have hs:Function.Injective cR:=fun a b e=>by
  unfold cR at e;injection e with e
  exact (List.map_inj_right hi).mp e
 exact (List.map_inj_right hs).mp h
theorem xf {c:List (List Int)}{L:List (List (List Int))}:Fe (eN c) (L.map eN)=some (decide (c∈L)):=by
 have nb:∀c:List (List Int),Nb 2 (eN c):=fun c=>.tuple (mj E9 c);have h:((shaped (eN c)&&(L.map eN).all fun d=>shaped d&&noMix d (eN c)))=true:=by
  rw[(nb c).shp (by decide),Bool.true_and,bp];intro d hd;obtain⟨q,_,rfl⟩:=List.mem_map.mp hd;rw[(nb q).shp (by decide),(nb q).mix (nb c)];rfl
 unfold Fe;rw[if_pos h,Option.some.injEq,List.any_map];rw[Bool.eq_iff_iff,List.any_eq_true,decide_eq_true_eq];refine⟨fun⟨q,hq,e⟩=>?_,fun hp=>⟨c,hp,same_self _⟩⟩;have:=EF ((nb q).eq (nb c) e);rwa[<-this]
noncomputable def HL:Bool:=(yS 2).all fun ar=>Gu.all fun a=>decide (nN ar 4 a 0+nN ar 4 a 1+nN ar 4 a 2+nN ar 4 a 3<=4)
theorem F4:HL=true:=by decide +kernel
noncomputable def kI (f:Nat->Nat):Nat->Nat
 |0=>0
 |n+1=>kI f n+f n
theorem qi {f g:Nat->Nat}:∀{n:Nat},(∀i<n,f i<=g i)->kI f n<=kI g n
 |0,_=>aB _
 |n+1,h=>Nat.add_le_add (qi fun i hi=>h i ⋯) (h n ⋯)
theorem mf {f:Nat->Nat}{m:Nat}:∀{n:Nat},m<=n->kI f m<=kI f n
 |0,h=>by cases Nat.le_zero.mp h;exact aB _
 | n+1,h=>by
  by_cases e:m=n+1
  ·rw[e];exact aB _
  ·exact aS (mf (n:=n) ⋯) (bH _ _)
theorem Dq {f:Nat->Nat}{i n:Nat}(h:i<n):f i<=kI f n:=aS (Nat.le_add_left _ _) (mf (f:=f) (m:=i+1) h)
theorem qI (f g:Nat->Nat):∀n,kI (fun d=>2*f d+2*g d) n=2*kI f n+2*kI g n
 |0=>rfl
 |n+1=>by rw[kI,kI,kI,qI f g n];omega
theorem sU:∀n,kI (fun _=>0) n=0
 |0=>rfl
 |n+1=>by rw[kI,sU n]
theorem CY {k:Int}{ar:Ar}(w:Wf k ar)(h4:k<=4){kind other:Int}(h0:0<=kind)(h1:kind<k):(fu k ar kind other).length<=nN ar 4 kind other:=by
 have l:=n5 (l:=fu k ar kind other) (l':=EE ar 4 kind other) nR fun p hp=>by
  obtain⟨c,e⟩:=(ia w h4 h0 h1).mp hp;have:=mF w h0 h1 c;exact CP 4 p kind other ⋯ c e
 rwa[vo] at l
theorem xo {k:Int}{ar:Ar}(w:Wf k ar)(h4:k<=4)(ha:ar.length<=2){kind:Int}(h0:0<=kind)(h1:kind<k):kI (fun d=>(fu k ar kind (d:Int)).length) k.toNat<=4:=by
 have m:=yR 2 ar ha fun p hp=>by
  have:=w.ok p hp;omega
 have q:=List.all_eq_true.mp F4 ar m;have kin:kind∈Gu:=by
  have:kind=0\/kind=1\/kind=2\/kind=3:=by omega
  rcases this with rfl|rfl|rfl|rfl <;> simp[Gu]
 have q:=of_decide_eq_true (List.all_eq_true.mp q kind kin);have c:=fun d:Nat=>CY (other:=(d:Int)) w h4 h0 h1;refine aS (qi (g:=fun d=>nN ar 4 kind (d:Int)) fun d _=>c d) (aS (mf (n:=4) ⋯) ?_);show 0+nN ar 4 kind ((0:Nat):Int)+nN ar 4 kind ((1:Nat):Int)+nN ar 4 kind ((2:Nat):Int)+nN ar 4 kind ((3:Nat):Int)<=4;have e:((0:Nat):Int)=0/\((1:Nat):Int)=1/\((2:Nat):Int)=2/\((3:Nat):Int)=3:=⟨rfl,rfl,rfl,rfl⟩;rw[e.1,e.2.1,e.2.2.1,e.2.2.2];omega
section
variable {e:Sb}
theorem Bm (ok:dE e)(k2:e.k1<=2)(r2:∀r∈e.rows,r<=2)(d:Int):(cj e d).length<=2*(fu e.k2 e.ar2 (gI e.pl 0) d).length+2*(if 1<e.k1 then (fu e.k2 e.ar2 (gI e.pl 1) d).length else 0):=by
 have rl:∀c:Int,(gI e.rows c).toNat<=2:=fun c=>by
  have:=ji (m:=2) ⋯ r2 c;omega
 have one:∀c:Int,((fu e.k2 e.ar2 (gI e.pl c) d).flatMap fun p=>(aj (gI e.rows c).toNat).map fun (x:Nat)=>(c,p,(x:Int))).length<=2*(fu e.k2 e.ar2 (gI e.pl c) d).length:=fun c=>by
  have:=mv (m:=2) (f:=fun p=>(aj (gI e.rows c).toNat).map fun (x:Nat)=>(c,p,(x:Int))) (l:=fu e.k2 e.ar2 (gI e.pl c) d) fun p _=>by
   rw[af,aD];exact rl c
  omega
 have k0:=ok.w1.lo;have o0:=one 0;have o1:=one 1;unfold cj;by_cases h:1<e.k1
 ·rw[show e.k1.toNat=2 by omega,if_pos h];show (List.flatMap _ [0,1]).length<=_;rw[bz,bz,List.flatMap_nil,bj,aw];exact Nat.add_le_add o0 o1
 ·rw[show e.k1.toNat=1 by omega,if_neg h];show (List.flatMap _ [0]).length<=_;rw[bz,List.flatMap_nil,bj];exact aS o0 (bH _ _)
theorem Ab (ok:dE e)(k2:e.k1<=2)(a2:e.ar2.length<=2)(r2:∀r∈e.rows,r<=2):kI (fun d=>(fs e (d:Int)).length) e.k2.toNat<=16:=by
 have k0:=ok.w1.lo;have p0:=dU ok (c:=0) ⋯ ⋯;have s0:=xo ok.w2 ok.h4 a2 p0.1 p0.2;refine aS (qi fun d _=>aS (va e (d:Int)) (Bm ok k2 r2 (d:Int))) ?_;by_cases h:1<e.k1
 ·have p1:=dU ok (c:=1) ⋯ ⋯;have s1:=xo ok.w2 ok.h4 a2 p1.1 p1.2;simp only[if_pos h];rw[qI];omega
 ·simp only[if_neg h];rw[qI (fun d=>(fu e.k2 e.ar2 (gI e.pl 0) (d:Int)).length) (fun _=>0),sU];omega
theorem sQ {r1 r2:List Int}(h2:∀x∈r2,x<=2):∀j,ja r1 r2 j<=2 ^ kI (rN r1) j
 |0=>aB 1
 | j+1=>by
  have q:rN r2 j<=2:=by
   unfold rN;have:=ji (m:=2) ⋯ h2 (j:Int);omega
  rw[ja,kI,Nat.pow_add];exact Nat.mul_le_mul (sQ h2 j) (Nat.pow_le_pow_left q _)
theorem GN (j:Nat)(hj:(j:Int)<e.k2):rN (gk e) j=(fs e (j:Int)).length:=by
 unfold rN;rw[jw ⋯ hj];rfl
theorem EG (ok:dE e)(k2:e.k1<=2)(a2:e.ar2.length<=2)(r2:∀r∈e.rows,r<=2){j:Nat}(hj:j<=e.k2.toNat):kI (rN (gk e)) j<=16 :=
 aS (qi (g:=fun d=>(fs e (d:Int)).length) fun i hi=>Nat.le_of_eq (GN i ⋯)) (aS (mf hj) (Ab ok k2 a2 r2))
end
section
variable {e:Sb}{r3 r4 r:List Int}{t3 t4 t ch al ah:List (List Int)}
theorem BZ (ok:dE e)(ma:dA e.k2 r3 r4 al):dA e.k1 (bR e r3) (bR e r4) (e.pl.map (gC al))/\∀c:Int,0<=c->c<e.k1->gC (e.pl.map (gC al)) c=gC al (gI e.pl c):=by
 have hl:=ok.s.len;have g:∀c:Int,0<=c->c<e.k1->gC (e.pl.map (gC al)) c=gC al (gI e.pl c):=fun c c0 c1=>by
  have h:=ml (xs:=e.pl) c0 ⋯;show (e.pl.map (gC al)).getD c.toNat []=_;rw[ag,au,h];rfl
 refine⟨⟨by rw[af];exact hl,fun c c0 c1=>?_⟩,g⟩;have pk:=dU ok c0 c1;rw[g c c0 c1,r8 ok c0 c1,r8 ok c0 c1];exact ma.row _ pk.1 pk.2
end
theorem yI {e:Sb}(fw:lD e):∀x∈gk e,x<=1000:=fun x hx=>by
 unfold gk at hx;obtain⟨d,hd,rfl⟩:=List.mem_map.mp hx;rw[aY] at hd;have:=(fw (d:Int) ⋯ ⋯).1;have:=va e (d:Int);omega
theorem B0 {k:Int}{ar:Ar}{r1 r2:List Int}{s1 s2 ch:List (List Int)}(h:j9 k ar r1 s1 r2 s2 ch=true):kC k ar r1 s1 r2 s2 ch:=by
 unfold j9 at h;rw[Bool.and_eq_true,Bool.and_eq_true,decide_eq_true_eq] at h;refine⟨xc h.1 h.2.1,fun i a ha x x0 x1=>?_⟩;have:=List.all_eq_true.mp h.2.2 (a,i) (List.mem_zipIdx_iff_getElem?.mpr ha);unfold nQ at this;have:=List.all_eq_true.mp this x.toNat (List.mem_range.mpr (by show x.toNat<(gI r1 a.1).toNat;omega));unfold Ac at this;have:=of_decide_eq_true this;rwa[show ((x.toNat:Nat):Int)=x by omega] at this
theorem v7 {r:List Int}{i m:Nat}(h:∀x∈r,x<=(m:Int)):rN r i<=m:=by
 unfold rN;have:=ji (m:=(m:Int)) ⋯ h (i:Int);omega
theorem HF {a j:Nat}(ha:a<=2)(hj:j<=2):a ^ j<=4:=aS (Nat.pow_le_pow_left ha j) (aS (JR (by decide) hj) (by decide))
theorem Bh {r1 r2:List Int}(h1:∀x∈r1,x<=2)(h2:∀x∈r2,x<=2):∀j,ja r1 r2 j<=4 ^ j
 |0=>aB 1
 | j+1=>by
  rw[ja,Nat.pow_succ];exact Nat.mul_le_mul (Bh h1 h2 j) (HF (v7 (m:=2) h2) (v7 (m:=2) h1))
theorem De {r1 r2:List Int}(h1:∀x∈r1,x<=2)(h2:∀x∈r2,x<=2){j:Nat}(hj:j<=3):ja r1 r2 j<=1000000 :=
 aS (Bh h1 h2 j) (aS (JR (by decide) hj) (by decide))
theorem wG {k:Int}{ar:Ar}{r1 r2:List Int}{s1 s2 ch:List (List Int)}(w:Wf k ar)(m:kC k ar r1 s1 r2 s2 ch):j9 k ar r1 s1 r2 s2 ch=true:=by
 unfold j9;rw[decide_eq_true m.c.len,Bool.true_and,Bool.and_eq_true,bp,bp];refine⟨fun i hi=>?_,fun p hp=>?_⟩
 ·rw[aY] at hi;obtain⟨l,q⟩:=m.c.row (i:Int) ⋯ ⋯;unfold pV;rw[decide_eq_true l,Bool.true_and,bp];intro x hx;have:=q x hx;unfold xU;rw[decide_eq_true this.1,decide_eq_true this.2];rfl
 ·have hp':ar[p.2]?=some p.1:=List.mem_zipIdx_iff_getElem?.mp hp;unfold nQ;rw[bp];intro x hx;rw[aY] at hx;unfold Ac;exact decide_eq_true (m.t p.2 p.1 hp' (x:Int) ⋯ ⋯)
section
variable {e:Sb}{r2:List Int}{s2 ch:List (List Int)}
theorem xE (ok:dE e):dA e.k1 e.rows (bR e (gk e)) (nX e):=by
 have k0:=ok.w1.lo;refine uw ⋯ _ fun c hc=>?_;have pk:=dU ok (c:=(c:Int)) ⋯ hc;have n:=gZ ok.b.nn (c:Int);rw[r8 ok ⋯ hc];refine⟨by rw[af,aD];omega,fun x hx=>?_⟩;obtain⟨y,hy,rfl⟩:=List.mem_map.mp hx;rw[aY] at hy;have it:=kG (e:=e) (c:=(c:Int)) (x:=(y:Int)) ⋯ hc ⋯ ⋯;have lt:=wC ok it;rw[jw pk.1 pk.2];exact lt
theorem El (ok:dE e)(sm:mL e)(fw:lD e)(m:dA e.k2 (gk e) r2 ch):pP [gR e,jb e,iu e,il e,.tuple (ch.map cR)]=some (.tuple ((fD e ch).map cR),false):=by
 have run:pP [gR e,jb e,iu e,il e,.tuple (ch.map cR)]=(yC [some (gR e,false),some (jb e,false),some (iu e,false),some (il e,false),some (.tuple (ch.map cR),false)]).bind eP:=rfl;have u:=Dg ok sm fw;have uc:=xE ok;obtain⟨mb,mg⟩:=BZ ok m;have k4:=ok.h4;have k1:=sm.k1;have sl:=ok.s.len;have cl:=m.len;have bm:∀x∈bR e (gk e),x<=1000:=fun x hx=>by
  obtain⟨y,_,rfl⟩:=List.mem_map.mp hx;exact ji (by decide) (yI fw) y
 have q1:iH [iu e,.tuple (ch.map cR)]=some (.tuple ((e.pl.map (gC ch)).map cR),false):=wI ⋯ (fun x hx=>by have:=ok.s.nn x hx;omega);have q2:pO [.tuple ((nX e).map cR),.tuple ((e.pl.map (gC ch)).map cR)]=some (.tuple ((mO (nX e) (e.pl.map (gC ch))).map cR),false):=Dw (Br uc mb) (xb uc ⋯ sm.rw) (xb mb ⋯ bm);have he:mO (nX e) (e.pl.map (gC ch))=fD e ch:=pN (xN uc mb) (kT ok m) fun c c0 c1 x x0 x1=>by
  rw[Dx uc c0 c1 x0 x1,mg c c0 c1,Dh c0 c1 x0 x1,oA c0 c1 x0 x1]
 rw[he] at q2;generalize List.map cR (List.map (gC ch) e.pl)=U at q1 q2;rw[run,yC];simp[dI,cD,b4,cv,cf,u,q1,q2,eP]
noncomputable abbrev m9 (e:Sb)(r2:List Int)(s2:List (List Int)):List (List (List Int)):=(cZ (gk e) r2 e.k2.toNat).filter (j9 e.k2 e.ar2 (gk e) (iY e) r2 s2)
noncomputable abbrev vD (e:Sb)(r2:List Int)(s2:List (List Int)):List (List (List Int)):=(cZ e.rows (bR e r2) e.k1.toNat).filter (j9 e.k1 e.ar1 e.rows e.steps (bR e r2) (bS e r2 s2))
theorem om (ok:dE e):ch∈m9 e r2 s2<->kC e.k2 e.ar2 (gk e) (iY e) r2 s2 ch:=by
 rw[List.mem_filter];exact⟨fun h=>B0 h.2,fun h=>⟨rX h.c,wG ok.w2 h⟩⟩
theorem oo (ok:dE e):ch∈vD e r2 s2<->kC e.k1 e.ar1 e.rows e.steps (bR e r2) (bS e r2 s2) ch:=by
 rw[List.mem_filter];exact⟨fun h=>B0 h.2,fun h=>⟨rX h.c,wG ok.w1 h⟩⟩
theorem wQ (ok:dE e)(b2:dq e.k2 e.ar2 r2 s2){c d:List (List Int)}(hc:c∈m9 e r2 s2)(hd:d∈m9 e r2 s2)(h:fD e c=fD e d):c=d:=by
 rw[<-qV ok b2 ((om ok).mp hc),<-qV ok b2 ((om ok).mp hd),h]
theorem DP (ok:dE e)(b2:dq e.k2 e.ar2 r2 s2){c d:List (List Int)}(hc:c∈vD e r2 s2)(hd:d∈vD e r2 s2)(h:qW e s2 c=qW e s2 d):c=d:=by
 rw[<-wO ok b2 ((oo ok).mp hc),<-wO ok b2 ((oo ok).mp hd),h]
theorem tq {α β:Type}{f:α->β}{l:List α}(h:l.Nodup)(hf:∀a∈l,∀b∈l,f a=f b->a=b):(l.map f).Nodup:=by
 unfold List.Nodup;rw[List.pairwise_map];induction l with
 |nil=>exact .nil
 |cons a l ih =>
  have q:=List.nodup_cons.mp h;exact .cons (fun b hb e=>q.1 (by rw[hf a (by simp) b (by simp[hb]) e];exact hb)) (ih q.2 fun x hx y hy=>hf x (by simp[hx]) y (by simp[hy]))
theorem Ag (ok:dE e)(b2:dq e.k2 e.ar2 r2 s2):(m9 e r2 s2).length=(vD e r2 s2).length:=by
 have n1:(m9 e r2 s2).Nodup:=(iQ _ _ _).filter _;have n2:(vD e r2 s2).Nodup:=(iQ _ _ _).filter _;have l1:=n5 (l:=(m9 e r2 s2).map (fD e)) (l':=vD e r2 s2) (tq n1 fun a ha b hb=>wQ ok b2 ha hb) fun x hx=>by
  obtain⟨c,hc,rfl⟩:=List.mem_map.mp hx;exact (oo ok).mpr (uN ok ((om ok).mp hc))
 have l2:=n5 (l:=(vD e r2 s2).map (qW e s2)) (l':=m9 e r2 s2) (tq n2 fun a ha b hb=>DP ok b2 ha hb) fun x hx=>by
  obtain⟨c,hc,rfl⟩:=List.mem_map.mp hx;exact (om ok).mpr (FX ok b2 ((oo ok).mp hc))
 rw[af] at l1 l2;omega
theorem B8 (ok:dE e)(sm:mL e)(fw:lD e)(b2:dq e.k2 e.ar2 r2 s2){c:List (List Int)}{dn:List (List (List Int))}{s0 s6 s7 s8 s12:Option Vl}(hc:c∈m9 e r2 s2)(hd:fD e c∉dn)(hn:dn.length<1000000) :
  vq [s0,some (gR e,false),some (jb e,false),some (iu e,false),some (il e,false),some (cu r2 s2,false),s6,s7,s8,some (.list ((vD e r2 s2).map eN),false),some (.list (dn.map eN),true),some (eN c,false),s12]=some (.next [s0,some (gR e,false),some (jb e,false),some (iu e,false),some (il e,false),some (cu r2 s2,false),s6,s7,s8,some (.list ((vD e r2 s2).map eN),false),some (.list ((dn++[fD e c]).map eN),true),some (eN c,false),some (eN (fD e c),false)]):=by
 have m:=(om ok).mp hc;have i1:pP [gR e,jb e,iu e,il e,eN c]=some (eN (fD e c),false):=El ok sm fw m.c;have mi:=uN ok m;have o1:kD [gR e,jb e,iu e,il e,cu r2 s2,eN (fD e c)]=some (eN (qW e s2 (fD e c)),false):=Au ok sm fw b2 mi.c;rw[qV ok b2 m] at o1;have x1:He (eN (fD e c)) (.list ((vD e r2 s2).map eN))=some true:=by
  show Fe _ _=_;rw[xf,decide_eq_true ((oo ok).mpr mi)]
 have x2:He (eN (fD e c)) (.list (dn.map eN))=some false:=by
  show Fe _ _=_;rw[xf,decide_eq_false hd]
 have x3:sN (eN c) (eN c)=some false:=xl (n:=2) (.tuple (mj E9 c));have hz:(dn.map eN).length<sizeLine:=xJ (by rw[af];exact hn);unfold vq;refine (cJ (ρ':=[s0,some (gR e,false),some (jb e,false),some (iu e,false),some (il e,false),some (cu r2 s2,false),s6,s7,s8,some (.list ((vD e r2 s2).map eN),false),some (.list (dn.map eN),true),some (eN c,false),some (eN (fD e c),false)]) (by simp[cF,cD,b4,cv,cf,i1])).trans ?_;refine (kv (by simp[xH,dk,tChain,b7,vp,x1,x2])).trans ?_;refine (cJ (ρ':=[s0,some (gR e,false),some (jb e,false),some (iu e,false),some (il e,false),some (cu r2 s2,false),s6,s7,s8,some (.list ((vD e r2 s2).map eN),false),some (.list ((dn++[fD e c]).map eN),true),some (eN c,false),some (eN (fD e c),false)]) (by
  rw[gp,cf];show ((if (dn.map eN).length<sizeLine then some (dn.map eN++[eN (fD e c)]) else none).map fun ys=>Fl.next _)=_;rw[if_pos hz,aX];rfl)).trans ?_
 exact (Cd (by simp[dk,tChain,cA,b7,cD,b4,cv,cf,o1,x3])).trans rfl
theorem wL (ok:dE e)(sm:mL e)(fw:lD e)(b2:dq e.k2 e.ar2 r2 s2){s0 s6 s7 s8:Option Vl}:∀(l dn:List (List (List Int))) (s11 s12:Option Vl),(dn++l).Nodup->(∀c∈dn++l,c∈m9 e r2 s2)->dn.length+l.length<=1000000 →
  ∃ρ',eA (gN 11) vq (l.map eN) [s0,some (gR e,false),some (jb e,false),some (iu e,false),some (il e,false),some (cu r2 s2,false),s6,s7,s8,some (.list ((vD e r2 s2).map eN),false),some (.list ((dn.map (fD e)).map eN),true),s11,s12]=some (.next ρ')
 |[],dn,_,_,_,_,_=>⟨_,rfl⟩
 | c::l,dn,s11,s12,nd,hm,hl=>by
  have hc:=hm c (by simp);have hd:fD e c∉dn.map (fD e):=fun h=>by
   obtain⟨d,hd,he⟩:=List.mem_map.mp h;have:=wQ ok b2 (hm d (by simp[hd])) hc he;subst this;exact (List.nodup_append.mp nd).2.2 d hd d (by simp) rfl
  rw[aJ] at hl;have q:=B8 (s0:=s0) (s6:=s6) (s7:=s7) (s8:=s8) (s12:=s12) ok sm fw b2 hc hd (by rw[af];omega);obtain⟨ρ',r⟩:=wL ok sm fw b2 l (dn++[c]) (some (eN c,false)) (some (eN (fD e c),false)) (by simpa using nd) (by simpa using hm) (by rw[aw,aO];omega);refine⟨ρ',?_⟩;rw[aA,kz rfl q];rw[aX] at r;exact r
theorem Ei {scr:D}{w1 w2:Int}(ok:dE e)(sm:mL e)(fw:lD e)(b2:dq e.k2 e.ar2 r2 s2)(f1:eV [scr,.int 0,.int 2,.int 2]=some (gR e,false))(f2:eV [scr,.int 3,.int 3,.int 2]=some (jb e,false))(f3:fY [scr,.int 6,gR e,jb e]=some (iu e,false))
  (f4:fy [scr,.int 8,gR e,.int 2]=some (il e,false)) (f5:fy [scr,.int 10,jb e,.int 2]=some (cu r2 s2,false)) (g2:gg [gR e,iu e,cu r2 s2]=some (cu (bR e r2) (bS e r2 s2),false))
  (h1:fI [jb e,cu (gk e) (iY e),cu r2 s2]=some (.int w1,false)) (h2:fI [gR e,il e,cu (bR e r2) (bS e r2 s2)]=some (.int w2,false))
  (m1:fZ [jb e,cu (gk e) (iY e),cu r2 s2]=some (.list ((m9 e r2 s2).map eN),true)) (m2:fZ [gR e,il e,cu (bR e r2) (bS e r2 s2)]=some (.list ((vD e r2 s2).map eN),true)) (hz:(m9 e r2 s2).length<=1000000) :
  F_law [scr]=some (.bool true,false):=by
 have g1:=yG ok sm fw
 suffices q:zM [some (scr,false),none,none,none,none,none,none,none,none,none,none,none,none]=some (.ret (.bool true,false)) by
  have run:F_law [scr]=(zM [some (scr,false),none,none,none,none,none,none,none,none,none,none,none,none]).bind eP:=rfl;rw[run,q];rfl
 have sl:=Ag (e:=e) (r2:=r2) (s2:=s2) ok b2;have nd:(m9 e r2 s2).Nodup:=(iQ _ _ _).filter _;obtain⟨ρ',lp⟩:=wL (s0:=some (scr,false)) (s6:=some (cu (gk e) (iY e),false)) (s7:=some (cu (bR e r2) (bS e r2 s2),false)) (s8:=some (.list ((m9 e r2 s2).map eN),false)) ok sm fw b2 (m9 e r2 s2) [] none none (by simpa using nd) (fun c hc=>by simpa using hc) (by simpa using hz);generalize hO:m9 e r2 s2=OM at *;generalize hI:vD e r2 s2=IM at *;have mx:∀a b:Int,sD (.int a) (.int b)=some (.int (max a b),false):=fun a b=>by
  unfold sD;by_cases h:a<b <;> simp[h] <;> omega
 unfold zM;refine (cJ (ρ':=[some (scr,false),some (gR e,false),none,none,none,none,none,none,none,none,none,none,none]) (by simp[cF,cD,b4,cv,cf,dC,f1])).trans ?_;refine (cJ (ρ':=[some (scr,false),some (gR e,false),some (jb e,false),none,none,none,none,none,none,none,none,none,none]) (by simp[cF,cD,b4,cv,cf,dC,f2])).trans ?_;refine (cJ (ρ':=[some (scr,false),some (gR e,false),some (jb e,false),some (iu e,false),none,none,none,none,none,none,none,none,none]) (by simp[cF,cD,b4,cv,cf,dC,f3])).trans ?_;refine (cJ (ρ':=[some (scr,false),some (gR e,false),some (jb e,false),some (iu e,false),some (il e,false),none,none,none,none,none,none,none,none]) (by simp[cF,cD,b4,cv,cf,dC,f4])).trans ?_;refine (cJ (ρ':=[some (scr,false),some (gR e,false),some (jb e,false),some (iu e,false),some (il e,false),some (cu r2 s2,false),none,none,none,none,none,none,none]) (by simp[cF,cD,b4,cv,cf,dC,f5])).trans ?_;refine (cJ (ρ':=[some (scr,false),some (gR e,false),some (jb e,false),some (iu e,false),some (il e,false),some (cu r2 s2,false),some (cu (gk e) (iY e),false),none,none,none,none,none,none]) (by simp[cF,cD,b4,cv,cf,g1])).trans ?_;refine (cJ (ρ':=[some (scr,false),some (gR e,false),some (jb e,false),some (iu e,false),some (il e,false),some (cu r2 s2,false),some (cu (gk e) (iY e),false),some (cu (bR e r2) (bS e r2 s2),false),none,none,none,none,none]) (by simp[cF,cD,b4,cv,cf,g2])).trans ?_;by_cases hw:500<max w1 w2
 ·exact nr (by simp[dk,tChain,cA,d2,cD,b4,cv,cf,h1,h2,mx,dC,A2];omega) rfl
 ·refine (kv (by simp[dk,tChain,cA,d2,cD,b4,cv,cf,h1,h2,mx,dC,A2];omega)).trans ?_;refine (cJ (ρ':=[some (scr,false),some (gR e,false),some (jb e,false),some (iu e,false),some (il e,false),some (cu r2 s2,false),some (cu (gk e) (iY e),false),some (cu (bR e r2) (bS e r2 s2),false),some (.list (OM.map eN),false),none,none,none,none]) (by simp[fL,cF,cD,b4,cv,cf,m1,share])).trans ?_;refine (cJ (ρ':=[some (scr,false),some (gR e,false),some (jb e,false),some (iu e,false),some (il e,false),some (cu r2 s2,false),some (cu (gk e) (iY e),false),some (cu (bR e r2) (bS e r2 s2),false),some (.list (OM.map eN),false),some (.list (IM.map eN),false),none,none,none]) (by simp[fL,cF,cD,b4,cv,cf,m2,share])).trans ?_;refine (kv (by simp[dk,tChain,cA,d1,b7,fF,oU,sl])).trans ?_;refine (cJ (ρ':=[some (scr,false),some (gR e,false),some (jb e,false),some (iu e,false),some (il e,false),some (cu r2 s2,false),some (cu (gk e) (iY e),false),some (cu (bR e r2) (bS e r2 s2),false),some (.list (OM.map eN),false),some (.list (IM.map eN),false),some (.list [],true),none,none]) (by simp[cF,cW,cv])).trans ?_;refine (cJ (ρ':=ρ') ((dS (ds:=OM.map eN) rfl).trans lp)).trans rfl
end
theorem law_true (ns:List Int)(_:ns.length<=63):F_law [.list (ns.map .int)]=some (.bool true,false):=by
 obtain⟨k1,a1,e1,w1,hk1,ha1⟩:=zx ns 0 (most:=2) (many:=2) (by decide) (by decide) (by decide) (by decide);obtain⟨k2,a2,e2,w2,hk2,ha2⟩:=zx ns 3 (most:=3) (many:=2) (by decide) (by decide) (by decide) (by decide);obtain⟨pl,ws,es,s⟩:=uF ns 6 w1 ⋯ ⋯ w2 ⋯ ⋯;obtain⟨r1,t1,eb1,b1,m1⟩:=zR ns 8 w1 ⋯ ⋯ (most:=2) (by decide) (by decide);obtain⟨r2,t2,eb2,b2,m2⟩:=zR ns 10 w2 ⋯ ⋯ (most:=2) (by decide) (by decide);have e1':eV [.list (ns.map .int),.int 0,.int 2,.int 2]=some (cc k1 a1,false):=e1;have e2':eV [.list (ns.map .int),.int 3,.int 3,.int 2]=some (cc k2 a2,false):=e2;have es':fY [.list (ns.map .int),.int 6,cc k1 a1,cc k2 a2]=some (dZ pl ws,false):=es;have eb1':fy [.list (ns.map .int),.int 8,cc k1 a1,.int 2]=some (cu r1 t1,false):=eb1;have eb2':fy [.list (ns.map .int),.int 10,cc k2 a2,.int 2]=some (cu r2 t2,false):=eb2;have m1':∀x∈r1,x<=2:=fun x hx=>by have:=m1 x hx;omega
 have m2':∀x∈r2,x<=2:=fun x hx=>by have:=m2 x hx;omega
 have g2:=sj w1 ⋯ ⋯ s b2 (fun r hr=>by have:=m2' r hr;omega);have bk:=EJ w1 s b2;have bm:∀x∈iw pl r2,x<=2:=fun x hx=>by
  unfold iw at hx;obtain⟨y,_,rfl⟩:=List.mem_map.mp hx;exact ji (by decide) m2' y
 have ok:dE ⟨k1,a1,k2,a2,pl,ws,r1,t1⟩:=⟨w1,w2,by show k2<=4;omega,s,b1⟩;have sm:mL ⟨k1,a1,k2,a2,pl,ws,r1,t1⟩:=⟨by show k1<=4;omega,by show a1.length<=5;omega,by show a2.length<=5;omega,fun x hx=>by have:=m1' x hx;omega⟩;have fw:lD ⟨k1,a1,k2,a2,pl,ws,r1,t1⟩:=GC ok (by show k1<=3;omega) (by show a1.length<=5;omega) (by show a2.length<=4;omega) (fun x hx=>by have:=m1' x hx;omega);have i2:∀{r:List Int},(∀x∈r,x<=2)->∀x∈r,x<=1000:=fun h x hx=>by have:=h x hx;omega
 have i3:∀{r:List Int},(∀x∈r,x<=2)->∀x∈r,x<=1000000:=fun h x hx=>by have:=h x hx;omega
 have k10:=w1.lo;have k20:=w2.lo;generalize he:(⟨k1,a1,k2,a2,pl,ws,r1,t1⟩:Sb)=e at ok sm fw;have G1:k1=e.k1:=by rw[<-he]
 have G2:a1=e.ar1:=by rw[<-he]
 have G3:k2=e.k2:=by rw[<-he]
 have G4:a2=e.ar2:=by rw[<-he]
 have G5:pl=e.pl:=by rw[<-he]
 have G6:ws=e.ws:=by rw[<-he]
 have G7:r1=e.rows:=by rw[<-he]
 have G8:t1=e.steps:=by rw[<-he]
 subst G1 G2 G3 G4 G5 G6 G7 G8;have co:=yH ok;have cs:=fun {j:Nat} (hj:j<=e.k2.toNat)=>EG ok ⋯ ⋯ m1' hj;have p16:∀{a j:Nat},a<=2->j<=16->a ^ j<=1000000:=fun {a j} ha hj=>aS (Nat.pow_le_pow_left ha j) (aS (JR (by decide) hj) (by decide));have wd:∀j≤e.k2.toNat,ja (gk e) r2 j<=1000000:=fun j hj=>aS (sQ m2' j) (p16 (aB 2) (cs hj));have x1:=pU w2 ⋯ co b2 (yI fw) (i3 m2') (fun i hi j hj=>p16 (v7 (m:=2) m2') (aS hj (aS (Dq hi) (cs (aB _))))) wd;have x2:=pU w1 ⋯ b1 bk (i2 m1') (i3 bm) (fun i _ j hj=>aS (HF (v7 (m:=2) bm) (aS hj (v7 (m:=2) m1'))) (by decide)) (fun j hj=>De m1' bm ⋯);have y1:=ot w2 ⋯ co b2 (yI fw) (i2 m2');have y2:=ot w1 ⋯ b1 bk (i2 m1') (i2 bm);refine Ei ok sm fw b2 e1' e2' es' eb1' eb2' g2 y1 y2 x1 x2 ?_;refine aS (JO _ _) ?_;rw[jY];exact wd _ (aB _)
end Lw
set_option maxHeartbeats 4000000
namespace Lw
open PySem DL
noncomputable def top (i:Nat):Stmt:=PySem.Challenge.pw_formshift_k10_whole_one_to_one.main.body.getD i (.Pass ⟨0,0,0,0⟩)
noncomputable abbrev mX:Stmt:=top 26
noncomputable abbrev m6:Stmt:=top 27
noncomputable abbrev m5:Stmt:=top 29
noncomputable abbrev mY:Stmt:=top 30
noncomputable abbrev lL:Stmt:=top 31
noncomputable abbrev mZ:Stmt:=top 38
noncomputable abbrev lK:Stmt:=top 39
noncomputable abbrev jJ:Stmt:=top 32
noncomputable abbrev gE:Stmt:=top 13
noncomputable abbrev qN:Stmt:=top 8
noncomputable abbrev jr:Stmt:=top 10
noncomputable abbrev qk:Stmt:=top 9
noncomputable abbrev o9:Stmt:=top 16
noncomputable abbrev mW:Stmt:=top 17
noncomputable abbrev Bv:Stmt:=top 15
noncomputable abbrev xS:Stmt:=top 14
noncomputable abbrev jq:Stmt:=top 12
noncomputable abbrev jc:Stmt:=top 18
noncomputable abbrev jD:Stmt:=top 20
noncomputable abbrev xR:Stmt:=top 1
noncomputable abbrev gW:Stmt:=top 3
noncomputable abbrev lJ:Stmt:=top 28
noncomputable abbrev kM:Stmt:=top 34
noncomputable abbrev jt:Stmt:=top 36
noncomputable abbrev jI:Stmt:=top 37
noncomputable abbrev ug:Stmt:=top 6
noncomputable abbrev uf:Stmt:=top 21
noncomputable abbrev kL:Stmt:=top 4
noncomputable abbrev xT:Stmt:=top 23
noncomputable abbrev lI:Stmt:=top 35
noncomputable abbrev n9:Stmt:=top 24
noncomputable abbrev qM:Stmt:=top 40
structure Txt (mg:Str->Option Value):Prop where
 b_bool:mg "bool" = none
 b_dict:mg "dict" = none
 b_enumerate:mg "enumerate" = none
 b_int:mg "int" = none
 b_isinstance:mg "isinstance" = none
 b_len:mg "len" = none
 b_list:mg "list" = none
 b_max:mg "max" = none
 b_min:mg "min" = none
 b_range:mg "range" = none
 b_sorted:mg "sorted" = none
 b_tuple:mg "tuple" = none
 b_zip:mg "zip" = none
section
variable {P:Program}{w:World}{K:PySem.W.Frag}{mg:Str->Option Value}{base:Heap}
theorem gM:L2.FnScope ["cell", "found", "factor", "mixed"] ["cell"] (L2.defScope mX):=⟨rfl,rfl,rfl,by decide +kernel,rfl,by decide +kernel,by decide +kernel⟩
theorem wk {f:Addr}{fd:FuncData}(T:Txt mg)  (Fu:L2.Fun K "_law_stir" "_law_stir" mX f fd):L2.FnOk P w K mg base L2.CX0 1 f fd ["cell"] (spD K iI) :=
 fk Fu gM fun cdv A outer s H E hr =>
  (cp (cM (i:=1) gM.nd cx)
  (cp (dw rfl (eK (fW (dX (b6 cx (b6 cx (b6 cx (b6 cx cy))))))) (cB (i:=2) gM.nd) (cp (cM (i:=3) gM.nd (dD L2.op_mod j7 (DE.bb (dD L2.op_addA ff (DE.bb (dD L2.op_mul lO (b8 0) (b8 2))) (DE.bb cx))) (DE.bb cx)))
  (cp (cM (i:=3) gM.nd (dD L2.op_mod j7 (DE.bb (dD L2.op_mul lO (DE.bb (dD L2.op_mod j7 (DE.bb (dD L2.op_mul lO (b8 3) (b8 3))) (DE.bb cx))) (DE.bb cx))) (DE.bb cx)))
  (cz (cM (i:=1) gM.nd (dD L2.op_addA ff (DE.bb (dD L2.op_mul lO (b8 1) (DE.bb (dD L2.op_pow F7 (DE.bb cx) (DE.bb cx))))) (DE.bb (dD L2.op_fdiv x9 (b8 3) (DE.bb cx)))))))))
  (cz (dF (cg 1)))))
theorem vW:L2.FnScope ["script", "k"] ["script", "k"] (L2.defScope m6):=⟨rfl,rfl,rfl,by decide +kernel,rfl,by decide +kernel,by decide +kernel⟩
theorem wx {f:Addr}{fd:FuncData}(T:Txt mg)(c_law_stir:fG P w K mg base 1 "_law_stir" ["cell"] iI)(Fu:L2.Fun K "_law_cell" "_law_cell" m6 f fd):L2.FnOk P w K mg base L2.CX0 2 f fd ["script", "k"] (spD K cN) :=
 fk Fu vW fun cdv A outer s H E hr =>
  (cp (g9 (fU L2.op_lt Fi (b8 1) (DE.bb (iF T.b_len (b8 0)))) (cz (dF (dg c_law_stir hr (b6 (cI (b8 0) (b8 1)) cy)))) eW)
  (cz (dF (dg c_law_stir hr (b6 cx cy)))))
theorem jT:L2.FnScope ["cell", "k", "bound", "stir", "turn"] ["cell", "k", "bound"] (L2.defScope m5):=⟨rfl,rfl,rfl,by decide +kernel,rfl,by decide +kernel,by decide +kernel⟩
theorem wu {f:Addr}{fd:FuncData}(T:Txt mg)  (Fu:L2.Fun K "_law_draw" "_law_draw" m5 f fd):L2.FnOk P w K mg base L2.CX0 1 f fd ["cell", "k", "bound"] (spD K cX) :=
 fk Fu jT fun cdv A outer s H E hr =>
  (cp (cM (i:=3) jT.nd (dD L2.op_mod j7 (DE.bb (dD L2.op_addA ff (DE.bb (dD L2.op_addA ff (DE.bb (dD L2.op_mod j7 (b8 0) (DE.bb cx))) (DE.bb cx))) (DE.bb (dD L2.op_mul lO (b8 1) (DE.bb cx))))) (DE.bb cx)))
  (cp (dw rfl (dH T.b_range cx) (cB (i:=4) jT.nd) (cz (cM (i:=3) jT.nd (dD L2.op_mod j7 (DE.bb (dD L2.op_mul lO (b8 3) (DE.bb cx))) (DE.bb cx)))))
  (cz (dF (dD L2.op_mod j7 (DE.bb (dD L2.op_fdiv x9 (b8 3) (DE.bb cx))) (b8 2))))))
theorem gP:L2.FnScope ["script", "first", "most", "many", "kinds", "arrows", "k", "a", "b"] ["script", "first", "most", "many"] (L2.defScope mY):=⟨rfl,rfl,rfl,by decide +kernel,rfl,by decide +kernel,by decide +kernel⟩
theorem wo {f:Addr}{fd:FuncData}(T:Txt mg)(c_law_cell:fG P w K mg base 2 "_law_cell" ["script", "k"] cN)(c_law_draw:fG P w K mg base 1 "_law_draw" ["cell", "k", "bound"] cX)(Fu:L2.Fun K "_law_form" "_law_form" mY f fd):L2.FnOk P w K mg base L2.CX0 3 f fd ["script", "first", "most", "many"] (spD K eV) :=
 fk Fu gP fun cdv A outer s H E hr =>
  (cp (cM (i:=4) gP.nd (dD L2.op_addA ff (DE.bb cx) (DE.bb (dD L2.op_mod j7 (DE.bb (dg c_law_cell hr (b6 (cg 0) (b6 (cg 1) cy)))) (b8 2)))))
  (cp (cM (i:=5) gP.nd (dX cy))
  (cp (g9 (fU L2.op_gt zP (b8 4) (DE.bb cx)) (cz (dw rfl (dH T.b_range (dD L2.op_mod j7 (DE.bb (dD L2.op_fdiv x9 (DE.bb (dg c_law_cell hr (b6 (cg 0) (b6 (cg 1) cy)))) (b8 2))) (DE.bb (dD L2.op_addA ff (b8 3) (DE.bb cx))))) (cB (i:=6) gP.nd) (cp (cM (i:=7) gP.nd (dg c_law_draw hr (b6 (dg c_law_cell hr (b6 (cg 0) (b6 (dD L2.op_addA ff (b8 1) (DE.bb cx)) cy))) (b6 (cg 6) (b6 (dD L2.op_sub x8 (b8 4) (DE.bb cx)) cy)))))
  (cp (cM (i:=8) gP.nd (dD L2.op_addA ff (DE.bb (dD L2.op_addA ff (b8 7) (DE.bb cx))) (DE.bb (dg c_law_draw hr (b6 (dg c_law_cell hr (b6 (cg 0) (b6 (dD L2.op_addA ff (b8 1) (DE.bb cx)) cy))) (b6 (cg 6) (b6 (dD L2.op_sub x8 (DE.bb (dD L2.op_sub x8 (b8 4) (DE.bb cx))) (b8 7)) cy)))))))
  (cz (gH (i:=5) (eE (b6 (cg 7) (b6 (cg 8) cy))))))))) eW)
  (cz (dF (eE (b6 (cg 4) (b6 (dJ T.b_tuple (b8 5)) cy))))))))
theorem eI:L2.FnScope ["form", "kind", "other", "found", "layer", "more", "path", "at", "k", "arrow"] ["form", "kind", "other"] (L2.defScope lL):=⟨rfl,rfl,rfl,by decide +kernel,rfl,by decide +kernel,by decide +kernel⟩
theorem uv {f:Addr}{fd:FuncData}(T:Txt mg)  (Fu:L2.Fun K "_law_paths" "_law_paths" lL f fd):L2.FnOk P w K mg base L2.CX0 1 f fd ["form", "kind", "other"] (spD K fJ) :=
 fk Fu eI fun cdv A outer s H E hr =>
  (cp (cM (i:=3) eI.nd (dX cy))
  (cp (iE 4 (cM (i:=4) eI.nd (dX (b6 (eE (b6 (eE cy) (b6 (cg 1) cy))) cy))))
  (cp (wZ (fU (nc hr.units) rY (b8 4) (DE.bb (dX cy))) (cp (cM (i:=5) eI.nd (dX cy))
  (cp (dw rfl (eK (fE 4)) (fK rfl (cO (cB (i:=6) eI.nd) (cO (cB (i:=7) eI.nd) eL))) (cp (g9 (fU (j6 hr.units) mU (b8 7) (b8 2)) (cz (gH (i:=3) (cg 6))) eW)
  (cz (dw rfl (iP T.b_enumerate (fW (cI (b8 0) (DE.bb cx)))) (fK rfl (cO (cB (i:=8) eI.nd) (cO (cB (i:=9) eI.nd) eL))) (cz (g9 (fU (j6 hr.units) mU (DE.bb (cI (b8 9) (DE.bb cx))) (b8 7)) (cz (gH (i:=5) (eE (b6 (dD L2.op_addA ff (b8 6) (DE.bb (eE (b6 (cg 8) cy)))) (b6 (cI (b8 9) (DE.bb cx)) cy))))) eW))))))
  (cz (rM 5 (cM (i:=4) eI.nd (cg 5)))))))
  (cz (k5 3)))))
theorem lH:L2.FnScope ["target", "places", "arrows", "kind", "spot", "a", "b"] ["target", "places", "arrows", "kind", "spot"] (L2.defScope mZ):=⟨rfl,rfl,rfl,by decide +kernel,rfl,by decide +kernel,by decide +kernel⟩
theorem wt {f:Addr}{fd:FuncData}(T:Txt mg)(c_law_paths:fG P w K mg base 1 "_law_paths" ["form", "kind", "other"] fJ)(Fu:L2.Fun K "_law_fits" "_law_fits" mZ f fd):L2.FnOk P w K mg base L2.CX0 2 f fd ["target", "places", "arrows", "kind", "spot"] (spD K fv) :=
 fk Fu lH fun cdv A outer s H E hr =>
  (cp (dw rfl (eK (fE 2)) (fK rfl (cO (cB (i:=5) lH.nd) (cO (cB (i:=6) lH.nd) eL))) (cz (g9 (DW.tt (Cs (fU (j6 hr.units) mU (b8 6) (b8 3)) (zE (fU (j6 hr.units) mU (DE.bb (dg c_law_paths hr (b6 (cg 0) (b6 (cI (b8 1) (b8 5)) (b6 (cg 4) cy))))) (DE.bb (dX cy)))))) (cz (dF lC)) eW)))
  (cz (dF lC)))
theorem eh:L2.FnScope ["script", "first", "source", "target", "places", "kind", "spot", "turn", "ways", "k", "arrow", "some"] ["script", "first", "source", "target"] (L2.defScope lK):=⟨rfl,rfl,rfl,by decide +kernel,rfl,by decide +kernel,by decide +kernel⟩
theorem uu {f:Addr}{fd:FuncData}(T:Txt mg)(c_law_draw:fG P w K mg base 1 "_law_draw" ["cell", "k", "bound"] cX)(c_law_cell:fG P w K mg base 2 "_law_cell" ["script", "k"] cN)(c_law_fits:fG P w K mg base 2 "_law_fits" ["target", "places", "arrows", "kind", "spot"] fv)(c_law_paths:fG P w K mg base 1 "_law_paths" ["form", "kind", "other"] fJ)(Fu:L2.Fun K "_law_shift" "_law_shift" lK f fd):L2.FnOk P w K mg base L2.CX0 3 f fd ["script", "first", "source", "target"] (spD K fY) :=
 fk Fu eh fun cdv A outer s H E hr =>
  (cp (cM (i:=4) eh.nd (dX cy))
  (cp (dw rfl (dH T.b_range (cI (b8 2) (DE.bb cx))) (cB (i:=5) eh.nd) (cp (cM (i:=6) eh.nd (dg c_law_draw hr (b6 (dg c_law_cell hr (b6 (cg 0) (b6 (cg 1) cy))) (b6 (cg 5) (b6 (cI (b8 3) (DE.bb cx)) cy)))))
  (cp (dw rfl (dH T.b_range (cI (b8 3) (DE.bb cx))) (cB (i:=7) eh.nd) (cz (g9 (Ct (pK (pJ (dg c_law_fits hr (b6 (cg 3) (b6 (cg 4) (b6 (cI (b8 2) (DE.bb cx)) (b6 (cg 5) (b6 (cg 6) cy))))))))) (cz (cM (i:=6) eh.nd (dD L2.op_mod j7 (DE.bb (dD L2.op_addA ff (b8 6) (DE.bb cx))) (DE.bb (cI (b8 3) (DE.bb cx)))))) eW)))
  (cp (g9 (Ct (pK (pJ (dg c_law_fits hr (b6 (cg 3) (b6 (cg 4) (b6 (cI (b8 2) (DE.bb cx)) (b6 (cg 5) (b6 (cg 6) cy))))))))) (cz (dF (eE (b6 (dJ T.b_tuple (DE.bb (zL (Fh (dX (b6 (cg 6) cy))) (DE.bb (cI (b8 2) (DE.bb cx)))))) (b6 (dJ T.b_tuple (DE.bb (zL (Fh (dX (b6 (eE cy) cy))) (DE.bb (iF T.b_len (DE.bb (cI (b8 2) (DE.bb cx)))))))) cy))))) eW)
  (cz (gH (i:=4) (cg 6)))))))
  (cp (cM (i:=8) eh.nd (dX cy))
  (cp (dw rfl (iP T.b_enumerate (fW (cI (b8 2) (DE.bb cx)))) (fK rfl (cO (cB (i:=9) eh.nd) (cO (cB (i:=10) eh.nd) eL))) (cp (iE 11 (cM (i:=11) eh.nd (dg c_law_paths hr (b6 (cg 3) (b6 (cI (b8 4) (DE.bb (cI (b8 10) (DE.bb cx)))) (b6 (cI (b8 4) (DE.bb (cI (b8 10) (DE.bb cx)))) cy))))))
  (cz (gH (i:=8) (cI (b8 11) (DE.bb (dg c_law_draw hr (b6 (dg c_law_cell hr (b6 (cg 0) (b6 (dD L2.op_addA ff (b8 1) (DE.bb cx)) cy))) (b6 (cg 9) (b6 (iF T.b_len (b8 11)) cy))))))))))
  (cz (dF (eE (b6 (dJ T.b_tuple (b8 4)) (b6 (dJ T.b_tuple (b8 8)) cy)))))))))
theorem fH:L2.FnScope ["script", "first", "form", "most", "rows", "a", "b", "steps", "k", "arrow", "cell"] ["script", "first", "form", "most"] (L2.defScope jJ):=⟨rfl,rfl,rfl,by decide +kernel,rfl,by decide +kernel,by decide +kernel⟩
theorem wy {f:Addr}{fd:FuncData}(T:Txt mg)(c_law_draw:fG P w K mg base 1 "_law_draw" ["cell", "k", "bound"] cX)(c_law_cell:fG P w K mg base 2 "_law_cell" ["script", "k"] cN)(Fu:L2.Fun K "_law_book" "_law_book" jJ f fd):L2.FnOk P w K mg base L2.CX0 3 f fd ["script", "first", "form", "most"] (spD K fy) :=
 fk Fu fH fun cdv A outer s H E hr =>
  (cp (cM (i:=4) fH.nd (fo (own:=["kind"]) (ix:=[0,1,3]) (caps:=["script", "first", "most"]) (eX (osc:=L2.defScope jJ) (oN:=["script", "first", "form", "most", "rows", "a", "b", "steps", "k", "arrow", "cell"]) rfl rfl (by decide +kernel)) rfl (by decide) dh (dH T.b_range (cI (b8 2) (DE.bb cx))) (fun _ _ _ _=>(cB (i:=0) (show (["kind", "script", "first", "most"]:List Str).Nodup by decide +kernel))) (fun _ _ _ _=>fB) (fun _ _ _ _=>(dg c_law_draw hr (b6 (dg c_law_cell hr (b6 (cg 1) (b6 (cg 2) cy))) (b6 (cg 0) (b6 (dD L2.op_addA ff (b8 3) (DE.bb cx)) cy)))))))
  (cp (dw rfl (eK (fW (AZ T.b_sorted (DE.bb (cI (b8 2) (DE.bb cx)))))) (fK rfl (cO (cB (i:=5) fH.nd) (cO (cB (i:=6) fH.nd) eL))) (cz (g9 (DW.tt (Cs (fU L2.op_gt zP (DE.bb (cI (b8 4) (b8 5))) (DE.bb cx)) (zE (fU (j6 hr.units) mU (DE.bb (cI (b8 4) (b8 6))) (DE.bb cx))))) (cz (GF (i:=4) (cg 6) cx)) eW)))
  (cp (cM (i:=7) fH.nd (dX cy))
  (cp (dw rfl (iP T.b_enumerate (fW (cI (b8 2) (DE.bb cx)))) (fK rfl (cO (cB (i:=8) fH.nd) (cO (cB (i:=9) fH.nd) eL))) (cp (cM (i:=10) fH.nd (dg c_law_cell hr (b6 (cg 0) (b6 (dD L2.op_addA ff (b8 1) (DE.bb cx)) cy))))
  (cz (gH (i:=7) (dJ T.b_tuple (DE.bb (fo (own:=["x"]) (ix:=[10,4,8,9]) (caps:=["cell", "rows", "k", "arrow"]) (eX (osc:=L2.defScope jJ) (oN:=["script", "first", "form", "most", "rows", "a", "b", "steps", "k", "arrow", "cell"]) rfl rfl (by decide +kernel)) rfl (by decide) dh (dH T.b_range (cI (b8 4) (DE.bb (cI (b8 9) (DE.bb cx))))) (fun _ _ _ _=>(cB (i:=0) (show (["x", "cell", "rows", "k", "arrow"]:List Str).Nodup by decide +kernel))) (fun _ _ _ _=>fB) (fun _ _ _ _=>(dg c_law_draw hr (b6 (cg 1) (b6 (dD L2.op_addA ff (DE.bb (dD L2.op_mul lO (DE.bb cx) (b8 3))) (b8 0)) (b6 (cI (b8 2) (DE.bb (cI (b8 4) (DE.bb cx)))) cy))))))))))))
  (cz (dF (eE (b6 (dJ T.b_tuple (b8 4)) (b6 (dJ T.b_tuple (b8 7)) cy)))))))))
theorem fC:L2.FnScope ["routes", "book", "triples", "kind", "route", "path"] ["routes", "book"] (L2.defScope gE):=⟨rfl,rfl,rfl,by decide +kernel,rfl,by decide +kernel,by decide +kernel⟩
theorem pB {f:Addr}{fd:FuncData}(T:Txt mg)  (Fu:L2.Fun K "triples_along" "triples_along" gE f fd):L2.FnOk P w K mg base L2.CX0 1 f fd ["routes", "book"] (spD K eG) :=
 fk Fu fC fun cdv A outer s H E hr =>
  (cp (cM (i:=2) fC.nd (dX cy))
  (cp (dw rfl (iP T.b_enumerate (fE 0)) (fK rfl (cO (cB (i:=3) fC.nd) (cO (cB (i:=4) fC.nd) eL))) (cz (dw rfl (eK (fE 4)) (cB (i:=5) fC.nd) (cz (rO (i:=2) (fo (own:=["row"]) (ix:=[3,5]) (caps:=["kind", "path"]) (eX (osc:=L2.defScope gE) (oN:=["routes", "book", "triples", "kind", "route", "path"]) rfl rfl (by decide +kernel)) rfl (by decide) dh (dH T.b_range (cI (DE.bb (cI (b8 1) (DE.bb cx))) (b8 3))) (fun _ _ _ _=>(cB (i:=0) (show (["row", "kind", "path"]:List Str).Nodup by decide +kernel))) (fun _ _ _ _=>fB) (fun _ _ _ _=>(eE (b6 (cg 1) (b6 (cg 2) (b6 (cg 0) cy)))))))))))
  (cz (k5 2))))
theorem sX:L2.FnScope ["form", "kind", "path", "last"] ["form", "kind", "path"] (L2.defScope qN):=⟨rfl,rfl,rfl,by decide +kernel,rfl,by decide +kernel,by decide +kernel⟩
theorem Ax {f:Addr}{fd:FuncData}(T:Txt mg)  (Fu:L2.Fun K "end_of" "end_of" qN f fd):L2.FnOk P w K mg base L2.CX0 1 f fd ["form", "kind", "path"] (spD K fO) :=
 fk Fu sX fun cdv A outer s H E hr =>
  (cp (g9 (fU (j6 hr.units) mU (DE.bb (iF T.b_len (b8 2))) (DE.bb cx)) (cz (dF (cg 1))) eW)
  (cp (cM (i:=3) sX.nd (cI (DE.bb (cI (b8 0) (DE.bb cx))) (DE.bb (cI (b8 2) (DE.bb (Ig L2.un_neg Fy (DE.bb cx)))))))
  (cz (dF (cI (b8 3) (DE.bb cx))))))
theorem iK:L2.FnScope ["form", "kind", "reached", "longer", "path", "end"] ["form", "kind", "reached"] (L2.defScope jr):=⟨rfl,rfl,rfl,by decide +kernel,rfl,by decide +kernel,by decide +kernel⟩
theorem sv {f:Addr}{fd:FuncData}(T:Txt mg)(c_end_of:fG P w K mg base 1 "end_of" ["form", "kind", "path"] fO)(Fu:L2.Fun K "lengthened" "lengthened" jr f fd):L2.FnOk P w K mg base L2.CX0 2 f fd ["form", "kind", "reached"] (spD K ik) :=
 fk Fu iK fun cdv A outer s H E hr =>
  (cp (cM (i:=3) iK.nd (dX cy))
  (cp (dw rfl (eK (fE 2)) (cB (i:=4) iK.nd) (cp (cM (i:=5) iK.nd (dg c_end_of hr (b6 (cg 0) (b6 (cg 1) (b6 (cg 4) cy)))))
  (cz (rO (i:=3) (fo (own:=["number", "arrow"]) (ix:=[4,5]) (caps:=["path", "end"]) (eX (osc:=L2.defScope jr) (oN:=["form", "kind", "reached", "longer", "path", "end"]) rfl rfl (by decide +kernel)) rfl (by decide) (ql (gq dh (gq dh qm))) (iP T.b_enumerate (fW (cI (b8 0) (DE.bb cx)))) (fun _ _ _ _=>(fK rfl (cO (cB (i:=0) (show (["number", "arrow", "path", "end"]:List Str).Nodup by decide +kernel)) (cO (cB (i:=1) (show (["number", "arrow", "path", "end"]:List Str).Nodup by decide +kernel)) eL)))) (fun _ _ _ _=>vg (fU (j6 hr.units) mU (DE.bb (cI (b8 1) (DE.bb cx))) (b8 3))) (fun _ _ _ _=>(dD L2.op_addA ff (b8 2) (DE.bb (eE (b6 (cg 0) cy))))))))))
  (cz (k5 3))))
theorem n8:L2.FnScope ["form", "kind", "other", "found", "reached"] ["form", "kind", "other"] (L2.defScope qk):=⟨rfl,rfl,rfl,by decide +kernel,rfl,by decide +kernel,by decide +kernel⟩
theorem BJ {f:Addr}{fd:FuncData}(T:Txt mg)(c_end_of:fG P w K mg base 1 "end_of" ["form", "kind", "path"] fO)(c_lengthened:fG P w K mg base 2 "lengthened" ["form", "kind", "reached"] ik)(Fu:L2.Fun K "paths" "paths" qk f fd):L2.FnOk P w K mg base L2.CX0 3 f fd ["form", "kind", "other"] (spD K mI) :=
 fk Fu n8 fun cdv A outer s H E hr =>
  (cp (cM (i:=3) n8.nd (dX cy))
  (cp (iE 4 (cM (i:=4) n8.nd (dX (b6 (eE cy) cy))))
  (cp (wZ (fU L2.op_gt zP (DE.bb (iF T.b_len (b8 4))) (DE.bb cx)) (cp (rO (i:=3) (fo (own:=["path"]) (ix:=[2,0,1]) (caps:=["other", "form", "kind"]) (eX (osc:=L2.defScope qk) (oN:=["form", "kind", "other", "found", "reached"]) rfl rfl (by decide +kernel)) rfl (by decide) dh (eK (fE 4)) (fun _ _ _ _=>(cB (i:=0) (show (["path", "other", "form", "kind"]:List Str).Nodup by decide +kernel))) (fun _ _ _ _=>vg (fU (j6 hr.units) mU (DE.bb (dg c_end_of hr (b6 (cg 2) (b6 (cg 3) (b6 (cg 0) cy))))) (b8 1))) (fun _ _ _ _=>(cg 0))))
  (cz (iE 4 (cM (i:=4) n8.nd (dg c_lengthened hr (b6 (cg 0) (b6 (cg 1) (b6 (cg 4) cy)))))))))
  (cz (k5 3)))))
theorem qL:L2.FnScope ["heads", "spot"] ["heads", "spot"] (L2.defScope o9):=⟨rfl,rfl,rfl,by decide +kernel,rfl,by decide +kernel,by decide +kernel⟩
theorem xZ {f:Addr}{fd:FuncData}(T:Txt mg)  (Fu:L2.Fun K "head_of" "head_of" o9 f fd):L2.FnOk P w K mg base L2.CX0 1 f fd ["heads", "spot"] (FP K 0 eC) :=
 Ck Fu qL fun cdv A outer s H E hr =>
  (oJ (AX (p:=0) (fU (nc hr.units) rY (DE.bb (cI (qv 0) (b8 1))) (b8 1)) (oI (zF (p:=0) (cg 1) (cI (qv 0) (DE.bb (cI (qv 0) (b8 1)))))
  (vh (zG (cM (i:=1) qL.nd (cI (qv 0) (b8 1)))))))
  (zI (cg 1)))
theorem gL:L2.FnScope ["triples", "heads", "rows", "height", "spot", "head"] ["triples", "heads"] (L2.defScope mW):=⟨rfl,rfl,rfl,by decide +kernel,rfl,by decide +kernel,by decide +kernel⟩
theorem wg {f:Addr}{fd:FuncData}(T:Txt mg)(c_head_of:qd P w K mg base 1 "head_of" ["heads", "spot"] 0 eC)(Fu:L2.Fun K "numbered" "numbered" mW f fd):L2.FnOk P w K mg base L2.CX0 2 f fd ["triples", "heads"] (FP K 1 gK) :=
 Ck Fu gL fun cdv A outer s H E hr =>
  (oJ (zG (cM (i:=2) gL.nd (dX cy)))
  (oJ (zG (cM (i:=3) gL.nd cx))
  (oJ (Ey (p:=1) rfl (dH T.b_range (iF T.b_len (b8 0))) (cB (i:=4) gL.nd) (oI (rL (p:=1) (i:=5) c_head_of hr gL.nd (b6 (cg 4) cy))
  (vh (zG (g9 (fU (j6 hr.units) mU (b8 5) (b8 4)) (cp (gH (i:=2) (cg 3))
  (cz (cM (i:=3) gL.nd (dD L2.op_addA ff (b8 3) (DE.bb cx))))) (cz (gH (i:=2) (cI (b8 2) (b8 5)))))))))
  (AY 2 (zI (CG hr.u200 rfl T.b_dict T.b_zip (fE 0) (fE 2)))))))
theorem xQ:L2.FnScope ["heads", "one", "other", "first", "second"] ["heads", "one", "other"] (L2.defScope Bv):=⟨rfl,rfl,rfl,by decide +kernel,rfl,by decide +kernel,by decide +kernel⟩
theorem F3 {f:Addr}{fd:FuncData}(T:Txt mg)(c_head_of:qd P w K mg base 1 "head_of" ["heads", "spot"] 0 eC)(Fu:L2.Fun K "tie" "tie" Bv f fd):L2.FnOk P w K mg base L2.CX0 2 f fd ["heads", "one", "other"] (FP K 0 tY) :=
 Eu Fu xQ fun cdv A outer s H E hr =>
  (oI (rL (p:=0) (i:=3) c_head_of hr xQ.nd (b6 (cg 1) cy))
  (oI (rL (p:=0) (i:=4) c_head_of hr xQ.nd (b6 (cg 2) cy))
  (vh (zF (p:=0) (CC rfl T.b_max (b8 3) (b8 4)) (GI rfl T.b_min (b8 3) (b8 4))))))
theorem gS:L2.FnScope ["source", "shift", "book", "routes", "triples", "spots", "spot", "triple", "heads", "arrow", "way", "step", "path", "row", "reached"] ["source", "shift", "book", "routes", "triples"] (L2.defScope xS):=⟨rfl,rfl,rfl,by decide +kernel,rfl,by decide +kernel,by decide +kernel⟩
theorem DY {f:Addr}{fd:FuncData}(T:Txt mg)(c_tie:qd P w K mg base 2 "tie" ["heads", "one", "other"] 0 tY)(Fu:L2.Fun K "tied" "tied" xS f fd):L2.FnOk P w K mg base L2.CX0 3 f fd ["source", "shift", "book", "routes", "triples"] (spD K nU) :=
 fk Fu gS fun cdv A outer s H E hr =>
  (cp (Cv (i:=5) gS.nd)
  (cp (dw rfl (iP T.b_enumerate (fE 4)) (fK rfl (cO (cB (i:=6) gS.nd) (cO (cB (i:=7) gS.nd) eL))) (cz (Cu (i:=5) hr.u200 (cg 7) (cg 6))))
  (cp (cM (i:=8) gS.nd (CF rfl T.b_list T.b_range (iF T.b_len (b8 4))))
  (cp (dw rfl (Ez T.b_zip (fW (cI (b8 0) (DE.bb cx))) (fW (cI (b8 1) (DE.bb cx))) (fW (cI (b8 2) (DE.bb cx)))) (fK rfl (cO (cB (i:=9) gS.nd) (cO (cB (i:=10) gS.nd) (cO (cB (i:=11) gS.nd) eL)))) (cz (dw rfl (eK (fW (cI (b8 3) (DE.bb (cI (b8 9) (DE.bb cx)))))) (cB (i:=12) gS.nd) (cz (dw rfl (iP T.b_enumerate (fE 11)) (fK rfl (cO (cB (i:=13) gS.nd) (cO (cB (i:=14) gS.nd) eL))) (cz (Cw (i:=8) c_tie hr (b6 (vi hr.u200 (b8 5) (DE.bb (eE (b6 (cI (b8 9) (DE.bb cx)) (b6 (dD L2.op_addA ff (b8 10) (b8 12)) (b6 (cg 13) cy)))))) (b6 (vi hr.u200 (b8 5) (DE.bb (eE (b6 (cI (b8 9) (DE.bb cx)) (b6 (cg 12) (b6 (cg 14) cy)))))) cy)))))))))
  (cz (k5 8))))))
theorem gn:L2.FnScope ["source", "target", "shift", "book", "tables", "kind", "routes", "triples"] ["source", "target", "shift", "book"] (L2.defScope jq):=⟨rfl,rfl,rfl,by decide +kernel,rfl,by decide +kernel,by decide +kernel⟩
theorem su {f:Addr}{fd:FuncData}(T:Txt mg)(c_paths:fG P w K mg base 3 "paths" ["form", "kind", "other"] mI)(c_triples_along:fG P w K mg base 1 "triples_along" ["routes", "book"] eG)(c_numbered:qd P w K mg base 2 "numbered" ["triples", "heads"] 1 gK)(c_tied:fG P w K mg base 3 "tied" ["source", "shift", "book", "routes", "triples"] nU)(Fu:L2.Fun K "row_tables" "row_tables" jq f fd):L2.FnOk P w K mg base L2.CX0 4 f fd ["source", "target", "shift", "book"] (spD K df) :=
 fk Fu gn fun cdv A outer s H E hr =>
  (cp (cM (i:=4) gn.nd (dX cy))
  (cp (dw rfl (dH T.b_range (cI (b8 1) (DE.bb cx))) (cB (i:=5) gn.nd) (cp (iE 6 (zH (i:=6) gn.nd (own:=["place"]) (ix:=[1,5]) (caps:=["target", "kind"]) (eX (osc:=L2.defScope jq) (oN:=["source", "target", "shift", "book", "tables", "kind", "routes", "triples"]) rfl rfl (by decide +kernel)) rfl (by decide) dh (eK (fW (cI (b8 2) (DE.bb cx)))) (fun _ _ _ _=>(cB (i:=0) (show (["place", "target", "kind"]:List Str).Nodup by decide +kernel))) (fun _ _ _ _=>fB) (fun _ _ _ _=>(dg c_paths hr (b6 (cg 1) (b6 (cg 0) (b6 (cg 2) cy)))))))
  (cp (iE 7 (cM (i:=7) gn.nd (dg c_triples_along hr (b6 (cg 6) (b6 (cg 3) cy)))))
  (cz (gH (i:=4) (CI c_numbered hr (cg 7) (dg c_tied hr (b6 (cg 0) (b6 (cg 2) (b6 (cg 3) (b6 (cg 6) (b6 (cg 7) cy))))))))))))
  (cz (k5 4))))
theorem f6:L2.FnScope ["table", "firsts", "triple", "row"] ["table"] (L2.defScope jc):=⟨rfl,rfl,rfl,by decide +kernel,rfl,by decide +kernel,by decide +kernel⟩
theorem pC {f:Addr}{fd:FuncData}(T:Txt mg)  (Fu:L2.Fun K "first_triples" "first_triples" jc f fd):L2.FnOk P w K mg base L2.CX0 1 f fd ["table"] (spD K cV) :=
 fk Fu f6 fun cdv A outer s H E hr =>
  (cp (cM (i:=1) f6.nd (dX cy))
  (cp (dw rfl (CA (cg 0)) (fK rfl (cO (cB (i:=2) f6.nd) (cO (cB (i:=3) f6.nd) eL))) (cz (g9 (fU (j6 hr.units) mU (b8 3) (DE.bb (iF T.b_len (b8 1)))) (cz (gH (i:=1) (cg 2))) eW)))
  (cz (k5 1))))
theorem gG:L2.FnScope ["source", "target", "shift", "book", "tables", "firsts", "steps", "number", "arrow", "onward"] ["source", "target", "shift", "book"] (L2.defScope jD):=⟨rfl,rfl,rfl,by decide +kernel,rfl,by decide +kernel,by decide +kernel⟩
theorem x4 {f:Addr}{fd:FuncData}(T:Txt mg)(c_row_tables:fG P w K mg base 4 "row_tables" ["source", "target", "shift", "book"] df)(c_first_triples:fG P w K mg base 1 "first_triples" ["table"] cV)(Fu:L2.Fun K "carried" "carried" jD f fd):L2.FnOk P w K mg base L2.CX0 5 f fd ["source", "target", "shift", "book"] (spD K kE) :=
 fk Fu gG fun cdv A outer s H E hr =>
  (cp (iE 4 (cM (i:=4) gG.nd (dg c_row_tables hr (b6 (cg 0) (b6 (cg 1) (b6 (cg 2) (b6 (cg 3) cy)))))))
  (cp (iE 5 (zH (i:=5) gG.nd (own:=["table"]) (ix:=[]) (caps:=[]) (eX (osc:=L2.defScope jD) (oN:=["source", "target", "shift", "book", "tables", "firsts", "steps", "number", "arrow", "onward"]) rfl rfl (by decide +kernel)) rfl (by decide) dh (eK (fE 4)) (fun _ _ _ _=>(cB (i:=0) (show (["table"]:List Str).Nodup by decide +kernel))) (fun _ _ _ _=>fB) (fun _ _ _ _=>(dg c_first_triples hr (b6 (cg 0) cy)))))
  (cp (cM (i:=6) gG.nd (dX cy))
  (cp (dw rfl (iP T.b_enumerate (fW (cI (b8 1) (DE.bb cx)))) (fK rfl (cO (cB (i:=7) gG.nd) (cO (cB (i:=8) gG.nd) eL))) (cp (cM (i:=9) gG.nd (cI (b8 4) (DE.bb (cI (b8 8) (DE.bb cx)))))
  (cz (gH (i:=6) (dJ T.b_tuple (DE.bb (fo (own:=["kind", "path", "row"]) (ix:=[9,7]) (caps:=["onward", "number"]) (eX (osc:=L2.defScope jD) (oN:=["source", "target", "shift", "book", "tables", "firsts", "steps", "number", "arrow", "onward"]) rfl rfl (by decide +kernel)) rfl (by decide) (ql (gq dh (gq dh (gq dh qm)))) (eK (fW (cI (b8 5) (DE.bb (cI (b8 8) (DE.bb cx)))))) (fun _ _ _ _=>(fK rfl (cO (cB (i:=0) (show (["kind", "path", "row", "onward", "number"]:List Str).Nodup by decide +kernel)) (cO (cB (i:=1) (show (["kind", "path", "row", "onward", "number"]:List Str).Nodup by decide +kernel)) (cO (cB (i:=2) (show (["kind", "path", "row", "onward", "number"]:List Str).Nodup by decide +kernel)) eL))))) (fun _ _ _ _=>fB) (fun _ _ _ _=>(vi hr.u200 (b8 3) (DE.bb (eE (b6 (cg 0) (b6 (dD L2.op_addA ff (b8 1) (DE.bb (eE (b6 (cg 4) cy)))) (b6 (cg 2) cy))))))))))))))
  (cz (dF (eE (b6 (dJ T.b_tuple (DE.bb (fo (own:=["triples"]) (ix:=[]) (caps:=[]) (eX (osc:=L2.defScope jD) (oN:=["source", "target", "shift", "book", "tables", "firsts", "steps", "number", "arrow", "onward"]) rfl rfl (by decide +kernel)) rfl (by decide) dh (eK (fE 5)) (fun _ _ _ _=>(cB (i:=0) (show (["triples"]:List Str).Nodup by decide +kernel))) (fun _ _ _ _=>fB) (fun _ _ _ _=>(iF T.b_len (b8 0)))))) (b6 (dJ T.b_tuple (b8 6)) cy)))))))))
theorem ud:L2.FnScope ["book", "path", "row", "arrow"] ["book", "path", "row"] (L2.defScope xR):=⟨rfl,rfl,rfl,by decide +kernel,rfl,by decide +kernel,by decide +kernel⟩
theorem DV {f:Addr}{fd:FuncData}(T:Txt mg)  (Fu:L2.Fun K "went" "went" xR f fd):L2.FnOk P w K mg base L2.CX0 1 f fd ["book", "path", "row"] (spD K nS) :=
 fk Fu ud fun cdv A outer s H E hr =>
  (cp (dw rfl (eK (fE 1)) (cB (i:=3) ud.nd) (cz (cM (i:=2) ud.nd (cI (DE.bb (cI (DE.bb (cI (b8 0) (DE.bb cx))) (b8 3))) (b8 2)))))
  (cz (dF (cg 2))))
theorem gm:L2.FnScope ["source", "shift", "book", "rows", "steps", "arrow", "way"] ["source", "shift", "book"] (L2.defScope gW):=⟨rfl,rfl,rfl,by decide +kernel,rfl,by decide +kernel,by decide +kernel⟩
theorem sr {f:Addr}{fd:FuncData}(T:Txt mg)(c_went:fG P w K mg base 1 "went" ["book", "path", "row"] nS)(Fu:L2.Fun K "taken_back" "taken_back" gW f fd):L2.FnOk P w K mg base L2.CX0 2 f fd ["source", "shift", "book"] (spD K gg) :=
 fk Fu gm fun cdv A outer s H E hr =>
  (cp (cM (i:=3) gm.nd (dJ T.b_tuple (DE.bb (fo (own:=["place"]) (ix:=[2]) (caps:=["book"]) (eX (osc:=L2.defScope gW) (oN:=["source", "shift", "book", "rows", "steps", "arrow", "way"]) rfl rfl (by decide +kernel)) rfl (by decide) dh (eK (fW (cI (b8 1) (DE.bb cx)))) (fun _ _ _ _=>(cB (i:=0) (show (["place", "book"]:List Str).Nodup by decide +kernel))) (fun _ _ _ _=>fB) (fun _ _ _ _=>(cI (DE.bb (cI (b8 1) (DE.bb cx))) (b8 0)))))))
  (cp (cM (i:=4) gm.nd (dX cy))
  (cp (dw rfl (Cz T.b_zip (fW (cI (b8 0) (DE.bb cx))) (fW (cI (b8 1) (DE.bb cx)))) (fK rfl (cO (cB (i:=5) gm.nd) (cO (cB (i:=6) gm.nd) eL))) (cz (gH (i:=4) (dJ T.b_tuple (DE.bb (fo (own:=["row"]) (ix:=[2,6]) (caps:=["book", "way"]) (eX (osc:=L2.defScope gW) (oN:=["source", "shift", "book", "rows", "steps", "arrow", "way"]) rfl rfl (by decide +kernel)) rfl (by decide) dh (dH T.b_range (cI (b8 3) (DE.bb (cI (b8 5) (DE.bb cx))))) (fun _ _ _ _=>(cB (i:=0) (show (["row", "book", "way"]:List Str).Nodup by decide +kernel))) (fun _ _ _ _=>fB) (fun _ _ _ _=>(dg c_went hr (b6 (cg 1) (b6 (cg 2) (b6 (cg 0) cy)))))))))))
  (cz (dF (eE (b6 (cg 3) (b6 (dJ T.b_tuple (b8 4)) cy))))))))
theorem ue:L2.FnScope ["found"] ["found"] (L2.defScope lJ):=⟨rfl,rfl,rfl,by decide +kernel,rfl,by decide +kernel,by decide +kernel⟩
theorem ur {f:Addr}{fd:FuncData}(T:Txt mg)  (Fu:L2.Fun K "_law_whole" "_law_whole" lJ f fd):L2.FnOk P w K mg base L2.CX0 1 f fd ["found"] (spD K i8) :=
 fk Fu ue fun cdv A outer s H E hr =>
  (cz (dF (GJ (vj T.b_isinstance T.b_int PyProof.Rows.boot_int (b8 0)) (GG (GH (vj T.b_isinstance T.b_bool PyProof.Rows.boot_bool (b8 0)))))))
theorem eM:L2.FnScope ["form", "one", "other", "chart", "kind", "row", "k", "arrow", "comes", "goes"] ["form", "one", "other", "chart"] (L2.defScope kM):=⟨rfl,rfl,rfl,by decide +kernel,rfl,by decide +kernel,by decide +kernel⟩
theorem sC {f:Addr}{fd:FuncData}(T:Txt mg)(c_law_whole:fG P w K mg base 1 "_law_whole" ["found"] i8)(Fu:L2.Fun K "_law_is_map" "_law_is_map" kM f fd):L2.FnOk P w K mg base L2.CX0 2 f fd ["form", "one", "other", "chart"] (spD K gi) :=
 fk Fu eM fun cdv A outer s H E hr =>
  (cp (g9 (DW.tt (zD (pK (pJ (vj T.b_isinstance T.b_tuple PyProof.Rows.boot_tuple (b8 3)))) (vf (fU (nc hr.units) rY (DE.bb (iF T.b_len (b8 3))) (DE.bb (cI (b8 0) (DE.bb cx))))))) (cz (dF lC)) eW)
  (cp (dw rfl (dH T.b_range (cI (b8 0) (DE.bb cx))) (cB (i:=4) eM.nd) (cp (g9 (DW.tt (zD (pK (pJ (vj T.b_isinstance T.b_tuple PyProof.Rows.boot_tuple (DE.bb (cI (b8 3) (b8 4)))))) (vf (fU (nc hr.units) rY (DE.bb (iF T.b_len (DE.bb (cI (b8 3) (b8 4))))) (DE.bb (cI (DE.bb (cI (b8 1) (DE.bb cx))) (b8 4))))))) (cz (dF lC)) eW)
  (cz (dw rfl (eK (fW (cI (b8 3) (b8 4)))) (cB (i:=5) eM.nd) (cz (g9 (DW.tt (zD (pK (pJ (dg c_law_whole hr (b6 (cg 5) cy)))) (vf (pK (Ib L2.op_le Ij L2.op_lt Fi (DE.bb cx) (b8 5) (DE.bb (cI (DE.bb (cI (b8 2) (DE.bb cx))) (b8 4)))))))) (cz (dF lC)) eW))))))
  (cp (dw rfl (iP T.b_enumerate (fW (cI (b8 0) (DE.bb cx)))) (fK rfl (cO (cB (i:=6) eM.nd) (cO (cB (i:=7) eM.nd) eL))) (cz (dw rfl (dH T.b_range (cI (DE.bb (cI (b8 1) (DE.bb cx))) (DE.bb (cI (b8 7) (DE.bb cx))))) (cB (i:=5) eM.nd) (cp (cM (i:=8) eM.nd (cI (DE.bb (cI (b8 3) (DE.bb (cI (b8 7) (DE.bb cx))))) (DE.bb (cI (DE.bb (cI (DE.bb (cI (b8 1) (DE.bb cx))) (b8 6))) (b8 5)))))
  (cp (cM (i:=9) eM.nd (cI (DE.bb (cI (b8 3) (DE.bb (cI (b8 7) (DE.bb cx))))) (b8 5)))
  (cz (g9 (fU (nc hr.units) rY (b8 8) (DE.bb (cI (DE.bb (cI (DE.bb (cI (b8 2) (DE.bb cx))) (b8 6))) (b8 9)))) (cz (dF lC)) eW)))))))
  (cz (dF lC)))))
theorem fP:L2.FnScope ["many", "most", "found", "k", "more", "row"] ["many", "most"] (L2.defScope jt):=⟨rfl,rfl,rfl,by decide +kernel,rfl,by decide +kernel,by decide +kernel⟩
theorem sA {f:Addr}{fd:FuncData}(T:Txt mg)  (Fu:L2.Fun K "_law_tuples" "_law_tuples" jt f fd):L2.FnOk P w K mg base L2.CX0 1 f fd ["many", "most"] (spD K gh) :=
 fk Fu fP fun cdv A outer s H E hr =>
  (cp (iE 2 (cM (i:=2) fP.nd (dX (b6 (eE cy) cy))))
  (cp (dw rfl (dH T.b_range (cg 0)) (cB (i:=3) fP.nd) (cp (cM (i:=4) fP.nd (dX cy))
  (cp (dw rfl (eK (fE 2)) (cB (i:=5) fP.nd) (cz (rO (i:=4) (fo (own:=["x"]) (ix:=[5]) (caps:=["row"]) (eX (osc:=L2.defScope jt) (oN:=["many", "most", "found", "k", "more", "row"]) rfl rfl (by decide +kernel)) rfl (by decide) dh (dH T.b_range (cg 1)) (fun _ _ _ _=>(cB (i:=0) (show (["x", "row"]:List Str).Nodup by decide +kernel))) (fun _ _ _ _=>fB) (fun _ _ _ _=>(dD L2.op_addA ff (b8 1) (DE.bb (eE (b6 (cg 0) cy)))))))))
  (cz (rM 4 (cM (i:=2) fP.nd (cg 4)))))))
  (cz (dF (cg 2)))))
theorem gO:L2.FnScope ["form", "one", "other", "found", "kind", "more", "chart"] ["form", "one", "other"] (L2.defScope jI):=⟨rfl,rfl,rfl,by decide +kernel,rfl,by decide +kernel,by decide +kernel⟩
theorem wm {f:Addr}{fd:FuncData}(T:Txt mg)(c_law_tuples:fG P w K mg base 1 "_law_tuples" ["many", "most"] gh)(c_law_is_map:fG P w K mg base 2 "_law_is_map" ["form", "one", "other", "chart"] gi)(Fu:L2.Fun K "_law_maps" "_law_maps" jI f fd):L2.FnOk P w K mg base L2.CX0 3 f fd ["form", "one", "other"] (spD K fZ) :=
 fk Fu gO fun cdv A outer s H E hr =>
  (cp (iE 3 (cM (i:=3) gO.nd (dX (b6 (eE cy) cy))))
  (cp (dw rfl (dH T.b_range (cI (b8 0) (DE.bb cx))) (cB (i:=4) gO.nd) (cp (cM (i:=5) gO.nd (dX cy))
  (cp (dw rfl (eK (fE 3)) (cB (i:=6) gO.nd) (cz (rO (i:=5) (fo (own:=["row"]) (ix:=[6]) (caps:=["chart"]) (eX (osc:=L2.defScope jI) (oN:=["form", "one", "other", "found", "kind", "more", "chart"]) rfl rfl (by decide +kernel)) rfl (by decide) dh (eK (fW (dg c_law_tuples hr (b6 (cI (DE.bb (cI (b8 1) (DE.bb cx))) (b8 4)) (b6 (cI (DE.bb (cI (b8 2) (DE.bb cx))) (b8 4)) cy))))) (fun _ _ _ _=>(cB (i:=0) (show (["row", "chart"]:List Str).Nodup by decide +kernel))) (fun _ _ _ _=>fB) (fun _ _ _ _=>(dD L2.op_addA ff (b8 1) (DE.bb (eE (b6 (cg 0) cy)))))))))
  (cz (rM 5 (cM (i:=3) gO.nd (cg 5)))))))
  (cz (dF (fo (own:=["chart"]) (ix:=[0,1,2]) (caps:=["form", "one", "other"]) (eX (osc:=L2.defScope jI) (oN:=["form", "one", "other", "found", "kind", "more", "chart"]) rfl rfl (by decide +kernel)) rfl (by decide) dh (eK (fE 3)) (fun _ _ _ _=>(cB (i:=0) (show (["chart", "form", "one", "other"]:List Str).Nodup by decide +kernel))) (fun _ _ _ _=>vg (pJ (dg c_law_is_map hr (b6 (cg 1) (b6 (cg 2) (b6 (cg 3) (b6 (cg 0) cy))))))) (fun _ _ _ _=>(cg 0)))))))
theorem Dy:L2.FnScope ["chart", "more"] ["chart", "more"] (L2.defScope ug):=⟨rfl,rfl,rfl,by decide +kernel,rfl,by decide +kernel,by decide +kernel⟩
theorem DZ {f:Addr}{fd:FuncData}(T:Txt mg)  (Fu:L2.Fun K "sent" "sent" ug f fd):L2.FnOk P w K mg base L2.CX0 1 f fd ["chart", "more"] (spD K pO) :=
 fk Fu Dy fun cdv A outer s H E hr =>
  (cz (dF (dJ T.b_tuple (DE.bb (fo (own:=["column", "onward"]) (ix:=[]) (caps:=[]) (eX (osc:=L2.defScope ug) (oN:=["chart", "more"]) rfl rfl (by decide +kernel)) rfl (by decide) (ql (gq dh (gq dh qm))) (Cz T.b_zip (fE 0) (fE 1)) (fun _ _ _ _=>(fK rfl (cO (cB (i:=0) (show (["column", "onward"]:List Str).Nodup by decide +kernel)) (cO (cB (i:=1) (show (["column", "onward"]:List Str).Nodup by decide +kernel)) eL)))) (fun _ _ _ _=>fB) (fun _ _ _ _=>(dJ T.b_tuple (DE.bb (fo (own:=["row"]) (ix:=[1]) (caps:=["onward"]) (yE (by decide +kernel)) rfl (by decide) dh (eK (fE 0)) (fun _ _ _ _=>(cB (i:=0) (show (["row", "onward"]:List Str).Nodup by decide +kernel))) (fun _ _ _ _=>fB) (fun _ _ _ _=>(cI (b8 1) (b8 0))))))))))))
theorem n6:L2.FnScope ["source", "target", "shift", "book", "tables", "columns", "kind", "place"] ["source", "target", "shift", "book"] (L2.defScope uf):=⟨rfl,rfl,rfl,by decide +kernel,rfl,by decide +kernel,by decide +kernel⟩
theorem DX {f:Addr}{fd:FuncData}(T:Txt mg)(c_row_tables:fG P w K mg base 4 "row_tables" ["source", "target", "shift", "book"] df)(Fu:L2.Fun K "unit" "unit" uf f fd):L2.FnOk P w K mg base L2.CX0 5 f fd ["source", "target", "shift", "book"] (spD K se) :=
 fk Fu n6 fun cdv A outer s H E hr =>
  (cp (iE 4 (cM (i:=4) n6.nd (dg c_row_tables hr (b6 (cg 0) (b6 (cg 1) (b6 (cg 2) (b6 (cg 3) cy)))))))
  (cp (cM (i:=5) n6.nd (dX cy))
  (cp (dw rfl (iP T.b_enumerate (fW (cI (b8 2) (DE.bb cx)))) (fK rfl (cO (cB (i:=6) n6.nd) (cO (cB (i:=7) n6.nd) eL))) (cz (gH (i:=5) (dJ T.b_tuple (DE.bb (fo (own:=["row"]) (ix:=[4,7,6]) (caps:=["tables", "place", "kind"]) (eX (osc:=L2.defScope uf) (oN:=["source", "target", "shift", "book", "tables", "columns", "kind", "place"]) rfl rfl (by decide +kernel)) rfl (by decide) dh (dH T.b_range (cI (DE.bb (cI (b8 3) (DE.bb cx))) (b8 6))) (fun _ _ _ _=>(cB (i:=0) (show (["row", "tables", "place", "kind"]:List Str).Nodup by decide +kernel))) (fun _ _ _ _=>fB) (fun _ _ _ _=>(vi hr.u200 (DE.bb (cI (b8 1) (b8 2))) (DE.bb (eE (b6 (cg 3) (b6 (eE cy) (b6 (cg 0) cy)))))))))))))
  (cz (dF (dJ T.b_tuple (b8 5)))))))
theorem vV:L2.FnScope ["shift", "chart"] ["shift", "chart"] (L2.defScope kL):=⟨rfl,rfl,rfl,by decide +kernel,rfl,by decide +kernel,by decide +kernel⟩
theorem wj {f:Addr}{fd:FuncData}(T:Txt mg)  (Fu:L2.Fun K "map_back" "map_back" kL f fd):L2.FnOk P w K mg base L2.CX0 1 f fd ["shift", "chart"] (spD K iH) :=
 fk Fu vV fun cdv A outer s H E hr =>
  (cz (dF (dJ T.b_tuple (DE.bb (fo (own:=["place"]) (ix:=[1]) (caps:=["chart"]) (eX (osc:=L2.defScope kL) (oN:=["shift", "chart"]) rfl rfl (by decide +kernel)) rfl (by decide) dh (eK (fW (cI (b8 0) (DE.bb cx)))) (fun _ _ _ _=>(cB (i:=0) (show (["place", "chart"]:List Str).Nodup by decide +kernel))) (fun _ _ _ _=>fB) (fun _ _ _ _=>(cI (b8 1) (b8 0))))))))
theorem Dz:L2.FnScope ["source", "target", "shift", "book", "chart"] ["source", "target", "shift", "book", "chart"] (L2.defScope xT):=⟨rfl,rfl,rfl,by decide +kernel,rfl,by decide +kernel,by decide +kernel⟩
theorem D0 {f:Addr}{fd:FuncData}(T:Txt mg)(c_sent:fG P w K mg base 1 "sent" ["chart", "more"] pO)(c_unit:fG P w K mg base 5 "unit" ["source", "target", "shift", "book"] se)(c_map_back:fG P w K mg base 1 "map_back" ["shift", "chart"] iH)(Fu:L2.Fun K "into" "into" xT f fd):L2.FnOk P w K mg base L2.CX0 6 f fd ["source", "target", "shift", "book", "chart"] (spD K pP) :=
 fk Fu Dz fun cdv A outer s H E hr =>
  (cz (dF (dg c_sent hr (b6 (dg c_unit hr (b6 (cg 0) (b6 (cg 1) (b6 (cg 2) (b6 (cg 3) cy))))) (b6 (dg c_map_back hr (b6 (cg 2) (b6 (cg 4) cy))) cy)))))
theorem gU:L2.FnScope ["form", "one", "other", "many", "kind", "k"] ["form", "one", "other"] (L2.defScope lI):=⟨rfl,rfl,rfl,by decide +kernel,rfl,by decide +kernel,by decide +kernel⟩
theorem uq {f:Addr}{fd:FuncData}(T:Txt mg)  (Fu:L2.Fun K "_law_width" "_law_width" lI f fd):L2.FnOk P w K mg base L2.CX0 1 f fd ["form", "one", "other"] (spD K fI) :=
 fk Fu gU fun cdv A outer s H E hr =>
  (cp (cM (i:=3) gU.nd cx)
  (cp (dw rfl (dH T.b_range (cI (b8 0) (DE.bb cx))) (cB (i:=4) gU.nd) (cz (dw rfl (dH T.b_range (cI (DE.bb (cI (b8 1) (DE.bb cx))) (b8 4))) (cB (i:=5) gU.nd) (cz (cM (i:=3) gU.nd (dD L2.op_mul lO (b8 3) (DE.bb (cI (DE.bb (cI (b8 2) (DE.bb cx))) (b8 4)))))))))
  (cz (dF (cg 3)))))
theorem o8:L2.FnScope ["source", "target", "shift", "book", "other", "chart", "columns", "table"] ["source", "target", "shift", "book", "other", "chart"] (L2.defScope n9):=⟨rfl,rfl,rfl,by decide +kernel,rfl,by decide +kernel,by decide +kernel⟩
theorem Aw {f:Addr}{fd:FuncData}(T:Txt mg)(c_row_tables:fG P w K mg base 4 "row_tables" ["source", "target", "shift", "book"] df)(c_first_triples:fG P w K mg base 1 "first_triples" ["table"] cV)(c_went:fG P w K mg base 1 "went" ["book", "path", "row"] nS)(Fu:L2.Fun K "out_of" "out_of" n9 f fd):L2.FnOk P w K mg base L2.CX0 5 f fd ["source", "target", "shift", "book", "other", "chart"] (spD K kD) :=
 fk Fu o8 fun cdv A outer s H E hr =>
  (cp (cM (i:=6) o8.nd (dX cy))
  (cp (dw rfl (eK (fW (dg c_row_tables hr (b6 (cg 0) (b6 (cg 1) (b6 (cg 2) (b6 (cg 3) cy))))))) (cB (i:=7) o8.nd) (cz (gH (i:=6) (dJ T.b_tuple (DE.bb (fo (own:=["kind", "path", "row"]) (ix:=[4,5]) (caps:=["other", "chart"]) (eX (osc:=L2.defScope n9) (oN:=["source", "target", "shift", "book", "other", "chart", "columns", "table"]) rfl rfl (by decide +kernel)) rfl (by decide) (ql (gq dh (gq dh (gq dh qm)))) (eK (fW (dg c_first_triples hr (b6 (cg 7) cy)))) (fun _ _ _ _=>(fK rfl (cO (cB (i:=0) (show (["kind", "path", "row", "other", "chart"]:List Str).Nodup by decide +kernel)) (cO (cB (i:=1) (show (["kind", "path", "row", "other", "chart"]:List Str).Nodup by decide +kernel)) (cO (cB (i:=2) (show (["kind", "path", "row", "other", "chart"]:List Str).Nodup by decide +kernel)) eL))))) (fun _ _ _ _=>fB) (fun _ _ _ _=>(dg c_went hr (b6 (cg 3) (b6 (cg 1) (b6 (cI (DE.bb (cI (b8 4) (b8 0))) (b8 2)) cy)))))))))))
  (cz (dF (dJ T.b_tuple (b8 6))))))
theorem iz:L2.FnScope ["script", "source", "target", "shift", "book", "other", "on", "back", "outer", "inner", "met", "chart", "found"] ["script"] (L2.defScope qM):=⟨rfl,rfl,rfl,by decide +kernel,rfl,by decide +kernel,by decide +kernel⟩
theorem F5 {f:Addr}{fd:FuncData}(T:Txt mg)(c_law_form:fG P w K mg base 3 "_law_form" ["script", "first", "most", "many"] eV)(c_law_shift:fG P w K mg base 3 "_law_shift" ["script", "first", "source", "target"] fY)(c_law_book:fG P w K mg base 3 "_law_book" ["script", "first", "form", "most"] fy)(c_carried:fG P w K mg base 5 "carried" ["source", "target", "shift", "book"] kE)(c_taken_back:fG P w K mg base 2 "taken_back" ["source", "shift", "book"] gg)(c_law_width:fG P w K mg base 1 "_law_width" ["form", "one", "other"] fI)(c_law_maps:fG P w K mg base 3 "_law_maps" ["form", "one", "other"] fZ)(c_into:fG P w K mg base 6 "into" ["source", "target", "shift", "book", "chart"] pP)(c_out_of:fG P w K mg base 5 "out_of" ["source", "target", "shift", "book", "other", "chart"] kD)(Fu:L2.Fun K "law" "law" qM f fd):L2.FnOk P w K mg base L2.CX0 7 f fd ["script"] (spD K F_law) :=
 fk Fu iz fun cdv A outer s H E hr =>
  (cp (cM (i:=1) iz.nd (dg c_law_form hr (b6 (cg 0) (b6 cx (b6 cx (b6 cx cy))))))
  (cp (cM (i:=2) iz.nd (dg c_law_form hr (b6 (cg 0) (b6 cx (b6 cx (b6 cx cy))))))
  (cp (cM (i:=3) iz.nd (dg c_law_shift hr (b6 (cg 0) (b6 cx (b6 (cg 1) (b6 (cg 2) cy))))))
  (cp (cM (i:=4) iz.nd (dg c_law_book hr (b6 (cg 0) (b6 cx (b6 (cg 1) (b6 cx cy))))))
  (cp (cM (i:=5) iz.nd (dg c_law_book hr (b6 (cg 0) (b6 cx (b6 (cg 2) (b6 cx cy))))))
  (cp (cM (i:=6) iz.nd (dg c_carried hr (b6 (cg 1) (b6 (cg 2) (b6 (cg 3) (b6 (cg 4) cy))))))
  (cp (cM (i:=7) iz.nd (dg c_taken_back hr (b6 (cg 1) (b6 (cg 3) (b6 (cg 5) cy)))))
  (cp (g9 (fU L2.op_gt zP (DE.bb (CC rfl T.b_max (DE.bb (dg c_law_width hr (b6 (cg 2) (b6 (cg 6) (b6 (cg 5) cy))))) (DE.bb (dg c_law_width hr (b6 (cg 1) (b6 (cg 4) (b6 (cg 7) cy))))))) (DE.bb cx)) (cz (dF lC)) eW)
  (cp (iE 8 (cM (i:=8) iz.nd (dg c_law_maps hr (b6 (cg 2) (b6 (cg 6) (b6 (cg 5) cy))))))
  (cp (iE 9 (cM (i:=9) iz.nd (dg c_law_maps hr (b6 (cg 1) (b6 (cg 4) (b6 (cg 7) cy))))))
  (cp (g9 (fU (nc hr.units) rY (DE.bb (iF T.b_len (b8 8))) (DE.bb (iF T.b_len (b8 9)))) (cz (dF lC)) eW)
  (cp (cM (i:=10) iz.nd (dX cy))
  (cp (dw rfl (eK (fE 8)) (cB (i:=11) iz.nd) (cp (cM (i:=12) iz.nd (dg c_into hr (b6 (cg 1) (b6 (cg 2) (b6 (cg 3) (b6 (cg 4) (b6 (cg 11) cy)))))))
  (cp (g9 (DW.tt (zD (fU (Av hr.u100) CQ (b8 12) (b8 9)) (vf (fU (FZ hr.u100) Ik (b8 12) (b8 10))))) (cz (dF lC)) eW)
  (cp (gH (i:=10) (cg 12))
  (cz (g9 (fU (nc hr.units) rY (DE.bb (dg c_out_of hr (b6 (cg 1) (b6 (cg 2) (b6 (cg 3) (b6 (cg 4) (b6 (cg 5) (b6 (cg 12) cy)))))))) (b8 11)) (cz (dF lC)) eW))))))
  (cz (dF lC)))))))))))))))
end
theorem all_mk {l:PySem.W.OpenLaw}{w:World}{K:PySem.W.Frag}{h:Heap}{mg:Str->Option Value}{fa:Addr}(X:K.In h)(G:h.Ns mainGlobals mg)(hfa:mg "law" = some (.ref fa))
  (h1:FH K "_law_stir" mX)
  (h2:FH K "_law_cell" m6)
  (h3:FH K "_law_draw" m5)
  (h4:FH K "_law_form" mY)
  (h5:FH K "_law_paths" lL)
  (h6:FH K "_law_fits" mZ)
  (h7:FH K "_law_shift" lK)
  (h8:FH K "_law_book" jJ)
  (h9:FH K "triples_along" gE)
  (h10:FH K "end_of" qN)
  (h11:FH K "lengthened" jr)
  (h12:FH K "paths" qk)
  (h13:FH K "head_of" o9)
  (h14:FH K "numbered" mW)
  (h15:FH K "tie" Bv)
  (h16:FH K "tied" xS)
  (h17:FH K "row_tables" jq)
  (h18:FH K "first_triples" jc)
  (h19:FH K "carried" jD)
  (h20:FH K "went" xR)
  (h21:FH K "taken_back" gW)
  (h22:FH K "_law_whole" lJ)
  (h23:FH K "_law_is_map" kM)
  (h24:FH K "_law_tuples" jt)
  (h25:FH K "_law_maps" jI)
  (h26:FH K "sent" ug)
  (h27:FH K "unit" uf)
  (h28:FH K "map_back" kL)
  (h29:FH K "into" xT)
  (h30:FH K "_law_width" lI)
  (h31:FH K "out_of" n9)
  (h32:FH K "law" qM)
  (z_bool:PySem.W.nsIn K mainGlobals "bool" = some none)
  (z_dict:PySem.W.nsIn K mainGlobals "dict" = some none)
  (z_enumerate:PySem.W.nsIn K mainGlobals "enumerate" = some none)
  (z_int:PySem.W.nsIn K mainGlobals "int" = some none)
  (z_isinstance:PySem.W.nsIn K mainGlobals "isinstance" = some none)
  (z_len:PySem.W.nsIn K mainGlobals "len" = some none)
  (z_list:PySem.W.nsIn K mainGlobals "list" = some none)
  (z_max:PySem.W.nsIn K mainGlobals "max" = some none)
  (z_min:PySem.W.nsIn K mainGlobals "min" = some none)
  (z_range:PySem.W.nsIn K mainGlobals "range" = some none)
  (z_sorted:PySem.W.nsIn K mainGlobals "sorted" = some none)
  (z_tuple:PySem.W.nsIn K mainGlobals "tuple" = some none)
  (z_zip:PySem.W.nsIn K mainGlobals "zip" = some none) :
  ∃fd:FuncData,(∀(s:Shared) (v:Value),BindsTo s fd ⟨[v],[]⟩ [("script", v)])/\∀base:Heap,K.In base->base.Ns mainGlobals mg->L2.FnOk l.prog w K mg base L2.CX0 7 fa fd ["script"] (spD K F_law):=by
 obtain⟨f0,oc,od,kV,dc,pm,an,cd,ct,sl,a0,l0,c0,k0⟩:=h32;have e:=hfa.symm.trans (PySem.W.mg_of X G a0);cases e;have T:Txt mg:=⟨PySem.W.mg_none_of X G z_bool,PySem.W.mg_none_of X G z_dict,PySem.W.mg_none_of X G z_enumerate,PySem.W.mg_none_of X G z_int,PySem.W.mg_none_of X G z_isinstance,PySem.W.mg_none_of X G z_len,PySem.W.mg_none_of X G z_list,PySem.W.mg_none_of X G z_max,PySem.W.mg_none_of X G z_min,PySem.W.mg_none_of X G z_range,PySem.W.mg_none_of X G z_sorted,PySem.W.mg_none_of X G z_tuple,PySem.W.mg_none_of X G z_zip⟩;have F0:=L2.fun_mk (st:=qM) l0 c0 k0;refine⟨PySem.W.fnOf "law" "law" (L2.defArgs qM) (L2.defBody qM) (L2.defScope qM) .none kV dc pm an cd ct,fun s v=>.of_eq rfl,fun base _ _=>?_⟩;have G_law_stir:=ip l.prog w base X G h1 (by trivial) fun _ _ Fu=>wk T  Fu;have G_law_cell:=ip l.prog w base X G h2 (by trivial) fun _ _ Fu=>wx T G_law_stir Fu;have G_law_draw:=ip l.prog w base X G h3 (by trivial) fun _ _ Fu=>wu T  Fu;have G_law_form:=ip l.prog w base X G h4 (by trivial) fun _ _ Fu=>wo T G_law_cell G_law_draw Fu;have G_law_paths:=ip l.prog w base X G h5 (by trivial) fun _ _ Fu=>uv T  Fu;have G_law_fits:=ip l.prog w base X G h6 (by trivial) fun _ _ Fu=>wt T G_law_paths Fu;have G_law_shift:=ip l.prog w base X G h7 (by trivial) fun _ _ Fu=>uu T G_law_draw G_law_cell G_law_fits G_law_paths Fu;have G_law_book:=ip l.prog w base X G h8 (by trivial) fun _ _ Fu=>wy T G_law_draw G_law_cell Fu;have G_triples_along:=ip l.prog w base X G h9 (by trivial) fun _ _ Fu=>pB T  Fu;have G_end_of:=ip l.prog w base X G h10 (by trivial) fun _ _ Fu=>Ax T  Fu;have G_lengthened:=ip l.prog w base X G h11 (by trivial) fun _ _ Fu=>sv T G_end_of Fu;have G_paths:=ip l.prog w base X G h12 (by trivial) fun _ _ Fu=>BJ T G_end_of G_lengthened Fu;have G_head_of:=BY l.prog w base X G h13 (by trivial) fun _ _ Fu=>xZ T  Fu;have G_numbered:=BY l.prog w base X G h14 (by trivial) fun _ _ Fu=>wg T G_head_of Fu;have G_tie:=BY l.prog w base X G h15 (by trivial) fun _ _ Fu=>F3 T G_head_of Fu;have G_tied:=ip l.prog w base X G h16 (by trivial) fun _ _ Fu=>DY T G_tie Fu;have G_row_tables:=ip l.prog w base X G h17 (by trivial) fun _ _ Fu=>su T G_paths G_triples_along G_numbered G_tied Fu;have G_first_triples:=ip l.prog w base X G h18 (by trivial) fun _ _ Fu=>pC T  Fu;have G_carried:=ip l.prog w base X G h19 (by trivial) fun _ _ Fu=>x4 T G_row_tables G_first_triples Fu;have G_went:=ip l.prog w base X G h20 (by trivial) fun _ _ Fu=>DV T  Fu;have G_taken_back:=ip l.prog w base X G h21 (by trivial) fun _ _ Fu=>sr T G_went Fu;have G_law_whole:=ip l.prog w base X G h22 (by trivial) fun _ _ Fu=>ur T  Fu;have G_law_is_map:=ip l.prog w base X G h23 (by trivial) fun _ _ Fu=>sC T G_law_whole Fu;have G_law_tuples:=ip l.prog w base X G h24 (by trivial) fun _ _ Fu=>sA T  Fu;have G_law_maps:=ip l.prog w base X G h25 (by trivial) fun _ _ Fu=>wm T G_law_tuples G_law_is_map Fu;have G_sent:=ip l.prog w base X G h26 (by trivial) fun _ _ Fu=>DZ T  Fu;have G_unit:=ip l.prog w base X G h27 (by trivial) fun _ _ Fu=>DX T G_row_tables Fu;have G_map_back:=ip l.prog w base X G h28 (by trivial) fun _ _ Fu=>wj T  Fu;have G_into:=ip l.prog w base X G h29 (by trivial) fun _ _ Fu=>D0 T G_sent G_unit G_map_back Fu;have G_law_width:=ip l.prog w base X G h30 (by trivial) fun _ _ Fu=>uq T  Fu;have G_out_of:=ip l.prog w base X G h31 (by trivial) fun _ _ Fu=>Aw T G_row_tables G_first_triples G_went Fu;exact F5 T G_law_form G_law_shift G_law_book G_carried G_taken_back G_law_width G_law_maps G_into G_out_of F0
end Lw
theorem PySem.W.Fast.tw9567450587307198012:True:=⟨⟩
theorem PySem.W.Fast.tw2813725490073656468:True:=⟨⟩
theorem PySem.W.Fast.tw7172653845107840227:True:=⟨⟩
theorem PySem.W.Fast.tw10209398468644369089:True:=⟨⟩
theorem PySem.W.Fast.tw16192199691731159622:True:=⟨⟩
theorem PySem.W.Fast.tw18361074143479936118:True:=⟨⟩
theorem PySem.W.Fast.tw16053606112373934557:True:=⟨⟩
theorem PySem.W.Fast.tw11080301866558853698:True:=⟨⟩
theorem PySem.W.Fast.tw10360329936028414589:True:=⟨⟩
theorem PySem.W.Fast.tw17474182135476165644:True:=⟨⟩
theorem PySem.W.Fast.tw8034960176670772188:True:=⟨⟩
theorem PySem.W.Fast.tw11378290705731401118:True:=⟨⟩
theorem PySem.W.Fast.tw14544921431400691485:True:=⟨⟩
theorem PySem.W.Fast.tw11970865949783816122:True:=⟨⟩
theorem PySem.W.Fast.tw8509969615526544690:True:=⟨⟩
theorem PySem.W.Fast.tw2511967137806782298:True:=⟨⟩
theorem PySem.W.Fast.tw6125402941594658674:True:=⟨⟩
theorem PySem.W.Fast.tw3154103750493938507:True:=⟨⟩
theorem PySem.W.Fast.tw17052670063386139166:True:=⟨⟩
theorem PySem.W.Fast.tw17351863712262453361:True:=⟨⟩
theorem PySem.W.Fast.tw9232419823143275276:True:=⟨⟩
theorem PySem.W.Fast.tw5285682423991682774:True:=⟨⟩
theorem PySem.W.Fast.tw4492326276944949166:True:=⟨⟩
theorem PySem.W.Fast.tw13452023703618574887:True:=⟨⟩
theorem PySem.W.Fast.tw16117326941699408354:True:=⟨⟩
theorem PySem.W.Fast.tw736513407247256767:True:=⟨⟩
theorem PySem.W.Fast.tw11731510614453541406:True:=⟨⟩
theorem PySem.W.Fast.tw72240440990824217:True:=⟨⟩
theorem PySem.W.Fast.tw7794116633605674665:True:=⟨⟩
theorem PySem.W.Fast.tw2173718860752871476:True:=⟨⟩
open PySem PySem.W PyProof.Rows
set_option maxRecDepth 100000 in
set_option maxHeartbeats 0 in
theorem PySem.Challenge.cw_formshift_k10_whole_one_to_one_holds : PySem.Challenge.rw_formshift_k10_whole_one_to_one.Holds := by
  w_on; o_law; k_head; (case hw => w_witness2)
  k_fill
  refine L2.walk_ofK (l := PySem.Challenge.rw_formshift_k10_whole_one_to_one) (n := 63) (k := 7) (x := "script") (CX := L2.CX0) (sp := fun K => DL.spD K Lw.F_law) rfl (by decide) rfl ⟨rfl, by decide, by decide⟩ (fun w h Y => PySem.W.kIn_of Y) ?F ?S ?C
  case F =>
    intro w mg fa h KX G hmg;refine' Lw.all_mk KX G hmg ?_ ?_ ?_ ?_ ?_ ?_ ?_ ?_ ?_ ?_ ?_ ?_ ?_ ?_ ?_ ?_ ?_ ?_ ?_ ?_ ?_ ?_ ?_ ?_ ?_ ?_ ?_ ?_ ?_ ?_ ?_ ?_ ?_ ?_ ?_ ?_ ?_ ?_ ?_ ?_ ?_ ?_ ?_ ?_ ?_
    all_goals first|k_is|trivial
  case S => exact fun K H a ns hl hO hS => DL.law_end hS hl Lw.law_true
  case C => exact fun _ _ _ _ z => z

