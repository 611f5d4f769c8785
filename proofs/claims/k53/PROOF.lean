import PyProof.Rows.All
import Wide.All
import OpenK.AllK
import Wide.FinOn
import PyProof.EqAt
import PyProof.EqKinds
import PyProof.NeKinds
import PyProof.TupleCall
import KE.KIsAll
import KE.KIsNot
import KE.RegKIsAll
import OpenK.KOwn
import PyProof.NsDelKeeps
import PyProof.ReprRoads
import PyProof.ExcArgsOwn
import PyProof.IsiH_list
import Lean
import PyProof.StationsW
import PyProof.Rows.Catch
import OpenK.KMake
import PyProof.DictIter
import KE.KDictList
import PyProof.DictItems
import PyProof.DictWalks
import PyProof.TupleOfSeq
import PySem.SetTable
import PyProof.SetKind
import PyProof.IsRules
import PyProof.Rows.SetFrom
import PyProof.FactsAll.set
import KE.KSortTup
import PyProof.Meets
import PyProof.AutoListH
import PyProof.ListMulRoad
import PyProof.FactsAll.tuple_2
import PyProof.Rows.Range3
import PyProof.CallType
import PyProof.EnumMake
import PyProof.Rows.CallKwBuiltin
import KE.LcSums
import KE.KRevIter
import PyProof.Rows.SortLt
import PyProof.FactsAll.range_1
import PyProof.DefCall
import OpenK.KMore
import PySem.Challenge.RW_frontways_k53_whole_grown_of_pairs
macro"w":tactic=>`(tactic|first|lia|omega)
open Lean Parser.Tactic in
macro"!"t:term:tactic=>`(tactic|exact $t)
open Lean Parser.Tactic in
macro"r"t:term:tactic=>`(tactic|refine $t)
open Lean Parser.Tactic in
macro"o"p:rcasesPatMed":="t:term:tactic=>`(tactic|obtain $p:rcasesPatMed:=$t)
open Lean Parser Term in
macro"h"d:letDecl:tactic=>`(tactic|have $d:letDecl)
set_option hygiene false
macro"¡":term=>`(⟨rfl,rfl,rfl,by decide +kernel,rfl,by decide +kernel,by decide +kernel⟩)
macro"¢":term=>`((by w))
macro"£":term=>`((by decide +kernel))
macro"¤":term=>`((by decide))
macro"¥":term=>`((by simp))
macro"¦":term=>`((fun cdv A outer s H vs Q E hr h=>?_))
macro"§":term=>`((fun vs H Q E h=>?_))
macro"¨":term=>`(PySem.W.Frag)
macro"©":term=>`(PySem.W.keepIn)
macro"®":term=>`(PySem.W.findIn)
macro"¯":term=>`(List.getD_eq_getElem?_getD)
macro"°":term=>`(Heap.get?_push_of_some)
macro"±":term=>`(List.getElem?_eq_getElem)
macro"´":term=>`(List.mem_cons_self)
macro"¶":term=>`(List.mem_cons_of_mem)
macro"¸":term=>`(s.heap.objs.size)
macro"¿":term=>`(Heap.get?_push_size)
macro"÷":term=>`((rows.getD (k-2) (0,0,0)))
macro"①":term=>`((model prog w))
macro"②":term=>`((model X.prog X.w))
macro"③":term=>`((Nat.le_refl _))
macro"④":term=>`((Or.inl rfl))
macro"⑤":term=>`((Addr×Obj))
macro"⑥":term=>`((arrOf st))
macro"⑦":term=>`((Option Value))
macro"⑧":term=>`((List Int))
macro"⑨":term=>`((cxComp X (own++fr) scope fp s H))
macro"⑩":term=>`((Bq X (own++fr) scope fp s H))
macro"⑪":term=>`((t.probeStart (hsh prog w k)))
macro"⑫":term=>`((rowIn rows pl k))
macro"⑬":term=>`((List Int×Addr))
macro"⑭":term=>`((ns.map V.int))
macro"⑮":term=>`((nomark _))
macro"⑯":term=>`((pairs owner (List.range (M+1))))
macro"⑰":term=>`((List.mem_append_right _ (List.mem_append_right _ (DR hb e))))
macro"⑱":term=>`((vs.toArray.zip vs.toArray))
macro"⑲":term=>`((beq_iff_eq.mp z))
set_option hygiene true
set_option Elab.async false
set_option linter.all false
set_option maxRecDepth 100000
set_option maxHeartbeats 4000000
set_option maxHeartbeats 8000000
namespace L2
open PySem PySem.Spec PyProof.Rows
abbrev Key:=Sum Int Str
def keyIs:Key->Value->Bool
 | .inl k,v=>Value.isInt k v
 | .inr x,v=>Value.isStrOf x v
def keyH(w:World):Key->Int
 | .inl k=>hashInt k
 | .inr x=>hashStr w x
theorem Bw:∀{k:Key}{v:Value},keyIs k v=true->(∃ i t,k=Sum.inl i/\v=Value.int i t)\/(∃ x t,k=Sum.inr x/\v=Value.str x t)
 | .inl i,v,h=>by
  o⟨t,e⟩:=Value.isInt_shape (k:=i) (v:=v) h;!.inl ⟨i,t,rfl,e⟩
 | .inr x,v,h=>by
  o⟨t,e⟩:=Value.isStrOf_shape (x:=x) (v:=v) h;!.inr ⟨x,t,rfl,e⟩
theorem Ye(i:Int)(t:Tok):keyIs (.inl i) (.int i t)=true:=by simp[keyIs,Value.isInt]
theorem Yl(x:Str)(t:Tok):keyIs (.inr x) (.str x t)=true:=by simp[keyIs,Value.isStrOf]
theorem ADb(a b:Int):decide ((Sum.inl a:Key)=Sum.inl b)=(a==b):=by
 by_cases e:a=b
 ·subst e; simp
 ·h h:¬ (Sum.inl a:Key)=Sum.inl b:=fun q=>e (Sum.inl.inj q)
  rw[decide_eq_false h];!(beq_eq_false_iff_ne.mpr e).symm
theorem ADS(a b:Str):decide ((Sum.inr a:Key)=Sum.inr b)=decide (a=b):=by
 by_cases e:a=b
 ·subst e; simp
 ·h h:¬ (Sum.inr a:Key)=Sum.inr b:=fun q=>e (Sum.inr.inj q)
  rw[decide_eq_false h,decide_eq_false e]
theorem ADm(a:Int)(b:Str):decide ((Sum.inl a:Key)=Sum.inr b)=false:=decide_eq_false (fun q=>nomatch q)
theorem ADU(a:Str)(b:Int):decide ((Sum.inr a:Key)=Sum.inl b)=false:=decide_eq_false (fun q=>nomatch q)
def Bd(prog:Program)(w:World):PySem.KeyKind prog w Key where
 is:=keyIs
 hash:=keyH w
 inj:=fun v a b ha hb=>by
  rcases Bw ha with⟨i,t,rfl,rfl⟩ | ⟨x,t,rfl,rfl⟩
  ·rcases Bw hb with⟨j,u,rfl,e⟩ | ⟨y,u,rfl,e⟩
   ·injection e with e1 _; rw[e1]
   ·!nomatch e
  ·rcases Bw hb with⟨j,u,rfl,e⟩ | ⟨y,u,rfl,e⟩
   ·!nomatch e
   ·injection e with e1 _; rw[e1]
 byValue:=fun k v h=>by
  rcases Bw h with⟨i,t,rfl,rfl⟩ | ⟨x,t,rfl,rfl⟩<;>rfl
 pyHash:=fun hv h=>by
  rcases Bw hv with⟨i,t,rfl,rfl⟩ | ⟨x,t,rfl,rfl⟩
  ·!wpAny_pyHash_int h
  ·!wpAny_pyHash_str h
 eqBool:=fun hu hv h=>by
  rcases Bw hu with⟨i,t,rfl,rfl⟩ | ⟨x,t,rfl,rfl⟩
  ·rcases Bw hv with⟨j,u,rfl,rfl⟩ | ⟨y,u,rfl,rfl⟩
   ·rw[ADb] at h; !wpAny_eqBool_int h
   ·rw[ADm] at h; !SeqAt.EqAt.int_str i t y u _ _ _ _ h
  ·rcases Bw hv with⟨j,u,rfl,rfl⟩ | ⟨y,u,rfl,rfl⟩
   ·rw[ADU] at h; !SeqAt.EqAt.str_int x t j u _ _ _ _ h
   ·rw[ADS] at h; !wpAny_eqBool_str h
 «strs»:=fun k x t v h=>by
  rcases Bw h with⟨i,u,rfl,e⟩ | ⟨y,u,rfl,e⟩
  ·!nomatch e
  ·injection e with e1 _
   subst e1;cases v<;>rfl
theorem RB(prog:Program)(w:World)(i:Int)(t:Tok):(Bd prog w).is (.inl i) (.int i t)=true:=Ye i t
theorem RX(prog:Program)(w:World)(x:Str)(t:Tok):(Bd prog w).is (.inr x) (.str x t)=true:=Yl x t
inductive V where
 | non | bl (b:Bool) | int (i:Int) | str (x:Str) | byt (b:Array UInt8) | flt (b:UInt64) | ref (a:Addr) | ty (n:String)
 deriving DecidableEq
def RelV:V->Value->Prop
 | .non,u=>u=Value.none
 | .bl b,u=>u=Value.bool b
 | .int i,u=>∃ t,u=Value.int i t
 | .str x,u=>∃ t,u=Value.str x t
 | .byt b,u=>∃ t,u=Value.bytes b t
 | .flt b,u=>∃ t,u=Value.float b t
 | .ref a,u=>u=Value.ref a
 | .ty n,u=>u=Value.type n
abbrev Vals:List V->List Value->Prop:=Paired RelV
theorem Vals.length{xs:List V}{us:List Value}(r:Vals xs us):xs.length=us.length:=Paired.length r
theorem Vals.get:∀{xs:List V}{us:List Value}{i:Nat}{x:V},Vals xs us->xs[i]?=some x->∃ u,us[i]?=some u/\RelV x u
 | _,_,_,_,.nil,e=>by simp at e
 | _,_,0,_,.cons r _,e=>by simp at e; subst e; !⟨_,rfl,r⟩
 | _,_,i+1,x,.cons _ t,e=>by
  o⟨u,h1,h2⟩:=Vals.get (i:=i) (x:=x) t (by simpa using e);!⟨u,by simpa using h1,h2⟩
theorem Vals.append:∀{xs ys:List V}{us ws:List Value},Vals xs us->Vals ys ws->Vals (xs++ys) (us++ws)
 | _,_,_,_,.nil,s=>s
 | _,_,_,_,.cons r t,s=>.cons r (Vals.append t s)
theorem Vals.take:∀{xs:List V}{us:List Value} (n:Nat),Vals xs us->Vals (xs.take n) (us.take n)
 | _,_,0,_=>.nil
 | _,_,_+1,.nil=>.nil
 | _,_,n+1,.cons r t=>.cons r (Vals.take n t)
theorem Vals.drop:∀{xs:List V}{us:List Value} (n:Nat),Vals xs us->Vals (xs.drop n) (us.drop n)
 | _,_,0,r=>r
 | _,_,_+1,.nil=>.nil
 | _,_,n+1,.cons _ t=>Vals.drop n t
def RelO:Option V->Option Value->Prop
 | some v,some u=>RelV v u
 | none,none=>True
 | _,_=>False
def KV{κ:Type}:List (κ×V)->List (κ×Value)->Prop:=Paired fun(p:κ×V) (q:κ×Value)=>p.1=q.1/\RelV p.2 q.2
def kV:Key->V
 | .inl i=>.int i
 | .inr x=>.str x
inductive HO where
 | lst (xs:List V)
 | tup (xs:List V)
 | dK (kvs:List (Key×V)) | dT (kvs:List (List Key×V))
 | set (S:Int->Bool) (n:Nat)
 | ins (C dx:Addr) (fs:List (Str×V))
 | own (x:Addr)
 | xd (fs:List (Str×V))
 | met (f x:Addr)
 | rng (lo hi:Int)
 | frz (o:Obj) (u:HO)
 | tbl (ps:Array Value)
 | ext (φ:Heap->Prop)
abbrev Hp:=Addr->Option HO
def upd(H:Hp)(a:Addr)(o:HO):Hp:=fun b=>if b=a then some o else H b
theorem Ab{H:Hp}{a:Addr}{o:HO}:upd H a o a=some o:=by unfold upd; rw[if_pos rfl]
theorem Af{H:Hp}{a b:Addr}{o:HO}(h:b≠a):upd H a o b=H b:=by unfold upd; rw[if_neg h]
theorem ABa{H:Hp}{a:Addr}{o u:HO}:upd (upd H a o) a u=upd H a u:=by
 funext b; unfold upd; split<;>rfl
theorem Cd{H:Hp}{a b:Addr}{o u:HO}(h:H a=some o)(h':H b=some u)(d:o≠u):a≠b:=by
 intro e; subst e; rw[h] at h'; !d (Option.some.inj h')
theorem Ag{H:Hp}{a b:Addr}{o:HO}(h:H a=some o)(h':H b=none):a≠b:=by
 intro e; subst e; rw[h] at h'; cases h'
section
variable (P:Program)(w:World)
def ObjOk(H:Hp)(h:Heap)(a:Addr):HO->Prop
 | .lst xs=>xs.length<=sizeLine/\∃(its:List Value) (n:Nat),Vals xs its/\h.get? a=some {cls:=.type "list",data:=.seq its.toArray n}
 | .tup xs=>xs.length<=sizeLine/\∃ its:List Value,Vals xs its/\IsTup h a its.toArray
 | .dK kvs=>kvs.length<=sizeLine/\(a==sysModules)=false/\∃ vs,KV kvs vs/\h.DictOf (Bd P w) a vs
 | .dT kvs=>kvs.length<=sizeLine/\(a==sysModules)=false/\∃ xs:List (List Key×Addr×Value),
   Paired (fun(p:List Key×V) (q:List Key×Addr×Value)=>p.1=q.1/\H q.2.1=some (.tup (p.1.map kV))/\RelV p.2 q.2.2) kvs xs /\
   ∃ o es ep,h.get? a=some o/\o.ExactDict/\o.data=.dict es ep/\es.toList=xs.map (entryOfKey (tupleKind (Bd P w)))/\(xs.map (·.1)).Nodup
 | .set S n=>h.SetOf (intKind P w) a S n
 | .ins C dx fs=>H dx=some (.own a)/\fs.length<=1000/\dx≠a/\h.get? a=some (PySem.W.instObj C dx) /\
   ∃ mA,h.Ns1 dx mA/\(∀ f,RelO (fs.lookup f) (mA f))/\PySem.Within mA (fs.map (·.1))
 | .own _=>∃ o,h.get? a=some o
 | .xd fs=>∃ mA,h.Ns1 a mA/\∀ f,RelO (fs.lookup f) (mA f)
 | .rng lo hi=>∃ t u v,h.get? a=some {cls:=.type "range",data:=.fields #[.int lo t,.int hi u,.int 1 v]}
 | .frz o u=>h.get? a=some o/\ObjOk H h a u
 | .tbl ps=>h.get? a=some {cls:=.none,data:=.fields ps}
 | .met f x=>h.get? a=some (PySem.W.methodObj (.ref f) (.ref x))
 | .ext φ=>φ h/\(∃ o,h.get? a=some o)/\∀ h1 h2:Heap,φ h1->(∀ o,h1.get? a=some o->h2.get? a=some o)->φ h2
def HOk(H:Hp)(h:Heap):Prop:=∀ a o,H a=some o->ObjOk P w H h a o
end
section
variable{P:Program}{w:World}{H H':Hp}{h h':Heap}{a:Addr}{o:HO}
theorem ObjOk.lt(x:ObjOk P w H h a o):a<h.objs.size:=by
 cases o with
 | lst xs=>o⟨_,_,_,_,e⟩:=x; !Heap.lt_size e
 | tup xs=>o⟨_,_,_,p⟩:=x; !p.lt
 | dK kvs=>o⟨_,_,_,_,o,_,_,e,_⟩:=x; !Heap.lt_size e
 | dT kvs=>o⟨_,_,_,_,o,_,_,e,_⟩:=x; !Heap.lt_size e
 | set S n=>o⟨o,_,_,_,e,_⟩:=x; !Heap.lt_size e
 | ins C dx fs=>o⟨_,_,_,e,_⟩:=x; !Heap.lt_size e
 | own y=>o⟨_,e⟩:=x; !Heap.lt_size e
 | xd fs=>o⟨_,⟨_,_,_,e,_⟩,_⟩:=x; !Heap.lt_size e
 | rng lo hi=>o⟨_,_,_,e⟩:=x; !Heap.lt_size e
 | frz ob u=>o⟨e,_⟩:=x; !Heap.lt_size e
 | tbl ps=>!Heap.lt_size (show h.get? a=some _ from x)
 | met f y=>!Heap.lt_size (show h.get? a=some _ from x)
 | ext φ=>o⟨_,⟨_,e⟩,_⟩:=x; !Heap.lt_size e
theorem Paired.mapP{α β:Type}{F G:α->β->Prop}:∀{l₁:List α}{l₂:List β},Paired F l₁ l₂->(∀ a b,F a b->G a b)->Paired G l₁ l₂
 | _,_,.nil,_=>.nil
 | _,_,.cons r t,f=>.cons (f _ _ r) (Paired.mapP t f)
theorem ObjOk.stay(x:ObjOk P w H h a o)(k:∀ b u,(b=a\/H b=some (.own a))->h.get? b=some u->h'.get? b=some u)
  (ho:∀ b,H b=some (.own a)->H' b=some (.own a)) (ht:∀ b xs,H b=some (.tup xs)->H' b=some (.tup xs)):ObjOk P w H' h' a o:=by
 induction o with
 | lst xs=>o⟨z,its,n,r,e⟩:=x; !⟨z,its,n,r,k _ _ (.inl rfl) e⟩
 | tup xs=>o⟨z,its,r,ob,e,c⟩:=x; !⟨z,its,r,ob,k _ _ (.inl rfl) e,c⟩
 | dK kvs=>o⟨z,y,vs,r,ob,es,ep,e,c⟩:=x; !⟨z,y,vs,r,ob,es,ep,k _ _ (.inl rfl) e,c⟩
 | dT kvs =>
  o⟨z,y,xs,r,ob,es,ep,e,c⟩:=x;!⟨z,y,xs,Paired.mapP r fun p q z=>⟨z.1,ht _ _ z.2.1,z.2.2⟩,ob,es,ep,k _ _ (.inl rfl) e,c⟩
 | set S n=>o⟨ob,es,ep,t,e,c⟩:=x; !⟨ob,es,ep,t,k _ _ (.inl rfl) e,c⟩
 | ins C dx fs =>
  o⟨d,z,ne,e,mA,⟨od,es,ep,e2,c⟩,r⟩:=x;!⟨ho _ d,z,ne,k _ _ (.inl rfl) e,mA,⟨od,es,ep,k _ _ (.inr d) e2,c⟩,r⟩
 | own y=>o⟨ob,e⟩:=x; !⟨ob,k _ _ (.inl rfl) e⟩
 | xd fs=>o⟨mA,⟨od,es,ep,e,c⟩,r⟩:=x; !⟨mA,⟨od,es,ep,k _ _ (.inl rfl) e,c⟩,r⟩
 | rng lo hi=>o⟨t,u,v,e⟩:=x; !⟨t,u,v,k _ _ (.inl rfl) e⟩
 | frz ob u ih=>o⟨e,q⟩:=x; !⟨k _ _ (.inl rfl) e,ih q⟩
 | tbl ps =>
  have e:h.get? a=some {cls:=.none,data:=.fields ps}:=x;show h'.get? a=some {cls:=.none,data:=.fields ps};!k a _ (.inl rfl) e
 | met f y =>
  have e:h.get? a=some (PySem.W.methodObj (.ref f) (.ref y)):=x;show h'.get? a=some (PySem.W.methodObj (.ref f) (.ref y));!k a _ (.inl rfl) e
 | ext φ=>o⟨p,⟨o,e⟩,st⟩:=x; !⟨st _ _ p fun o q=>k _ _ (.inl rfl) q,⟨o,k _ _ (.inl rfl) e⟩,st⟩
theorem HOk.lt(x:HOk P w H h)(e:H a=some o):a<h.objs.size:=(x a o e).lt
theorem HOk.fresh(x:HOk P w H h)(e:h.objs.size<=a):H a=none:=by
 cases q:H a with
 | none=>rfl
 | some u=>!absurd (Nat.lt_of_lt_of_le (x.lt q) e) (Nat.lt_irrefl _)
theorem HOk.kept(x:HOk P w H h)(k:∀ b u,h.get? b=some u->h'.get? b=some u):HOk P w H h':=fun a o e =>
 (x a o e).stay (fun b u _ q=>k b u q) (fun _ q=>q) fun _ _ q=>q
theorem HOk.laid(x:HOk P w H h)(k:∀ b u,h.get? b=some u->h'.get? b=some u)(hp:h.objs.size<=a)(new:ObjOk P w (upd H a o) h' a o):HOk P w (upd H a o) h':=fun b u e=>by
 h hn:=x.fresh hp;by_cases hb:b=a
 ·subst hb; rw[Ab] at e; cases e; !new
 ·rw[Af hb] at e
  !(x b u e).stay (fun c v _ q=>k c v q) (fun c q=>by rw[Af (Ag q hn)]; !q) fun c xs q=>by rw[Af (Ag q hn)]; !q
end
def Rd(H:Hp)(a:Addr)(u:HO):Prop:=H a=some u\/∃ o,H a=some (.frz o u)
theorem Rd.ok{P:Program}{w:World}{H:Hp}{h:Heap}{a:Addr}{u:HO}(r:Rd H a u)(x:HOk P w H h):ObjOk P w H h a u:=by
 rcases r with r | ⟨o,r⟩
 ·!x a u r
 ·o⟨_,q⟩:=x a _ r
  !q
def Mut:Option HO->Prop
 | some (.lst _)=>True
 | some (.dK _)=>True
 | some (.dT _)=>True
 | some (.set _ _)=>True
 | some (.ins _ _ _)=>True
 | some (.ext _)=>True
 | _=>False
section
variable{P:Program}{w:World}{H:Hp}{h h':Heap}{x e:Addr}{o':HO}
theorem HOk.write(ok:HOk P w H h)(mu:Mut (H x))(he:e=x\/H e=some (.own x))(k:∀ b u,b≠e->h.get? b=some u->h'.get? b=some u)(heo:∃ u,h'.get? e=some u)
  (new:ObjOk P w (upd H x o') h' x o'):HOk P w (upd H x o') h':=fun b u q=>by
 h nown:∀ c y,H c=some (.own y)->c≠x:=fun c y r z=>by subst z; rw[r] at mu; !mu
 h ntup:∀ c xs,H c=some (.tup xs)->c≠x:=fun c xs r z=>by subst z; rw[r] at mu; !mu
 by_cases hb:b=x
 ·subst hb; rw[Ab] at q; cases q; !new
 ·rw[Af hb] at q
  by_cases hbe:b=e
  ·h q':H b=some (.own x):=by
    rcases he with z | z
    ·!absurd (hbe.trans z) hb
    ·rw[hbe]; !z
   rw[q] at q'; cases q';o⟨v,hv⟩:=heo;!⟨v,by rw[hbe]; !hv⟩
  ·r(ok b u q).stay (fun c v hc r=>k c v ?_ r) (fun c r=>by rw[Af (nown c b r)]; !r) fun c xs r=>by rw[Af (ntup c xs r)]; !r
   rcases hc with rfl | hc
   ·!hbe
   ·rintro rfl
    rcases he with z | z
    ·!nown c b hc z
    ·rw[hc] at z; cases z; !hb rfl
end
structure Un(fs ex:List Addr)(H H':Hp)(h h':Heap):Prop where
 keep:∀ b o,h.get? b=some o->H b=none->b∉fs->b∉ex->h'.get? b=some o
 slot:∀ b o,h.get? b=some o->H b=none->b∈fs->b∉ex->∃ sl,h'.get? b=some {o with slots:=sl}
 free:∀ b o,h.get? b=some o->H b=none->b∉ex->H' b=none
 there:∀ b o,h.get? b=some o->b∉ex->∃ o',h'.get? b=some o'
 tups:∀ b xs,H b=some (.tup xs)->H' b=some (.tup xs)
 frzs:∀ b o u,H b=some (.frz o u)->H' b=some (.frz o u)
 tbls:∀ b ps,H b=some (.tbl ps)->∃ more,H' b=some (.tbl (ps++more))
section
variable{fs fs' ex ex':List Addr}{H H1 H2:Hp}{h h1 h2 h':Heap}{a x e:Addr}{o:HO}
theorem Un.any(u:Un fs ex H H1 h h1){b:Addr}{ob:Obj}(q:h.get? b=some ob)(n:H b=none)(hx:b∉ex):∃ sl,h1.get? b=some {ob with slots:=sl}:=by
 by_cases hb:b∈fs
 ·!u.slot b ob q n hb hx
 ·!⟨ob.slots,u.keep b ob q n hb hx⟩
theorem Un.kept(k:∀ b u,h.get? b=some u->h'.get? b=some u):Un fs ex H H h h' :=
 ⟨fun b ob q _ _ _=>k b ob q,fun b ob q _ _ _=>⟨ob.slots,k b ob q⟩,fun _ _ _ n _=>n,fun b ob q _=>⟨ob,k b ob q⟩,fun _ _ q=>q,fun _ _ _ q=>q,fun _ ps q=>⟨#[],by rw[q]; simp⟩⟩
theorem Un.refl:Un fs ex H H h h:=Un.kept fun _ _ q=>q
theorem Un.laid(k:∀ b u,h.get? b=some u->h'.get? b=some u)(hp:h.objs.size<=a)(hn:H a=none):Un fs ex H (upd H a o) h h' where
 keep:=fun b u q _ _ _=>k b u q
 slot:=fun b u q _ _ _=>⟨u.slots,k b u q⟩
 free:=fun b u q n _=>by rw[Af (Nat.ne_of_lt (Nat.lt_of_lt_of_le (Heap.lt_size q) hp))]; !n
 there:=fun b u q _=>⟨u,k b u q⟩
 tups:=fun b xs q=>by rw[Af (Ag q hn)]; !q
 frzs:=fun b u xs q=>by rw[Af (Ag q hn)]; !q
 tbls:=fun b ps q=>⟨#[],by rw[Af (Ag q hn),q]; simp⟩
theorem Un.write(mu:Mut (H x))(he:e=x\/H e=some (.own x))(k:∀ b u,b≠e->h.get? b=some u->h'.get? b=some u)(heo:∃ u,h'.get? e=some u):Un fs ex H (upd H x o) h h':=by
 h hx:∀ b,H b=none->b≠x:=fun b n z=>by subst z; rw[n] at mu; !mu
 h hb:∀ b,H b=none->b≠e:=fun b n z=>by
  subst z;rcases he with r | r
  ·!hx b n r
  ·rw[n] at r; cases r
 h hm:∀ b u,H b=some u->¬ Mut (some u)->b≠x:=fun b u q nm z=>by subst z; rw[q] at mu; !nm mu
 r⟨fun b u q n _ _=>k b u (hb b n) q,fun b u q n _ _=>⟨u.slots,k b u (hb b n) q⟩,fun b u q n _=>by rw[Af (hx b n)]; !n,fun b u q _=>?_,
  fun b xs q=>by rw[Af (hm b _ q fun z=>z)]; !q,fun b u xs q=>by rw[Af (hm b _ q fun z=>z)]; !q,fun b ps q=>⟨#[],by rw[Af (hm b _ q fun z=>z),q]; simp⟩⟩
 by_cases hbe:b=e
 ·subst hbe; !heo
 ·!⟨u,k b u hbe q⟩
end
def trk(h:Heap)(H:Hp):List Addr:=(List.range h.objs.size).filter fun a=>(H a).isSome
def hidT(h:Heap)(H:Hp):Heap:=PySem.W.hideAll h (trk h H)
theorem XH(h:Heap)(H:Hp):(hidT h H).objs.size=h.objs.size:=PySem.W.hideAll_size _ _
theorem AAi{h:Heap}{H:Hp}{b:Addr}{o:Obj}(e:h.get? b=some o)(n:H b=none):(hidT h H).get? b=some o :=
 PySem.W.hideAll_get _ e fun hm=>by
  h q:(H b).isSome=true:=(List.mem_filter.mp hm).2;rw[n] at q; simp at q
theorem ABn{h:Heap}{H:Hp}{b:Addr}{o:Obj}(e:(hidT h H).get? b=some o):h.get? b=some o/\H b=none:=by
 h e':h.get? b=some o:=PySem.W.of_hideAll (trk h H) e;r⟨e',?_⟩;cases q:H b with
 | none=>rfl
 | some x =>
  have hm:b∈trk h H:=List.mem_filter.mpr ⟨List.mem_range.mpr (Heap.lt_size e'),by simp[q]⟩;have z:(hidT h H).get? b=none:=PySem.W.hideAll_none (trk h H) hm;rw[z] at e; cases e
structure Mod(K:¨)(mg:Str->Option Value)(base:Heap):Prop where
 kin:K.In base
 glob:base.Ns mainGlobals mg
 blt:∃ mb,base.Ns builtinsNs mb/\∀ x:Str,x≠"__name__"->mb x=bootBuiltins x
 nolimit:base.NoLimit
structure Cx where
 prog:Program
 w:World
 K:¨
 mg:Str->Option Value
 base:Heap
 A:Around
 N:List Str
 s₀:Shared
 H₀:Hp
 env:Env
 outer:List Env
 stack:List Env
 ex:List Addr
 fn:Str->Bool
 calm:Bool
 pn:List ⑤
 xe:Value->Shared->Prop
def frs(l:List Env):List Addr:=l.filterMap (·.frame)
abbrev Cx.fs(X:Cx):List Addr:=frs X.outer
def Vis(sc:Scope)(x:Str):Prop:=sc.names.lookup x=some .local\/sc.names.lookup x=some .cell\/sc.names.lookup x=some .free
def Loc(sc:Scope)(x:Str):Prop:=sc.names.lookup x=some .local\/sc.names.lookup x=some .cell
def Look(env:Env)(h:Heap)(m:Str->Option Value)(x:Str)(u:Value):Prop :=
 (env.kindOf x=some .local/\m x=some u)\/((env.kindOf x=some .cell\/env.kindOf x=some .free)/\∃ c,env.cells.lookup x=some c/\h.IsCell c (some u))
structure Cx.Ok(X:Cx):Prop where
 mod:Mod X.K X.mg X.base
 kind:X.env.scope.kind=.function
 glob:X.env.globals=mainGlobals
 blt:X.env.builtins=builtinsNs
 above:X.s₀.heap.objs.size<=X.env.locals
 inj:∀ x y c,X.env.cells.lookup x=some c->X.env.cells.lookup y=some c->x=y
 has:∀ x,(X.env.kindOf x=some .cell\/X.env.kindOf x=some .free)->∃ c,X.env.cells.lookup x=some c
 cab:∀ x c,X.fn x=true->X.env.cells.lookup x=some c->X.s₀.heap.objs.size<=c
 hd:X.calm=true->X.A.handled=none
 frames:X.A.frames=some X.stack
 stk:X.stack=X.outer\/(X.stack=X.env::X.outer/\X.env.frame=some X.env.locals)
 exf:∀ b∈X.ex,b≠X.env.locals/\∀ x c,X.env.cells.lookup x=some c->c≠b
 bs:∀ b o,X.base.get? b=some o->X.s₀.heap.get? b=some o/\X.H₀ b=none
 bsz:X.base.objs.size<=X.s₀.heap.objs.size
 noex:∀ b o,X.base.get? b=some o->b∉X.ex
 exfs:∀ b∈X.ex,b∉X.fs
 funs:X.s₀.heap.FunFrames X.base X.outer
 frf:∀ b∈X.fs,X.H₀ b=none
structure Inv(X:Cx)(pins:List ⑤)(σ:List (Option V))(H:Hp)(s:Shared):Prop where
 ok:X.Ok
 os:s.os=X.s₀.os
 bare:AllBare s.gens
 base:Un X.fs X.ex X.H₀ H X.s₀.heap s.heap
 loc:∃ m,s.heap.Ns X.env.locals m/\∀(i:Nat) (x:Str) (v:V),X.N[i]?=some x->σ[i]?=some (some v)->Vis X.env.scope x->∃ u,RelV v u/\Look X.env s.heap m x u
 cell:∀ x c,X.env.cells.lookup x=some c->∃ v,s.heap.IsCell c v
 free:H X.env.locals=none
 freeC:∀ x c,X.env.cells.lookup x=some c->H c=none
 pin:∀ p∈X.pn++pins,s.heap.get? p.1=some p.2/\H p.1=none/\p.1≠X.env.locals/\p.1∉X.fs/\∀ v,p.2.data≠.cell v
 hok:HOk X.prog X.w H s.heap
 len:σ.length=X.N.length
section
variable{X:Cx}{pins:List ⑤}{σ:List (Option V)}{H H':Hp}{s:Shared}{h':Heap}
theorem Cx.Ok.nofr(ok:X.Ok){b:Addr}{o:Obj}(e:X.base.get? b=some o):b∉X.fs:=fun hb=>by
 have:=(ok.funs.mem hb).1;rw[e] at this; cases this
theorem Inv.bs(I:Inv X pins σ H s):∀ b o,X.base.get? b=some o->s.heap.get? b=some o/\H b=none:=fun b o e =>
 ⟨I.base.keep b o (I.ok.bs b o e).1 (I.ok.bs b o e).2 (I.ok.nofr e) (I.ok.noex b o e),I.base.free b o (I.ok.bs b o e).1 (I.ok.bs b o e).2 (I.ok.noex b o e)⟩
theorem Inv.bk(I:Inv X pins σ H s):∀ b o,X.base.get? b=some o->s.heap.get? b=some o:=fun b o e=>(I.bs b o e).1
theorem Inv.mod(I:Inv X pins σ H s):Mod X.K X.mg X.base:=I.ok.mod
theorem Inv.kIn(I:Inv X pins σ H s):X.K.In s.heap:=I.ok.mod.kin.keeps I.bk
theorem Inv.lt(I:Inv X pins σ H s):X.env.locals<¸:=let ⟨_,hn,_⟩:=I.loc; hn.lt
theorem Inv.sz(I:Inv X pins σ H s):X.s₀.heap.objs.size<=¸:=Nat.le_trans I.ok.above (Nat.le_of_lt I.lt)
theorem Inv.nofs(I:Inv X pins σ H s){a:Addr}(h:¸<=a):a∉X.fs:=fun hb=>by
 o⟨_,o,ho,_⟩:=I.ok.funs.mem hb;!absurd (Nat.lt_of_lt_of_le (Heap.lt_size ho) (Nat.le_trans I.sz h)) (Nat.lt_irrefl _)
theorem Inv.cne(I:Inv X pins σ H s):∀ x c,X.env.cells.lookup x=some c->c≠X.env.locals:=fun x c e z=>by
 o⟨v,o,ho,hd⟩:=I.cell x c e;o⟨m,⟨o',es,ep,ho',hd',_⟩,_⟩:=I.loc;rw[z,ho'] at ho; cases ho; rw[hd'] at hd; cases hd
theorem Inv.funs(I:Inv X pins σ H s):s.heap.FunFrames X.base X.outer:=by
 h all:∀(l:List Env),(∀ b∈frs l,b∈X.fs)->X.s₀.heap.FunFrames X.base l->s.heap.FunFrames X.base l:=by
  intro l
  induction l with
  | nil=>intro _ _; trivial
  | cons env r ih =>
   intro hs hl;o⟨hk,⟨L,o,hf,hn,ho,hd⟩,hr⟩:=hl;h hL:L∈X.fs:=hs L (by unfold frs; rw[List.filterMap_cons,hf]; !´);o⟨sl,e⟩:=I.base.slot L o ho (I.ok.frf L hL) hL fun z=>I.ok.exfs L z hL;!⟨hk,⟨L,_,hf,hn,e,hd⟩,ih (fun b hb=>hs b (by unfold frs; rw[List.filterMap_cons,hf]; !¶ _ hb)) hr⟩
 !all X.outer (fun _ hb=>hb) I.ok.funs
theorem Inv.stack(I:Inv X pins σ H s):s.heap.FunFrames X.base X.stack:=by
 rcases I.ok.stk with e | ⟨e,hf⟩
 ·rw[e]; !I.funs
 ·rw[e]
  o⟨m,hn,_⟩:=I.loc;r .cons (by rw[I.ok.kind]; decide) hf hn ?_ I.funs;!Heap.get?_none_of_le (Nat.le_trans I.ok.bsz I.ok.above)
theorem Inv.stkSub(I:Inv X pins σ H s):∀ b∈frs X.stack,b∈X.env.locals::X.fs:=fun b hb=>by
 rcases I.ok.stk with e | ⟨e,hf⟩
 ·rw[e] at hb; !¶ _ hb
 ·rw[e] at hb
  unfold frs at hb;rw[List.filterMap_cons,hf] at hb;!hb
theorem Inv.stkFree(I:Inv X pins σ H s):∀ b∈frs X.stack,H b=none:=fun b hb=>by
 rcases List.mem_cons.mp (I.stkSub b hb) with e | hb
 ·rw[e]; !I.free
 ·o⟨_,o,ho,_⟩:=I.ok.funs.mem hb
  !I.base.free b o ho (I.ok.frf b hb) fun z=>I.ok.exfs b z hb
theorem Inv.step{g':Array GenState}{t':Nat}{d':Drawn}{ch:List Addr}(I:Inv X pins σ H s)
  (hch:∀ b∈ch,(b∈X.ex\/X.s₀.heap.objs.size<=b)/\b≠X.env.locals/\(∀ x c,X.env.cells.lookup x=some c->c≠b)/\∀ p∈X.pn++pins,p.1≠b)
  (keep:∀ b o,b≠X.env.locals->b∉X.fs->b∉ch->s.heap.get? b=some o->H b=none->h'.get? b=some o)
  (slot:∀ b o,b≠X.env.locals->b∈X.fs->b∉ch->s.heap.get? b=some o->H b=none->∃ sl,h'.get? b=some {o with slots:=sl}) (free:∀ b o,b∉ch->s.heap.get? b=some o->H b=none->H' b=none)
  (there:∀ b o,b∉ch->s.heap.get? b=some o->∃ o',h'.get? b=some o')
  (tups:∀ b xs,H b=some (.tup xs)->H' b=some (.tup xs)) (frzs:∀ b o u,H b=some (.frz o u)->H' b=some (.frz o u)) (tbls:∀ b ps,H b=some (.tbl ps)->∃ more,H' b=some (.tbl (ps++more)))
  (ns:∀ m,s.heap.Ns X.env.locals m->h'.Ns X.env.locals m) (hok:HOk X.prog X.w H' h') (hg:AllBare g') :
  Inv X pins σ H' {s with heap:=h',gens:=g',drawn:=d',toks:=t'}:=by
 h neL:∀ b o,X.s₀.heap.get? b=some o->b≠X.env.locals:=fun b o e=>Nat.ne_of_lt (Nat.lt_of_lt_of_le (Heap.lt_size e) I.ok.above);h neC:∀ b o,X.s₀.heap.get? b=some o->b∉X.ex->b∉ch:=fun b o e hx hb=>by
  rcases (hch b hb).1 with z | z
  ·!hx z
  ·!absurd (Nat.lt_of_lt_of_le (Heap.lt_size e) z) (Nat.lt_irrefl _)
 h cellK:∀ x c,X.env.cells.lookup x=some c->∀ v,s.heap.IsCell c v->h'.IsCell c v:=fun x c e v ⟨o,ho,hd⟩=>by
  h nch:c∉ch:=fun z=>(hch c z).2.2.1 x c e rfl;by_cases hc:c∈X.fs
  ·o⟨sl,q⟩:=slot c o (I.cne x c e) hc nch ho (I.freeC x c e)
   !⟨_,q,hd⟩
  ·!⟨o,keep c o (I.cne x c e) hc nch ho (I.freeC x c e),hd⟩
 r⟨I.ok,I.os,hg,⟨fun b o e n hb hx=>?_,fun b o e n hb hx=>?_,fun b o e n hx=>?_,fun b o e hx=>?_,fun b xs e=>tups b xs (I.base.tups b xs e),fun b o xs e=>frzs b o xs (I.base.frzs b o xs e),fun b ps e=>?_⟩,?_,fun x c e=>?_,?_,fun x c e=>?_,fun p hp=>?_,hok,I.len⟩
 ·!keep b o (neL b o e) hb (neC b o e hx) (I.base.keep b o e n hb hx) (I.base.free b o e n hx)
 ·o⟨sl,e1⟩:=I.base.slot b o e n hb hx
  o⟨sl',e2⟩:=slot b _ (neL b o e) hb (neC b o e hx) e1 (I.base.free b o e n hx);!⟨sl',e2⟩
 ·o⟨o',e1⟩:=I.base.there b o e hx
  !free b o' (neC b o e hx) e1 (I.base.free b o e n hx)
 ·o⟨o',e1⟩:=I.base.there b o e hx
  !there b o' (neC b o e hx) e1
 ·o⟨m1,e1⟩:=I.base.tbls b ps e
  o⟨m2,e2⟩:=tbls b _ e1;!⟨m1++m2,by rw[e2,Array.append_assoc]⟩
 ·o⟨m,hn,hl⟩:=I.loc
  r⟨m,ns m hn,fun i x v e1 e2 e3=>?_⟩;o⟨u,r,l⟩:=hl i x v e1 e2 e3;r⟨u,r,?_⟩;rcases l with l | ⟨k,c,e,z⟩
  ·!.inl l
  ·!.inr ⟨k,c,e,cellK x c e _ z⟩
 ·o⟨v,z⟩:=I.cell x c e
  !⟨v,cellK x c e v z⟩
 ·o⟨m,⟨o,_,_,ho,_⟩,_⟩:=I.loc
  !free _ o (fun z=>(hch _ z).2.1 rfl) ho I.free
 ·o⟨v,o,ho,hd⟩:=I.cell x c e
  !free c o (fun z=>(hch c z).2.2.1 x c e rfl) ho (I.freeC x c e)
 ·o⟨e,n,ne,nf,d⟩:=I.pin p hp
  h nch:p.1∉ch:=fun z=>(hch p.1 z).2.2.2 p hp rfl;!⟨keep p.1 p.2 ne nf nch e n,free p.1 p.2 nch e n,ne,nf,d⟩
theorem Inv.un{t':Nat}(I:Inv X pins σ H s)(u:Un X.fs [] H H' s.heap h')(hok:HOk X.prog X.w H' h'):Inv X pins σ H' {s with heap:=h',toks:=t'}:=by
 o⟨m,⟨o,es,ep,ho,r⟩,_⟩:=id I.loc;o⟨sl,hL⟩:=u.any ho I.free ¥;!I.step (g':=s.gens) (d':=s.drawn) (ch:=[]) (fun _ z=>nomatch z) (fun b o _ hb _ e n=>u.keep b o e n hb ¥) (fun b o _ hb _ e n=>u.slot b o e n hb ¥) (fun b o _ e n=>u.free b o e n ¥) (fun b o _ e=>u.there b o e ¥) u.tups u.frzs u.tbls (fun m' hm=>by
  o⟨o',es',ep',ho',r'⟩:=hm;rw[ho] at ho'; cases ho';!⟨_,es',ep',hL,r'⟩) hok I.bare
theorem Inv.call{g':Array GenState}{t':Nat}{d':Drawn}{ch:List Addr}(I:Inv X pins σ H s)(u:Un (frs X.stack) ch H H' s.heap h')(hok:HOk X.prog X.w H' h')(hg:AllBare g')
  (hch:∀ b∈ch,(b∈X.ex\/X.s₀.heap.objs.size<=b)/\b≠X.env.locals/\(∀ x c,X.env.cells.lookup x=some c->c≠b)/\∀ p∈X.pn++pins,p.1≠b) :
  Inv X pins σ H' {s with heap:=h',gens:=g',drawn:=d',toks:=t'}:=by
 o⟨m,⟨o,es,ep,ho,r⟩,_⟩:=id I.loc;o⟨sl,hL⟩:=u.any ho I.free fun z=>(hch _ z).2.1 rfl;!I.step (ch:=ch) hch (fun b o hL hb hc e n=>u.keep b o e n (fun z=>(List.mem_cons.mp (I.stkSub b z)).elim hL hb) hc) (fun b o _ _ hc e n=>u.any e n hc) (fun b o hc e n=>u.free b o e n hc) (fun b o hc e=>u.there b o e hc) u.tups u.frzs u.tbls (fun m' hm=>by
  o⟨o',es',ep',ho',r'⟩:=hm;rw[ho] at ho'; cases ho';!⟨_,es',ep',hL,r'⟩) hok hg
theorem Inv.turned{t':Nat}{it:Addr}(I:Inv X pins σ H s)(k:∀ b o,b≠it->s.heap.get? b=some o->h'.get? b=some o)(hn:H it=none)(hL:it≠X.env.locals)
  (h1:it∈X.ex\/X.s₀.heap.objs.size<=it) (h2:∀ x c,X.env.cells.lookup x=some c->c≠it) (h3:∀ p∈X.pn++pins,p.1≠it):Inv X pins σ H {s with heap:=h',toks:=t'}:=by
 h nit:∀ b u,H b=some u->b≠it:=fun b u e z=>by rw[z,hn] at e; cases e
 r I.step (g':=s.gens) (d':=s.drawn) (ch:=[it]) (fun b hb=>?_) (fun b o _ _ hc e _=>k b o (fun z=>hc (by simp[z])) e) (fun b o _ _ hc e _=>⟨o.slots,k b o (fun z=>hc (by simp[z])) e⟩) (fun _ _ _ _ n=>n)
  (fun b o hc e=>⟨o,k b o (fun z=>hc (by simp[z])) e⟩) (fun _ _ e=>e) (fun _ _ _ e=>e) (fun b ps e=>⟨#[],by rw[e]; simp⟩) (fun m hm=>?_) (fun b u e=>?_) I.bare
 ·h e:b=it:=by simpa using hb
  subst e;!⟨h1,hL,h2,h3⟩
 ·o⟨o,es,ep,ho,r⟩:=hm
  !⟨o,es,ep,k _ o (Ne.symm hL) ho,r⟩
 ·r(I.hok b u e).stay (fun c v hc q=>k c v ?_ q) (fun _ q=>q) fun _ _ q=>q
  rcases hc with z | z
  ·rw[z]; !nit b u e
  ·!nit c _ z
theorem Inv.tok(I:Inv X pins σ H s)(t:Nat):Inv X pins σ H {s with toks:=t}:=I.un (h':=s.heap) (t':=t) Un.refl I.hok
theorem Inv.kept{t':Nat}(I:Inv X pins σ H s)(k:∀ b u,s.heap.get? b=some u->h'.get? b=some u):Inv X pins σ H {s with heap:=h',toks:=t'}:=I.un (Un.kept k) (I.hok.kept k)
theorem Inv.laid{a:Addr}{o:HO}{t':Nat}(I:Inv X pins σ H s)(k:∀ b u,s.heap.get? b=some u->h'.get? b=some u)(hp:¸<=a)(new:ObjOk X.prog X.w (upd H a o) h' a o) :
  Inv X pins σ (upd H a o) {s with heap:=h',toks:=t'}:=I.un (Un.laid k hp (I.hok.fresh hp)) (I.hok.laid k hp new)
theorem Inv.write{x e:Addr}{o:HO}{t':Nat}(I:Inv X pins σ H s)(mu:Mut (H x))(he:e=x\/H e=some (.own x))(k:∀ b u,b≠e->s.heap.get? b=some u->h'.get? b=some u)(heo:∃ u,h'.get? e=some u)
  (new:ObjOk X.prog X.w (upd H x o) h' x o):Inv X pins σ (upd H x o) {s with heap:=h',toks:=t'}:=I.un (Un.write mu he k heo) (I.hok.write mu he k heo new)
theorem Inv.pins_of{pins':List ⑤}(I:Inv X pins σ H s)(h:∀ p∈pins',s.heap.get? p.1=some p.2/\H p.1=none/\p.1≠X.env.locals/\p.1∉X.fs/\∀ v,p.2.data≠.cell v):Inv X pins' σ H s :=
 ⟨I.ok,I.os,I.bare,I.base,I.loc,I.cell,I.free,I.freeC,fun p hp=>(List.mem_append.mp hp).elim (fun z=>I.pin p (List.mem_append_left _ z)) (h p),I.hok,I.len⟩
theorem Ql{N:List Str}(hN:N.Nodup){i j:Nat}{x:Str}(a:N[i]?=some x)(b:N[j]?=some x):i=j:=by
 o⟨h1,e1⟩:=List.getElem?_eq_some_iff.mp a;o⟨h2,e2⟩:=List.getElem?_eq_some_iff.mp b;!(List.getElem_inj hN).mp (e1.trans e2.symm)
theorem Jf{M:Model}{A:Around}{E:Value->Shared->Prop}{i:Nat}{x:Str}{v:V}{u:Value}{Q:Unit->Shared->Prop}(I:Inv X pins σ H s)(hN:X.N.Nodup)(hi:X.N[i]?=some x)(hx:Loc X.env.scope x)(r:RelV v u)
  (h:∀ s',Inv X pins (σ.set i (some v)) H s'->(∃ a,Heap.SameBut a s.heap s'.heap/\(a=X.env.locals\/X.env.cells.lookup x=some a))->Q () s') (hf:X.fn x=true\/X.env.scope.names.lookup x=some .local:=by first | !.inl rfl | !.inr rfl | assumption):wpAny M A (storeName X.env x u) Q E s:=by
 o⟨m,hn,hl⟩:=id I.loc;h hcls:(X.env.scope.kind == .class||(X.env.scope.kind == .module&&X.env.locals != X.env.globals))=false:=by rw[I.ok.kind]; rfl
 h hiσ:i<σ.length:=by rw[I.len]; !(List.getElem?_eq_some_iff.mp hi).1
 h cne:=I.cne;h tracked:∀{a:Addr}{h':Heap},(∃ o,s.heap.get? a=some o/\H a=none)->Heap.SameBut a s.heap h'->HOk X.prog X.w H h':=fun {a h'} ha hs b ob e=>by
  o⟨_,_,hfree⟩:=ha;r(I.hok b ob e).stay (fun c w' hc q=>(hs.2 c ?_).trans q) (fun _ q=>q) fun _ _ q=>q;rintro rfl;rcases hc with rfl | hc
  ·rw[hfree] at e; cases e
  ·rw[hfree] at hc; cases hc
 rcases hx with hk | hk
 ·r wpAny_storeName_local hk hn (fun h' hn' hs=>?_) hcls
  o⟨oL,_,_,hoL,_⟩:=id hn;r h _ ⟨I.ok,I.os,I.bare,⟨fun b o e n hb hx=>?_,fun b o e n hb hx=>?_,I.base.free,fun b o e hx=>?_,I.base.tups,I.base.frzs,I.base.tbls⟩,⟨_,hn',fun j y v' e1 e2 e3=>?_⟩,fun y c e=>?_,I.free,I.freeC,fun p hp=>?_,tracked ⟨oL,hoL,I.free⟩ hs,by simpa using I.len⟩ ⟨_,hs,.inl rfl⟩
  ·!(hs.2 b (Nat.ne_of_lt (Nat.lt_of_lt_of_le (Heap.lt_size e) I.ok.above))).trans (I.base.keep b o e n hb hx)
  ·o⟨sl,e1⟩:=I.base.slot b o e n hb hx
   !⟨sl,(hs.2 b (Nat.ne_of_lt (Nat.lt_of_lt_of_le (Heap.lt_size e) I.ok.above))).trans e1⟩
  ·o⟨o',e1⟩:=I.base.there b o e hx
   !⟨o',(hs.2 b (Nat.ne_of_lt (Nat.lt_of_lt_of_le (Heap.lt_size e) I.ok.above))).trans e1⟩
  ·by_cases hj:j=i
   ·subst hj
    rw[hi] at e1; cases e1;rw[List.getElem?_set_self hiσ] at e2;cases e2;!⟨u,r,.inl ⟨hk,by simp⟩⟩
   ·rw[List.getElem?_set_ne (Ne.symm hj)] at e2
    o⟨u',r',q⟩:=hl j y v' e1 e2 e3;r⟨u',r',?_⟩;rcases q with⟨k,e⟩ | ⟨k,c,e,z⟩
    ·r .inl ⟨k,?_⟩
     have:y≠x:=fun e=>hj (Ql hN e1 (e ▸ hi));simp[this,e]
    ·!.inr ⟨k,c,e,z.sameBut hs (cne y c e)⟩
  ·o⟨w',z⟩:=I.cell y c e
   !⟨w',z.sameBut hs (cne y c e)⟩
  ·o⟨e,n,ne,nf,d⟩:=I.pin p hp
   !⟨(hs.2 p.1 ne).trans e,n,ne,nf,d⟩
 ·h hfn:X.fn x=true:=by
   rcases hf with z | z
   ·!z
   ·rw[z] at hk; cases hk
  o⟨c,hc⟩:=I.ok.has x (.inl hk);o⟨w',z⟩:=I.cell x c hc;r wpAny_storeName_cell I.ok.kind hk hc z (fun h' hc' hs=>?_);o⟨oc,hoc,hocd⟩:=id z;r h {s with heap:=h'} ⟨I.ok,I.os,I.bare,⟨fun b o e n hb hx=>?_,fun b o e n hb hx=>?_,I.base.free,fun b o e hx=>?_,I.base.tups,I.base.frzs,I.base.tbls⟩,⟨m,hn.sameBut hs (Ne.symm (cne x c hc)),fun j y v' e1 e2 e3=>?_⟩,fun y c' e=>?_,I.free,I.freeC,fun p hp=>?_,tracked ⟨oc,hoc,I.freeC x c hc⟩ hs,by simpa using I.len⟩ ⟨c,hs,.inr hc⟩
  ·!(hs.2 b (Nat.ne_of_lt (Nat.lt_of_lt_of_le (Heap.lt_size e) (I.ok.cab x c hfn hc)))).trans (I.base.keep b o e n hb hx)
  ·o⟨sl,e1⟩:=I.base.slot b o e n hb hx
   !⟨sl,(hs.2 b (Nat.ne_of_lt (Nat.lt_of_lt_of_le (Heap.lt_size e) (I.ok.cab x c hfn hc)))).trans e1⟩
  ·o⟨o',e1⟩:=I.base.there b o e hx
   !⟨o',(hs.2 b (Nat.ne_of_lt (Nat.lt_of_lt_of_le (Heap.lt_size e) (I.ok.cab x c hfn hc)))).trans e1⟩
  ·by_cases hj:j=i
   ·subst hj
    rw[hi] at e1; cases e1;rw[List.getElem?_set_self hiσ] at e2;cases e2;!⟨u,r,.inr ⟨.inl hk,c,hc,hc'⟩⟩
   ·rw[List.getElem?_set_ne (Ne.symm hj)] at e2
    o⟨u',r',q⟩:=hl j y v' e1 e2 e3;r⟨u',r',?_⟩;rcases q with q | ⟨k,c',e,z'⟩
    ·!.inl q
    ·r .inr ⟨k,c',e,z'.sameBut hs ?_⟩
     rintro rfl;!hj (Ql hN e1 (I.ok.inj _ _ _ e hc ▸ hi))
  ·by_cases hcc:c'=c
   ·subst hcc; !⟨_,hc'⟩
   ·o⟨w2,z2⟩:=I.cell y c' e
    !⟨w2,z2.sameBut hs hcc⟩
  ·o⟨e,n,ne,nf,d⟩:=I.pin p hp
   r⟨(hs.2 p.1 ?_).trans e,n,ne,nf,d⟩;intro q;rw[q,hoc] at e;h q':oc=p.2:=Option.some.inj e;!d w' (by rw[<- q']; !hocd)
theorem Ri{M:Model}{A:Around}{E:Value->Shared->Prop}{i:Nat}{x:Str}{v:V}{u:Value}{Q:Unit->Shared->Prop}(I:Inv X pins σ H s)(hN:X.N.Nodup)(hi:X.N[i]?=some x)(hx:Loc X.env.scope x)(r:RelV v u)
  (h:∀ s',Inv X pins (σ.set i (some v)) H s'->Q () s') (hf:X.fn x=true\/X.env.scope.names.lookup x=some .local:=by first | !.inl rfl | !.inr rfl | assumption):wpAny M A (storeName X.env x u) Q E s :=
 Jf I hN hi hx r (fun s' I' _=>h s' I') hf
theorem Inv.call'{s':Shared}{ch:List Addr}(I:Inv X pins σ H s)(ho:s'.os=s.os)(u:Un (frs X.stack) ch H H' s.heap s'.heap)(hok:HOk X.prog X.w H' s'.heap)(hg:AllBare s'.gens)
  (hch:∀ b∈ch,(b∈X.ex\/X.s₀.heap.objs.size<=b)/\b≠X.env.locals/\(∀ x c,X.env.cells.lookup x=some c->c≠b)/\∀ p∈X.pn++pins,p.1≠b):Inv X pins σ H' s':=by
 o⟨h',g',d',t',o'⟩:=s';h e:o'=s.os:=ho;subst e;!I.call (g':=g') (t':=t') (d':=d') u hok hg hch
end
abbrev XK:=Value->Option Addr->Hp->Prop
abbrev St:=List (Option V)
abbrev VK:=V->Hp->Prop
abbrev TE:=St->Hp->VK->Prop
abbrev TT:=St->Hp->(Bool->Hp->Prop)->Prop
abbrev TA:=St->Hp->(List V->Hp->Prop)->Prop
structure Ends where
 nx:St->Hp->Prop
 rt:VK
 bk:St->Hp->Prop:=fun _ _=>False
 ct:St->Hp->Prop:=fun _ _=>False
abbrev TS:=Ends->St->Hp->Prop
def EP(X:Cx)(pins:List ⑤)(σ:St)(Q:VK)(u:Value)(s':Shared):Prop:=∃ v H',Inv X pins σ H' s'/\RelV v u/\Q v H'
def TP(X:Cx)(pins:List ⑤)(σ:St)(Q:Bool->Hp->Prop)(b:Bool)(s':Shared):Prop:=∃ H',Inv X pins σ H' s'/\Q b H'
def AP(X:Cx)(pins:List ⑤)(σ:St)(Q:List V->Hp->Prop)(us:List Value)(s':Shared):Prop:=∃ vs H',Inv X pins σ H' s'/\Vals vs us/\Q vs H'
def SP(X:Cx)(pins:List ⑤)(D:Ends)(f:Flow)(s':Shared):Prop :=
 match f with
 | .next=>∃ σ' H',Inv X pins σ' H' s'/\D.nx σ' H'
 | .brk=>∃ σ' H',Inv X pins σ' H' s'/\D.bk σ' H'
 | .cont=>∃ σ' H',Inv X pins σ' H' s'/\D.ct σ' H'
 | .ret u=>∃ v σ' H',Inv X pins σ' H' s'/\RelV v u/\D.rt v H'
def PE(X:Cx)(e:Expr)(t:TE):Prop :=
 ∀(pins:List ⑤) (s:Shared) (σ:St) (H:Hp) (Q:VK),Inv X pins σ H s->t σ H Q->wpAny ② X.A (eval e X.env) (EP X pins σ Q) X.xe s
def PT(X:Cx)(e:Expr)(t:TT):Prop :=
 ∀(pins:List ⑤) (s:Shared) (σ:St) (H:Hp) (Q:Bool->Hp->Prop),Inv X pins σ H s->t σ H Q->wpAny ② X.A (isTrue e X.env (eval e X.env)) (TP X pins σ Q) X.xe s
def PW(X:Cx)(e:Expr)(t:TT):Prop :=
 ∀(whole:Sem Value) (pins:List ⑤) (s:Shared) (σ:St) (H:Hp) (Q:Bool->Hp->Prop),Inv X pins σ H s->t σ H Q->wpAny ② X.A (isTrue e X.env whole) (TP X pins σ Q) X.xe s
theorem PW.pt{X:Cx}{e:Expr}{t:TT}(h:PW X e t):PT X e t:=h _
def PA(X:Cx)(es:List Expr)(t:TA):Prop :=
 ∀(pos:Pos) (pins:List ⑤) (s:Shared) (σ:St) (H:Hp) (Q:List V->Hp->Prop),Inv X pins σ H s->t σ H Q->wpAny ② X.A (spliced (backTo pos (starEach es X.env))) (AP X pins σ Q) X.xe s
def PS(X:Cx)(st:Stmt)(t:TS):Prop :=
 ∀(pins:List ⑤) (s:Shared) (σ:St) (H:Hp) (D:Ends),Inv X pins σ H s->t D σ H->wpAny ② X.A (exec st X.env) (SP X pins D) X.xe s
def PSs(X:Cx)(st:List Stmt)(t:TS):Prop :=
 ∀(pins:List ⑤) (s:Shared) (σ:St) (H:Hp) (D:Ends),Inv X pins σ H s->t D σ H->wpAny ② X.A (execs st X.env) (SP X pins D) X.xe s
theorem thn{α:Type}{t:Sem α}{Q Q':α->Shared->Prop}{M:Model}{A:Around}{E:Value->Shared->Prop}{s:Shared}(h:wpAny M A t Q E s)(hQ:∀ a s,Q a s->Q' a s):wpAny M A t Q' E s:=wpAny_mono h hQ fun _ _ x=>x
section
variable{X:Cx}
def AEh(i:Nat):TE:=fun σ H Q=>∃ v,σ[i]?=some (some v)/\Q v H
def tC(v:V):TE:=fun _ H Q=>Q v H
theorem AEU{i:Nat}{x:Str}{pos:Pos}(hN:X.N[i]?=some x)(hv:Vis X.env.scope x)(hd:(x==("__debug__" : Str))=false:=by decide)(hcd:(x==("__classdict__" : Str))=false:=by decide):PE X (.Name x pos) (AEh i):=by
 intro pins s σ H Q I h;o⟨v,e,h⟩:=h;o⟨m,hn,hl⟩:=I.loc;o⟨u,r,l⟩:=hl i x v hN e hv;h fin:EP X pins σ Q u s:=⟨v,H,I,r,h⟩;rcases l with⟨hk,hm⟩ | ⟨hk,c,hc,hcell⟩
 ·!wpAny_Name (wpAny_loadName_local I.ok.kind hk hn hm fin) hd
 ·rcases hk with hk | hk
  ·!wpAny_Name (wpAny_loadName_cell I.ok.kind hk hc hcell fin) hd
  ·!wpAny_Name (wpAny_loadName_free I.ok.kind hk hc hcell fin hcd) hd
theorem Ah{i j pos}:PE X (.Constant (.int i) j pos) (tC (.int i)):=fun _ _ _ H _ I h=>wpAny_Constant_int ⟨.int i,H,I.tok _,⟨_,rfl⟩,h⟩
theorem Ec{b j pos}:PE X (.Constant (.bool b) j pos) (tC (.bl b)):=fun _ _ _ H _ I h=>Constant_bool ⟨.bl b,H,I,rfl,h⟩
theorem ZK{j pos}:PE X (.Constant .none j pos) (tC .non):=fun _ _ _ H _ I h=>Constant_none ⟨.non,H,I,rfl,h⟩
def Gl(X:Cx)(x:Str):Prop:=X.env.kindOf x=some .globalImplicit
theorem Gj{E:Value->Shared->Prop}{pins:List ⑤}{s:Shared}{σ:St}{H:Hp}{x:Str}{u:Value}{pos:Pos}{Q:Value->Shared->Prop}(I:Inv X pins σ H s)(hg:Gl X x)(hm:X.mg x=some u)(h:Q u s)
  (hd:(x==("__debug__" : Str))=false:=by decide):wpAny ② X.A (eval (.Name x pos) X.env) Q E s :=
 Calls.Name_function_global I.ok.kind hg (Calls.loadGlobal_global (by rw[I.ok.glob]; !I.mod.glob.keeps I.bk) hm h) hd
theorem Ej{E:Value->Shared->Prop}{pins:List ⑤}{s:Shared}{σ:St}{H:Hp}{x:Str}{u:Value}{pos:Pos}{Q:Value->Shared->Prop}(I:Inv X pins σ H s)(hg:Gl X x)(hm:X.mg x=none)(hv:bootBuiltins x=some u)(h:Q u s)
  (hn:x≠"__name__":=by decide) (hd:(x==("__debug__" : Str))=false:=by decide):wpAny ② X.A (eval (.Name x pos) X.env) Q E s:=by
 o⟨mb,h1,h2⟩:=I.mod.blt;!Calls.Name_function_global I.ok.kind hg (Calls.loadGlobal_builtin (by rw[I.ok.glob]; !I.mod.glob.keeps I.bk) hm (by rw[I.ok.blt]; !h1.keeps I.bk) ((h2 x hn).trans hv) h) hd
theorem Gv{x:Str}{v:V}{u:Value}{pos:Pos}(hg:Gl X x)(hm:X.mg x=some u)(r:RelV v u)(hd:(x==("__debug__" : Str))=false:=by decide):PE X (.Name x pos) (tC v) :=
 fun _ _ _ H _ I h=>Gj I hg hm ⟨v,H,I,r,h⟩ hd
theorem ACW{x:Str}{v:V}{u:Value}{pos:Pos}(hg:Gl X x)(hm:X.mg x=none)(hv:bootBuiltins x=some u)(r:RelV v u)(hn:x≠"__name__":=by decide)(hd:(x==("__debug__" : Str))=false:=by decide):PE X (.Name x pos) (tC v) :=
 fun _ _ _ H _ I h=>Ej I hg hm hv ⟨v,H,I,r,h⟩ hn hd
variable{a b:Expr}{ta tb:TE}{pos:Pos}
def PC(X:Cx)(op:CmpOp)(a b:Expr)(t:TE):Prop :=
 ∀(pins:List ⑤) (s:Shared) (σ:St) (H:Hp) (Q:VK),Inv X pins σ H s->t σ H Q ->
  wpAny ② X.A (eval a X.env) (fun v s₁=>wpAny ② X.A (eval b X.env) (fun u s₂=>wpAny ② X.A (compareOp op v u) (EP X pins σ Q) X.xe s₂) X.xe s₁) X.xe s
theorem Rk(b:Expr){op:CmpOp}(h:op≠.In)(h2:op≠.NotIn):behindInMarks op b=false:=by
 h e1:(op==CmpOp.In)=false:=by cases op<;>first | rfl | !absurd rfl h
 h e2:(op==CmpOp.NotIn)=false:=by cases op<;>first | rfl | !absurd rfl h2
 cases b<;>simp[behindInMarks,e1,e2]
def AFS(ta:TE):TE:=fun σ H Q=>ta σ H fun x H1=>Q (.bl (decide (x=.non))) H1
def AEv(ta:TE):TE:=fun σ H Q=>ta σ H fun x H1=>Q (.bl (!decide (x=.non))) H1
theorem RelV.none_iff{x:V}{v:Value}(r:RelV x v):(v==Value.none)=decide (x=.non):=by
 cases x with
 | non=>cases r; rfl
 | bl _=>cases r; rfl
 | int _=>o⟨t,rfl⟩:=r; rfl
 | str _=>o⟨t,rfl⟩:=r; rfl
 | byt _=>o⟨t,rfl⟩:=r; rfl
 | flt _=>o⟨t,rfl⟩:=r; rfl
 | ref _=>cases r; rfl
 | ty _=>cases r; rfl
theorem ADR{j pos'}(ha:PE X a ta):PC X .Is a (.Constant .none j pos') (AFS ta):=by
 intro pins s σ H Q I h;r thn (ha pins s σ H _ I h) fun v s1 ⟨x,H1,I1,r1,q1⟩=>?_;!Constant_none (is_none_gen ⟨.bl _,H1,I1,by rw[r1.none_iff]; rfl,q1⟩)
theorem ACS{j pos'}(ha:PE X a ta):PC X .IsNot a (.Constant .none j pos') (AEv ta):=by
 intro pins s σ H Q I h;r thn (ha pins s σ H _ I h) fun v s1 ⟨x,H1,I1,r1,q1⟩=>?_;!Constant_none (isnot_none_gen ⟨.bl _,H1,I1,by rw[r1.none_iff]; rfl,q1⟩)
def tB(t:TE):TT:=fun σ H Q=>t σ H fun x H1=>∃ c,x=.bl c/\Q c H1
theorem ADN{op:CmpOp}{t:TE}(h:PC X op a b t)(h1:behindInMarks op b=false:=by first | !Rk _ ¤ ¤ | rfl):PE X (.Compare a [op] [b] pos) t:=fun pins s σ H Q I hw=>wpAny_Compare1 (h pins s σ H Q I hw) h1
theorem KZ{op:CmpOp}{t:TE}(h:PC X op a b t)(h1:behindInMarks op b=false:=by first | !Rk _ ¤ ¤ | rfl):PT X (.Compare a [op] [b] pos) (tB t):=by
 intro pins s σ H Q I hw;r wpAny_isTrue_Compare1 (thn (h pins s σ H _ I hw) fun v s1 h1=>thn h1 fun u s2 h2=>thn h2 fun c s3 ⟨x,H1,I1,r1,q1⟩=>?_) h1;o⟨d,rfl,q⟩:=q1;cases r1;!wpAny_truthy_bool ⟨H1,I1,q⟩
theorem Hq{e:Expr}{t:TE}(h:PE X e t)(he:∀ whole,isTrue e X.env whole=(do let v <- whole; standAt e.pos; holding [v] (truthy v)):=by intro _; rfl):PT X e (tB t):=by
 intro pins s σ H Q I hw;r isTrue_plain (thn (h pins s σ H _ I hw) fun v s1 ⟨x,H1,I1,r1,q1⟩=>?_) (he _);o⟨d,rfl,q⟩:=q1;cases r1;!wpAny_truthy_bool ⟨H1,I1,q⟩
variable{tA tB':TT}{rest:List Expr}
def AFY(t u:TT):TT:=fun σ H Q=>t σ H fun c H1=>if c=true then u σ H1 Q else Q false H1
def tOr(t u:TT):TT:=fun σ H Q=>t σ H fun c H1=>if c=true then Q true H1 else u σ H1 Q
def AFh(t:TT):TT:=fun σ H Q=>t σ H fun c H1=>Q (!c) H1
theorem Ie(ha:PT X a tA):PW X (.BoolOp .And [a] pos) tA:=by
 intro wh pins s σ H Q I h;r isTrue_and (thn (ha pins s σ H Q I h) fun c s1 e=>?_);cases c with
 | true=>!isTrue_and_nil e
 | false=>!e
theorem Ho(ha:PT X a tA):PW X (.BoolOp .Or [a] pos) tA:=by
 intro wh pins s σ H Q I h;r isTrue_or (thn (ha pins s σ H Q I h) fun c s1 e=>?_);cases c with
 | false=>!isTrue_or_nil e
 | true=>!e
theorem LC(ha:PT X a tA)(hb:PW X (.BoolOp .And (b::rest) pos) tB'):PW X (.BoolOp .And (a::b::rest) pos) (AFY tA tB'):=by
 intro wh pins s σ H Q I h;r isTrue_and (thn (ha pins s σ H _ I h) fun c s1 ⟨H1,I1,q1⟩=>?_);cases c with
 | true=>!hb wh pins s1 σ H1 Q I1 q1
 | false=>!⟨H1,I1,q1⟩
theorem HN(ha:PT X a tA)(hb:PW X (.BoolOp .Or (b::rest) pos) tB'):PW X (.BoolOp .Or (a::b::rest) pos) (tOr tA tB'):=by
 intro wh pins s σ H Q I h;r isTrue_or (thn (ha pins s σ H _ I h) fun c s1 ⟨H1,I1,q1⟩=>?_);cases c with
 | true=>!⟨H1,I1,q1⟩
 | false=>!hb wh pins s1 σ H1 Q I1 q1
theorem Kl(ha:PT X a tA):PT X (.UnaryOp .Not a pos) (AFh tA):=by
 intro pins s σ H Q I h;!isTrue_not (ha pins s σ H (fun c H1=>Q (!c) H1) I h)
def AFP(ta tb:TE):TE:=fun σ H Q=>ta σ H fun x H1=>∃ c,x=.bl c/\if c=true then tb σ H1 Q else Q (.bl false) H1
def AFg(ta tb:TE):TE:=fun σ H Q=>ta σ H fun x H1=>∃ c,x=.bl c/\if c=true then Q (.bl true) H1 else tb σ H1 Q
def AEm(ta:TE):TE:=fun σ H Q=>ta σ H fun x H1=>∃ c,x=.bl c/\Q (.bl (!c)) H1
theorem QX{op}{t:TE}(h:PE X a t):PE X (.BoolOp op [a] pos) t:=fun pins s σ H Q I hw=>BoolOp_one (h pins s σ H Q I hw)
theorem Vb(ha:PE X a ta)(hb:PE X (.BoolOp .And (b::rest) pos) tb):PE X (.BoolOp .And (a::b::rest) pos) (AFP ta tb):=by
 intro pins s σ H Q I h;r BoolOp_and (thn (ha pins s σ H _ I h) fun v s1 ⟨x,H1,I1,r1,q1⟩=>?_);o⟨c,rfl,q1⟩:=q1;cases r1;r wpAny_truthy_bool ?_;cases c with
 | true=>!hb pins s1 σ H1 Q I1 q1
 | false=>!⟨.bl false,H1,I1,rfl,q1⟩
theorem AEj(ha:PE X a ta)(hb:PE X (.BoolOp .Or (b::rest) pos) tb):PE X (.BoolOp .Or (a::b::rest) pos) (AFg ta tb):=by
 intro pins s σ H Q I h;r BoolOp_or (thn (ha pins s σ H _ I h) fun v s1 ⟨x,H1,I1,r1,q1⟩=>?_);o⟨c,rfl,q1⟩:=q1;cases r1;r wpAny_truthy_bool ?_;cases c with
 | false=>!hb pins s1 σ H1 Q I1 q1
 | true=>!⟨.bl true,H1,I1,rfl,q1⟩
theorem ADv(ha:PE X a ta):PE X (.UnaryOp .Not a pos) (AEm ta):=by
 intro pins s σ H Q I h;r UnaryOp_ (thn (ha pins s σ H _ I h) fun v s1 ⟨x,H1,I1,r1,q1⟩=>?_);o⟨c,rfl,q1⟩:=q1;cases r1;!not_of (wpAny_truthy_bool ⟨.bl (!c),H1,I1,rfl,q1⟩)
def tIf(t:TT)(ta tb:TE):TE:=fun σ H Q=>t σ H fun c H1=>if c=true then ta σ H1 Q else tb σ H1 Q
theorem Hw{c:Expr}(hc:PT X c tA)(ha:PE X a ta)(hb:PE X b tb):PE X (.IfExp c a b pos) (tIf tA ta tb):=by
 intro pins s σ H Q I h;r wpAny_IfExp (thn (hc pins s σ H _ I h) fun d s1 ⟨H1,I1,q1⟩=>?_);cases d with
 | true=>!ha pins s1 σ H1 Q I1 q1
 | false=>!hb pins s1 σ H1 Q I1 q1
end
def SqL(K:¨)(H:Hp)(a:Addr)(xs:List V):Prop :=
 Rd H a (.lst xs) \/
  ∃(o:Obj) (its:Array Value) (n:Nat),K.lookup a=some o/\o.cls=.type "list"/\o.dict=none/\o.data=.seq its n/\its.size<=sizeLine/\Vals xs its.toList
def SqT(K:¨)(H:Hp)(a:Addr)(xs:List V):Prop :=
 Rd H a (.tup xs) \/
  ∃(o:Obj) (its:Array Value) (n:Nat),K.lookup a=some o/\o.cls=.type "tuple"/\o.data=.seq its n/\its.size<=sizeLine/\Vals xs its.toList
def absV:Value->Option V
 | .none=>some .non
 | .bool b=>some (.bl b)
 | .int i _=>some (.int i)
 | .str x _=>some (.str x)
 | .bytes b _=>some (.byt b)
 | .float b _=>some (.flt b)
 | .ref a=>some (.ref a)
 | .type n=>some (.ty n)
 | _=>none
theorem RelV.abs{x:V}{u:Value}(r:RelV x u):absV u=some x:=by
 cases x with
 | non=>cases r; rfl
 | bl _=>cases r; rfl
 | int _=>o⟨t,rfl⟩:=r; rfl
 | str _=>o⟨t,rfl⟩:=r; rfl
 | byt _=>o⟨t,rfl⟩:=r; rfl
 | flt _=>o⟨t,rfl⟩:=r; rfl
 | ref _=>cases r; rfl
 | ty _=>cases r; rfl
theorem RelV.inj{x y:V}{u:Value}(r:RelV x u)(q:RelV y u):x=y:=Option.some.inj (r.abs.symm.trans q.abs)
theorem Vals.inj:∀{xs ys:List V}{us:List Value},Vals xs us->Vals ys us->xs=ys
 | _,_,_,.nil,.nil=>rfl
 | _,_,_,.cons r t,.cons r' t'=>by rw[r.inj r',Vals.inj t t']
section
variable{X:Cx}{pins:List ⑤}{σ:St}{H:Hp}{s:Shared}{a:Addr}{xs ys:List V}
theorem SqL.of{K:¨}(h:H a=some (.lst xs)):SqL K H a xs:=.inl (.inl h)
theorem SqT.of{K:¨}(h:H a=some (.tup xs)):SqT K H a xs:=.inl (.inl h)
theorem Inv.list(I:Inv X pins σ H s)(h:SqL X.K H a xs):∃ its:List Value,Vals xs its/\PlainL s.heap a its.toArray/\xs.length<=sizeLine:=by
 rcases h with h | ⟨o,its,n,hk,hc,hd,hs,hz,r⟩
 ·o⟨z,its,n,r,e⟩:=h.ok I.hok
  !⟨its,r,⟨_,n,e,rfl,rfl,rfl⟩,z⟩
 ·r⟨its.toList,r,⟨o,n,I.kIn a o hk,hc,hd,by simpa using hs⟩,?_⟩
  h e:=r.length;simp only[Array.length_toList] at e;w
theorem Inv.tuple(I:Inv X pins σ H s)(h:SqT X.K H a xs):∃ its:List Value,Vals xs its/\IsTup s.heap a its.toArray/\xs.length<=sizeLine:=by
 rcases h with h | ⟨o,its,n,hk,hc,hs,hz,r⟩
 ·o⟨z,its,r,p⟩:=h.ok I.hok
  !⟨its,r,p,z⟩
 ·r⟨its.toList,r,⟨o,I.kIn a o hk,hc,n,by simpa using hs⟩,?_⟩
  h e:=r.length;simp only[Array.length_toList] at e;w
theorem Inv.list_inj(I:Inv X pins σ H s)(h:SqL X.K H a xs)(h':SqL X.K H a ys):xs=ys:=by
 o⟨its,r,⟨o,n,e,_,_,d⟩,_⟩:=I.list h;o⟨its',r',⟨o',n',e',_,_,d'⟩,_⟩:=I.list h';rw[e] at e'; cases e';rw[d] at d';injection d' with d1 _
 have:its=its':=by simpa using congrArg Array.toList d1
 subst this;!r.inj r'
theorem Inv.tuple_inj(I:Inv X pins σ H s)(h:SqT X.K H a xs)(h':SqT X.K H a ys):xs=ys:=by
 o⟨its,r,⟨o,e,_,n,d⟩,_⟩:=I.tuple h;o⟨its',r',⟨o',e',_,n',d'⟩,_⟩:=I.tuple h';rw[e] at e'; cases e';rw[d] at d';injection d' with d1 _
 have:its=its':=by simpa using congrArg Array.toList d1
 subst this;!r.inj r'
end
abbrev Cx.wish(X:Cx)(E:Value->Shared->Prop):Cx:={X with xe:=E}
abbrev Cx.nox(X:Cx):Cx:=X.wish fun _ _=>False
theorem Cx.Ok.wish{X:Cx}(ok:X.Ok)(E:Value->Shared->Prop):(X.wish E).Ok :=
 ⟨ok.mod,ok.kind,ok.glob,ok.blt,ok.above,ok.inj,ok.has,ok.cab,ok.hd,ok.frames,ok.stk,ok.exf,ok.bs,ok.bsz,ok.noex,ok.exfs,ok.funs,ok.frf⟩
theorem Cx.Ok.unwish{X:Cx}{E:Value->Shared->Prop}(ok:(X.wish E).Ok):X.Ok :=
 ⟨ok.mod,ok.kind,ok.glob,ok.blt,ok.above,ok.inj,ok.has,ok.cab,ok.hd,ok.frames,ok.stk,ok.exf,ok.bs,ok.bsz,ok.noex,ok.exfs,ok.funs,ok.frf⟩
section
variable{X:Cx}{pins:List ⑤}{σ:St}{H:Hp}{s:Shared}{E:Value->Shared->Prop}
theorem Inv.wish(I:Inv X pins σ H s)(E:Value->Shared->Prop):Inv (X.wish E) pins σ H s:=⟨I.ok.wish E,I.os,I.bare,I.base,I.loc,I.cell,I.free,I.freeC,I.pin,I.hok,I.len⟩
theorem Inv.unwish(I:Inv (X.wish E) pins σ H s):Inv X pins σ H s:=⟨I.ok.unwish,I.os,I.bare,I.base,I.loc,I.cell,I.free,I.freeC,I.pin,I.hok,I.len⟩
theorem SP.unwish{D:Ends}{f:Flow}{s':Shared}(h:SP (X.wish E) pins D f s'):SP X pins D f s':=by
 cases f with
 | next=>o⟨σ',H',I,q⟩:=h; !⟨σ',H',I.unwish,q⟩
 | brk=>o⟨σ',H',I,q⟩:=h; !⟨σ',H',I.unwish,q⟩
 | cont=>o⟨σ',H',I,q⟩:=h; !⟨σ',H',I.unwish,q⟩
 | ret u=>o⟨v,σ',H',I,r,q⟩:=h; !⟨v,σ',H',I.unwish,r,q⟩
theorem PSs.nox{st:List Stmt}{t:TS}(h:PSs X.nox st t):PSs X st t:=fun pins s σ H D I hw =>
 wpAny_mono (h pins s σ H D (I.wish _) hw) (fun _ _ q=>q.unwish) fun _ _ z=>False.elim z
end
section
variable{X:Cx}{st:Stmt}{rest:List Stmt}{t u:TS}{e:Expr}{te:TE}{pos:Pos}
def AEf:TS:=fun D σ H=>D.nx σ H
def AFc(t u:TS):TS:=fun D σ H=>t {D with nx:=u D} σ H
theorem BX:PSs X [] AEf:=fun _ _ σ H _ I h=>wpAny_execs_nil ⟨σ,H,I,h⟩
theorem Ae(h1:PS X st t)(h2:PSs X rest u):PSs X (st::rest) (AFc t u):=by
 intro pins s σ H D I h;r wpAny_execs_cons (thn (h1 pins s σ H {D with nx:=u D} I h) fun f s1 q=>?_);cases f with
 | next =>
  o⟨σ',H',I',q⟩:=q;!h2 pins s1 σ' H' D I' q
 | ret v=>!q
 | brk=>!q
 | cont=>!q
theorem Aj(h1:PS X st t):PSs X [st] t:=by
 intro pins s σ H D I h;r wpAny_execs_cons (thn (h1 pins s σ H D I h) fun f s1 q=>?_);cases f with
 | next=>!wpAny_execs_nil q
 | ret v=>!q
 | brk=>!q
 | cont=>!q
theorem Inv.quiet{pins:List ⑤}{σ:St}{H:Hp}{s:Shared}(I:Inv X pins σ H s):interactive X.env=false:=by simp[interactive,I.ok.kind]
def AEp(te:TE):TS:=fun D σ H=>te σ H fun _ H1=>D.nx σ H1
theorem DX(he:PE X e te)(hs:swapsWith e none pos.line X.env=pure false:=by rfl):PS X (.Expr e pos) (AEp te):=by
 intro pins s σ H D I h;!wpAny_Expr_any (thn (he pins s σ H _ I h) fun v s1 ⟨x,H1,I1,r1,q1⟩=>⟨σ,H1,I1,q1⟩) I.quiet hs
def AFW(te:TE):TS:=fun D σ H=>te σ H D.rt
theorem Av(he:PE X e te):PS X (.Return (some e) pos) (AFW te):=by
 intro pins s σ H D I h;!wpAny_Return_some (thn (he pins s σ H _ I h) fun v s1 ⟨x,H1,I1,r1,q1⟩=>⟨x,σ,H1,I1,r1,q1⟩)
def AFZ(c:TT)(t u:TS):TS:=fun D σ H=>c σ H fun b H1=>if b=true then t D σ H1 else u D σ H1
theorem CN{c:Expr}{a b:List Stmt}{tc:TT}(hc:PT X c tc)(ha:PSs X a t)(hb:PSs X b u):PS X (.If c a b pos) (AFZ tc t u):=by
 intro pins s σ H D I h;r wpAny_If (thn (hc pins s σ H _ I h) fun d s1 ⟨H1,I1,q1⟩=>?_);cases d with
 | true=>!ha pins s1 σ H1 D I1 q1
 | false=>!hb pins s1 σ H1 D I1 q1
def ADp:TS:=fun _ _ _=>False
theorem Er{sts:List Stmt}:PSs X sts ADp:=fun _ _ _ _ _ _ h=>h.elim
end
abbrev TG:=V->St->Hp->(St->Hp->Prop)->Prop
abbrev TGs:=List V->St->Hp->(St->Hp->Prop)->Prop
def PG(X:Cx)(target:Expr)(t:TG):Prop :=
 ∀(pins:List ⑤) (s:Shared) (σ:St) (H:Hp) (v:V) (u:Value) (Q:St->Hp->Prop),Inv X pins σ H s->RelV v u->t v σ H Q ->
  wpAny ② X.A (assign target X.env u) (fun _ s'=>∃ σ' H',Inv X pins σ' H' s'/\Q σ' H') X.xe s
def PGs(X:Cx)(ts:List Expr)(t:TGs):Prop :=
 ∀(pins:List ⑤) (s:Shared) (σ:St) (H:Hp) (vs:List V) (us:List Value) (Q:St->Hp->Prop),Inv X pins σ H s->Vals vs us->t vs σ H Q ->
  wpAny ② X.A (assignInOrder ((assignEach ts X.env).map (·.2)) us) (fun _ s'=>∃ σ' H',Inv X pins σ' H' s'/\Q σ' H') X.xe s
section
variable{X:Cx}{pos:Pos}
def gName(i:Nat):TG:=fun v σ H Q=>Q (σ.set i (some v)) H
theorem Am{i:Nat}{x:Str}(hN:X.N.Nodup)(hi:X.N[i]?=some x)(hx:Loc X.env.scope x)(hf:X.fn x=true\/X.env.scope.names.lookup x=some .local:=by first | !.inl rfl | !.inr rfl | assumption):PG X (.Name x pos) (gName i):=by
 intro pins s σ H v u Q I r h;!wpAny_assign_Name (Ri I hN hi hx r (fun s' I'=>⟨_,H,I',h⟩) hf)
def gNil:TGs:=fun vs σ H Q=>vs=[]/\Q σ H
def gCons(t:TG)(u:TGs):TGs:=fun vs σ H Q=>∃ v r,vs=v::r/\t v σ H fun σ' H'=>u r σ' H' Q
theorem Dw:PGs X [] gNil:=by
 intro pins s σ H vs us Q I r h;o⟨e,h⟩:=h;subst e;cases r;!assignInOrder_nil ⟨σ,H,I,h⟩
theorem Bb{e:Expr}{es:List Expr}{t:TG}{u:TGs}(h1:PG X e t)(h2:PGs X es u)
  (hs:(assignEach (e::es) X.env).map (·.2)=assign e X.env::(assignEach es X.env).map (·.2):=by rfl):PGs X (e::es) (gCons t u):=by
 intro pins s σ H vs us Q I r h;o⟨v,vr,e1,h⟩:=h;subst e1;cases r with
 | cons r rr =>
  rw[hs];r assignInOrder_cons (thn (h1 pins s σ H _ _ _ I r h) fun _ s1 ⟨σ1,H1,I1,q1⟩=>?_);!h2 pins s1 σ1 H1 _ _ Q I1 rr q1
def gTup(K:¨)(n:Nat)(t:TGs):TG:=fun v σ H Q=>∃ a xs,v=.ref a/\SqT K H a xs/\xs.length=n/\t xs σ H Q
theorem Vg{es:List Expr}{k:Nat}{t:TGs}{n:Nat}(hc:X.calm=true)(h:PGs X es t)
  (hn:(assignEach es X.env).length=n:=by rfl) (hst:(assignEach es X.env).findIdx? (·.1)=none:=by rfl):PG X (.Tuple es k pos) (gTup X.K n t):=by
 intro pins s σ H v u Q I r hw;o⟨a,xs,e1,hq,hl,hw⟩:=hw;subst e1;cases r;o⟨its,rv,ht,hz⟩:=I.tuple hq;r assign_Tuple_tuple (I.ok.hd hc) ht (by simp[hn,<- hl,rv.length]) hst fun h' hx=>?_;h I1:Inv X pins σ H {s with heap:=h'}:=I.kept (t':=s.toks) fun b o e=>hx b o (Nat.ne_of_lt (Heap.lt_size e)) e;!h pins _ σ H xs _ Q I1 (by simpa using rv) hw
def AAx(te:TE)(g:TG):TS:=fun D σ H=>te σ H fun x H1=>g x σ H1 D.nx
theorem Pa{tg e:Expr}{te:TE}{g:TG}(he:PE X e te)(hg:PG X tg g)(hs:swapsWithSole [tg] e pos.line X.env=pure false:=by rfl)(hw:swappedStores [tg] e X.env=pure none:=by rfl)
  (h1:(assignEach [tg] X.env).map (·.2)=[assign tg X.env]:=by rfl):PS X (.Assign [tg] e pos) (AAx te g):=by
 intro pins s σ H D I h;r wpAny_Assign_stores (thn (he pins s σ H _ I h) fun v s1 ⟨x,H1,I1,r1,q1⟩=>?_) hs hw;rw[h1];!thn (hg pins s1 σ H1 x v _ I1 r1 q1) fun _ s2 q=>q
theorem Ax{i:Nat}{x:Str}{e:Expr}{te:TE}{pos':Pos}(hN:X.N.Nodup)(hi:X.N[i]?=some x)(hx:Loc X.env.scope x)(he:PE X e te)(hs:swapsWith e (some (.Name x pos')) pos.line X.env=pure false:=by rfl)(hf:X.fn x=true\/X.env.scope.names.lookup x=some .local:=by first | !.inl rfl | !.inr rfl | assumption) :
  PS X (.Assign [.Name x pos'] e pos) (AAx te (gName i)):=by
 intro pins s σ H D I h;r wpAny_Assign_Name (thn (he pins s σ H _ I h) fun v s1 ⟨y,H1,I1,r1,q1⟩=>?_) hs;!Ri I1 hN hi hx r1 (fun s2 I2=>⟨_,H1,I2,q1⟩) hf
def ADq(c:TT)(tb:TS):TS:=fun D σ H=>∃ W:Nat->St->Hp->Prop,(∃ m,W m σ H)/\∀ m σ H,W m σ H ->
 c σ H fun b H1=>if b=true then ∃ N:St->Hp->Prop,(∀ σ' H',N σ' H'->∃ m',m'<m/\W m' σ' H')/\tb {D with nx:=N,ct:=N,bk:=D.nx} σ H1 else D.nx σ H1
theorem Yx{c:Expr}{body:List Stmt}{tc:TT}{tb:TS}(hp:PassesOwn ② X.A X.env X.xe)(hc:PT X c tc)(hb:PSs X body tb):PS X (.While c body [] pos) (ADq tc tb):=by
 intro pins s σ H D I h;o⟨W,⟨m0,w0⟩,turn⟩:=h;r wpAny_While (codeAny_whileLoop (fun n s'=>∃ σ' H',Inv X pins σ' H' s'/\W n σ' H') ?_ m0 ⟨σ,H,I,w0⟩);rintro n s1 ⟨σ1,H1,I1,w1⟩;r wpAny_passesOwn hp (thn (hc pins s1 σ1 H1 _ I1 (turn n σ1 H1 w1)) fun b s2 ⟨H2,I2,q2⟩=>?_);cases b with
 | true =>
  o⟨N,hN,q2⟩:=q2;rw[if_pos rfl];r wpAny_passesOwn hp (thn (hb pins s2 σ1 H2 _ I2 q2) fun f s3 q3=>?_);cases f with
  | next =>
   o⟨σ3,H3,I3,n3⟩:=q3;o⟨m',hm,w3⟩:=hN σ3 H3 n3;!⟨m',hm,σ3,H3,I3,w3⟩
  | cont =>
   o⟨σ3,H3,I3,n3⟩:=q3;o⟨m',hm,w3⟩:=hN σ3 H3 n3;!⟨m',hm,σ3,H3,I3,w3⟩
  | brk=>!q3
  | ret v=>!q3
 | false =>
  rw[if_neg Bool.false_ne_true];!wpAny_execs_nil ⟨σ1,H2,I2,q2⟩
end
structure It where
 go:Nat->Hp->Prop
 yld:Nat->Hp->V->Hp->Prop
 stop:Nat->Hp->Prop
def FpOk(X:Cx)(pins:List ⑤)(H:Hp)(b:Addr):Prop :=
 H b=none/\b≠X.env.locals/\b∉X.fs/\(b∈X.ex\/X.s₀.heap.objs.size<=b)/\(∀ x c,X.env.cells.lookup x=some c->c≠b)/\∀ p∈X.pn++pins,p.1≠b
theorem Inv.fpOk{X:Cx}{pins:List ⑤}{σ:St}{H H':Hp}{s:Shared}{b:Addr}(I:Inv X pins σ H s)(hb:¸<=b)(hn:H' b=none):FpOk X pins H' b:=by
 r⟨hn,Nat.ne_of_gt (Nat.lt_of_lt_of_le I.lt hb),I.nofs hb,.inr (Nat.le_trans I.sz hb),fun x c e z=>?_,fun p hp z=>?_⟩
 ·o⟨v,q⟩:=I.cell x c e
  !absurd (Nat.lt_of_lt_of_le q.lt (by rw[z]; !hb)) (Nat.lt_irrefl _)
 ·!absurd (Nat.lt_of_lt_of_le (Heap.lt_size (I.pin p hp).1) (by rw[z]; !hb)) (Nat.lt_irrefl _)
structure Turn(P:Program)(w:World)(K:¨)(tg:Expr)(J:It)(fp:List Addr)(it:Addr)(tn:Nat->Heap->Prop):Prop where
 mem:it∈fp
 obj:∀ i h,tn i h->∀ b∈fp,∃ o,h.get? b=some o/\∀ v,o.data≠.cell v
 keep:∀ i h h',tn i h->(∀ b∈fp,∀ o,h.get? b=some o->h'.get? b=some o)->tn i h'
 item:∀(X:Cx),X.prog=P->X.w=w->X.K=K->X.calm=true->∀(i:Nat) (pins:List ⑤) (s:Shared) (σ:St) (H:Hp) (E:Value->Shared->Prop),Inv X pins σ H s->(∀ b∈fp,FpOk X pins H b)->tn i s.heap->J.go i H ->
  wpAny (model P w) X.A (pyNext (.ref it)) (fun r s1=>∃ u,r=some u /\
   wpAny (model P w) X.A (letOwnedTupleGo tg (.ref it) u) (fun _ s2=>∃ x H',Inv X pins σ H' s2/\RelV x u/\J.yld i H x H'/\tn (i+1) s2.heap/\∀ b∈fp,H' b=none) E s1) E s
 done:∀(X:Cx),X.prog=P->X.w=w->X.K=K->X.calm=true->∀(i:Nat) (pins:List ⑤) (s:Shared) (σ:St) (H:Hp) (E:Value->Shared->Prop),Inv X pins σ H s->(∀ b∈fp,FpOk X pins H b)->tn i s.heap->J.stop i H ->
  wpAny (model P w) X.A (pyNext (.ref it)) (fun r s1=>r=none/\Inv X pins σ H s1) E s
 self:∀(A:Around) (i:Nat) (s:Shared) (Q:Value->Shared->Prop) (E:Value->Shared->Prop),tn i s.heap->Q (.ref it) s->wpAny (model P w) A (pyIter (.ref it)) Q E s
abbrev TI:=St->Hp->(It->Hp->Prop)->Prop
def PIE(X:Cx)(pins:List ⑤)(σ:St)(tg:Expr)(R:It->Hp->Prop)(itv:Value)(s2:Shared):Prop :=
 ∃(it:Addr) (fp:List Addr) (tn:Nat->Heap->Prop) (J:It) (H':Hp),itv=.ref it/\Inv X pins σ H' s2/\Turn X.prog X.w X.K tg J fp it tn/\tn 0 s2.heap/\(∀ b∈fp,FpOk X pins H' b)/\R J H'
def PI(X:Cx)(tg iter:Expr)(wi:TI):Prop :=
 ∀(pins:List ⑤) (s:Shared) (σ:St) (H:Hp) (R:It->Hp->Prop),Inv X pins σ H s->wi σ H R ->
  wpAny ② X.A (eval iter X.env) (fun v s1=>wpAny ② X.A (pyIter v) (PIE X pins σ tg R) X.xe s1) X.xe s
theorem Wh{M:Model}{A:Around}{E:Value->Shared->Prop}{s:Shared}{tg:Expr}{it:Addr}{u:Value}{o:Obj}{n:String}{vs:Array Value}{Q:Unit->Shared->Prop}(ho:s.heap.get? it=some o)(hc:o.cls=.type n)(hd:o.data=.fields vs)
  (hn:["enumerate", "zip", "dict_itemiterator", "dict_reverseitemiterator", "odict_iterator", "itertools.zip_longest", "itertools.pairwise"].contains n=false) (hQ:Q () s):wpAny M A (letOwnedTupleGo tg (.ref it) u) Q E s:=by
 unfold letOwnedTupleGo;cases tg<;>first
  | !wpAny_pure hQ
  | (cases u<;>first
    | !wpAny_pure hQ
    | (
      r wpAny_bind (wpAny_load ho ?_);rw[hc,hd];show wpAny M A (if (["enumerate", "zip", "dict_itemiterator", "dict_reverseitemiterator", "odict_iterator", "itertools.zip_longest", "itertools.pairwise"].contains n&&vs[0]? == some (rawInt _))=true then _ else _) Q E s;rw[if_neg (by intro h; rw[hn,Bool.false_and] at h; cases h)];!wpAny_pure hQ))
def Itl(K:¨)(a:Addr):It :=
 ⟨fun i H=>∃ xs x,SqL K H a xs/\xs[i]?=some x,fun i H x H'=>H'=H/\∀ xs,SqL K H a xs->xs[i]?=some x,fun i H=>∃ xs,SqL K H a xs/\xs.length<=i⟩
def Itt(K:¨)(a:Addr):It :=
 ⟨fun i H=>∃ xs x,SqT K H a xs/\xs[i]?=some x,fun i H x H'=>H'=H/\∀ xs,SqT K H a xs->xs[i]?=some x,fun i H=>∃ xs,SqT K H a xs/\xs.length<=i⟩
def Itr(lo:Int)(n:Nat):It:=⟨fun i _=>i<n,fun i H x H'=>H'=H/\x=.int (lo+i),fun i _=>n<=i⟩
theorem Wz{P:Program}{w:World}{K:¨}{tg:Expr}(a it:Addr):Turn P w K tg (Itl K a) [it] it (fun i h=>h.IsListIter it a i) where
 mem:=by simp
 obj:=fun i h st b hb=>by
  h e:b=it:=by simpa using hb
  subst e;o⟨o,e,c,d⟩:=st;!⟨o,e,fun v z=>by rw[d] at z; cases z⟩
 keep:=fun i h h' st k=>st.at fun o e=>k it ¥ o e
 item:=by
  intro X hP hw hK hc i pins s σ H E I hf st hg;subst hP hw hK;o⟨xs,x,hq,hx⟩:=hg;o⟨its,rv,p,hz⟩:=I.list hq;o⟨u,hu,ru⟩:=rv.get hx;o⟨f0,f1,f2,f3,f4,f5⟩:=hf it ¥;r wpAny_pyNext_list_item st p.isList (x:=u) (by simpa using hu) fun h' st' sb=>?_;h I1:Inv X pins σ H {s with heap:=h'}:=I.turned (t':=s.toks) (fun b o hb e=>(sb.2 b hb).trans e) f0 f1 f3 f4 f5;o⟨o,e,c,d⟩:=id st';!⟨u,rfl,Wh (s:={s with heap:=h'}) e c d ¤ ⟨x,H,I1,ru,⟨rfl,fun ys hy=>by rw[I.list_inj hy hq]; !hx⟩,st',fun b hb=>(hf b hb).1⟩⟩
 done:=by
  intro X hP hw hK hc i pins s σ H E I hf st hg;subst hP hw hK;o⟨xs,hq,hx⟩:=hg;o⟨its,rv,p,hz⟩:=I.list hq;o⟨f0,f1,f2,f3,f4,f5⟩:=hf it ¥;h hl:=rv.length;!wpAny_pyNext_list_end (I.ok.hd hc) st p.isList (by simp; w) fun h' eb=>⟨rfl,I.turned (t':=s.toks) (fun b o hb e=>eb b o hb e) f0 f1 f3 f4 f5⟩
 self:=fun _ _ _ _ _ st h=>wpAny_pyIter_listiter st h
theorem Vd{P:Program}{w:World}{K:¨}{tg:Expr}(a it:Addr):Turn P w K tg (Itt K a) [it] it (fun i h=>h.IsTupleIter it a i) where
 mem:=by simp
 obj:=fun i h st b hb=>by
  h e:b=it:=by simpa using hb
  subst e;o⟨o,e,c,d⟩:=st;!⟨o,e,fun v z=>by rw[d] at z; cases z⟩
 keep:=fun i h h' st k=>st.at fun o e=>k it ¥ o e
 item:=by
  intro X hP hw hK hc i pins s σ H E I hf st hg;subst hP hw hK;o⟨xs,x,hq,hx⟩:=hg;o⟨its,rv,p,hz⟩:=I.tuple hq;o⟨u,hu,ru⟩:=rv.get hx;o⟨f0,f1,f2,f3,f4,f5⟩:=hf it ¥;r wpAny_pyNext_tuple_item st (show s.heap.IsTuple a its.toArray from p) (x:=u) (by simpa using hu) fun h' st' sb=>?_;h I1:Inv X pins σ H {s with heap:=h'}:=I.turned (t':=s.toks) (fun b o hb e=>(sb.2 b hb).trans e) f0 f1 f3 f4 f5;o⟨o,e,c,d⟩:=id st';!⟨u,rfl,Wh (s:={s with heap:=h'}) e c d ¤ ⟨x,H,I1,ru,⟨rfl,fun ys hy=>by rw[I.tuple_inj hy hq]; !hx⟩,st',fun b hb=>(hf b hb).1⟩⟩
 done:=by
  intro X hP hw hK hc i pins s σ H E I hf st hg;subst hP hw hK;o⟨xs,hq,hx⟩:=hg;o⟨its,rv,p,hz⟩:=I.tuple hq;o⟨f0,f1,f2,f3,f4,f5⟩:=hf it ¥;h hl:=rv.length;!wpAny_pyNext_tuple_end (I.ok.hd hc) st (show s.heap.IsTuple a its.toArray from p) (by simp; w) fun h' eb=>⟨rfl,I.turned (t':=s.toks) (fun b o hb e=>eb b o hb e) f0 f1 f3 f4 f5⟩
 self:=fun _ _ _ _ _ st h=>wpAny_pyIter_tupleiter st h
theorem Vf{P:Program}{w:World}{K:¨}{tg:Expr}(it:Addr)(lo:Int)(n:Nat):Turn P w K tg (Itr lo n) [it] it (fun i h=>IsRangeIter h it (lo+(i:Nat)*1) ((n:Int)-(i:Nat)) 1) where
 mem:=by simp
 obj:=fun i h st b hb=>by
  h e:b=it:=by simpa using hb
  subst e;!⟨_,st,fun v z=>by
   h z':Data.fields _=Data.cell v:=z;cases z'⟩
 keep:=fun i h h' st k=>k it ¥ _ st
 item:=by
  intro X hP hw hK hc i pins s σ H E I hf st hg;subst hP hw hK;o⟨f0,f1,f2,f3,f4,f5⟩:=hf it ¥;h W:=Walks.range (prog:=X.prog) (w:=X.w) (I.ok.hd hc) it lo 1 n;r W.item i s _ _ hg st fun v h' tk hv st' kk=>?_;o⟨t,rfl⟩:=hv;h I1:Inv X pins σ H {s with heap:=h',toks:=tk}:=I.turned (fun b o hb e=>kk b o (by simpa using hb) e) f0 f1 f3 f4 f5;r⟨_,rfl,Wh (s:={s with heap:=h',toks:=tk}) (n:="range_iterator") st' rfl rfl ¤ ⟨.int (lo+i),H,I1,⟨t,?_⟩,⟨rfl,rfl⟩,st',fun b hb=>(hf b hb).1⟩⟩;rw[Int.mul_one]
 done:=by
  intro X hP hw hK hc i pins s σ H E I hf st hg;subst hP hw hK;o⟨f0,f1,f2,f3,f4,f5⟩:=hf it ¥;!wpAny_pyNext_range_end (I.ok.hd hc) st (by have:n<=i:=hg; w) fun h' eb=>⟨rfl,I.turned (t':=s.toks) (fun b o hb e=>eb b o hb e) f0 f1 f3 f4 f5⟩
 self:=fun _ _ _ _ _ st h=>wpAny_pyIter_rangeiter st h
section
variable{X:Cx}{tg:Expr}
def AEd(K:¨)(tl:TE):TI:=fun σ H R=>tl σ H fun x H1=>∃ a,x=.ref a/\(∃ xs,SqL K H1 a xs)/\R (Itl K a) H1
def AEt(K:¨)(tl:TE):TI:=fun σ H R=>tl σ H fun x H1=>∃ a,x=.ref a/\(∃ xs,SqT K H1 a xs)/\R (Itt K a) H1
theorem Bv{l:Expr}{tl:TE}(hl:PE X l tl):PI X tg l (AEd X.K tl):=by
 intro pins s σ H R I h;r thn (hl pins s σ H _ I h) fun v s1 ⟨x,H1,I1,r1,q1⟩=>?_;o⟨a,e,⟨xs,hq⟩,q⟩:=q1;subst e;cases r1;o⟨its,rv,p,hz⟩:=I1.list hq;r wpAny_pyIter_list p.isList ?_;r⟨s1.heap.objs.size,[s1.heap.objs.size],_,_,H1,rfl,I1.kept (t':=s1.toks) fun b o e=>° _ e,Wz a _,⟨_,¿ _ rfl,rfl,rfl⟩,fun b hb=>?_,q⟩;h e:b=s1.heap.objs.size:=by simpa using hb
 subst e;!I1.fpOk ③ (I1.hok.fresh ③)
theorem AAl{l:Expr}{tl:TE}(hl:PE X l tl):PI X tg l (AEt X.K tl):=by
 intro pins s σ H R I h;r thn (hl pins s σ H _ I h) fun v s1 ⟨x,H1,I1,r1,q1⟩=>?_;o⟨a,e,⟨xs,hq⟩,q⟩:=q1;subst e;cases r1;o⟨its,rv,p,hz⟩:=I1.tuple hq;r wpAny_pyIter_tuple (show s1.heap.IsTuple a its.toArray from p) ?_;r⟨s1.heap.objs.size,[s1.heap.objs.size],_,_,H1,rfl,I1.kept (t':=s1.toks) fun b o e=>° _ e,Vd a _,⟨_,¿ _ rfl,rfl,rfl⟩,fun b hb=>?_,q⟩;h e:b=s1.heap.objs.size:=by simpa using hb
 subst e;!I1.fpOk ③ (I1.hok.fresh ③)
theorem Qk{pins:List ⑤}{σ:St}{H:Hp}{s:Shared}{R:It->Hp->Prop}{E:Value->Shared->Prop}{lo hi:Int}{t u v:Tok}{tk:Nat}(I:Inv X pins σ H s)(h1:-(2 ^ 62)<=lo)(h2:lo<2 ^ 62)(h3:-(2 ^ 62)<=hi)(h4:hi<2 ^ 62)
  (q:R (Itr lo (hi-lo).toNat) H):wpAny ② X.A (pyIter (.ref ¸)) (PIE X pins σ tg R) E {s with heap:=s.heap.push {cls:=.type "range",data:=.fields #[.int lo t,.int hi u,.int 1 v]},toks:=tk}:=by
 r wpAny_pyIter_range (IsRange.new ..) (small_one h1 h2 h3 h4) ?_;h I1:Inv X pins σ H {s with heap:=s.heap.push {cls:=.type "range",data:=.fields #[.int lo t,.int hi u,.int 1 v]},toks:=tk}:=I.kept fun b o e=>° _ e;r⟨(s.heap.push {cls:=.type "range",data:=.fields #[.int lo t,.int hi u,.int 1 v]}).objs.size,[(s.heap.push {cls:=.type "range",data:=.fields #[.int lo t,.int hi u,.int 1 v]}).objs.size],_,_,H,rfl,
  I1.kept (t':=tk) fun b o e=>° _ e,Vf _ lo (hi-lo).toNat,?_,fun b hb=>?_,q⟩
 ·h e1:lo+((0:Nat):Int)*1=lo:=by simp
  h e2:(((hi-lo).toNat:Nat):Int)-((0:Nat):Int)=Builtin.Range.rangeSize lo hi 1:=by rw[rangeSize_one]; split<;>w
  show IsRangeIter _ _ (lo+((0:Nat):Int)*1) ((((hi-lo).toNat:Nat):Int)-((0:Nat):Int)) 1;rw[e1,e2];!¿ _ rfl
 ·h e:b=(s.heap.push {cls:=.type "range",data:=.fields #[.int lo t,.int hi u,.int 1 v]}).objs.size:=by simpa using hb
  subst e;!I1.fpOk ③ (I1.hok.fresh ③)
def AFG(ta:TA):TI:=fun σ H R=>ta σ H fun vs H1=>∃ j:Int,vs=[.int j]/\-(2 ^ 62)<=j/\j<2 ^ 62/\R (Itr 0 j.toNat) H1
def AFN(ta:TA):TI:=fun σ H R=>ta σ H fun vs H1=>∃ i j:Int,vs=[.int i,.int j]/\(-(2 ^ 62)<=i/\i<2 ^ 62/\-(2 ^ 62)<=j/\j<2 ^ 62)/\R (Itr i (j-i).toNat) H1
theorem Cm{a:Expr}{ta:TA}{p pos:Pos}(hg:Gl X "range")(hm:X.mg "range" = none)(ha:PA X [a] ta)(hs:starEach [a] X.env=[(false,eval a X.env)]:=by rfl):PI X tg (.Call (.Name "range" p) [a] [] pos) (AFG ta):=by
 intro pins s σ H R I h;r Call_ (Ej I hg hm boot_range (PyProof.Rows.callWith_type1 (thn (ha pos pins s σ H _ I h) fun us s1 ⟨vs,H1,I1,r1,q1⟩=>?_) hs rfl));o⟨j,e,q1,q2,q⟩:=q1;subst e;cases r1 with
 | cons r rr =>
  cases rr;o⟨t,rfl⟩:=r;!call_range_1 (Qk I1 ¢ ¢ q1 q2 (by simpa using q))
theorem Xg{a b:Expr}{ta:TA}{p pos:Pos}(hg:Gl X "range")(hm:X.mg "range" = none)(ha:PA X [a,b] ta)(hs:starEach [a,b] X.env=[(false,eval a X.env),(false,eval b X.env)]:=by rfl)(hs2:starEach [b] X.env=[(false,eval b X.env)]:=by rfl) :
  PI X tg (.Call (.Name "range" p) [a,b] [] pos) (AFN ta):=by
 intro pins s σ H R I h;r Call_ (Ej I hg hm boot_range (PyProof.Rows.callWith_type1 (thn (ha pos pins s σ H _ I h) fun us s1 ⟨vs,H1,I1,r1,q1⟩=>?_) (by rw[hs,hs2]) (by rw[hs2]; rfl)));o⟨i,j,e,⟨q1,q2,q3,q4⟩,q⟩:=q1;subst e;cases r1 with
 | cons r rr =>
  cases rr with
  | cons r' rr =>
   cases rr;o⟨t,rfl⟩:=r;o⟨t',rfl⟩:=r';!call_range_2 (Qk I1 q1 q2 q3 q4 q)
def AFT(wi:TI)(g:TG)(tb:TS):TS:=fun D σ H=>wi σ H fun J H1=>∃ W:Nat->Nat->St->Hp->Prop,(∃ m,W 0 m σ H1)/\∀ i m σ H,W i m σ H ->
 (J.stop i H/\D.nx σ H)\/(J.go i H/\∃ N:St->Hp->Prop,(∀ σ' H',N σ' H'->∃ m',m'<m/\W (i+1) m' σ' H')/\∀ x H',J.yld i H x H'->g x σ H' fun σ2 H2=>tb {D with nx:=N,ct:=N,bk:=D.nx} σ2 H2)
def pinsAt(fp:List Addr)(h:Heap):List ⑤:=fp.filterMap fun b=>(h.get? b).map fun o=>(b,o)
theorem DR{fp:List Addr}{h:Heap}{b:Addr}{o:Obj}(hb:b∈fp)(e:h.get? b=some o):(b,o)∈pinsAt fp h:=List.mem_filterMap.mpr ⟨b,hb,by rw[e]; rfl⟩
theorem Xp{fp:List Addr}{h:Heap}{p:Addr×Obj}(hp:p∈pinsAt fp h):p.1∈fp/\h.get? p.1=some p.2:=by
 o⟨b,hb,e⟩:=List.mem_filterMap.mp hp;cases q:h.get? b with
 | none=>rw[q] at e; cases e
 | some o =>
  rw[q] at e;h e':(b,o)=p:=Option.some.inj e;subst e';!⟨hb,q⟩
theorem Inv.pinned{pins:List ⑤}{σ:St}{H:Hp}{s:Shared}{fp:List Addr}(I:Inv X pins σ H s)(hf:∀ b∈fp,FpOk X pins H b)(ho:∀ b∈fp,∃ o,s.heap.get? b=some o/\∀ v,o.data≠.cell v):Inv X (pins++pinsAt fp s.heap) σ H s :=
 I.pins_of fun p hp=>(List.mem_append.mp hp).elim (fun z=>I.pin p (List.mem_append_right _ z)) fun z=>by
  o⟨hb,e⟩:=Xp z;o⟨f0,f1,f2,_⟩:=hf p.1 hb;o⟨o,e',d⟩:=ho p.1 hb;rw[e] at e'; cases e';!⟨e,f0,f1,f2,d⟩
theorem Inv.unpinned{pins pl:List ⑤}{σ:St}{H:Hp}{s:Shared}(I:Inv X (pins++pl) σ H s):Inv X pins σ H s:=I.pins_of fun p hp=>I.pin p (List.mem_append_right _ (List.mem_append_left _ hp))
theorem Cw{iter:Expr}{body:List Stmt}{wi:TI}{g:TG}{tb:TS}{pos:Pos}(hp:PassesOwn ② X.A X.env X.xe)(hc:X.calm=true)(hi:PI X tg iter wi)(hg:PG X tg g)(hb:PSs X body tb)
  (hs:∀ x,foldedSetIterable iter X.env x=pure x:=by intro _; rfl):PS X (.For tg iter body [] pos) (AFT wi g tb):=by
 intro pins s σ H D I h;r wpAny_For (thn (hi pins s σ H _ I h) fun v s1 h1=>thn h1 fun itv s2 h2=>?_) hs;o⟨it,fp,tn,J,H2,e,I2,T,st2,f2,W,⟨m0,w0⟩,turn⟩:=h2;subst e;h stat:∀{H':Hp},(∀ b∈fp,H' b=none)->∀ b∈fp,FpOk X pins H' b:=fun hn b hb=>⟨hn b hb,(f2 b hb).2⟩;r codeAny_forLoop_any (fun n s'=>∃ i σ' H',Inv X pins σ' H' s'/\tn i s'.heap/\(∀ b∈fp,H' b=none)/\W i n σ' H') ?_ m0 ⟨0,σ,H2,I2,st2,fun b hb=>(f2 b hb).1,w0⟩;rintro n s3 ⟨i,σ3,H3,I3,st3,fr3,w3⟩;rcases turn i n σ3 H3 w3 with⟨stop,qn⟩ | ⟨go,N,hN,step⟩
 ·r wpAny_passesOwn hp (thn (T.done X rfl rfl rfl hc i pins s3 σ3 H3 X.xe I3 (stat fr3) st3 stop) fun r s4 ⟨hr,I4⟩=>?_)
  subst hr;!wpAny_execs_nil ⟨σ3,H3,I4,qn⟩
 ·r wpAny_passesOwn hp (thn (T.item X rfl rfl rfl hc i pins s3 σ3 H3 X.xe I3 (stat fr3) st3 go) fun r s4 ⟨u,hr,h4⟩=>?_)
  subst hr;r wpAny_passesOwn hp (thn h4 fun _ s5 ⟨x,H5,I5,r5,y5,st5,fr5⟩=>?_);h I5':=I5.pinned (stat fr5) (T.obj _ _ st5);r wpAny_passesOwn hp (thn (hg _ s5 σ3 H5 x u _ I5' r5 (step x H5 y5)) fun _ s6 ⟨σ6,H6,I6,q6⟩=>?_);r wpAny_passesOwn hp (thn (hb _ s6 σ6 H6 _ I6 q6) fun f s7 q7=>?_);h again:∀{σ7:St}{H7:Hp},Inv X (pins++pinsAt fp s5.heap) σ7 H7 s7->N σ7 H7->∃ m,m<n/\∃ i σ' H',Inv X pins σ' H' s7/\tn i s7.heap/\(∀ b∈fp,H' b=none)/\W i m σ' H':=fun {σ7 H7} I7 n7=>by
   o⟨m',hm,w7⟩:=hN σ7 H7 n7;r⟨m',hm,i+1,σ7,H7,I7.unpinned,T.keep _ _ _ st5 fun b hb o e=>(I7.pin (b,o) ⑰).1,fun b hb=>?_,w7⟩;o⟨o,e,d⟩:=T.obj _ _ st5 b hb;!(I7.pin (b,o) ⑰).2.1
  cases f with
  | next=>o⟨σ7,H7,I7,n7⟩:=q7; !again I7 n7
  | cont=>o⟨σ7,H7,I7,n7⟩:=q7; !again I7 n7
  | brk=>o⟨σ7,H7,I7,q7⟩:=q7; !⟨σ7,H7,I7.unpinned,q7⟩
  | ret v=>o⟨x7,σ7,H7,I7,r7,q7⟩:=q7; !⟨x7,σ7,H7,I7.unpinned,r7,q7⟩
end
theorem DK{K:¨}{a:Addr}{xs:List V}{g:TG}{tb:TS}{D:Ends}{σ:St}{H:Hp}(Pv:Nat->St->Hp->Prop)(h0:Pv 0 σ H)(hl:∀ i σ H,i<=xs.length->Pv i σ H->SqL K H a xs)
  (hs:∀ i x σ H,xs[i]?=some x->Pv i σ H->g x σ H fun σ2 H2=>tb {D with nx:=Pv (i+1),ct:=Pv (i+1),bk:=D.nx} σ2 H2) (hd:∀ σ H,Pv xs.length σ H->D.nx σ H) :
  ∃ W:Nat->Nat->St->Hp->Prop,(∃ m,W 0 m σ H)/\∀ i m σ H,W i m σ H ->
   ((Itl K a).stop i H/\D.nx σ H)\/((Itl K a).go i H/\∃ N:St->Hp->Prop,(∀ σ' H',N σ' H'->∃ m',m'<m/\W (i+1) m' σ' H')/\∀ x H',(Itl K a).yld i H x H'->g x σ H' fun σ2 H2=>tb {D with nx:=N,ct:=N,bk:=D.nx} σ2 H2):=by
 r⟨fun i m σ H=>m=xs.length-i/\i<=xs.length/\Pv i σ H,⟨xs.length,by simp,Nat.zero_le _,h0⟩,?_⟩;rintro i m σ H ⟨rfl,hi,p⟩;h q:=hl i σ H hi p;by_cases hlt:i<xs.length
 ·r .inr ⟨⟨xs,xs[i],q,by simp[hlt]⟩,Pv (i+1),fun σ' H' p'=>⟨xs.length-(i+1),by w,rfl,hlt,p'⟩,fun x H' y=>?_⟩
  o⟨e,y⟩:=y;subst e;!hs i x σ _ (y xs q) p
 ·h e:i=xs.length:=by w
  subst e;!.inl ⟨⟨xs,q,Nat.le_refl _⟩,hd σ H p⟩
theorem ACU{K:¨}{a:Addr}{xs:List V}{g:TG}{tb:TS}{D:Ends}{σ:St}{H:Hp}(Pv:Nat->St->Hp->Prop)(h0:Pv 0 σ H)(hl:∀ i σ H,i<=xs.length->Pv i σ H->SqT K H a xs)
  (hs:∀ i x σ H,xs[i]?=some x->Pv i σ H->g x σ H fun σ2 H2=>tb {D with nx:=Pv (i+1),ct:=Pv (i+1),bk:=D.nx} σ2 H2) (hd:∀ σ H,Pv xs.length σ H->D.nx σ H) :
  ∃ W:Nat->Nat->St->Hp->Prop,(∃ m,W 0 m σ H)/\∀ i m σ H,W i m σ H ->
   ((Itt K a).stop i H/\D.nx σ H)\/((Itt K a).go i H/\∃ N:St->Hp->Prop,(∀ σ' H',N σ' H'->∃ m',m'<m/\W (i+1) m' σ' H')/\∀ x H',(Itt K a).yld i H x H'->g x σ H' fun σ2 H2=>tb {D with nx:=N,ct:=N,bk:=D.nx} σ2 H2):=by
 r⟨fun i m σ H=>m=xs.length-i/\i<=xs.length/\Pv i σ H,⟨xs.length,by simp,Nat.zero_le _,h0⟩,?_⟩;rintro i m σ H ⟨rfl,hi,p⟩;h q:=hl i σ H hi p;by_cases hlt:i<xs.length
 ·r .inr ⟨⟨xs,xs[i],q,by simp[hlt]⟩,Pv (i+1),fun σ' H' p'=>⟨xs.length-(i+1),by w,rfl,hlt,p'⟩,fun x H' y=>?_⟩
  o⟨e,y⟩:=y;subst e;!hs i x σ _ (y xs q) p
 ·h e:i=xs.length:=by w
  subst e;!.inl ⟨⟨xs,q,Nat.le_refl _⟩,hd σ H p⟩
theorem Jd{lo:Int}{n:Nat}{g:TG}{tb:TS}{D:Ends}{σ:St}{H:Hp}(Pv:Nat->St->Hp->Prop)(h0:Pv 0 σ H)
  (hs:∀ i σ H,i<n->Pv i σ H->g (.int (lo+i)) σ H fun σ2 H2=>tb {D with nx:=Pv (i+1),ct:=Pv (i+1),bk:=D.nx} σ2 H2) (hd:∀ σ H,Pv n σ H->D.nx σ H) :
  ∃ W:Nat->Nat->St->Hp->Prop,(∃ m,W 0 m σ H)/\∀ i m σ H,W i m σ H ->
   ((Itr lo n).stop i H/\D.nx σ H)\/((Itr lo n).go i H/\∃ N:St->Hp->Prop,(∀ σ' H',N σ' H'->∃ m',m'<m/\W (i+1) m' σ' H')/\∀ x H',(Itr lo n).yld i H x H'->g x σ H' fun σ2 H2=>tb {D with nx:=N,ct:=N,bk:=D.nx} σ2 H2):=by
 r⟨fun i m σ H=>m=n-i/\i<=n/\Pv i σ H,⟨n,by simp,Nat.zero_le _,h0⟩,?_⟩;rintro i m σ H ⟨rfl,hi,p⟩;by_cases hlt:i<n
 ·r .inr ⟨hlt,Pv (i+1),fun σ' H' p'=>⟨n-(i+1),by w,rfl,hlt,p'⟩,fun x H' y=>?_⟩
  o⟨e,y⟩:=y;subst e y;!hs i σ _ hlt p
 ·h e:i=n:=by w
  subst e;!.inl ⟨Nat.le_refl _,hd σ H p⟩
abbrev R2:=V->V->Hp->VK->Prop
def OpR(X:Cx)(f:Value->Value->Sem Value)(r:R2):Prop :=
 ∀(pins:List ⑤) (s:Shared) (σ:St) (H:Hp) (x y:V) (v u:Value) (Q:VK),Inv X pins σ H s->RelV x v->RelV y u->r x y H Q ->
  wpAny ② X.A (f v u) (EP X pins σ Q) X.xe s
def UnR(X:Cx)(f:Value->Sem Value)(r:V->Hp->VK->Prop):Prop :=
 ∀(pins:List ⑤) (s:Shared) (σ:St) (H:Hp) (x:V) (v:Value) (Q:VK),Inv X pins σ H s->RelV x v->r x H Q ->
  wpAny ② X.A (f v) (EP X pins σ Q) X.xe s
def CallR(X:Cx)(f:Value)(r:List V->Hp->VK->Prop):Prop :=
 ∀(pins:List ⑤) (s:Shared) (σ:St) (H:Hp) (xs:List V) (us:List Value) (Q:VK),Inv X pins σ H s->Vals xs us->r xs H Q ->
  wpAny ② X.A (call f us) (EP X pins σ Q) X.xe s
def tOp(r:R2)(ta tb:TE):TE:=fun σ H Q=>ta σ H fun x H1=>tb σ H1 fun y H2=>r x y H2 Q
def tUn(r:V->Hp->VK->Prop)(ta:TE):TE:=fun σ H Q=>ta σ H fun x H1=>r x H1 Q
def rI(C:Int->Int->Prop)(g:Int->Int->V):R2:=fun x y H Q=>∃ i j,x=.int i/\y=.int j/\C i j/\Q (g i j) H
def rI0(g:Int->Int->V):R2:=fun x y H Q=>∃ i j,x=.int i/\y=.int j/\Q (g i j) H
def rU(g:Int->V):V->Hp->VK->Prop:=fun x H Q=>∃ i,x=.int i/\Q (g i) H
section
variable{X:Cx}{a b c:Expr}{ta tb tc:TE}{pos:Pos}
theorem binT(ha:PE X a ta)(hb:PE X b tb){pins:List ⑤}{s:Shared}{σ:St}{H:Hp}{R:V->V->Hp->Prop}(I:Inv X pins σ H s)
  (h:ta σ H fun x H1=>tb σ H1 fun y H2=>R x y H2) {Q:Value->Shared->Prop}{f:Value->Value->Sem Value}
  (hf:∀ v u s2 x y H2,Inv X pins σ H2 s2->RelV x v->RelV y u->R x y H2->wpAny ② X.A (f v u) Q X.xe s2) :
  wpAny ② X.A (eval a X.env) (fun v s₁=>wpAny ② X.A (eval b X.env) (fun u s₂=>wpAny ② X.A (f v u) Q X.xe s₂) X.xe s₁) X.xe s:=by
 r thn (ha pins s σ H _ I h) fun v s1 ⟨x,H1,I1,r1,q1⟩=>?_;r thn (hb pins s1 σ H1 _ I1 q1) fun u s2 ⟨y,H2,I2,r2,q2⟩=>?_;!hf v u s2 x y H2 I2 r1 r2 q2
theorem Aw{op:Operator}{r:R2}(ho:OpR X (binaryOp op) r)(ha:PE X a ta)(hb:PE X b tb):PE X (.BinOp a op b pos) (tOp r ta tb):=by
 intro pins s σ H Q I h;!wpAny_BinOp (binT ha hb I h fun v u s2 x y H2 I2 rx ry q=>ho pins s2 σ H2 x y v u Q I2 rx ry q)
theorem Wr{op:UnaryOp}{r:V->Hp->VK->Prop}(ho:UnR X (unaryOp op) r)(ha:PE X a ta):PE X (.UnaryOp op a pos) (tUn r ta):=by
 intro pins s σ H Q I h;!UnaryOp_ (thn (ha pins s σ H _ I h) fun v s1 ⟨x,H1,I1,r1,q1⟩=>ho pins s1 σ H1 x v Q I1 r1 q1)
theorem opI{f:Value->Value->Sem Value}{C:Int->Int->Prop}{g:Int->Int->Int}
  (rule:∀(i j:Int) (t u:Tok) (s:Shared) (Q:Value->Shared->Prop) (E:Value->Shared->Prop),C i j->Q (.int (g i j) s.toks) {s with toks:=s.toks+1}->wpAny ② X.A (f (.int i t) (.int j u)) Q E s) :
  OpR X f (rI C fun i j=>.int (g i j)):=by
 intro pins s σ H x y v u Q I rx ry h;o⟨i,j,rfl,rfl,hc,q⟩:=h;o⟨t,rfl⟩:=rx;o⟨t',rfl⟩:=ry;!rule i j t t' s _ _ hc ⟨.int (g i j),H,I.tok _,⟨_,rfl⟩,q⟩
theorem opI0{f:Value->Value->Sem Value}{g:Int->Int->Int}
  (rule:∀(i j:Int) (t u:Tok) (s:Shared) (Q:Value->Shared->Prop) (E:Value->Shared->Prop),Q (.int (g i j) s.toks) {s with toks:=s.toks+1}->wpAny ② X.A (f (.int i t) (.int j u)) Q E s) :
  OpR X f (rI0 fun i j=>.int (g i j)):=by
 intro pins s σ H x y v u Q I rx ry h;o⟨i,j,rfl,rfl,q⟩:=h;o⟨t,rfl⟩:=rx;o⟨t',rfl⟩:=ry;!rule i j t t' s _ _ ⟨.int (g i j),H,I.tok _,⟨_,rfl⟩,q⟩
theorem opB0{f:Value->Value->Sem Value}{g:Int->Int->Bool}
  (rule:∀(i j:Int) (t u:Tok) (s:Shared) (Q:Value->Shared->Prop) (E:Value->Shared->Prop),Q (.bool (g i j)) s->wpAny ② X.A (f (.int i t) (.int j u)) Q E s) :
  OpR X f (rI0 fun i j=>.bl (g i j)):=by
 intro pins s σ H x y v u Q I rx ry h;o⟨i,j,rfl,rfl,q⟩:=h;o⟨t,rfl⟩:=rx;o⟨t',rfl⟩:=ry;!rule i j t t' s _ _ ⟨.bl (g i j),H,I,rfl,q⟩
def CDiv(i j:Int):Prop:=0<j/\j<1073741824
def CMul(i j:Int):Prop:=(-(2 ^ 64)<i/\i<2 ^ 64)\/(-(2 ^ 64)<j/\j<2 ^ 64)
theorem CMul.ok{i j:Int}(h:CMul i j):IntMulOk i j:=by
 rcases h with⟨h1,h2⟩ | ⟨h1,h2⟩
 ·!.of_left (intBits_le_64 h1 h2)
 ·!.of_right (intBits_le_64 h1 h2)
theorem Cv:OpR X (binaryOp .Add) (rI0 fun i j=>.int (i+j)):=opI0 fun _ _ _ _ _ _ _ q=>add_int q
theorem DP:OpR X (binaryOp .Sub) (rI0 fun i j=>.int (i-j)):=opI0 fun _ _ _ _ _ _ _ q=>sub_int q
theorem Lx:OpR X (binaryOp .Mult) (rI CMul fun i j=>.int (i*j)):=opI fun _ _ _ _ _ _ _ hc q=>mul_int q hc.ok
theorem Fo:OpR X (binaryOp .FloorDiv) (rI CDiv fun i j=>.int (i / j)):=opI fun i j _ _ _ _ _ hc q=>by
 h h1:(0:Int)<j:=hc.1;h h2:j<1073741824:=hc.2;!floordiv_int ¢ (by rw[Int.fdiv_eq_ediv_of_nonneg i ¢]; !q) (.inl (PyProof.noPylong_small ¢))
theorem Dm:OpR X (binaryOp .Mod) (rI (fun _ j=>0<j) fun i j=>.int (i%j)):=opI fun i j _ _ _ _ _ hc q=>by
 h h1:(0:Int)<j:=hc;!mod_int' ¢ (by rw[Int.fmod_eq_emod_of_nonneg i ¢]; !q)
theorem unI{f:Value->Sem Value}{g:Int->Int}
  (rule:∀(i:Int) (t:Tok) (s:Shared) (Q:Value->Shared->Prop) (E:Value->Shared->Prop),Q (.int (g i) s.toks) {s with toks:=s.toks+1}->wpAny ② X.A (f (.int i t)) Q E s) :
  UnR X f (rU fun i=>.int (g i)):=by
 intro pins s σ H x v Q I rx h;o⟨i,rfl,q⟩:=h;o⟨t,rfl⟩:=rx;!rule i t s _ _ ⟨.int (g i),H,I.tok _,⟨_,rfl⟩,q⟩
theorem Py:UnR X (unaryOp .USub) (rU fun i=>.int (-i)):=unI fun _ _ _ _ _ q=>neg_int q
end
def scal:V->V->Bool
 | .non,.non=>true | .non,.int _=>true | .int _,.non=>true | .non,.bl _=>true | .bl _,.non=>true | .non,.str _=>true | .str _,.non=>true
 | .int _,.int _=>true | .bl _,.bl _=>true | .str _,.str _=>true | .byt _,.byt _=>true
 | .int _,.str _=>true | .str _,.int _=>true | .bl _,.str _=>true | .str _,.bl _=>true
 | _,_=>false
def rEq:R2:=fun x y H Q=>scal x y=true/\Q (.bl (decide (x=y))) H
def rNe:R2:=fun x y H Q=>scal x y=true/\Q (.bl (!decide (x=y))) H
theorem Vl{i j:Int}:decide (V.int i=V.int j)=(i==j):=by
 rw[Bool.eq_iff_iff];simp
theorem ABN{i j:Bool}:decide (V.bl i=V.bl j)=(i==j):=by
 rw[Bool.eq_iff_iff];simp
theorem Wn{i j:Str}:decide (V.str i=V.str j)=(i==j):=by
 rw[Bool.eq_iff_iff];simp
theorem WM{i j:Array UInt8}:decide (V.byt i=V.byt j)=(i.toList==j.toList):=by
 rw[Bool.eq_iff_iff];cases i;cases j;simp
section
variable{X:Cx}{a b c:Expr}{ta tb tc:TE}{pos:Pos}
theorem Bf{pins:List ⑤}{σ:St}{H:Hp}{s:Shared}{Q:VK}{k k':Bool}(I:Inv X pins σ H s)(q:Q (.bl k) H)(e:k=k'):EP X pins σ Q (.bool k') s:=by
 subst e;!⟨.bl k,H,I,rfl,q⟩
theorem Ey:OpR X (compareOp .Eq) rEq:=by
 intro pins s σ H x y v u Q I rx ry h;o⟨hs,q⟩:=h;cases x with
 | non =>
  cases rx;cases y with
  | non=>cases ry; !PySem.EqNone.eq_none_none (Bf I q ¥)
  | bl j=>cases ry; !PySem.EqNone.eq_none_bool (Bf I q ¥)
  | int j=>o⟨t',rfl⟩:=ry; !PySem.EqNone.eq_none_int (Bf I q ¥)
  | str j=>o⟨t',rfl⟩:=ry; !PySem.EqNone.eq_none_str (Bf I q ¥)
  | _=>!absurd (show false=true from hs) Bool.false_ne_true
 | bl i =>
  cases rx;cases y with
  | non=>cases ry; !PySem.EqNone.eq_bool_none (Bf I q ¥)
  | bl j=>cases ry; !eq_bool (Bf I q ABN)
  | str j=>o⟨t',rfl⟩:=ry; !PySem.EqMixed.eq_bool_str (Bf I q ¥)
  | _=>!absurd (show false=true from hs) Bool.false_ne_true
 | int i =>
  o⟨t,rfl⟩:=rx;cases y with
  | non=>cases ry; !PySem.EqNone.eq_int_none (Bf I q ¥)
  | int j=>o⟨t',rfl⟩:=ry; !eq_int (Bf I q Vl)
  | str j=>o⟨t',rfl⟩:=ry; !PySem.EqMixed.eq_int_str (Bf I q ¥)
  | _=>!absurd (show false=true from hs) Bool.false_ne_true
 | str i =>
  o⟨t,rfl⟩:=rx;cases y with
  | non=>cases ry; !PySem.EqNone.eq_str_none (Bf I q ¥)
  | bl j=>cases ry; !PySem.EqMixed.eq_str_bool (Bf I q ¥)
  | int j=>o⟨t',rfl⟩:=ry; !PySem.EqMixed.eq_str_int (Bf I q ¥)
  | str j=>o⟨t',rfl⟩:=ry; !eq_str (Bf I q Wn)
  | _=>!absurd (show false=true from hs) Bool.false_ne_true
 | byt i =>
  o⟨t,rfl⟩:=rx;cases y with
  | byt j=>o⟨t',rfl⟩:=ry; !PySem.W.eq_bytes (Bf I q WM)
  | _=>!absurd (show false=true from hs) Bool.false_ne_true
 | _=>cases y<;>!absurd (show false=true from hs) Bool.false_ne_true
theorem Ot:OpR X (compareOp .NotEq) rNe:=by
 intro pins s σ H x y v u Q I rx ry h;o⟨hs,q⟩:=h;cases x with
 | non =>
  cases rx;cases y with
  | non=>cases ry; !PySem.EqNone.ne_none_none (Bf I q ¥)
  | bl j=>cases ry; !PySem.EqNone.ne_none_bool (Bf I q ¥)
  | int j=>o⟨t',rfl⟩:=ry; !PySem.EqNone.ne_none_int (Bf I q ¥)
  | str j=>o⟨t',rfl⟩:=ry; !PySem.EqNone.ne_none_str (Bf I q ¥)
  | _=>!absurd (show false=true from hs) Bool.false_ne_true
 | bl i =>
  cases rx;cases y with
  | non=>cases ry; !PySem.EqNone.ne_bool_none (Bf I q ¥)
  | bl j=>cases ry; !ne_bool (Bf I q (congrArg not ABN))
  | str j=>o⟨t',rfl⟩:=ry; !PySem.EqMixed.ne_bool_str (Bf I q ¥)
  | _=>!absurd (show false=true from hs) Bool.false_ne_true
 | int i =>
  o⟨t,rfl⟩:=rx;cases y with
  | non=>cases ry; !PySem.EqNone.ne_int_none (Bf I q ¥)
  | int j=>o⟨t',rfl⟩:=ry; !ne_int (Bf I q (congrArg not Vl))
  | str j=>o⟨t',rfl⟩:=ry; !PySem.EqMixed.ne_int_str (Bf I q ¥)
  | _=>!absurd (show false=true from hs) Bool.false_ne_true
 | str i =>
  o⟨t,rfl⟩:=rx;cases y with
  | non=>cases ry; !PySem.EqNone.ne_str_none (Bf I q ¥)
  | bl j=>cases ry; !PySem.EqMixed.ne_str_bool (Bf I q ¥)
  | int j=>o⟨t',rfl⟩:=ry; !PySem.EqMixed.ne_str_int (Bf I q ¥)
  | str j=>o⟨t',rfl⟩:=ry; !ne_str (Bf I q (congrArg not Wn))
  | _=>!absurd (show false=true from hs) Bool.false_ne_true
 | byt i =>
  o⟨t,rfl⟩:=rx;cases y with
  | byt j=>o⟨t',rfl⟩:=ry; !PySem.W.ne_bytes (Bf I q (congrArg not WM))
  | _=>!absurd (show false=true from hs) Bool.false_ne_true
 | _=>cases y<;>!absurd (show false=true from hs) Bool.false_ne_true
theorem Lq:OpR X (compareOp .Lt) (rI0 fun i j=>.bl (decide (i<j))):=opB0 fun _ _ _ _ _ _ _ q=>lt_int q
theorem AEe:OpR X (compareOp .LtE) (rI0 fun i j=>.bl (decide (i<=j))):=opB0 fun _ _ _ _ _ _ _ q=>le_int q
theorem Mz:OpR X (compareOp .Gt) (rI0 fun i j=>.bl (decide (j<i))):=opB0 fun _ _ _ _ _ _ _ q=>gt_int q
theorem Tg:OpR X (compareOp .GtE) (rI0 fun i j=>.bl (decide (j<=i))):=opB0 fun _ _ _ _ _ _ _ q=>ge_int q
theorem nomark(b:Expr){op:CmpOp}(h:op≠.In:=by decide)(h2:op≠.NotIn:=by decide):behindInMarks op b=false:=by
 h e1:(op==CmpOp.In)=false:=by cases op<;>first | rfl | !absurd rfl h
 h e2:(op==CmpOp.NotIn)=false:=by cases op<;>first | rfl | !absurd rfl h2
 cases b<;>simp[behindInMarks,e1,e2]
theorem Cp{op:CmpOp}{r:R2}(ho:OpR X (compareOp op) r)(ha:PE X a ta)(hb:PE X b tb)(hm:behindInMarks op b=false):PE X (.Compare a [op] [b] pos) (tOp r ta tb):=by
 intro pins s σ H Q I h;!wpAny_Compare1 (binT ha hb I h fun v u s2 x y H2 I2 rx ry q=>ho pins s2 σ H2 x y v u Q I2 rx ry q) hm
def AEg(t:TE):TT:=fun σ H Q=>t σ H fun x H'=>∃ k,x=.bl k/\Q k H'
theorem Ar{op:CmpOp}{r:R2}(ho:OpR X (compareOp op) r)(ha:PE X a ta)(hb:PE X b tb)(hm:behindInMarks op b=false):PT X (.Compare a [op] [b] pos) (AEg (tOp r ta tb)):=by
 intro pins s σ H Q I h;r wpAny_isTrue_Compare1 (thn (ha pins s σ H _ I h) fun v s1 ⟨x,H1,I1,r1,q1⟩=>thn (hb pins s1 σ H1 _ I1 q1) fun u s2 ⟨y,H2,I2,r2,q2⟩ =>
  thn (ho pins s2 σ H2 x y v u _ I2 r1 r2 q2) fun c s3 ⟨z,H3,I3,r3,k,e,q3⟩=>?_) hm
 subst e;cases r3;!wpAny_truthy_bool ⟨H3,I3,q3⟩
theorem line63:(sizeLine:Nat)<2 ^ 63:=by rw[sizeLine_eq]; decide
theorem vals1{x:V}{us:List Value}(r:Vals [x] us):∃ u,us=[u]/\RelV x u:=by
 cases r with
 | cons r1 r2=>cases r2; !⟨_,rfl,r1⟩
theorem vals2{x y:V}{us:List Value}(r:Vals [x,y] us):∃ u w',us=[u,w']/\RelV x u/\RelV y w':=by
 cases r with
 | cons r1 r2 =>
  cases r2 with
  | cons r3 r4=>cases r4; !⟨_,_,rfl,r1,r3⟩
theorem Xo(hc:X.calm=true):CallR X (.builtin "max") (fun xs H Q=>∃ i j,xs=[.int i,.int j]/\Q (.int (if j>i then j else i)) H):=by
 intro pins s σ H xs us Q I r h;o⟨i,j,rfl,q⟩:=h;o⟨u,w',rfl,⟨t,rfl⟩,⟨t',rfl⟩⟩:=vals2 r;r max_two_ints (I.ok.hd hc) fun h' tk k=>⟨_,H,I.kept k,?_,q⟩;by_cases hj:j>i
 ·rw[if_pos hj,if_pos hj]; !⟨_,rfl⟩
 ·rw[if_neg hj,if_neg hj]; !⟨_,rfl⟩
theorem YH(hc:X.calm=true):CallR X (.builtin "min") (fun xs H Q=>∃ i j,xs=[.int i,.int j]/\Q (.int (if j<i then j else i)) H):=by
 intro pins s σ H xs us Q I r h;o⟨i,j,rfl,q⟩:=h;o⟨u,w',rfl,⟨t,rfl⟩,⟨t',rfl⟩⟩:=vals2 r;r min_two_ints (I.ok.hd hc) fun h' tk k=>⟨_,H,I.kept k,?_,q⟩;by_cases hj:j<i
 ·rw[if_pos hj,if_pos hj]; !⟨_,rfl⟩
 ·rw[if_neg hj,if_neg hj]; !⟨_,rfl⟩
theorem Oh:CallR X (.type "int") (fun xs H Q=>(∃ i,xs=[.int i]/\Q (.int i) H)\/∃ k,xs=[.bl k]/\Q (.int (if k then 1 else 0)) H):=by
 intro pins s σ H xs us Q I r h;rcases h with⟨i,rfl,q⟩ | ⟨k,rfl,q⟩
 ·o⟨u,rfl,t,rfl⟩:=vals1 r
  !call_int_int ⟨.int i,H,I,⟨_,rfl⟩,q⟩
 ·o⟨u,rfl,r1⟩:=vals1 r
  cases r1;!call_int_bool ⟨.int (if k then 1 else 0),H,I.tok _,⟨_,rfl⟩,q⟩
end
structure ObjM(h:Heap)(x dx C:Addr)(mA:Str->Option Value):Prop where
 obj:h.get? x=some (PySem.W.instObj C dx)
 ns:h.Ns1 dx mA
 ne:dx≠x
theorem Yr{h:Heap}{dx:Addr}{mA:Str->Option Value}(n:h.Ns1 dx mA):∃ od,h.get? dx=some od/\∀ name,PySem.W.lookIn name od=some (mA name):=by
 o⟨o,es,ep,ho,hd,hk,_,hm⟩:=n;r⟨o,ho,fun name=>?_⟩;h e:=hm name;unfold nsFind findBy at e;rw[<- Array.find?_toList] at e;unfold PySem.W.lookIn;rw[hd];dsimp only;split
 ·rename_i y q
  rw[q] at e;!congrArg some e
 ·rename_i q
  rw[q] at e;h a:es.toList.any (·.refKey)=false:=by
   rw[List.any_eq_false];intro y hy;o⟨z,t,hkey⟩:=hk y (Array.mem_toList_iff.mp hy);simp[DictEntry.refKey,hkey]
  h a':¬ es.toList.any (·.refKey)=true:=by rw[a]; !Bool.false_ne_true
  rw[if_neg a'];!congrArg some e
theorem ObjM.look{h:Heap}{x dx C:Addr}{mA:Str->Option Value}(I:ObjM h x dx C mA):∃ od,PySem.W.InstAt h x (PySem.W.instObj C dx) C (some od)/\∀ name,PySem.W.lookIn name od=some (mA name) :=
 let ⟨od,ho,hl⟩:=Yr I.ns
 ⟨od,⟨I.obj,rfl,rfl,ho⟩,hl⟩
section
variable{prog:Program}{w:World}{A:Around}{E:Value->Shared->Prop}{s:Shared}{K:¨}{x dx C f:Addr}{mA:Str->Option Value}{name:Str}{v:Value}
theorem get_map{expr:Bool}{Q:Value->Shared->Prop}(X:K.In s.heap)(I:ObjM s.heap x dx C mA)(hg:PySem.W.plainGet K C name=true)(hh:PySem.W.hasDictIn K C=true)
  (ha:® K (.ref C) name=some none) (hv:mA name=some v) (hv':PySem.W.handedIn v=true) (h:Q v {s with toks:=s.toks+1}) :
  wpAny ① A (getAttr (.ref x) name expr) Q E s:=by
 o⟨od,J,hl⟩:=I.look;!PySem.W.get_value X J (PySem.W.plainGet_of hg).1 (PySem.W.findObj_own hh ha rfl (by rw[hl,hv])) hv' h
theorem AAm{pl:Sem Bool}{Q:Value×List Value->Shared->Prop}(X:K.In s.heap)(I:ObjM s.heap x dx C mA)(hg:PySem.W.plainGet K C name=true)
  (hf:® K (.ref C) name=some (some (.ref f))) (ht:PySem.W.isFn K (.ref f)=true) (hv:mA name=none) (h:Q (.ref f,[.ref x]) s) :
  wpAny ① A (getMethod (.ref x) name pl) Q E s:=by
 o⟨od,J,hl⟩:=I.look;!PySem.W.method_fn X J (PySem.W.plainGet_of hg).1 (PySem.W.plainGet_of hg).2 hf (beq_iff_eq.mp ht) (by show (PySem.W.lookIn name od).map (·.isSome)=some false; rw[hl,hv]; rfl) h
theorem ACN{ns:List Str}{Q:Unit->Shared->Prop}(X:K.In s.heap)(I:ObjM s.heap x dx C mA)
  (hs:® K (.ref C) "__setattr__" = some (some (.builtin "object.__setattr__"))) (hp:PySem.W.plainOver K C=true) (ht:PySem.W.takerIn K C name=some none) (hh:PySem.W.hasDictIn K C=true)
  (hw:PySem.Within mA ns) (hsz:ns.length<=sizeLine)
  (h:∀ h',ObjM h' x dx C (fun y=>if y=name then some v else mA y)->Heap.SameBut dx s.heap h'->Q () {s with heap:=h',toks:=s.toks+2}) :
  wpAny ① A (setAttr (.ref x) name v) Q E s:=by
 o⟨od,J,hl⟩:=I.look;r PySem.W.set_plain X J hs (PySem.W.osa_open (s:={s with toks:=s.toks+1}) (r:=none) X J hp ht fun b=>?_);o⟨cd,hc,hd'⟩:=PySem.W.any_some hh;h hx:s.heap.get? x=some ⟨.ref C,some dx,.plain,#[]⟩:=I.obj;r wpAny_bind (wpAny_pure (wpAny_bind (wpAny_bind (wpAny_loadPart hx (wpAny_bind (PySem.W.Looks.here (s:={s with toks:=s.toks+1}) (PySem.W.looks_clsIn X hc) ?_))))));rw[hd'];r wpAny_pure (a:=some dx) (wpAny_bind (wpAny_pure (wpAny_bind ?_)));r wpAny_nsSet1 (s:={s with toks:=s.toks+1}) I.ns fun h' hn2 hs2=>?_;o⟨oD,esD,epD,hoD,hdD,hcD⟩:=hn2.count (PySem.Within.cons name v hw);r wpAny_bind (wpAny_lookBehind hoD (by rw[hdD]; !pastItsLine_dict (Nat.le_trans hcD (by rw[List.length_cons]; w))) ?_);!wpAny_pure (h _ ⟨(hs2.2 _ (Ne.symm I.ne)).trans I.obj,hn2,I.ne⟩ hs2)
theorem Rv{R:Result->Shared->Prop}{vs:List Value}{kw:List (Str×Value)}(X:K.In s.heap)(hm:PySem.W.makesIn K C=true)
  (hi:® K (.ref C) "__init__" = some (some (.ref f))) (hf:PySem.W.typeIn K (.ref f)=some (.type "function"))
  (h:codeAny ① (A.under (.builtin "type.__call__" ⟨.ref C::vs,kw⟩)) (.call (.ref f) ⟨.ref (¸+1)::vs,kw⟩) (PySem.W.InitBack (¸+1) R)
   {s with heap:=(s.heap.push PySem.W.emptyDict).push (PySem.W.instObj C ¸)}) :
  codeAny ① A (.call (.ref C) ⟨vs,kw⟩) R s:=by
 o⟨hh,g,d,t,os⟩:=s;!PySem.W.make_core (PySem.W.makes_of X hm) (PySem.W.looks_findIn X hi) (fun self=>PySem.W.bind_fn X self hf) (.inl rfl) h
theorem Yt{R:Result->Shared->Prop}(X:K.In s.heap)(hm:PySem.W.makesIn K C=true)
  (hi:® K (.ref C) "__init__" = some (some (.builtin "object.__init__")))
  (hb:∀ self,PySem.W.Looks ① s.heap (bindSpecial (.builtin "object.__init__") self) (.builtin "object.__init__",[self]))
  (h:codeAny ① (A.under (.builtin "type.__call__" ⟨[.ref C],[]⟩)) (.call (.builtin "object.__init__") ⟨[.ref (¸+1)],[]⟩) (PySem.W.InitBack (¸+1) R)
   {s with heap:=(s.heap.push PySem.W.emptyDict).push (PySem.W.instObj C ¸)}) :
  codeAny ① A (.call (.ref C) ⟨[],[]⟩) R s:=by
 o⟨hh,g,d,t,os⟩:=s;!PySem.W.make_core (PySem.W.makes_of X hm) (PySem.W.looks_findIn X hi) hb (.inr ⟨rfl,rfl⟩) h
end
def putF(f:Str)(v:V):List (Str×V)->List (Str×V)
 | []=>[(f,v)]
 | (g,x)::r=>if g=f then (g,v)::r else (g,x)::putF f v r
theorem Ai(f g:Str)(v:V):∀ fs:List (Str×V),(putF f v fs).lookup g=if g=f then some v else fs.lookup g
 | []=>by
  show List.lookup g [(f,v)]=_;by_cases h:g=f
  ·h hb:(g==f)=true:=beq_iff_eq.mpr h
   simp only[List.lookup,hb,if_pos h]
  ·h hb:(g==f)=false:=beq_eq_false_iff_ne.mpr h
   simp only[List.lookup,hb,if_neg h]
 | (k,x)::r=>by
  h ih:=Ai f g v r;rw[show putF f v ((k,x)::r)=(if k=f then (k,v)::r else (k,x)::putF f v r) from rfl];by_cases hk:k=f
  ·rw[if_pos hk]
   by_cases h:g=k
   ·h hb:(g==k)=true:=beq_iff_eq.mpr h
    simp only[List.lookup,hb,if_pos (h.trans hk)]
   ·h hb:(g==k)=false:=beq_eq_false_iff_ne.mpr h
    simp only[List.lookup,hb,if_neg (fun e:g=f=>h (e.trans hk.symm))]
  ·rw[if_neg hk]
   by_cases h:g=k
   ·h hb:(g==k)=true:=beq_iff_eq.mpr h
    simp only[List.lookup,hb,if_neg (fun e:g=f=>hk (h.symm.trans e))]
   ·h hb:(g==k)=false:=beq_eq_false_iff_ne.mpr h
    simp only[List.lookup,hb];!ih
theorem Ja(f:Str)(v:V):∀ fs:List (Str×V),f∈(putF f v fs).map (·.1)/\∀ g,g∈fs.map (·.1)->g∈(putF f v fs).map (·.1)
 | []=>⟨by simp[putF],fun g h=>by simp at h⟩
 | (k,x)::r=>by
  o⟨i1,i2⟩:=Ja f v r;rw[show putF f v ((k,x)::r)=(if k=f then (k,v)::r else (k,x)::putF f v r) from rfl];by_cases hk:k=f
  ·rw[if_pos hk]
   subst hk;!⟨by simp,fun g h=>by simpa using h⟩
  ·rw[if_neg hk]
   r⟨?_,fun g h=>?_⟩
   ·rw[List.map_cons]
    !¶ _ i1
   ·rw[List.map_cons] at h ⊢
    rcases List.mem_cons.mp h with e | e
    ·!List.mem_cons.mpr (.inl e)
    ·!¶ _ (i2 g e)
theorem Jm(f:Str)(v:V):∀ fs:List (Str×V),(putF f v fs).length<=fs.length+1
 | []=>by simp[putF]
 | (k,x)::r=>by
  h ih:=Jm f v r;rw[show putF f v ((k,x)::r)=(if k=f then (k,v)::r else (k,x)::putF f v r) from rfl];by_cases hk:k=f
  ·rw[if_pos hk,List.length_cons,List.length_cons]; w
  ·rw[if_neg hk,List.length_cons,List.length_cons]; w
theorem RelO.some_of{v:V}{o:Option Value}(r:RelO (some v) o):∃ u,o=some u/\RelV v u:=by
 cases o with
 | none=>!(show False from r).elim
 | some u=>!⟨u,rfl,r⟩
theorem RelO.none_of{o:Option Value}(r:RelO none o):o=none:=by
 cases o with
 | none=>rfl
 | some u=>!(show False from r).elim
theorem Xy{v:V}{u:Value}(r:RelV v u):PySem.W.handedIn u=true:=by
 cases v with
 | non=>cases (show u=Value.none from r); rfl
 | bl b=>cases (show u=Value.bool b from r); rfl
 | int i=>o⟨t,e⟩:=(show ∃ t,u=Value.int i t from r); cases e; rfl
 | str x=>o⟨t,e⟩:=(show ∃ t,u=Value.str x t from r); cases e; rfl
 | byt b=>o⟨t,e⟩:=(show ∃ t,u=Value.bytes b t from r); cases e; rfl
 | flt b=>o⟨t,e⟩:=(show ∃ t,u=Value.float b t from r); cases e; rfl
 | ref a=>cases (show u=Value.ref a from r); rfl
 | ty n=>cases (show u=Value.type n from r); rfl
section
variable{P:Program}{w:World}{H H':Hp}{h h':Heap}{a C dx:Addr}{fs fs':List (Str×V)}
theorem Jx(hok:HOk P w H h)(e:H a=some (.ins C dx fs)):∃ mA,ObjM h a dx C mA/\(∀ f,RelO (fs.lookup f) (mA f))/\PySem.Within mA (fs.map (·.1))/\fs.length<=1000/\H dx=some (.own a):=by
 o⟨d,z,ne,ob,mA,n,r,q⟩:=(show ObjOk P w H h a (.ins C dx fs) from hok a _ e);!⟨mA,⟨ob,n,ne⟩,r,q,z,d⟩
end
structure Cls(K:¨)(C:Addr):Prop where
 pg:PySem.W.plainGet K C Str.empty=true
 hd:PySem.W.hasDictIn K C=true
 po:PySem.W.plainOver K C=true
 sa:® K (.ref C) "__setattr__" = some (some (.builtin "object.__setattr__"))
theorem Cls.get{K:¨}{C:Addr}(c:Cls K C)(f:Str):PySem.W.plainGet K C f=true:=c.pg
def NoAttr(K:¨)(C:Addr)(f:Str):Prop:=® K (.ref C) f=some none
theorem NoAttr.taker{K:¨}{C:Addr}{f:Str}(n:NoAttr K C f):PySem.W.takerIn K C f=some none:=by
 unfold PySem.W.takerIn;rw[show ® K (.ref C) f=some none from n];rfl
structure Con(K:¨)(C:Addr)(f:Str)(v:V)(u:Value):Prop where
 at_:® K (.ref C) f=some (some u)
 rel:RelV v u
 get:PySem.W.specialIn K u "__get__" = some none
 cp:PySem.W.copiedNames.contains f=false
structure Meth(K:¨)(C:Addr)(m:Str)(f:Addr):Prop where
 at_:® K (.ref C) m=some (some (.ref f))
 fn:PySem.W.isFn K (.ref f)=true
 kp:© K (.ref f)=true
section
variable{X:Cx}{pins:List ⑤}{σ:St}{H:Hp}{s:Shared}{a C dx:Addr}{fs:List (Str×V)}{f:Str}{v:V}{A:Around}{E:Value->Shared->Prop}
theorem VG{b:Bool}{Q:Value->Shared->Prop}(I:Inv X pins σ H s)(e:H a=some (.ins C dx fs))(c:Cls X.K C)(n:NoAttr X.K C f)(l:fs.lookup f=some v)
  (h:∀ u s',Inv X pins σ H s'->RelV v u->Q u s'):wpAny ② A (getAttr (.ref a) f b) Q E s:=by
 o⟨mA,O,r,_,_,_⟩:=Jx I.hok e;o⟨u,hu,ru⟩:=RelO.some_of (v:=v) (o:=mA f) (by rw[<- l]; !r f);!get_map I.kIn O (c.get f) c.hd n hu (Xy ru) (h u _ (I.tok _) ru)
theorem Le{m:Str}{g:Addr}{pl:Sem Bool}{Q:Value×List Value->Shared->Prop}(I:Inv X pins σ H s)(e:H a=some (.ins C dx fs))(c:Cls X.K C)(k:Meth X.K C m g)(l:fs.lookup m=none)
  (h:Q (.ref g,[.ref a]) s):wpAny ② A (getMethod (.ref a) m pl) Q E s:=by
 o⟨mA,O,r,_,_,_⟩:=Jx I.hok e;h hn:mA m=none:=RelO.none_of (by rw[<- l]; !r m);!AAm I.kIn O (c.get m) k.at_ k.fn hn h
theorem Tv{y:V}{u:Value}{Q:Unit->Shared->Prop}(I:Inv X pins σ H s)(e:H a=some (.ins C dx fs))(c:Cls X.K C)(n:NoAttr X.K C f)(hl:fs.length<1000)(ry:RelV y u)
  (h:∀ s',Inv X pins σ (upd H a (.ins C dx (putF f y fs))) s'->Q () s'):wpAny ② A (setAttr (.ref a) f u) Q E s:=by
 o⟨mA,O,r,wi,_,ho⟩:=Jx I.hok e;h hz:(fs.map (·.1)).length<=sizeLine:=by rw[List.length_map,sizeLine_eq]; w
 r ACN I.kIn O c.sa c.po n.taker c.hd wi hz fun h' O' sb=>h _ ?_;h hd:∃ o,h'.get? dx=some o:=let ⟨o,_,_,e',_⟩:=O'.ns; ⟨o,e'⟩
 r I.write (x:=a) (e:=dx) (by rw[e]; !True.intro) (.inr ho) (fun b q hb z=>(sb.2 b hb).trans z) hd ?_;r⟨by rw[Af O.ne]; !ho,?_,O.ne,O'.obj,_,O'.ns,fun g=>?_,fun g hg=>?_⟩
 ·have:=Jm f y fs; w
 ·show RelO ((putF f y fs).lookup g) (if g=f then some u else mA g)
  rw[Ai];by_cases q:g=f
  ·rw[if_pos q,if_pos q]; !ry
  ·rw[if_neg q,if_neg q]; !r g
 ·by_cases q:g=f
  ·rw[q]; !(Ja f y fs).1
  ·r(Ja f y fs).2 g (wi g fun z=>hg ?_)
   show (if g=f then some u else mA g)=none;rw[if_neg q]; !z
theorem Inv.made(I:Inv X pins σ H s):Inv X pins σ (upd (upd H ¸ (.own (¸+1))) (¸+1) (.ins C ¸ []))
  {s with heap:=(s.heap.push PySem.W.emptyDict).push (PySem.W.instObj C ¸)}:=by
 h e1:(s.heap.push PySem.W.emptyDict).get? ¸=some PySem.W.emptyDict:=¿ s.heap rfl;h e2:((s.heap.push PySem.W.emptyDict).push (PySem.W.instObj C ¸)).get? (¸+1)=some (PySem.W.instObj C ¸):=by
  have:=¿ (s.heap.push PySem.W.emptyDict) (o:=PySem.W.instObj C ¸) rfl
  rwa [Heap.size_push] at this
 h e3:(s.heap.push PySem.W.emptyDict).Ns ¸ (fun _=>none):=⟨PySem.W.emptyDict,#[],_,e1,rfl,(fun e he=>absurd he ¥),fun _=>rfl⟩;h I1:=I.laid (a:=¸) (o:=.own (¸+1)) (h':=s.heap.push PySem.W.emptyDict) (t':=s.toks) (fun b u q=>° _ q) ③ ⟨_,e1⟩;r I1.laid (a:=¸+1) (o:=.ins C ¸ []) (t':=s.toks) (fun b u q=>° _ q) (Nat.le_of_eq (Heap.size_push _ _)) ?_;h ne:¸≠¸+1:=Nat.ne_of_lt (Nat.lt_succ_self _);r⟨by rw[Af ne,Ab],Nat.zero_le _,ne,e2,fun _=>none,(Heap.Ns1.of_empty e3).at fun o q=>° _ q,fun _=>True.intro,fun y hy=>absurd rfl hy⟩
theorem ACe{prog:Program}{w:World}{env:Env}{e:Expr}{f:Str}{pos:Pos}{s:Shared}{Q:Value->Shared->Prop}(hb:attributeBase e f env (eval e env)=eval e env)
  (h:wpAny ① A (eval e env) (fun o s₁=>wpAny ① A (getAttr o f true) Q E s₁) E s):wpAny ① A (eval (.Attribute e f pos) env) Q E s :=
 Attribute_any_ h (by rw[arm_eval_Attribute,hb])
end
def AFX(K:¨)(ta:TE)(f:Str):TE:=fun σ H Q=>ta σ H fun x H1=>∃ a C dx fs v,x=.ref a/\H1 a=some (.ins C dx fs)/\Cls K C/\NoAttr K C f/\fs.lookup f=some v/\Q v H1
def AFa(K:¨)(ta tv:TE)(f:Str):TS:=fun D σ H=>tv σ H fun y H1=>ta σ H1 fun x H2=>∃ a C dx fs,x=.ref a/\H2 a=some (.ins C dx fs)/\Cls K C/\NoAttr K C f/\fs.length<1000 /\
 D.nx σ (upd H2 a (.ins C dx (putF f y fs)))
section
variable{X:Cx}{o e value:Expr}{f:Str}{pos pos' tpos:Pos}{ta tv:TE}
theorem Bt(he:PE X e ta)(hb:attributeBase e f X.env (eval e X.env)=eval e X.env):PE X (.Attribute e f pos) (AFX X.K ta f):=by
 intro pins s σ H Q I h;r ACe hb (thn (he pins s σ H _ I h) fun u s1 ⟨x,H1,I1,rx,a,C,dx,fs,v,ex,ea,c,n,l,q⟩=>?_);subst ex;obtain rfl:u=Value.ref a:=rx;!VG I1 ea c n l fun u' s2 I2 ru=>⟨v,H1,I2,ru,q⟩
theorem Dp(ha:PE X o ta)(hv:PE X value tv)(hs:swapsWith value (some (.Attribute o f pos')) pos.line X.env=pure false):PS X (.Assign [.Attribute o f pos'] value pos) (AFa X.K ta tv f):=by
 intro pins s σ H D I h;r plainObj_wpAny_Assign_Attribute (thn (hv pins s σ H _ I h) fun u s1 ⟨y,H1,I1,ry,q⟩=>thn (ha pins s1 σ H1 _ I1 q) fun ov s2 ⟨x,H2,I2,rx,a,C,dx,fs,ex,ea,c,n,l,q2⟩=>?_) hs;subst ex;obtain rfl:ov=Value.ref a:=rx;!Tv I2 ea c n l ry fun s3 I3=>⟨σ,_,I3,q2⟩
end
section
variable{X:Cx}{pins:List ⑤}{σ:St}{H:Hp}{s:Shared}{A:Around}{E:Value->Shared->Prop}{Q:Value->Shared->Prop}{c:Value}{b:Bool}
inductive TyOf (K:¨) (H:Hp):V->Value->Prop where
 | non:TyOf K H .non (.type "NoneType")
 | bl (x:Bool):TyOf K H (.bl x) (.type "bool")
 | int (i:Int):TyOf K H (.int i) (.type "int")
 | str (x:Str):TyOf K H (.str x) (.type "str")
 | flt (x:UInt64):TyOf K H (.flt x) (.type "float")
 | lst {a:Addr}{xs:List V} (e:H a=some (.lst xs)):TyOf K H (.ref a) (.type "list")
 | frz {a:Addr}{o:Obj}{xs:List V} (e:H a=some (.frz o (.lst xs))):TyOf K H (.ref a) (.type "list")
 | tup {a:Addr}{xs:List V} (e:H a=some (.tup xs)):TyOf K H (.ref a) (.type "tuple")
 | dK {a:Addr}{kvs:List (Key×V)} (e:H a=some (.dK kvs)):TyOf K H (.ref a) (.type "dict")
 | dT {a:Addr}{kvs:List (List Key×V)} (e:H a=some (.dT kvs)):TyOf K H (.ref a) (.type "dict")
 | ins {a C dx:Addr}{fs:List (Str×V)} (e:H a=some (.ins C dx fs)) (cl:Cls K C) (ha:® K (.ref C) "__class__" = some (some (.builtin "object.__class__")))
   (hn:PySem.W.specialIn K (.builtin "object.__class__") "__get__" = some (some (.builtin "getset_descriptor.__get__"))) (htk:PySem.W.takesIn K (.builtin "object.__class__")=some true)
   (hm:PySem.W.mroIn K C (.type "object")=some true):TyOf K H (.ref a) (.ref C)
end
structure Room(k:Nat)(A:Around):Prop where
 hd:A.handled=none
 dp:A.depth+3*k+5<recursionLimit
 un:A.units+16*k+200<cLine
 gd:A.guards=some []
theorem Room.mono{j k:Nat}{A:Around}(r:Room k A)(h:j<=k):Room j A:=⟨r.hd,by have:=r.dp; w,by have:=r.un; w,r.gd⟩
theorem Room.deeper{k:Nat}{A:Around}(r:Room (k+1) A)(env:Env):Room k (A.deeper env) :=
 ⟨r.hd,by have:=r.dp; show A.depth+1+3*k+5<_; w,by have:=r.un; show A.units+3+16*k+200<_; w,r.gd⟩
theorem VP{A:Around}{C:Addr}{us:List Value}{kw:List (Str×Value)}:(A.under (.builtin "type.__call__" ⟨.ref C::us,kw⟩)).depth=A.depth+1:=by
 first | rfl | simp[Around.under,Code.weight,Code.isCreation,Code.isGuard,Code.isCaller,Code.frames,Code.isFrame,guardIds]
theorem Uv{A:Around}{C:Addr}{us:List Value}{kw:List (Str×Value)}:(A.under (.builtin "type.__call__" ⟨.ref C::us,kw⟩)).units=A.units+1:=by
 first | rfl | simp[Around.under,Code.cUnits,Code.frames,Code.isFrame]
theorem Rj{A:Around}{C:Addr}{us:List Value}{kw:List (Str×Value)}(hg:A.guards=some []):(A.under (.builtin "type.__call__" ⟨.ref C::us,kw⟩)).guards=some []:=by
 h h:(Code.builtin "type.__call__" ⟨.ref C::us,kw⟩).isGuard=false:=by
  show guardIds.contains "type.__call__" = false;decide +kernel
 simp[Around.under,Code.guards,h,pushGuards,hg]
theorem Room.make{k:Nat}{A:Around}(r:Room (k+1) A)(C:Addr)(us:List Value)(kw:List (Str×Value)):Room k (A.under (.builtin "type.__call__" ⟨.ref C::us,kw⟩)) :=
 ⟨r.hd,by have:=r.dp; rw[VP]; w,by have:=r.un; rw[Uv]; w,Rj r.gd⟩
theorem Room.depth{k:Nat}{A:Around}(r:Room k A):A.depth<recursionLimit:=by have:=r.dp; w
theorem Room.units{k:Nat}{A:Around}(r:Room k A):A.units+64<cLine:=by have:=r.un; w
def ABz:TA:=fun _ H Q=>Q [] H
def ACq(ta:TE)(tr:TA):TA:=fun σ H Q=>ta σ H fun x H1=>tr σ H1 fun xs H2=>Q (x::xs) H2
section
variable{X:Cx}{e:Expr}{es:List Expr}{te:TE}{t:TA}{pos:Pos}
theorem Ad:PA X [] ABz:=fun _ _ _ _ H Q I h=>Calls.spliced_nil ⟨[],H,I,.nil,h⟩
theorem Aa(ha:PE X e te)(hr:PA X es t)(hs:starEach (e::es) X.env=(false,eval e X.env)::starEach es X.env:=by rfl):PA X (e::es) (ACq te t):=by
 intro pos pins s σ H Q I h;rw[hs];show wpAny _ _ (spliced ((false,eval e X.env)::backTo pos (starEach es X.env))) _ _ s;r Calls.spliced_cons (thn (ha pins s σ H _ I h) fun u s1 ⟨x,H1,I1,r1,q1⟩=>?_);!thn (hr pos pins s1 σ H1 _ I1 q1) fun us s2 ⟨xs,H2,I2,r2,q2⟩=>⟨x::xs,H2,I2,.cons r1 r2,q2⟩
def AFb(t:TA):TE:=fun σ H Q=>t σ H fun xs H1=>xs.length<=sizeLine/\∀ p,H1 p=none->Q (.ref p) (upd H1 p (.tup xs))
def AFV(t:TA):TE:=fun σ H Q=>t σ H fun xs H1=>xs.length<=sizeLine/\∀ p,H1 p=none->Q (.ref p) (upd H1 p (.lst xs))
theorem CG{x1}(h:PA X es t):PE X (.Tuple es x1 pos) (AFb t):=by
 intro pins s σ H Q I hq;r wpAny_Tuple_spliced (thn (h pos pins s σ H _ I hq) fun us s1 ⟨xs,H1,I1,r,z,q⟩=>⟨by rw[<- r.length]; !z,?_⟩);h hf:H1 s1.heap.objs.size=none:=I1.hok.fresh ③;r⟨.ref s1.heap.objs.size,upd H1 s1.heap.objs.size (.tup xs),I1.laid (t':=s1.toks) (fun b u e=>° _ e) ③ ?_,rfl,q _ hf⟩;!⟨z,us,r,⟨_,¿ _ rfl,rfl,_,rfl⟩⟩
theorem Ci(h:PA X es t):PE X (.List es pos) (AFV t):=by
 intro pins s σ H Q I hq;r wpAny_List_spliced (thn (h pos pins s σ H _ I hq) fun us s1 ⟨xs,H1,I1,r,z,q⟩=>⟨by rw[<- r.length]; !z,?_⟩);h hf:H1 s1.heap.objs.size=none:=I1.hok.fresh ③;r⟨.ref s1.heap.objs.size,upd H1 s1.heap.objs.size (.lst xs),I1.laid (t':=s1.toks) (fun b u e=>° _ e) ③ ?_,rfl,q _ hf⟩;!⟨z,us,0,r,¿ _ rfl⟩
end
abbrev Sp:=List V->Hp->VK->XK->Prop
abbrev CXT:=List Env->Hp->Shared->XK->Value->Shared->Prop
structure Env0(P:Program)(w:World)(K:¨)(mg:Str->Option Value)(base:Heap)(A:Around)(outer:List Env)(s:Shared)(H:Hp):Prop where
 frames:A.frames=some outer
 mod:Mod K mg base
 bs:∀ b o,base.get? b=some o->s.heap.get? b=some o/\H b=none
 bsz:base.objs.size<=¸
 funs:s.heap.FunFrames base outer
 frf:∀ b∈frs outer,H b=none
 hok:HOk P w H s.heap
 bare:AllBare s.gens
def CE(outer:List Env)(P:Program)(w:World)(H:Hp)(s:Shared)(Q:VK)(u:Value)(s':Shared):Prop :=
 ∃ v H',s'.os=s.os/\AllBare s'.gens/\Un (frs outer) [] H H' s.heap s'.heap/\HOk P w H' s'.heap/\RelV v u/\Q v H'
def CR(CX:CXT)(outer:List Env)(P:Program)(w:World)(H:Hp)(s:Shared)(Q:VK)(E:XK)(r:Result)(s':Shared):Prop :=
 match r with
 | .ok (.ret u)=>CE outer P w H s Q u s'
 | .ok _=>False
 | .error e=>CX outer H s E e s'
structure FnOk(P:Program)(w:World)(K:¨)(mg:Str->Option Value)(base:Heap)(CX:CXT)(k:Nat)(f:Addr)(fd:FuncData)(ps:List Str)(sp:Sp):Prop where
 len:∀ vs H Q E,sp vs H Q E->vs.length=ps.length
 run:∀(A:Around) (outer:List Env) (s:Shared) (H:Hp) (args:Args) (us:List Value) (vs:List V) (Q:VK) (E:XK),Room k A->Env0 P w K mg base A outer s H->BindsTo s fd args (ps.zip us)->Vals vs us->sp vs H Q E ->
  codeAny (model P w) A (.call (.ref f) args) (CR CX outer P w H s Q E) s
theorem Env0.make{P:Program}{w:World}{K:¨}{mg:Str->Option Value}{base:Heap}{A:Around}{outer:List Env}{s:Shared}{H:Hp}(e:Env0 P w K mg base A outer s H)(C:Addr)(us:List Value)(kw:List (Str×Value)) :
  Env0 P w K mg base (A.under (.builtin "type.__call__" ⟨.ref C::us,kw⟩)) outer s H:=⟨by first | !e.frames | (simpa [Around.under,Code.envs,Code.isFrame,pushEnvs] using e.frames),e.mod,e.bs,e.bsz,e.funs,e.frf,e.hok,e.bare⟩
section
variable{X:Cx}{pins:List ⑤}{σ:St}{H:Hp}{s s':Shared}
theorem Inv.env0(I:Inv X pins σ H s):Env0 X.prog X.w X.K X.mg X.base X.A X.stack s H :=
 ⟨I.ok.frames,I.ok.mod,I.bs,Nat.le_trans I.ok.bsz I.sz,I.stack,I.stkFree,I.hok,I.bare⟩
theorem Inv.after{Q:VK}{u:Value}(I:Inv X pins σ H s)(h:CE X.stack X.prog X.w H s Q u s'):EP X pins σ Q u s':=by
 o⟨v,H',os,bare,un,hok,r,q⟩:=h;o⟨hh,g,d,t,os'⟩:=s';obtain rfl:os'=s.os:=os;!⟨v,H',I.call (h':=hh) (g':=g) (d':=d) (t':=t) (ch:=[]) un hok bare (fun b z=>absurd z ¥),r,q⟩
end
def AEu(sp:Sp)(dvs:List V)(E:XK)(t:TA):TE:=fun σ H Q=>t σ H fun vs H1=>sp (vs++dvs) H1 Q E
def ACo(C:Addr)(m:Str)(sp:Sp)(dvs:List V)(E:XK)(ta:TE)(t:TA):TE:=fun σ H Q=>ta σ H fun x H1=>∃ a dx fs,x=.ref a/\H1 a=some (.ins C dx fs)/\fs.lookup m=none /\
 t σ H1 fun vs H2=>sp (x::(vs++dvs)) H2 Q E
def ACx(C:Addr)(sp:Sp)(dvs:List V)(E:XK)(t:TA):TE:=fun σ H Q=>t σ H fun vs H1=>∀ x dx,H1 x=none->H1 dx=none->dx≠x ->
 sp (.ref x::(vs++dvs)) (upd (upd H1 dx (.own x)) x (.ins C dx [])) (fun v H2=>v=.non/\Q (.ref x) H2) E
def Binds(K:¨)(fd:FuncData)(ps:List Str)(ds:List Value):Prop :=
 ∀(s:Shared) (us:List Value),K.In s.heap->(us++ds).length=ps.length->BindsTo s fd ⟨us,[]⟩ (ps.zip (us++ds))
theorem Binds.all{K:¨}{fd:FuncData}{ps:List Str}(h:∀ us:List Value,us.length=ps.length->bindArgs fd ⟨us,[]⟩=pure (ps.zip us)):Binds K fd ps []:=fun s us _ hl=>by
 rw[List.append_nil] at hl ⊢;!.of_eq (h us hl)
def Passes(CX:CXT)(X:Cx)(E:XK):Prop:=∀(pins:List ⑤) (σ:St) (H:Hp) (s:Shared) (e:Value) (s':Shared),Inv X pins σ H s->CX X.stack H s E e s'->X.xe e s'
section
variable{X:Cx}{CX:CXT}{k:Nat}{f C:Addr}{fd:FuncData}{ps:List Str}{sp:Sp}{dvs:List V}{ds:List Value}{E:XK}{x m:Str}{p pos apos:Pos}{e o:Expr}{es:List Expr}{ta:TE}{t:TA}
theorem Tz{pins:List ⑤}{σ:St}{H:Hp}{s:Shared}{Q:VK}{us:List Value}{vs:List V}(F:FnOk X.prog X.w X.K X.mg X.base CX k f fd ps sp)(hr:Room k X.A)(hb:Binds X.K fd ps ds)(hd:Vals dvs ds)(hx:Passes CX X E)
  (I:Inv X pins σ H s) (r:Vals vs us) (h:sp (vs++dvs) H Q E):wpAny ② X.A (call (.ref f) us) (EP X pins σ Q) X.xe s:=by
 h r2:Vals (vs++dvs) (us++ds):=r.append hd;h hl:(us++ds).length=ps.length:=by rw[<- r2.length]; !F.len _ _ _ _ h
 r wpAny_call (codeAny_mono (F.run X.A X.stack s H ⟨us,[]⟩ (us++ds) (vs++dvs) Q E hr I.env0 (hb s us I.kIn hl) r2 h) fun r s' hq=>?_);cases r with
 | error e=>!hx pins σ H s e s' I hq
 | ok fl =>
  cases fl with
  | ret u=>!I.after hq
  | next=>!False.elim hq
  | brk=>!False.elim hq
  | cont=>!False.elim hq
theorem BP(F:FnOk X.prog X.w X.K X.mg X.base CX k f fd ps sp)(hr:Room k X.A)(hg:Gl X x)(hm:X.mg x=some (.ref f))(hk:© X.K (.ref f)=true)(hb:Binds X.K fd ps ds)(hd:Vals dvs ds)(hx:Passes CX X E)
  (ha:PA X (e::es) t) (hdb:(x==("__debug__" : Str))=false:=by decide) (he:starEach (e::es) X.env=(false,eval e X.env)::starEach es X.env:=by rfl) (hpl:(backTo pos (starEach es X.env)).any (·.1)=false:=by rfl) :
  PE X (.Call (.Name x p) (e::es) [] pos) (AEu sp dvs E t):=by
 intro pins s σ H Q I h;r wpAny_Call_Name_kw (Gj I hg hm ?_ hdb);r PySem.W.callWith_K (h₀:=X.base) I.ok.mod.kin hk (thn (ha pos pins s σ H _ I h) fun us s1 ⟨vs,H1,I1,r,q⟩=>⟨I1.kIn,?_⟩) he hpl;!Tz F hr hb hd hx I1 r q
theorem CJ{pl:Sem Bool}(he:PE X o ta)(c:Cls X.K C)(hm:Meth X.K C m f)(F:FnOk X.prog X.w X.K X.mg X.base CX k f fd ps sp)(hr:Room k X.A)(hb:Binds X.K fd ps ds)(hd:Vals dvs ds)(hx:Passes CX X E)(ha:PA X (e::es) t)
  (hst:starEach (e::es) X.env=(false,eval e X.env)::starEach es X.env:=by rfl) (hpl:(backTo pos (starEach es X.env)).any (·.1)=false:=by rfl)
  (ht:eval (.Call (.Attribute o m apos) (e::es) [] pos) X.env=(do
   let ov <- eval o X.env
   standAt apos.atName
   let (f,first) <- holding [ov] (getMethod ov m pl)
   callWith pos f first (backTo pos (starEach (e::es) X.env)) (backToKw pos (keywordEach [] X.env))):=by rfl) :
  PE X (.Call (.Attribute o m apos) (e::es) [] pos) (ACo C m sp dvs E ta t):=by
 intro pins s σ H Q I h;r PySem.W.methodCall_KW (pl:=pl) (thn (he pins s σ H _ I h) fun u s1 ⟨x,H1,I1,rx,a,dx,fs,ex,ea,l,q⟩=>?_) ht;subst ex;obtain rfl:u=Value.ref a:=rx;r Le I1 ea c hm l ?_;r PySem.W.callWith_K (first:=[.ref a]) (h₀:=X.base) I.ok.mod.kin hm.kp (thn (ha pos pins s1 σ H1 _ I1 q) fun us s2 ⟨vs,H2,I2,r,q2⟩=>⟨I2.kIn,?_⟩) hst hpl;!Tz (us:=.ref a::us) (vs:=.ref a::vs) F hr hb hd hx I2 (.cons rfl r) q2
theorem Bo{pl:Sem Bool}(he:PE X o ta)(c:Cls X.K C)(hm:Meth X.K C m f)(F:FnOk X.prog X.w X.K X.mg X.base CX k f fd ps sp)(hr:Room k X.A)(hb:Binds X.K fd ps ds)(hd:Vals dvs ds)(hx:Passes CX X E)
  (ht:eval (.Call (.Attribute o m apos) [] [] pos) X.env=(do
   let ov <- eval o X.env
   standAt apos.atName
   let (f,first) <- holding [ov] (getMethod ov m pl)
   callWith pos f first (backTo pos (starEach [] X.env)) (backToKw pos (keywordEach [] X.env))):=by rfl) :
  PE X (.Call (.Attribute o m apos) [] [] pos) (ACo C m sp dvs E ta ABz):=by
 intro pins s σ H Q I h;r PySem.W.methodCall_KW (pl:=pl) (thn (he pins s σ H _ I h) fun u s1 ⟨x,H1,I1,rx,a,dx,fs,ex,ea,l,q⟩=>?_) ht;subst ex;obtain rfl:u=Value.ref a:=rx;r Le I1 ea c hm l ?_;!PySem.W.callWith_K0 (first:=[.ref a]) I1.kIn hm.kp (Tz (us:=[.ref a]) (vs:=[.ref a]) F hr hb hd hx I1 (.cons rfl .nil) q)
structure Mk(K:¨)(C f:Addr):Prop where
 makes:PySem.W.makesIn K C=true
 init:® K (.ref C) "__init__" = some (some (.ref f))
 fn:PySem.W.isFn K (.ref f)=true
 kp:© K (.ref C)=true
theorem Qu{pins:List ⑤}{σ:St}{H:Hp}{s:Shared}{Q:VK}{us:List Value}{vs:List V}(M:Mk X.K C f)(F:FnOk X.prog X.w X.K X.mg X.base CX k f fd ps sp)(hr:Room (k+1) X.A)(hb:Binds X.K fd ps ds)(hd:Vals dvs ds)
  (hx:Passes CX X E) (I:Inv X pins σ H s) (r:Vals vs us)
  (h:∀ x dx,H x=none->H dx=none->dx≠x->sp (.ref x::(vs++dvs)) (upd (upd H dx (.own x)) x (.ins C dx [])) (fun v H2=>v=.non/\Q (.ref x) H2) E) :
  wpAny ② X.A (call (.ref C) us) (EP X pins σ Q) X.xe s:=by
 h hq:=h (¸+1) ¸ (I.hok.fresh (Nat.le_succ _)) (I.hok.fresh ③) (Nat.ne_of_lt (Nat.lt_succ_self _));h I2:=Inv.made (C:=C) I;h r2:Vals (V.ref (¸+1)::(vs++dvs)) (Value.ref (¸+1)::(us++ds)):=.cons rfl (r.append hd);h hl:(Value.ref (¸+1)::us++ds).length=ps.length:=by
  h e:=r2.length;rw[F.len _ _ _ _ hq] at e;!e.symm
 r wpAny_call (Rv (f:=f) I.kIn M.makes M.init (beq_iff_eq.mp M.fn) (codeAny_mono (F.run _ X.stack _ _ ⟨Value.ref (¸+1)::us,[]⟩ (Value.ref (¸+1)::(us++ds)) _ _ E (hr.make C us [])
  (I2.env0.make C us []) (hb _ (Value.ref (¸+1)::us) I2.kIn hl) r2 hq) fun r s' hq'=>?_))
 cases r with
 | error e=>!hx pins σ _ _ e s' I2 hq'
 | ok fl =>
  cases fl with
  | ret u =>
   o⟨v,H',I3,rv,ev,q3⟩:=I2.after hq';subst ev;!⟨rv,⟨V.ref (¸+1),H',I3,rfl,q3⟩⟩
  | next=>!False.elim hq'
  | brk=>!False.elim hq'
  | cont=>!False.elim hq'
theorem Iv(M:Mk X.K C f)(F:FnOk X.prog X.w X.K X.mg X.base CX k f fd ps sp)(hr:Room (k+1) X.A)(hg:Gl X x)(hm:X.mg x=some (.ref C))(hb:Binds X.K fd ps ds)(hd:Vals dvs ds)(hx:Passes CX X E)
  (ha:PA X (e::es) t) (hdb:(x==("__debug__" : Str))=false:=by decide) (he:starEach (e::es) X.env=(false,eval e X.env)::starEach es X.env:=by rfl) (hpl:(backTo pos (starEach es X.env)).any (·.1)=false:=by rfl) :
  PE X (.Call (.Name x p) (e::es) [] pos) (ACx C sp dvs E t):=by
 intro pins s σ H Q I h;r wpAny_Call_Name_kw (Gj I hg hm ?_ hdb);r PySem.W.callWith_K (h₀:=X.base) I.ok.mod.kin M.kp (thn (ha pos pins s σ H _ I h) fun us s1 ⟨vs,H1,I1,r,q⟩=>⟨I1.kIn,?_⟩) he hpl;!Qu M F hr hb hd hx I1 r q
theorem AAH(M:Mk X.K C f)(F:FnOk X.prog X.w X.K X.mg X.base CX k f fd ps sp)(hr:Room (k+1) X.A)(hg:Gl X x)(hm:X.mg x=some (.ref C))(hb:Binds X.K fd ps ds)(hd:Vals dvs ds)(hx:Passes CX X E)
  (hdb:(x==("__debug__" : Str))=false:=by decide):PE X (.Call (.Name x p) [] [] pos) (ACx C sp dvs E ABz):=by
 intro pins s σ H Q I h;r wpAny_Call_Name_kw (Gj I hg hm ?_ hdb);!PySem.W.callWith_K0 I.kIn M.kp (Qu (us:=[]) M F hr hb hd hx I .nil h)
end
def PK(X:Cx)(kws:List Keyword)(t:TA):Prop :=
 ∀(pos:Pos) (pins:List ⑤) (s:Shared) (σ:St) (H:Hp) (Q:List V->Hp->Prop),Inv X pins σ H s->t σ H Q->wpAny ② X.A (evalAll ((backToKw pos (keywordEach kws X.env)).map (·.2))) (AP X pins σ Q) X.xe s
section
variable{X:Cx}{CX:CXT}{k:Nat}{f C:Addr}{fd:FuncData}{ps ks:List Str}{sp:Sp}{E:XK}{x m:Str}{p pos apos kpos:Pos}{e o:Expr}{es:List Expr}{kws:List Keyword}{te ta:TE}{t tk:TA}{nm:Option Str}
theorem ADk:PK X [] ABz:=fun _ _ _ _ H Q I h=>wpAny_evalAll_nil ⟨[],H,I,.nil,h⟩
theorem ABX(ha:PE X e te)(hr:PK X kws t):PK X (⟨nm,e,kpos⟩::kws) (ACq te t):=by
 intro pos pins s σ H Q I h;show wpAny _ _ (evalAll ((do let v <- eval e X.env; standAt pos; pure v)::(backToKw pos (keywordEach kws X.env)).map (·.2))) _ _ s;r wpAny_evalAll_cons (wpAny_bind (thn (ha pins s σ H _ I h) fun u s1 ⟨x,H1,I1,r1,q1⟩=>wpAny_bind (wpAny_standAt (wpAny_pure ?_))));!thn (hr pos pins s1 σ H1 _ I1 q1) fun us s2 ⟨xs,H2,I2,r2,q2⟩=>⟨x::xs,H2,I2,.cons r1 r2,q2⟩
structure KBinds(K:¨)(fd:FuncData)(ps ks:List Str)(g:List Value->List Value->List Value)(gV:List V->List V->List V):Prop where
 to:∀(s:Shared) (us ws:List Value),K.In s.heap->(g us ws).length=ps.length->BindsTo s fd ⟨us,ks.zip ws⟩ (ps.zip (g us ws))
 rel:∀{vs:List V}{us:List Value}{zs:List V}{ws:List Value},Vals vs us->Vals zs ws->Vals (gV vs zs) (g us ws)
variable{g:List Value->List Value->List Value}{gV:List V->List V->List V}
end
structure FnScope(N P:List Str)(sc:Scope):Prop where
 kind:sc.kind=.function
 co:sc.isCoroutine=false
 gen:sc.isGenerator=false
 nd:N.Nodup
 pre:N.take P.length=P
 par:∀ x∈P,sc.names.lookup x=some .local\/sc.names.lookup x=some .cell
 nofree:∀ y∈sc.names,y.2≠.free
theorem Mr{kindOf:Str->Option NameKind}{x:Str}:∀{binds:List (Str×Value)}{m:Str->Option Value},(∀ v,(x,v)∉binds)->bindL kindOf binds m x=m x
 | [],_,_=>rfl
 | (n,v)::r,m,h=>by
  unfold bindL;rw[Mr fun w hw=>h w (¶ _ hw)];split
  ·have:x≠n:=by rintro rfl; !h v ´
   simp[this]
  ·rfl
theorem Og{kindOf:Str->Option NameKind}{x:Str}:∀{binds:List (Str×Value)}{m:Str->Option Value},(∀ v,(x,v)∉binds)->bindC kindOf binds m x=m x
 | [],_,_=>rfl
 | (n,v)::r,m,h=>by
  unfold bindC;rw[Og fun w hw=>h w (¶ _ hw)];split
  ·rfl
  ·have:x≠n:=by rintro rfl; !h v ´
   simp[this]
theorem Oj{kindOf:Str->Option NameKind}{x:Str}{v:Value}:∀{P:List Str}{vs:List Value}{i:Nat}{m:Str->Option Value},P.Nodup->P[i]?=some x->vs[i]?=some v->kindOf x=some .local ->
  bindL kindOf (P.zip vs) m x=some v
 | [],_,_,_,_,h,_,_=>by simp at h
 | _::_,[],_,_,_,_,h,_=>by simp at h
 | p::P,w::vs,0,m,nd,h1,h2,hk=>by
  simp at h1 h2; subst h1; subst h2;show bindL kindOf ((p,w)::P.zip vs) m p=_;unfold bindL;rw[Mr fun v hv=>(List.nodup_cons.mp nd).1 (List.of_mem_zip hv).1,if_pos hk];simp
 | p::P,w::vs,i+1,m,nd,h1,h2,hk=>by
  show bindL kindOf ((p,w)::P.zip vs) m x=_;unfold bindL;!Oj (i:=i) (List.nodup_cons.mp nd).2 (by simpa using h1) (by simpa using h2) hk
theorem Mq{kindOf:Str->Option NameKind}{x:Str}{v:Value}:∀{P:List Str}{vs:List Value}{i:Nat}{m:Str->Option Value},P.Nodup->P[i]?=some x->vs[i]?=some v->kindOf x≠some .local ->
  bindC kindOf (P.zip vs) m x=some v
 | [],_,_,_,_,h,_,_=>by simp at h
 | _::_,[],_,_,_,_,h,_=>by simp at h
 | p::P,w::vs,0,m,nd,h1,h2,hk=>by
  simp at h1 h2; subst h1; subst h2;show bindC kindOf ((p,w)::P.zip vs) m p=_;unfold bindC;rw[Og fun v hv=>(List.nodup_cons.mp nd).1 (List.of_mem_zip hv).1,if_neg hk];simp
 | p::P,w::vs,i+1,m,nd,h1,h2,hk=>by
  show bindC kindOf ((p,w)::P.zip vs) m x=_;unfold bindC;!Mq (i:=i) (List.nodup_cons.mp nd).2 (by simpa using h1) (by simpa using h2) hk
def start(N:List Str)(vs:List V):St:=vs.map some++List.replicate (N.length-vs.length) none
def cxOf(CX:CXT)(P:Program)(w:World)(K:¨)(mg:Str->Option Value)(base:Heap)(N:List Str)(qual:Str)(scope:Scope)(f:Addr)(cd:Value)(A:Around)(outer:List Env)(s:Shared)(H:Hp)(E:XK):Cx where
 prog:=P
 w:=w
 K:=K
 mg:=mg
 base:=base
 A:=A.deeper (envOfC qual scope ¸ f cd)
 N:=N
 s₀:=s
 H₀:=H
 env:=envOfC qual scope ¸ f cd
 outer:=outer
 stack:=envOfC qual scope ¸ f cd::outer
 ex:=[]
 calm:=true
 fn:=fun _=>true
 pn:=[]
 xe:=fun e s'=>wpAny (model P w) (A.deeper (envOfC qual scope ¸ f cd)) (leaving (envOfC qual scope ¸ f cd) e) (fun _ s''=>CX outer H s E e s'') (fun e' s''=>CX outer H s E e' s'') s'
theorem Rz{sc:Scope}{n:Nat}{x:Str}(h:sc.names.lookup x=some .cell):∃ c,(cellsFrom n sc.names []).lookup x=some c:=by
 h q:=PySem.W.cellsFrom_some sc.names n [] (.inl h);!Option.isSome_iff_exists.mp q
theorem YB{CX:CXT}{P:Program}{w:World}{K:¨}{mg:Str->Option Value}{base:Heap}{N ps:List Str}{qual:Str}{scope:Scope}{f:Addr}{cd:Value}{A:Around}{outer:List Env}{s s1:Shared}{H:Hp}{E:XK}{us:List Value}{vs:List V}
  (S:FnScope N ps scope) (hd:A.handled=none) (e0:Env0 P w K mg base A outer s H) (hl:vs.length=ps.length) (r:Vals vs us)
  (x:InCallC s ¸ (bindL (envOfC qual scope ¸ f cd).kindOf (ps.zip us) fun _=>none) (cellsFrom (¸+1) scope.names []) (bindC (envOfC qual scope ¸ f cd).kindOf (ps.zip us) fun _=>none) s1) :
  Inv (cxOf CX P w K mg base N qual scope f cd A outer s H E) [] (start N vs) H s1:=by
 h hpl:ps.length<=N.length:=by have:=congrArg List.length S.pre; rw[List.length_take] at this; w
 o⟨h1,tk,rfl,hk⟩:=x.done;h noA:∀ b:Addr,b∉(cxOf CX P w K mg base N qual scope f cd A outer s H E).ex:=fun b z=>absurd (show b∈([]:List Addr) from z) ¥;r⟨⟨e0.mod,S.kind,rfl,rfl,Nat.le_refl _,fun y z c h1 h2=>?_,fun y hy=>?_,fun y c _ h=>?_,fun _=>hd,Around.frames_deeper e0.frames,.inr ⟨rfl,rfl⟩,fun b z=>absurd z (noA b),e0.bs,e0.bsz,fun b _ _=>noA b,fun b z=>absurd z (noA b),e0.funs,e0.frf⟩,
  rfl,e0.bare,Un.kept hk,⟨_,x.toInCall.ns,fun i y v h1 h2 h3=>?_⟩,fun y c h=>⟨_,x.cell y c h⟩,e0.hok.fresh ③,fun y c h=>?_,fun p hp=>absurd (show p∈([]:List ⑤) from hp) ¥,e0.hok.kept hk,?_⟩
 ·!name_of_addr x.apart (PySem.mem_of_lookup h1) (PySem.mem_of_lookup h2)
 ·h hy:scope.names.lookup y=some .cell\/scope.names.lookup y=some .free:=hy
  rcases hy with hy | hy
  ·!Rz hy
  ·!absurd rfl (S.nofree _ (PySem.mem_of_lookup hy))
 ·!Nat.le_of_lt (x.above y c (PySem.mem_of_lookup h))
 ·h hi:i<vs.length:=by
   unfold start at h2;by_cases hi:i<vs.length
   ·!hi
   ·rw[List.getElem?_append_right (by simpa using hi)] at h2
    rw[List.getElem?_replicate] at h2;split at h2<;>cases h2
  h ha:vs[i]?=some v:=by
   unfold start at h2;rw[List.getElem?_append_left (by simpa using hi),List.getElem?_map] at h2;cases e:vs[i]? with
   | none=>rw[e] at h2; cases h2
   | some a=>rw[e] at h2; cases h2; rfl
  o⟨u,hu,rv⟩:=r.get ha;h hp:ps[i]?=some y:=by
   rw[<- S.pre,List.getElem?_take_of_lt ¢]; !h1
  h ndP:ps.Nodup:=by rw[<- S.pre]; !S.nd.sublist (List.take_sublist _ _)
  r⟨u,rv,?_⟩;rcases S.par y (List.mem_of_getElem? hp) with k | k
  ·!.inl ⟨k,Oj ndP hp hu k⟩
  ·o⟨c,e⟩:=Rz (n:=¸+1) k
   r .inr ⟨.inl k,c,e,?_⟩;h q:=x.cell y c e;rw[Mq ndP hp hu (by show scope.names.lookup y≠_; rw[k]; decide)] at q;!q
 ·!e0.hok.fresh (Nat.le_of_lt (x.above y c (PySem.mem_of_lookup h)))
 ·unfold start
  show _=N.length;rw[List.length_append,List.length_map,List.length_replicate];w
theorem ACw{CX:CXT}{P:Program}{w:World}{K:¨}{mg:Str->Option Value}{base:Heap}{k:Nat}{f:Addr}{name qual:Str}{params:Arguments}{body:List Stmt}{scope:Scope}{dV kV doc pm cdv ct oc:Value}{an od:Option Addr}
  {osl:Array ⑦}{N ps:List Str}{sp:Sp} (lk:K.lookup f=some ⟨oc,od,.func (PySem.W.fnOf name qual params body scope dV kV doc pm an cdv ct),osl⟩) (hcd:PySem.W.codeIn K cdv qual=true) (S:FnScope N ps scope)
  (len:∀ vs H Q E,sp vs H Q E->vs.length=ps.length)
  (hbody:∀(A:Around) (outer:List Env) (s:Shared) (H:Hp) (vs:List V) (Q:VK) (E:XK),Room k (A.deeper (envOfC qual scope ¸ f cdv))->sp vs H Q E ->
   ∃ t,PSs (cxOf CX P w K mg base N qual scope f cdv A outer s H E) body t/\t {nx:=fun _ H'=>Q .non H',rt:=Q} (start N vs) H) :
  FnOk P w K mg base CX (k+1) f (PySem.W.fnOf name qual params body scope dV kV doc pm an cdv ct) ps sp:=by
 r⟨len,fun A outer s H args us vs Q E hr e0 hb r hsp=>?_⟩;h hl:=len _ _ _ _ hsp;h KX:K.In s.heap:=e0.mod.kin.keeps fun b o e=>(e0.bs b o e).1;h lim:s.heap.NoLimit:=e0.mod.nolimit.keeps fun b o e=>(e0.bs b o e).1;h hkind:∀ y∈ps.zip us,scope.names.lookup y.1=some .local\/(scope.names.lookup y.1=some .cell/\((cellsFrom (¸+1) scope.names []).lookup y.1).isSome=true):=fun⟨n,v⟩ hy=>by
  rcases S.par n (List.of_mem_zip hy).1 with q | q
  ·!.inl q
  ·!.inr ⟨q,PySem.W.cellsFrom_some _ _ _ (.inl q)⟩
 r codeAny_call_function hr.depth (KX _ _ lk) rfl S.co S.gen rfl (PySem.W.codeRec_of KX hcd) (hb _ _ _ _ ?_);r wpAny_newFunctionEnv_cells S.kind hkind fun env he s1 x=>?_;subst he;r⟨lim.keeps x.toInCall.keep,codeAny_func ?_⟩;o⟨t,ht,hq⟩:=hbody A outer s H vs Q E (hr.deeper _) hsp;h I:Inv (cxOf CX P w K mg base N qual scope f cdv A outer s H E) [] (start N vs) H s1:=YB S hr.hd e0 hl r x;r wpAny_mono (ht [] s1 (start N vs) H _ I hq) (fun fl s' hs=>?_) fun e s' hs=>hs;h fin:∀{σ':St}{H':Hp}{v:V}{u:Value},Inv (cxOf CX P w K mg base N qual scope f cdv A outer s H E) [] σ' H' s'->RelV v u->Q v H'->CE outer P w H s Q u s' :=
  fun {σ' H' v u} J rv q=>⟨v,H',J.os,J.bare,J.base,J.hok,rv,q⟩
 cases fl with
 | ret u =>
  o⟨v,σ',H',J,rv,q⟩:=hs;!fin J rv q
 | next =>
  o⟨σ',H',J,q⟩:=hs;!fin (v:=V.non) (u:=Value.none) J rfl q
 | brk =>
  o⟨_,_,_,q⟩:=hs;!False.elim q
 | cont =>
  o⟨_,_,_,q⟩:=hs;!False.elim q
section
variable{X:Cx}{x:Str}{p pos:Pos}{e:Expr}{es:List Expr}{t:TA}{id T:String}{r:List V->Hp->VK->Prop}
def tCB(r:List V->Hp->VK->Prop)(t:TA):TE:=fun σ H Q=>t σ H fun vs H1=>r vs H1 Q
theorem BL(hc:CallR X (.builtin id) r)(hg:Gl X x)(hm:X.mg x=none)(hv:bootBuiltins x=some (.builtin id))(ha:PA X (e::es) t)(hn:x≠"__name__":=by decide)(hdb:(x==("__debug__" : Str))=false:=by decide)
  (he:starEach (e::es) X.env=(false,eval e X.env)::starEach es X.env:=by rfl) (hpl:(backTo pos (starEach es X.env)).any (·.1)=false:=by rfl):PE X (.Call (.Name x p) (e::es) [] pos) (tCB r t):=by
 intro pins s σ H Q I h;r wpAny_Call_Name_kw (Ej I hg hm hv ?_ hn hdb);!PyProof.Rows.callWith_builtin1 (thn (ha pos pins s σ H _ I h) fun us s1 ⟨vs,H1,I1,r1,q1⟩=>hc pins s1 σ H1 vs us Q I1 r1 q1) he hpl
theorem Bk(hc:CallR X (.type T) r)(hg:Gl X x)(hm:X.mg x=none)(hv:bootBuiltins x=some (.type T))(ha:PA X (e::es) t)(hn:x≠"__name__":=by decide)(hdb:(x==("__debug__" : Str))=false:=by decide)
  (he:starEach (e::es) X.env=(false,eval e X.env)::starEach es X.env:=by rfl) (hpl:(backTo pos (starEach es X.env)).any (·.1)=false:=by rfl):PE X (.Call (.Name x p) (e::es) [] pos) (tCB r t):=by
 intro pins s σ H Q I h;r wpAny_Call_Name_kw (Ej I hg hm hv ?_ hn hdb);!PyProof.Rows.callWith_type1 (thn (ha pos pins s σ H _ I h) fun us s1 ⟨vs,H1,I1,r1,q1⟩=>hc pins s1 σ H1 vs us Q I1 r1 q1) he hpl
end
end L2
namespace HT
open PySem PyProof.Rows
def lexLt:List Int->List Int->Bool
 | [],[]=>false
 | [],_::_=>true
 | _::_,[]=>false
 | x::xs,y::ys=>if x=y then lexLt xs ys else decide (x<y)
theorem Br(x y:Int)(xs ys:List Int):lexLt (x::xs) (y::ys)=if x=y then lexLt xs ys else decide (x<y):=rfl
theorem MJ:lexLt [] []=false:=rfl
theorem Kc(y:Int)(ys:List Int):lexLt [] (y::ys)=true:=rfl
theorem Ln(x:Int)(xs:List Int):lexLt (x::xs) []=false:=rfl
theorem Qi(A:Around)(s:Shared)(a:Int)(t:Tok)(c:Int)(u:Tok):∃ e,SeqAt.EqAt A s (.int a t) (.int c u) e/\(e=true↔a=c) :=
 ⟨(a==c),SeqAt.EqAt.int_int a t c u,by simp⟩
theorem Te(A:Around)(s:Shared)(a:Int)(t:Tok)(c:Int)(u:Tok)(prog:Program)(w:World)(E:Value->Shared->Prop)(Q:Value->Shared->Prop)(h:Q (.bool (decide (a<c))) s) :
  wpAny ① A (richCompare .Lt (.int a t) (.int c u)) Q E s :=
 (PyProof.Rows.lt_int h:wpAny ① A (compareOp .Lt (.int a t) (.int c u)) Q E s)
section
open PySem.SeqAt
open PySem.AutoSeq1 (wpAny_loadPart')
open PySem.MeetsSeq PySem.MeetsSeq2 PySem.MeetsSeq3
theorem Ml(l b:Addr)(items items2:Array Value)(n n2:Nat)(dd dd2:Option Addr)(sl sl2:Array ⑦)(ns ms:List Int)(hi:IntsAre items.toList ns)(hj:IntsAre items2.toList ms) :
  Meets (Builtin.«tuple.__lt__» ⟨[.ref l,.ref b],[]⟩)
   (fun _ R s=>s.heap.get? l=some {cls:=.type "tuple",dict:=dd,data:=.seq items n,slots:=sl}/\s.heap.get? b=some {cls:=.type "tuple",dict:=dd2,data:=.seq items2 n2,slots:=sl2} /\
    R (.ok (.ret (.bool (lexLt ns ms)))) s) :=
 .of_wp fun prog w A R s h=>by
  o⟨hp,g,d,tk,os⟩:=s; o⟨hl,hb,h⟩:=h;h f2:=AutoSeq1.sub_tuple_tuple;h z1:items.size=ns.length:=by rw[<- hi.length]; simp
  h z2:items2.size=ms.length:=by rw[<- hj.length]; simp
  wp_walk using wpAny_loadPart' hl,wpAny_loadPart' hb,wpAny_forIn_list _ (fun rest b s'=>b.1=none/\s'=⟨hp,g,d,tk,os⟩/\∃(vs ws:List Value) (ns' ms':List Int),rest=vs.zip ws /\
   IntsAre vs ns'/\IntsAre ws ms'/\ns'.length+items2.size=ms'.length+items.size/\R (.ok (.ret (.bool (lexLt ns' ms')))) ⟨hp,g,d,tk,os⟩) _
  case turn =>
   rintro⟨y,x⟩ rest b s' ⟨hb',rfl,vs,ws,ns',ms',hz,hvi,hwi,hlen,hR⟩;cases hvi with
   | nil=>rw[List.zip_nil_left] at hz; cases hz
   | cons a t hvi' =>
    cases hwi with
    | nil=>rw[List.zip_nil_right] at hz; cases hz
    | cons c u hwi' =>
     rw[List.zip_cons_cons] at hz;injection hz with hyx hrest
     injection hyx with hy hx
     subst hy hx;rw[Br] at hR;simp only[List.length_cons] at hlen;o⟨e,he,hiff⟩:=Qi A.in1 ⟨hp,g,d,tk,os⟩ a t c u;r wpAny_bind (he prog w _ _ ?_);cases e with
     | true =>
      rw[if_pos (hiff.mp rfl)] at hR
      wp_walk
      !⟨rfl,rfl,_,_,_,_,hrest,hvi',hwi',by w,hR⟩
     | false =>
      rw[if_neg (fun q=>absurd (hiff.mpr q) Bool.false_ne_true)] at hR;h hri:=Te A.in1 ⟨hp,g,d,tk,os⟩ a t c u prog w
      wp_walk using hri
      !⟨_,rfl,by simpa using hR⟩
  case fin =>
   rintro⟨b1,b2⟩ s' ⟨hb',rfl,vs,ws,ns',ms',hz,hvi,hwi,hlen,hR⟩;simp only at hb';subst hb';h hv:lexLt ns' ms'=decide (items.size<items2.size):=by
    cases hvi with
    | nil =>
     cases hwi with
     | nil =>
      simp only[List.length_nil] at hlen;rw[MJ];!(decide_eq_false ¢).symm
     | cons c u hw =>
      simp only[List.length_nil,List.length_cons] at hlen;rw[Kc];!(decide_eq_true ¢).symm
    | cons a t hv =>
     cases hwi with
     | nil =>
      simp only[List.length_nil,List.length_cons] at hlen;rw[Ln];!(decide_eq_false ¢).symm
     | cons c u hw =>
      rw[List.zip_cons_cons] at hz;cases hz
   rw[hv] at hR
   wp_walk
   !⟨_,rfl,by simpa [Builtin.Tuple.tupleCompareSizes] using hR⟩
  case h =>
   !⟨rfl,rfl,items.toList,items2.toList,ns,ms,rfl,hi,hj,by w,h⟩
end
section
variable{prog:Program}{w:World}{A:Around}{E:Value->Shared->Prop}{s:Shared}
theorem Ve{l b:Addr}{items items2:Array Value}{ns ms:List Int}{Q:Value->Shared->Prop}(hl:IsTup s.heap l items)(hb:IsTup s.heap b items2)(hi:IntsAre items.toList ns)(hj:IntsAre items2.toList ms)
  (hu:A.units<cLine) (h:Q (.bool (lexLt ns ms)) s):wpAny ① A (compareOp .Lt (.ref l) (.ref b)) Q E s:=by
 o⟨⟨cls,dd,data,sl⟩,ho,hc,n,hd⟩:=id hl;o⟨⟨cls2,dd2,data2,sl2⟩,ho2,hc2,n2,hd2⟩:=id hb;simp only at hc hd hc2 hd2;subst hc hd hc2 hd2;!richCompare_meets_room (op:=.Lt) ⟨_,ho,rfl⟩ ⟨_,ho2,rfl⟩ PySem.F.slot_tuple_lt PySem.F.entry_tuple_lt (PySem.F.args_tuple_lt_2 _ _) (Ml l b items items2 n n2 dd dd2 sl sl2 ns ms hi hj)
  ⟨ho,ho2,show Value.bool (lexLt ns ms)≠Value.notImplemented/\Q (.bool (lexLt ns ms)) s from⟨(fun x=>nomatch x),h⟩⟩ hu
def sIx(n d:Nat):Option Int->Nat
 | none=>d
 | some v=>if v<0 then (v+(n:Int)).toNat else min v.toNat n
theorem Ti(n d:Nat):sIx n d none=d:=rfl
theorem Wa(n d k:Nat):sIx n d (some (k:Int))=min k n:=by
 show (if (k:Int)<0 then ((k:Int)+(n:Int)).toNat else min (k:Int).toNat n)=min k n;rw[if_neg ¢,Int.toNat_natCast]
theorem AEa(n d:Nat)(hd:d<=n)(o:Option Int):sIx n d o<=n:=by
 cases o with
 | none=>!hd
 | some v =>
  show (if v<0 then (v+(n:Int)).toNat else min v.toNat n)<=n;by_cases hv:v<0
  ·rw[if_pos hv]; w
  ·rw[if_neg hv]; !Nat.min_le_right _ _
theorem Vy(v:Int)(n d:Nat):(if v<0 then max (v+(n:Int)) 0 else min v (n:Int))=((sIx n d (some v):Nat):Int):=by
 show (if v<0 then max (v+(n:Int)) 0 else min v (n:Int))=(((if v<0 then (v+(n:Int)).toNat else min v.toNat n):Nat):Int);by_cases hv:v<0
 ·simp only[if_pos hv]; w
 ·simp only[if_neg hv]; w
theorem Ug(lo hi:Option Int)(n:Nat):Builtin.Slice.sliceAdjust lo hi 1 (n:Int)=(((sIx n 0 lo:Nat):Int),((sIx n n hi:Nat):Int)):=by
 h h1:¬ ((1:Int)<0):=by w
 unfold Builtin.Slice.sliceAdjust;simp only[h1,if_false];r Prod.ext ?_ ?_
 ·cases lo with
  | none=>rfl
  | some v=>!Vy v n 0
 ·cases hi with
  | none=>rfl
  | some v=>!Vy v n n
theorem Uy(i j:Nat):Builtin.Slice.slicePlaces (i:Int) (j:Int) 1=j-i:=by
 unfold Builtin.Slice.slicePlaces;h h1:(1:Int)>0:=by w
 simp only[h1,if_true,Int.ediv_one];split<;>w
theorem Lz{v:Value}{o:Option Int}{Q:Option Int->Shared->Prop}(p:IsPart v o)(h:Q o s):wpAny ① A (Builtin.Slice.slicePartIndex v) Q E s:=by
 cases p with
 | none=>!slicePart_none h
 | int i t=>!slicePart_int h
theorem JF{sl:Addr}{vl vu:Value}{lo hi:Option Int}{n:Nat}{Q:Int×Int×Nat->Shared->Prop}(hs:s.heap.IsSliceOf sl vl vu .none)(pl:IsPart vl lo)(pu:IsPart vu hi)
  (h:Q (((sIx n 0 lo:Nat):Int),1,sIx n n hi-sIx n 0 lo) s):wpAny ① A (Builtin.Slice.sliceApplied (.ref sl) (pure (n:Int))) Q E s:=by
 o⟨os,hos,hcs,hds⟩:=id hs;unfold Builtin.Slice.sliceApplied Builtin.Slice.sliceFields;r wpAny_bind (wpAny_bind (wpAny_field hos hds (x:=vl) rfl (wpAny_bind (wpAny_field hos hds (x:=vu) rfl (wpAny_bind (wpAny_field hos hds (x:=.none) rfl (wpAny_pure ?_)))))));r wpAny_bind (slicePart_none ?_);show wpAny _ _ (if ((1:Int)==0)=true then _ else _) _ _ s;rw[if_neg ¤];r wpAny_bind (Lz pl (wpAny_bind (Lz pu (wpAny_bind (wpAny_pure ?_)))));show wpAny _ _ (match Builtin.Slice.sliceAdjust lo hi 1 (n:Int) with | (lo,hi)=>pure (lo,(1:Int),Builtin.Slice.slicePlaces lo hi 1)) _ _ s;rw[Ug lo hi n];show wpAny _ _ (pure (((sIx n 0 lo:Nat):Int),(1:Int),Builtin.Slice.slicePlaces ((sIx n 0 lo:Nat):Int) ((sIx n n hi:Nat):Int) 1)) _ _ s;rw[Uy];!wpAny_pure h
theorem Zh(xs:Array Value)(i k:Nat):((List.range k).filterMap fun(m:Nat)=>xs[((i:Int)+(m:Int)*1).toNat]?).toArray=((xs.toList.drop i).take k).toArray:=by
 h e:(fun(m:Nat)=>xs[((i:Int)+(m:Int)*1).toNat]?)=fun m=>xs[i+m]?:=by
  funext m
  have:((i:Int)+(m:Int)*1).toNat=i+m:=by w
  rw[this]
 rw[e];have:=pick_run xs i k;rw[List.filterMap_map] at this;h e2:((fun x=>xs[x]?) ∘ fun x=>i+x)=fun m=>xs[i+m]?:=rfl;rw[e2] at this;rw[this]
theorem Hy{t sl:Addr}{items:Array Value}{vl vu:Value}{lo hi:Option Int}{Q:Value->Shared->Prop}(ht:IsTup s.heap t items)(hs:s.heap.IsSliceOf sl vl vu .none)(pl:IsPart vl lo)(pu:IsPart vu hi)
  (hw:¬ (sIx items.size 0 lo=0/\sIx items.size items.size hi=items.size))
  (h:Q (.ref ¸) {s with heap:=s.heap.push {cls:=.type "tuple",data:=.seq ((items.toList.drop (sIx items.size 0 lo)).take (sIx items.size items.size hi-sIx items.size 0 lo)).toArray}})
  (hsz:items.size<=sizeLine):wpAny ① A (getItem (.ref t) (.ref sl)) Q E s:=by
 h htake:sizeOk (.seq ((items.toList.drop (sIx items.size 0 lo)).take (sIx items.size items.size hi-sIx items.size 0 lo)).toArray):=by
  show ((items.toList.drop (sIx items.size 0 lo)).take (sIx items.size items.size hi-sIx items.size 0 lo)).toArray.size<=sizeLine;rw[List.size_toArray,List.length_take,List.length_drop,Array.length_toList];w
 h hj:sIx items.size items.size hi<=items.size:=AEa _ _ ③ hi;o⟨os,hos,hcs,hds⟩:=id hs;h hTs:s.TypeIs (.ref sl) "slice":=⟨os,hos,hcs⟩;unfold getItem
 try with_reducible r wpAny_holding ?_
 first | r wpAny_bind (wpAny_pure ?_) | skip
 r wpAny_bind (wpAny_sequenceKey ht.typeIs ¤ ?_);r wpAny_bind (wpAny_callSpecial?_slot (name:=Str.ofString "__getitem__") ht.typeIs PyProof.Rows.slot_tuple_getitem
  (wpAny_call_entry PyProof.Rows.slot_tuple_getitem ht.typeIs entry_tuple_getitem ?_ (args_tuple_getitem _ _)))
 show wpAny _ _ (Builtin.Tuple.tupleItemsOf (.ref t) >>= _) _ _ s;r wpAny_bind (tupleItemsOf_ ht ?_);r wpAny_bind (wpAny_typeOf hTs ?_);rw[if_pos ¤];r wpAny_bind (JF hs pl pu ?_);h hno:¬ ((((sIx items.size 0 lo:Nat):Int)==0&&(1:Int)==1&&(sIx items.size items.size hi-sIx items.size 0 lo)==items.size)=true):=by
  intro q;rw[Bool.and_eq_true,Bool.and_eq_true] at q;h q1:((sIx items.size 0 lo:Nat):Int)=0:=eq_of_beq q.1.1;h q2:sIx items.size items.size hi-sIx items.size 0 lo=items.size:=eq_of_beq q.2;!hw ⟨by w,by w⟩
 show wpAny _ _ (if (((sIx items.size 0 lo:Nat):Int)==0&&(1:Int)==1&&(sIx items.size items.size hi-sIx items.size 0 lo)==items.size)=true then _ else _) _ _ s;rw[if_neg hno,Zh]
 first
  | !wpAny_bind (m:=Builtin.Tuple.tupleExact _) (wpAny_newObj_type (wpAny_pure ⟨_,rfl,wpAny_pure h⟩) htake)
  | !wpAny_bind (m:=Builtin.Tuple.tupleExact _) (wpAny_newObj_type (wpAny_bind (wpAny_pure (wpAny_pure ⟨_,rfl,wpAny_pure h⟩))) htake)
  | !wpAny_bind (wpAny_bind (m:=Builtin.Tuple.tupleExact _) (wpAny_newObj_type (wpAny_pure (wpAny_pure ⟨_,rfl,wpAny_pure h⟩)) htake))
  | !wpAny_bind (wpAny_bind (m:=Builtin.Tuple.tupleExact _) (wpAny_newObj_type (wpAny_pure ⟨_,rfl,wpAny_pure h⟩) htake))
end
end HT
namespace L2
open PySem PySem.Spec PyProof.Rows
abbrev TO:=St->Hp->(Option Int->Hp->Prop)->Prop
def PO(X:Cx)(e:Option Expr)(t:TO):Prop :=
 ∀(pins:List ⑤) (s:Shared) (σ:St) (H:Hp) (Q:Option Int->Hp->Prop),Inv X pins σ H s->t σ H Q ->
  wpAny ② X.A (evalPart e X.env) (fun u s'=>∃ o H',Inv X pins σ H' s'/\IsPart u o/\Q o H') X.xe s
def ABT:TO:=fun _ H Q=>Q none H
def AFK(t:TE):TO:=fun σ H Q=>t σ H fun x H1=>∃ i,x=.int i/\Q (some i) H1
theorem intsAre_of{ns:List Int}:∀{us:List Value},Vals ⑭ us->IntsAre us ns:=by
 induction ns with
 | nil=>intro us r; rw[List.map_nil] at r; cases r; !.nil
 | cons n ns ih =>
  intro us r;rw[List.map_cons] at r;cases r with
  | cons r1 r2 =>
   o⟨t,e⟩:=r1;subst e;!.cons n t (ih r2)
section
variable{X:Cx}{e:Expr}{te:TE}{lo hi:Option Expr}{tl th:TO}{pos p2:Pos}
theorem Jv:PO X none ABT:=by
 intro pins s σ H Q I h;rw[evalPart_none];!wpAny_pure ⟨none,H,I,.none,h⟩
theorem Gy(h:PE X e te):PO X (some e) (AFK te):=by
 intro pins s σ H Q I hw;rw[evalPart_some];r thn (h pins s σ H _ I hw) fun u s1 ⟨x,H1,I1,r1,q1⟩=>?_;o⟨i,rfl,q⟩:=q1;o⟨t,rfl⟩:=r1;!⟨some i,H1,I1,.int i t,q⟩
def SlR(X:Cx)(r:V->Option Int->Option Int->Hp->VK->Prop):Prop :=
 ∀(pins:List ⑤) (s:Shared) (σ:St) (H:Hp) (x:V) (v vl vu:Value) (lo hi:Option Int) (sl:Addr) (Q:VK),Inv X pins σ H s->RelV x v->s.heap.IsSliceOf sl vl vu .none->IsPart vl lo->IsPart vu hi->r x lo hi H Q ->
  ∃ T id,typeLookup (.type T) "__getitem__" = pure (some (.builtin id))/\s.TypeIs v T/\wpAny ② X.A (getItem v (.ref sl)) (EP X pins σ Q) X.xe s
def tSl(r:V->Option Int->Option Int->Hp->VK->Prop)(te:TE)(tl th:TO):TE:=fun σ H Q=>te σ H fun x H1=>tl σ H1 fun l H2=>th σ H2 fun u H3=>r x l u H3 Q
theorem Fy{r:V->Option Int->Option Int->Hp->VK->Prop}(hr:SlR X r)(he:PE X e te)(hl:PO X lo tl)(hu:PO X hi th):PE X (.Subscript e (.Slice lo hi none p2) pos) (tSl r te tl th):=by
 intro pins s σ H Q I h;r Subscript_ (thn (he pins s σ H _ I h) fun v s1 ⟨x,H1,I1,r1,q1⟩=>?_);r wpAny_Slice (thn (hl pins s1 σ H1 _ I1 q1) fun vl s2 ⟨l,H2,I2,pl,q2⟩=>thn (hu pins s2 σ H2 _ I2 q2) fun vu s3 ⟨u,H3,I3,pu,q3⟩=>?_);rw[evalPart_none];r wpAny_pure ?_;h I4:Inv X pins σ H3 {s3 with heap:=s3.heap.push {cls:=.type "slice",data:=.fields #[vl,vu,.none]}}:=I3.kept (t':=s3.toks) fun b ob q=>° _ q;o⟨T,id,hT,ht,hg⟩:=hr pins {s3 with heap:=s3.heap.push {cls:=.type "slice",data:=.fields #[vl,vu,.none]}} σ H3 x v vl vu l u s3.heap.objs.size Q I4 r1 (Heap.IsSliceOf.new ..) pl pu q3;show wpAny ② X.A (subscriptTail e (.Slice lo hi none p2) v (.ref s3.heap.objs.size)) (EP X pins σ Q) X.xe {s3 with heap:=s3.heap.push {cls:=.type "slice",data:=.fields #[vl,vu,.none]}};!tail_any (ops:=[.ref s3.heap.objs.size,v]) ht hT hg (by with_unfolding_all rfl)
def cutV(xs:List V)(lo hi:Option Int):List V:=(xs.drop (HT.sIx xs.length 0 lo)).take (HT.sIx xs.length xs.length hi-HT.sIx xs.length 0 lo)
theorem Ji(xs:List V)(lo hi:Option Int):(cutV xs lo hi).length<=xs.length:=by
 unfold cutV;rw[List.length_take,List.length_drop];w
def rSlT(K:¨):V->Option Int->Option Int->Hp->VK->Prop:=fun x lo hi H Q=>∃ a xs,x=.ref a/\SqT K H a xs /\
 ¬ (HT.sIx xs.length 0 lo=0/\HT.sIx xs.length xs.length hi=xs.length)/\∀ p,H p=none->Q (.ref p) (upd H p (.tup (cutV xs lo hi)))
theorem ADX:SlR X (rSlT X.K):=by
 intro pins s σ H x v vl vu lo hi sl Q I rx hs pl pu h;o⟨a,xs,rfl,hx,hw,q⟩:=h;cases rx;o⟨its,r,ht,hz⟩:=I.tuple hx;h hlen:its.toArray.size=xs.length:=by rw[List.size_toArray]; !r.length.symm
 r⟨"tuple",_,PyProof.Rows.slot_tuple_getitem.lookup,ht.typeIs,?_⟩;r HT.Hy ht hs pl pu (by rw[hlen]; !hw) ?_ (by rw[hlen]; !hz);rw[hlen];r⟨.ref ¸,_,I.laid (t':=s.toks) (o:=.tup (cutV xs lo hi)) (fun b ob q=>° _ q) ③ ?_,rfl,q _ (I.hok.fresh ③)⟩;!⟨Nat.le_trans (Ji xs lo hi) hz,_,(r.drop (HT.sIx xs.length 0 lo)).take (HT.sIx xs.length xs.length hi-HT.sIx xs.length 0 lo),IsTup.new _ _⟩
end
def ixN(n:Nat)(i:Int):Option Nat:=if 0<=i then (if i<n then some i.toNat else none) else if -(n:Int)<=i then some (i+n).toNat else none
def atI{α:Type}(xs:List α)(i:Int):Option α:=(ixN xs.length i).bind fun j=>xs[j]?
theorem ABk{n:Nat}{i:Int}{j:Nat}(h:ixN n i=some j):seqIndex? i n=some j/\j<n/\-(n:Int)<=i/\i<n:=by
 unfold ixN at h;by_cases h0:0<=i
 ·rw[if_pos h0] at h
  by_cases h1:i<n
  ·rw[if_pos h1] at h
   h e:i.toNat=j:=Option.some.inj h;!⟨by rw[seqIndex_of h0 h1,e],by w,by w,h1⟩
  ·rw[if_neg h1] at h; cases h
 ·rw[if_neg h0] at h
  by_cases h1:-(n:Int)<=i
  ·rw[if_pos h1] at h
   h e:(i+n).toNat=j:=Option.some.inj h;!⟨by rw[seqIndex_neg ¢ h1,e],by w,h1,by w⟩
  ·rw[if_neg h1] at h; cases h
theorem atI_get{α:Type}{xs:List α}{i:Int}{v:α}(h:atI xs i=some v):∃ j,seqIndex? i xs.length=some j/\xs[j]?=some v/\j<xs.length/\-(xs.length:Int)<=i/\i<xs.length:=by
 unfold atI at h;cases e:ixN xs.length i with
 | none=>rw[e] at h; cases h
 | some j =>
  rw[e] at h;o⟨h1,h2,h3,h4⟩:=ABk e;!⟨j,h1,h,h2,h3,h4⟩
theorem Bm{α:Type}{xs:List α}{j:Nat}{v:α}(h:xs[j]?=some v):atI xs (j:Int)=some v:=by
 h hj:j<xs.length:=(List.getElem?_eq_some_iff.mp h).1;h e:ixN xs.length (j:Int)=some j:=by
  unfold ixN;rw[if_pos ¢,if_pos ¢]; simp
 unfold atI; rw[e]; !h
def ABm(b:Expr):Prop:=∀ o i,subscripted b false o i=operate [o,i] (getItem o i)
def IxR(X:Cx)(r:R2):Prop :=
 ∀(value slice:Expr) (pins:List ⑤) (s:Shared) (σ:St) (H:Hp) (x y:V) (v u:Value) (Q:VK),Inv X pins σ H s->RelV x v->RelV y u->r x y H Q ->
  subscripted slice false v u=operate [v,u] (getItem v u)->wpAny ② X.A (subscriptTail value slice v u) (EP X pins σ Q) X.xe s
def MtR(X:Cx)(id:String)(r:V->List V->Hp->VK->Prop):Prop :=
 ∀(pins:List ⑤) (s:Shared) (σ:St) (H:Hp) (x:V) (xs:List V) (v:Value) (us:List Value) (Q:VK),Inv X pins σ H s->RelV x v->Vals xs us->r x xs H Q ->
  wpAny ② X.A (call (.builtin id) (v::us)) (EP X pins σ Q) X.xe s
section
variable{X:Cx}{a b:Expr}{ta tb:TE}{pos:Pos}
theorem Bc{r:R2}(hr:IxR X r)(ha:PE X a ta)(hb:PE X b tb)(hs:ABm b):PE X (.Subscript a b pos) (tOp r ta tb):=by
 intro pins s σ H Q I h;!Subscript_ (binT ha hb I h fun v u s2 x y H2 I2 rx ry q=>hr a b pins s2 σ H2 x y v u Q I2 rx ry q (hs _ _))
def rIxL(K:¨):R2:=fun x y H Q=>∃ p xs i v,x=.ref p/\y=.int i/\SqL K H p xs/\atI xs i=some v/\Q v H
def rIxT(K:¨):R2:=fun x y H Q=>∃ p xs i v,x=.ref p/\y=.int i/\SqT K H p xs/\atI xs i=some v/\Q v H
theorem Bl:IxR X (rIxL X.K):=by
 intro value slice pins s σ H x y v u Q I rx ry h hs;o⟨p,xs,i,z,rfl,rfl,hq,he,q⟩:=h;cases rx;o⟨t,rfl⟩:=ry;o⟨its,r,pl,hz⟩:=I.list hq;o⟨j,h1,h2,h3,h4,h5⟩:=atI_get he;o⟨w,ew,rw'⟩:=r.get h2;h hl:=r.length;h hn:=line63;h fin:EP X pins σ Q w s:=⟨z,H,I,rw',q⟩;by_cases h0:0<=i
 ·h hj:i.toNat=j:=by
   rw[seqIndex_of h0 h5] at h1;!Option.some.inj h1
  !item_listR pl.isList h0 ¢ (by rw[hj]; simpa using ew) fin hs
 ·h hj:(i+(its.toArray.size:Int)).toNat=j:=by
   rw[seqIndex_neg ¢ h4] at h1;rw[List.size_toArray,<- hl];!Option.some.inj h1
  !subscriptTail_builtinR (x:=w) pl.isList.typeIs slot_list_getitem.lookup
   (wpAny_getItem_list_neg (Q:=fun r s'=>r=w/\EP X pins σ Q r s') pl.isList ¢ (by rw[List.size_toArray]<;>w) ¢ (by rw[hj]; simpa using ew) ⟨rfl,fin⟩) hs
theorem Dn:IxR X (rIxT X.K):=by
 intro value slice pins s σ H x y v u Q I rx ry h hs;o⟨p,xs,i,z,rfl,rfl,hq,he,q⟩:=h;cases rx;o⟨t,rfl⟩:=ry;o⟨its,r,pl,hz⟩:=I.tuple hq;o⟨j,h1,h2,h3,h4,h5⟩:=atI_get he;o⟨w,ew,rw'⟩:=r.get h2;h hl:=r.length;h hn:=line63;h fin:EP X pins σ Q w s:=⟨z,H,I,rw',q⟩;!subscriptTail_builtinR (x:=w) pl.typeIs slot_tuple_getitem.lookup
  (getItem_tuple (j:=j) (Q:=fun r s'=>r=w/\EP X pins σ Q r s') pl ¢ ¢ (by rw[List.size_toArray,<- hl]; !h1) (by simpa using ew) ⟨rfl,fin⟩) hs
theorem QB(lo hi:Option Int)(n:Nat):(sliceBounds lo hi none n).1=((HT.sIx n 0 lo:Nat):Int)/\(sliceBounds lo hi none n).2.1=((HT.sIx n n hi:Nat):Int)/\(sliceBounds lo hi none n).2.2=1:=by
 r⟨?_,?_,rfl⟩
 ·cases lo with
  | none=>simp[sliceBounds,HT.sIx]
  | some i =>
   simp only[sliceBounds,HT.sIx,Option.getD_none,show (1:Int)>0 by decide,if_true];by_cases h:i<0
   ·simp only[h,if_true]<;>w
   ·simp only[h,if_false]<;>w
 ·cases hi with
  | none=>simp[sliceBounds,HT.sIx]
  | some i =>
   simp only[sliceBounds,HT.sIx,Option.getD_none,show (1:Int)>0 by decide,if_true];by_cases h:i<0
   ·simp only[h,if_true]<;>w
   ·simp only[h,if_false]<;>w
theorem MN(its:List Value)(lo hi:Option Int):slicePick its.toArray lo hi none=((its.drop (HT.sIx its.length 0 lo)).take (HT.sIx its.length its.length hi-HT.sIx its.length 0 lo)).toArray:=by
 o⟨h1,h2,h3⟩:=QB lo hi its.toArray.size;unfold slicePick;rw[h1,h2,h3];simp only[sliceRange_one,pick_run,List.size_toArray]<;>rfl
def rSlL(K:¨):V->Option Int->Option Int->Hp->VK->Prop:=fun x lo hi H Q=>∃ a xs,x=.ref a/\SqL K H a xs/\∀ p,H p=none->Q (.ref p) (upd H p (.lst (cutV xs lo hi)))
theorem KH:SlR X (rSlL X.K):=by
 intro pins s σ H x v vl vu lo hi sl Q I rx hs pl pu h;o⟨a,xs,rfl,hx,q⟩:=h;cases rx;o⟨its,r,ht,hz⟩:=I.list hx;h hlen:=r.length;r⟨"list",_,slot_list_getitem.lookup,ht.isList.typeIs,?_⟩;r wpAny_getItem_list_slice ht.isList hs pl pu .none ¥ ?_ (by rw[List.size_toArray]<;>w);rw[MN,<- hlen];r⟨.ref ¸,_,I.laid (t':=s.toks) (o:=.lst (cutV xs lo hi)) (fun b ob q=>° _ q) ③ ?_,rfl,q _ (I.hok.fresh ③)⟩;!⟨Nat.le_trans (Ji xs lo hi) hz,_,0,(r.drop (HT.sIx xs.length 0 lo)).take (HT.sIx xs.length xs.length hi-HT.sIx xs.length 0 lo),¿ _ rfl⟩
def flatV:V->Bool
 | .non=>true
 | .bl _=>true
 | .int _=>true
 | .str _=>true
 | _=>false
def eqV:V->V->Bool
 | .non,.non=>true
 | .bl a,.bl b=>a==b
 | .bl a,.int b=>(if a then 1 else 0)==b
 | .int a,.bl b=>a==(if b then 1 else 0)
 | .int a,.int b=>a==b
 | .str a,.str b=>a==b
 | _,_=>false
theorem AEb{A:Around}{s:Shared}{y x:V}{u v:Value}(ry:RelV y u)(rx:RelV x v)(fy:flatV y=true)(fx:flatV x=true):SeqAt.EqAt A s u v (eqV y x):=by
 cases y with
 | non =>
  cases ry;cases x with
  | non=>cases rx; !SeqAt.EqAt.same _
  | bl b=>cases rx; !SeqAt.EqAt.none_bool b
  | int b=>o⟨t,rfl⟩:=rx; !SeqAt.EqAt.none_int b t
  | str b=>o⟨t,rfl⟩:=rx; !SeqAt.EqAt.none_str b t
  | _=>!absurd (show false=true from fx) Bool.false_ne_true
 | bl a =>
  cases ry;cases x with
  | non=>cases rx; !SeqAt.EqAt.bool_none a
  | bl b=>cases rx; !SeqAt.EqAt.bool_bool a b
  | int b=>o⟨t,rfl⟩:=rx; !SeqAt.EqAt.bool_int a b t
  | str b=>o⟨t,rfl⟩:=rx; !SeqAt.EqAt.bool_str a b t
  | _=>!absurd (show false=true from fx) Bool.false_ne_true
 | int a =>
  o⟨t',rfl⟩:=ry;cases x with
  | non=>cases rx; !SeqAt.EqAt.int_none a t'
  | bl b=>cases rx; !SeqAt.EqAt.int_bool a t' b
  | int b=>o⟨t,rfl⟩:=rx; !SeqAt.EqAt.int_int a t' b t
  | str b=>o⟨t,rfl⟩:=rx; !SeqAt.EqAt.int_str a t' b t
  | _=>!absurd (show false=true from fx) Bool.false_ne_true
 | str a =>
  o⟨t',rfl⟩:=ry;cases x with
  | non=>cases rx; !SeqAt.EqAt.str_none a t'
  | bl b=>cases rx; !SeqAt.EqAt.str_bool a t' b
  | int b=>o⟨t,rfl⟩:=rx; !SeqAt.EqAt.str_int a t' b t
  | str b=>o⟨t,rfl⟩:=rx; !SeqAt.EqAt.str_str a t' b t
  | _=>!absurd (show false=true from fx) Bool.false_ne_true
 | _=>!absurd (show false=true from fy) Bool.false_ne_true
def eqU(x:V)(u:Value):Bool:=match u with
 | .none=>eqV .non x
 | .bool b=>eqV (.bl b) x
 | .int i _=>eqV (.int i) x
 | .str z _=>eqV (.str z) x
 | _=>false
theorem AAp{x y:V}{u:Value}(r:RelV y u)(f:flatV y=true):eqU x u=eqV y x:=by
 cases y with
 | non=>cases r; rfl
 | bl b=>cases r; rfl
 | int i=>o⟨t,rfl⟩:=r; rfl
 | str z=>o⟨t,rfl⟩:=r; rfl
 | _=>!absurd (show false=true from f) Bool.false_ne_true
theorem Im{x:V}:∀{xs:List V}{us:List Value},Vals xs us->xs.all flatV=true->us.any (eqU x)=xs.any fun y=>eqV y x
 | _,_,.nil,_=>rfl
 | y::xs,u::us,.cons r t,f=>by
  rw[List.all_cons,Bool.and_eq_true] at f;rw[List.any_cons,List.any_cons,AAp r f.1,Im t f.2]
theorem Gf{A:Around}{s:Shared}{x:V}{v:Value}(rx:RelV x v)(fx:flatV x=true):∀{xs:List V}{us:List Value},Vals xs us->xs.all flatV=true->∀ u∈us,SeqAt.EqAt A s u v (eqU x u)
 | _,_,.nil,_=>fun u hu=>by cases hu
 | y::xs,u::us,.cons r t,f=>fun u' hu=>by
  rw[List.all_cons,Bool.and_eq_true] at f;rcases List.mem_cons.mp hu with rfl | hu
  ·rw[AAp r f.1]; !AEb r rx f.1 fx
  ·!Gf rx fx t f.2 u' hu
def inV(x:V)(xs:List V):Bool:=xs.any fun y=>eqV y x
def rIn(K:¨)(neg:Bool):R2:=fun x y H Q=>∃ p xs,y=.ref p/\(SqL K H p xs\/SqT K H p xs)/\flatV x=true/\xs.all flatV=true/\Q (.bl (if neg then !inV x xs else inV x xs)) H
theorem Oa:OpR X (compareOp .In) (rIn X.K false):=by
 intro pins s σ H x y v u Q I rx ry h;o⟨p,xs,rfl,hq,fx,fs,q⟩:=h;cases ry;rcases hq with hq | hq
 ·o⟨its,r,pl,hz⟩:=I.list hq
  r SeqAt.in_listAt (eqU x) pl.isList (fun w hw=>Gf rx fx r fs w (by simpa using hw)) ⟨.bl _,H,I,rfl,?_⟩;rw[show its.toArray.any (eqU x)=its.any (eqU x) by simp,Im r fs];!q
 ·o⟨its,r,pl,hz⟩:=I.tuple hq
  r SeqAt.in_tupleAt (eqU x) pl (fun w hw=>Gf rx fx r fs w (by simpa using hw)) ⟨.bl _,H,I,rfl,?_⟩;rw[show its.toArray.any (eqU x)=its.any (eqU x) by simp,Im r fs];!q
theorem Qg:OpR X (compareOp .NotIn) (rIn X.K true):=by
 intro pins s σ H x y v u Q I rx ry h;o⟨p,xs,rfl,hq,fx,fs,q⟩:=h;cases ry;rcases hq with hq | hq
 ·o⟨its,r,pl,hz⟩:=I.list hq
  r SeqAt.notIn_listAt (eqU x) pl.isList (fun w hw=>Gf rx fx r fs w (by simpa using hw)) ⟨.bl _,H,I,rfl,?_⟩;rw[show its.toArray.any (eqU x)=its.any (eqU x) by simp,Im r fs];!q
 ·o⟨its,r,pl,hz⟩:=I.tuple hq
  r SeqAt.notIn_tupleAt (eqU x) pl (fun w hw=>Gf rx fx r fs w (by simpa using hw)) ⟨.bl _,H,I,rfl,?_⟩;rw[show its.toArray.any (eqU x)=its.any (eqU x) by simp,Im r fs];!q
theorem BZ:CallR X (.builtin "len") (fun xs H Q=>∃ p ys,xs=[.ref p]/\(SqL X.K H p ys\/SqT X.K H p ys)/\Q (.int ys.length) H):=by
 intro pins s σ H xs us Q I r h;o⟨p,ys,rfl,hq,q⟩:=h;o⟨u,rfl,rx⟩:=vals1 r;cases rx;h hn:=line63;rcases hq with hq | hq
 ·o⟨its,r',pl,hz⟩:=I.list hq
  h hlen:=r'.length;!Calls.call_len_list pl.isList (by simp only[List.size_toArray]<;>w) ⟨.int ys.length,H,I.tok _,⟨s.toks+1,by rw[List.size_toArray,hlen]⟩,q⟩
 ·o⟨its,r',pl,hz⟩:=I.tuple hq
  h hlen:=r'.length;!len_tuple pl (by simp only[List.size_toArray]<;>w) ⟨.int ys.length,H,I.tok _,⟨s.toks+1,by rw[List.size_toArray,hlen]⟩,q⟩
theorem Fl:CallR X (.type "list") (fun xs H Q=>∃ p ys,xs=[.ref p]/\(SqL X.K H p ys\/SqT X.K H p ys)/\∀ l,H l=none->Q (.ref l) (upd H l (.lst ys))):=by
 intro pins s σ H xs us Q I r h;o⟨p,ys,rfl,hq,q⟩:=h;o⟨u,rfl,rx⟩:=vals1 r;cases rx;h fin:∀(its:List Value),Vals ys its->ys.length<=sizeLine->∀(h':Heap) (c':Nat),(∀ b o',s.heap.get? b=some o'->h'.get? b=some o') ->
   h'.get? ¸=some {cls:=.type "list",dict:=none,data:=.seq its.toArray c',slots:=#[]}->EP X pins σ Q (.ref ¸) {s with heap:=h'}:=fun its r' hz h' c' kp e =>
  ⟨.ref ¸,_,I.laid (t':=s.toks) kp ③ (show ObjOk X.prog X.w _ h' _ (.lst ys) from⟨hz,its,c',r',e⟩),rfl,q _ (I.hok.fresh ③)⟩
 rcases hq with hq | hq
 ·o⟨its,r',pl,hz⟩:=I.list hq
  h hlen:=r'.length;o⟨o,ho,hc,n,hd⟩:=pl.isList;!call_list_seq p (.inl rfl) ho hc hd (fun h' c' kp e=>fin its r' hz h' c' kp e) (by simp only[List.size_toArray]<;>w)
 ·o⟨its,r',pl,hz⟩:=I.tuple hq
  h hlen:=r'.length;o⟨o,ho,hc,n,hd⟩:=pl;!call_list_seq p (.inr rfl) ho hc hd (fun h' c' kp e=>fin its r' hz h' c' kp e) (by simp only[List.size_toArray]<;>w)
theorem Ce:CallR X (.type "tuple") (fun xs H Q=>∃ p ys,xs=[.ref p]/\((SqL X.K H p ys/\∀ l,H l=none->Q (.ref l) (upd H l (.tup ys)))\/(SqT X.K H p ys/\Q (.ref p) H))):=by
 intro pins s σ H xs us Q I r h;o⟨p,ys,rfl,h⟩:=h;o⟨u,rfl,rx⟩:=vals1 r;cases rx;rcases h with⟨hq,q⟩ | ⟨hq,q⟩
 ·o⟨its,r',pl,hz⟩:=I.list hq
  h hlen:=r'.length;r call_tuple_list pl.isList (fun h' kp=>?_) (by simp only[List.size_toArray]<;>w);h I1:Inv X pins σ H {s with heap:=h'}:=I.kept (t':=s.toks) kp;h I2:Inv X pins σ (upd H h'.objs.size (.tup ys)) {s with heap:=h'.push {cls:=.type "tuple",data:=.seq its.toArray}} :=
   I1.laid (t':=s.toks) (fun b o e=>° _ e) ③ (show ObjOk X.prog X.w _ _ _ (.tup ys) from⟨hz,its,r',IsTup.new _ _⟩)
  !⟨.ref h'.objs.size,_,I2,rfl,q _ (I1.hok.fresh ③)⟩
 ·o⟨its,r',pl,hz⟩:=I.tuple hq
  !call_tuple_same pl ⟨.ref p,H,I,rfl,q⟩
def tyV(K:¨)(T:String)(x:V)(H:Hp):Prop:=match x with
 | .str _=>T = "str"
 | .int _=>T = "int"
 | .ref p=>(T = "list"/\∃ xs,SqL K H p xs)\/(T = "tuple"/\∃ o,K.lookup p=some o/\o.cls=.type "tuple"/\o.dict=none) \/
   (T = "dict"/\((∃ kvs,H p=some (.dK kvs))\/∃ kvs,H p=some (.dT kvs)))\/(T = "set"/\∃ S n,H p=some (.set S n))
 | _=>False
theorem ADy{pins:List ⑤}{σ:St}{H:Hp}{s:Shared}{T:String}{x:V}{v:Value}(I:Inv X pins σ H s)(r:RelV x v)(ty:tyV X.K T x H) :
  s.TypeIs v T/\∀ a,v=.ref a->∃ ob,s.heap.get? a=some ob/\ob.dict=none:=by
 cases x with
 | str z =>
  o⟨t,rfl⟩:=r;cases (show T = "str" from ty);!⟨typeIs_str s z t,fun _ e=>nomatch e⟩
 | int i =>
  o⟨t,rfl⟩:=r;cases (show T = "int" from ty);!⟨typeIs_int s i t,fun _ e=>nomatch e⟩
 | ref p =>
  cases r;rcases ty with⟨rfl,xs,hq⟩ | ⟨rfl,o,hk,hc,hd⟩ | ⟨rfl,hk⟩ | ⟨rfl,S,n,hk⟩
  ·o⟨its,_,pl,_⟩:=I.list hq
   r⟨pl.isList.typeIs,fun a e=>?_⟩;cases e;o⟨o,n,e,c,hd,_⟩:=pl;!⟨o,e,hd⟩
  ·r⟨⟨o,I.kIn p o hk,hc⟩,fun a e=>?_⟩
   cases e;!⟨o,I.kIn _ o hk,hd⟩
  ·h z:∃ o,s.heap.get? p=some o/\o.ExactDict:=by
    rcases hk with⟨kvs,hk⟩ | ⟨kvs,hk⟩
    ·o⟨_,_,_,_,o,_,_,e,ex,_⟩:=I.hok p _ hk
     !⟨o,e,ex⟩
    ·o⟨_,_,_,_,o,_,_,e,ex,_⟩:=I.hok p _ hk
     !⟨o,e,ex⟩
   o⟨o,e,ex⟩:=z;r⟨⟨o,e,ex.1⟩,fun a e2=>?_⟩;cases e2;!⟨o,e,ex.2.1⟩
  ·o⟨o,_,_,_,e,ex,_⟩:=I.hok p _ hk
   r⟨⟨o,e,ex.1⟩,fun a e2=>?_⟩;cases e2;!⟨o,e,ex.2.1⟩
 | _=>!False.elim ty
def tBM(K:¨)(T:String)(r:V->List V->Hp->VK->Prop)(to:TE)(t:TA):TE:=fun σ H Q=>to σ H fun x H1=>tyV K T x H1/\t σ H1 fun xs H2=>r x xs H2 Q
variable{o e:Expr}{es:List Expr}{to:TE}{t:TA}{name:Str}{apos cpos:Pos}{T id:String}{r:V->List V->Hp->VK->Prop}
theorem Od(pa:PlainAttrs T)(slot:Slot T name id)(hty:typeOf (.builtin id)=pure (.type "method_descriptor"))(hm:MtR X id r)(ho:PE X o to)(ha:PA X (e::es) t)
  (hbase:attributeBase o name X.env (eval o X.env)=eval o X.env:=by rfl)
  (hfew:((backTo cpos (starEach (e::es) X.env)).all (fun x=>!x.1)&&(backToKw cpos (keywordEach [] X.env)).all (fun x=>x.1.isSome)
   && decide ((e::es).length+([]:List Keyword).length+(if ([]:List Keyword).isEmpty then 0 else 1)<30))=true:=by rfl)
  (hline:(apos.endLine==cpos.line)=true:=by rfl) (hs:starEach (e::es) X.env=(false,eval e X.env)::starEach es X.env:=by rfl) (hplain:(backTo cpos (starEach es X.env)).any (·.1)=false:=by rfl) :
  PE X (.Call (.Attribute o name apos) (e::es) [] cpos) (tBM X.K T r to t):=by
 intro pins s σ H Q I h;r wpAny_Call_method_late hbase hfew hline rfl (thn (ho pins s σ H _ I h) fun v s1 ⟨x,H1,I1,r1,ty,q1⟩=>?_);o⟨h1,h2⟩:=ADy I1 r1 ty;r⟨T,id,pa,slot,hty,h1,h2,?_⟩;h hA:=ha cpos pins s1 σ H1 _ I1 q1;rw[hs] at hA ⊢;r Calls.callWith_builtin (by show (false||(backTo cpos (starEach es X.env)).any (·.1))=false; rw[hplain]<;>rfl) (Calls.evalArgs_plain ?_);!thn hA fun us s2 ⟨vs,H2,I2,r2,q2⟩=>hm pins s2 σ H2 x vs v us Q I2 r1 r2 q2
end
def MtM(X:Cx)(id:String)(r:V->List V->Hp->VK->Prop):Prop :=
 ∀(pins:List ⑤) (s:Shared) (σ:St) (H:Hp) (x:V) (xs:List V) (v:Value) (us:List Value) (Q:VK),Inv X pins σ H s->RelV x v->Vals xs us->r x xs H Q ->
  wpAny ② X.A (call (.builtin id) (v::us)) (EP X pins σ Q) X.xe s
theorem Vals.one:∀{x:V}{us:List Value},Vals [x] us->∃ u,us=[u]/\RelV x u
 | _,_,.cons r .nil=>⟨_,rfl,r⟩
theorem Vals.two:∀{x y:V}{us:List Value},Vals [x,y] us->∃ u v,us=[u,v]/\RelV x u/\RelV y v
 | _,_,_,.cons r (.cons q .nil)=>⟨_,_,rfl,r,q⟩
theorem Vals.rep{xs:List V}{us:List Value}(h:Vals xs us):∀ k:Nat,Vals (List.replicate k xs).flatten (List.replicate k us).flatten
 | 0=>.nil
 | k+1=>by
  rw[List.replicate_succ,List.replicate_succ,List.flatten_cons,List.flatten_cons];!Vals.append h (Vals.rep h k)
theorem foldl_rep(its:List Value):∀(k:Nat) (acc:List Value),
  List.foldl (fun x1 x2=>x1++x2) acc.toArray (List.replicate k its.toArray)=(acc++(List.replicate k its).flatten).toArray
 | 0,acc=>by simp
 | k+1,acc=>by
  h e:acc.toArray++its.toArray=(acc++its).toArray:=by simp
  h e2:(acc++its)++(List.replicate k its).flatten=acc++(List.replicate (k+1) its).flatten:=by
   rw[List.replicate_succ,List.flatten_cons,List.append_assoc]
  rw[<- e2,<- foldl_rep its k (acc++its),<- e,List.replicate_succ,List.foldl_cons]
section
variable{X:Cx}{pins:List ⑤}{σ:St}{H:Hp}{s:Shared}{l b:Addr}{xs ys zs:List V}
theorem Inv.lset{its its':List Value}{n:Nat}{f:Array Value->Array Value}{t':Nat}(I:Inv X pins σ H s)(hH:H l=some (.lst xs))
  (e:s.heap.get? l=some {cls:=.type "list",data:=.seq its.toArray n}) (hf:f its.toArray=its'.toArray) (hv:Vals ys its') (hz:ys.length<=sizeLine) :
  Inv X pins σ (upd H l (.lst ys)) {s with heap:=s.heap.update l (Obj.mapSeq f),toks:=t'}:=by
 h q:=PySem.IsL.update e f;rw[hf] at q;r I.write (x:=l) (e:=l) (by rw[hH]; !trivial) (.inl rfl) (fun b' u hb hu=>(Heap.get?_update_other s.heap (Obj.mapSeq f) (Ne.symm hb)).trans hu) ⟨_,q⟩ ?_;!⟨hz,its',_,hv,q⟩
theorem Inv.lnew{its:List Value}{t':Nat}(I:Inv X pins σ H s)(hv:Vals ys its)(hz:ys.length<=sizeLine) :
  Inv X pins σ (upd H ¸ (.lst ys)) {s with heap:=s.heap.push {cls:=.type "list",data:=.seq its.toArray},toks:=t'} :=
 I.laid (fun _ _ q=>° _ q) ③ ⟨hz,its,0,hv,¿ _ rfl⟩
theorem Inv.fresh(I:Inv X pins σ H s):H ¸=none:=I.hok.fresh ③
theorem Inv.lstM(I:Inv X pins σ H s)(hH:H l=some (.lst xs)):xs.length<=sizeLine/\∃(its:List Value) (n:Nat),Vals xs its/\xs.length=its.length/\s.heap.get? l=some {cls:=.type "list",data:=.seq its.toArray n}:=by
 o⟨z,its,n,r,e⟩:=I.hok l _ hH;!⟨z,its,n,r,r.length,e⟩
theorem ABG{n:Nat}(h:n<=sizeLine):Builtin.List.listTooLong n=false:=by
 unfold Builtin.List.listTooLong;!decide_eq_false ¢
end
section
variable{X:Cx}
def ABq:V->List V->Hp->VK->Prop:=fun x vs H Q=>∃ l xs y,x=.ref l/\vs=[y]/\H l=some (.lst xs)/\xs.length<sizeLine/\Q .non (upd H l (.lst (xs++[y])))
theorem Cy:MtM X "list.append" ABq:=by
 intro pins s σ H x vs v us Q I rx rv h;o⟨l,xs,y,rfl,rfl,hH,hz,q⟩:=h;cases rx;o⟨u,rfl,ru⟩:=rv.one;o⟨z,its,n,r,hl,e⟩:=I.lstM hH;r call_meets F.slot_list_append ⟨_,e,rfl⟩ F.entry_list_append (F.args_list_append_2 _ _) (PySem.list_append l its.toArray n u (by rw[List.size_toArray]; w)) ⟨e,?_⟩;r⟨.non,_,I.lset (its':=its++[u]) hH e ¥ (r.append (.cons ru .nil)) ?_,rfl,q⟩;rw[List.length_append,List.length_singleton];w
def rCat:R2:=fun x y H Q=>∃ l b xs zs,x=.ref l/\y=.ref b/\H l=some (.lst xs)/\H b=some (.lst zs)/\xs.length+zs.length<=sizeLine/\∀ p,H p=none->Q (.ref p) (upd H p (.lst (xs++zs)))
theorem Ul:OpR X (binaryOp .Add) rCat:=by
 intro pins s σ H x y v u Q I rx ry h;o⟨l,b,xs,zs,rfl,rfl,hH,hB,hz,q⟩:=h;cases rx;cases ry;o⟨z,its,n,r,hl,e⟩:=I.lstM hH;o⟨z2,its2,n2,r2,hl2,e2⟩:=I.lstM hB;r PySem.P.add_list e e2 ?_ (by rw[List.size_toArray,List.size_toArray]; w);h ea:its.toArray++its2.toArray=(its++its2).toArray:=by simp
 rw[ea];!⟨.ref _,_,I.lnew (t':=s.toks) (r.append r2) (by rw[List.length_append]; w),rfl,q _ I.fresh⟩
def rRep:R2:=fun x y H Q=>∃ l k xs,x=.ref l/\y=.int k/\H l=some (.lst xs)/\-(2 ^ 63)<=k/\k<2 ^ 63/\xs.length*k.toNat<=sizeLine /\
 ∀ p,H p=none->Q (.ref p) (upd H p (.lst (List.replicate k.toNat xs).flatten))
theorem len_rep{α:Type}(xs:List α)(k:Nat):(List.replicate k xs).flatten.length=k*xs.length:=by
 induction k with
 | zero=>simp
 | succ k ih=>rw[List.replicate_succ,List.flatten_cons,List.length_append,ih,Nat.succ_mul,Nat.add_comm]
theorem ADW:OpR X (binaryOp .Mult) rRep:=by
 intro pins s σ H x y v u Q I rx ry h;o⟨l,k,xs,rfl,rfl,hH,h1,h2,hz,q⟩:=h;cases rx;o⟨t,rfl⟩:=ry;o⟨z,its,n,r,hl,e⟩:=I.lstM hH;h hlen:its.toArray.size*k.toNat<=sizeLine:=by rw[List.size_toArray,<- hl]; !hz
 h hcap:¬ its.toArray.size*k.toNat>(2 ^ 63-1) / 8:=by
  have:(sizeLine:Nat)<=(2 ^ 63-1) / 8:=by decide
  w
 h hfit:¬ (!Builtin.List.listFitsIndex k)=true:=by
  rw[fitsIndex_both h1 h2];!Bool.false_ne_true
 h hlong:¬ Builtin.List.listTooLong (its.toArray.size*k.toNat)=true:=by
  rw[ABG hlen];!Bool.false_ne_true
 h hnew:List.foldl (fun x1 x2=>x1++x2) #[] (List.replicate (if its.toArray.isEmpty=true then 0 else k.toNat) its.toArray)=(List.replicate k.toNat its).flatten.toArray:=by
  h f0:∀ m:Nat,List.foldl (fun x1 x2=>x1++x2) #[] (List.replicate m its.toArray)=(List.replicate m its).flatten.toArray:=fun m=>by
   have:=foldl_rep its m [];rw[List.nil_append] at this;!this
  rw[f0];cases its with
  | nil=>simp
  | cons a r'=>rw[if_neg ¥]
 r wpAny_binaryOp_repeat_ref (T:="list") (U:="int") ¤ ⟨_,e,rfl⟩ (fun s'=>typeIs_int s' k t) noFill_list_mul F.fills_int_mul F.slot_int_rmul repeat_list F.slot_int_index.lookup
  (call_meets F.slot_int_rmul (typeIs_int s k t) F.entry_int_rmul (F.args_int_rmul_2 _ _) (int___rmul___int_list k t l its.toArray n)
   ⟨e,rfl,⟨_,e,rfl⟩,call_meets F.slot_list_mul ⟨_,e,rfl⟩ F.entry_list_mul (F.args_list_mul_2 _ _) (AutoListH.list___mul___list_int_3 l its.toArray n k t hfit hcap hlong) ⟨e,?_⟩⟩)
 rw[hnew];!⟨.ref _,_,I.lnew (t':=s.toks) (r.rep k.toNat) (by rw[len_rep,Nat.mul_comm]; !hz),rfl,q _ I.fresh⟩
end
end L2
namespace Att
open PySem PySem.W PySem.Calls PyProof.Rows
theorem Jq{P:Params}{h:Heap}:∀(ns:List Int) (vs:List Value),WellAll P h vs (ns.map WData.int)->IntsAre vs ns:=by
 intro ns
 induction ns with
 | nil =>
  intro vs w;rw[List.map_nil] at w;cases w;!.nil
 | cons n ns ih =>
  intro vs w;rw[List.map_cons] at w;cases w with
  | cons a b =>
   cases a;!.cons _ _ (ih _ b)
theorem YL{l:OpenLaw}{n:Nat}(hn:l.most=some n){P:Params}{h:Heap}{args:List WData}{vals:List Value}
  (hpre:l.row.toRowW.claim.pre args=true) (hwl:WellAll P h vals args) :
  ∃ a vs ns,vals=[Value.ref a]/\args=[WData.list (ns.map WData.int)]/\h.get? a=some {cls:=.type "list",data:=.seq vs.toArray}/\IntsAre vs ns/\ns.length<=n:=by
 h hsh:WShape.hasAll [] args [.list .int]=true:=(pre_splitW hpre).1;h hc:l.pre.holds [] {args:=args}=true:=(pre_splitW hpre).2;o⟨d,r,rfl,h1,h2⟩:=hasAllW_cons hsh;obtain rfl:=hasAllW_nil h2;o⟨xs,rfl,h3⟩:=hasW_list h1;o⟨ns,rfl⟩:=items_int h3;h hlen:ns.length<=n:=by
  unfold OpenLaw.pre at hc;h h4:(WTm.not (.lt (.lit (.int (n:Int))) (.len (.arg 0)))).holds [] {args:=[.list (ns.map .int)]}=true:=by
   h h4:=(holds_andW hc).1;rw[hn] at h4;!h4
  h h5:=condW_of h4 (w_not (w_lt w_lit (w_len_list (w_arg rfl))));rw[List.length_map] at h5;r Nat.le_of_not_lt fun q=>?_;h q':(n:Int)<((ns.length:Nat):Int):=by w
  first
   | (rw[decide_eq_true q'] at h5; !absurd h5 ¤)
   | (simp at h5; w)
 cases hwl with
 | cons w1 w2 =>
  cases w2;cases w1 with
  | list ho hall=>!⟨_,_,ns,rfl,rfl,ho,Jq ns _ hall,hlen⟩
theorem YZ(l:OpenLaw)(args:List WData):l.row.toRowW.claim.post args (.bool true) args=true :=
 postW_of (r:=l.row.toRowW) (X:=(true==true))
  (show WShape.has [] (.bool true) .bool=true by first | rfl | decide | simp[WShape.has,WShape.arms,WShape.armsAll])
  (show (WTm.eq .res (.lit (.bool true))).value [] {args:=args,res:=some (.bool true),after:=args}=some (.bool (true==true)) from w_eq_bool (w_res rfl) w_lit) rfl
theorem Ry{l:OpenLaw}{n:Nat}{q:Program}{loose:List Str}{XP:(Str->Option Value)->Heap->Prop}{YP:World->Heap->Prop}{d:DefRec}
  (hn:l.most=some n) (hdf:d.params.defaults=[])
  (call:∀(w:World) (s₀ s₁:Shared) (mg mb:Str->Option Value) (fa:Addr) (o:Obj) (pm cd doc:Value) (a:Addr) (vs:List Value) (ns:List Int),
   Ground q loose [] XP w s₀ mg mb s₁.heap->YP w s₁.heap ->
   s₁.heap.get? fa=some o->o.data=.func (docDef d.name d.params d.body d.scope pm cd doc)->s₁.heap.CodeRec cd d.name->mg d.name=some (.ref fa) ->
   s₁.heap.get? a=some {cls:=.type "list",data:=.seq vs.toArray}->IntsAre vs ns->ns.length<=n->s₁.gens=#[] ->
   codeAny (model l.prog w) callerA (.call (.ref fa) ⟨[.ref a],[]⟩) (fun r s'=>r=.ok (.ret (.bool true))/\OldK s₁.heap s'.heap/\s'.os=s₁.os/\AllBare s'.gens) s₁) :
  WalkO q loose XP YP l.row.toRowW d [] (fun f vs=>PySem.call f vs):=by
 intro w s₀ s₁ mg mb G Y fa o pm cd doc dV kV ho hd hcd hD hmg hg args vals as hpre hlay hrd hwl hlo;obtain rfl:dV=.none:=Dflts.none hD hdf;obtain rfl:kV=.none:=Dflts.noKw hD;o⟨a,vs,ns,rfl,rfl,hobj,hints,hlen⟩:=YL hn hpre hwl;r enter_call (codeAny_mono (call w s₀ s₁ mg mb fa o pm cd doc a vs ns G Y ho (fd_plain hd) hcd hmg hobj hints hlen hg) fun r s' hq=>?_);o⟨rfl,h2,h3,h4⟩:=hq;!⟨.inl ⟨.bool true,.bool true,[],rfl,fun _=>rfl,.bool true,YZ l _,fun _=>⟨List.Pairwise.nil,fun _ hm=>(nomatch hm)⟩⟩,h2,h3,h4⟩
end Att
namespace L2
open PySem PySem.Spec PyProof.Rows
theorem Oo:∀{vs:List Value}{ns:List Int},IntsAre vs ns->Vals ⑭ vs
 | _,_,.nil=>.nil
 | _,_,.cons n t h=>.cons ⟨t,rfl⟩ (Oo h)
def Only(H:Hp):Prop:=∀ b,H b=none\/∃ o xs,H b=some (.frz o (.lst xs))
theorem AAg{P:Program}{w:World}{K:¨}{mg mb:Str->Option Value}{CX:CXT}{k:Nat}{fa a:Addr}{fd:FuncData}{x:Str}{sp:Sp}{s₁:Shared}{vs:List Value}{ns:List Int}
  (KX:K.In s₁.heap) (hns:s₁.heap.Ns mainGlobals mg) (hb:s₁.heap.Ns builtinsNs mb) (hbb:∀ x:Str,x≠"__name__"->mb x=bootBuiltins x) (hlim:s₁.heap.NoLimit) (hg:s₁.gens=#[])
  (ha:s₁.heap.get? a=some {cls:=.type "list",data:=.seq vs.toArray}) (hi:IntsAre vs ns) (hl:ns.length<=sizeLine) (hr:Room k callerA)
  (F:∀ base:Heap,K.In base->base.Ns mainGlobals mg->FnOk P w K mg base CX k fa fd [x] sp) (hbind:∀(s:Shared) (u:Value),BindsTo s fd ⟨[u],[]⟩ [(x,u)])
  (hsp:∀ H:Hp,Only H->SqL K H a ⑭->sp [.ref a] H (fun v _=>v=.bl true) fun _ _ _=>False)
  (hCX:∀ H e s',CX [] H s₁ (fun _ _ _=>False) e s'->False) :
  codeAny (model P w) callerA (.call (.ref fa) ⟨[.ref a],[]⟩) (fun r s'=>r=.ok (.ret (.bool true))/\OldK s₁.heap s'.heap/\s'.os=s₁.os/\AllBare s'.gens) s₁:=by
 h rv:=Oo hi;h lenV:=hi.length;h core:∀ H:Hp,Only H->SqL K H a ⑭->HOk P w H s₁.heap->(∀ b,H b≠none->b=a)->(H a≠none->K.lookup a=none) ->
   codeAny (model P w) callerA (.call (.ref fa) ⟨[.ref a],[]⟩) (fun r s'=>r=.ok (.ret (.bool true))/\OldK s₁.heap s'.heap/\s'.os=s₁.os/\AllBare s'.gens) s₁:=by
  intro H hO hS hok hA hK;h base_of:∀{b:Addr}{o:Obj},s₁.heap.get? b=some o->H b=none->(hidT s₁.heap H).get? b=some o:=fun e n=>AAi e n;h noA:∀{b:Addr}{o:Obj}{es:Array DictEntry}{ep:Nat},s₁.heap.get? b=some o->o.data=.dict es ep->H b=none:=fun {b o es ep} e d=>by
   cases q:H b with
   | none=>rfl
   | some u =>
    have e':b=a:=hA b (by rw[q]; simp);subst e';rw[ha] at e; cases e;have d':Data.seq vs.toArray _=Data.dict es ep:=d;cases d'
  h nsK:∀{b:Addr}{m:Str->Option Value},s₁.heap.Ns b m->(hidT s₁.heap H).Ns b m:=fun {b m} ⟨o,es,ep,e,d,r⟩=>⟨o,es,ep,base_of e (noA e d),d,r⟩;h hKb:K.In (hidT s₁.heap H):=fun b o e=>base_of (KX b o e) (by
   cases q:H b with
   | none=>rfl
   | some u =>
    have e':b=a:=hA b (by rw[q]; simp);subst e';rw[hK (by rw[q]; simp)] at e; cases e)
  h hM:Mod K mg (hidT s₁.heap H):=⟨hKb,nsK hns,⟨mb,nsK hb,hbb⟩,let ⟨mc,h1,h2⟩:=hlim; ⟨mc,nsK h1,h2⟩⟩;h e0:Env0 P w K mg (hidT s₁.heap H) callerA [] s₁ H:=⟨rfl,hM,fun b o e=>ABn e,Nat.le_of_eq (XH _ _),trivial,fun b hb=>absurd (show b∈([]:List Addr) from hb) ¥,hok,.of_eq hg⟩;r codeAny_mono ((F _ hKb (nsK hns)).run callerA [] s₁ H ⟨[.ref a],[]⟩ [.ref a] [.ref a] _ _ hr e0 (hbind s₁ (.ref a)) (.cons rfl .nil) (hsp H hO hS)) fun r s' h=>?_;cases r with
  | error e=>!(hCX H e s' h).elim
  | ok fl =>
   cases fl with
   | next=>!False.elim h
   | brk=>!False.elim h
   | cont=>!False.elim h
   | ret u =>
    o⟨v,H',os,bare,un,hok',r',q⟩:=h;h q':v=.bl true:=q;subst q';obtain rfl:u=Value.bool true:=r';r⟨rfl,OldK.of_keep fun b o e=>?_,os,bare⟩;cases q:H b with
    | none=>!un.keep b o e q (by intro z; !absurd (show b∈([]:List Addr) from z) ¥) ¥
    | some u =>
     rcases hO b with z | ⟨ob,xs,z⟩
     ·rw[q] at z; cases z
     ·h z2:=un.frzs b ob _ z
      o⟨e1,_⟩:=hok b _ z;o⟨e2,_⟩:=hok' b _ z2;rw[e] at e1; cases e1;!e2
 cases hk:K.lookup a with
 | some o =>
  have e:=KX a o hk;rw[ha] at e;cases e;r core (fun _=>none) (fun _=>.inl rfl) (.inr ⟨_,vs.toArray,_,hk,rfl,rfl,rfl,by rw[List.size_toArray,lenV]; !hl,by simpa using rv⟩) (fun b u z=>by have z':(none:Option HO)=some u:=z; cases z') (fun b z=>absurd rfl z) fun z=>absurd rfl z
 | none =>
  r core (fun b=>if b=a then some (.frz {cls:=.type "list",data:=.seq vs.toArray} (.lst ⑭)) else none) (fun b=>?_) (.inl (.inr ⟨{cls:=.type "list",data:=.seq vs.toArray},if_pos rfl⟩)) (fun b u z=>?_) (fun b z=>?_) fun _=>hk
  ·by_cases hb:b=a
   ·!.inr ⟨_,_,if_pos hb⟩
   ·!.inl (if_neg hb)
  ·by_cases hb:b=a
   ·h z':=(if_pos hb).symm.trans z
    cases z';subst hb;!⟨ha,by rw[List.length_map]; !hl,vs,_,rv,ha⟩
   ·h z':=(if_neg hb).symm.trans z
    cases z'
  ·by_cases hb:b=a
   ·!hb
   ·!absurd (if_neg hb) z
theorem ABs{l:PySem.W.OpenLaw}{n k:Nat}{q:Program}{loose:List Str}{XP:(Str->Option Value)->Heap->Prop}{YP:World->Heap->Prop}{d:DefRec}{K:Params->¨}{CX:World->CXT}{sp:World->Sp}{x:Str}
  (hn:l.most=some n) (hn2:n<=sizeLine) (hdf:d.params.defaults=[]) (hr:Room k callerA)
  (hY:∀(w:World) (h:Heap),YP w h->(K w.params).In h)
  (F:∀(w:World) (mg:Str->Option Value) (fa:Addr) (h:Heap),(K w.params).In h->h.Ns mainGlobals mg->mg d.name=some (.ref fa) ->
   ∃ fd:FuncData,(∀(s:Shared) (u:Value),BindsTo s fd ⟨[u],[]⟩ [(x,u)]) /\
    ∀ base:Heap,(K w.params).In base->base.Ns mainGlobals mg->FnOk l.prog w (K w.params) mg base (CX w) k fa fd [x] (sp w))
  (hsp:∀(w:World) (H:Hp) (a:Addr) (ns:List Int),ns.length<=n->Only H->SqL (K w.params) H a ⑭->sp w [.ref a] H (fun v _=>v=.bl true) fun _ _ _=>False)
  (hCX:∀(w:World) (H:Hp) (s:Shared) (e:Value) (s':Shared),CX w [] H s (fun _ _ _=>False) e s'->False) :
  PySem.W.WalkO q loose XP YP l.row.toRowW d [] (fun f vs=>PySem.call f vs):=by
 r Att.Ry hn hdf fun w s₀ s₁ mg mb fa o pm cd doc a vs ns G Y ho hd hcd hmg hobj hints hlen hg=>?_;h KX:=hY w _ Y;o⟨fd,hb,hF⟩:=F w mg fa _ KX G.T.g hmg;!AAg KX G.T.g G.T.b G.T.builtins G.T.nolimit hg hobj hints (Nat.le_trans hlen hn2) hr hF hb (fun H hO hS=>hsp w H a ns hlen hO hS) fun H e s'=>hCX w H s₁ e s'
def inClass(s:Stmt)(j:Nat):Stmt:=match s with
 | .ClassDef _ _ _ body _ _ _ _ _ _ _=>body.getD j (.Pass ⟨0,0,0,0⟩)
 | _=>.Pass ⟨0,0,0,0⟩
def Ao(s:Stmt):Arguments:=match s with
 | .FunctionDef _ a _ _ _ _ _ _ _ _=>a
 | _=>{posonlyargs:=[],args:=[],vararg:=none,kwonlyargs:=[],kw_defaults:=[],kwarg:=none,defaults:=[]}
def Ak(s:Stmt):List Stmt:=match s with
 | .FunctionDef _ _ b _ _ _ _ _ _ _=>b
 | _=>[]
def Ac(s:Stmt):Scope:=match s with
 | .FunctionDef _ _ _ _ _ _ sc _ _ _=>sc
 | _=>{kind:=.function,names:=[],isGenerator:=false,isCoroutine:=false}
abbrev CX0:CXT:=fun _ _ _ _ _ _=>False
abbrev E0:XK:=fun _ _ _=>False
theorem pass0{X:Cx}:Passes CX0 X E0:=fun _ _ _ _ _ _ _ h=>h.elim
structure Fun(K:¨)(x qual:Str)(st:Stmt)(f:Addr)(fd:FuncData):Prop where
 ex:∃(oc:Value) (od:Option Addr) (kV doc pm:Value) (an:Option Addr) (cdv ct:Value) (osl:Array ⑦),
  fd=PySem.W.fnOf x qual (Ao st) (Ak st) (Ac st) .none kV doc pm an cdv ct/\K.lookup f=some ⟨oc,od,.func fd,osl⟩/\PySem.W.codeIn K cdv qual=true
 kp:© K (.ref f)=true
section
variable{P:Program}{w:World}{K:¨}{mg:Str->Option Value}{base:Heap}
theorem Fun.ok{x qual:Str}{st:Stmt}{f:Addr}{fd:FuncData}{N ps:List Str}{k:Nat}{sp:Sp}(F:Fun K x qual st f fd)(S:FnScope N ps (Ac st))(len:∀ vs H Q E,sp vs H Q E->vs.length=ps.length)
  (hbody:∀(cdv:Value) (A:Around) (outer:List Env) (s:Shared) (H:Hp) (vs:List V) (Q:VK) (E:XK),Room k (A.deeper (envOfC qual (Ac st) ¸ f cdv))->sp vs H Q E ->
   ∃ t,PSs (cxOf CX0 P w K mg base N qual (Ac st) f cdv A outer s H E).nox (Ak st) t/\t {nx:=fun _ H'=>Q .non H',rt:=Q} (start N vs) H):FnOk P w K mg base CX0 (k+1) f fd ps sp:=by
 o⟨oc,od,kV,doc,pm,an,cdv,ct,osl,rfl,lk,hcd⟩:=F.ex;r ACw lk hcd S len fun A outer s H vs Q E hr hsp=>?_;o⟨t,h,q⟩:=hbody cdv A outer s H vs Q E hr hsp;!⟨t,h.nox,q⟩
theorem Fun.binds{x qual:Str}{st:Stmt}{f:Addr}{fd:FuncData}{ps:List Str}(F:Fun K x qual st f fd)
  (h:∀(kV doc pm:Value) (an:Option Addr) (cdv ct:Value) (us:List Value),us.length=ps.length->bindArgs (PySem.W.fnOf x qual (Ao st) (Ak st) (Ac st) .none kV doc pm an cdv ct) ⟨us,[]⟩=pure (ps.zip us)):Binds K fd ps []:=by
 o⟨oc,od,kV,doc,pm,an,cdv,ct,osl,rfl,lk,hcd⟩:=F.ex;!.all (h kV doc pm an cdv ct)
theorem BJ{x qual:Str}{st:Stmt}{f:Addr}{oc:Value}{od an:Option Addr}{osl:Array ⑦}{kV doc pm cdv ct:Value}(l:K.lookup f=some ⟨oc,od,.func (PySem.W.fnOf x qual (Ao st) (Ak st) (Ac st) .none kV doc pm an cdv ct),osl⟩)
  (c:PySem.W.codeIn K cdv qual=true) (k:© K (.ref f)=true):Fun K x qual st f (PySem.W.fnOf x qual (Ao st) (Ak st) (Ac st) .none kV doc pm an cdv ct):=⟨⟨oc,od,kV,doc,pm,an,cdv,ct,osl,rfl,l,c⟩,k⟩
end
theorem Ay{n:Nat}(h:n<=1000):n<sizeLine:=Nat.lt_of_le_of_lt h ¤
section
variable{X:Cx}
theorem pv(i:Nat){x:Str}{pos:Pos}(hN:X.N[i]?=some x:=by rfl)(hv:Vis X.env.scope x:=by first | !Or.inl rfl | !Or.inr ④ | !Or.inr (Or.inr rfl))(hd:(x==("__debug__" : Str))=false:=by decide)
  (hcd:(x==("__classdict__" : Str))=false:=by decide):PE X (.Name x pos) (AEh i):=AEU hN hv hd hcd
end
theorem iteF{A B:Prop}(h:B):if false=true then A else B:=by
 rw[if_neg Bool.false_ne_true];!h
theorem iteT{A B:Prop}(h:A):if true=true then A else B:=by
 rw[if_pos rfl];!h
theorem ite2{c A B:Prop}[Decidable c](h1:c->A)(h2:¬ c->B):if c then A else B:=by
 by_cases h:c
 ·rw[if_pos h]
  !h1 h
 ·rw[if_neg h]
  !h2 h
def Same(H H':Hp):Prop:=∀ b o,H b=some o->H' b=some o
theorem Same.refl(H:Hp):Same H H:=fun _ _ h=>h
theorem Same.trans{H H1 H2:Hp}(a:Same H H1)(b:Same H1 H2):Same H H2:=fun c o h=>b c o (a c o h)
theorem Same.free{H H':Hp}(e:Same H H'){l:Addr}(h:H' l=Option.none):H l=Option.none:=by
 cases q:H l with
 | none=>rfl
 | some o =>
  rw[e l o q] at h;cases h
theorem Same.seq{K:¨}{H H':Hp}{a:Addr}{xs:List V}(e:Same H H')(h:SqL K H a xs):SqL K H' a xs:=by
 rcases h with (h | ⟨o,h⟩) | h
 ·!.inl (.inl (e _ _ h))
 ·!.inl (.inr ⟨o,e _ _ h⟩)
 ·!.inr h
end L2
section
namespace L2
open PySem PySem.Spec PyProof.Rows
def cloOf(cells:List (Str×Addr)):List (Str×NameKind)->List (Str×Addr)->List (Str×Addr)
 | [],cs=>cs
 | (n,k)::r,cs=>cloOf cells r (if k == .free then match cells.lookup n with | some c=>(n,c)::cs | none=>cs else cs)
theorem Jc{cells:List (Str×Addr)}:∀{names:List (Str×NameKind)}{cs:List (Str×Addr)},(∀ x c,cs.lookup x=some c->cells.lookup x=some c)->∀ x c,(cloOf cells names cs).lookup x=some c->cells.lookup x=some c
 | [],_,h=>h
 | (n,k)::r,cs,h=>by
  unfold cloOf;r Jc (names:=r) ?_;intro x c e;by_cases hk:(k==NameKind.free)=true
  ·rw[if_pos hk] at e
   cases q:cells.lookup n with
   | none=>rw[q] at e; !h x c e
   | some d =>
    rw[q] at e;rw[List.lookup_cons] at e;cases hx:x==n with
    | true =>
     rw[hx] at e;h hxn:x=n:=eq_of_beq hx;subst hxn;rw[q]; !e
    | false=>rw[hx] at e; !h x c e
  ·rw[if_neg hk] at e; !h x c e
theorem cloOf_mono{cells:List (Str×Addr)}{x:Str}:∀{names:List (Str×NameKind)}{cs:List (Str×Addr)},(cs.lookup x).isSome=true->((cloOf cells names cs).lookup x).isSome=true
 | [],_,h=>h
 | (n,k)::r,cs,h=>by
  unfold cloOf;r cloOf_mono (names:=r) ?_;by_cases hk:(k==NameKind.free)=true
  ·rw[if_pos hk]
   cases q:cells.lookup n with
   | none=>!h
   | some d =>
    show (List.lookup x ((n,d)::cs)).isSome=true;rw[List.lookup_cons];cases hx:x==n with
    | true=>rfl
    | false=>!h
  ·rw[if_neg hk]; !h
theorem JK{cells:List (Str×Addr)}{x:Str}(hc:(cells.lookup x).isSome=true):∀{names:List (Str×NameKind)}{cs:List (Str×Addr)},(x,NameKind.free)∈names->((cloOf cells names cs).lookup x).isSome=true
 | [],_,h=>by cases h
 | (n,k)::r,cs,h=>by
  unfold cloOf;rcases List.mem_cons.mp h with e | h
  ·cases e
   r cloOf_mono ?_;rw[if_pos (show (NameKind.free==NameKind.free)=true from rfl)];o⟨d,q⟩:=Option.isSome_iff_exists.mp hc;rw[q];show (List.lookup x ((x,d)::cs)).isSome=true;rw[List.lookup_cons,beq_self_eq_true];rfl
  ·!JK hc h
theorem Tt{env:Env}:∀(names:List (Str×NameKind)) (cs:List (Str×Addr)),(∀ y∈names,y.2=.free->(env.cells.lookup y.1).isSome=true) ->
  (forIn names cs fun(x:Str×NameKind) (r:List (Str×Addr))=>match x with
   | (name,kind)=>if (kind == .free)=true then do let c <- cellOf env name; pure (ForInStep.yield ((name,c)::r)) else pure (ForInStep.yield r):Sem (List (Str×Addr)))=pure (cloOf env.cells names cs)
 | [],cs,_=>rfl
 | (n,k)::r,cs,h=>by
  h hr:∀ y∈r,y.2=.free->(env.cells.lookup y.1).isSome=true:=fun y hy=>h y (¶ _ hy);rw[List.forIn_cons];unfold cloOf;by_cases hk:(k==NameKind.free)=true
  ·h hf:k=.free:=by simpa using hk
   o⟨d,q⟩:=Option.isSome_iff_exists.mp (h (n,k) ´ hf);h q':env.cells.lookup n=some d:=q;h hcell:cellOf env n=pure d:=by unfold cellOf; rw[q']
   simp only[hk,if_true,hcell,pure_bind,q'];!Tt r _ hr
  ·simp only[hk,if_false,pure_bind,Bool.false_eq_true]
   !Tt r _ hr
theorem Ux{scope:Scope}{env:Env}(h:∀ y∈scope.names,y.2=.free->(env.cells.lookup y.1).isSome=true):closureFor scope env=pure (cloOf env.cells scope.names []):=by
 unfold closureFor;h e:=Tt (env:=env) scope.names [] h;simp only[bind_pure];!e
theorem Cq{env:Env}:∀{names:List (Str×NameKind)}{x:Str},names.lookup x=some .free ->
  (names.map fun(n,k)=>if (k==NameKind.free&&env.scope.kind == .function&&env.kindOf n==some .cell) then (n,NameKind.cell) else (n,k)).lookup x=some .cell \/
  (names.map fun(n,k)=>if (k==NameKind.free&&env.scope.kind == .function&&env.kindOf n==some .cell) then (n,NameKind.cell) else (n,k)).lookup x=some .free
 | [],_,h=>by simp at h
 | (n,k)::r,x,h=>by
  h ih:=@Cq env r x;rw[List.map_cons];show List.lookup x ((if (k==NameKind.free&&env.scope.kind == .function&&env.kindOf n==some .cell)=true then (n,NameKind.cell) else (n,k))::_)=_\/List.lookup x ((if (k==NameKind.free&&env.scope.kind == .function&&env.kindOf n==some .cell)=true then (n,NameKind.cell) else (n,k))::_)=_;cases hx:x==n with
  | true =>
   rw[List.lookup_cons,hx] at h;h hk:k=.free:=by simpa using h
   by_cases hc:(k==NameKind.free&&env.scope.kind == .function&&env.kindOf n==some .cell)=true
   ·rw[if_pos hc]; left; rw[List.lookup_cons,hx]
   ·rw[if_neg hc]; right; rw[List.lookup_cons,hx,hk]
  | false =>
   rw[List.lookup_cons,hx] at h;by_cases hc:(k==NameKind.free&&env.scope.kind == .function&&env.kindOf n==some .cell)=true
   ·rw[if_pos hc]; rw[List.lookup_cons,hx]; !ih h
   ·rw[if_neg hc]; rw[List.lookup_cons,hx]; !ih h
theorem Jp{env:Env}{x:Str}:∀{names:List (Str×NameKind)},(∀ y∈names,y.2≠.cell) ->
  (
   (names.map fun(n,k)=>if (k==NameKind.free&&env.scope.kind == .function&&env.kindOf n==some .cell) then (n,NameKind.cell) else (n,k)).lookup x=some .cell \/
   (names.map fun(n,k)=>if (k==NameKind.free&&env.scope.kind == .function&&env.kindOf n==some .cell) then (n,NameKind.cell) else (n,k)).lookup x=some .free)->(x,NameKind.free)∈names
 | [],_,h=>by simp at h
 | (n,k)::r,hc,h=>by
  h ih:=@Jp env x r fun y hy=>hc y (¶ _ hy);rw[List.map_cons] at h;h h':List.lookup x ((if (k==NameKind.free&&env.scope.kind == .function&&env.kindOf n==some .cell)=true then (n,NameKind.cell) else (n,k))::_)=_\/List.lookup x ((if (k==NameKind.free&&env.scope.kind == .function&&env.kindOf n==some .cell)=true then (n,NameKind.cell) else (n,k))::_)=_:=h;by_cases hb:(k==NameKind.free&&env.scope.kind == .function&&env.kindOf n==some .cell)=true
  ·rw[if_pos hb] at h'
   h hk:k=.free:=by simp at hb; !hb.1.1
   rw[List.lookup_cons] at h';cases hx:x==n with
   | true =>
    have:x=n:=eq_of_beq hx;subst this; subst hk;!´
   | false=>rw[hx] at h'; !¶ _ (ih h')
  ·rw[if_neg hb] at h'
   rw[List.lookup_cons] at h';cases hx:x==n with
   | true =>
    rw[hx] at h';have:x=n:=eq_of_beq hx;subst this;rcases h' with h' | h'
    ·!absurd (Option.some.inj h') (hc (x,k) ´)
    ·h hk:k=.free:=Option.some.inj h'
     subst hk;!´
   | false=>rw[hx] at h'; !¶ _ (ih h')
def compOk(osc sc:Scope):Bool :=
 (decide (sc.kind=.function))&&sc.names.all (fun y=>decide (y.2≠.cell))&&sc.names.all (fun y=>decide (y.2=.local->sc.names.lookup y.1=some .local)) &&
  sc.names.all (fun y=>decide (y.2=.free->osc.names.lookup y.1=some .cell\/osc.names.lookup y.1=some .free))
structure CompOk(osc sc:Scope):Prop where
 kind:sc.kind=.function
 nocell:∀ y∈sc.names,y.2≠.cell
 loc:∀ y∈sc.names,y.2=.local->sc.names.lookup y.1=some .local
 free:∀ y∈sc.names,y.2=.free->osc.names.lookup y.1=some .cell\/osc.names.lookup y.1=some .free
theorem CompOk.of{osc sc:Scope}(h:compOk osc sc=true):CompOk osc sc:=by
 unfold compOk at h;rw[Bool.and_eq_true,Bool.and_eq_true,Bool.and_eq_true] at h;o⟨⟨⟨h1,h2⟩,h3⟩,h4⟩:=h;!⟨of_decide_eq_true h1,fun y hy=>of_decide_eq_true (List.all_eq_true.mp h2 y hy),fun y hy=>of_decide_eq_true (List.all_eq_true.mp h3 y hy),fun y hy=>of_decide_eq_true (List.all_eq_true.mp h4 y hy)⟩
abbrev cloX(X:Cx)(scope:Scope):List (Str×Addr):=cloOf X.env.cells scope.names []
def cxComp(X:Cx)(N':List Str)(scope:Scope)(fp:List Addr)(s:Shared)(H:Hp):Cx where
 prog:=X.prog
 w:=X.w
 K:=X.K
 mg:=X.mg
 base:=X.base
 A:=X.A
 N:=N'
 s₀:=s
 H₀:=H
 env:=compEnvC scope (cloX X scope) ¸ X.env
 outer:=X.stack
 stack:=X.stack
 ex:=fp
 fn:=fun _=>false
 calm:=X.calm
 pn:=[]
 xe:=fun _ _=>False
def FreeAt(X:Cx)(sc:Scope):List Str->List Nat->Prop
 | [],[]=>True
 | x::fr,j::ix=>(X.N[j]?=some x/\sc.names.lookup x=some .free)/\FreeAt X sc fr ix
 | _,_=>False
def start2(σ:St)(own:List Str)(ix:List Nat):St:=List.replicate own.length none++ix.map fun j=>(σ[j]?).join
theorem KR{X:Cx}{sc:Scope}{σ:St}{own:List Str}:∀{fr:List Str}{ix:List Nat},FreeAt X sc fr ix->(start2 σ own ix).length=(own++fr).length:=by
 intro fr ix h;have:fr.length=ix.length:=by
  induction fr generalizing ix with
  | nil=>cases ix with
   | nil=>rfl
   | cons _ _=>!h.elim
  | cons x fr ihf=>cases ix with
   | nil=>!h.elim
   | cons j ix=>simp[ihf h.2]
 simp[start2,this]
theorem Kv{X:Cx}{sc:Scope}{σ:St}{x:Str}{v:V}:∀{fr:List Str}{ix:List Nat}{i:Nat},FreeAt X sc fr ix->fr[i]?=some x->(ix.map fun j=>(σ[j]?).join)[i]?=some (some v) ->
  ∃ j:Nat,X.N[j]?=some x/\σ[j]?=some (some v)/\sc.names.lookup x=some .free
 | [],_,_,_,h,_=>by simp at h
 | _::_,[],_,h,_,_=>h.elim
 | y::fr,j::ix,0,h,h1,h2=>by
  h e1:y=x:=by simpa using h1
  subst e1;h e2:(σ[j]?).join=some v:=by simpa using h2
  r⟨j,h.1.1,?_,h.1.2⟩;cases q:σ[j]? with
  | none=>rw[q] at e2; cases e2
  | some o=>rw[q] at e2; cases o with
   | none=>cases e2
   | some z =>
         have:z=v:=by simpa using e2
         rw[this]
 | y::fr,j::ix,i+1,h,h1,h2=>Kv (fr:=fr) (ix:=ix) (i:=i) h.2 (by simpa using h1) (by simpa using h2)
theorem LK{X:Cx}{sc:Scope}{σ:St}{own fr:List Str}{ix:List Nat}{i:Nat}{x:Str}{v:V}(h:FreeAt X sc fr ix)(h1:(own++fr)[i]?=some x)(h2:(start2 σ own ix)[i]?=some (some v)) :
  ∃ j:Nat,X.N[j]?=some x/\σ[j]?=some (some v)/\sc.names.lookup x=some .free:=by
 by_cases hi:i<own.length
 ·unfold start2 at h2
  rw[List.getElem?_append_left (by simpa using hi),List.getElem?_replicate,if_pos hi] at h2;cases h2
 ·unfold start2 at h2
  rw[List.getElem?_append_right (by simpa using hi)] at h2;rw[List.getElem?_append_right (by simpa using hi)] at h1;!Kv h h1 (by simpa using h2)
def PIfs(X:Cx)(ifs:List Expr)(t:TT):Prop :=
 ∀(pins:List ⑤) (s:Shared) (σ:St) (H:Hp) (Q:Bool->Hp->Prop),Inv X pins σ H s->t σ H Q ->
  wpAny ② X.A (forIn ifs true fun c r=>if r=true then do let ok <- isTrue c X.env (eval c X.env); pure (ForInStep.yield ok) else pure (ForInStep.yield r)) (TP X pins σ Q) X.xe s
def ADV:TT:=fun _ H Q=>Q true H
theorem Cg{X:Cx}:PIfs X [] ADV:=fun _ _ _ H _ I h=>wpAny_tests_nil ⟨H,I,h⟩
theorem Dg{X:Cx}{c:Expr}{t:TT}(h:PT X c t):PIfs X [c] t:=fun pins s σ H Q I hw=>wpAny_tests_one (h pins s σ H Q I hw)
theorem Dl{prog:Program}{w:World}{A:Around}{R:Result->Shared->Prop}{s:Shared}{elt target iter:Expr}{ifs:List Expr}{scope:Scope}{pos:Pos}{it acc:Value}{env:Env}(I:Nat->Shared->Prop)
  (turn:∀ n s,I n s->wpAny ① A (pyNext it) (fun r s₁=>match r with
   | none=>R (.ok .next) s₁
   | some v=>wpAny ① A (letOwnedTupleGo target it v) (fun _ s₁'=>wpAny ① A (assign target env v) (fun _ s₂ =>
     wpAny ① A (forIn ifs true fun c r=>if r=true then do let ok <- isTrue c env (eval c env); pure (ForInStep.yield ok) else pure (ForInStep.yield r)) (fun ok s₃ =>
      if ok=true then wpAny ① A (eval elt env) (fun x s₄ =>
       wpAny ① A (call (.builtin "list.append") [acc,x]) (fun _ s₅=>∃ m,m<n/\I m s₅) (fun _ _=>False) s₄) (fun _ _=>False) s₃
      else ∃ m,m<n/\I m s₃) (fun _ _=>False) s₂) (fun _ _=>False) s₁') (fun _ _=>False) s₁) (fun _ _=>False) s)
  (n:Nat) (h:I n s) :
  codeAny ① A (.compLoop (.ListComp elt [⟨target,iter,ifs,0⟩] scope pos) 0 it acc env) R s:=by
 r codeAny_loop rfl I (fun n s hI=>?_) n h;show wpAny _ A ((compTurn (.ListComp elt [⟨target,iter,ifs,0⟩] scope pos) 0 it acc env).onRaise (fun x=>do noteFrame x env; theTreesLotGoes x)) _ _ s;r wpAny_noted ?_;rw[compTurn_list];r wpAny_bind (wpAny_standAt (wpAny_bind (wpAny_mono (turn n s hI) (fun r s₁ h₁=>?_) fun _ _ h'=>h'.elim)));cases r with
 | none=>!wpAny_pure h₁
 | some v =>
  r wpAny_bind (wpAny_mono h₁ (fun _ s₁' h₁'=>?_) fun _ _ h'=>h'.elim);r wpAny_bind (wpAny_mono h₁' (fun _ s₂ h₂=>wpAny_bind (wpAny_mono h₂ (fun ok s₃ h₃=>?_) fun _ _ h'=>h'.elim)) fun _ _ h'=>h'.elim);cases ok with
  | false=>!wpAny_pure ⟨rfl,h₃⟩
  | true =>
   !wpAny_bind (wpAny_bind (wpAny_mono h₃ (fun x s₄ h₄=>wpAny_bind (wpAny_mono h₄ (fun _ s₅ h₅=>wpAny_pure (wpAny_pure ⟨rfl,h₅⟩)) fun _ _ h'=>h'.elim)) fun _ _ h'=>h'.elim))
def Behind(X:Cx)(pins:List ⑤)(σ:St)(R:Hp->Prop)(C:Addr)(s':Shared):Prop :=
 ∃(H':Hp) (m:Str->Option Value),Inv X pins σ H' s'/\s'.heap.Ns C m/\FpOk X pins H' C/\R H'
theorem Inv.sameBut{X:Cx}{pins:List ⑤}{σ:St}{H:Hp}{s:Shared}{h':Heap}{C:Addr}(I:Inv X pins σ H s)(f:FpOk X pins H C)(sb:Heap.SameBut C s.heap h'):Inv X pins σ H {s with heap:=h'}:=by
 o⟨f0,f1,f2,f3,f4,f5⟩:=f;!I.turned (t':=s.toks) (fun b o hb e=>(sb.2 b hb).trans e) f0 f1 f3 f4 f5
def Eo(J:It)(D:Addr)(g:TG)(tc:TT)(te:TE)(R:Hp->Prop)(τ:St)(H:Hp):Prop :=
 ∃ W:Nat->Nat->St->Hp->Prop,(∃ m,W 0 m τ H)/\∀ i m τ H,W i m τ H ->
  (J.stop i H/\R H)\/(J.go i H/\∃ N:St->Hp->Prop,(∀ τ' H',N τ' H'->∃ m',m'<m/\W (i+1) m' τ' H')/\∀ x H',J.yld i H x H'->g x τ H' fun τ2 H2=>tc τ2 H2 fun b H3 =>
   if b=true then te τ2 H3 fun v H4=>∃ ys,H4 D=some (.lst ys)/\ys.length<sizeLine/\N τ2 (upd H4 D (.lst (ys++[v]))) else N τ2 H3)
section
variable{X:Cx}{pins:List ⑤}{σ:St}{H:Hp}{s:Shared}{tg elt iter:Expr}{ifs:List Expr}{scope:Scope}{pos:Pos}{own fr:List Str}{ix:List Nat}{g:TG}{tc:TT}{te:TE}{it:Addr}{fp:List Addr}
 {tn:Nat->Heap->Prop}{J:It}
theorem Us{R:Hp->Prop}{D:Addr}{h₁:Heap}{ob:Obj}{m0:Str->Option Value}{tk:Nat}(hc:X.calm=true)(ok:CompOk X.env.scope scope)(hfr:FreeAt X scope fr ix)
  (hg:PG ⑨ tg g) (hi:PIfs ⑨ ifs tc) (he:PE ⑨ elt te)
  (I3:Inv X pins σ H s) (T:Turn X.prog X.w X.K tg J fp it tn) (st3:tn 0 s.heap) (f3:∀ b∈fp,FpOk X pins H b)
  (hns:h₁.Ns ¸ m0) (hsb:Heap.SameBut ¸ (s.heap.push ob) h₁) (hq:Eo J D g tc te R (start2 σ own ix) H) :
  codeAny ② X.A (.compStart (.ListComp elt [⟨tg,iter,ifs,0⟩] scope pos) 0 (.ref it) (.ref D) (compEnvC scope (cloX X scope) ¸ X.env))
   (fun r s'=>r=.ok .next/\Behind X pins σ R ¸ s') {s with heap:=h₁,toks:=tk}:=by
 h old:∀ b o,s.heap.get? b=some o->h₁.get? b=some o:=fun b o e=>hsb.extBut b o (Nat.ne_of_lt (Heap.lt_size e)) (° _ e);h sub:∀ x c,(cloX X scope).lookup x=some c->X.env.cells.lookup x=some c:=Jc (fun x c e=>by simp at e);h outerK:∀ x,(x,NameKind.free)∈scope.names->X.env.kindOf x=some .cell\/X.env.kindOf x=some .free:=fun x hx=>ok.free (x,.free) hx rfl;h has:∀ x,(x,NameKind.free)∈scope.names->∃ c,(cloX X scope).lookup x=some c:=fun x hx=>by
  o⟨c,hcl⟩:=I3.ok.has x (outerK x hx);!Option.isSome_iff_exists.mp (JK (by rw[hcl]; rfl) hx)
 h lt3:∀ b∈fp,b<¸:=fun b hb=>by
  o⟨o,ho,_⟩:=T.obj 0 _ st3 b hb;!Heap.lt_size ho
 h nostk:∀ b∈fp,b∉frs X.stack:=fun b hb hs=>by
  rcases List.mem_cons.mp (I3.stkSub b hs) with z | z
  ·!(f3 b hb).2.1 z
  ·!(f3 b hb).2.2.1 z
 h ncell:∀ b∈fp,∀ x c,(cloX X scope).lookup x=some c->c≠b:=fun b hb x c h=>(f3 b hb).2.2.2.2.1 x c (sub x c h);h I4:Inv ⑨ [] (start2 σ own ix) H {s with heap:=h₁,toks:=tk}:=by
  r⟨⟨I3.ok.mod,ok.kind,I3.ok.glob,I3.ok.blt,Nat.le_refl _,?inj,?has,?cab,I3.ok.hd,I3.ok.frames,.inl rfl,?exf,I3.bs,Nat.le_trans I3.ok.bsz I3.sz,?noex,nostk,I3.stack,I3.stkFree⟩,
   rfl,I3.bare,Un.kept old,⟨m0,hns,?loc⟩,?cell,I3.hok.fresh ③,?freeC,?pin,I3.hok.kept old,?len⟩
  case inj=>!fun x y c h1 h2=>I3.ok.inj x y c (sub x c h1) (sub y c h2)
  case has=>!fun x hx=>has x (Jp ok.nocell hx)
  case cab=>!fun x c h=>by cases h
  case exf=>!fun b hb=>⟨Nat.ne_of_lt (lt3 b hb),ncell b hb⟩
  case noex =>
   intro b o e hb;rcases (f3 b hb).2.2.2.1 with z | z
   ·!I3.ok.noex b o e z
   ·!absurd (Nat.lt_of_lt_of_le (Nat.lt_of_lt_of_le (Heap.lt_size e) I3.ok.bsz) z) (Nat.lt_irrefl _)
  case loc =>
   intro i x v e1 e2 e3;o⟨j,a1,a2,a3⟩:=LK hfr e1 e2;h mem:(x,NameKind.free)∈scope.names:=PySem.mem_of_lookup a3;o⟨m,hn,hl⟩:=I3.loc;h ok1:=outerK x mem;o⟨u,r,l⟩:=hl j x v a1 a2 (ok1.elim (fun z=>.inr (.inl z)) fun z=>.inr (.inr z));rcases l with⟨k,_⟩ | ⟨k,c,hcl,o,ho,hd⟩
   ·rcases ok1 with z | z
    ·rw[k] at z; cases z
    ·rw[k] at z; cases z
   ·o⟨c',hc'⟩:=has x mem
    h e:=sub x c' hc';rw[hcl] at e;cases e;!⟨u,r,.inr ⟨Cq a3,c,hc',o,old _ _ ho,hd⟩⟩
  case cell =>
   intro x c h;o⟨v,o,ho,hd⟩:=I3.cell x c (sub x c h);!⟨v,o,old _ _ ho,hd⟩
  case freeC=>!fun x c h=>I3.freeC x c (sub x c h)
  case pin=>!fun p hp=>absurd (show p∈([]:List ⑤) from hp) ¥
  case len=>!KR hfr
 h st4:tn 0 h₁:=T.keep 0 _ _ st3 fun b _ o e=>old b o e;h stat:∀{H':Hp},(∀ b∈fp,H' b=none)->∀ b∈fp,FpOk ⑨ [] H' b:=fun {H'} hn b hb =>
  ⟨hn b hb,Nat.ne_of_lt (lt3 b hb),nostk b hb,.inl hb,ncell b hb,fun p hp=>absurd (show p∈([]:List ⑤) from hp) ¥⟩
 o⟨W,⟨m1,w0⟩,turn⟩:=hq;h loop:codeAny ② X.A (.compLoop (.ListComp elt [⟨tg,iter,ifs,0⟩] scope pos) 0 (.ref it) (.ref D) (compEnvC scope (cloX X scope) ¸ X.env))
   (fun r s'=>r=.ok .next/\Behind X pins σ R ¸ s') {s with heap:=h₁,toks:=tk}:=by
  r Dl (fun n s'=>∃ i τ H',Inv ⑨ [] τ H' s'/\tn i s'.heap/\(∀ b∈fp,H' b=none)/\W i n τ H') ?_ m1 ⟨0,_,H,I4,st4,fun b hb=>(f3 b hb).1,w0⟩;rintro n s5 ⟨i,τ5,H5,I5,st5,fr5,w5⟩;rcases turn i n τ5 H5 w5 with⟨stop,qn⟩ | ⟨go,N,hN,step⟩
  ·r thn (T.done ⑨ rfl rfl rfl hc i [] s5 τ5 H5 _ I5 (stat fr5) st5 stop) fun r s6 ⟨hr,I6⟩=>?_
   subst hr;o⟨m6,hn6,_⟩:=I6.loc;!⟨rfl,H5,m6,I3.call' (ch:=fp) I6.os I6.base I6.hok I6.bare (fun b hb=>⟨(f3 b hb).2.2.2.1,(f3 b hb).2.1,(f3 b hb).2.2.2.2.1,(f3 b hb).2.2.2.2.2⟩),hn6,I3.fpOk ③ I6.free,qn⟩
  ·r thn (T.item ⑨ rfl rfl rfl hc i [] s5 τ5 H5 _ I5 (stat fr5) st5 go) fun r s6 ⟨u,hr,h6⟩=>?_
   subst hr;r thn h6 fun _ s7 ⟨x,H7,I7,r7,y7,st7,fr7⟩=>?_;h I7':=I7.pinned (stat fr7) (T.obj _ _ st7);h again:∀{τ8:St}{H8:Hp}{s8:Shared},Inv ⑨ ([]++pinsAt fp s7.heap) τ8 H8 s8->N τ8 H8 ->
     ∃ m,m<n/\∃ i τ H',Inv ⑨ [] τ H' s8/\tn i s8.heap/\(∀ b∈fp,H' b=none)/\W i m τ H':=fun {τ8 H8 s8} I8 n8=>by
    o⟨m',hm,w8⟩:=hN τ8 H8 n8;r⟨m',hm,i+1,τ8,H8,I8.unpinned,T.keep _ _ _ st7 fun b hb o e=>(I8.pin (b,o) ⑰).1,fun b hb=>?_,w8⟩;o⟨o,e,d⟩:=T.obj _ _ st7 b hb;!(I8.pin (b,o) ⑰).2.1
   r thn (hg _ s7 τ5 H7 x u _ I7' r7 (step x H7 y7)) fun _ s8 ⟨τ8,H8,I8,q8⟩=>?_;r thn (hi _ s8 τ8 H8 _ I8 q8) fun b s9 ⟨H9,I9,q9⟩=>?_;cases b with
   | false=>!again I9 q9
   | true =>
    r thn (he _ s9 τ8 H9 _ I9 q9) fun uv s10 ⟨v,H10,I10,r10,ys,hD,hz,q10⟩=>?_;r thn (Cy (X:=cxComp X (own++fr) scope fp s H) _ s10 τ8 H10 (.ref D) [v] (.ref D) [uv] (fun _ H'=>N τ8 H') I10 rfl (.cons r10 .nil) ⟨D,ys,v,rfl,rfl,hD,hz,q10⟩) fun _ s11 ⟨_,H11,I11,_,q11⟩=>?_;!again I11 q11
 !codeAny_compStart_list loop (T.self X.A 0 _ _ _ st4 loop)
theorem Ro{R:V->Hp->Prop}(hc:X.calm=true)(ok:CompOk X.env.scope scope)(hfr:FreeAt X scope fr ix)
  (hg:∀ fp s H,PG ⑨ tg g) (hi:∀ fp s H,PIfs ⑨ ifs tc) (he:∀ fp s H,PE ⑨ elt te)
  (I2:Inv X pins σ H s) (T:Turn X.prog X.w X.K tg J fp it tn) (st2:tn 0 s.heap) (f2:∀ b∈fp,FpOk X pins H b)
  (hq:∀ D,H D=none->Eo J D g tc te (R (.ref D)) (start2 σ own ix) (upd H D (.lst []))) {E:Value->Shared->Prop} :
  wpAny ② X.A (newList []) (fun acc s₃=>wpAny ② X.A (newFunctionEnv scope X.env.globals (cloX X scope) [] X.env.qual none .none (some X.env)) (fun cenv s₄ =>
   codeAny ② X.A (.compStart (.ListComp elt [⟨tg,iter,ifs,0⟩] scope pos) 0 (.ref it) acc {cenv with scope:=relabel scope X.env})
    (fun r s'=>r=.ok .next/\∃ v,RelV v acc/\Behind X pins σ (R v) cenv.locals s') s₄) E s₃) E s:=by
 r wpAny_newObj_type (wpAny_newFunctionEnv ok.nocell (by intro y hy; simp at hy) (fun h₁ hns₁ hsb₁=>?_) ok.kind);h hD:H ¸=none:=I2.hok.fresh ③;h I3:Inv X pins σ (upd H ¸ (.lst [])) {s with heap:=s.heap.push {cls:=.type "list",dict:=none,data:=.seq ([]:List Value).toArray}} :=
  I2.laid (t':=s.toks) (fun b u e=>° _ e) ③ ⟨Nat.zero_le _,[],0,.nil,¿ _ rfl⟩
 h st3:tn 0 (s.heap.push {cls:=.type "list",dict:=none,data:=.seq ([]:List Value).toArray}):=T.keep 0 _ _ st2 fun b _ o e=>° _ e;h f3:∀ b∈fp,FpOk X pins (upd H ¸ (.lst [])) b:=fun b hb=>by
  o⟨f0,fr⟩:=f2 b hb;o⟨o,ho,_⟩:=T.obj 0 _ st2 b hb;!⟨by rw[Af (Nat.ne_of_lt (Heap.lt_size ho))]; !f0,fr⟩
 r codeAny_mono (Us (R:=R (.ref ¸)) (D:=¸) hc ok hfr (hg _ _ _) (hi _ _ _) (he _ _ _) I3 T st3 f3 hns₁ hsb₁ (hq _ hD)) fun r s' ⟨e,b⟩=>⟨e,V.ref ¸,rfl,b⟩
def Wj(own:List Str)(ix:List Nat)(wi:TI)(g:TG)(tc:TT)(te:TE):TE:=fun σ H Q=>wi σ H fun J H1=>∀ D,H1 D=none->Eo J D g tc te (Q (.ref D)) (start2 σ own ix) (upd H1 D (.lst []))
end
section
variable{X:Cx}{tg elt iter:Expr}{ifs:List Expr}{scope:Scope}{pos:Pos}{g:TG}{tc:TT}{te:TE}{wi:TI}
theorem Mx{pins:List ⑤}{σ:St}{H:Hp}{s:Shared}(I:Inv X pins σ H s)(ok:CompOk X.env.scope scope):∀ y∈scope.names,y.2=.free->(X.env.cells.lookup y.1).isSome=true:=fun y hy hf=>by
 o⟨c,h⟩:=I.ok.has y.1 (ok.free y hy hf);rw[h]; rfl
theorem Ca(osc:Scope)(own fr:List Str)(ix:List Nat)(hc:X.calm=true)(ho:X.env.scope=osc)(hok:compOk osc scope=true)(hfr:FreeAt X scope fr ix)(hit:PI X tg iter wi)
  (hg:∀ fp s H,PG ⑨ tg g) (hi:∀ fp s H,PIfs ⑨ ifs tc) (he:∀ fp s H,PE ⑨ elt te)
  (hs:∀ x,foldedSetIterable iter X.env x=pure x:=by intro _; rfl):PE X (.ListComp elt [⟨tg,iter,ifs,0⟩] scope pos) (Wj own ix wi g tc te):=by
 intro pins s σ H Q I h;h ok:=CompOk.of (ho ▸ hok);rw[eval_ListComp];r wpAny_comprehension_free (use:=none) rfl hs (Ux (Mx I ok)) ok.kind ok.loc (thn (hit pins s σ H _ I h) fun xv s₁ h₁=>thn h₁ fun itv s₂ h₂=>?_);o⟨it,fp,tn,J,H2,rfl,I2,T,st2,f2,hq⟩:=h₂;r thn (Ro (R:=Q) hc ok hfr hg hi he I2 T st2 f2 hq) fun acc s₃ h₃=>thn h₃ fun cenv s₄ h₄=>codeAny_mono h₄ fun r s' ⟨hr,v,rv,H',m,I',hn,fpo,q⟩=>?_;subst hr;!⟨m,hn,fun h' sb=>⟨v,H',I'.sameBut fpo sb,rv,q⟩⟩
theorem Pg{i:Nat}{x:Str}{pos' spos:Pos}(osc:Scope)(own fr:List Str)(ix:List Nat)(hN:X.N.Nodup)(hx:X.N[i]?=some x)(hl:Loc X.env.scope x)(hc:X.calm=true)(ho:X.env.scope=osc)(hok:compOk osc scope=true)(hfr:FreeAt X scope fr ix)(hit:PI X tg iter wi)
  (hg:∀ fp s H,PG ⑨ tg g) (hi:∀ fp s H,PIfs ⑨ ifs tc) (he:∀ fp s H,PE ⑨ elt te)
  (hsw:swapsWith (.ListComp elt [⟨tg,iter,ifs,0⟩] scope pos) (some (.Name x pos')) spos.line X.env=pure true:=by rfl) (hs:∀ x,foldedSetIterable iter X.env x=pure x:=by intro _; rfl)
  (hf:X.fn x=true\/X.env.scope.names.lookup x=some .local:=by first | !.inl rfl | !.inr rfl | assumption) :
  PS X (.Assign [.Name x pos'] (.ListComp elt [⟨tg,iter,ifs,0⟩] scope pos) spos) (AAx (Wj own ix wi g tc te) (gName i)):=by
 intro pins s σ H D I h;h ok:=CompOk.of (ho ▸ hok);rw[exec_Assign_Name_used _ _ _ _ hsw];r wpAny_bind (wpAny_standAt (wpAny_bind ?_));show wpAny _ X.A (do let _ <- comprehension (.ListComp elt [⟨tg,iter,ifs,0⟩] scope pos) scope X.env _ (newList []) false (eval iter X.env) (some (assign (.Name x pos') X.env))) _ _ s;r wpAny_bind (wpAny_mono (wpAny_comprehension_free (use:=some (assign (.Name x pos') X.env)) (Q:=fun _ s'=>SP X pins D .next s') rfl hs (Ux (Mx I ok)) ok.kind ok.loc
  (thn (hit pins s σ H _ I h) fun xv s₁ h₁=>thn h₁ fun itv s₂ h₂=>?_)) (fun _ s' hq=>wpAny_pure (wpAny_pure hq)) fun _ _ e=>e)
 o⟨it,fp,tn,J,H2,rfl,I2,T,st2,f2,hq⟩:=h₂;r thn (Ro (R:=fun v H'=>D.nx (σ.set i (some v)) H') hc ok hfr hg hi he I2 T st2 f2 hq) fun acc s₃ h₃=>thn h₃ fun cenv s₄ h₄=>codeAny_mono h₄ fun r s' ⟨hr,v,rv,H',m,I',hn,fpo,q⟩=>?_;subst hr;show wpAny _ X.A (assign (.Name x pos') X.env acc) _ _ s';r wpAny_assign_Name (Jf I' hN hx hl rv (fun s'' I'' hch=>?_) hf);o⟨a,sb,ha⟩:=hch;h hCa:cenv.locals≠a:=by
  rcases ha with z | z
  ·rw[z]; !fpo.2.1
  ·!fun e=>fpo.2.2.2.2.1 x a z e.symm
 !⟨m,hn.sameBut sb hCa,fun h' sb'=>⟨_,H',I''.sameBut fpo sb',q⟩⟩
end
section
variable{prog:Program}{w:World}{A:Around}{E:Value->Shared->Prop}{s:Shared}
theorem Il{it l:Addr}{i:Nat}{items}{x:Value}{Q:Value->Shared->Prop}(hit:s.heap.IsTupleIter it l i)
  (hl:s.heap.IsTuple l items) (hx:items[i]?=some x)
  (hQ:∀ h',h'.IsTupleIter it l (i+1)->Heap.SameBut it s.heap h'->Q x {s with heap:=h'}) :
  wpAny ① A (Builtin.SmallTypes.nextOf (.ref it)) Q E s:=by
 o⟨o,ho,hc,hd⟩:=id hit;o⟨ol,hol,_,nl,hdl⟩:=hl;unfold Builtin.SmallTypes.nextOf;r wpAny_bind (wpAny_callSpecial?_slot (name:=Str.ofString "__next__") hit.typeIs F.slot_tuple_iterator_next
  (wpAny_call_entry F.slot_tuple_iterator_next hit.typeIs F.entry_tuple_iterator_next ?_ (F.args_tuple_iterator_next_1 _)))
 show wpAny _ _ (field (.ref it) 0 >>= _) _ _ s;r wpAny_bind (wpAny_field ho hd (x:=.ref l) rfl ?_);show wpAny _ _ (if (Value.ref l==Value.none)=true then _ else _) _ _ s;rw[if_neg (show ¬ ((Value.ref l==Value.none)=true) from Bool.false_ne_true)];show wpAny _ _ (field (.ref it) 1 >>= _) _ _ s;r wpAny_bind (wpAny_field ho hd (x:=.int i 0) rfl ?_);show wpAny _ _ (seqItems? (.ref l) >>= _) _ _ s;r wpAny_bind (wpAny_seqItems hol hdl ?_);simp only[Int.toNat_natCast,hx];r wpAny_bind (wpAny_setField ho hd ¥ (wpAny_pure ⟨x,rfl,wpAny_pure (hQ _ ?_ (Heap.SameBut.update ..))⟩));!⟨_,Heap.get?_update_self _ ho (Obj.isFreed_of_fields (Obj.data_mapFields hd _)),(Obj.cls_mapFields ..).trans hc,by
  rw[Obj.data_mapFields hd]; simp[rawInt]⟩
theorem Jg{it l:Addr}{i:Nat}{items}{Q:Value->Shared->Prop}(hh:A.handled=none)
  (hit:s.heap.IsTupleIter it l i) (hl:s.heap.IsTuple l items) (hx:items[i]?=none)
  (hE:∀ h' e,Heap.ExtBut it s.heap h'->(∃ o,h'.get? e=some o/\o.cls=.type "StopIteration")->E (.ref e) {s with heap:=h'}) :
  wpAny ① A (Builtin.SmallTypes.nextOf (.ref it)) Q E s:=by
 o⟨o,ho,hc,hd⟩:=id hit;o⟨ol,hol,_,nl,hdl⟩:=hl;unfold Builtin.SmallTypes.nextOf;r wpAny_bind (wpAny_callSpecial?_slot (name:=Str.ofString "__next__") hit.typeIs F.slot_tuple_iterator_next
  (wpAny_call_entry F.slot_tuple_iterator_next hit.typeIs F.entry_tuple_iterator_next ?_ (F.args_tuple_iterator_next_1 _)))
 show wpAny _ _ (field (.ref it) 0 >>= _) _ _ s;r wpAny_bind (wpAny_field ho hd (x:=.ref l) rfl ?_);show wpAny _ _ (if (Value.ref l==Value.none)=true then _ else _) _ _ s;rw[if_neg (show ¬ ((Value.ref l==Value.none)=true) from Bool.false_ne_true)];show wpAny _ _ (field (.ref it) 1 >>= _) _ _ s;r wpAny_bind (wpAny_field ho hd (x:=.int i 0) rfl ?_);show wpAny _ _ (seqItems? (.ref l) >>= _) _ _ s;r wpAny_bind (wpAny_seqItems hol hdl ?_);simp only[Int.toNat_natCast,hx];r wpAny_bind (wpAny_rule (wpAny_bind (wpAny_setField ho hd ¥ ?_)));show wpAny _ _ (newExc (.type "StopIteration") [] >>= _) _ _ _;r wpAny_bind ?_;simp only[newExc,newTuple];r wpAny_bind (wpAny_newObj_type ?_ (by size_fits));r wpAny_bind (m:=firstArgMember _ _) (wpAny_of_eq (a:=Value.none) (by first | rfl | (simp only[firstArgMember]; rfl)) ?_);r wpAny_newObj_type ?_ (by size_fits);simp only[raiseNew];r wpAny_bind (wpAny_handled ?_)
 first | rw[show A.in1.handled=none from hh] | rw[hh]
 r wpAny_bind (wpAny_pure (wpAny_throw ?_));!hE _ _ (((Heap.SameBut.update ..).extBut.push _).push _) ⟨_,¿ _ rfl,rfl⟩
end
theorem Rq{prog:Program}{w:World}{A:Around}(hh:A.handled=none)(it l:Addr)(hne:l≠it)(items:Array Value) :
  Draws prog w A it [it,l] items.size (fun i v=>items[i]?=some v) (fun i h=>h.IsTupleIter it l i/\h.IsTuple l items) where
 live:=fun _ _ st=>let ⟨o,ho,_⟩:=st.1; ⟨o,ho⟩
 frame:=fun _ _ _ st hk=>⟨st.1.at fun o e=>hk it ¥ o e,st.2.at fun o e=>hk l ¥ o e⟩
 item:=fun i s Q E hi st hQ=>by
  r Il st.1 st.2 (x:=items[i]) (by simp[hi]) fun h' hit' hs'=>?_;!hQ _ h' s.toks (by simp[hi]) ⟨hit',st.2.extBut hs'.extBut hne⟩ hs'
 done:=fun s Q E st hE=>Jg hh st.1 st.2 ¥ hE
section
open AutoSeq1 (wpAny_loadPart')
theorem Fx(l:Addr)(items:Array Value)(n:Nat)(dct:Option Addr)(sl:Array ⑦) :
  Meets (Builtin.«enumerate.__new__» ⟨[.type "enumerate",.ref l],[]⟩) (fun _ R s=>s.heap.get? l=some {cls:=.type "tuple",dict:=dct,data:=.seq items n,slots:=sl} /\
   R (.ok (.ret (.ref (s.heap.push {cls:=.type "tuple_iterator",data:=.fields #[.ref l,.int 0 0]}).objs.size)))
    {s with heap:=(s.heap.push {cls:=.type "tuple_iterator",data:=.fields #[.ref l,.int 0 0]}).push {cls:=.type "enumerate",data:=.fields #[.none,.bool false,.ref ¸,rawInt 0,.none,.none]}}) :=
 .of_wp fun prog w A R s h=>by
  o⟨hp,g,d,tk,os⟩:=s; o⟨hl,h⟩:=h;h hsub:=sub_enumerate;h hL:Heap.IsTuple (Shared.heap ⟨hp,g,d,tk,os⟩) l items:=⟨_,hl,rfl,n,rfl⟩
  wp_walk using wpAny_loadPart' hl
  r wpAny_stack_any fun st=>wpAny_pure ?_;split
  ·rename_i c _ _ _ _ _
   cases (c==Value.type "enumerate")
   ·wp_walk using wpAny_loadPart' hl,wpAny_pyIter_tuple hL
    !⟨_,rfl,h⟩
   ·wp_walk using wpAny_loadPart' hl,wpAny_pyIter_tuple hL
    !⟨_,rfl,h⟩
  ·wp_walk using wpAny_loadPart' hl,wpAny_pyIter_tuple hL
   !⟨_,rfl,h⟩
end
theorem GQ{prog:Program}{w:World}{A:Around}{E:Value->Shared->Prop}{s:Shared}{l:Addr}{items:Array Value}{Q:Value->Shared->Prop}(hL:s.heap.IsTuple l items)
  (h:∀ h',IsEnum h' (¸+1) ¸ 0 .none->h'.IsTupleIter ¸ l 0->h'.objs.size=¸+2 ->
   (∀ b o,s.heap.get? b=some o->h'.get? b=some o)->Q (.ref (¸+1)) {s with heap:=h'}) :
  wpAny ① A (call (.type "enumerate") [.ref l]) Q E s:=by
 o⟨⟨c,dct,dt,sl⟩,hl,hc,n,hd⟩:=hL
 replace hc:c=.type "tuple":=hc
 replace hd:dt=.seq items n:=hd
 subst hc hd;r callType_new F.called_enumerate ¤ (F.typeCall_enumerate_1 _) (F.newCall_enumerate_1 _) (fun obj=>F.args_object_init_2 obj _) F.entry_enumerate_new
  (Fx l items n dct sl) ⟨hl,?_⟩
 h hz:(s.heap.push {cls:=.type "tuple_iterator",data:=.fields #[.ref l,.int 0 0]}).objs.size=¸+1:=Heap.size_push ..;show _/\_;rw[hz];h he:IsEnum ((s.heap.push {cls:=.type "tuple_iterator",data:=.fields #[.ref l,.int 0 0]}).push
   {cls:=.type "enumerate",data:=.fields #[.none,.bool false,.ref ¸,rawInt 0,.none,.none]}) (¸+1) ¸ 0 .none:=by
  have:=¿ (s.heap.push {cls:=.type "tuple_iterator",data:=.fields #[.ref l,.int 0 0]})
   (o:={cls:=.type "enumerate",data:=.fields #[.none,.bool false,.ref ¸,rawInt 0,.none,.none]}) rfl
  rw[hz] at this; !this
 r⟨⟨_,he,rfl⟩,h _ he ⟨_,° _ (¿ _ rfl),rfl,rfl⟩ (by rw[Heap.size_push,hz]) fun b o x=>° _ (° _ x)⟩
section
variable{X:Cx}{pins:List ⑤}{σ:St}{H:Hp}{s:Shared}{h':Heap}
theorem Inv.walked{t':Nat}{wr:List Addr}(I:Inv X pins σ H s)(k:∀ b o,b∉wr->s.heap.get? b=some o->h'.get? b=some o)(hf:∀ b∈wr,FpOk X pins H b):Inv X pins σ H {s with heap:=h',toks:=t'}:=by
 h nit:∀ b u,H b=some u->b∉wr:=fun b u e z=>by rw[(hf b z).1] at e; cases e
 r I.step (g':=s.gens) (d':=s.drawn) (ch:=wr) (fun b hb=>?_) (fun b o _ _ hc e _=>k b o hc e) (fun b o _ _ hc e _=>⟨o.slots,k b o hc e⟩) (fun _ _ _ _ n=>n)
  (fun b o hc e=>⟨o,k b o hc e⟩) (fun _ _ e=>e) (fun _ _ _ e=>e) (fun b ps e=>⟨#[],by rw[e]; simp⟩) (fun m hm=>?_) (fun b u e=>?_) I.bare
 ·o⟨f0,f1,f2,f3,f4,f5⟩:=hf b hb
  !⟨f3,f1,f4,f5⟩
 ·o⟨o,es,ep,ho,r⟩:=hm
  !⟨o,es,ep,k _ o (fun z=>(hf _ z).2.1 rfl) ho,r⟩
 ·r(I.hok b u e).stay (fun c v hc q=>k c v ?_ q) (fun _ q=>q) fun _ _ q=>q
  rcases hc with z | z
  ·rw[z]; !nit b u e
  ·!nit c _ z
theorem Inv.track{a:Addr}{o:HO}(I:Inv X pins σ H s)(f:FpOk X pins H a)(new:ObjOk X.prog X.w (upd H a o) s.heap a o):Inv X pins σ (upd H a o) s:=by
 o⟨f0,f1,f2,f3,f4,f5⟩:=f;h ne:∀ b u,H b=some u->b≠a:=fun b u e z=>by rw[z,f0] at e; cases e
 o⟨hh,g,d,t,os⟩:=s;r I.step (h':=hh) (g':=g) (d':=d) (t':=t) (ch:=[a]) (fun b hb=>?_) (fun b o _ _ _ e _=>e) (fun b o _ _ _ e _=>⟨o.slots,e⟩) (fun b o hc _ n=>?_) (fun b o _ e=>⟨o,e⟩)
  (fun b xs e=>?_) (fun b u xs e=>?_) (fun b ps e=>⟨#[],?_⟩) (fun m hm=>hm) (fun b u e=>?_) I.bare
 ·h e:b=a:=by simpa using hb
  subst e;!⟨f3,f1,f4,f5⟩
 ·rw[Af (fun z=>hc (by simp[z]))]; !n
 ·rw[Af (ne b _ e)]; !e
 ·rw[Af (ne b _ e)]; !e
 ·rw[Af (ne b _ e),e]; simp
 ·by_cases hb:b=a
  ·subst hb; rw[Ab] at e; cases e; !new
  ·rw[Af hb] at e
   !(I.hok b u e).stay (fun _ _ _ q=>q) (fun c q=>by rw[Af (ne c _ q)]; !q) fun c xs q=>by rw[Af (ne c _ q)]; !q
end
def Ien(S:Hp->List V->Prop):It :=
 ⟨fun i H=>∃ xs x,S H xs/\xs[i]?=some x,fun i H v H'=>∃ T x,v=.ref T/\H T=none/\H'=upd H T (.tup [.int i,x])/\∀ xs,S H xs->xs[i]?=some x,fun i H=>∃ xs,S H xs/\xs.length=i⟩
theorem YW{P:Program}{w:World}{K:¨}{elts:List Expr}{k:Nat}{tp:Pos}{S:Hp->List V->Prop}{e it l:Addr}{St0:Nat->Heap->Prop}
  (hei:e≠it)
  (obj:∀ i h,St0 i h->∃ o,h.get? it=some o/\∀ v,o.data≠.cell v)
  (keep:∀ i h h',St0 i h->(∀ o,h.get? it=some o->h'.get? it=some o)->St0 i h')
  (drw:∀(X:Cx),X.prog=P->X.w=w->X.K=K->X.calm=true->∀(i:Nat) (pins:List ⑤) (s:Shared) (σ:St) (H:Hp) (xs:List V),Inv X pins σ H s->St0 i s.heap->(∃ old,IsEnum s.heap e it i old)->S H xs ->
   ∃(its:List Value) (fp:List Addr) (St:Nat->Heap->Prop),Vals xs its/\Draws P w X.A.in1 it fp its.toArray.size (fun i v=>its.toArray[i]?=some v) St/\St i s.heap/\e∉fp/\it∈fp/\(∀ j h,St j h->St0 j h))
  (inj:∀(X:Cx),X.K=K->∀(pins:List ⑤) (s:Shared) (σ:St) (H:Hp) (xs ys:List V),Inv X pins σ H s->S H xs->S H ys->xs=ys) :
  Turn P w K (.Tuple elts k tp) (Ien S) [e,it] e (fun i h=>(∃ old,IsEnum h e it i old)/\St0 i h) where
 mem:=by simp
 obj:=fun i h st b hb=>by
  o⟨⟨old,he⟩,hs⟩:=st;rcases List.mem_cons.mp hb with rfl | hb
  ·!⟨_,he,fun v z=>by
    h z':Data.fields _=Data.cell v:=z;cases z'⟩
  ·h e1:b=it:=by simpa using hb
   subst e1;!obj i h hs
 keep:=fun i h h' st k=>⟨let ⟨old,he⟩:=st.1; ⟨old,k e ¥ _ he⟩,keep i h h' st.2 fun o q=>k it ¥ o q⟩
 item:=by
  intro X hP hw hK hc i pins s σ H E I hf st hg;o⟨xs,x,hq,hx⟩:=hg;o⟨its,fp,St,rv,Dr,hst,hef,hif,hback⟩:=drw X hP hw hK hc i pins s σ H xs I st.2 st.1 hq;subst hP hw;o⟨u,hu,ru⟩:=rv.get hx;h hi:i<its.toArray.size:=by rw[List.size_toArray]; !(List.getElem?_eq_some_iff.mp hu).1
  h hu':its.toArray[i]?=some u:=by simpa using hu
  h WT:=WalksT.enumerateD Dr e hei hef hif;r WT.item i s _ _ hi ⟨st.1,hst⟩ fun T vals h' tk hPt hsz hT hmid hk=>⟨.ref T,rfl,?_⟩;o⟨t,y,hy,rfl⟩:=hPt;h hTw:T∉[e,it]:=WT.apart i T _ hmid;rw[hu'] at hy;h hy':u=y:=Option.some.inj hy;subst hy';h hwr:∀ b∈[e,it],FpOk X pins H b:=hf;h I1:Inv X pins σ H {s with heap:=h',toks:=tk}:=I.walked hk hwr;h hTn:H T=none:=I.hok.fresh hsz;h I2:Inv X pins σ (upd H T (.tup [.int i,x])) {s with heap:=h',toks:=tk}:=by
   r I1.track (I.fpOk hsz hTn) ⟨by show 2<=sizeLine; decide,[.int i t,u],.cons ⟨t,rfl⟩ (.cons ru .nil),?_⟩;!hT
  h hwr2:∀ b∈[e,it],FpOk X pins (upd H T (.tup [.int i,x])) b:=fun b hb=>by
   o⟨f0,fr⟩:=hf b hb;h ne:b≠T:=fun z=>hTw (by rw[<- z]; !hb);!⟨by rw[Af ne]; !f0,fr⟩
  r WT.go elts k tp i T _ _ _ hmid fun h'' hst'' hk''=>?_;r⟨.ref T,_,I2.walked (t':=tk) hk'' hwr2,rfl,⟨T,x,rfl,hTn,rfl,fun ys hy=>by rw[inj X hK pins s σ H ys xs I hy hq]; !hx⟩,⟨hst''.1,hback _ _ hst''.2⟩,fun b hb=>(hwr2 b hb).1⟩
 done:=by
  intro X hP hw hK hc i pins s σ H E I hf st hg;o⟨xs,hq,hx⟩:=hg;o⟨its,fp,St,rv,Dr,hst,hef,hif,hback⟩:=drw X hP hw hK hc i pins s σ H xs I st.2 st.1 hq;subst hP hw;h hl:=rv.length;h hi:i=its.toArray.size:=by rw[List.size_toArray]; w
  subst hi;!(WalksT.enumerateD Dr e hei hef hif).done s _ _ ⟨st.1,hst⟩ fun h' tk hk=>⟨rfl,I.walked hk hf⟩
 self:=fun A i s Q E st h=>by
  o⟨⟨old,he⟩,_⟩:=st;!wpAny_pyIter_enum he h
theorem ZR{h:Heap}{a b:Addr}{o u:Obj}(ha:h.get? a=some o)(hb:h.get? b=some u)(hc:o.cls≠u.cls):a≠b:=fun e=>by
 subst e; rw[ha] at hb; cases hb; !hc rfl
theorem VF{P:Program}{w:World}{K:¨}{elts:List Expr}{k:Nat}{tp:Pos}{e it a:Addr}(hei:e≠it) :
  Turn P w K (.Tuple elts k tp) (Ien fun H xs=>SqT K H a xs) [e,it] e (fun i h=>(∃ old,IsEnum h e it i old)/\h.IsTupleIter it a i):=by
 r YW (l:=a) hei (fun i h st=>?_) (fun i h h' st k=>st.at k) (fun X hP hw hK hc i pins s σ H xs I st he hq=>?_) (fun X hK pins s σ H xs ys I h1 h2=>?_)
 ·o⟨o,e,c,d⟩:=st
  !⟨o,e,fun v z=>by rw[d] at z; cases z⟩
 ·subst hP hw hK
  o⟨its,rv,p,hz⟩:=I.tuple hq;o⟨old,he⟩:=he;o⟨ol,hol,hcl,_⟩:=id p;o⟨oi,hoi,hci,_⟩:=id st;h h1:a≠it:=ZR hol hoi (by rw[hcl,hci]; decide);h h2:e≠a:=ZR he hol (by rw[hcl]; show Value.type "enumerate"≠Value.type "tuple"; decide);!⟨its,[it,a],_,rv,Rq (A:=X.A.in1) (I.ok.hd hc) it a h1 its.toArray,⟨st,p⟩,by simp[hei,h2],by simp,fun j h z=>z.1⟩
 ·subst hK
  !I.tuple_inj h1 h2
section
variable{X:Cx}{elts:List Expr}{k:Nat}{tp:Pos}
def AFe(K:¨)(ta:TA):TI:=fun σ H R=>ta σ H fun vs H1=>∃ a,vs=[.ref a]/\(∃ xs,SqT K H1 a xs)/\R (Ien fun H xs=>SqT K H a xs) H1
theorem Ke{l:Expr}{ta:TA}{p pos:Pos}(hg:Gl X "enumerate")(hm:X.mg "enumerate" = none)(ha:PA X [l] ta)(hs:starEach [l] X.env=[(false,eval l X.env)]:=by rfl) :
  PI X (.Tuple elts k tp) (.Call (.Name "enumerate" p) [l] [] pos) (AFe X.K ta):=by
 intro pins s σ H R I h;r Call_ (Ej I hg hm boot_enumerate (PyProof.Rows.callWith_type1 (thn (ha pos pins s σ H _ I h) fun us s1 ⟨vs,H1,I1,r1,q1⟩=>?_) hs rfl));o⟨a,rfl,⟨xs,hq⟩,q⟩:=q1;o⟨u,rfl,ru⟩:=r1.one;cases ru;o⟨its,rv,pl,hz⟩:=I1.tuple hq;r GQ pl fun h' he hit hsz hk=>wpAny_pyIter_enum he ?_;h I2:Inv X pins σ H1 {s1 with heap:=h'}:=I1.kept (t':=s1.toks) hk;r⟨s1.heap.objs.size+1,[s1.heap.objs.size+1,s1.heap.objs.size],_,_,H1,rfl,I2,VF (Nat.succ_ne_self _),⟨⟨_,he⟩,hit⟩,fun b hb=>?_,q⟩;h e:s1.heap.objs.size<=b:=by
  rcases List.mem_cons.mp hb with rfl | hb
  ·!Nat.le_succ _
  ·rw[List.mem_singleton.mp hb]; !Nat.le_refl _
 !I1.fpOk e (I1.hok.fresh e)
end
theorem IV{J:It}{D:Addr}{g:TG}{tc:TT}{te:TE}{R:Hp->Prop}{τ:St}{H:Hp}(n:Nat)(Pv:Nat->St->Hp->Prop)(h0:Pv 0 τ H)(hgo:∀ i τ H,i<n->Pv i τ H->J.go i H)(hstop:∀ τ H,Pv n τ H->J.stop n H)
  (hs:∀ i τ H x H',i<n->Pv i τ H->J.yld i H x H'->g x τ H' fun τ2 H2=>tc τ2 H2 fun b H3=>if b=true then te τ2 H3 fun v H4=>∃ ys,H4 D=some (.lst ys)/\ys.length<sizeLine/\Pv (i+1) τ2 (upd H4 D (.lst (ys++[v]))) else Pv (i+1) τ2 H3)
  (hd:∀ τ H,Pv n τ H->R H):Eo J D g tc te R τ H:=by
 r⟨fun i m τ H=>m=n-i/\i<=n/\Pv i τ H,⟨n,by simp,Nat.zero_le _,h0⟩,?_⟩;rintro i m τ H ⟨rfl,hi,p⟩;by_cases hlt:i<n
 ·!.inr ⟨hgo i τ H hlt p,Pv (i+1),fun τ' H' p'=>⟨n-(i+1),by w,rfl,hlt,p'⟩,fun x H' y=>hs i τ H x H' hlt p y⟩
 ·h e:i=n:=by w
  subst e;!.inl ⟨hstop τ H p,hd τ H p⟩
section
variable{prog:Program}{w:World}{A:Around}{E:Value->Shared->Prop}{s:Shared}
theorem Mi{l:Addr}{vs:List Value}{Q:List Value->Shared->Prop}(hl:s.heap.IsTuple l vs.toArray)
  (h:Q vs {s with heap:=(s.heap.push (seqObj "list" #[] 0)).update ¸ (Obj.mapSeq (·++vs.toArray))}) (hsz:vs.length<=sizeLine:=by size_fits) :
  wpAny ① A (collect (.ref l)) Q E s:=by
 o⟨o,ho,hc,n,hd⟩:=id hl;unfold collect;r wpAny_bind (wpAny_runValue (codeAny_builtin entry_proto_collect' ?_));show wpAny _ _ (do again (.builtin "list.__iadd__" ⟨[<- newList [],.ref l],[]⟩)) _ _ s;r wpAny_bind (wpAny_newList (wpAny_pure ⟨Code.quiet_builtin _ £,codeAny_builtin entry_list_iadd' ?_⟩));show wpAny _ _ (Builtin.List.listExtendWith (.ref ¸) (.ref l) (.ref ¸)) _ _ {s with heap:=s.heap.push (seqObj "list" #[] 0)};unfold Builtin.List.listExtendWith;h ho':(s.heap.push (seqObj "list" #[] 0)).get? l=some o:=° _ ho;r wpAny_bind (wpAny_typeOf (T:="tuple") ⟨o,ho',hc⟩ ?_);h ht:(Value.type "tuple" == Value.type "tuple")=true:=by rfl
 rw[if_pos (by rw[ht]; simp)];r wpAny_bind (listItems_at ho' hd ?_);r wpAny_bind (listItems_at (xs:=#[]) (n:=0) (¿ _ rfl) rfl ?_);rw[if_neg ¥];r wpAny_bind (listUpdate_at (xs:=#[]) (n:=0) (¿ _ rfl) rfl ?_ (Nat.zero_le _) (by show (#[]++vs.toArray).size<=sizeLine+1; simp only[Array.size_append,List.size_toArray,List.length_nil]; w));r wpAny_pure ?_;show wpAny ① A (do
   let o <- load ¸
   match o.data with
   | .seq xs _=>pure xs.toList
   | _=>unsupported "internal:collect") Q E {s with heap:=(s.heap.push (seqObj "list" #[] 0)).update ¸ (Obj.mapSeq (·++vs.toArray))}
 r wpAny_bind (wpAny_load (get?_update_seq (¿ _ rfl) _) ?_);show wpAny _ _ (pure ((#[]:Array Value)++vs.toArray).toList) Q E _;rw[show ((#[]:Array Value)++vs.toArray).toList=vs by simp];!wpAny_pure h
theorem Qc{l:Addr}{vs:List Value}{ns:List Int}{Q:Value->Shared->Prop}(hl:s.heap.IsTuple l vs.toArray)(hI:IntsAre vs ns)(h64:vs.length<64)
  (h:∀(out:Array Value) (ns':List Int),IntsAre out.toList ns'->ns'.Perm ns->ns'.Pairwise (·<=·)->Q (.ref (¸+1)) {s with heap:=sortedAll s.heap vs out}) :
  wpAny ① A (call (.builtin "sorted") [.ref l]) Q E s:=by
 r Calls.call_function_entry kind_sorted plain_sorted entry_sorted (args_sorted1 _) ?_;unfold Builtin.«sorted»;r wpAny_bind (m:=checkCount "sorted" 1 1 _) (wpAny_pure ?_);r wpAny_bind (Mi hl ?_ (by
                       have:(64:Nat)<=sizeLine:=by decide
                       w))
 r wpAny_bind (wpAny_newList ?_);h hsz:((s.heap.push (seqObj "list" #[] 0)).update ¸ (Obj.mapSeq (·++vs.toArray))).objs.size=¸+1:=by
  rw[Heap.size_update,size_push']
 h hoL:(((s.heap.push (seqObj "list" #[] 0)).update ¸ (Obj.mapSeq (·++vs.toArray))).push (seqObj "list" vs.toArray 0)).get? (¸+1)=some (seqObj "list" vs.toArray 0):=by
  rw[<- hsz]; !¿ _ rfl
 show wpAny _ _ _ _ _ {s with heap:=((s.heap.push (seqObj "list" #[] 0)).update ¸ (Obj.mapSeq (·++vs.toArray))).push (seqObj "list" vs.toArray 0)};rw[hsz];r wpAny_bind (wpAny_holding (wpAny_call_entry slot_list_sort ⟨_,hoL,rfl⟩ entry_list_sort (list_sort_tree hoL hI h64 fun out ns' a1 a2 a3=>⟨_,rfl,?_⟩) (args_list_sort _)));!wpAny_pure ⟨_,rfl,h out ns' a1 a2 a3⟩
end
section
variable{X:Cx}
def ABo(K:¨):List V->Hp->VK->Prop:=fun xs H Q=>∃(p:Addr) (ns:List Int),xs=[.ref p]/\(SqL K H p ⑭\/SqT K H p ⑭)/\ns.length<64/\∀(l:Addr) (ms:List Int),H l=none->ms.Perm ns->ms.Pairwise (·<=·)->Q (.ref l) (upd H l (.lst (ms.map V.int)))
theorem Hv:∀{us:List Value}{ns:List Int},IntsAre us ns->Vals ⑭ us
 | _,_,.nil=>.nil
 | _,_,.cons n t r=>.cons ⟨t,rfl⟩ (Hv r)
theorem Rr:CallR X (.builtin "sorted") (ABo X.K):=by
 intro pins s σ H xs us Q I r h;o⟨p,ns,rfl,hq,h64,q⟩:=h;o⟨u,rfl,ru⟩:=r.one;cases ru;h fin:∀(its:List Value) (out:Array Value) (ms:List Int),IntsAre out.toList ms->ms.Perm ns->ms.Pairwise (·<=·)->EP X pins σ Q (.ref (¸+1)) {s with heap:=sortedAll s.heap its out}:=fun its out ms a1 a2 a3=>by
  o⟨e,he⟩:=sortedAll_at s.heap its out;h hn:H (¸+1)=none:=I.hok.fresh (Nat.le_succ _);h hv:=Hv a1;h hms:ms.length=ns.length:=a2.length_eq;r⟨.ref (¸+1),_,I.laid (a:=¸+1) (o:=.lst (ms.map V.int)) (t':=s.toks) (fun b o=>sortedAll_old) (Nat.le_succ _) ⟨?_,out.toList,e,hv,?_⟩,rfl,q _ ms hn a2 a3⟩
  ·rw[List.length_map,hms]
   !Nat.le_trans (Nat.le_of_lt h64) ¤
  ·rw[Array.toArray_toList]
   !he
 rcases hq with hq | hq
 ·o⟨its,rv,pl,hz⟩:=I.list hq
  h hl:=rv.length;rw[List.length_map] at hl;!sorted_ints pl.isList (intsAre_of rv) ¢ fun out ms a1 a2 a3=>fin its out ms a1 a2 a3
 ·o⟨its,rv,pl,hz⟩:=I.tuple hq
  h hl:=rv.length;rw[List.length_map] at hl;!Qc pl (intsAre_of rv) ¢ fun out ms a1 a2 a3=>fin its out ms a1 a2 a3
theorem Yd:CallR X (.builtin "isinstance") (fun xs H Q=>∃ p ys,xs=[.ref p,.ty "tuple"]/\SqT X.K H p ys/\Q (.bl true) H):=by
 intro pins s σ H xs us Q I r h;o⟨p,ys,rfl,hq,q⟩:=h;o⟨u,v,rfl,ru,rv⟩:=r.two;cases ru; cases rv;o⟨its,_,⟨o,ho,hc,_⟩,_⟩:=I.tuple hq;!IsiPair.tuple_tuple ho hc ⟨.bl true,H,I,rfl,q⟩
theorem Zj(hc:X.calm=true):CallR X (.builtin "min") (fun xs H Q=>∃ p a b,xs=[.ref p]/\SqT X.K H p [.int a,.int b]/\Q (.int (if b<a then b else a)) H):=by
 intro pins s σ H xs us Q I r h;o⟨p,a,b,rfl,hq,q⟩:=h;o⟨u0,rfl,ru⟩:=r.one;cases ru;o⟨its,rv,pl,hz⟩:=I.tuple hq;o⟨u1,u2,rfl,⟨t,rfl⟩,⟨u,rfl⟩⟩:=rv.two;h hT:s.heap.IsTuple p (intItems #[(a,t),(b,u)]):=by
  h e:(intItems #[(a,t),(b,u)])=[Value.int a t,Value.int b u].toArray:=by simp[intItems]
  rw[e]; !pl
 h hlt:p<¸:=by o⟨_,e,_⟩:=hT; !Heap.lt_size e
 r call_min_walk (wpAny_pyIter_tuple hT ?_);r⟨_,[_,p],[_],_,_,_,_,rfl,Walks.tuple (A:=X.A.in1) (I.ok.hd hc) _ p (Nat.ne_of_lt hlt) (intItems #[(a,t),(b,u)]),
  ⟨⟨_,¿ _ rfl,rfl,rfl⟩,hT.push _⟩,fun c hc=>?_,by simp[intItems],CmpOf.ints_lt (numAt #[(a,t),(b,u)]) (fun _ _=>intItems_at),fun v h' tk hP hk=>?_⟩
 ·show c<(s.heap.push _).objs.size
  rw[Heap.size_push];rcases List.mem_cons.mp hc with rfl | hc
  ·!Nat.lt_succ_self _
  ·rcases List.mem_cons.mp hc with rfl | hc
   ·!Nat.lt_succ_of_lt hlt
   ·cases hc
 ·h hold:∀ c o,s.heap.get? c=some o->h'.get? c=some o:=fun c o e=>by
   r hk c o (fun hm=>?_) (° _ e);rcases List.mem_cons.mp hm with e1 | hm
   ·have:=Heap.lt_size e; rw[e1] at this; !Nat.lt_irrefl _ this
   ·cases hm
  h hv:v=if b<a then Value.int b u else Value.int a t:=by
   h hP':(intItems #[(a,t),(b,u)])[argBest (fun i j=>decide (numAt #[(a,t),(b,u)] i<numAt #[(a,t),(b,u)] j)) 1]?=some v:=by
    h hsz2:(intItems #[(a,t),(b,u)]).size-1=1:=by simp[intItems]
    rw[<- hsz2]; !hP
   by_cases hba:b<a
   ·h e:argBest (fun i j=>decide (numAt #[(a,t),(b,u)] i<numAt #[(a,t),(b,u)] j)) 1=1:=by simp[argBest,numAt,hba]
    rw[e] at hP';simpa [intItems,hba] using hP'.symm
   ·h e:argBest (fun i j=>decide (numAt #[(a,t),(b,u)] i<numAt #[(a,t),(b,u)] j)) 1=0:=by simp[argBest,numAt,hba]
    rw[e] at hP';simpa [intItems,hba] using hP'.symm
  r⟨_,H,I.kept hold,?_,q⟩;rw[hv];by_cases hj:b<a
  ·rw[if_pos hj,if_pos hj]; !⟨_,rfl⟩
  ·rw[if_neg hj,if_neg hj]; !⟨_,rfl⟩
theorem ABS(hc:X.calm=true):CallR X (.builtin "max") (fun xs H Q=>∃ p a b,xs=[.ref p]/\SqT X.K H p [.int a,.int b]/\Q (.int (if b>a then b else a)) H):=by
 intro pins s σ H xs us Q I r h;o⟨p,a,b,rfl,hq,q⟩:=h;o⟨u0,rfl,ru⟩:=r.one;cases ru;o⟨its,rv,pl,hz⟩:=I.tuple hq;o⟨u1,u2,rfl,⟨t,rfl⟩,⟨u,rfl⟩⟩:=rv.two;h hT:s.heap.IsTuple p (intItems #[(a,t),(b,u)]):=by
  h e:(intItems #[(a,t),(b,u)])=[Value.int a t,Value.int b u].toArray:=by simp[intItems]
  rw[e]; !pl
 h hlt:p<¸:=by o⟨_,e,_⟩:=hT; !Heap.lt_size e
 r call_max_walk (wpAny_pyIter_tuple hT ?_);r⟨_,[_,p],[_],_,_,_,_,rfl,Walks.tuple (A:=X.A.in1) (I.ok.hd hc) _ p (Nat.ne_of_lt hlt) (intItems #[(a,t),(b,u)]),
  ⟨⟨_,¿ _ rfl,rfl,rfl⟩,hT.push _⟩,fun c hc=>?_,by simp[intItems],CmpOf.ints_gt (numAt #[(a,t),(b,u)]) (fun _ _=>intItems_at),fun v h' tk hP hk=>?_⟩
 ·show c<(s.heap.push _).objs.size
  rw[Heap.size_push];rcases List.mem_cons.mp hc with rfl | hc
  ·!Nat.lt_succ_self _
  ·rcases List.mem_cons.mp hc with rfl | hc
   ·!Nat.lt_succ_of_lt hlt
   ·cases hc
 ·h hold:∀ c o,s.heap.get? c=some o->h'.get? c=some o:=fun c o e=>by
   r hk c o (fun hm=>?_) (° _ e);rcases List.mem_cons.mp hm with e1 | hm
   ·have:=Heap.lt_size e; rw[e1] at this; !Nat.lt_irrefl _ this
   ·cases hm
  h hv:v=if b>a then Value.int b u else Value.int a t:=by
   h hP':(intItems #[(a,t),(b,u)])[argBest (fun i j=>decide (numAt #[(a,t),(b,u)] i>numAt #[(a,t),(b,u)] j)) 1]?=some v:=by
    h hsz2:(intItems #[(a,t),(b,u)]).size-1=1:=by simp[intItems]
    rw[<- hsz2]; !hP
   by_cases hba:b>a
   ·h e:argBest (fun i j=>decide (numAt #[(a,t),(b,u)] i>numAt #[(a,t),(b,u)] j)) 1=1:=by simp[argBest,numAt,hba]
    rw[e] at hP';simpa [intItems,hba] using hP'.symm
   ·h e:argBest (fun i j=>decide (numAt #[(a,t),(b,u)] i>numAt #[(a,t),(b,u)] j)) 1=0:=by simp[argBest,numAt,hba]
    rw[e] at hP';simpa [intItems,hba] using hP'.symm
  r⟨_,H,I.kept hold,?_,q⟩;rw[hv];by_cases hj:b>a
  ·rw[if_pos hj,if_pos hj]; !⟨_,rfl⟩
  ·rw[if_neg hj,if_neg hj]; !⟨_,rfl⟩
end
abbrev Rep(α:Type):=Hp->α->V->Prop
def rInt:Rep Int:=fun _ i v=>v=.int i
def rTup(K:¨){α:Type}(R:Rep α):Rep (List α):=fun H as v=>∃ p xs,v=.ref p/\SqT K H p xs/\Paired (R H) as xs
def rLst(K:¨){α:Type}(R:Rep α):Rep (List α):=fun H as v=>∃ p xs,v=.ref p/\SqL K H p xs/\Paired (R H) as xs
theorem Paired.get{α β:Type}{F:α->β->Prop}:∀{l₁:List α}{l₂:List β}{i:Nat}{b:β},Paired F l₁ l₂->l₂[i]?=some b->∃ a,l₁[i]?=some a/\F a b
 | _,_,_,_,.nil,e=>by simp at e
 | _,_,0,_,.cons r _,e=>by simp at e; subst e; !⟨_,rfl,r⟩
 | _,_,i+1,b,.cons _ t,e=>by
  o⟨a,h1,h2⟩:=Paired.get (i:=i) (b:=b) t (by simpa using e);!⟨a,by simpa using h1,h2⟩
theorem Paired.getL{α β:Type}{F:α->β->Prop}:∀{l₁:List α}{l₂:List β}{i:Nat}{a:α},Paired F l₁ l₂->l₁[i]?=some a->∃ b,l₂[i]?=some b/\F a b
 | _,_,_,_,.nil,e=>by simp at e
 | _,_,0,_,.cons r _,e=>by simp at e; subst e; !⟨_,rfl,r⟩
 | _,_,i+1,a,.cons _ t,e=>by
  o⟨b,h1,h2⟩:=Paired.getL (i:=i) (a:=a) t (by simpa using e);!⟨b,by simpa using h1,h2⟩
theorem Paired.app{α β:Type}{F:α->β->Prop}:∀{l₁ m₁:List α}{l₂ m₂:List β},Paired F l₁ l₂->Paired F m₁ m₂->Paired F (l₁++m₁) (l₂++m₂)
 | _,_,_,_,.nil,s=>s
 | _,_,_,_,.cons r t,s=>.cons r (Paired.app t s)
theorem Paired.one{α β:Type}{F:α->β->Prop}{a:α}{b:β}(h:F a b):Paired F [a] [b]:=.cons h .nil
theorem Paired.uniq{α β:Type}{F:α->β->Prop}(fn:∀ a a' b,F a b->F a' b->a=a'):∀{l₁ l₁':List α}{l₂:List β},Paired F l₁ l₂->Paired F l₁' l₂->l₁=l₁'
 | _,_,_,.nil,.nil=>rfl
 | _,_,_,.cons r t,.cons r' t'=>by rw[fn _ _ _ r r',Paired.uniq fn t t']
theorem paired_ints{H:Hp}:∀(ns:List Int),Paired (rInt H) ns ⑭
 | []=>.nil
 | _::r=>.cons rfl (paired_ints r)
theorem GX{H:Hp}:∀{ns:List Int}{xs:List V},Paired (rInt H) ns xs->xs=ns.map V.int
 | _,_,.nil=>rfl
 | _,_,.cons r t=>by rw[List.map_cons,<- GX t]; !congrArg (·::_) r
structure Dat(X:Cx){α:Type}[DecidableEq α](n:Nat)(R:Rep α):Prop where
 eq:∀(pins:List ⑤) (s:Shared) (σ:St) (H:Hp) (A:Around) (a b:α) (x y:V) (u v:Value),Inv X pins σ H s->A.units+n<cLine->R H a x->R H b y->RelV x u->RelV y v->SeqAt.EqAt A s u v (decide (a=b))
 fn:∀(pins:List ⑤) (s:Shared) (σ:St) (H:Hp) (a b:α) (x:V),Inv X pins σ H s->R H a x->R H b x->a=b
section
variable{X:Cx}{α:Type}[DecidableEq α]{n:Nat}{R:Rep α}
theorem DG:Dat X 0 rInt where
 eq:=fun pins s σ H A a b x y u v I hu ha hb ru rv=>by
  cases ha; cases hb;o⟨t,rfl⟩:=ru;o⟨t',rfl⟩:=rv;h e:=SeqAt.EqAt.int_int (A:=A) (s:=s) a t b t';rw[Bool.beq_eq_decide_eq] at e;!e
 fn:=fun pins s σ H a b x I ha hb=>by
  cases ha;!(V.int.inj hb)
theorem Lg{as bs:List α}{m k:Nat}(h1:as.length=m)(h2:bs.length=k):((List.range (min m k)).all (fun j=>decide (as[j]?=bs[j]?))&&m==k)=decide (as=bs):=by
 subst h1; subst h2;by_cases e:as=bs
 ·subst e
  simp
 ·rw[decide_eq_false e]
  cases q:((List.range (min as.length bs.length)).all (fun j=>decide (as[j]?=bs[j]?))&&as.length==bs.length) with
  | false=>rfl
  | true =>
   rw[Bool.and_eq_true] at q;o⟨q1,q2⟩:=q;h hl:as.length=bs.length:=by simpa using q2
   r absurd (List.ext_getElem? fun j=>?_) e;by_cases hj:j<as.length
   ·!of_decide_eq_true (List.all_eq_true.mp q1 j (List.mem_range.mpr ¢))
   ·rw[List.getElem?_eq_none ¢,List.getElem?_eq_none ¢]
theorem SQ{as bs:List α}{m:Nat}(h1:as.length=m)(h2:bs.length=m):((List.range m).all (fun j=>decide (as[j]?=bs[j]?)))=decide (as=bs):=by
 h e:=Lg h1 h2;rw[Nat.min_self,beq_self_eq_true,Bool.and_true] at e;!e
theorem Dat.place(D:Dat X n R){pins:List ⑤}{s:Shared}{σ:St}{H:Hp}{A:Around}(I:Inv X pins σ H s)(hu:A.units+n<cLine){as bs:List α}{xs ys:List V}{its jts:List Value}
  (pa:Paired (R H) as xs) (pb:Paired (R H) bs ys) (ra:Vals xs its) (rb:Vals ys jts):∀(j:Nat) (h1:j<its.toArray.size) (h2:j<jts.toArray.size),SeqAt.EqAt A s its.toArray[j] jts.toArray[j] (decide (as[j]?=bs[j]?)):=by
 intro j h1 h2;rw[List.size_toArray] at h1 h2;h hx:j<xs.length:=by rw[ra.length]; !h1
 h hy:j<ys.length:=by rw[rb.length]; !h2
 h ex:xs[j]?=some xs[j]:=± hx;h ey:ys[j]?=some ys[j]:=± hy;o⟨u,hu1,ru⟩:=ra.get ex;o⟨v,hv1,rv⟩:=rb.get ey;o⟨a,ha,qa⟩:=Paired.get pa ex;o⟨b,hb,qb⟩:=Paired.get pb ey;h e1:its.toArray[j]=u:=by
  rw[List.getElem_toArray];rw[± h1] at hu1;!Option.some.inj hu1
 h e2:jts.toArray[j]=v:=by
  rw[List.getElem_toArray];rw[± h2] at hv1;!Option.some.inj hv1
 rw[e1,e2,ha,hb];h e3:decide (some a=some b)=decide (a=b):=by simp
 rw[e3];!D.eq pins s σ H A a b _ _ u v I hu qa qb ru rv
theorem Gp(D:Dat X n R):Dat X (n+1) (rTup X.K R) where
 eq:=fun pins s σ H A as bs x y u v I hu ha hb ru rv=>by
  o⟨p,xs,rfl,hp,pa⟩:=ha;o⟨q,ys,rfl,hq,pb⟩:=hb;cases ru; cases rv;by_cases e:p=q
  ·subst e
   h exy:=I.tuple_inj hp hq;subst exy;h eab:as=bs:=Paired.uniq (fun a a' b h1 h2=>D.fn pins s σ H a a' b I h1 h2) pa pb;subst eab;rw[decide_eq_true rfl];!SeqAt.EqAt.same _
  ·o⟨its,ra,ta,_⟩:=I.tuple hp
   o⟨jts,rb,tb,_⟩:=I.tuple hq;h l1:as.length=its.toArray.size:=by rw[List.size_toArray,<- ra.length]; !Paired.length pa
   h l2:bs.length=jts.toArray.size:=by rw[List.size_toArray,<- rb.length]; !Paired.length pb
   h r:=SeqAt.RcAt.tuples (A:=A) (s:=s) (e:=fun j=>decide (as[j]?=bs[j]?)) ta tb ¢ (D.place (A:=A.in1) I (by show A.units+1+n<cLine; w) pa pb ra rb);rw[Lg l1 l2] at r;!.of_refs e r
 fn:=fun pins s σ H as bs x I ha hb=>by
  o⟨p,xs,rfl,hp,pa⟩:=ha;o⟨q,ys,e,hq,pb⟩:=hb;cases e;h exy:=I.tuple_inj hp hq;subst exy;!Paired.uniq (fun a a' b h1 h2=>D.fn pins s σ H a a' b I h1 h2) pa pb
theorem Sy(D:Dat X n R){pins:List ⑤}{s:Shared}{σ:St}{H:Hp}{A:Around}(I:Inv X pins σ H s)(hu:A.units+(n+1)<cLine){p q:Addr}{as bs:List α}{xs ys:List V}
  (hp:SqL X.K H p xs) (hq:SqL X.K H q ys) (pa:Paired (R H) as xs) (pb:Paired (R H) bs ys):SeqAt.RcAt A s (.ref p) (.ref q) (decide (as=bs))/\SeqAt.RcNeAt A s (.ref p) (.ref q) (!decide (as=bs)):=by
 o⟨its,ra,ta,_⟩:=I.list hp;o⟨jts,rb,tb,_⟩:=I.list hq;h l1:as.length=its.toArray.size:=by rw[List.size_toArray,<- ra.length]; !Paired.length pa
 h l2:bs.length=jts.toArray.size:=by rw[List.size_toArray,<- rb.length]; !Paired.length pb
 by_cases hs:its.toArray.size=jts.toArray.size
 ·h r:=SeqAt.RcAt.lists (A:=A) (s:=s) (e:=fun j=>decide (as[j]?=bs[j]?)) ta.isList tb.isList hs ¢ (D.place (A:=A.in1) I (by show A.units+1+n<cLine; w) pa pb ra rb)
  h r':=SeqAt.RcNeAt.lists (A:=A) (s:=s) (e:=fun j=>decide (as[j]?=bs[j]?)) ta.isList tb.isList hs ¢ (D.place (A:=A.in1) I (by show A.units+1+n<cLine; w) pa pb ra rb);rw[SQ l1 (l2.trans hs.symm)] at r r';!⟨r,r'⟩
 ·h hb:(its.toArray.size != jts.toArray.size)=true:=by simpa using hs
  h e:as≠bs:=fun e=>hs (by rw[<- l1,<- l2,e]);rw[decide_eq_false e];!⟨SeqAt.RcAt.lists_lengths ta.isList tb.isList hb ¢,SeqAt.RcNeAt.lists_lengths ta.isList tb.isList hb ¢⟩
def rEqL(K:¨){α:Type}[DecidableEq α](R:Rep α):R2:=fun x y H Q=>∃ as bs,rLst K R H as x/\rLst K R H bs y/\Q (.bl (decide (as=bs))) H
def rNeL(K:¨){α:Type}[DecidableEq α](R:Rep α):R2:=fun x y H Q=>∃ as bs,rLst K R H as x/\rLst K R H bs y/\Q (.bl (!decide (as=bs))) H
theorem Qf(D:Dat X n R)(hu:X.A.units+(n+1)<cLine):OpR X (compareOp .Eq) (rEqL X.K R):=by
 intro pins s σ H x y v u Q I rx ry h;o⟨as,bs,⟨p,xs,rfl,hp,pa⟩,⟨q,ys,rfl,hq,pb⟩,h⟩:=h;cases rx; cases ry;!(Sy D I hu hp hq pa pb).1 X.prog X.w _ _ ⟨.bl _,H,I,rfl,h⟩
theorem QC(D:Dat X n R)(hu:X.A.units+(n+1)<cLine):OpR X (compareOp .NotEq) (rNeL X.K R):=by
 intro pins s σ H x y v u Q I rx ry h;o⟨as,bs,⟨p,xs,rfl,hp,pa⟩,⟨q,ys,rfl,hq,pb⟩,h⟩:=h;cases rx; cases ry;!(Sy D I hu hp hq pa pb).2 X.prog X.w _ _ ⟨.bl _,H,I,rfl,h⟩
open Classical in
noncomputable def isDat(R:Rep α)(H:Hp)(a:α)(u:Value):Bool:=decide (∃ z,RelV z u/\R H a z)
theorem Rm(D:Dat X n R){pins:List ⑤}{s:Shared}{σ:St}{H:Hp}(I:Inv X pins σ H s){a b:α}{z:V}{u:Value}(rz:RelV z u)(hb:R H b z):isDat R H a u=decide (b=a):=by
 unfold isDat;by_cases e:b=a
 ·subst e
  rw[decide_eq_true rfl];!@decide_eq_true _ (Classical.propDecidable _) ⟨z,rz,hb⟩
 ·rw[decide_eq_false e]
  r @decide_eq_false _ (Classical.propDecidable _) ?_;rintro⟨z',rz',h'⟩;h ez:z'=z:=rz'.inj rz;subst ez;!e (D.fn pins s σ H b a z' I hb h')
theorem Hx(D:Dat X n R){pins:List ⑤}{s:Shared}{σ:St}{H:Hp}(I:Inv X pins σ H s){a:α}:∀{as:List α}{xs:List V}{its:List Value},Paired (R H) as xs->Vals xs its->its.any (isDat R H a)=decide (a∈as)
 | _,_,_,.nil,.nil=>by simp
 | _,_,_,.cons (l₁:=as) r t,.cons rv tv=>by
  rw[List.any_cons,Rm D I rv r,Hx D I t tv]
  rename_i b _ _ _ _
  by_cases e:b=a
  ·subst e; simp
  ·h e':¬ a=b:=fun z=>e z.symm
   simp[e,e']
theorem Ip(D:Dat X n R){pins:List ⑤}{s:Shared}{σ:St}{H:Hp}{A:Around}(I:Inv X pins σ H s)(hu:A.units+n<cLine){a:α}{x:V}{v:Value}(rx:RelV x v)(ha:R H a x) :
  ∀{as:List α}{xs:List V}{its:List Value},Paired (R H) as xs->Vals xs its->∀ u∈its,SeqAt.EqAt A s u v (isDat R H a u)
 | _,_,_,.nil,.nil=>fun u hm=>by cases hm
 | _,_,_,.cons r t,.cons rv tv=>fun u hm=>by
  rcases List.mem_cons.mp hm with rfl | hm
  ·rw[Rm D I rv r]
   !D.eq pins s σ H A _ a _ x _ v I hu r ha rv rx
  ·!Ip D I hu rx ha t tv u hm
def rInL(K:¨){α:Type}[DecidableEq α](R:Rep α)(neg:Bool):R2:=fun x y H Q=>∃ a as,R H a x/\(rLst K R H as y\/rTup K R H as y)/\Q (.bl (if neg then !decide (a∈as) else decide (a∈as))) H
theorem ADg(D:Dat X n R)(hu:X.A.units+(n+1)<cLine):OpR X (compareOp .In) (rInL X.K R false):=by
 intro pins s σ H x y v u Q I rx ry h;o⟨a,as,ha,hs,h⟩:=h;h hu1:X.A.in1.units+n<cLine:=by show X.A.units+1+n<cLine; w
 rcases hs with⟨p,xs,rfl,hp,pa⟩ | ⟨p,xs,rfl,hp,pa⟩
 ·cases ry
  o⟨its,r,pl,_⟩:=I.list hp;r SeqAt.in_listAt (isDat R H a) pl.isList (fun w hw=>Ip D I hu1 rx ha pa r w (by simpa using hw)) ⟨.bl _,H,I,rfl,?_⟩;rw[show its.toArray.any (isDat R H a)=its.any (isDat R H a) by simp,Hx D I pa r];!h
 ·cases ry
  o⟨its,r,pl,_⟩:=I.tuple hp;r SeqAt.in_tupleAt (isDat R H a) pl (fun w hw=>Ip D I hu1 rx ha pa r w (by simpa using hw)) ⟨.bl _,H,I,rfl,?_⟩;rw[show its.toArray.any (isDat R H a)=its.any (isDat R H a) by simp,Hx D I pa r];!h
theorem Oc(D:Dat X n R)(hu:X.A.units+(n+1)<cLine):OpR X (compareOp .NotIn) (rInL X.K R true):=by
 intro pins s σ H x y v u Q I rx ry h;o⟨a,as,ha,hs,h⟩:=h;h hu1:X.A.in1.units+n<cLine:=by show X.A.units+1+n<cLine; w
 rcases hs with⟨p,xs,rfl,hp,pa⟩ | ⟨p,xs,rfl,hp,pa⟩
 ·cases ry
  o⟨its,r,pl,_⟩:=I.list hp;r SeqAt.notIn_listAt (isDat R H a) pl.isList (fun w hw=>Ip D I hu1 rx ha pa r w (by simpa using hw)) ⟨.bl _,H,I,rfl,?_⟩;rw[show its.toArray.any (isDat R H a)=its.any (isDat R H a) by simp,Hx D I pa r];!h
 ·cases ry
  o⟨its,r,pl,_⟩:=I.tuple hp;r SeqAt.notIn_tupleAt (isDat R H a) pl (fun w hw=>Ip D I hu1 rx ha pa r w (by simpa using hw)) ⟨.bl _,H,I,rfl,?_⟩;rw[show its.toArray.any (isDat R H a)=its.any (isDat R H a) by simp,Hx D I pa r];!h
end
def TSm(H H':Hp):Prop:=∀ b u,H b=some u->(∃ xs,u=.tup xs\/∃ o,u=.frz o (.tup xs))->H' b=some u
theorem TSm.trans{H H1 H2:Hp}(a:TSm H H1)(b:TSm H1 H2):TSm H H2:=fun c u h t=>b c u (a c u h t) t
theorem Same.ts{H H':Hp}(e:Same H H'):TSm H H':=fun b u h _=>e b u h
theorem TSm.lst{H:Hp}{l:Addr}{xs:List V}{o:HO}(h:H l=some (.lst xs)):TSm H (upd H l o):=fun b u hb t=>by
 rw[Af ?_]
 ·!hb
 ·rintro rfl
  rw[h] at hb;cases hb;o⟨ys,e | ⟨o,e⟩⟩:=t
  ·cases e
  ·cases e
theorem TSm.new{H:Hp}{p:Addr}{o:HO}(h:H p=none):TSm H (upd H p o):=fun b u hb _=>by rw[Af (Ag hb h)]; !hb
theorem TSm.seq{K:¨}{H H':Hp}{a:Addr}{xs:List V}(e:TSm H H')(h:SqT K H a xs):SqT K H' a xs:=by
 rcases h with (h | ⟨o,h⟩) | h
 ·!.inl (.inl (e _ _ h ⟨xs,.inl rfl⟩))
 ·!.inl (.inr ⟨o,e _ _ h ⟨xs,.inr ⟨o,rfl⟩⟩⟩)
 ·!.inr h
theorem Paired.imp{α β:Type}{F G:α->β->Prop}(f:∀ a b,F a b->G a b):∀{l₁:List α}{l₂:List β},Paired F l₁ l₂->Paired G l₁ l₂
 | _,_,.nil=>.nil
 | _,_,.cons r t=>.cons (f _ _ r) (Paired.imp f t)
def TRep{α:Type}(R:Rep α):Prop:=∀ H H' a x,TSm H H'->R H a x->R H' a x
theorem Az:TRep rInt:=fun _ _ _ _ _ h=>h
theorem Aq{K:¨}{α:Type}{R:Rep α}(t:TRep R):TRep (rTup K R):=fun H H' as x e h=>by
 o⟨p,xs,rfl,hp,pa⟩:=h;!⟨p,xs,rfl,e.seq hp,Paired.imp (fun a b=>t H H' a b e) pa⟩
theorem Same.new{H:Hp}{p:Addr}(h:H p=none)(o:HO):Same H (upd H p o):=fun b u q=>by rw[Af (Ag q h)]; !q
abbrev rPair(K:¨):Rep ⑧:=rTup K rInt
theorem Es{K:¨}{H:Hp}{p:Addr}{ns:List Int}(h:H p=some (.tup ⑭)):rPair K H ns (.ref p):=⟨p,_,rfl,SqT.of h,paired_ints ns⟩
theorem Cz{K:¨}{H:Hp}{ns:List Int}{x:V}(h:rPair K H ns x):∃ p,x=.ref p/\SqT K H p ⑭:=by
 o⟨p,xs,rfl,hp,pa⟩:=h;rw[GX pa] at hp;!⟨p,rfl,hp⟩
def rSeq(K:¨):Rep ⑧:=fun H t x=>rLst K rInt H t x\/rPair K H t x
theorem AAT{K:¨}{H:Hp}{ns:List Int}{x:V}(h:rSeq K H ns x):∃ p,x=.ref p/\(SqL K H p ⑭\/SqT K H p ⑭):=by
 rcases h with⟨p,xs,rfl,hp,pa⟩ | h
 ·rw[GX pa] at hp
  !⟨p,rfl,.inl hp⟩
 ·o⟨p,e,hp⟩:=Cz h
  !⟨p,e,.inr hp⟩
section
variable{K:¨}{a D:Addr}{xs:List V}{g:TG}{tc:TT}{te:TE}{R:Hp->Prop}{τ:St}{H:Hp}
abbrev putD(D:Addr)(N:St->Hp->Prop)(te:TE)(τ2:St):Bool->Hp->Prop:=fun b H3=>if b=true then te τ2 H3 fun v H4=>∃ ys,H4 D=some (.lst ys)/\ys.length<sizeLine/\N τ2 (upd H4 D (.lst (ys++[v]))) else N τ2 H3
theorem yesD{N:St->Hp->Prop}(h:te τ H fun v H4=>∃ ys,H4 D=some (.lst ys)/\ys.length<sizeLine/\N τ (upd H4 D (.lst (ys++[v])))):ADV τ H (putD D N te τ):=by
 show putD D N te τ true H;unfold putD;rw[if_pos rfl];!h
theorem yesN{N:St->Hp->Prop}{i:Nat}{x:V}(h:te (τ.set i (some x)) H fun v H4=>∃ ys,H4 D=some (.lst ys)/\ys.length<sizeLine/\N (τ.set i (some x)) (upd H4 D (.lst (ys++[v])))):gName i x τ H fun τ2 H2=>ADV τ2 H2 (putD D N te τ2):=yesD h
theorem Ck(Pv:Nat->St->Hp->Prop)(h0:Pv 0 τ H)(hl:∀ i τ H,i<=xs.length->Pv i τ H->SqL K H a xs)
  (hs:∀ i x τ H,xs[i]?=some x->Pv i τ H->g x τ H fun τ2 H2=>tc τ2 H2 (putD D (Pv (i+1)) te τ2)) (hd:∀ τ H,Pv xs.length τ H->R H):Eo (Itl K a) D g tc te R τ H:=by
 r IV xs.length Pv h0 (fun i τ H hi p=>⟨xs,xs[i],hl i τ H (Nat.le_of_lt hi) p,by simp[hi]⟩) (fun τ H p=>⟨xs,hl _ τ H ③ p,Nat.le_refl _⟩) (fun i τ H x H' hi p y=>?_) hd;o⟨e,y⟩:=y;subst e;!hs i x τ _ (y xs (hl i τ _ (Nat.le_of_lt hi) p)) p
theorem YF(Pv:Nat->St->Hp->Prop)(h0:Pv 0 τ H)(hl:∀ i τ H,i<=xs.length->Pv i τ H->SqT K H a xs)
  (hs:∀ i x τ H,xs[i]?=some x->Pv i τ H->g x τ H fun τ2 H2=>tc τ2 H2 (putD D (Pv (i+1)) te τ2)) (hd:∀ τ H,Pv xs.length τ H->R H):Eo (Itt K a) D g tc te R τ H:=by
 r IV xs.length Pv h0 (fun i τ H hi p=>⟨xs,xs[i],hl i τ H (Nat.le_of_lt hi) p,by simp[hi]⟩) (fun τ H p=>⟨xs,hl _ τ H ③ p,Nat.le_refl _⟩) (fun i τ H x H' hi p y=>?_) hd;o⟨e,y⟩:=y;subst e;!hs i x τ _ (y xs (hl i τ _ (Nat.le_of_lt hi) p)) p
theorem Cj{lo:Int}{n:Nat}(Pv:Nat->St->Hp->Prop)(h0:Pv 0 τ H)
  (hs:∀ i τ H,i<n->Pv i τ H->g (.int (lo+i)) τ H fun τ2 H2=>tc τ2 H2 (putD D (Pv (i+1)) te τ2)) (hd:∀ τ H,Pv n τ H->R H):Eo (Itr lo n) D g tc te R τ H:=by
 r IV n Pv h0 (fun i τ H hi p=>hi) (fun τ H p=>Nat.le_refl _) (fun i τ H x H' hi p y=>?_) hd;o⟨e,y⟩:=y;subst e y;!hs i τ _ hi p
theorem HW{S:Hp->List V->Prop}(Pv:Nat->St->Hp->Prop)(h0:Pv 0 τ H)(hl:∀ i τ H,i<=xs.length->Pv i τ H->S H xs)
  (hs:∀ i x τ H T,xs[i]?=some x->H T=none->Pv i τ H->g (.ref T) τ (upd H T (.tup [.int i,x])) fun τ2 H2=>tc τ2 H2 (putD D (Pv (i+1)) te τ2)) (hd:∀ τ H,Pv xs.length τ H->R H):Eo (Ien S) D g tc te R τ H:=by
 r IV xs.length Pv h0 (fun i τ H hi p=>⟨xs,xs[i],hl i τ H (Nat.le_of_lt hi) p,by simp[hi]⟩) (fun τ H p=>⟨xs,hl _ τ H ③ p,rfl⟩) (fun i τ H x H' hi p y=>?_) hd;o⟨T,z,rfl,hT,rfl,y⟩:=y;!hs i z τ H T (y xs (hl i τ _ (Nat.le_of_lt hi) p)) hT p
end
theorem CW{A:Around}{k n:Nat}(hr:Room k A)(h:n<=64:=by decide):A.units+n<cLine:=Nat.lt_of_le_of_lt (Nat.add_le_add_left h _) hr.units
section
variable{X:Cx}{K:¨}{pos:Pos}
theorem Ft(hK:X.K=K){es:List Expr}{k:Nat}{t:TGs}{n:Nat}(hc:X.calm=true)(h:PGs X es t)
  (hn:(assignEach es X.env).length=n:=by rfl) (hst:(assignEach es X.env).findIdx? (·.1)=none:=by rfl):PG X (.Tuple es k pos) (gTup K n t):=by subst hK; !Vg hc h hn hst
theorem Fg(hK:X.K=K):OpR X (compareOp .In) (rIn K false):=by subst hK; !Oa
theorem Mh(hK:X.K=K):OpR X (compareOp .NotIn) (rIn K true):=by subst hK; !Qg
theorem HF(hK:X.K=K):CallR X (.builtin "len") (fun xs H Q=>∃ p ys,xs=[.ref p]/\(SqL K H p ys\/SqT K H p ys)/\Q (.int ys.length) H):=by subst hK; !BZ
theorem YX(hK:X.K=K)(hc:X.calm=true):CallR X (.builtin "min") (fun xs H Q=>∃ p a b,xs=[.ref p]/\SqT K H p [.int a,.int b]/\Q (.int (if b<a then b else a)) H):=by subst hK; !Zj hc
theorem Xi(hK:X.K=K)(hc:X.calm=true):CallR X (.builtin "max") (fun xs H Q=>∃ p a b,xs=[.ref p]/\SqT K H p [.int a,.int b]/\Q (.int (if b>a then b else a)) H):=by subst hK; !ABS hc
theorem AAy(hK:X.K=K):IxR X (rIxL K):=by subst hK; !Bl
theorem ACH(hK:X.K=K):IxR X (rIxT K):=by subst hK; !Dn
end
theorem EY(x:Int):∀(tie:List Int),inV (.int x) (tie.map V.int)=decide (x∈tie)
 | []=>rfl
 | z::r=>by
  h ih:=EY x r;unfold inV at ih ⊢;rw[List.map_cons,List.any_cons,ih];show ((z==x)||decide (x∈r))=decide (x∈z::r);by_cases e:z=x
  ·subst e; simp
  ·h e':¬ x=z:=fun q=>e q.symm
   simp[e,e']
theorem iteNN{c A B:Prop}{inst:Decidable c}(hc:¬ c)(h:A):if (!decide c)=true then A else B:=by
 rw[decide_eq_false hc];!iteT h
theorem iteNP{c A B:Prop}{inst:Decidable c}(hc:c)(h:B):if (!decide c)=true then A else B:=by
 rw[decide_eq_true hc];!iteF h
theorem iteN{c A B:Prop}{inst:Decidable c}(hc:¬ c)(h:B):if decide c=true then A else B:=by
 rw[decide_eq_false hc];!iteF h
theorem iteP{c A B:Prop}{inst:Decidable c}(hc:c)(h:A):if decide c=true then A else B:=by
 rw[decide_eq_true hc];!iteT h
theorem Zf{ns:List Int}{k:Int}(h0:0<=k)(h:k<(ns.length:Int)):∃ v:Int,atI ⑭ k=some (.int v):=by
 h hk:k.toNat<ns.length:=by w
 h ek:k=((k.toNat:Nat):Int):=by w
 h q:atI ⑭ ((k.toNat:Nat):Int)=some (.int ns[k.toNat]):=Bm (by rw[List.getElem?_map,± hk]<;>rfl);rw[<- ek] at q;!⟨_,q⟩
theorem small{n:Nat}(h:n<=1000):n<=sizeLine:=Nat.le_of_lt (Ay h)
def srt:List Int->List Int
 | [a,b]=>if b<a then [b,a] else [a,b]
 | t=>t
theorem Et(a b:Int):srt [a,b]=if b<a then [b,a] else [a,b]:=rfl
theorem ACV{t:List Int}{p:Int}:p∈srt t↔p∈t:=by
 unfold srt;split
 ·split
  ·simp[or_comm]
  ·rfl
 ·rfl
theorem YG{a b:Int}{ms:List Int}(h:ms.Perm [a,b])(s:ms.Pairwise (·<=·)):ms=srt [a,b]:=by
 h hl:=h.length_eq
 match ms,hl,h,s with
 | [x,y],_,h,s =>
  have hxy:x<=y:=by simpa using s
  have hx:x∈[a,b]:=h.mem_iff.mp ¥;have hy:y∈[a,b]:=h.mem_iff.mp ¥;have ha:a∈[x,y]:=h.mem_iff.mpr ¥;have hb:b∈[x,y]:=h.mem_iff.mpr ¥;simp only[List.mem_cons,List.not_mem_nil,or_false] at hx hy ha hb;rw[Et];split
  ·have e1:x=b:=by w
   have e2:y=a:=by w
   rw[e1,e2]
  ·have e1:x=a:=by w
   have e2:y=b:=by w
   rw[e1,e2]
def OkTie(m:Int)(t:List Int):Prop:=∃ a b,t=[a,b]/\0<=a/\a<m/\0<=b/\b<m/\a≠b
structure OkTies(m:Int)(as:List ⑧):Prop where
 ok:∀ t∈as,OkTie m t
 nd:(as.map srt).Nodup
theorem ABv{m:Int}{as:List ⑧}{a b:Int}(h:∀ t∈as,OkTie m t)(h1:[a,b]∉as)(h2:[b,a]∉as):srt [a,b]∉as.map srt:=by
 intro hm;o⟨t,ht,e⟩:=List.mem_map.mp hm;o⟨c,d,rfl,_⟩:=h t ht;h e':[c,d]=[a,b]\/[c,d]=[b,a]:=by
  rw[Et,Et] at e;split at e<;>split at e<;>simp only[List.cons.injEq,and_true] at e ⊢<;>w
 rcases e' with e' | e'
 ·!h1 (e' ▸ ht)
 ·!h2 (e' ▸ ht)
theorem OkTies.snoc{m:Int}{as:List ⑧}{a b:Int}(h:OkTies m as)(t:OkTie m [a,b])(h1:[a,b]∉as)(h2:[b,a]∉as):OkTies m (as++[[a,b]]):=by
 r⟨fun u hu=>?_,?_⟩
 ·rcases List.mem_append.mp hu with hu | hu
  ·!h.ok u hu
  ·rw[List.mem_singleton.mp hu]; !t
 ·rw[List.map_append,List.map_singleton,List.nodup_append]
  r⟨h.nd,by simp,fun x hx y hy e=>?_⟩;h hy':y=srt [a,b]:=by simpa using hy
  subst hy';!ABv h.ok h1 h2 (e ▸ hx)
theorem OkTies.take_new{m:Int}{as:List ⑧}{i:Nat}{t:List Int}(h:OkTies m as)(ht:as[i]?=some t):srt t∉(as.take i).map srt:=by
 intro hm;o⟨u,hu,e⟩:=List.mem_map.mp hm;o⟨j,hj,ej⟩:=List.mem_iff_getElem.mp hu;h hji:j<i:=by rw[List.length_take] at hj; w
 h hi:i<as.length:=(List.getElem?_eq_some_iff.mp ht).1;h et:as[i]=t:=(List.getElem?_eq_some_iff.mp ht).2;h eu:as[j]'¢=u:=by rw[<- ej,List.getElem_take]
 h hnd:=h.nd;have:=(List.getElem_inj (h₀:=by rw[List.length_map]; w) (h₁:=by rw[List.length_map]; w) hnd (i:=j) (j:=i)).mp (by rw[List.getElem_map,List.getElem_map,et,eu,e]);w
def BK(p:Int):Nat->List ⑧->List Int
 | _,[]=>[]
 | k,t::r=>if p∈t then (k:Int)::BK p (k+1) r else BK p (k+1) r
theorem Oe(p:Int)(t:List Int):∀(k:Nat) (as:List ⑧),BK p k (as++[t])=BK p k as++(if p∈t then [((k+as.length:Nat):Int)] else [])
 | k,[]=>by
  show (if p∈t then (k:Int)::BK p (k+1) [] else BK p (k+1) [])=_;split<;>simp[BK]
 | k,u::r=>by
  h ih:=Oe p t (k+1) r;h e:k+1+r.length=k+(u::r).length:=by simp; w
  rw[e] at ih;show (if p∈u then (k:Int)::BK p (k+1) (r++[t]) else BK p (k+1) (r++[t]))=(if p∈u then (k:Int)::BK p (k+1) r else BK p (k+1) r)++_;rw[ih];split<;>rfl
abbrev hits(p:Int)(as:List ⑧):List Int:=BK p 0 as
theorem NQ{p:Int}{as:List ⑧}{i:Nat}{t:List Int}(h:as[i]?=some t):hits p (as.take (i+1))=hits p (as.take i)++(if p∈t then [(i:Int)] else []):=by
 h hi:i<as.length:=(List.getElem?_eq_some_iff.mp h).1;h e:as.take (i+1)=as.take i++[t]:=by rw[List.take_add_one,h]; rfl
 rw[e,hits,Oe];have:0+(as.take i).length=i:=by rw[List.length_take]; w
 rw[this]
theorem Ht(p:Int):∀(k:Nat) (as:List ⑧),(BK p k as).length<=as.length
 | _,[]=>Nat.le_refl _
 | k,t::r=>by
  h ih:=Ht p (k+1) r;show (if p∈t then (k:Int)::BK p (k+1) r else BK p (k+1) r).length<=r.length+1;split
  ·simp; !ih
  ·w
section
variable{X:Cx}{K:¨}
theorem max_list(hc:X.calm=true):CallR X (.builtin "max") (fun xs H Q=>∃(p:Addr) (ns:List Int),xs=[.ref p]/\SqL X.K H p ⑭/\0<ns.length/\∀ m,m∈ns->(∀ a∈ns,a<=m)->Q (.int m) H):=by
 intro pins s σ H xs us Q I r h;o⟨p,ns,rfl,hq,hne,q⟩:=h;o⟨u0,rfl,ru⟩:=r.one;cases ru;o⟨its,rv,pl,hz⟩:=I.list hq;h hi:=intsAre_of rv;h hl:=pl.isList;o⟨ys,e⟩:=hi.allInts.items;h hns:ns=ys.toList.map (·.1):=by rw[<- hi.numsOf,<- nums_intItems,<- e]
 h hsz:0<ys.size:=by
  rw[hns,List.length_map,Array.length_toList] at hne;!hne
 rw[e] at hl;r max_intList (I.ok.hd hc) hl hsz fun v h' tk hv hk=>?_;o⟨t,rfl⟩:=intItems_at hv;o⟨h1,h2⟩:=argBest_gt (numAt ys) (ys.size-1);r⟨.int (numAt ys (argBest (fun i j=>decide (numAt ys i>numAt ys j)) (ys.size-1))),H,I.kept hk,⟨t,rfl⟩,q _ ?_ fun a ha=>?_⟩
 ·rw[hns,numAt_eq]
  !getD_mem (by rw[List.length_map,Array.length_toList]; w)
 ·rw[hns] at ha
  o⟨j,hj,rfl⟩:=mem_getD ha;rw[List.length_map,Array.length_toList] at hj;rw[<- numAt_eq];!h2 j ¢
end
theorem Hs{p x:Int}:∀{k:Nat}{as:List ⑧},x∈BK p k as↔∃ i:Nat,∃ t,as[i]?=some t/\p∈t/\x=((k+i:Nat):Int)
 | k,[]=>by simp[BK]
 | k,u::r=>by
  h ih:=@Hs p x (k+1) r;h e:BK p k (u::r)=if p∈u then (k:Int)::BK p (k+1) r else BK p (k+1) r:=rfl
  rw[e];constructor
  ·intro h
   split at h
   ·rename_i hu
    rcases List.mem_cons.mp h with h | h
    ·!⟨0,u,rfl,hu,by simpa using h⟩
    ·o⟨i,t,h1,h2,h3⟩:=ih.mp h
     !⟨i+1,t,by simpa using h1,h2,by rw[h3]; congr 1; w⟩
   ·o⟨i,t,h1,h2,h3⟩:=ih.mp h
    !⟨i+1,t,by simpa using h1,h2,by rw[h3]; congr 1; w⟩
  ·rintro⟨i,t,h1,h2,h3⟩
   cases i with
   | zero =>
    have:u=t:=by simpa using h1
    subst this;rw[if_pos h2];!List.mem_cons.mpr (.inl (by simpa using h3))
   | succ i =>
    have hm:x∈BK p (k+1) r:=ih.mpr ⟨i,t,by simpa using h1,h2,by rw[h3]; congr 1; w⟩;split
    ·!¶ _ hm
    ·!hm
theorem JR(p:Int):∀(k:Nat) (as:List ⑧),(BK p k as).Pairwise (· < ·)
 | _,[]=>List.Pairwise.nil
 | k,u::r=>by
  h ih:=JR p (k+1) r;h e:BK p k (u::r)=if p∈u then (k:Int)::BK p (k+1) r else BK p (k+1) r:=rfl
  rw[e];split
  ·r List.Pairwise.cons (fun x hx=>?_) ih
   o⟨i,t,_,_,h3⟩:=Hs.mp hx;rw[h3];w
  ·!ih
theorem QM:∀{ns:List Int} (h:ns≠[]),ns.Pairwise (· < ·)->∀ x∈ns,x<=ns.getLast h
 | [],h,_,_,_=>absurd rfl h
 | [a],_,_,x,hx=>by
  have:x=a:=by simpa using hx
  subst this;!Int.le_refl _
 | a::b::r,_,pw,x,hx=>by
  h h2:=List.pairwise_cons.mp pw;h e:(a::b::r).getLast ¥=(b::r).getLast ¥:=by simp
  rw[e];h l:=QM (ns:=b::r) ¥ h2.2;rcases List.mem_cons.mp hx with hx | hx
  ·subst hx
   h h3:=h2.1 b ¥;h h4:=l b ¥;w
  ·!l x hx
theorem Tq{M:Model}{A:Around}{E:Value->Shared->Prop}{s:Shared}{scope:Scope}{globals:Addr}{cl:List (Str×Addr)}{qual:Str}{env:Env}{Q:Env->Shared->Prop}
  (hQ:Q {scope:=scope,locals:=¸,globals:=globals,cells:=cellsFrom (¸+1) scope.names cl,qual:=qual,func:=none,code:=env.code,frame:=env.frame,builtins:=env.builtins}
   {s with heap:=pushCells (s.heap.push {cls:=.type "dict",data:=.dict #[]}) scope.names}) :
  wpAny M A (newFunctionEnv scope globals cl [] qual none .none (some env)) Q E s:=by
 simp only[newFunctionEnv,Option.isSome_some,if_true];r wpAny_bind (wpAny_alloc ?_);r wpAny_bind (wpAny_layCells _ (fun name kind cells=>by cases hkc:kind==NameKind.cell<;>simp[hkc]) _ _ _ _ ?_);rw[show ({s with heap:=s.heap.push {cls:=.type "dict",data:=.dict #[]}}:Shared).heap.objs.size=¸+1 from Heap.size_push ..];simp only[List.forIn_nil];!wpAny_bind (wpAny_pure (wpAny_pure hQ))
theorem cellsFrom_mem:∀{names:List (Str×NameKind)}{n:Nat}{acc:List (Str×Addr)}{x:Str}{c:Addr},(cellsFrom n names acc).lookup x=some c->acc.lookup x=some c\/(n<=c/\(x,NameKind.cell)∈names)
 | [],_,_,_,_,h=>.inl h
 | (y,k)::r,n,acc,x,c,h=>by
  unfold cellsFrom at h;split at h
  ·rename_i hk
   h hk':k=.cell:=by simpa using hk
   subst hk';rcases cellsFrom_mem (names:=r) h with h' | h'
   ·rw[List.lookup_cons] at h'
    cases hx:x==y with
    | true =>
     rw[hx] at h';h e:x=y:=eq_of_beq hx;h ec:n=c:=Option.some.inj h';!.inr ⟨Nat.le_of_eq ec,by rw[e]; !´⟩
    | false=>rw[hx] at h'; !.inl h'
   ·!.inr ⟨by w,¶ _ h'.2⟩
  ·rcases cellsFrom_mem (names:=r) h with h | h
   ·!.inl h
   ·!.inr ⟨h.1,¶ _ h.2⟩
theorem En:∀{names:List (Str×NameKind)}{n:Nat}{acc:List (Str×Addr)}{x:Str},(x,NameKind.cell)∉names->(cellsFrom n names acc).lookup x=acc.lookup x
 | [],_,_,_,_=>rfl
 | (y,k)::r,n,acc,x,h=>by
  h hr:(x,NameKind.cell)∉r:=fun z=>h (¶ _ z);unfold cellsFrom;split
  ·rename_i hk
   h hk':k=.cell:=by simpa using hk
   subst hk';rw[En (names:=r) hr,List.lookup_cons];cases hx:x==y with
   | true =>
    have e:x=y:=eq_of_beq hx;subst e;!absurd ´ h
   | false=>rfl
  ·!En (names:=r) hr
theorem cellsFrom_mono:∀{names:List (Str×NameKind)}{n:Nat}{acc:List (Str×Addr)}{x:Str},(acc.lookup x).isSome=true->((cellsFrom n names acc).lookup x).isSome=true
 | [],_,_,_,h=>h
 | (y,k)::r,n,acc,x,h=>by
  unfold cellsFrom;split
  ·r cellsFrom_mono (names:=r) ?_
   rw[List.lookup_cons];cases hx:x==y with
   | true=>rfl
   | false=>!h
  ·!cellsFrom_mono (names:=r) h
theorem Df:∀{names:List (Str×NameKind)}{n:Nat}{acc:List (Str×Addr)}{x:Str},(x,NameKind.cell)∈names->((cellsFrom n names acc).lookup x).isSome=true
 | [],_,_,_,h=>by cases h
 | (y,k)::r,n,acc,x,h=>by
  unfold cellsFrom;split
  ·rcases List.mem_cons.mp h with e | h
   ·cases e
    r cellsFrom_mono ?_;rw[List.lookup_cons,beq_self_eq_true];rfl
   ·!Df h
  ·rename_i hk
   rcases List.mem_cons.mp h with e | h
   ·cases e
    !absurd rfl hk
   ·!Df h
theorem Ek:∀{names:List (Str×NameKind)}{n:Nat}{acc:List (Str×Addr)}{x y:Str}{c:Addr},(∀ z d,acc.lookup z=some d->d<n)->(∀ z u d,acc.lookup z=some d->acc.lookup u=some d->z=u) ->
  (cellsFrom n names acc).lookup x=some c->(cellsFrom n names acc).lookup y=some c->x=y
 | [],_,_,_,_,_,_,inj,h1,h2=>inj _ _ _ h1 h2
 | (v,k)::r,n,acc,x,y,c,lt,inj,h1,h2=>by
  unfold cellsFrom at h1 h2;split at h1
  ·rename_i hk
   rw[if_pos hk] at h2;r Ek (names:=r) (n:=n+1) (acc:=(v,n)::acc) (fun z d e=>?_) (fun z u d e1 e2=>?_) h1 h2
   ·rw[List.lookup_cons] at e
    cases hz:z==v with
    | true=>rw[hz] at e; cases e; !Nat.lt_succ_self _
    | false=>rw[hz] at e; !Nat.lt_succ_of_lt (lt z d e)
   ·rw[List.lookup_cons] at e1 e2
    cases hz:z==v with
    | true =>
     rw[hz] at e1;cases e1;cases hu:u==v with
     | true=>rw[eq_of_beq hz,eq_of_beq hu]
     | false=>rw[hu] at e2; !absurd (lt u _ e2) (Nat.lt_irrefl _)
    | false =>
     rw[hz] at e1;cases hu:u==v with
     | true=>rw[hu] at e2; cases e2; !absurd (lt z _ e1) (Nat.lt_irrefl _)
     | false=>rw[hu] at e2; !inj z u d e1 e2
  ·rename_i hk
   rw[if_neg hk] at h2;!Ek (names:=r) lt inj h1 h2
theorem pushCells_cell:∀{names:List (Str×NameKind)}{h:Heap}{n:Nat}{acc:List (Str×Addr)}{x:Str}{c:Addr},n=h.objs.size->(∀ z d,acc.lookup z=some d->∃ v,h.IsCell d v)->(cellsFrom n names acc).lookup x=some c->∃ v,(pushCells h names).IsCell c v
 | [],_,_,_,_,_,_,ok,h1=>ok _ _ h1
 | (v,k)::r,h,n,acc,x,c,hn,ok,h1=>by
  unfold cellsFrom at h1;unfold pushCells;split at h1
  ·rename_i hk
   rw[if_pos hk];r pushCells_cell (names:=r) (n:=n+1) (acc:=(v,n)::acc) (by rw[Heap.size_push,hn]) (fun z d e=>?_) h1;rw[List.lookup_cons] at e;cases hz:z==v with
   | true=>rw[hz] at e; cases e; !⟨none,_,by rw[hn]; !¿ _ rfl,rfl⟩
   | false =>
    rw[hz] at e;o⟨u,o,ho,hd⟩:=ok z d e;!⟨u,o,° _ ho,hd⟩
  ·rename_i hk
   rw[if_neg hk];!pushCells_cell (names:=r) hn ok h1
def Jr(osc sc:Scope):Bool :=
 (decide (sc.kind=.function))&&sc.names.all (fun y=>decide (y.2=.local->sc.names.lookup y.1=some .local)) &&
  sc.names.all (fun y=>decide (y.2=.free->osc.names.lookup y.1=some .cell\/osc.names.lookup y.1=some .free))&&sc.names.all (fun y=>decide (y.2=.free->(y.1,NameKind.cell)∉sc.names))
structure CompOkC(osc sc:Scope):Prop where
 kind:sc.kind=.function
 loc:∀ y∈sc.names,y.2=.local->sc.names.lookup y.1=some .local
 free:∀ y∈sc.names,y.2=.free->osc.names.lookup y.1=some .cell\/osc.names.lookup y.1=some .free
 one:∀ y∈sc.names,y.2=.free->(y.1,NameKind.cell)∉sc.names
theorem CompOkC.of{osc sc:Scope}(h:Jr osc sc=true):CompOkC osc sc:=by
 unfold Jr at h;rw[Bool.and_eq_true,Bool.and_eq_true,Bool.and_eq_true] at h;o⟨⟨⟨h1,h3⟩,h4⟩,h5⟩:=h;!⟨of_decide_eq_true h1,fun y hy=>of_decide_eq_true (List.all_eq_true.mp h3 y hy),fun y hy=>of_decide_eq_true (List.all_eq_true.mp h4 y hy),fun y hy=>of_decide_eq_true (List.all_eq_true.mp h5 y hy)⟩
theorem Ij{env:Env}{x:Str}:∀{names:List (Str×NameKind)},
  (
   (names.map fun(n,k)=>if (k==NameKind.free&&env.scope.kind == .function&&env.kindOf n==some .cell) then (n,NameKind.cell) else (n,k)).lookup x=some .cell \/
   (names.map fun(n,k)=>if (k==NameKind.free&&env.scope.kind == .function&&env.kindOf n==some .cell) then (n,NameKind.cell) else (n,k)).lookup x=some .free)->(x,NameKind.free)∈names\/(x,NameKind.cell)∈names
 | [],h=>by simp at h
 | (n,k)::r,h=>by
  h ih:=@Ij env x r;rw[List.map_cons] at h;h h':List.lookup x ((if (k==NameKind.free&&env.scope.kind == .function&&env.kindOf n==some .cell)=true then (n,NameKind.cell) else (n,k))::_)=_\/List.lookup x ((if (k==NameKind.free&&env.scope.kind == .function&&env.kindOf n==some .cell)=true then (n,NameKind.cell) else (n,k))::_)=_:=h;h tl:∀{A:Prop},((x,NameKind.free)∈r\/(x,NameKind.cell)∈r)->(x,NameKind.free)∈(n,k)::r\/(x,NameKind.cell)∈(n,k)::r:=fun z=>z.elim (fun z=>.inl (¶ _ z)) fun z=>.inr (¶ _ z);by_cases hb:(k==NameKind.free&&env.scope.kind == .function&&env.kindOf n==some .cell)=true
  ·rw[if_pos hb] at h'
   h hk:k=.free:=by simp at hb; !hb.1.1
   rw[List.lookup_cons] at h';cases hx:x==n with
   | true =>
    have:x=n:=eq_of_beq hx;subst this; subst hk;!.inl ´
   | false=>rw[hx] at h'; !tl (A:=True) (ih h')
  ·rw[if_neg hb] at h'
   rw[List.lookup_cons] at h';cases hx:x==n with
   | true =>
    rw[hx] at h';have:x=n:=eq_of_beq hx;subst this;rcases h' with h' | h'
    ·h hk:k=.cell:=Option.some.inj h'
     subst hk;!.inr ´
    ·h hk:k=.free:=Option.some.inj h'
     subst hk;!.inl ´
   | false=>rw[hx] at h'; !tl (A:=True) (ih h')
theorem Wq{cells:List (Str×Addr)}:∀{names:List (Str×NameKind)}{cs:List (Str×Addr)}{x:Str}{c:Addr},(cloOf cells names cs).lookup x=some c->(x,NameKind.free)∈names\/cs.lookup x=some c
 | [],_,_,_,h=>.inr h
 | (n,k)::r,cs,x,c,h=>by
  unfold cloOf at h;rcases Wq (names:=r) h with h | h
  ·!.inl (¶ _ h)
  ·by_cases hk:(k==NameKind.free)=true
   ·h hk':k=.free:=by simpa using hk
    subst hk';rw[if_pos hk] at h;cases q:cells.lookup n with
    | none=>rw[q] at h; !.inr h
    | some d =>
     rw[q] at h;rw[List.lookup_cons] at h;cases hx:x==n with
     | true =>
      have e:x=n:=eq_of_beq hx;subst e;!.inl ´
     | false=>rw[hx] at h; !.inr h
   ·rw[if_neg hk] at h
    !.inr h
theorem AAb{X:Cx}{scope:Scope}{x:Str}{c:Addr}(h:(cloX X scope).lookup x=some c):(x,NameKind.free)∈scope.names:=by
 rcases Wq h with h | h
 ·!h
 ·simp at h
def Bq(X:Cx)(N':List Str)(scope:Scope)(fp:List Addr)(s:Shared)(H:Hp):Cx where
 prog:=X.prog
 w:=X.w
 K:=X.K
 mg:=X.mg
 base:=X.base
 A:=X.A
 N:=N'
 s₀:=s
 H₀:=H
 env:=compEnvC scope (cellsFrom (¸+1) scope.names (cloX X scope)) ¸ X.env
 outer:=X.stack
 stack:=X.stack
 ex:=fp
 fn:=fun x=>decide ((x,NameKind.cell)∈scope.names)
 calm:=X.calm
 pn:=[]
 xe:=fun _ _=>False
section
variable{X:Cx}{pins:List ⑤}{σ:St}{H:Hp}{s:Shared}{tg elt iter:Expr}{ifs:List Expr}{scope:Scope}{pos:Pos}{own fr:List Str}{ix:List Nat}{g:TG}{tc:TT}{te:TE}{it:Addr}{fp:List Addr}
 {tn:Nat->Heap->Prop}{J:It}
theorem Ra{R:Hp->Prop}{D:Addr}(hc:X.calm=true)(ok:CompOkC X.env.scope scope)(hfr:FreeAt X scope fr ix)
  (hg:PG ⑩ tg g) (hi:PIfs ⑩ ifs tc) (he:PE ⑩ elt te)
  (I3:Inv X pins σ H s) (T:Turn X.prog X.w X.K tg J fp it tn) (st3:tn 0 s.heap) (f3:∀ b∈fp,FpOk X pins H b)
  (hq:Eo J D g tc te R (start2 σ own ix) H) :
  codeAny ② X.A (.compStart (.ListComp elt [⟨tg,iter,ifs,0⟩] scope pos) 0 (.ref it) (.ref D) (compEnvC scope (cellsFrom (¸+1) scope.names (cloX X scope)) ¸ X.env))
   (fun r s'=>r=.ok .next/\Behind X pins σ R ¸ s') {s with heap:=(pushCells (s.heap.push {cls:=.type "dict",data:=.dict #[]}) scope.names)}:=by
 h old:∀ b o,s.heap.get? b=some o->(pushCells (s.heap.push {cls:=.type "dict",data:=.dict #[]}) scope.names).get? b=some o:=fun b o e=>pushCells_keeps _ _ b o (° _ e);h hns:(pushCells (s.heap.push {cls:=.type "dict",data:=.dict #[]}) scope.names).Ns ¸ (fun _=>none):=(Heap.Ns.new s.heap (.type "dict")).keeps (pushCells_keeps _ _);h sub:∀ x c,(cloX X scope).lookup x=some c->X.env.cells.lookup x=some c:=Jc (fun x c e=>by simp at e);h outerK:∀ x,(x,NameKind.free)∈scope.names->X.env.kindOf x=some .cell\/X.env.kindOf x=some .free:=fun x hx=>ok.free (x,.free) hx rfl;h has:∀ x,(x,NameKind.free)∈scope.names->∃ c,(cloX X scope).lookup x=some c:=fun x hx=>by
  o⟨c,hcl⟩:=I3.ok.has x (outerK x hx);!Option.isSome_iff_exists.mp (JK (by rw[hcl]; rfl) hx)
 h ltc:∀ x c,(cloX X scope).lookup x=some c->c<¸+1:=fun x c e=>by
  o⟨v,q⟩:=I3.cell x c (sub x c e);!Nat.lt_succ_of_lt q.lt
 h szp:¸+1=(s.heap.push {cls:=.type "dict",data:=.dict #[]}).objs.size:=(Heap.size_push ..).symm;h lt3:∀ b∈fp,b<¸:=fun b hb=>by
  o⟨o,ho,_⟩:=T.obj 0 _ st3 b hb;!Heap.lt_size ho
 h nostk:∀ b∈fp,b∉frs X.stack:=fun b hb hs=>by
  rcases List.mem_cons.mp (I3.stkSub b hs) with z | z
  ·!(f3 b hb).2.1 z
  ·!(f3 b hb).2.2.1 z
 h ncell:∀ b∈fp,∀ x c,(cellsFrom (¸+1) scope.names (cloX X scope)).lookup x=some c->c≠b:=fun b hb x c h=>by
  rcases cellsFrom_mem h with h | h
  ·!(f3 b hb).2.2.2.2.1 x c (sub x c h)
  ·intro e
   h h1:¸+1<=b:=e ▸ h.1;!absurd (Nat.lt_of_lt_of_le (lt3 b hb) (Nat.le_of_succ_le h1)) (Nat.lt_irrefl _)
 h I4:Inv ⑩ [] (start2 σ own ix) H {s with heap:=(pushCells (s.heap.push {cls:=.type "dict",data:=.dict #[]}) scope.names)}:=by
  r⟨⟨I3.ok.mod,ok.kind,I3.ok.glob,I3.ok.blt,Nat.le_refl _,?inj,?has,?cab,I3.ok.hd,I3.ok.frames,.inl rfl,?exf,I3.bs,Nat.le_trans I3.ok.bsz I3.sz,?noex,nostk,I3.stack,I3.stkFree⟩,
   rfl,I3.bare,Un.kept old,⟨_,hns,?loc⟩,?cell,I3.hok.fresh ③,?freeC,?pin,I3.hok.kept old,?len⟩
  case inj=>!fun x y c h1 h2=>Ek ltc (fun z u d e1 e2=>I3.ok.inj z u d (sub z d e1) (sub u d e2)) h1 h2
  case has =>
   intro x hx;r Option.isSome_iff_exists.mp ?_;rcases Ij hx with z | z
   ·o⟨c,hc'⟩:=has x z
    !cellsFrom_mono (by rw[hc']; rfl)
   ·!Df z
  case cab =>
   intro x c hx h;h hx':(x,NameKind.cell)∈scope.names:=of_decide_eq_true hx;rcases cellsFrom_mem h with h | h
   ·h e:=Df (n:=¸+1) (acc:=cloX X scope) hx'
    h hm:(x,NameKind.free)∈scope.names:=AAb h;!absurd hx' (ok.one _ hm rfl)
   ·show ¸<=c
    w
  case exf=>!fun b hb=>⟨Nat.ne_of_lt (lt3 b hb),ncell b hb⟩
  case noex =>
   intro b o e hb;rcases (f3 b hb).2.2.2.1 with z | z
   ·!I3.ok.noex b o e z
   ·!absurd (Nat.lt_of_lt_of_le (Nat.lt_of_lt_of_le (Heap.lt_size e) I3.ok.bsz) z) (Nat.lt_irrefl _)
  case loc =>
   intro i x v e1 e2 e3;o⟨j,a1,a2,a3⟩:=LK hfr e1 e2;h mem:(x,NameKind.free)∈scope.names:=PySem.mem_of_lookup a3;o⟨m,hn,hl⟩:=I3.loc;h ok1:=outerK x mem;o⟨u,r,l⟩:=hl j x v a1 a2 (ok1.elim (fun z=>.inr (.inl z)) fun z=>.inr (.inr z));rcases l with⟨k,_⟩ | ⟨k,c,hcl,o,ho,hd⟩
   ·rcases ok1 with z | z
    ·rw[k] at z; cases z
    ·rw[k] at z; cases z
   ·o⟨c',hc'⟩:=has x mem
    h e:=sub x c' hc';rw[hcl] at e;cases e;!⟨u,r,.inr ⟨Cq a3,c,by show (cellsFrom _ _ _).lookup x=_; rw[En (ok.one _ mem rfl)]; !hc',o,old _ _ ho,hd⟩⟩
  case cell =>
   intro x c h;r pushCells_cell szp (fun z d e=>?_) h;o⟨v,o,ho,hd⟩:=I3.cell z d (sub z d e);!⟨v,o,° _ ho,hd⟩
  case freeC =>
   intro x c h;rcases cellsFrom_mem h with h | h
   ·!I3.freeC x c (sub x c h)
   ·!I3.hok.fresh ¢
  case pin=>!fun p hp=>absurd (show p∈([]:List ⑤) from hp) ¥
  case len=>!KR hfr
 h st4:tn 0 (pushCells (s.heap.push {cls:=.type "dict",data:=.dict #[]}) scope.names):=T.keep 0 _ _ st3 fun b _ o e=>old b o e;h stat:∀{H':Hp},(∀ b∈fp,H' b=none)->∀ b∈fp,FpOk ⑩ [] H' b:=fun {H'} hn b hb =>
  ⟨hn b hb,Nat.ne_of_lt (lt3 b hb),nostk b hb,.inl hb,ncell b hb,fun p hp=>absurd (show p∈([]:List ⑤) from hp) ¥⟩
 o⟨W,⟨m1,w0⟩,turn⟩:=hq;h loop:codeAny ② X.A (.compLoop (.ListComp elt [⟨tg,iter,ifs,0⟩] scope pos) 0 (.ref it) (.ref D) (compEnvC scope (cellsFrom (¸+1) scope.names (cloX X scope)) ¸ X.env))
   (fun r s'=>r=.ok .next/\Behind X pins σ R ¸ s') {s with heap:=(pushCells (s.heap.push {cls:=.type "dict",data:=.dict #[]}) scope.names)}:=by
  r Dl (fun n s'=>∃ i τ H',Inv ⑩ [] τ H' s'/\tn i s'.heap/\(∀ b∈fp,H' b=none)/\W i n τ H') ?_ m1 ⟨0,_,H,I4,st4,fun b hb=>(f3 b hb).1,w0⟩;rintro n s5 ⟨i,τ5,H5,I5,st5,fr5,w5⟩;rcases turn i n τ5 H5 w5 with⟨stop,qn⟩ | ⟨go,N,hN,step⟩
  ·r thn (T.done ⑩ rfl rfl rfl hc i [] s5 τ5 H5 _ I5 (stat fr5) st5 stop) fun r s6 ⟨hr,I6⟩=>?_
   subst hr;o⟨m6,hn6,_⟩:=I6.loc;!⟨rfl,H5,m6,I3.call' (ch:=fp) I6.os I6.base I6.hok I6.bare (fun b hb=>⟨(f3 b hb).2.2.2.1,(f3 b hb).2.1,(f3 b hb).2.2.2.2.1,(f3 b hb).2.2.2.2.2⟩),hn6,I3.fpOk ③ I6.free,qn⟩
  ·r thn (T.item ⑩ rfl rfl rfl hc i [] s5 τ5 H5 _ I5 (stat fr5) st5 go) fun r s6 ⟨u,hr,h6⟩=>?_
   subst hr;r thn h6 fun _ s7 ⟨x,H7,I7,r7,y7,st7,fr7⟩=>?_;h I7':=I7.pinned (stat fr7) (T.obj _ _ st7);h again:∀{τ8:St}{H8:Hp}{s8:Shared},Inv ⑩ ([]++pinsAt fp s7.heap) τ8 H8 s8->N τ8 H8 ->
     ∃ m,m<n/\∃ i τ H',Inv ⑩ [] τ H' s8/\tn i s8.heap/\(∀ b∈fp,H' b=none)/\W i m τ H':=fun {τ8 H8 s8} I8 n8=>by
    o⟨m',hm,w8⟩:=hN τ8 H8 n8;r⟨m',hm,i+1,τ8,H8,I8.unpinned,T.keep _ _ _ st7 fun b hb o e=>(I8.pin (b,o) ⑰).1,fun b hb=>?_,w8⟩;o⟨o,e,d⟩:=T.obj _ _ st7 b hb;!(I8.pin (b,o) ⑰).2.1
   r thn (hg _ s7 τ5 H7 x u _ I7' r7 (step x H7 y7)) fun _ s8 ⟨τ8,H8,I8,q8⟩=>?_;r thn (hi _ s8 τ8 H8 _ I8 q8) fun b s9 ⟨H9,I9,q9⟩=>?_;cases b with
   | false=>!again I9 q9
   | true =>
    r thn (he _ s9 τ8 H9 _ I9 q9) fun uv s10 ⟨v,H10,I10,r10,ys,hD,hz,q10⟩=>?_;r thn (Cy (X:=Bq X (own++fr) scope fp s H) _ s10 τ8 H10 (.ref D) [v] (.ref D) [uv] (fun _ H'=>N τ8 H') I10 rfl (.cons r10 .nil) ⟨D,ys,v,rfl,rfl,hD,hz,q10⟩) fun _ s11 ⟨_,H11,I11,_,q11⟩=>?_;!again I11 q11
 !codeAny_compStart_list loop (T.self X.A 0 _ _ _ st4 loop)
theorem Xm{R:V->Hp->Prop}(hc:X.calm=true)(ok:CompOkC X.env.scope scope)(hfr:FreeAt X scope fr ix)
  (hg:∀ fp s H,PG ⑩ tg g) (hi:∀ fp s H,PIfs ⑩ ifs tc) (he:∀ fp s H,PE ⑩ elt te)
  (I2:Inv X pins σ H s) (T:Turn X.prog X.w X.K tg J fp it tn) (st2:tn 0 s.heap) (f2:∀ b∈fp,FpOk X pins H b)
  (hq:∀ D,H D=none->Eo J D g tc te (R (.ref D)) (start2 σ own ix) (upd H D (.lst []))) {E:Value->Shared->Prop} :
  wpAny ② X.A (newList []) (fun acc s₃=>wpAny ② X.A (newFunctionEnv scope X.env.globals (cloX X scope) [] X.env.qual none .none (some X.env)) (fun cenv s₄ =>
   codeAny ② X.A (.compStart (.ListComp elt [⟨tg,iter,ifs,0⟩] scope pos) 0 (.ref it) acc {cenv with scope:=relabel scope X.env})
    (fun r s'=>r=.ok .next/\∃ v,RelV v acc/\Behind X pins σ (R v) cenv.locals s') s₄) E s₃) E s:=by
 r wpAny_newObj_type (Tq ?_);h hD:H ¸=none:=I2.hok.fresh ③;h I3:Inv X pins σ (upd H ¸ (.lst [])) {s with heap:=s.heap.push {cls:=.type "list",dict:=none,data:=.seq ([]:List Value).toArray}} :=
  I2.laid (t':=s.toks) (fun b u e=>° _ e) ③ ⟨Nat.zero_le _,[],0,.nil,¿ _ rfl⟩
 h st3:tn 0 (s.heap.push {cls:=.type "list",dict:=none,data:=.seq ([]:List Value).toArray}):=T.keep 0 _ _ st2 fun b _ o e=>° _ e;h f3:∀ b∈fp,FpOk X pins (upd H ¸ (.lst [])) b:=fun b hb=>by
  o⟨f0,fr⟩:=f2 b hb;o⟨o,ho,_⟩:=T.obj 0 _ st2 b hb;!⟨by rw[Af (Nat.ne_of_lt (Heap.lt_size ho))]; !f0,fr⟩
 r codeAny_mono (Ra (R:=R (.ref ¸)) (D:=¸) hc ok hfr (hg _ _ _) (hi _ _ _) (he _ _ _) I3 T st3 f3 (hq _ hD)) fun r s' ⟨e,b⟩=>⟨e,V.ref ¸,rfl,b⟩
end
section
variable{X:Cx}{tg elt iter:Expr}{ifs:List Expr}{scope:Scope}{pos:Pos}{g:TG}{tc:TT}{te:TE}{wi:TI}
theorem VB{pins:List ⑤}{σ:St}{H:Hp}{s:Shared}(I:Inv X pins σ H s)(ok:CompOkC X.env.scope scope):∀ y∈scope.names,y.2=.free->(X.env.cells.lookup y.1).isSome=true:=fun y hy hf=>by
 o⟨c,h⟩:=I.ok.has y.1 (ok.free y hy hf);rw[h]; rfl
end
end L2
end
section
namespace L2
def Cl(S:Int->Prop)(es:List ⑧):Prop:=∀ e∈es,∀ x∈e,∀ y∈e,S x->S y
def gh(h:List Int)(p:Int):Int:=h.getD p.toNat 0
structure Heads(n:Nat)(es:List ⑧)(h:List Int):Prop where
 len:h.length=n
 le:∀ p:Int,0<=p->p<n->0<=gh h p/\gh h p<=p
 idem:∀ p:Int,0<=p->p<n->gh h (gh h p)=gh h p
 edge:∀ e∈es,∀ x∈e,∀ y∈e,gh h x=gh h y
 reach:∀ S:Int->Prop,Cl S es->∀ p q:Int,0<=p->p<n->0<=q->q<n->gh h p=gh h q->S p->S q
abbrev below(n:Nat):List Int:=(List.range n).map fun(i:Nat)=>(i:Int)
structure Spr(n:Nat)(h:List Int)(p:Int)(fs:List Int):Prop where
 has:p∈fs
 nd:fs.Nodup
 all:∀ q∈fs,(0<=q/\q<n)/\gh h q=gh h p
end L2
end
section
namespace L2
open PySem PySem.Spec PyProof.Rows
section
variable{X:Cx}{tg elt iter:Expr}{ifs:List Expr}{scope:Scope}{pos:Pos}{g:TG}{tc:TT}{te:TE}{wi:TI}
theorem AAk{i:Nat}{x:Str}{pos' spos:Pos}(own fr:List Str)(ix:List Nat)(hN:X.N.Nodup)(hx:X.N[i]?=some x)(hl:Loc X.env.scope x)(hc:X.calm=true)(hok:Jr X.env.scope scope=true)(hfr:FreeAt X scope fr ix)(hit:PI X tg iter wi)
  (hg:∀ fp s H,PG ⑩ tg g) (hi:∀ fp s H,PIfs ⑩ ifs tc) (he:∀ fp s H,PE ⑩ elt te)
  (hsw:swapsWith (.ListComp elt [⟨tg,iter,ifs,0⟩] scope pos) (some (.Name x pos')) spos.line X.env=pure true:=by rfl) (hs:∀ x,foldedSetIterable iter X.env x=pure x:=by intro _; rfl)
  (hf:X.fn x=true\/X.env.scope.names.lookup x=some .local:=by first | !.inl rfl | !.inr rfl | assumption) :
  PS X (.Assign [.Name x pos'] (.ListComp elt [⟨tg,iter,ifs,0⟩] scope pos) spos) (AAx (Wj own ix wi g tc te) (gName i)):=by
 intro pins s σ H D I h;h ok:=CompOkC.of hok;rw[exec_Assign_Name_used _ _ _ _ hsw];r wpAny_bind (wpAny_standAt (wpAny_bind ?_));show wpAny _ X.A (do let _ <- comprehension (.ListComp elt [⟨tg,iter,ifs,0⟩] scope pos) scope X.env _ (newList []) false (eval iter X.env) (some (assign (.Name x pos') X.env))) _ _ s;r wpAny_bind (wpAny_mono (wpAny_comprehension_free (use:=some (assign (.Name x pos') X.env)) (Q:=fun _ s'=>SP X pins D .next s') rfl hs (Ux (VB I ok)) ok.kind ok.loc
  (thn (hit pins s σ H _ I h) fun xv s₁ h₁=>thn h₁ fun itv s₂ h₂=>?_)) (fun _ s' hq=>wpAny_pure (wpAny_pure hq)) fun _ _ e=>e)
 o⟨it,fp,tn,J,H2,rfl,I2,T,st2,f2,hq⟩:=h₂;r thn (Xm (R:=fun v H'=>D.nx (σ.set i (some v)) H') hc ok hfr hg hi he I2 T st2 f2 hq) fun acc s₃ h₃=>thn h₃ fun cenv s₄ h₄=>codeAny_mono h₄ fun r s' ⟨hr,v,rv,H',m,I',hn,fpo,q⟩=>?_;subst hr;show wpAny _ X.A (assign (.Name x pos') X.env acc) _ _ s';r wpAny_assign_Name (Jf I' hN hx hl rv (fun s'' I'' hch=>?_) hf);o⟨a,sb,ha⟩:=hch;h hCa:cenv.locals≠a:=by
  rcases ha with z | z
  ·rw[z]; !fpo.2.1
  ·!fun e=>fpo.2.2.2.2.1 x a z e.symm
 !⟨m,hn.sameBut sb hCa,fun h' sb'=>⟨_,H',I''.sameBut fpo sb',q⟩⟩
end
theorem QK:∀{xs:List V}{us:List Value},xs.length=us.length->(∀(i:Nat) (x:V) (u:Value),xs[i]?=some x->us[i]?=some u->RelV x u)->Vals xs us
 | [],[],_,_=>.nil
 | [],_::_,h,_=>by simp at h
 | _::_,[],h,_=>by simp at h
 | x::xs,u::us,h,f=>.cons (f 0 x u rfl rfl) (QK (by simpa using h) fun i y v h1 h2=>f (i+1) y v (by simpa using h1) (by simpa using h2))
section
variable{X:Cx}
theorem Jh:CallR X (.type "range") (fun xs H Q=>∃ j,xs=[.int j]/\∀ r,H r=none->Q (.ref r) (upd H r (.rng 0 j))):=by
 intro pins s σ H xs us Q I r h;o⟨j,rfl,q⟩:=h;o⟨u,rfl,t,rfl⟩:=r.one;r call_range_1 ?_;h hn:H ¸=none:=I.hok.fresh ③;!⟨.ref ¸,_,I.laid (a:=¸) (o:=.rng 0 j) (fun b u e=>° _ e) ③ ⟨_,_,_,¿ _ rfl⟩,rfl,q _ hn⟩
end
end L2
end
section
namespace PySem
def Ctx0(o:Obj):Prop:=∃ vs,o.data=.fields vs/\vs[2]?=some .none
def Ctx2(h:Heap)(e:Addr):Prop:=∃ o,h.get? e=some o/\Ctx0 o
end PySem
end
section
namespace L2
open PySem PySem.Spec PyProof.Rows
structure Fly(P:Program)(w:World)(outer:List Env)(H H':Hp)(s s':Shared)(a:Addr)(cls:Value):Prop where
 os:s'.os=s.os
 bare:AllBare s'.gens
 un:Un (frs outer) [] H H' s.heap s'.heap
 new:H' a=none
 ctx:Ctx2 s'.heap a
 fly:∃ B a0,Heap.FlyingW B outer a cls a0 s'.heap/\HOk P w H' B/\∀ b o',(∃ o,s.heap.get? b=some o)->s'.heap.get? b=some o'->b∉frs outer->B.get? b=some o'
structure XSub(K:¨)(C D:Addr):Prop where
 ty:PySem.W.typeIn K (.ref D)=some (.type "type")
 cl:(PySem.W.clsIn K D).isSome=true
 ex:PySem.W.subIn K (.ref D) (.type "BaseException")=some true
 sub:PySem.W.subIn K (.ref C) (.ref D)=some true
end L2
end
section
namespace L2
open PySem PySem.Spec PyProof.Rows PySem.W
structure XCl(K:Frag)(C:Addr):Prop where
 ga:findIn K (.ref C) "__getattribute__" = some (some (.builtin "BaseException.__getattribute__"))
 gt:findIn K (.ref C) "__getattr__" = some none
 cl:findIn K (.ref C) "__class__" = some (some (.builtin "object.__class__"))
 ob:mroIn K C (.type "object")=some true
 be:mroIn K C (.type "BaseException")=some true
 is:(clsIn K C).isSome=true
section
variable{prog:Program}{w:World}{A:Around}{E:Value->Shared->Prop}{K:Frag}{s:Shared}{a C:Addr}{oe:Obj}{h:Heap}{g:Array GenState}{d:Drawn}{t:Nat}{os:OsState}
structure XAt(h:Heap)(a:Addr)(oe:Obj)(C:Addr):Prop where
 at_:h.get? a=some oe
 cls:oe.cls=.ref C
end
end L2
namespace L2
open PySem PySem.Spec PyProof.Rows
section
variable{X:Cx}{K:¨}{T id:String}{name:Str}{r:V->List V->Hp->VK->Prop}{o e:Expr}{es:List Expr}{to:TE}{t:TA}{apos cpos:Pos}{tg l:Expr}{tl:TE}
theorem ABd(hK:X.K=K)(hl:PE X l tl):PI X tg l (AEt K tl):=by subst hK; !AAl hl
end
section
variable{X:Cx}{st:Stmt}{rest:List Stmt}{t u:TS}
def AFU(t u:TS):TS:=fun D σ H=>∃ M:St->Hp->Prop,t {D with nx:=M} σ H/\∀ σ' H',M σ' H'->u D σ' H'
theorem Vs(h1:PS X st t)(h2:PSs X rest u):PSs X (st::rest) (AFU t u):=by
 intro pins s σ H D I h;o⟨M,ha,hb⟩:=h;r wpAny_execs_cons (thn (h1 pins s σ H {D with nx:=M} I ha) fun f s1 q=>?_);cases f with
 | next =>
  o⟨σ',H',I',q⟩:=q;!h2 pins s1 σ' H' D I' (hb _ _ q)
 | ret v=>!q
 | brk=>!q
 | cont=>!q
end
end L2
end
section
namespace L2
open PySem PySem.Spec PyProof.Rows PySem.W
section
variable{X:Cx}
theorem Vals.app{xs ys:List V}{us vs:List Value}(h:Vals xs us)(k:Vals ys vs):Vals (xs++ys) (us++vs):=by
 induction h with
 | nil=>!k
 | cons r t ih=>!.cons r ih
def rAddL(K:¨):R2:=fun x y H Q=>∃ a b xs ys,x=.ref a/\y=.ref b/\SqL K H a xs/\SqL K H b ys/\xs.length+ys.length<=sizeLine/\∀ p,H p=none->Q (.ref p) (upd H p (.lst (xs++ys)))
theorem ACR:OpR X (binaryOp .Add) (rAddL X.K):=by
 intro pins s σ H x y v u Q I rx ry h;o⟨a,b,xs,ys,rfl,rfl,ha,hb,hz,q⟩:=h;cases rx; cases ry;o⟨vs,r1,p1,_⟩:=I.list ha;o⟨ws,r2,p2,_⟩:=I.list hb;h hl:=p1.isList;h hb':=p2.isList;o⟨⟨cls,dd,data,sl⟩,ho,hc,n,hd⟩:=id hl;o⟨⟨cls2,dd2,data2,sl2⟩,ho2,hc2,n2,hd2⟩:=id hb';simp only at hc hd hc2 hd2;subst hc hd hc2 hd2;h e:vs.toArray++ws.toArray=(vs++ws).toArray:=by simp
 h l1:=r1.length;h l2:=r2.length;r concat_meets ⟨_,ho,rfl⟩ ⟨_,ho2,rfl⟩ noFill_list_add seq_list_add PySem.F.slot_list_add PySem.F.entry_list_add (PySem.F.args_list_add_2 _ _) (list_addW a b vs.toArray ws.toArray n n2 dd dd2 sl sl2 (by rw[List.size_toArray,List.size_toArray]; w)) ⟨ho,ho2,?_⟩;rw[e];r⟨.ref ¸,_,I.laid (t':=s.toks) (o:=.lst (xs++ys)) (fun b ob q=>° _ q) ③ ?_,rfl,q _ (I.hok.fresh ③)⟩;!⟨by rw[List.length_append]; !hz,_,0,Vals.app r1 r2,¿ _ rfl⟩
structure Own(K:Frag)(C:Addr):Prop where
 ha:findIn K (.ref C) "__class__" = some (some (.builtin "object.__class__"))
 hn:specialIn K (.builtin "object.__class__") "__get__" = some (some (.builtin "getset_descriptor.__get__"))
 tk:takesIn K (.builtin "object.__class__")=some true
 hm:mroIn K C (.type "object")=some true
 is:kitOne K (.ref C) (.ref C)=some true
theorem ABY{C:Addr}(c:Cls X.K C)(O:Own X.K C):CallR X (.builtin "isinstance") (fun xs H Q=>∃ p dx fs,xs=[.ref p,.ref C]/\H p=some (.ins C dx fs)/\Q (.bl true) H):=by
 intro pins s σ H xs us Q I r h;o⟨p,dx,fs,rfl,hq,q⟩:=h;o⟨u,v,rfl,ru,rv⟩:=r.two;cases ru; cases rv;o⟨mA,M,_,_,_,_⟩:=Jx I.hok hq;o⟨od,J,_⟩:=M.look;h nl:(Value.ref p)≠.builtin "__main__.__loader__#opaque":=by intro z; cases z
 !kia_one (kitx_own (c.get "__class__") c.hd O.ha O.hn O.tk O.hm) I.kIn J O.is nl fun tk=>⟨.bl true,H,I.tok _,rfl,q⟩
end
end L2
end
section
namespace L2
open PySem PySem.Spec PyProof.Rows
open PySem.W
section
variable{X:Cx}{C:Addr}{x:Str}{p pos:Pos}
def AEc(C:Addr):TE:=fun _ H Q=>∀ y dx,H y=none->H dx=none->dx≠y->Q (.ref y) (upd (upd H dx (.own y)) y (.ins C dx []))
theorem ACP(mk:makesIn X.K C=true)(hi:findIn X.K (.ref C) "__init__" = some (some (.builtin "object.__init__")))(kp:keepIn X.K (.ref C)=true)(hg:Gl X x)(hm:X.mg x=some (.ref C))
  (hdb:(x==("__debug__" : Str))=false:=by decide):PE X (.Call (.Name x p) [] [] pos) (AEc C):=by
 intro pins s σ H Q I h;r wpAny_Call_Name_kw (Gj I hg hm ?_ hdb);r PySem.W.callWith_K0 I.kIn kp (wpAny_call ?_);h hq:=h (¸+1) ¸ (I.hok.fresh (Nat.le_succ _)) (I.hok.fresh ③) (Nat.ne_of_lt (Nat.lt_succ_self _));h I2:=Inv.made (C:=C) I;r Yt I.kIn mk hi (fun self=>Looks.of_pure (oi_bind self)) ?_;h Y:=makes_of (M:=model X.prog X.w) I.kIn mk;h e2:((s.heap.push emptyDict).push (instObj C ¸)).get? (¸+1)=some (instObj C ¸):=by
  have:=¿ (s.heap.push emptyDict) (o:=instObj C ¸) rfl
  rwa [Heap.size_push] at this
 h t1:Looks ② ((s.heap.push emptyDict).push (instObj C ¸)) (typeOf (.ref (¸+1))) (.ref C):=(Looks.ld e2).andThen .now;h t2:Looks ② ((s.heap.push emptyDict).push (instObj C ¸)) (isInstance (.ref (¸+1)) (.type "object")) true:=t1.andThen (Y.top.keeps fun b o e=>° _ (° _ e));r codeAny_call_builtin oi_plain entry_oi (@check_slot ② _ _ _ "object.__init__" "object" "__init__" (.ref (¸+1)) [] [] _ oi_kind oi_split t2 (oi_args (.ref (¸+1))) ?_);rw[oi_run];!wpAny_pure (And.intro rfl ⟨.ref (¸+1),_,I2,rfl,hq⟩)
end
end L2
end
section
namespace L2
open PySem PySem.Spec PyProof.Rows
section
variable{κ:Type}[DecidableEq κ]
def valV(kvs:List (κ×V))(k:κ):Option V:=(kvs.find? fun kv=>decide (kv.1=k)).map (·.2)
def putK(kvs:List (κ×V))(k:κ)(v:V):List (κ×V) :=
 if (kvs.any fun kv=>decide (kv.1=k))=true then kvs.map (fun kv=>if kv.1=k then (kv.1,v) else kv) else kvs++[(k,v)]
theorem CP{p:κ×V}{r:List (κ×V)}{k:κ}(e:p.1=k):valV (p::r) k=some p.2:=by simp[valV,List.find?_cons,e]
theorem CQ{p:κ×V}{r:List (κ×V)}{k:κ}(e:¬ p.1=k):valV (p::r) k=valV r k:=by simp[valV,List.find?_cons,e]
theorem GZ(k:κ):∀ kvs:List (κ×V),(kvs.any fun kv=>decide (kv.1=k))=(valV kvs k).isSome
 | []=>rfl
 | p::r=>by
  rw[List.any_cons];by_cases e:p.1=k
  ·simp only[CP e,decide_eq_true e,Bool.true_or,Option.isSome_some]
  ·rw[CQ e,decide_eq_false e,Bool.false_or]; !GZ k r
theorem SX(k j:κ)(y:V):∀ kvs:List (κ×V),valV (kvs.map fun kv=>if kv.1=k then (kv.1,y) else kv) j=(valV kvs j).map fun x=>if j=k then y else x
 | []=>rfl
 | p::r=>by
  h ih:=SX k j y r;rw[List.map_cons];by_cases h:p.1=k
  ·rw[if_pos h]
   by_cases e:p.1=j
   ·rw[CP (p:=(p.1,y)) e,CP e,Option.map_some,if_pos (e.symm.trans h)]
   ·rw[CQ (p:=(p.1,y)) e,CQ e,ih]
  ·rw[if_neg h]
   by_cases e:p.1=j
   ·rw[CP (p:=p) e,CP e,Option.map_some,if_neg (fun z=>h (e.trans z))]
   ·rw[CQ (p:=p) e,CQ e,ih]
theorem Om(k j:κ)(y:V):∀ kvs:List (κ×V),valV kvs k=none->valV (kvs++[(k,y)]) j=if j=k then some y else valV kvs j
 | [],_=>by
  by_cases e:k=j
  ·rw[if_pos e.symm]; !CP (p:=(k,y)) e
  ·rw[if_neg (fun z=>e z.symm)]; !CQ (p:=(k,y)) e
 | p::r,hn=>by
  rw[List.cons_append];h hk:¬ p.1=k:=fun z=>by rw[CP z] at hn; cases hn
  rw[CQ hk] at hn;h ih:=Om k j y r hn;by_cases e:p.1=j
  ·rw[CP e,CP e,if_neg (fun z=>hk (e.trans z))]
  ·rw[CQ e,CQ e,ih]
theorem Ed(kvs:List (κ×V))(k j:κ)(y:V):valV (putK kvs k y) j=if j=k then some y else valV kvs j:=by
 unfold putK;by_cases a:(kvs.any fun kv=>decide (kv.1=k))=true
 ·rw[if_pos a,SX]
  rw[GZ] at a;by_cases e:j=k
  ·o⟨x,hx⟩:=Option.isSome_iff_exists.mp a
   rw[if_pos e,e,hx,Option.map_some,if_pos rfl]
  ·rw[if_neg e]
   cases valV kvs j with
   | none=>rfl
   | some x=>rw[Option.map_some,if_neg e]
 ·rw[if_neg a]
  r Om k j y kvs ?_;rw[GZ] at a;cases q:valV kvs k with
  | none=>rfl
  | some x=>rw[q] at a; !(a rfl).elim
theorem CT(kvs:List (κ×V))(k:κ)(v:V):(putK kvs k v).length<=kvs.length+1:=by
 unfold putK;split
 ·rw[List.length_map]; w
 ·rw[List.length_append,List.length_cons,List.length_nil]; w
theorem Ir{kvs:List (κ×V)}{k:κ}(v:V)(h:valV kvs k=none):putK kvs k v=kvs++[(k,v)]:=by
 unfold putK;rw[GZ,h];!if_neg ¤
theorem RelO.isSome_eq{o:Option V}{u:Option Value}(r:RelO o u):o.isSome=u.isSome:=by
 cases o with
 | none=>cases u with
  | none=>rfl
  | some _=>!(show False from r).elim
 | some _=>cases u with
  | none=>!(show False from r).elim
  | some _=>rfl
theorem RelO.getD{o:Option V}{u:Option Value}{d:V}{d':Value}(r:RelO o u)(rd:RelV d d'):RelV (o.getD d) (u.getD d'):=by
 cases o with
 | none=>cases u with
  | none=>!rd
  | some _=>!(show False from r).elim
 | some _=>cases u with
  | none=>!(show False from r).elim
  | some _=>!r
theorem KV.val{kvs:List (κ×V)}{vs:List (κ×Value)}(r:KV kvs vs)(k:κ):RelO (valV kvs k) (valueAt vs k):=by
 unfold KV at r
 induction r with
 | nil=>!True.intro
 | @cons p q ps qs h t ih =>
  o⟨h1,h2⟩:=h;by_cases e:p.1=k
  ·h e':q.1=k:=h1.symm.trans e
   h b:valueAt (q::qs) k=some q.2:=by simp[valueAt,List.find?_cons,e']
   rw[CP e,b]; !h2
  ·h e':¬ q.1=k:=fun z=>e (h1.trans z)
   h b:valueAt (q::qs) k=valueAt qs k:=by simp[valueAt,List.find?_cons,e']
   rw[CQ e,b]; !ih
theorem KV.any{kvs:List (κ×V)}{vs:List (κ×Value)}(r:KV kvs vs)(k:κ):(kvs.any fun kv=>decide (kv.1=k))=vs.any fun kv=>decide (kv.1=k):=by
 unfold KV at r
 induction r with
 | nil=>rfl
 | cons h t ih=>rw[List.any_cons,List.any_cons,ih,h.1]
theorem KV.repl{kvs:List (κ×V)}{vs:List (κ×Value)}(r:KV kvs vs)(k:κ){y:V}{u:Value}(ry:RelV y u) :
  KV (kvs.map fun kv=>if kv.1=k then (kv.1,y) else kv) (vs.map fun kv=>if kv.1=k then (kv.1,u) else kv):=by
 unfold KV at r ⊢
 induction r with
 | nil=>!.nil
 | @cons p q ps qs h t ih =>
  rw[List.map_cons,List.map_cons];r .cons ?_ ih;o⟨h1,h2⟩:=h;by_cases e:p.1=k
  ·rw[if_pos e,if_pos (h1.symm.trans e)]; !⟨h1,ry⟩
  ·rw[if_neg e,if_neg (fun z=>e (h1.trans z))]; !⟨h1,h2⟩
theorem KV.put{kvs:List (κ×V)}{vs:List (κ×Value)}(r:KV kvs vs)(k:κ){y:V}{u:Value}(ry:RelV y u):KV (putK kvs k y) (stored vs k u):=by
 unfold putK stored;rw[r.any k];by_cases e:(vs.any fun kv=>decide (kv.1=k))=true
 ·rw[if_pos e,if_pos e]; !r.repl k ry
 ·rw[if_neg e,if_neg e]; !Paired.snoc r ⟨rfl,ry⟩
theorem KV.length{kvs:List (κ×V)}{vs:List (κ×Value)}(r:KV kvs vs):kvs.length=vs.length:=Paired.length r
end
theorem LR{P:Program}{w:World}{k:Key}{u:Value}(r:RelV (kV k) u):(Bd P w).is k u=true:=by
 cases k with
 | inl i=>o⟨t,e⟩:=(show ∃ t,u=Value.int i t from r); subst e; !RB P w i t
 | inr x=>o⟨t,e⟩:=(show ∃ t,u=Value.str x t from r); subst e; !RX P w x t
theorem Ou{P:Program}{w:World}:∀{ks:List Key}{us:List Value},Vals (ks.map kV) us->ItemsAre (Bd P w) ks us
 | [],_,r=>by rw[List.map_nil] at r; cases r; !.nil
 | k::ks,_,r=>by
  rw[List.map_cons] at r;cases r with
  | cons h t=>!.cons (LR h) (Ou t)
abbrev KT(H:Hp):List (List Key×V)->List (List Key×Addr×Value)->Prop:=Paired fun p q=>p.1=q.1/\H q.2.1=some (.tup (p.1.map kV))/\RelV p.2 q.2.2
theorem KT.val{H:Hp}{kvs:List (List Key×V)}{xs:List (List Key×Addr×Value)}(r:KT H kvs xs)(k:List Key):RelO (valV kvs k) ((atKey xs k).map (·.2)):=by
 induction r with
 | nil=>!True.intro
 | @cons p q ps qs h t ih =>
  o⟨h1,_,h2⟩:=h;by_cases e:p.1=k
  ·h e':q.1=k:=h1.symm.trans e
   h b:atKey (q::qs) k=some q.2:=by simp[atKey,List.find?_cons,e']
   rw[CP e,b]; !h2
  ·h e':¬ q.1=k:=fun z=>e (h1.trans z)
   h b:atKey (q::qs) k=atKey qs k:=by simp[atKey,List.find?_cons,e']
   rw[CQ e,b]; !ih
theorem KT.repl{H:Hp}{kvs:List (List Key×V)}{xs:List (List Key×Addr×Value)}(r:KT H kvs xs)(k:List Key){y:V}{u:Value}(ry:RelV y u) :
  KT H (kvs.map fun kv=>if kv.1=k then (kv.1,y) else kv) (xs.map (putAt k u)):=by
 induction r with
 | nil=>!.nil
 | @cons p q ps qs h t ih =>
  rw[List.map_cons,List.map_cons];r .cons ?_ ih;o⟨h1,h2,h3⟩:=h;unfold putAt;by_cases e:p.1=k
  ·rw[if_pos e,if_pos (h1.symm.trans e)]; !⟨h1,h2,ry⟩
  ·rw[if_neg e,if_neg (fun z=>e (h1.trans z))]; !⟨h1,h2,h3⟩
theorem KT.put{H:Hp}{kvs:List (List Key×V)}{xs:List (List Key×Addr×Value)}(r:KT H kvs xs)(k:List Key){b:Addr}{y:V}{u:Value}(hb:H b=some (.tup (k.map kV)))(ry:RelV y u) :
  KT H (putK kvs k y) (storedH xs k b u):=by
 h e:(kvs.any fun kv=>decide (kv.1=k))=(atKey xs k).isSome:=by
  rw[GZ,(r.val k).isSome_eq,Option.isSome_map]
 unfold putK storedH;rw[e];by_cases q:(atKey xs k).isSome=true
 ·rw[if_pos q,if_pos q]; !r.repl k ry
 ·rw[if_neg q,if_neg q]; !Paired.snoc r ⟨rfl,hb,ry⟩
theorem KT.keeps{H H':Hp}{kvs:List (List Key×V)}{xs:List (List Key×Addr×Value)}(r:KT H kvs xs)(ht:∀ b ys,H b=some (.tup ys)->H' b=some (.tup ys)):KT H' kvs xs :=
 Paired.mapP r fun _ _ z=>⟨z.1,ht _ _ z.2.1,z.2.2⟩
section
variable{P:Program}{w:World}{H:Hp}{h:Heap}{a:Addr}
theorem ADG{u:HO}(ok:HOk P w H h)(e:Rd H a u):ObjOk P w H h a u:=e.ok ok
theorem Ny{kvs:List (Key×V)}(ok:HOk P w H h)(e:Rd H a (.dK kvs)):kvs.length<=sizeLine/\(a==sysModules)=false/\∃ vs,KV kvs vs/\h.DictOf (Bd P w) a vs :=
 show ObjOk P w H h a (.dK kvs) from ADG ok e
theorem ADJ{kvs:List (Key×V)}(ok:HOk P w H h)(e:H a=some (.dK kvs)):kvs.length<=sizeLine/\(a==sysModules)=false/\∃ vs,KV kvs vs/\h.DictOf (Bd P w) a vs:=Ny ok (.inl e)
theorem JN{ks:List Key}(ok:HOk P w H h)(e:H a=some (.tup (ks.map kV))):(tupleKind (Bd P w)).is h ks a:=by
 o⟨_,its,r,o,h1,h2,n,h3⟩:=(show ObjOk P w H h a (.tup (ks.map kV)) from ok a _ e);!⟨o,its.toArray,n,h1,h2,h3,by simpa using Ou r⟩
theorem OJ{kvs:List (List Key×V)}(ok:HOk P w H h)(e:Rd H a (.dT kvs)):kvs.length<=sizeLine/\(a==sysModules)=false /\
  ∃ xs,KT H kvs xs/\h.DictOfH (tupleKind (Bd P w)) a xs:=by
 o⟨z,y,xs,r,o,es,ep,h1,h2,h3,h4,h5⟩:=(show ObjOk P w H h a (.dT kvs) from ADG ok e);r⟨z,y,xs,r,o,es,ep,h1,h2,h3,h4,fun x hx=>?_,h5⟩;h all:∀{l:List (List Key×V)}{m:List (List Key×Addr×Value)},KT H l m->∀ x∈m,(tupleKind (Bd P w)).is h x.1 x.2.1:=by
  intro l m q
  induction q with
  | nil=>intro x hx; !nomatch hx
  | @cons p q ps qs hq t ih =>
   intro x hx;rcases List.mem_cons.mp hx with e | hx
   ·subst e
    !JN ok (by rw[<- hq.1]; !hq.2.1)
   ·!ih x hx
 !all r x hx
theorem AEx{kvs:List (List Key×V)}(ok:HOk P w H h)(e:H a=some (.dT kvs)):kvs.length<=sizeLine/\(a==sysModules)=false /\
  ∃ xs,KT H kvs xs/\h.DictOfH (tupleKind (Bd P w)) a xs:=OJ ok (.inl e)
end
def DGet(H:Hp)(a:Addr)(y:V)(r:Option V):Prop :=
 (∃ kvs k,Rd H a (.dK kvs)/\y=kV k/\r=valV kvs k)\/∃ kvs k b,Rd H a (.dT kvs)/\y=.ref b/\H b=some (.tup (k.map kV))/\r=valV kvs k
def DPut(H:Hp)(a:Addr)(y v:V)(H':Hp):Prop :=
 (∃ kvs k,H a=some (.dK kvs)/\y=kV k/\kvs.length<sizeLine/\H'=upd H a (.dK (putK kvs k v))) \/
 ∃ kvs k b,H a=some (.dT kvs)/\y=.ref b/\H b=some (.tup (k.map kV))/\kvs.length<sizeLine/\H'=upd H a (.dT (putK kvs k v))
theorem DGet.k{H:Hp}{a:Addr}{kvs:List (Key×V)}{k:Key}(e:H a=some (.dK kvs)):DGet H a (kV k) (valV kvs k):=.inl ⟨kvs,k,.inl e,rfl,rfl⟩
theorem DGet.t{H:Hp}{a b:Addr}{kvs:List (List Key×V)}{k:List Key}(e:H a=some (.dT kvs))(eb:H b=some (.tup (k.map kV))):DGet H a (.ref b) (valV kvs k):=.inr ⟨kvs,k,b,.inl e,rfl,eb,rfl⟩
section
variable{X:Cx}{pins:List ⑤}{σ:St}{H:Hp}{s:Shared}{a:Addr}{y v:V}{u r:Value}{o:Option V}{A:Around}{E:Value->Shared->Prop}
theorem Inv.big(I:Inv X pins σ H s):sysModules<¸:=by
 h h:mainGlobals<¸:=(I.mod.glob.keeps I.bk).lt;!Nat.lt_trans ¤ h
theorem Yp{Q:Value->Shared->Prop}(hu:A.units+1<cLine)(I:Inv X pins σ H s)(g:DGet H a y (some v))(ry:RelV y u)(h:∀ w' s',Inv X pins σ H s'->RelV v w'->Q w' s') :
  wpAny ② A (getItem (.ref a) u) Q E s:=by
 rcases g with⟨kvs,k,e,ey,l⟩ | ⟨kvs,k,b,e,ey,eb,l⟩
 ·subst ey
  o⟨z,hd,vs,rel,dd⟩:=Ny I.hok e;o⟨w',hw,rw'⟩:=RelO.some_of (v:=v) (o:=valueAt vs k) (by rw[l]; !rel.val k);!wpAny_getItem_of (LR ry) dd.mapOf hw (h w' _ (I.tok _) rw')
 ·subst ey
  cases (show u=Value.ref b from ry);o⟨z,hd,xs,rel,dd⟩:=OJ I.hok e;o⟨w',hw,rw'⟩:=RelO.some_of (v:=v) (o:=(atKey xs k).map (·.2)) (by rw[l]; !rel.val k);o⟨p,hp,hp2⟩:=Option.map_eq_some_iff.mp hw;r wpAny_getItem_heap (tupleKind_room_in1 hu) (JN I.hok eb) dd hp ?_;rw[hp2];!h w' _ (I.tok _) rw'
theorem AFd{Q:Value->Shared->Prop}(hu:A.units+1<cLine)(I:Inv X pins σ H s)(g:DGet H a y o)(ry:RelV y u)(h:∀ s',Inv X pins σ H s'->Q (.bool o.isSome) s') :
  wpAny ② A (compareOp .In u (.ref a)) Q E s:=by
 rcases g with⟨kvs,k,e,ey,l⟩ | ⟨kvs,k,b,e,ey,eb,l⟩
 ·subst ey
  o⟨z,hd,vs,rel,dd⟩:=Ny I.hok e;r wpAny_in_of (LR ry) hd dd.mapOf ?_;rw[<- (rel.val k).isSome_eq,<- l];!h _ (I.tok _)
 ·subst ey
  cases (show u=Value.ref b from ry);o⟨z,hd,xs,rel,dd⟩:=OJ I.hok e;r wpAny_in_heap (tupleKind_room_in1 hu) (JN I.hok eb) hd dd ?_;h q:=(rel.val k).isSome_eq;rw[Option.isSome_map] at q;rw[<- q,<- l];!h _ (I.tok _)
theorem Js{h':Heap}{t':Nat}{ob:HO}(I:Inv X pins σ H s)(mu:Mut (H a))(hs:Heap.SameBut a s.heap h')(he:∃ q,h'.get? a=some q)(new:ObjOk X.prog X.w (upd H a ob) h' a ob) :
  Inv X pins σ (upd H a ob) {s with heap:=h',toks:=t'} :=
 I.write (x:=a) (e:=a) mu (.inl rfl) (fun b q hb z=>(hs.2 b hb).trans z) he new
theorem Zu{P:Program}{w:World}{H':Hp}{h':Heap}{kvs:List (Key×V)}{vs:List (Key×Value)}(z:kvs.length<=sizeLine)(hd:(a==sysModules)=false)(rel:KV kvs vs)(dd:h'.DictOf (Bd P w) a vs) :
  ObjOk P w H' h' a (.dK kvs):=⟨z,hd,vs,rel,dd⟩
theorem Yo{H':Hp}{Q:Unit->Shared->Prop}(hu:A.units+1<cLine)(I:Inv X pins σ H s)(g:DPut H a y v H')(ry:RelV y u)(rv:RelV v r)(h:∀ s',Inv X pins σ H' s'->Q () s') :
  wpAny ② A (setItem (.ref a) u r) Q E s:=by
 rcases g with⟨kvs,k,e,ey,l,eH⟩ | ⟨kvs,k,b,e,ey,eb,l,eH⟩
 ·subst ey eH
  o⟨z,hd,vs,rel,dd⟩:=ADJ I.hok e;h hz:vs.length<=sizeLine:=by rw[<- rel.length]; !z
  h hl:(putK kvs k v).length<=sizeLine:=by have:=CT kvs k v; w
  r wpAny_setItem_pairs (hsz:=hz) (LR ry) dd fun h' dd' hs=>h _ ?_;h he:∃ q,h'.get? a=some q:=let ⟨q,_,_,hq,_⟩:=dd'; ⟨q,hq⟩
  !Js I (by rw[e]; !True.intro) hs he (Zu hl hd (rel.put k rv) dd')
 ·subst ey eH
  cases (show u=Value.ref b from ry);o⟨z,hd,xs,rel,dd⟩:=AEx I.hok e;h hz:xs.length<=sizeLine:=by rw[<- Paired.length rel]; !z
  h hl:(putK kvs k v).length<=sizeLine:=by have:=CT kvs k v; w
  r wpAny_setItem_heap (hsz:=hz) (tupleKind_room_in1 hu) (JN I.hok eb) dd fun h' dd' hs=>h _ ?_;o⟨q,es,ep,hq,h2,h3,h4,_,h5⟩:=dd';r Js I (by rw[e]; !True.intro) hs ⟨q,hq⟩ ⟨hl,hd,_,(rel.put k eb rv).keeps fun c ys ec=>?_,q,es,ep,hq,h2,h3,h4,h5⟩;rw[Af (Cd ec e (fun z=>nomatch z))];!ec
end
def NoSl(i:Expr):Prop:=∀ ov iv,subscripted i false ov iv=operate [ov,iv] (getItem ov iv)
theorem Vz{prog:Program}{w:World}{A:Around}{E:Value->Shared->Prop}{s:Shared}{env:Env}{value slice:Expr}{pos:Pos}{T id:String}{Q:Value->Shared->Prop}
  (hl:typeLookup (.type T) "__getitem__" = pure (some (.builtin id))) (hs:NoSl slice)
  (h:wpAny ① A (eval value env) (fun o s₁=>wpAny ① A (eval slice env) (fun i s₂=>s₂.TypeIs o T/\wpAny ① A (getItem o i) Q E s₂) E s₁) E s) :
  wpAny ① A (eval (.Subscript value slice pos) env) Q E s:=by
 r Subscript_ (wpAny_mono h (fun o s₁ h₁=>wpAny_mono h₁ (fun i s₂ h₂=>?_) fun _ _ x=>x) fun _ _ x=>x);o⟨hT,h₂⟩:=h₂;unfold subscriptTail;r wpAny_bind ?_;rw[getitemInPython_of_ne hT.not_modules];r wpAny_bind (wpAny_specialOf hT hl ?_);h fin:wpAny ① A (subscripted slice false o i) (fun r s₃=>wpAny ① A (letTemporaryGo value o r >>= fun _=>pure r) Q E s₃) E s₂:=by
  rw[hs o i];!wpAny_operating (wpAny_mono h₂ (fun r s₃ h₃=>wpAny_bind (wpAny_letTemporaryGo (wpAny_pure h₃))) fun _ _ x=>x)
 first
  | !wpAny_pure (wpAny_bind fin)
  | !wpAny_bind (wpAny_pure (wpAny_bind fin))
  | !wpAny_bind fin
theorem Qv{X:Cx}{pins:List ⑤}{σ:St}{H:Hp}{s:Shared}{a:Addr}{y:V}{o:Option V}(I:Inv X pins σ H s)(g:DGet H a y o):s.TypeIs (.ref a) "dict":=by
 rcases g with⟨kvs,k,e,_,_⟩ | ⟨kvs,k,b,e,_,_,_⟩
 ·o⟨_,_,vs,_,dd⟩:=Ny I.hok e
  !dd.typeIs
 ·o⟨_,_,xs,_,dd⟩:=OJ I.hok e
  !dd.typeIs
def AFM(td ty:TE):TE:=fun σ H Q=>td σ H fun x H1=>ty σ H1 fun y H2=>∃ a v,x=.ref a/\DGet H2 a y (some v)/\Q v H2
def AFR(ty td:TE):TE:=fun σ H Q=>ty σ H fun y H1=>td σ H1 fun x H2=>∃ a o,x=.ref a/\DGet H2 a y o/\Q (.bl o.isSome) H2
def AEi(td ty tv:TE):TS:=fun D σ H=>tv σ H fun v H1=>td σ H1 fun x H2=>ty σ H2 fun y H3=>∃ a H4,x=.ref a/\DPut H3 a y v H4/\D.nx σ H4
section
variable{X:Cx}{o i e value:Expr}{pos pos' tpos:Pos}{td ty tv:TE}
theorem Qe(hu:X.A.units+1<cLine)(ho:PE X o td)(hi:PE X i ty)(hs:NoSl i):PE X (.Subscript o i pos) (AFM td ty):=by
 intro pins s σ H Q I h;r Vz PySem.F.slot_dict_getitem.lookup hs (thn (ho pins s σ H _ I h) fun u s1 ⟨x,H1,I1,rx,q1⟩=>thn (hi pins s1 σ H1 _ I1 q1) fun iv s2 ⟨y,H2,I2,ry,a,v,ex,g,q2⟩=>?_);subst ex;obtain rfl:u=Value.ref a:=rx;!⟨Qv I2 g,Yp hu I2 g ry fun w' s3 I3 rw'=>⟨v,H2,I3,rw',q2⟩⟩
theorem AAn(hu:X.A.units+1<cLine)(hi:PE X i ty)(ho:PE X o td):PC X .In i o (AFR ty td):=by
 intro pins s σ H Q I h;r thn (hi pins s σ H _ I h) fun iv s1 ⟨y,H1,I1,ry,q1⟩=>thn (ho pins s1 σ H1 _ I1 q1) fun u s2 ⟨x,H2,I2,rx,a,ov,ex,g,q2⟩=>?_;subst ex;obtain rfl:u=Value.ref a:=rx;!AFd hu I2 g ry fun s3 I3=>⟨.bl ov.isSome,H2,I3,rfl,q2⟩
theorem Jw(hu:X.A.units+1<cLine)(ho:PE X o td)(hi:PE X i ty)(hv:PE X value tv)(hs:swapsWith value (some (.Subscript o i pos')) pos.line X.env=pure false) :
  PS X (.Assign [.Subscript o i pos'] value pos) (AEi td ty tv):=by
 intro pins s σ H D I h;r wpAny_Assign_Subscript (thn (hv pins s σ H _ I h) fun r s1 ⟨v,H1,I1,rv,q1⟩=>thn (ho pins s1 σ H1 _ I1 q1) fun u s2 ⟨x,H2,I2,rx,q2⟩=>thn (hi pins s2 σ H2 _ I2 q2) fun iv s3 ⟨y,H3,I3,ry,a,H4,ex,g,q3⟩=>?_) hs;subst ex;obtain rfl:u=Value.ref a:=rx;!Yo hu I3 g ry rv fun s4 I4=>⟨σ,H4,I4,q3⟩
end
theorem ABL{P:Program}{w:World}{H:Hp}(h:Heap)(hb:sysModules<h.objs.size):ObjOk P w H (h.push {cls:=.type "dict",data:=.dict #[]}) h.objs.size (.dK []) :=
 ⟨Nat.zero_le _,beq_eq_false_iff_ne.mpr (Ne.symm (Nat.ne_of_lt hb)),[],.nil,Heap.DictOf.new h⟩
theorem Zm{P:Program}{w:World}{H:Hp}(h:Heap)(hb:sysModules<h.objs.size):ObjOk P w H (h.push {cls:=.type "dict",data:=.dict #[]}) h.objs.size (.dT []) :=
 ⟨Nat.zero_le _,beq_eq_false_iff_ne.mpr (Ne.symm (Nat.ne_of_lt hb)),[],.nil,_,#[],0,¿ _ rfl,⟨rfl,rfl,rfl⟩,rfl,rfl,List.nodup_nil⟩
def ADd:TE:=fun _ H Q=>∀ p,H p=none->Q (.ref p) (upd H p (.dT []))
section
variable{X:Cx}{pos:Pos}
theorem Zy:PE X (.Dict [] [] pos) ADd:=fun pins s σ H Q I h =>
 wpAny_Dict_empty ⟨.ref ¸,_,I.laid (a:=¸) (o:=.dT []) (t':=s.toks) (fun _ _ q=>° _ q) ③ (Zm s.heap I.big),rfl,h _ (I.hok.fresh ③)⟩
end
def Vc:List (TE×TE)->St->Hp->(List (V×V)->Hp->Prop)->Prop
 | [],_,H,Q=>Q [] H
 | (tk,tv)::r,σ,H,Q=>tk σ H fun x H1=>tv σ H1 fun y H2=>Vc r σ H2 fun ps H3=>Q ((x,y)::ps) H3
abbrev VV:List (V×V)->List (Value×Value)->Prop:=Paired fun p q=>RelV p.1 q.1/\RelV p.2 q.2
def PPs(X:Cx)(pos:Pos)(keys:List (Option Expr))(values:List Expr)(trs:List (TE×TE)):Prop :=
 ∀(pins:List ⑤) (s:Shared) (σ:St) (H:Hp) (Q:List (V×V)->Hp->Prop),Inv X pins σ H s->Vc trs σ H Q ->
  wpAny ② X.A (evalPairs (pairTrees keys values X.env pos)) (fun vs s'=>∃ ps H',Inv X pins σ H' s'/\VV ps vs/\Q ps H') X.xe s
theorem WW{X:Cx}{pos:Pos}:PPs X pos [] [] []:=fun pins s σ H Q I h=>pairTrees_nil_walk ⟨[],H,I,.nil,h⟩
theorem Lj{X:Cx}{pos:Pos}{k v:Expr}{ks:List (Option Expr)}{vs:List Expr}{tk tv:TE}{trs:List (TE×TE)}(hk:PE X k tk)(hv:PE X v tv)(hr:PPs X pos ks vs trs) :
  PPs X pos (some k::ks) (v::vs) ((tk,tv)::trs):=fun pins s σ H Q I h =>
 pairTrees_cons_walk (thn (hk pins s σ H _ I h) fun u s1 ⟨x,H1,I1,rx,q1⟩=>thn (hv pins s1 σ H1 _ I1 q1) fun w2 s2 ⟨y,H2,I2,ry,q2⟩ =>
  thn (hr pins s2 σ H2 _ I2 q2) fun ws s3 ⟨ps,H3,I3,rel,q3⟩=>⟨(x,y)::ps,H3,I3,.cons ⟨rx,ry⟩ rel,q3⟩)
def mergeK(kvs more:List (Key×V)):List (Key×V):=more.foldl (fun acc kv=>putK acc kv.1 kv.2) kvs
theorem KV.merge:∀{more:List (Key×V)}{rs:List (Key×Value)}{kvs:List (Key×V)}{vs:List (Key×Value)},KV more rs->KV kvs vs->KV (mergeK kvs more) (merged vs rs):=by
 intro more rs kvs vs r;unfold KV at r
 induction r generalizing kvs vs with
 | nil=>intro q; !q
 | @cons p q ps qs h t ih =>
  intro r0;h e:KV (putK kvs p.1 p.2) (stored vs q.1 q.2):=by
   have:=r0.put p.1 h.2;rw[<- h.1]; !this
  !ih e
theorem HJ:∀(more kvs:List (Key×V)),(mergeK kvs more).length<=kvs.length+more.length
 | [],kvs=>by show kvs.length<=kvs.length+0; w
 | p::r,kvs=>by
  h h1:=HJ r (putK kvs p.1 p.2);h h2:=CT kvs p.1 p.2;show (mergeK (putK kvs p.1 p.2) r).length<=_;rw[List.length_cons]; w
theorem Ls{P:Program}{w:World}:∀{kvs:List (Key×V)}{ws:List (Value×Value)},VV (kvs.map fun kv=>(kV kv.1,kv.2)) ws->∃ rs,Carries (Bd P w) ws rs/\KV kvs rs
 | [],_,r=>by rw[List.map_nil] at r; cases r; !⟨[],True.intro,.nil⟩
 | p::kvs,_,r=>by
  rw[List.map_cons] at r;cases r with
  | @cons a b as bs h t =>
   o⟨rs,c,q⟩:=Ls (P:=P) (w:=w) t;o⟨b1,b2⟩:=b;!⟨(p.1,b2)::rs,⟨LR h.1,rfl,c⟩,.cons ⟨rfl,h.2⟩ q⟩
def AEl(trs:List (TE×TE)):TE:=fun σ H Q=>∀ p,H p=none->Vc trs σ (upd H p (.dK [])) fun ps H2=>H2 p=some (.dK [])/\∃ kvs:List (Key×V),ps=kvs.map (fun kv=>(kV kv.1,kv.2))/\kvs.length<=15/\Q (.ref p) (upd H2 p (.dK (mergeK [] kvs)))
theorem Wc{X:Cx}{pos:Pos}{keys:List (Option Expr)}{values:List Expr}{trs:List (TE×TE)}(h:PPs X pos keys values trs)(hall:keys.all (·.isSome)=true)(hl:keys.length=values.length)(h0:keys≠[])
  (h15:keys.length<=15):PE X (.Dict keys values pos) (AEl trs):=by
 intro pins s σ H Q I q;h hn:=I.hok.fresh (Nat.le_refl ¸);h I1:=I.laid (a:=¸) (o:=.dK []) (h':=s.heap.push {cls:=.type "dict",data:=.dict #[]}) (t':=s.toks) (fun _ _ q=>° _ q) ③ (ABL s.heap I.big);r wpAny_Dict_walk (knd:=Bd X.prog X.w) hall hl h0 h15 (thn (h pins _ σ _ _ I1 (q _ hn)) fun ws s2 ⟨ps,H2,I2,rel,e,kvs,ep,lk,q2⟩=>?_);subst ep;o⟨rs,c,rk⟩:=Ls (P:=X.prog) (w:=X.w) rel;o⟨z,hd,vs0,r0,dd⟩:=ADJ I2.hok e;cases r0;r⟨rs,c,dd,fun h' dd' hs=>⟨.ref ¸,_,?_,rfl,q2⟩⟩;h hz:(mergeK [] kvs).length<=sizeLine:=by
  h h1:=HJ kvs [];rw[List.length_nil] at h1;rw[sizeLine_eq]; w
 h he:∃ q,h'.get? ¸=some q:=let ⟨q,_,_,hq,_⟩:=dd'; ⟨q,hq⟩
 !Js I2 (by rw[e]; !True.intro) hs he (Zu hz hd (rk.merge .nil) dd')
structure M1(X:Cx)(o:Expr)(m:Str)(apos:Pos)(e:Expr)(cpos:Pos):Prop where
 base:attributeBase o m X.env (eval o X.env)=eval o X.env
 few:((backTo cpos (starEach [e] X.env)).all (fun x=>!x.1)&&(backToKw cpos (keywordEach [] X.env)).all (fun x=>x.1.isSome)
  && decide (([e]:List Expr).length+([]:List Keyword).length+(if ([]:List Keyword).isEmpty then 0 else 1)<30))=true
 line:(apos.endLine==cpos.line)=true
 trees:backTo cpos (starEach [e] X.env)=[(false,eval e X.env)]
structure M2(X:Cx)(o:Expr)(m:Str)(apos:Pos)(e f:Expr)(cpos:Pos):Prop where
 base:attributeBase o m X.env (eval o X.env)=eval o X.env
 few:((backTo cpos (starEach [e,f] X.env)).all (fun x=>!x.1)&&(backToKw cpos (keywordEach [] X.env)).all (fun x=>x.1.isSome)
  && decide (([e,f]:List Expr).length+([]:List Keyword).length+(if ([]:List Keyword).isEmpty then 0 else 1)<30))=true
 line:(apos.endLine==cpos.line)=true
 trees:backTo cpos (starEach [e,f] X.env)=[(false,eval e X.env),(false,eval f X.env)]
def IsD(H:Hp)(a:Addr):Prop:=(∃ kvs,Rd H a (.dK kvs))\/∃ kvs,Rd H a (.dT kvs)
theorem AEJ{X:Cx}{pins:List ⑤}{σ:St}{H:Hp}{s:Shared}{a:Addr}(I:Inv X pins σ H s)(d:IsD H a) :
  s.TypeIs (.ref a) "dict"/\(∀ b,Value.ref a=.ref b->∃ ob,s.heap.get? b=some ob/\ob.dict=none)/\(a==sysModules)=false:=by
 rcases d with⟨kvs,e⟩ | ⟨kvs,e⟩
 ·o⟨_,hd,vs,_,dd⟩:=Ny I.hok e
  r⟨dd.typeIs,fun b q=>?_,hd⟩;cases q;o⟨ob,_,_,h1,h2,_⟩:=dd;!⟨ob,h1,h2.2.1⟩
 ·o⟨_,hd,xs,_,dd⟩:=OJ I.hok e
  r⟨dd.typeIs,fun b q=>?_,hd⟩;cases q;o⟨ob,_,_,h1,h2,_⟩:=dd;!⟨ob,h1,h2.2.1⟩
section
variable{X:Cx}{pins:List ⑤}{σ:St}{H:Hp}{s:Shared}{a:Addr}{y d:V}{u r:Value}{o:Option V}{A:Around}{E:Value->Shared->Prop}
theorem ADi{Q:Value->Shared->Prop}(hu:A.units+1<cLine)(I:Inv X pins σ H s)(g:DGet H a y o)(ry:RelV y u)(rd:RelV d r)(h:∀ w' s',Inv X pins σ H s'->RelV (o.getD d) w'->Q w' s') :
  wpAny ② A (call (.builtin "dict.get") [.ref a,u,r]) Q E s:=by
 rcases g with⟨kvs,k,e,ey,l⟩ | ⟨kvs,k,b,e,ey,eb,l⟩
 ·subst ey
  o⟨z,hd,vs,rel,dd⟩:=Ny I.hok e;r call_meetsIn PySem.F.slot_dict_get dd.typeIs PySem.F.entry_dict_get (PySem.F.args_dict_get_3 _ _ _) (meets_dict_get_default (Bd X.prog X.w) a (LR ry) hd r) ⟨_,dd.mapOf,h _ _ (I.tok _) ?_⟩;rw[l];!(rel.val k).getD rd
 ·subst ey
  cases (show u=Value.ref b from ry);o⟨z,hd,xs,rel,dd⟩:=OJ I.hok e;r call_meetsIn PySem.F.slot_dict_get dd.typeIs PySem.F.entry_dict_get (PySem.F.args_dict_get_3 _ _ _) (meetsH_dict_get_default (tupleKind (Bd X.prog X.w)) a b hd r) ⟨tupleKind_room_in1 hu,k,xs,JN I.hok eb,dd,h _ _ (I.tok _) ?_⟩;rw[l];!(rel.val k).getD rd
end
def AEX(td ty tx:TE):TE:=fun σ H Q=>td σ H fun x H1=>∃ a,x=.ref a/\IsD H1 a/\ty σ H1 fun y H2=>tx σ H2 fun z H3=>∃ o,DGet H3 a y o/\Q (o.getD z) H3
section
variable{X:Cx}{o e f:Expr}{apos cpos:Pos}{td ty tx:TE}
theorem AAG(hu:X.A.units+1<cLine)(ho:PE X o td)(he:PE X e ty)(hf:PE X f tx)(m:M2 X o "get" apos e f cpos):PE X (.Call (.Attribute o "get" apos) [e,f] [] cpos) (AEX td ty tx):=by
 intro pins s σ H Q I h;r wpAny_Call_method m.base m.few m.line PySem.F.plainAttrs_dict PySem.F.slot_dict_get PySem.F.type_dict_get (thn (ho pins s σ H _ I h) fun u s1 ⟨x,H1,I1,rx,a,ex,d,q1⟩=>?_);subst ex;obtain rfl:u=Value.ref a:=rx;o⟨t1,t2,_⟩:=AEJ I1 d;r⟨t1,t2,?_⟩;rw[m.trees];r Calls.callWith_builtin rfl (Calls.evalArgs_plain (Calls.spliced_cons (thn (he pins s1 σ H1 _ I1 q1) fun iv s2 ⟨y,H2,I2,ry,q2⟩ =>
  Calls.spliced_cons (thn (hf pins s2 σ H2 _ I2 q2) fun fv s3 ⟨z,H3,I3,rz,ov,g,q3⟩=>Calls.spliced_nil ?_))))
 !ADi hu I3 g ry rz fun w' s4 I4 rw'=>⟨_,H3,I4,rw',q3⟩
end
end L2
end
section
namespace L2
open PySem PySem.Spec PyProof.Rows
open Sem (wp)
section
variable{prog:Program}{w:World}{A:Around}{E:Value->Shared->Prop}{s:Shared}
theorem Xz{d:Addr}{o:Obj}{es:Array DictEntry}{ep:Nat}{Q:Value->Shared->Prop}(hd:(d==sysModules)=false)(hT:s.TypeIs (.ref d) "dict")(ho:s.heap.get? d=some o)(hdat:o.data=.dict es ep)
  (hQ:Q (.ref ¸) {s with heap:=s.heap.push {cls:=.type "dict_keyiterator",data:=.fields #[.ref d,.int 0 0,.int es.size 0,.int ep 0]}}) :
  wpAny ① A (pyIter (.ref d)) Q E s:=by
 r wpAny_pyIter_slot hT F.slot_dict_iter (wpAny_call_entry F.slot_dict_iter hT F.entry_dict_iter ?_ (F.args_dict_iter_1 _));unfold Builtin.«dict.__iter__»;r wpAny_bind ?_;unfold Builtin.Dict.dictSlotNone;r wpAny_bind (wpAny_notOrdered_dict hT ?_);show wpAny _ _ (pure (Value.ref d)) _ _ s;r wpAny_pure ?_;show wpAny _ _ (Builtin.Dict.showsAll d >>= _) _ _ s;unfold Builtin.Dict.showsAll;rw[if_neg (by rw[hd]; !Bool.false_ne_true)];r wpAny_bind (wpAny_pure ?_);r wpAny_bind (wpAny_dictEntries ho hdat ?_);r wpAny_bind (wpAny_dictEpoch ho hdat ?_);r wpAny_bind (wpAny_newObj_type (wpAny_pure ⟨_,rfl, "dict_keyiterator",_,⟨_,¿ _ rfl,rfl⟩,F.slot_dict_keyiterator_next.lookup,?_⟩));simpa [rawInt] using hQ
theorem AAd{it d:Addr}{i ep:Nat}{es:Array DictEntry}{od:Obj}{Q:Option Value->Shared->Prop}(hit:s.heap.IsKeyIter it d i es.size ep)
  (hod:s.heap.get? d=some od) (hdd:od.data=.dict es ep) (hlt':i<es.size)
  (hQ:∀ h',h'.IsKeyIter it d (i+1) es.size ep->Heap.SameBut it s.heap h'->Q (some es[i].key) {s with heap:=h'}) :
  wpAny ① A (pyNext (.ref it)) Q E s:=by
 o⟨o,ho,hc,hd⟩:=id hit;unfold pyNext;r wpAny_bind (wpAny_attempt (wpAny_callSpecial?_slot (name:=Str.ofString "__next__") hit.typeIs F.slot_dict_keyiterator_next
  (wpAny_call_entry F.slot_dict_keyiterator_next hit.typeIs F.entry_dict_keyiterator_next ?_ (F.args_dict_keyiterator_next_1 _))))
 r wpAny_bind (wpAny_pure ?_);r wpAny_bind ?_;r wpAny_bind ?_
 first | r wpAny_bind (wpAny_typeNameOfWhole_keyiter hit.typeIs (wpAny_pure ?_)) | r wpAny_bind (wpAny_typeNameOf_keyiter hit.typeIs (wpAny_pure ?_))
 r wpAny_bind (wpAny_fieldsOf ho hd ?_);h hown:Builtin.Dict_items.ownsTuple "dict_keyiterator" = false:=by decide
 simp only[hown,Bool.false_eq_true,if_false];show wpAny _ _ (if (Value.ref d==Value.none)=true then _ else _) _ _ s;rw[if_neg (show ¬ ((Value.ref d==Value.none)=true) from Bool.false_ne_true)];r wpAny_bind (wpAny_pure ?_);r wpAny_bind (wpAny_dictEntries hod hdd ?_);rw[if_neg ¥];r wpAny_bind (wpAny_pure ?_);r wpAny_bind (wpAny_dictEpoch hod hdd ?_);rw[if_neg ¥];r wpAny_pure ?_;simp only[show ¬ ((i:Int)<0) from by w,if_false,Int.toNat_natCast,Array.getElem?_eq_getElem hlt'];r wpAny_bind ?_
 first | r wpAny_bind (wpAny_typeNameOfWhole_keyiter hit.typeIs (wpAny_pure ?_)) | r wpAny_bind (wpAny_typeNameOf_keyiter hit.typeIs (wpAny_pure ?_))
 r wpAny_bind (wpAny_isOneOf_keyiter hit.typeIs ?_);show wpAny _ _ (setField (.ref it) 1 (rawInt ((i:Int)+1)) >>= _) _ _ s;r wpAny_bind (wpAny_setField ho hd ¥ ?_);h hit':(s.heap.update it (Obj.mapFields (·.setIfInBounds 1 (rawInt ((i:Int)+1))))).IsKeyIter it d (i+1) es.size ep :=
  ⟨_,Heap.get?_update_self _ ho (Obj.isFreed_of_fields (Obj.data_mapFields hd _)),(Obj.cls_mapFields ..).trans hc,by rw[Obj.data_mapFields hd]; simp[rawInt]⟩
 r wpAny_bind (wpAny_holding ?_);r wpAny_bind (wpAny_isOneOf_keyiter (s:={s with heap:=s.heap.update it (Obj.mapFields (·.setIfInBounds 1 (rawInt ((i:Int)+1))))}) hit'.typeIs ?_);show wpAny _ _ (pure es[i].key) _ _ _;!wpAny_pure (wpAny_pure ⟨_,rfl,wpAny_pure (hQ _ hit' (Heap.SameBut.update ..))⟩)
theorem YS{it d:Addr}{i ep:Nat}{es:Array DictEntry}{od:Obj}{Q:Option Value->Shared->Prop}(hh:A.handled=none)(hit:s.heap.IsKeyIter it d i es.size ep)
  (hod:s.heap.get? d=some od) (hdd:od.data=.dict es ep) (hge:es.size<=i)
  (hQ:∀ h',Heap.ExtBut it s.heap h'->Q none {s with heap:=h'}):wpAny ① A (pyNext (.ref it)) Q E s:=by
 o⟨o,ho,hc,hd⟩:=id hit;unfold pyNext;r wpAny_bind (wpAny_attempt (wpAny_callSpecial?_slot (name:=Str.ofString "__next__") hit.typeIs F.slot_dict_keyiterator_next
  (wpAny_call_entry F.slot_dict_keyiterator_next hit.typeIs F.entry_dict_keyiterator_next ?_ (F.args_dict_keyiterator_next_1 _))))
 r wpAny_bind (wpAny_pure ?_);r wpAny_bind ?_;r wpAny_bind ?_
 first | r wpAny_bind (wpAny_typeNameOfWhole_keyiter hit.typeIs (wpAny_pure ?_)) | r wpAny_bind (wpAny_typeNameOf_keyiter hit.typeIs (wpAny_pure ?_))
 r wpAny_bind (wpAny_fieldsOf ho hd ?_);h hown:Builtin.Dict_items.ownsTuple "dict_keyiterator" = false:=by decide
 simp only[hown,Bool.false_eq_true,if_false];show wpAny _ _ (if (Value.ref d==Value.none)=true then _ else _) _ _ s;rw[if_neg (show ¬ ((Value.ref d==Value.none)=true) from Bool.false_ne_true)];r wpAny_bind (wpAny_pure ?_);r wpAny_bind (wpAny_dictEntries hod hdd ?_);rw[if_neg ¥];r wpAny_bind (wpAny_pure ?_);r wpAny_bind (wpAny_dictEpoch hod hdd ?_);rw[if_neg ¥];r wpAny_pure ?_;simp only[show ¬ ((i:Int)<0) from by w,if_false,Int.toNat_natCast,Array.getElem?_eq_none hge];r wpAny_bind ?_
 first | r wpAny_bind (wpAny_typeNameOfWhole_keyiter hit.typeIs (wpAny_pure ?_)) | r wpAny_bind (wpAny_typeNameOf_keyiter hit.typeIs (wpAny_pure ?_))
 show wpAny _ _ (setField (.ref it) 0 .none >>= _) _ _ s;r wpAny_bind (wpAny_setField ho hd ¥ ?_);show wpAny _ _ (newExc (.type "StopIteration") [] >>= _) _ _ _;r wpAny_bind ?_;simp only[newExc,newTuple];r wpAny_bind (wpAny_newObj_type ?_ (by size_fits));r wpAny_bind (m:=firstArgMember _ _) (wpAny_of_eq (a:=Value.none) (by first | rfl | (simp only[firstArgMember]; rfl)) ?_);r wpAny_newObj_type ?_ (by size_fits);simp only[raiseNew];r wpAny_bind (wpAny_handled ?_);rw[show A.in1.handled=none from hh];r wpAny_bind (wpAny_pure (wpAny_throw ?_));r wpAny_bind (wpAny_isInstance (T:="StopIteration") (b:=true) ⟨_,¿ _ rfl,rfl⟩ isSubtype_stop ?_);!wpAny_pure (hQ _ (((Heap.SameBut.update ..).extBut.push _).push _))
end
end L2
end
section
namespace L2
open PySem PySem.Spec PyProof.Rows
section
variable{prog:Program}{w:World}{A:Around}{E:Value->Shared->Prop}{s:Shared}{d:Addr}{o:Obj}{es:Array DictEntry}{ep:Nat}
theorem Ud(hh:A.handled=none)(I:Addr)(hne:d≠I)(hd:o.data=.dict es ep) :
  Walks prog w A I [I,d] [I] es.size (fun i v=>∃ e,es[i]?=some e/\v=e.key) (fun i h=>h.IsKeyIter I d i es.size ep/\h.get? d=some o) where
 sub:=fun b hb=>by simp at hb; simp[hb]
 frame:=fun _ _ _ st hk=>⟨st.1.at fun o e=>hk I ¥ o e,hk d ¥ o st.2⟩
 item:=fun i s Q E hi st hQ=>by
  r AAd st.1 st.2 hd hi fun h' hit' hs'=>?_;!hQ _ h' s.toks ⟨es[i],by simp[hi],rfl⟩ ⟨hit',hs'.extBut d o hne st.2⟩ fun b o hb e=>hs'.extBut b o (fun h=>hb (by simp[h])) e
 done:=fun s Q E st hQ=>YS hh st.1 st.2 hd ③ fun h' he'=>hQ h' s.toks fun b o hb e=>he' b o (fun h=>hb (by simp[h])) e
 self:=fun _ _ _ _ st hQ=>wpAny_pyIter_keyiter st.1 hQ
theorem AAX(lo:(d==sysModules)=false)(hx:o.ExactDict)(hd:o.data=.dict es ep) :
  PySem.W.KdlSrc prog w "dict" d d es.size (fun i v=>∃ e,es[i]?=some e/\v=e.key) (fun h=>h.get? d=some o) where
 type:=fun _ hm=>⟨o,hm,hx.1⟩
 there:=fun _ hm=>⟨Heap.lt_size hm,Heap.lt_size hm⟩
 keep:=fun _ _ hm hk=>hk d (.inl rfl) o hm
 notList:=by decide
 notTuple:=by decide
 hint:=fun _ _ _ _ hm hq=>PySem.W.kdl_hint_dict ⟨o,hm,hx.1⟩ hq
 iter:=fun _ _ hh hm=>⟨_,_,(fun _ _ hq=>Xz lo ⟨o,hm,hx.1⟩ hm hd hq),Ud hh _ (Nat.ne_of_lt (Heap.lt_size hm)) hd,⟨⟨_,¿ _ rfl,rfl,rfl⟩,° _ hm⟩⟩
end
def KeyL(H:Hp):List (List Key×V)->List V->Prop:=Paired fun kv y=>∃ b,y=.ref b/\H b=some (.tup (kv.1.map kV))
section
variable{X:Cx}
theorem Wk{H:Hp}:∀{kvs:List (List Key×V)}{xs:List (List Key×Addr×Value)},KT H kvs xs->KeyL H kvs (xs.map fun x=>.ref x.2.1)
 | _,_,.nil=>.nil
 | _,_,.cons h t=>.cons ⟨_,rfl,h.2.1⟩ (Wk t)
theorem QF(hc:X.calm=true):CallR X (.type "list") (fun xs H Q=>∃ p kvs,xs=[.ref p]/\H p=some (.dT kvs)/\∀ l ys,H l=none->KeyL H kvs ys->Q (.ref l) (upd H l (.lst ys))):=by
 intro pins s σ H xs us Q I rr h;o⟨p,kvs,rfl,hp,q⟩:=h;o⟨u,rfl,ru⟩:=rr.one;cases ru;o⟨z,lo,ts,kt,o,es,ep,h1,h2,h3,h4,h5⟩:=(show ObjOk X.prog X.w H s.heap p (.dT kvs) from I.hok p _ hp);h hl:es.size=kvs.length:=by
  rw[<- Array.length_toList,h4,List.length_map];!(Paired.length kt).symm
 r PySem.W.kdl_call (AAX lo h2 h3) (I.ok.hd hc) h1 (by rw[hl]; !z) fun h' tk acc' c' hk hS hacc=>?_;h hn:H ¸=none:=I.hok.fresh ③;r⟨.ref ¸,_,I.laid (a:=¸) (o:=.lst (ts.map fun x=>V.ref x.2.1)) (t':=tk) hk ③ ⟨?_,acc'.toList,c',?_,?_⟩,rfl,q _ _ hn (Wk kt)⟩
 ·rw[List.length_map,<- Paired.length kt]; !z
 ·r QK (by rw[List.length_map]; !(Paired.length kt).symm.trans (hl.symm.trans (hacc.1.symm.trans (Array.length_toList).symm))) fun i x u e1 e2=>?_
  h e2':acc'[i]?=some u:=by simpa using e2
  o⟨e,e3,rfl⟩:=hacc.2 i u e2';rw[<- Array.getElem?_toList,h4,List.getElem?_map] at e3;rw[List.getElem?_map] at e1;cases g:ts[i]? with
  | none=>rw[g] at e1; cases e1
  | some t =>
   rw[g] at e1 e3;cases e1;cases e3;rfl
 ·simpa using hS
end
end L2
end
section
namespace L2
open PySem PySem.Spec PyProof.Rows
open Sem (wp)
end L2
end
section
namespace L2
open PySem PySem.Spec PyProof.Rows
end L2
end
section
namespace L2
open PySem PySem.Spec PyProof.Rows
open Sem (wp)
end L2
end
section
namespace L2
open PySem PySem.Spec PyProof.Rows
theorem Km:∀ ns:List Int,HT.lexLt ns ns=false
 | []=>rfl
 | x::xs=>by rw[HT.Br,if_pos rfl]; !Km xs
end L2
end
section
namespace NW
open PySem L2
def within(ns some:List Int):List Int:=ns.filter fun n=>decide (n∈some)
def front(some ns:List Int):Bool:=decide (0<(within ns some).length)&&decide ((within ns some).length<ns.length)
def fb(pts:List ⑧)(some:List Int):Nat:=(pts.filter (front some)).length
def wOf(pts:List ⑧)(o:List Int):Int:=(List.range o.length).foldl (fun m i=>max m ((fb pts (o.take i):Nat):Int)) 0
abbrev Ent:=List Int×(Int×List Int)
structure Right(pts:List ⑧)(many s:Nat)(e:Ent):Prop where
 so:e.1.Pairwise (· < ·)
 mem:∀ n∈e.1,0<=n/\n<many
 len:e.1.length=s
 perm:e.2.2.Perm e.1
 w:e.2.1=wOf pts e.2.2
end NW
end
section
namespace L2
open PySem PySem.Spec PyProof.Rows
open AutoSeq1 (wpAny_loadPart')
section
variable{prog:Program}{w:World}{A:Around}{E:Value->Shared->Prop}{s:Shared}
theorem Mf{Q:List Value->Shared->Prop}{r:Addr}{a b c:Int}{t u v:Tok}{n:Nat}(hh:A.handled=none)(hr:IsRange s.heap r a b c t u v)(hsmall:Builtin.Range.small a b c=true)
  (hn:Builtin.Range.rangeSize a b c=n) (hlen:n<=2 ^ 24)
  (hQ:∀ h' tk acc,(∀ b o,s.heap.get? b=some o->h'.get? b=some o)->ItemsOf (fun i v=>∃ t,v=.int (a+i*c) t) acc n->Q acc.toList {s with heap:=h',toks:=tk}) :
  wpAny ① A (collect (.ref r)) Q E s:=by
 unfold collect;r wpAny_bind (wpAny_runValue (codeAny_builtin PySem.F.entry_proto_collect ?_));rw[Around.under_plainId PySem.F.plain_proto_collect _];show wpAny _ A.in1 (newList [] >>= fun l=>again (.builtin "list.__iadd__" ⟨[l,.ref r],[]⟩)) _ _ s;r wpAny_bind (wpAny_newObj_type ?_);r wpAny_pure ⟨plainId_quiet PySem.F.plain_list_iadd _,codeAny_builtin PySem.F.entry_list_iadd ?_⟩;rw[Around.under_plainId PySem.F.plain_list_iadd _];h hS:(s.heap.push {cls:=.type "list",data:=.seq ([]:List Value).toArray}).get? ¸=some {cls:=.type "list",data:=.seq #[] 0}:=¿ _ rfl;show wpAny _ A.in1 (Builtin.List.listExtendWith (.ref ¸) (.ref r) (.ref ¸)) _ _ _;h fin':∀(h':Heap) (tk:Nat) (acc':Array Value) (c':Nat),(∀ b o,b≠¸->(s.heap.push {cls:=.type "list",data:=.seq ([]:List Value).toArray}).get? b=some o->h'.get? b=some o)->h'.get? ¸=some {cls:=.type "list",dict:=none,data:=.seq acc' c',slots:=#[]} ->
   ItemsOf (fun i v=>∃ t,v=.int (a+i*c) t) acc' n->wpAny ① A (match Value.ref ¸ with
   | Value.ref a=>do
    match (<- load a).data with
     | Data.seq xs _=>pure xs.toList
     | _=>unsupported "internal:collect"
   | _=>unsupported "internal:collect") Q E {s with heap:=h',toks:=tk}:=fun h' tk acc' c' hk hS' hacc=>by
  show wpAny _ A (load ¸ >>= _) _ _ _;r wpAny_bind (wpAny_load hS' ?_);r wpAny_pure ?_;!hQ h' tk acc' (fun b o e=>hk b o (Nat.ne_of_lt (Heap.lt_size e)) (° _ e)) hacc
 r wpAny_mono (wpAny_extend_range (A:=A) (R:=fun r s'=>∃ h' tk acc' c',r=.ok (.ret (.ref ¸))/\s'={s with heap:=h',toks:=tk}/\(∀ b o,b≠¸->(s.heap.push {cls:=.type "list",data:=.seq ([]:List Value).toArray}).get? b=some o->h'.get? b=some o)/\h'.get? ¸=some {cls:=.type "list",dict:=none,data:=.seq acc' c',slots:=#[]}/\ItemsOf (fun i v=>∃ t,v=.int (a+i*c) t) acc' n)
  (s:={s with heap:=s.heap.push {cls:=.type "list",data:=.seq ([]:List Value).toArray}}) hh (° _ hr) hsmall hn hlen ¸ (.ref ¸) 0 hS fun h' tk acc' c' hk hS' hacc=>⟨h',tk,acc',c',rfl,rfl,hk,hS',hacc⟩) (fun fin s' h=>?_) (fun e s' h=>?_)
 ·cases fin with
  | done f =>
   o⟨h',tk,acc',c',e,rfl,hk,hS',hacc⟩:=h;cases e;!fin' h' tk acc' c' hk hS' hacc
  | again c'=>!⟨h.1,codeAny_mono h.2 fun r s'' hr=>by o⟨h',tk,acc',c',rfl,rfl,hk,hS',hacc⟩:=hr; !fin' h' tk acc' c' hk hS' hacc⟩
 ·o⟨_,_,_,_,e,_⟩:=h
  cases e
end
theorem meets_tuple_range(r:Addr)(a b c:Int)(t u v:Tok)(n:Nat)(hsmall:Builtin.Range.small a b c=true)(hn:Builtin.Range.rangeSize a b c=n)(hlen:n<=1000) :
  Meets (Builtin.«tuple.__new__» ⟨[.type "tuple",.ref r],[]⟩)
   (fun A R s=>A.handled=none/\IsRange s.heap r a b c t u v/\∀(h':Heap) (tk:Nat) (acc:Array Value),(∀ b o',s.heap.get? b=some o'->h'.get? b=some o')->ItemsOf (fun i v=>∃ t,v=.int (a+i*c) t) acc n ->
    R (.ok (.ret (.ref h'.objs.size))) {s with heap:=h'.push {cls:=.type "tuple",data:=.seq acc},toks:=tk}) :=
 .of_wp fun prog w A R s h=>by
  o⟨hp,g,d,tk,os⟩:=s; o⟨hh,ht,h⟩:=h;h hsub:=sub_tuple_self;h hinit:=init_tuple_lookup;h hmh:=madeHere_tuple;h hT:Shared.TypeIs ⟨hp,g,d,tk,os⟩ (.ref r) "range":=⟨_,ht,rfl⟩
  wp_walk using wpAny_loadPart' ht,wpAny_typeOf hT,Mf (A:=A.in1) hh ht hsmall hn ¢
  intro h' tk' acc hk hacc;show wpAny _ _ (Builtin.Tuple.tupleExact acc.toList.toArray >>= fun v=>ret v) _ _ _;unfold Builtin.Tuple.tupleExact;r wpAny_bind (wpAny_newObj_type ?_ (by show acc.toList.toArray.size<=sizeLine; rw[Array.toArray_toList,hacc.1]; !small hlen));r wpAny_pure ⟨_,rfl,?_⟩;h e:acc.toList.toArray=acc:=by simp
  rw[e];!h h' tk' acc hk hacc
section
variable{X:Cx}
theorem Fz(hc:X.calm=true):CallR X (.type "tuple") (fun xs H Q=>∃ r j,xs=[.ref r]/\H r=some (.rng 0 j)/\0<=j/\j<=1000/\∀ l,H l=none->Q (.ref l) (upd H l (.tup ((below j.toNat).map V.int)))):=by
 intro pins s σ H xs us Q I rr h;o⟨r,j,rfl,hr,j0,j1,q⟩:=h;o⟨u,rfl,ru⟩:=rr.one;cases ru;o⟨t1,t2,t3,e⟩:=I.hok r _ hr;r callType_new PySem.F.called_tuple ¤ (PySem.F.typeCall_tuple_1 _) (PySem.F.newCall_tuple_1 _) (fun obj=>PySem.F.args_object_init_2 obj _) PySem.F.entry_tuple_new
  (meets_tuple_range r 0 j 1 t1 t2 t3 j.toNat (small_one ¢ ¢ ¢ ¢) (by rw[rangeSize_one]; split<;>w) ¢) ⟨I.ok.hd hc,e,fun h' tk acc hk hacc=>⟨⟨_,¿ _ rfl,rfl⟩,?_⟩⟩
 h I1:Inv X pins σ H {s with heap:=h',toks:=tk}:=I.kept hk;h hn:H h'.objs.size=none:=I1.hok.fresh ③;r⟨.ref h'.objs.size,_,I1.laid (a:=h'.objs.size) (o:=.tup ((below j.toNat).map V.int)) (t':=tk) (fun b o e=>° _ e) ③ ⟨?_,acc.toList,?_,⟨_,¿ _ rfl,rfl,0,by simp⟩⟩,rfl,q _ hn⟩
 ·rw[List.length_map,List.length_map,List.length_range]
  !small ¢
 ·r QK (by simp[hacc.1]) fun i x u h1 h2=>?_
  h h2':acc[i]?=some u:=by simpa using h2
  o⟨t,rfl⟩:=hacc.2 i u h2';h hi:i<j.toNat:=by
   have:=(Array.getElem?_eq_some_iff.mp h2').1;rw[hacc.1] at this;!this
  rw[List.getElem?_map,List.getElem?_map,List.getElem?_range hi] at h1;h ex:x=.int (i:Int):=(Option.some.inj h1).symm;subst ex;!⟨t,by rw[Int.mul_one,Int.zero_add]⟩
end
end L2
end
section
namespace ST
open PySem PySem.SetTable
def iter{α:Type}(f:α->α):Nat->α->α
 | 0,x=>x
 | n+1,x=>iter f n (f x)
def Mask(m:Nat):Prop:=m=7\/m=31\/m=127
def step(M:Nat)(p:Probe):Probe :=
 if p.more>0 then {p with j:=p.j+1,more:=p.more-1} else
 {p with j:=(leap M p.i p.perturb).1,more:=runEnd M (leap M p.i p.perturb).1-(leap M p.i p.perturb).1,i:=(leap M p.i p.perturb).1,perturb:=(leap M p.i p.perturb).2}
structure Fine(M:Nat)(p:Probe):Prop where
 more:p.more<=9
 i:p.i<=M
 j:p.j<=M
 jm:p.j+p.more<=M
 dummy:p.dummy=none
theorem CZ:∀{l₁ l₂:List Nat},l₁.Nodup->(∀ x∈l₁,x∈l₂)->l₁.length<=l₂.length
 | [],_,_,_=>Nat.zero_le _
 | a::t,l₂,nd,hs=>by
  o⟨n1,n2⟩:=List.nodup_cons.mp nd;h ha:a∈l₂:=hs a ´;h hl:(l₂.erase a).length=l₂.length-1:=List.length_erase_of_mem ha;h ih:=CZ (l₂:=l₂.erase a) n2 fun x hx=>(List.mem_erase_of_ne (fun(e:x=a)=>n1 (by rw[<- e]; !hx))).mpr (hs x (¶ _ hx));have:0<l₂.length:=List.length_pos_of_mem ha;simp;w
structure Tab(t:SetTable):Prop where
 mask:Mask t.mask
 none:t.dummies=#[]
 size:t.place.size<=t.mask
 le:∀ j∈t.place.toList,j<=t.mask
 rise:t.place.toList.Pairwise (· < ·)
def way(t:SetTable)(p:Probe)(m:Nat):Nat:=(ST.iter (step t.mask) m p).j
def Loc(t:SetTable)(hs:List Int):Prop:=∀(idx j:Nat) (h:Int),t.place[idx]?=some j->hs[idx]?=some h->∃ m,way t (t.probeStart h) m=j/\∀ m',m'<m->way t (t.probeStart h) m'∈t.place.toList
structure Put(t:SetTable)(j:Nat):Prop where
 le:j<=t.mask
 new:j∉t.place.toList
 room:t.place.size+1<=t.mask
def Bp(M i perturb:Nat):Probe:={j:=i,more:=runEnd M i-i,i:=i,perturb:=perturb,dummy:=none}
def wayM(M:Nat)(p:Probe)(m:Nat):Nat:=(ST.iter (step M) m p).j
structure Own(M:Nat)(owner:Array (Option Nat))(hs:List Int):Prop where
 size:owner.size=M+1
 has:∀ idx,idx<hs.length->∃ j:Nat,owner[j]?=some (some idx)
 at_:∀(j idx:Nat),owner[j]?=some (some idx)->idx<hs.length/\∃ m,wayM M (Bp M (bits (hs.getD idx 0)%(M+1)) (bits (hs.getD idx 0))) m=j/\∀ m',m'<m->(owner.getD (wayM M (Bp M (bits (hs.getD idx 0)%(M+1)) (bits (hs.getD idx 0))) m') (some 0)).isSome=true
 one:∀(j j' idx:Nat),owner[j]?=some (some idx)->owner[j']?=some (some idx)->j=j'
section
variable{prog:Program}{w:World}{A:Around}{E:Value->Shared->Prop}{s:Shared}
abbrev IK(prog:Program)(w:World)(h:Heap)(ks:List Int)(a:Addr):Prop:=IsTupleKey (intKind prog w) h ks a
abbrev hsh(prog:Program)(w:World)(ks:List Int):Int:=tupleKeyHash (intKind prog w) ks
end
def ledOf(w:World):Bool:=!w.params.followText "set-order"
structure TS(prog:Program)(w:World)(h:Heap)(S:Addr)(es:Array (Int×Value))(t:SetTable)(ks:List ⑬):Prop where
 obj:∃ o ep,h.get? S=some o/\o.ExactSet/\o.data=.set es ep t
 tab:Tab t
 len:es.size=t.place.size
 loc:Loc t (es.toList.map (·.1))
 els:es.toList=ks.map fun x=>(hsh prog w x.1,Value.ref x.2)
 nd:(ks.map (·.1)).Nodup
 few:t.place.size*5<t.mask*3
 pl:t.plain=true
 ld:t.led=ledOf w
structure Of(vals:Nat->List Int×Addr)(i:Nat)(ks:List ⑬):Prop where
 sub:∀ x∈ks,∃ j,j<i/\x=vals j
 sup:∀ j,j<i->(vals j).1∈ks.map (·.1)
 len:ks.length<=i
namespace F
end F
end ST
end
section
namespace ST
open PySem PySem.W PyProof.Rows
abbrev g(p:Array Nat)(k:Nat):Nat:=p.getD k 0
structure PP(n:Nat)(p:Array Nat):Prop where
 size:p.size=n
 lt:∀ k,k<n->g p k<n
 inj:∀ k k',k<n->k'<n->g p k=g p k'->k=k'
structure Tot(n:Nat)(lt:Nat->Nat->Bool):Prop where
 or:∀ i j,i<n->j<n->i≠j->lt i j=false->lt j i=true
 as:∀ i j,i<n->j<n->lt i j=true->lt j i=false
 tr:∀ i j k,i<n->j<n->k<n->lt i j=true->lt j k=true->lt i k=true
structure Row(prog:Program)(w:World)(h:Heap)(vs:List Value)(ks:List ⑬):Prop where
 vals:vs=ks.map fun x=>Value.ref x.2
 keys:∀ x∈ks,IK prog w h x.1 x.2
 full:∀ x∈ks,x.1≠[]
 nd:(ks.map (·.1)).Nodup
end ST
end
section
namespace L2
open PySem PySem.Spec PyProof.Rows
theorem SM{prog:Program}{w:World}:∀{ns:List Int}{us:List Value},Vals ⑭ us->ItemsAre (intKind prog w) ns us
 | [],_,.nil=>.nil
 | n::ns,_,.cons ⟨t,e⟩ r=>by
  subst e;!.cons (intKind_is prog w n t) (SM r)
end L2
end
section
namespace ST
open PySem PySem.W PyProof.Rows
structure RowE(prog:Program)(w:World)(h:Heap)(vs:List Value)(ks:List ⑬):Prop where
 vals:vs=ks.map fun x=>Value.ref x.2
 keys:∀ x∈ks,IK prog w h x.1 x.2
 nd:(ks.map (·.1)).Nodup
end ST
end
section
namespace L2
open PySem PySem.Spec PyProof.Rows
end L2
end
section
namespace SI
open PySem PySem.SetTable ST PyProof.Rows
structure IS(prog:Program)(w:World)(h:Heap)(S:Addr)(es:Array (Int×Value))(t:SetTable)(ks:List Int):Prop where
 obj:∃ o ep,h.get? S=some o/\o.ExactSet/\o.data=.set es ep t
 tab:Tab t
 len:es.size=t.place.size
 els:ElemsOf (intKind prog w) es.toList
 int:IntsAre (es.toList.map (·.2)) ks
 nd:ks.Nodup
 few:t.place.size*5<t.mask*3
 pl:t.plain=true
 ld:t.led=ledOf w
end SI
end
section
namespace SI
open PySem PySem.SetTable ST
open PyProof.Rows (IntsAre)
end SI
end
section
namespace SI
open PySem PySem.SetTable ST PyProof.Rows
end SI
end
section
namespace L2
open PySem PySem.Spec PyProof.Rows
end L2
end
section
namespace SI
open PySem PySem.SetTable ST PyProof.Rows
end SI
end
section
namespace L2
open PySem PySem.Spec PyProof.Rows
section
variable{X:Cx}{K:¨}
theorem min_list(hc:X.calm=true):CallR X (.builtin "min") (fun xs H Q=>∃(p:Addr) (ns:List Int),xs=[.ref p]/\SqL X.K H p ⑭/\0<ns.length/\∀ m,m∈ns->(∀ a∈ns,m<=a)->Q (.int m) H):=by
 intro pins s σ H xs us Q I r h;o⟨p,ns,rfl,hq,hne,q⟩:=h;o⟨u0,rfl,ru⟩:=r.one;cases ru;o⟨its,rv,pl,hz⟩:=I.list hq;h hi:=intsAre_of rv;h hl:=pl.isList;o⟨ys,e⟩:=hi.allInts.items;h hns:ns=ys.toList.map (·.1):=by rw[<- hi.numsOf,<- nums_intItems,<- e]
 h hsz:0<ys.size:=by
  rw[hns,List.length_map,Array.length_toList] at hne;!hne
 rw[e] at hl;r min_intList (I.ok.hd hc) hl hsz fun v h' tk hv hk=>?_;o⟨t,rfl⟩:=intItems_at hv;o⟨h1,h2⟩:=argBest_lt (numAt ys) (ys.size-1);r⟨.int (numAt ys (argBest (fun i j=>decide (numAt ys i<numAt ys j)) (ys.size-1))),H,I.kept hk,⟨t,rfl⟩,q _ ?_ fun a ha=>?_⟩
 ·rw[hns,numAt_eq]
  !getD_mem (by rw[List.length_map,Array.length_toList]; w)
 ·rw[hns] at ha
  o⟨j,hj,rfl⟩:=mem_getD ha;rw[List.length_map,Array.length_toList] at hj;rw[<- numAt_eq];!h2 j ¢
theorem ACl(hK:X.K=K):SlR X (rSlT K):=by subst hK; !ADX
end
end L2
end
section
namespace HT
open PySem PyProof.Rows
end HT
end
section
namespace ST
open PySem PySem.W PyProof.Rows
def PK(h:Heap)(k:List Int)(a:Addr):Prop:=∃(l v:Addr) (its:Array Value),IsTup h a #[.ref l,.ref v]/\h.IsList l its/\IntsAre its.toList k
structure RowP(h:Heap)(vs:List Value)(ks:List ⑬)(m:Nat):Prop where
 vals:vs=ks.map fun x=>Value.ref x.2
 keys:∀ x∈ks,PK h x.1 x.2
 nd:(ks.map (·.1)).Nodup
 len:∀ x∈ks,x.1.length=m
section
variable{prog:Program}{w:World}{A:Around}{E:Value->Shared->Prop}{s:Shared}{vs:List Value}{ks:List ⑬}
theorem Ko:∀ l:List Int,HT.lexLt l l=false
 | []=>rfl
 | x::l=>by rw[HT.Br,if_pos rfl]; !Ko l
end
end ST
end
section
namespace L2
open PySem PySem.Spec PyProof.Rows
end L2
end
section
namespace ST
open PySem PySem.SetTable
end ST
namespace L2
open PySem PySem.Spec PyProof.Rows
end L2
end
section
namespace NK
open PySem
section
variable{P:Program}{w:World}{κ:Type}[DecidableEq κ](kd:KeyKind P w κ)
def IsP(g:Heap)(p:κ×List κ)(x:Addr):Prop:=∃ ob its c v b,g.get? x=some ob/\ob.cls=.type "tuple"/\ob.data=.seq its c/\its.toList=[v,.ref b]/\kd.is p.1 v=true/\IsTupleKey kd g p.2 b
def hashP(p:κ×List κ):Int:=reduceHash (Builtin.Tuple.tupleHashOf [kd.hash p.1,tupleKeyHash kd p.2])
variable{kd}
theorem IsP.ty{s:Shared}{p:κ×List κ}{x:Addr}(h:IsP kd s.heap p x):s.TypeIs (.ref x) "tuple":=by
 o⟨ob,_,_,_,_,e,c,_⟩:=h;!⟨ob,e,c⟩
theorem IsP.one{g:Heap}{p q:κ×List κ}{x:Addr}(h:IsP kd g p x)(h':IsP kd g q x):p=q:=by
 o⟨ob,its,c,v,b,e,_,d,l,k,t⟩:=h;o⟨ob',its',c',v',b',e',_,d',l',k',t'⟩:=h';obtain rfl:ob=ob':=Option.some.inj (e.symm.trans e');rw[d] at d';obtain ⟨rfl,rfl⟩:its=its'/\c=c':=by cases d'; !⟨rfl,rfl⟩
 rw[l] at l';injection l' with z1 z2
 injection z2 with z2 _
 injection z2 with z2
 subst z1;subst z2;!Prod.ext (kd.inj _ _ _ k k') (t.inj t')
theorem IsP.stays{g g':Heap}{p:κ×List κ}{x y:Addr}{ob:Obj}{es ep}(h:IsP kd g p x)(e:g.get? y=some ob)(d:ob.data=.dict es ep)(sb:Heap.SameBut y g g'):IsP kd g' p x:=by
 o⟨o1,its,c,v,b,e1,c1,d1,l,k,t⟩:=h;h ne:x≠y:=fun z=>by
  rw[z,e] at e1;cases e1;rw[d] at d1;cases d1
 !⟨o1,its,c,v,b,(sb.2 x ne).trans e1,c1,d1,l,k,t.keeps e d sb⟩
variable{A:Around}{E:Value->Shared->Prop}{s:Shared}
theorem Xe{p:κ×List κ}{x:Addr}{R:Int->Shared->Prop}(hu:A.units+1<cLine)(h:IsP kd s.heap p x)(q:R (hashP kd p) {s with toks:=s.toks+(p.2.length+3)}):wpAny (model P w) A (pyHash (.ref x)) R E s:=by
 h ty:=h.ty;o⟨ob,its,c,v,b,e,_,d,l,k,t⟩:=h;unfold pyHash
 first | unfold pyHashByItsType | skip
 first | r wpAny_bind (wpAny_cRoomFor_or (.inr ¢) ?_) | skip
 r wpAny_bind (wpAny_specialOf ty PySem.F.slot_tuple_hash.lookup ?_);show wpAny _ _ (if (some (Value.builtin "tuple.__hash__")==some Value.none)=true then _ else _) _ _ _;rw[if_neg (by rw[beq_builtin_none]; !Bool.false_ne_true)];r wpAny_bind (wpAny_specialOf ty PySem.F.slot_tuple_hash.lookup ?_);show wpAny _ _ (callSpecialIfBoundUnlessNone? (.ref x) "__hash__" _ >>= _) _ _ _;r wpAny_bind (wpAny_callSpecialIfBoundUnlessNone?_slot ty PySem.F.slot_tuple_hash (wpAny_call_entry PySem.F.slot_tuple_hash ty PySem.F.entry_tuple_hash ?_ (PySem.F.args_tuple_hash_1 _)));show wpAny _ _ (Builtin.Tuple.tupleItemsOf (.ref x) >>= _) _ _ _;r wpAny_bind (wpAny_tupleItemsOf e d (wpAny_bind ?_));rw[<- Array.forIn_toList,l];r wpAny_forIn_list _ (fun rest (z:Array Int) s'=>(rest=[v,.ref b]/\z=#[]/\s'=s)\/(rest=[.ref b]/\z=#[kd.hash p.1]/\s'={s with toks:=s.toks+1})\/(rest=[]/\z=#[kd.hash p.1,tupleKeyHash kd p.2]/\s'={s with toks:=s.toks+1+(p.2.length+1)}))
  _ ?_ ?_ _ _ (.inl ⟨rfl,rfl,rfl⟩)
 ·rintro y rest z s' (⟨er,rfl,rfl⟩ | ⟨er,rfl,rfl⟩ | ⟨er,_⟩)
  ·cases er
   r wpAny_bind (kd.pyHash k ?_)
   first
    | !wpAny_pure (.inr (.inl ⟨rfl,rfl,rfl⟩))
    | !wpAny_bind (wpAny_pure (wpAny_pure (.inr (.inl ⟨rfl,rfl,rfl⟩))))
  ·cases er
   r wpAny_bind (wpAny_pyHash_tuple (by show A.units+1<cLine; !hu) t ?_)
   first
    | !wpAny_pure (.inr (.inr ⟨rfl,rfl,rfl⟩))
    | !wpAny_bind (wpAny_pure (wpAny_pure (.inr (.inr ⟨rfl,rfl,rfl⟩))))
  ·cases er
 ·rintro z s' (⟨er,_⟩ | ⟨er,_⟩ | ⟨_,rfl,rfl⟩)
  ·cases er
  ·cases er
  ·h et:{s with toks:=s.toks+1+(p.2.length+1)+1}={s with toks:=s.toks+(p.2.length+3)}:=by
    congr 1
    w
   show wpAny _ _ (retInt (Builtin.Tuple.tupleHashOf [kd.hash p.1,tupleKeyHash kd p.2])) _ _ _;r wpAny_ret_mkInt ?_;unfold hashP reduceHash at q;generalize Builtin.Tuple.tupleHashOf [kd.hash p.1,tupleKeyHash kd p.2]=hv at q;show wpAny _ _ (if (decide (-(2:Int) ^ 63<=hv)&&decide (hv<2 ^ 63))=true then _ else _) _ _ _;by_cases c0:(decide (-(2:Int) ^ 63<=hv)&&decide (hv<2 ^ 63))=true
   ·rw[if_pos c0] at q ⊢
    r wpAny_pure ?_;rw[<- et] at q;!q
   ·rw[if_neg c0] at q ⊢
    r wpAny_bind (wpAny_rule (wpAny_pure ?_));rw[<- et] at q;!q
theorem ABr{p q:κ×List κ}{x y:Addr}{R:Fin->Shared->Prop}(hu:A.units<cLine)(h:IsP kd s.heap p x)(h':IsP kd s.heap q y)(r:R (.done (.ret (.bool (decide (p=q))))) s) :
  wpAny (model P w) A (Builtin.«tuple.__eq__» ⟨[.ref x,.ref y],[]⟩) R E s:=by
 h ty:=h'.ty;o⟨o1,i1,c1,v1,b1,e1,_,d1,l1,k1,t1⟩:=h;o⟨o2,i2,c2,v2,b2,e2,_,d2,l2,k2,t2⟩:=h';show wpAny _ _ (isInstance (.ref y) (.type "tuple") >>= _) _ _ _;r wpAny_bind (wpAny_isInstance ty isSubtype_tuple_tuple ?_);simp only[Bool.not_true,Bool.false_eq_true,if_false];r wpAny_bind (wpAny_tupleItemsOf e1 d1 (wpAny_bind (wpAny_tupleItemsOf e2 d2 (wpAny_bind ?_))));h sz:(i1.size==i2.size)=true:=by
  h z1:i1.size=2:=by rw[<- Array.length_toList,l1]; rfl
  h z2:i2.size=2:=by rw[<- Array.length_toList,l2]; rfl
  rw[z1,z2];rfl
 rw[l1,l2];r wpAny_forIn_list _ (fun rest z s'=>z.1=none/\s'=s/\(rest=[(v1,v2),(.ref b1,.ref b2)]\/(rest=[(.ref b1,.ref b2)]/\p.1=q.1)\/(rest=[]/\p=q))) _ ?_ ?_ _ _ ⟨rfl,rfl,.inl rfl⟩
 ·rintro⟨u,v⟩ rest z s' ⟨hz,rfl,er | ⟨er,pq⟩ | ⟨er,_⟩⟩
  ·cases er
   r wpAny_bind (kd.eqBool (a:=p.1) (b:=q.1) k1 k2 ?_);by_cases c:p.1=q.1
   ·rw[decide_eq_true c]
    simp only[Bool.not_true,Bool.false_eq_true,if_false];!wpAny_pure ⟨rfl,rfl,.inr (.inl ⟨trivial,c⟩)⟩
   ·rw[decide_eq_false c]
    simp only[Bool.not_false,if_true];rw[decide_eq_false (fun z=>c (by rw[z]))] at r;!wpAny_bind (wpAny_pure (wpAny_pure (wpAny_pure r)))
  ·cases er
   r wpAny_bind (wpAny_eqBool_tuple hu t1 t2 ?_);by_cases c:p.2=q.2
   ·rw[decide_eq_true c]
    simp only[Bool.not_true,Bool.false_eq_true,if_false];!wpAny_pure ⟨rfl,rfl,.inr (.inr ⟨trivial,Prod.ext pq c⟩)⟩
   ·rw[decide_eq_false c]
    simp only[Bool.not_false,if_true];rw[decide_eq_false (fun z=>c (by rw[z]))] at r;!wpAny_bind (wpAny_pure (wpAny_pure (wpAny_pure r)))
  ·cases er
 ·rintro⟨z1,z2⟩ s' ⟨hz,rfl,er | ⟨er,_⟩ | ⟨_,pq⟩⟩
  ·cases er
  ·cases er
  ·dsimp only at hz
   subst hz;r wpAny_pure ?_;rw[decide_eq_true pq] at r;show R (.done (.ret (.bool (i1.size==i2.size)))) s';rw[sz];!r
theorem ABj{p q:κ×List κ}{x y:Addr}{R:Bool->Shared->Prop}(hu:A.units+1<cLine)(h:IsP kd s.heap p x)(h':IsP kd s.heap q y)(r:R (decide (p=q)) s):wpAny (model P w) A (eqBool (.ref x) (.ref y)) R E s:=by
 unfold eqBool
 try with_reducible r wpAny_holding ?_
 show wpAny _ _ (if (Value.ref x==Value.ref y)=true then _ else _) _ _ _;by_cases c:(Value.ref x==Value.ref y)=true
 ·rw[if_pos c]
  obtain rfl:x=y:=by have z:=eq_of_beq c; injection z
  obtain rfl:=h.one h';rw[decide_eq_true rfl] at r;!wpAny_bind (wpAny_rule (wpAny_pure r))
 ·rw[if_neg c]
  r wpAny_bind (wpAny_richCompare_same_room (op:=.Eq) h.ty h'.ty PySem.F.slot_tuple_eq (wpAny_call_entry PySem.F.slot_tuple_eq h.ty PySem.F.entry_tuple_eq (ABr ?_ h h' ⟨_,rfl,(fun e=>nomatch e),wpAny_truthy_bool r⟩) (PySem.F.args_tuple_eq_2 _ _)) ¢);show A.units+1<cLine;!hu
theorem RK{ks:List κ}{x:Addr}{n:Nat}{R:Bool->Shared->Prop}(h:IsTupleKey kd s.heap ks x)(r:R true s):wpAny (model P w) A (eqIsQuiet (n+1) (.ref x)) R E s:=by
 h ty:=h.typeIs;o⟨ob,its,c,e,_,d,ia⟩:=h;unfold eqIsQuiet;r wpAny_bind (wpAny_specialOf ty PySem.F.slot_tuple_eq.lookup ?_);show wpAny _ _ (isInstance (.ref x) (.type "tuple") >>= _) _ _ _;r wpAny_bind (wpAny_isInstance ty isSubtype_tuple_tuple ?_);simp only[Bool.not_true,Bool.false_eq_true,if_false];r wpAny_bind (wpAny_seqItems e d (wpAny_bind ?_));show wpAny _ _ (forIn its _ _) _ _ _;rw[<- Array.forIn_toList];r wpAny_forIn_list _ (fun rest z s'=>z.1=none/\s'=s/\∀ v∈rest,carriedByValue v=true) _ (fun v rest z s' ⟨hz,es,al⟩=>?_) (fun z s' ⟨hz,es,_⟩=>?_) _ _ ⟨rfl,rfl,ia.byValue⟩
 ·subst es
  rw[eqIsQuiet_byValue _ (al v ´)];r wpAny_bind (wpAny_pure ?_);simp only[Bool.not_true,Bool.false_eq_true,if_false];!wpAny_pure ⟨rfl,rfl,fun u h=>al u (¶ _ h)⟩
 ·subst es
  o⟨z1,z2⟩:=z;dsimp only at hz;subst hz;!wpAny_pure r
theorem Tr{p:κ×List κ}{x:Addr}{R:Bool->Shared->Prop}(h:IsP kd s.heap p x)(r:R true s):wpAny (model P w) A (eqIsQuiet 8 (.ref x)) R E s:=by
 h ty:=h.ty;o⟨ob,its,c,v,b,e,_,d,l,k,t⟩:=h;unfold eqIsQuiet;r wpAny_bind (wpAny_specialOf ty PySem.F.slot_tuple_eq.lookup ?_);show wpAny _ _ (isInstance (.ref x) (.type "tuple") >>= _) _ _ _;r wpAny_bind (wpAny_isInstance ty isSubtype_tuple_tuple ?_);simp only[Bool.not_true,Bool.false_eq_true,if_false];r wpAny_bind (wpAny_seqItems e d (wpAny_bind ?_));show wpAny _ _ (forIn its _ _) _ _ _;rw[<- Array.forIn_toList,l];r wpAny_forIn_list _ (fun rest z s'=>z.1=none/\s'=s/\(rest=[v,.ref b]\/rest=[.ref b]\/rest=[])) _ (fun u rest z s' ⟨hz,es,er⟩=>?_) (fun z s' ⟨hz,es,_⟩=>?_) _ _ ⟨rfl,rfl,.inl rfl⟩
 ·subst es
  rcases er with er | er | er
  ·cases er
   rw[eqIsQuiet_byValue _ (kd.byValue _ _ k)];r wpAny_bind (wpAny_pure ?_);simp only[Bool.not_true,Bool.false_eq_true,if_false];!wpAny_pure ⟨rfl,rfl,.inr (.inl trivial)⟩
  ·cases er
   r wpAny_bind (RK t ?_);simp only[Bool.not_true,Bool.false_eq_true,if_false];!wpAny_pure ⟨rfl,rfl,.inr (.inr trivial)⟩
  ·cases er
 ·subst es
  o⟨z1,z2⟩:=z;dsimp only at hz;subst hz;!wpAny_pure r
end
def Ea{P:Program}{w:World}{κ:Type}[DecidableEq κ](kd:KeyKind P w κ):HeapKind P w (κ×List κ) where
 is:=IsP kd
 hash:=hashP kd
 draws:=fun p=>p.2.length+3
 room:=fun A=>A.units+1<cLine
 inj:=fun a b=>a.one b
 keeps:=fun a b c d=>a.stays b c d
 pyHash:=fun a b c=>Xe a b c
 eqBool:=fun a b c d=>ABj a b c d
 quiet:=fun a b=>Tr a b
end NK
end
section
namespace L2
open PySem
abbrev PKey:=Key×List Key
def dN(P:Program)(w:World)(a:Addr)(xs:List (PKey×Addr×Value)):HO:=.ext fun g=>∃ o es ep,g.get? a=some o/\o.ExactDict/\o.data=.dict es ep/\es.toList=xs.map (entryOfKey (NK.Ea (Bd P w)))/\(xs.map (·.1)).Nodup
def NKey(H:Hp)(p:PKey)(x:Addr):Prop:=∃ b,H x=some (.tup [kV p.1,.ref b])/\H b=some (.tup (p.2.map kV))
theorem NKey.ts{H H':Hp}{p:PKey}{x:Addr}(h:NKey H p x)(t:∀ b ys,H b=some (.tup ys)->H' b=some (.tup ys)):NKey H' p x:=let ⟨b,e1,e2⟩:=h; ⟨b,t _ _ e1,t _ _ e2⟩
abbrev KN(H:Hp):List (PKey×V)->List (PKey×Addr×Value)->Prop:=Paired fun p q=>p.1=q.1/\NKey H p.1 q.2.1/\RelV p.2 q.2.2
def DN(P:Program)(w:World)(H:Hp)(a:Addr)(kvs:List (PKey×V)):Prop:=kvs.length<=sizeLine/\(a==sysModules)=false/\∃ xs,H a=some (dN P w a xs)/\KN H kvs xs
theorem DN.keep{P:Program}{w:World}{H H':Hp}{a:Addr}{kvs:List (PKey×V)}(h:DN P w H a kvs)(e:∀ o,H a=some o->H' a=some o)(t:∀ b ys,H b=some (.tup ys)->H' b=some (.tup ys)):DN P w H' a kvs:=by
 o⟨z,y,xs,e1,r⟩:=h;!⟨z,y,xs,e _ e1,Paired.imp (fun _ _ q=>⟨q.1,q.2.1.ts t,q.2.2⟩) r⟩
theorem KN.val{H:Hp}{kvs:List (PKey×V)}{xs:List (PKey×Addr×Value)}(r:KN H kvs xs)(k:PKey):RelO (valV kvs k) ((atKey xs k).map (·.2)):=by
 induction r with
 | nil=>!True.intro
 | @cons p q ps qs h t ih =>
  by_cases e:p.1=k
  ·h b:atKey (q::qs) k=some q.2:=by simp[atKey,List.find?_cons,h.1.symm.trans e]
   rw[CP e,b];!h.2.2
  ·h b:atKey (q::qs) k=atKey qs k:=by simp[atKey,List.find?_cons,show ¬ q.1=k from fun z=>e (h.1.trans z)]
   rw[CQ e,b];!ih
theorem KN.put{H:Hp}{kvs:List (PKey×V)}{xs:List (PKey×Addr×Value)}(r:KN H kvs xs){k:PKey}{b:Addr}{y:V}{u:Value}(hb:NKey H k b)(ry:RelV y u)(new:valV kvs k=none):KN H (putK kvs k y) (storedH xs k b u):=by
 h e:atKey xs k=none:=by
  h z:=(r.val k).isSome_eq;rw[new,Option.isSome_map] at z;cases g:atKey xs k with
  | none=>rfl
  | some q=>rw[g] at z; cases z
 rw[Ir y new,storedH_new e];!Paired.snoc r ⟨rfl,hb,ry⟩
section
variable{P:Program}{w:World}{H:Hp}{h:Heap}{a:Addr}
theorem Jy{p:PKey}{x:Addr}(ok:HOk P w H h)(e:NKey H p x):(NK.Ea (Bd P w)).is h p x:=by
 o⟨b,e1,e2⟩:=e;o⟨_,its,r,o,h1,h2,n,h3⟩:=(show ObjOk P w H h x (.tup [kV p.1,.ref b]) from ok x _ e1);cases r with
 | @cons _ v _ _ r1 r =>
  cases r with
  | @cons _ v2 _ _ r2 r =>
   cases r;cases r2;!⟨o,_,n,v,b,h1,h2,h3,rfl,LR r1,JN ok e2⟩
theorem Ws{kvs:List (PKey×V)}(ok:HOk P w H h)(d:DN P w H a kvs):kvs.length<=sizeLine/\(a==sysModules)=false/\∃ xs,H a=some (dN P w a xs)/\KN H kvs xs/\h.DictOfH (NK.Ea (Bd P w)) a xs:=by
 o⟨z,y,xs,e,r⟩:=d;o⟨⟨o,es,ep,h1,h2,h3,h4,h5⟩,_⟩:=(show ObjOk P w H h a (dN P w a xs) from ok a _ e);r⟨z,y,xs,e,r,o,es,ep,h1,h2,h3,h4,fun x hx=>?_,h5⟩;o⟨i,hi⟩:=List.mem_iff_getElem?.mp hx;o⟨p,_,e1,e2,_⟩:=Paired.get r hi;rw[<- e1];!Jy ok e2
theorem ABO{xs:List (PKey×Addr×Value)}{H':Hp}(d:h.DictOfH (NK.Ea (Bd P w)) a xs):ObjOk P w H' h a (dN P w a xs):=by
 o⟨o,es,ep,h1,h2,h3,h4,_,h5⟩:=d;r⟨⟨o,es,ep,h1,h2,h3,h4,h5⟩,⟨o,h1⟩,fun g1 g2 ⟨o',es',ep',z1,z2⟩ st=>⟨o',es',ep',st _ z1,z2⟩⟩
end
section
variable{X:Cx}{pins:List ⑤}{σ:St}{H:Hp}{s:Shared}{a:Addr}{A:Around}{E:Value->Shared->Prop}
def NGet(P:Program)(w:World)(H:Hp)(a:Addr)(y:V)(r:Option V):Prop:=∃ kvs p x,DN P w H a kvs/\y=.ref x/\NKey H p x/\valV kvs p=r
theorem ADP{y:V}{r:Option V}(I:Inv X pins σ H s)(g:NGet X.prog X.w H a y r):s.TypeIs (.ref a) "dict":=by
 o⟨kvs,p,x,d,_⟩:=g;o⟨_,_,xs,_,_,dd⟩:=Ws I.hok d;!dd.typeIs
theorem Xa{y v:V}{u:Value}{Q:Value->Shared->Prop}(hu:A.units+2<cLine)(I:Inv X pins σ H s)(g:NGet X.prog X.w H a y (some v))(ry:RelV y u)(q:∀ w' s',Inv X pins σ H s'->RelV v w'->Q w' s'):wpAny ② A (getItem (.ref a) u) Q E s:=by
 o⟨kvs,p,x,d,rfl,k,l⟩:=g;cases (show u=Value.ref x from ry);o⟨z,hd,xs,e,rel,dd⟩:=Ws I.hok d;o⟨w',hw,rw'⟩:=RelO.some_of (v:=v) (o:=(atKey xs p).map (·.2)) (by rw[<- l]; !rel.val p);o⟨pv,hp,hp2⟩:=Option.map_eq_some_iff.mp hw;r wpAny_getItem_heap (knd:=NK.Ea (Bd X.prog X.w)) (k:=p) (by show A.units+1+1<cLine; w) (Jy I.hok k) dd hp ?_;rw[hp2];!q w' _ (I.tok _) rw'
theorem ACn{y:V}{r:Option V}{u:Value}{Q:Value->Shared->Prop}(hu:A.units+2<cLine)(I:Inv X pins σ H s)(g:NGet X.prog X.w H a y r)(ry:RelV y u)(q:∀ s',Inv X pins σ H s'->Q (.bool (!r.isSome)) s'):wpAny ② A (compareOp .NotIn u (.ref a)) Q E s:=by
 o⟨kvs,p,x,d,rfl,k,l⟩:=g;cases (show u=Value.ref x from ry);o⟨z,hd,xs,e,rel,dd⟩:=Ws I.hok d;r PyProof.Rows.wpAny_notIn_heap (knd:=NK.Ea (Bd X.prog X.w)) (k:=p) (by show A.units+1+1<cLine; w) (Jy I.hok k) hd dd ?_;h c:=(rel.val p).isSome_eq;rw[Option.isSome_map] at c;rw[<- c,l];!q _ (I.tok _)
theorem Ww{y v:V}{u r:Value}{kvs:List (PKey×V)}{p:PKey}{x:Addr}{Q:Unit->Shared->Prop}(hu:A.units+2<cLine)(I:Inv X pins σ H s)(d:DN X.prog X.w H a kvs)(ey:y=.ref x)(k:NKey H p x)(new:valV kvs p=none)(hl:kvs.length<sizeLine)(ry:RelV y u)(rv:RelV v r)
  (q:∀(H':Hp) s',(∀ b,b≠a->H' b=H b)->DN X.prog X.w H' a (putK kvs p v)->Inv X pins σ H' s'->Q () s'):wpAny ② A (setItem (.ref a) u r) Q E s:=by
 subst ey;cases (show u=Value.ref x from ry);o⟨z,hd,xs,e,rel,dd⟩:=Ws I.hok d;h hz:xs.length<=sizeLine:=by rw[<- Paired.length rel]; !z
 r wpAny_setItem_heap (hsz:=hz) (knd:=NK.Ea (Bd X.prog X.w)) (k:=p) (by show A.units+1+1<cLine; w) (Jy I.hok k) dd fun h' dd' hs=>?_;h he:∃ o,h'.get? a=some o:=let ⟨o,_,_,ho,_⟩:=dd'; ⟨o,ho⟩
 r q (upd H a (dN X.prog X.w a (storedH xs p x r))) _ (fun b hb=>Af hb) ⟨?_,hd,_,Ab,Paired.imp (fun _ _ c=>⟨c.1,c.2.1.ts fun b ys eb=>?_,c.2.2⟩) (KN.put rel k rv new)⟩ (Js I (by rw[e]; !True.intro) hs he (ABO dd'))
 ·rw[Ir v new,List.length_append,List.length_singleton]
  w
 ·rw[Af (Cd eb e (by intro z; cases z))]
  !eb
end
def ADL(P:Program)(w:World):TE:=fun _ H Q=>∀ p,H p=none->DN P w (upd H p (dN P w p [])) p []->Q (.ref p) (upd H p (dN P w p []))
def AFI(P:Program)(w:World)(td ty:TE):TE:=fun σ H Q=>td σ H fun x H1=>ty σ H1 fun y H2=>∃ a v,x=.ref a/\NGet P w H2 a y (some v)/\Q v H2
def ABu(P:Program)(w:World)(ty td:TE):TE:=fun σ H Q=>ty σ H fun y H1=>td σ H1 fun x H2=>∃ a r,x=.ref a/\NGet P w H2 a y r/\Q (.bl (!r.isSome)) H2
def AFQ(P:Program)(w:World)(td ty tv:TE):TS:=fun D σ H=>tv σ H fun v H1=>td σ H1 fun x H2=>ty σ H2 fun y H3=>∃ a kvs p b,x=.ref a/\y=.ref b/\DN P w H3 a kvs/\NKey H3 p b/\valV kvs p=none/\kvs.length<sizeLine /\
 ∀ H4,(∀ c,c≠a->H4 c=H3 c)->DN P w H4 a (putK kvs p v)->D.nx σ H4
section
variable{X:Cx}{o i e value:Expr}{pos pos' tpos:Pos}{td ty tv:TE}
theorem Zn:PE X (.Dict [] [] pos) (ADL X.prog X.w):=fun pins s σ H Q I h=>by
 h hn:=I.hok.fresh (Nat.le_refl ¸);h ns:(¸==sysModules)=false:=beq_eq_false_iff_ne.mpr (Ne.symm (Nat.ne_of_lt I.big));r wpAny_Dict_empty ⟨.ref ¸,_,I.laid (a:=¸) (o:=dN X.prog X.w ¸ []) (t':=s.toks) (fun _ _ q=>° _ q) ③ (ABO (Heap.DictOfH.new _)),rfl,h _ hn ⟨Nat.zero_le _,ns,[],Ab,.nil⟩⟩
theorem ABy(hu:X.A.units+2<cLine)(ho:PE X o td)(hi:PE X i ty)(hs:NoSl i):PE X (.Subscript o i pos) (AFI X.prog X.w td ty):=by
 intro pins s σ H Q I h;r Vz PySem.F.slot_dict_getitem.lookup hs (thn (ho pins s σ H _ I h) fun u s1 ⟨x,H1,I1,rx,q1⟩=>thn (hi pins s1 σ H1 _ I1 q1) fun iv s2 ⟨y,H2,I2,ry,a,v,ex,g,q2⟩=>?_);subst ex;obtain rfl:u=Value.ref a:=rx;!⟨ADP I2 g,Xa hu I2 g ry fun w' s3 I3 rw'=>⟨v,H2,I3,rw',q2⟩⟩
theorem Yj(hu:X.A.units+2<cLine)(hi:PE X i ty)(ho:PE X o td):PC X .NotIn i o (ABu X.prog X.w ty td):=by
 intro pins s σ H Q I h;r thn (hi pins s σ H _ I h) fun iv s1 ⟨y,H1,I1,ry,q1⟩=>thn (ho pins s1 σ H1 _ I1 q1) fun u s2 ⟨x,H2,I2,rx,a,r,ex,g,q2⟩=>?_;subst ex;obtain rfl:u=Value.ref a:=rx;!ACn hu I2 g ry fun s3 I3=>⟨.bl (!r.isSome),H2,I3,rfl,q2⟩
theorem ACQ(hu:X.A.units+2<cLine)(ho:PE X o td)(hi:PE X i ty)(hv:PE X value tv)(hs:swapsWith value (some (.Subscript o i pos')) pos.line X.env=pure false):PS X (.Assign [.Subscript o i pos'] value pos) (AFQ X.prog X.w td ty tv):=by
 intro pins s σ H D I h;r wpAny_Assign_Subscript (thn (hv pins s σ H _ I h) fun r s1 ⟨v,H1,I1,rv,q1⟩=>thn (ho pins s1 σ H1 _ I1 q1) fun u s2 ⟨x,H2,I2,rx,q2⟩=>thn (hi pins s2 σ H2 _ I2 q2) fun iv s3 ⟨y,H3,I3,ry,a,kvs,p,b,ex,ey,d,k,new,hl,q3⟩=>?_) hs;subst ex;obtain rfl:u=Value.ref a:=rx;!Ww hu I3 d ey k new hl ry rv fun H4 s4 oth d4 I4=>⟨σ,H4,I4,q3 H4 oth d4⟩
end
end L2
end
section
namespace K53
open PySem L2
def top(i:Nat):Stmt:=PySem.Challenge.pw_frontways_k53_whole_grown_of_pairs.main.body.getD i (.Pass ⟨0,0,0,0⟩)
abbrev FP:Stmt:=inClass (top 21) 0
abbrev JC:Stmt:=inClass (top 33) 0
abbrev Gq:Stmt:=inClass (top 33) 1
abbrev Kp:Stmt:=inClass (top 29) 1
abbrev JV:Stmt:=inClass (top 29) 2
abbrev HX:Stmt:=inClass (top 29) 3
abbrev FZ:Stmt:=inClass (top 29) 4
abbrev YT:Stmt:=inClass (top 29) 5
abbrev Nu:Stmt:=inClass (top 17) 3
abbrev Hf:Stmt:=inClass (top 14) 0
abbrev FW:Stmt:=inClass (top 14) 1
abbrev Nk:Stmt:=inClass (top 14) 2
abbrev Ng:Stmt:=inClass (top 21) 1
abbrev Mu:Stmt:=inClass (top 21) 2
abbrev sAt:Stmt:=inClass (top 21) 3
abbrev XC:Stmt:=top 22
abbrev XM:Stmt:=top 23
abbrev Xu:Stmt:=top 24
abbrev Fi:Stmt:=top 25
abbrev Fd:Stmt:=top 26
abbrev Oq:Stmt:=top 35
abbrev Xf:Stmt:=top 36
abbrev Mv:Stmt:=top 37
abbrev Yi:Stmt:=top 38
abbrev FN:Stmt:=inClass (top 31) 0
abbrev Nt:Stmt:=top 39
abbrev Yh:Stmt:=top 40
abbrev Gz:Stmt:=top 41
abbrev Eb:Stmt:=top 42
abbrev El:Stmt:=top 43
abbrev Fq:Stmt:=top 44
abbrev JQ:Stmt:=top 13
abbrev Fp:Stmt:=top 15
theorem ja:¬ (("amount" : Str) = "joints"):=by decide +kernel
def flds(z:Int)(j:Addr):List (Str×V):=putF "joints" (.ref j) (putF "amount" (.int z) [])
theorem Ge(z:Int)(j:Addr):(flds z j).lookup ("amount" : Str)=some (.int z):=by
 unfold flds;rw[Ai,if_neg ja,Ai,if_pos rfl]
theorem Jk(z:Int)(j:Addr):(flds z j).lookup ("joints" : Str)=some (.ref j):=by
 unfold flds;rw[Ai,if_pos rfl]
theorem Ei(z:Int)(j:Addr){m:Str}(h1:¬ m = "joints")(h2:¬ m = "amount"):(flds z j).lookup m=none:=by
 unfold flds;rw[Ai,if_neg h1,Ai,if_neg h2]
 all_goals rfl
structure Txt(K:¨)(mg:Str->Option Value)(C:Addr):Prop where
 cl:Cls K C
 nA:NoAttr K C "amount"
 nJ:NoAttr K C "joints"
 mgC:mg "Web" = some (.ref C)
 mp:∃ t,mg "MOST_POINTS" = some (.int 10 t)
 mt:∃ t,mg "MOST_TIES" = some (.int 12 t)
 len:mg "len" = none
 range:mg "range" = none
 int:mg "int" = none
 max:mg "max" = none
 min:mg "min" = none
 sorted:mg "sorted" = none
 tuple:mg "tuple" = none
 list:mg "list" = none
 bool:mg "bool" = none
 enum:mg "enumerate" = none
 isi:mg "isinstance" = none
def WebAt(K:¨)(C:Addr)(H:Hp)(p:Addr)(z:Int)(as:List ⑧):Prop:=∃ dx j,H p=some (.ins C dx (flds z j))/\rTup K (rPair K) H as (.ref j)
theorem WebAt.same{K:¨}{C:Addr}{H H':Hp}{p:Addr}{z:Int}{as:List ⑧}(h:WebAt K C H p z as)(e:Same H H'):WebAt K C H' p z as:=by
 o⟨dx,j,h1,h2⟩:=h;!⟨dx,j,e _ _ h1,Aq (Aq Az) _ _ _ _ e.ts h2⟩
def Uz(K:¨):Sp:=fun vs H Q _=>∃(a:Addr) (ns:List Int) (k:Int),vs=[.ref a,.int k]/\SqL K H a ⑭/\0<=k/\∀ c:Int,Q (.int c) H
def ACu:Sp:=fun vs H Q _=>∃(c k:Int),vs=[.int c,.int k]/\∀ r:Int,Q (.int r) H
def AAz:Sp:=fun vs H Q _=>∃(c many most:Int),vs=[.int c,.int many,.int most]/\0<=many/\many<=20/\0<most/\most<=1000 /\
 ∀(l:Addr) (ms:List Int) (H':Hp),Same H H'->H l=none->H' l=some (.lst (ms.map V.int))->(ms.length:Int)=many->(∀ m∈ms,0<=m/\m<most)->Q (.ref l) H'
def ACy:Sp:=fun vs H Q _=>∃(p t:Int),vs=[.int p,.int t]/\1<=p/\p<=10/\0<=t/\t<=12/\Q .non H
def ACs(K:¨):Sp:=fun vs H Q _=>∃(m a b:Int) (t:Addr),vs=[.int m,.ref t]/\SqT K H t [.int a,.int b]/\0<=a/\a<b/\b<m/\Q .non H
def ACt(K:¨):Sp:=fun vs H Q _=>∃(m:Int) (l:Addr) (xs:List V) (as:List ⑧),vs=[.int m,.ref l]/\SqL K H l xs/\Paired (rSeq K H) as xs/\OkTies m as/\as.length<=12 /\
 ∀(j:Addr) (H':Hp),Same H H'->rTup K (rPair K) H' (as.map srt) (.ref j)->Q (.ref j) H'
def JW(K:¨)(C:Addr):Sp:=fun vs H Q _=>∃(p dx l:Addr) (m:Int) (xs:List V) (as:List ⑧),vs=[.ref p,.int m,.ref l]/\H p=some (.ins C dx [])/\SqL K H l xs/\Paired (rSeq K H) as xs/\OkTies m as/\as.length<=12/\1<=m/\m<=10 /\
 ∀(H':Hp),(∀ b o,H b=some o->b≠p->H' b=some o)->WebAt K C H' p m (as.map srt)->Q .non H'
def Ow(K:¨)(C:Addr):Sp:=fun vs H Q _=>∃(p:Addr) (m:Int) (as:List ⑧),vs=[.ref p]/\WebAt K C H p m as/\Q (.int m) H
def QJ(K:¨)(C:Addr):Sp:=fun vs H Q _=>∃(p:Addr) (m:Int) (as:List ⑧),vs=[.ref p]/\WebAt K C H p m as/\∀(l:Addr) (H':Hp),Same H H'->H l=none->rLst K (rPair K) H' as (.ref l)->Q (.ref l) H'
def ADT(K:¨)(C:Addr):Sp:=fun vs H Q _=>∃(p:Addr) (m x:Int) (as:List ⑧),vs=[.ref p,.int x]/\WebAt K C H p m as/\as.length<=12 /\
 ∀(l:Addr) (H':Hp),Same H H'->H l=none->H' l=some (.lst ((hits x as).map V.int))->Q (.ref l) H'
def Rp(K:¨):Sp:=fun vs H Q _=>∃(a:Addr) (ns:List Int),vs=[.ref a]/\SqL K H a ⑭/\ns.length<=63/\∀ H',Q (.bl true) H'
section
variable{P:Program}{w:World}{K:¨}{mg:Str->Option Value}{base:Heap}{f C:Addr}{fd:FuncData}
theorem AEV:FnScope ["_law_script", "_law_k"] ["_law_script", "_law_k"] (Ac Oq):=¡
theorem ABh(F:Fun K "_law_cell" "_law_cell" Oq f fd)(T:Txt K mg C):FnOk P w K mg base CX0 1 f fd ["_law_script", "_law_k"] (Uz K):=by
 r F.ok AEV § ¦
 ·o⟨a,ns,k,rfl,_⟩:=h
  rfl
 o⟨a,ns,k,rfl,hS,h0,q⟩:=h;r⟨_,Aj (Av (Hw (Ar Lq (pv 1) (BL BZ rfl T.len PySem.boot_len (Aa (pv 0) Ad)) ⑮) (Bc Bl (pv 0) (pv 1) (fun _ _=>rfl)) Ah)),?_⟩;r⟨_,rfl,_,rfl,a,_,rfl,.inl hS,_,_,rfl,rfl,_,rfl,?_⟩;r ite2 (fun c=>?_) (fun c=>?_)
 ·h c':k<((⑭.length:Nat):Int):=of_decide_eq_true c
  rw[List.length_map] at c';o⟨v,hv⟩:=Zf h0 c';!⟨_,rfl,_,rfl,a,_,_,_,rfl,rfl,hS,hv,q v⟩
 ·!q 0
theorem ACr:FnScope ["_law_cell_here", "_law_k", "_law_number"] ["_law_cell_here", "_law_k"] (Ac Xf):=¡
theorem ADa(F:Fun K "_law_mixed" "_law_mixed" Xf f fd):FnOk P w K mg base CX0 1 f fd ["_law_cell_here", "_law_k"] ACu:=by
 r F.ok ACr § ¦
 ·o⟨c,k,rfl,_⟩:=h
  rfl
 o⟨c,k,rfl,q⟩:=h;r⟨_,Ae (Ax (i:=2) ACr.nd rfl ④ (Aw Dm (Aw Cv (Aw Cv (Aw Lx (Aw Dm (pv 0) Ah) Ah) (Aw Lx (pv 1) Ah)) Ah) Ah))
  (Aj (Av (Aw Dm (Aw Lx (pv 2) (pv 2)) Ah))),?_⟩
 r⟨_,rfl,_,_,rfl,rfl,(by show (0:Int)<2147483647; decide),_,_,rfl,rfl,.inr ⟨by decide,by decide⟩,_,rfl,_,_,rfl,rfl,.inr ⟨by decide,by decide⟩,_,_,rfl,rfl,_,_,rfl,rfl,_,_,rfl,rfl,(by show (0:Int)<2147483629; decide),?_⟩;r⟨_,rfl,_,rfl,_,_,rfl,rfl,?_,_,_,rfl,rfl,(by show (0:Int)<2147483587; decide),q _⟩;h h1:=Int.emod_nonneg (c%2147483647*16807+k*48271+11) (show (2147483629:Int)≠0 by decide);h h2:=Int.emod_lt_of_pos (c%2147483647*16807+k*48271+11) (show (0:Int)<2147483629 by decide);!.inl ⟨by w,by w⟩
theorem Kg:FnScope ["_law_cell_here", "_law_many", "_law_most", "_law_found", "_law_left", "_law_k"] ["_law_cell_here", "_law_many", "_law_most"] (Ac Mv):=¡
theorem ABZ{fM:Addr}{fdM:FuncData}(F:Fun K "_law_draws" "_law_draws" Mv f fd)(T:Txt K mg C)(GM:FnOk P w K mg base CX0 1 fM fdM ["_law_cell_here", "_law_k"] ACu)(bM:Binds K fdM ["_law_cell_here", "_law_k"] [])(kM:© K (.ref fM)=true)(mM:mg "_law_mixed" = some (.ref fM)) :
  FnOk P w K mg base CX0 2 f fd ["_law_cell_here", "_law_many", "_law_most"] AAz:=by
 r F.ok Kg § ¦
 ·o⟨c,many,most,rfl,_⟩:=h
  rfl
 o⟨c,many,most,rfl,h0,h1,h2,h3,q⟩:=h;r⟨_,Ae (Ax (i:=3) Kg.nd rfl ④ (Ci Ad))
  (Ae (Ax (i:=4) Kg.nd rfl ④ (Aw Fo (pv 0) Ah))
  (Ae (Cw PassesOwn.never rfl (Cm rfl T.range (Aa (pv 1) Ad)) (Am (i:=5) Kg.nd rfl ④)
   (Aj (CN (Ar Ey (Aw Dm (pv 0) Ah) Ah ⑮)
    (Ae (DX (Od PySem.F.plainAttrs_list PySem.F.slot_list_append PySem.F.type_list_append Cy (pv 3) (Aa (Aw Dm (pv 4) (pv 2)) Ad)))
     (Aj (Ax (i:=4) Kg.nd rfl ④ (Aw Fo (pv 4) (pv 2)))))
    (Aj (DX (Od PySem.F.plainAttrs_list PySem.F.slot_list_append PySem.F.type_list_append Cy (pv 3) (Aa (Aw Dm (BP GM hr rfl mM kM bM .nil pass0 (Aa (pv 0) (Aa (pv 5) Ad))) (pv 2)) Ad)))))))
  (Aj (Av (pv 3))))),?_⟩
 r⟨Nat.zero_le _,fun l hl=>?_⟩;r⟨_,rfl,_,_,rfl,rfl,⟨by decide,by decide⟩,?_⟩;r⟨_,rfl,many,rfl,by w,by w,?_⟩;r Jd (lo:=0) (n:=many.toNat) (fun i σ H2=>∃(ms:List Int) (left:Int) (kv:Option V),σ=[some (.int c),some (.int many),some (.int most),some (.ref l),some (.int left),kv]/\Same H H2/\H2 l=some (.lst (ms.map V.int))/\ms.length=i/\∀ m∈ms,0<=m/\m<most)
  ⟨[],_,none,rfl,Same.new hl _,Ab,rfl,fun m hm=>by cases hm⟩ ?_ ?_
 ·rintro i σ H2 hi ⟨ms,left,kv,rfl,sm,hL,hn,hb⟩
  h put:∀ v:Int,0<=v/\v<most->Same H (upd H2 l (.lst (ms.map V.int++[.int v])))/\(upd H2 l (.lst (ms.map V.int++[.int v]))) l=some (.lst ((ms++[v]).map V.int))/\(ms++[v]).length=i+1/\∀ m∈ms++[v],0<=m/\m<most:=fun v hv=>by
   r⟨fun b o e=>by rw[Af (Ag e hl)]; !sm b o e,by rw[Ab,List.map_append]; rfl,by simp[hn],fun m hm=>?_⟩;rcases List.mem_append.mp hm with hm | hm
   ·!hb m hm
   ·rw[List.mem_singleton.mp hm]; !hv
  h hz:(ms.map V.int).length<sizeLine:=by rw[List.length_map]; !Ay ¢
  r⟨_,rfl,_,_,rfl,rfl,(by show (0:Int)<2; decide),rfl,_,rfl,?_⟩;r ite2 (fun _=>?_) (fun _=>?_)
  ·o⟨p1,p2,p3,p4⟩:=put (left%most) ⟨Int.emod_nonneg _ ¢,Int.emod_lt_of_pos _ h2⟩
   r⟨_,rfl,.inl ⟨rfl,_,SqL.of hL⟩,_,rfl,_,rfl,_,_,rfl,rfl,h2,l,_,_,rfl,rfl,hL,hz,?_⟩;r⟨_,rfl,_,rfl,_,_,rfl,rfl,⟨h2,by w⟩,?_⟩;!⟨_,_,_,rfl,p1,p2,p3,p4⟩
  ·r⟨_,rfl,.inl ⟨rfl,_,SqL.of hL⟩,_,rfl,_,rfl,_,_,rfl,fun r=>?_⟩
   o⟨p1,p2,p3,p4⟩:=put (r%most) ⟨Int.emod_nonneg _ ¢,Int.emod_lt_of_pos _ h2⟩;r⟨_,rfl,_,_,rfl,rfl,h2,l,_,_,rfl,rfl,hL,hz,?_⟩;!⟨_,_,_,rfl,p1,p2,p3,p4⟩
 ·rintro σ H2 ⟨ms,left,kv,rfl,sm,hL,hn,hb⟩
  !⟨_,rfl,q l ms H2 sm hl hL ¢ hb⟩
theorem AEq:FnScope ["points", "ties"] ["points", "ties"] (Ac XC):=¡
theorem ADo(F:Fun K "refuse_amounts" "refuse_amounts" XC f fd)(T:Txt K mg C):FnOk P w K mg base CX0 1 f fd ["points", "ties"] ACy:=by
 r F.ok AEq § ¦
 ·o⟨p,t,rfl,_⟩:=h
  rfl
 o⟨p,t,rfl,h1,h2,h3,h4,q⟩:=h;o⟨t1,e1⟩:=T.mp;o⟨t2,e2⟩:=T.mt;r⟨_,Ae (CN (PW.pt (HN (Ar Lq (pv 0) Ah ⑮) (Ho (Ar Mz (pv 0) (Gv (v:=.int 10) rfl e1 ⟨t1,rfl⟩) ⑮)))) Er BX)
  (Aj (CN (Ar Mz (pv 1) (Gv (v:=.int 12) rfl e2 ⟨t2,rfl⟩) ⑮) Er BX)),?_⟩
 r⟨_,rfl,_,_,rfl,rfl,_,rfl,?_⟩;r iteN ¢ ?_;r⟨_,rfl,_,_,rfl,rfl,_,rfl,?_⟩;r iteN ¢ ?_;r⟨_,rfl,_,_,rfl,rfl,_,rfl,?_⟩;r iteN ¢ ?_;!q
theorem AEo:FnScope ["many", "tie"] ["many", "tie"] (Ac Xu):=¡
theorem at0{a b:V}:atI [a,b] 0=some a:=rfl
theorem at1{a b:V}:atI [a,b] 1=some b:=rfl
theorem ADl(F:Fun K "refuse_points" "refuse_points" Xu f fd):FnOk P w K mg base CX0 1 f fd ["many", "tie"] (ACs K):=by
 r F.ok AEo § ¦
 ·o⟨m,a,b,t,rfl,_⟩:=h
  rfl
 o⟨m,a,b,t,rfl,hT,h0,h1,h2,q⟩:=h;r⟨_,Ae (CN (PW.pt (HN (Ar Lq (Bc Dn (pv 1) Ah (fun _ _=>rfl)) Ah ⑮) (Ho (Ar Tg (Bc Dn (pv 1) Ah (fun _ _=>rfl)) (pv 0) ⑮)))) Er BX)
  (Aj (CN (Ar Ey (Bc Dn (pv 1) Ah (fun _ _=>rfl)) (Bc Dn (pv 1) Ah (fun _ _=>rfl)) ⑮) Er BX)),?_⟩
 r⟨_,rfl,t,_,_,_,rfl,rfl,hT,at0,_,_,rfl,rfl,_,rfl,?_⟩;r iteN ¢ ?_;r⟨_,rfl,t,_,_,_,rfl,rfl,hT,at1,_,rfl,_,_,rfl,rfl,_,rfl,?_⟩;r iteN ¢ ?_;r⟨_,rfl,t,_,_,_,rfl,rfl,hT,at0,_,rfl,t,_,_,_,rfl,rfl,hT,at1,rfl,_,rfl,?_⟩;r iteN (fun e=>?_) q;have:=V.int.inj e;w
theorem Vv:FnScope ["many", "ties", "checked", "handed", "tie"] ["many", "ties"] (Ac XM):=¡
theorem AEI{fP:Addr}{fdP:FuncData}(F:Fun K "checked_ties" "checked_ties" XM f fd)(T:Txt K mg C)(GP:FnOk P w K mg base CX0 1 fP fdP ["many", "tie"] (ACs K))(bP:Binds K fdP ["many", "tie"] [])(kP:© K (.ref fP)=true)(mP:mg "refuse_points" = some (.ref fP)) :
  FnOk P w K mg base CX0 2 f fd ["many", "ties"] (ACt K):=by
 r F.ok Vv § ¦
 ·o⟨m,l,xs,as,rfl,_⟩:=h
  rfl
 o⟨m,l,xs,as,rfl,hS,pa,ok,h12,q⟩:=h;r⟨_,Ae (Ax (i:=2) Vv.nd rfl ④ (Ci Ad))
  (Ae (Cw PassesOwn.never rfl (Bv (pv 1)) (Am (i:=3) Vv.nd rfl ④)
   (Ae (Ax (i:=4) Vv.nd rfl ④ (Bk Ce rfl T.tuple PyProof.Rows.boot_tuple (Aa (BL Rr rfl T.sorted PyProof.Rows.boot_sorted (Aa (pv 3) Ad)) Ad)))
   (Ae (DX (BP GP hr rfl mP kP bP .nil pass0 (Aa (pv 0) (Aa (pv 4) Ad))))
   (Ae (CN (Ar (ADg (Gp DG) (CW hr)) (pv 4) (pv 2) rfl) Er BX)
   (Aj (DX (Od PySem.F.plainAttrs_list PySem.F.slot_list_append PySem.F.type_list_append Cy (pv 2) (Aa (pv 4) Ad))))))))
  (Aj (Av (Bk Ce rfl T.tuple PyProof.Rows.boot_tuple (Aa (pv 2) Ad))))),?_⟩
 r⟨Nat.zero_le _,fun c hc=>?_⟩;h lx:as.length=xs.length:=Paired.length pa;r⟨_,rfl,l,rfl,⟨_,(Same.new hc _).seq hS⟩,DK (K:=K) (a:=l) (xs:=xs) (fun i σ H2=>∃(hv tv:Option V) (ys:List V),σ=[some (.int m),some (.ref l),some (.ref c),hv,tv]/\Same H H2/\H2 c=some (.lst ys)/\Paired (rPair K H2) ((as.take i).map srt) ys)
  ⟨none,none,[],rfl,Same.new hc _,Ab,.nil⟩ (fun i σ H2 _ ⟨_,_,_,_,sm,_⟩=>sm.seq hS) ?_ ?_⟩
 ·rintro i x σ H2 hx ⟨hv,tv,ys,rfl,sm,hC,pc⟩
  o⟨t,ht,rt0⟩:=Paired.get pa hx;o⟨p,rfl,hp⟩:=AAT rt0;o⟨a,b,rfl,a0,a1,b0,b1,nab⟩:=ok.ok t (List.mem_of_getElem? ht);h hp2:SqL K H2 p ([a,b].map V.int)\/SqT K H2 p ([a,b].map V.int):=hp.elim (fun z=>.inl (sm.seq z)) fun z=>.inr (sm.ts.seq z);r⟨_,rfl,p,[a,b],rfl,hp2,(by show 2<64; decide),fun l1 ms hl1 perm pw=>?_⟩;h em:=YG perm pw;subst em;r⟨l1,_,rfl,.inl ⟨SqL.of Ab,fun t1 ht1=>?_⟩⟩;h hT:(upd (upd H2 l1 (.lst ((srt [a,b]).map V.int))) t1 (.tup ((srt [a,b]).map V.int))) t1=some (.tup ((srt [a,b]).map V.int)):=Ab;h s1:Same H2 (upd (upd H2 l1 (.lst ((srt [a,b]).map V.int))) t1 (.tup ((srt [a,b]).map V.int))):=(Same.new hl1 _).trans (Same.new ht1 _);generalize hH3:upd (upd H2 l1 (.lst ((srt [a,b]).map V.int))) t1 (.tup ((srt [a,b]).map V.int))=H3 at hT s1 ⊢;h hlen:(srt [a,b]).length=2:=by rw[Et]; split<;>rfl
  h pts:∃ u v:Int,srt [a,b]=[u,v]/\0<=u/\u<v/\v<m:=by
   rw[Et];split
   ·!⟨b,a,rfl,b0,by w,a1⟩
   ·!⟨a,b,rfl,a0,by w,b1⟩
  o⟨u,v,euv,u0,uv,vm⟩:=pts;h hT2:SqT K H3 t1 [.int u,.int v]:=by
   h e:=SqT.of (K:=K) hT;rw[euv] at e;!e
  r⟨_,rfl,_,rfl,m,u,v,t1,rfl,hT2,u0,uv,vm,?_⟩;h hC3:H3 c=some (.lst ys):=s1 _ _ hC;h pc3:Paired (rPair K H3) ((as.take i).map srt) ys:=Paired.imp (fun a b=>Aq Az H2 H3 a b s1.ts) pc;h rt:rPair K H3 (srt [a,b]) (.ref t1):=Es hT;r⟨_,rfl,_,rfl,_,_,rt,.inl ⟨c,ys,rfl,SqL.of hC3,pc3⟩,_,rfl,?_⟩;r iteN (ok.take_new ht) ?_;h hys:ys.length<=12:=by
   rw[<- Paired.length pc,List.length_map,List.length_take];w
  r⟨_,rfl,.inl ⟨rfl,_,SqL.of hC3⟩,_,rfl,c,ys,_,rfl,rfl,hC3,Ay ¢,?_⟩;r⟨_,_,_,rfl,fun b o e=>?_,Ab,?_⟩
  ·rw[Af (Ag e hc)]
   !s1 _ _ (sm b o e)
  ·h e:as.take (i+1)=as.take i++[[a,b]]:=by rw[List.take_add_one,ht]; rfl
   rw[e,List.map_append,List.map_singleton];h ts:TSm H3 (upd H3 c (.lst (ys++[.ref t1]))):=TSm.lst hC3;!Paired.app (Paired.imp (fun a b=>Aq Az H3 _ a b ts) pc3) (Paired.one (Aq Az H3 _ _ _ ts rt))
 ·rintro σ H2 ⟨hv,tv,ys,rfl,sm,hC,pc⟩
  rw[<- lx,List.take_length] at pc;r⟨_,rfl,c,_,rfl,.inl ⟨SqL.of hC,fun j hj=>?_⟩⟩;r q j _ (sm.trans (Same.new hj _)) ⟨j,ys,rfl,SqT.of Ab,?_⟩;!Paired.imp (fun a b=>Aq Az H2 _ a b (TSm.new hj)) pc
theorem Vh:FnScope ["self", "many", "ties"] ["self", "many", "ties"] (Ac FP):=¡
theorem Hr{fA fC:Addr}{fdA fdC:FuncData}(F:Fun K "__init__" "Web.__init__" FP f fd)(T:Txt K mg C)
  (GA:FnOk P w K mg base CX0 1 fA fdA ["points", "ties"] ACy) (bA:Binds K fdA ["points", "ties"] []) (kA:© K (.ref fA)=true) (mA:mg "refuse_amounts" = some (.ref fA))
  (GC:FnOk P w K mg base CX0 2 fC fdC ["many", "ties"] (ACt K)) (bC:Binds K fdC ["many", "ties"] []) (kC:© K (.ref fC)=true) (mC:mg "checked_ties" = some (.ref fC)) :
  FnOk P w K mg base CX0 3 f fd ["self", "many", "ties"] (JW K C):=by
 r F.ok Vh § ¦
 ·o⟨p,dx,l,m,xs,as,rfl,_⟩:=h
  rfl
 o⟨p,dx,l,m,xs,as,rfl,hP,hS,pa,ok,h12,h1,h10,q⟩:=h;h lx:as.length=xs.length:=Paired.length pa;r⟨_,Ae (DX (BP GA (hr.mono ¤) rfl mA kA bA .nil pass0 (Aa (pv 1) (Aa (BL BZ rfl T.len PySem.boot_len (Aa (pv 2) Ad)) Ad))))
  (Ae (Dp (pv 0) (pv 1) rfl)
  (Aj (Dp (pv 0) (BP GC hr rfl mC kC bC .nil pass0 (Aa (pv 1) (Aa (pv 2) Ad))) rfl))),?_⟩
 r⟨_,rfl,_,rfl,l,_,rfl,.inl hS,m,_,rfl,h1,h10,by w,by w,?_⟩;r⟨_,rfl,_,rfl,p,C,dx,[],rfl,hP,T.cl,T.nA,(by show 0<1000; decide),?_⟩;h ts:TSm H (upd H p (.ins C dx (putF "amount" (.int m) []))):=fun b u hb t=>by
  rw[Af ?_]
  ·!hb
  ·rintro rfl
   rw[hP] at hb;cases hb;o⟨ys,e | ⟨o,e⟩⟩:=t
   ·cases e
   ·cases e
 h sl:∀{a:Addr}{zs:List V},SqL K H a zs->SqL K (upd H p (.ins C dx (putF "amount" (.int m) []))) a zs:=fun {a zs} h=>by
  rcases h with (h | ⟨o,h⟩) | h
  ·!.inl (.inl (by rw[Af (Cd h hP (by intro z; cases z))]; !h))
  ·!.inl (.inr ⟨o,by rw[Af (Cd h hP (by intro z; cases z))]; !h⟩)
  ·!.inr h
 h pa':Paired (rSeq K (upd H p (.ins C dx (putF "amount" (.int m) [])))) as xs:=Paired.imp (fun t x h=>by
  rcases h with⟨q,zs,rfl,hq,pz⟩ | h
  ·!.inl ⟨q,zs,rfl,sl hq,pz⟩
  ·!.inr (Aq Az _ _ _ _ ts h)) pa
 r⟨_,rfl,_,rfl,m,l,xs,as,rfl,sl hS,pa',ok,h12,fun j H' sm rj=>?_⟩;h hP':H' p=some (.ins C dx (putF "amount" (.int m) [])):=sm _ _ Ab;r⟨_,rfl,p,C,dx,_,rfl,hP',T.cl,T.nJ,(by show 1<1000; decide),?_⟩;r q _ (fun b o e hb=>?_) ⟨dx,j,Ab,?_⟩
 ·rw[Af hb]
  !sm _ _ (by rw[Af hb]; !e)
 ·r Aq (Aq Az) _ _ _ _ (fun b u hb t=>?_) rj
  rw[Af ?_]
  ·!hb
  ·rintro rfl
   rw[hP'] at hb;cases hb;o⟨ys,e | ⟨o,e⟩⟩:=t
   ·cases e
   ·cases e
theorem scSize:FnScope ["self"] ["self"] (Ac Ng):=¡
theorem ACk(F:Fun K "size" "Web.size" Ng f fd)(T:Txt K mg C):FnOk P w K mg base CX0 1 f fd ["self"] (Ow K C):=by
 r F.ok scSize § ¦
 ·o⟨p,m,as,rfl,_⟩:=h
  rfl
 o⟨p,m,as,rfl,⟨dx,j,hP,hj⟩,q⟩:=h;r⟨_,Aj (Av (Bt (pv 0) rfl)),?_⟩;!⟨_,rfl,p,C,dx,_,_,rfl,hP,T.cl,T.nA,Ge _ _,q⟩
theorem ADM:FnScope ["self"] ["self"] (Ac Mu):=¡
theorem ABl(F:Fun K "ties" "Web.ties" Mu f fd)(T:Txt K mg C):FnOk P w K mg base CX0 1 f fd ["self"] (QJ K C):=by
 r F.ok ADM § ¦
 ·o⟨p,m,as,rfl,_⟩:=h
  rfl
 o⟨p,m,as,rfl,⟨dx,j,hP,j',xs,ej,hj,pj⟩,q⟩:=h;cases ej;r⟨_,Aj (Av (Bk Fl rfl T.list PyProof.Rows.boot_list (Aa (Bt (pv 0) rfl) Ad))),?_⟩;r⟨_,rfl,p,C,dx,_,_,rfl,hP,T.cl,T.nJ,Jk _ _,j,xs,rfl,.inr hj,fun l hl=>?_⟩;r q l _ (Same.new hl _) hl ⟨l,xs,rfl,SqL.of Ab,?_⟩;!Paired.imp (fun a b=>Aq Az H _ a b (TSm.new hl)) pj
theorem AFf:FnScope ["self", "point"] ["self", "point"] (Ac sAt):=¡
theorem AEn(F:Fun K "at" "Web.at" sAt f fd)(T:Txt K mg C):FnOk P w K mg base CX0 1 f fd ["self", "point"] (ADT K C):=by
 r F.ok AFf § ¦
 ·o⟨p,m,x,as,rfl,_⟩:=h
  rfl
 o⟨p,m,x,as,rfl,⟨dx,j,hP,j',xs,ej,hj,pj⟩,h12,q⟩:=h;cases ej;r⟨_,Aj (Av (Ca (Ac sAt) ["number", "tie"] ["point"] [1] rfl rfl £ ⟨⟨rfl,£⟩,trivial⟩ (Ke rfl T.enum (Aa (Bt (pv 0) rfl) Ad))
  (fun _ _ _=>Ft (K:=K) (n:=2) rfl rfl (Bb (Am (i:=0) (show ((["number", "tie"]:List Str)++(["point"]:List Str)).Nodup by decide +kernel) rfl ④) (Bb (Am (i:=1) (show ((["number", "tie"]:List Str)++(["point"]:List Str)).Nodup by decide +kernel) rfl ④) Dw)))
  (fun _ _ _=>Dg (Ar (Fg (K:=K) rfl) (pv 2) (pv 1) rfl))
  (fun _ _ _=>pv 0))),?_⟩
 r⟨_,rfl,p,C,dx,_,_,rfl,hP,T.cl,T.nJ,Jk _ _,j,rfl,⟨_,hj⟩,fun D hD=>?_⟩;h lx:as.length=xs.length:=Paired.length pj;r HW (xs:=xs) (fun i τ H2=>∃ n t:Option V,τ=[n,t,some (.int x)]/\Same H H2/\H2 D=some (.lst ((hits x (as.take i)).map V.int))) ⟨none,none,rfl,Same.new hD _,Ab⟩
  (fun i τ H2 _ ⟨_,_,_,sm,_⟩=>sm.ts.seq hj) ?_ ?_
 ·rintro i y τ H2 T1 hy hT1 ⟨n,t,rfl,sm,hD2⟩
  o⟨tie,ht,rt⟩:=Paired.get pj hy;o⟨q1,rfl,hq1⟩:=Cz rt;h s1:Same H2 (upd H2 T1 (.tup [.int i,.ref q1])):=Same.new hT1 _;r⟨T1,_,rfl,SqT.of Ab,rfl,_,_,rfl,_,_,rfl,rfl,?_⟩;r⟨_,rfl,_,rfl,q1,_,rfl,.inr (s1.ts.seq (sm.ts.seq hq1)),rfl,?_,_,rfl,?_⟩
  ·simp[flatV]
  ·rw[if_neg ¤,EY]
   h hD3:(upd H2 T1 (.tup [.int i,.ref q1])) D=some (.lst ((hits x (as.take i)).map V.int)):=s1 _ _ hD2;h hlt:i<as.length:=(List.getElem?_eq_some_iff.mp ht).1;r ite2 (fun c=>?_) (fun c=>?_)
   ·h c':x∈tie:=of_decide_eq_true c
    r⟨_,rfl,_,hD3,?_,_,_,rfl,fun b o e=>?_,?_⟩
    ·have:(hits x (as.take i)).length<=(as.take i).length:=Ht x 0 (as.take i)
     rw[List.length_map];rw[List.length_take] at this;!Ay ¢
    ·rw[Af (Ag e hD)]
     !s1 _ _ (sm b o e)
    ·rw[Ab,NQ ht,if_pos c',List.map_append]
     rfl
   ·h c':¬ x∈tie:=fun z=>c (decide_eq_true z)
    r⟨_,_,rfl,sm.trans s1,?_⟩;rw[hD3,NQ ht,if_neg c',List.append_nil]
 ·rintro τ H2 ⟨n,t,rfl,sm,hD2⟩
  rw[<- lx,List.take_length] at hD2;!q D H2 sm hD hD2
end
def ADH(K:¨):Sp:=fun vs H Q _=>∃(a:Addr) (ns:List Int) (at_:Int),vs=[.ref a,.int at_]/\SqL K H a ⑭/\0<=at_ /\
 ∀(t l:Addr) (z:Int) (xs:List V) (as:List ⑧) (H':Hp),Same H H'->H' t=some (.tup [.int z,.ref l])->H' l=some (.lst xs)->H l=none->Paired (rPair K H') as xs->1<=z->z<=10->as.length<=12->OkTies z as->Q (.ref t) H'
section
variable{P:Program}{w:World}{K:¨}{mg:Str->Option Value}{base:Heap}{f C:Addr}{fd:FuncData}
theorem Jl:FnScope ["_law_script", "_law_at", "_law_points", "_law_ties", "_law_many", "_law_number", "_law_one", "_law_other"] ["_law_script", "_law_at"] (Ac Yi):=¡
theorem drawn{z v:Int}(h1:1<=z)(h10:z<=10)(hz:1<z)(v0:0<=v)(vm:v<z*(z-1)):OkTie z [v / (z-1),v%(z-1)+(if decide (v / (z-1)<=v%(z-1))=true then 1 else 0)]:=by
 h a0:0<=v / (z-1):=Int.ediv_nonneg v0 ¢;h a1:v / (z-1)<z:=Int.ediv_lt_of_lt_mul ¢ vm;h b0:0<=v%(z-1):=Int.emod_nonneg _ ¢;h b1:v%(z-1)<z-1:=Int.emod_lt_of_pos _ ¢;r⟨_,_,rfl,a0,a1,?_⟩;by_cases h:v / (z-1)<=v%(z-1)
 ·rw[decide_eq_true h]
  simp only[if_true];w
 ·rw[decide_eq_false h]
  simp only[Bool.false_eq_true,if_false];w
theorem AEM{fC fD:Addr}{fdC fdD:FuncData}(F:Fun K "_law_web" "_law_web" Yi f fd)(T:Txt K mg C)
  (GC:FnOk P w K mg base CX0 1 fC fdC ["_law_script", "_law_k"] (Uz K)) (bC:Binds K fdC ["_law_script", "_law_k"] []) (kC:© K (.ref fC)=true) (mC:mg "_law_cell" = some (.ref fC))
  (GD:FnOk P w K mg base CX0 2 fD fdD ["_law_cell_here", "_law_many", "_law_most"] AAz) (bD:Binds K fdD ["_law_cell_here", "_law_many", "_law_most"] []) (kD:© K (.ref fD)=true) (mD:mg "_law_draws" = some (.ref fD)) :
  FnOk P w K mg base CX0 3 f fd ["_law_script", "_law_at"] (ADH K):=by
 r F.ok Jl § ¦
 ·o⟨a,ns,at_,rfl,_⟩:=h
  rfl
 o⟨a,ns,at_,rfl,hS,at0,q⟩:=h;h hr1:Room 1 _:=hr.mono ¤;h hu:=hr.units;r⟨_,Ae (Ax (i:=2) Jl.nd rfl ④ (Aw Cv Ah (Aw Dm (BP GC hr1 rfl mC kC bC .nil pass0 (Aa (pv 0) (Aa (pv 1) Ad))) Ah)))
  (Ae (Ax (i:=3) Jl.nd rfl ④ (Ci Ad))
  (Ae (Ax (i:=4) Jl.nd rfl ④ (Aw Lx (Aw Dm (Aw Fo (BP GC hr1 rfl mC kC bC .nil pass0 (Aa (pv 0) (Aa (pv 1) Ad))) Ah) Ah) (Bk Oh rfl T.int PyProof.Rows.boot_int (Aa (Cp Mz (pv 2) Ah ⑮) Ad))))
  (Ae (Cw PassesOwn.never rfl (Bv (BP GD hr rfl mD kD bD .nil pass0 (Aa (BP GC hr1 rfl mC kC bC .nil pass0 (Aa (pv 0) (Aa (Aw Cv (pv 1) Ah) Ad))) (Aa (pv 4) (Aa (BL (Xo rfl) rfl T.max PyProof.Rows.boot_max (Aa Ah (Aa (Aw Lx (pv 2) (Aw DP (pv 2) Ah)) Ad))) Ad)))))
    (Am (i:=5) Jl.nd rfl ④)
   (Ae (Ax (i:=6) Jl.nd rfl ④ (Aw Fo (pv 5) (Aw DP (pv 2) Ah)))
   (Ae (Ax (i:=7) Jl.nd rfl ④ (Aw Dm (pv 5) (Aw DP (pv 2) Ah)))
   (Ae (Ax (i:=7) Jl.nd rfl ④ (Aw Cv (pv 7) (Bk Oh rfl T.int PyProof.Rows.boot_int (Aa (Cp Tg (pv 7) (pv 6) ⑮) Ad))))
   (Aj (CN (PW.pt (LC (Ar (Oc (Gp DG) (CW hr)) (CG (Aa (pv 6) (Aa (pv 7) Ad))) (pv 3) rfl) (Ie (Ar (Oc (Gp DG) (CW hr)) (CG (Aa (pv 7) (Aa (pv 6) Ad))) (pv 3) rfl))))
    (Aj (DX (Od PySem.F.plainAttrs_list PySem.F.slot_list_append PySem.F.type_list_append Cy (pv 3) (Aa (CG (Aa (pv 6) (Aa (pv 7) Ad))) Ad)))) BX))))))
  (Aj (Av (CG (Aa (pv 2) (Aa (pv 3) Ad)))))))),?_⟩
 r⟨_,rfl,_,rfl,a,ns,at_,rfl,hS,at0,fun c=>?_⟩;r⟨_,_,rfl,rfl,(by show (0:Int)<10; decide),_,_,rfl,rfl,?_⟩;h z1:(1:Int)<=1+c%10:=by w
 h z10:(1:Int)+c%10<=10:=by w
 dsimp only;generalize hz:(1:Int)+c%10=z at z1 z10 ⊢;r⟨Nat.zero_le _,fun l hl=>?_⟩;h s1:Same H (upd H l (.lst [])):=Same.new hl _;r⟨_,rfl,_,rfl,a,ns,at_,rfl,s1.seq hS,at0,fun c2=>?_⟩;r⟨_,_,rfl,rfl,⟨by decide,by decide⟩,_,_,rfl,rfl,(by show (0:Int)<13; decide),_,rfl,_,_,rfl,rfl,.inr ⟨_,rfl,?_⟩⟩;h y0:0<=c2 / 10%13:=Int.emod_nonneg _ ¤;h y1:c2 / 10%13<13:=Int.emod_lt_of_pos _ ¤;r⟨_,_,rfl,rfl,.inl ⟨by w,by w⟩,?_⟩;h many:∃ k:Int,c2 / 10%13*(if decide (1<z)=true then (1:Int) else 0)=k/\0<=k/\k<=12/\(0<k->1<z):=by
  r⟨_,rfl,?_⟩;by_cases h:1<z
  ·rw[decide_eq_true h]
   simp only[if_true,Int.mul_one];w
  ·rw[decide_eq_false h]
   simp only[Bool.false_eq_true,if_false,Int.mul_zero];w
 o⟨k,ek,k0,k12,kz⟩:=many;dsimp only;rw[ek];r⟨_,rfl,_,rfl,_,_,rfl,rfl,a,ns,at_+1,rfl,s1.seq hS,by w,fun c3=>?_⟩;r⟨_,rfl,_,rfl,_,rfl,_,_,rfl,rfl,_,_,rfl,rfl,.inl ⟨by w,by w⟩,1,z*(z-1),rfl,?_⟩;h zz:0<=z*(z-1)/\z*(z-1)<=90:=by
  have:z=1\/z=2\/z=3\/z=4\/z=5\/z=6\/z=7\/z=8\/z=9\/z=10:=by w
  rcases this with h | h | h | h | h | h | h | h | h | h<;>subst h<;>decide
 r⟨c3,k,_,rfl,k0,by w,by split<;>w,by split<;>w,fun l2 ms H2 s2 n2 e2 hms hb=>?_⟩;h hl2:H2 l=some (.lst []):=s2 _ _ Ab;h sH:Same H H2:=s1.trans s2;h lms:(ms.map V.int).length=ms.length:=List.length_map _;r⟨l2,rfl,⟨_,SqL.of e2⟩,DK (K:=K) (a:=l2) (xs:=ms.map V.int) (fun i σ H3=>∃(v4 v5 v6:Option V) (xs:List V) (as:List ⑧),σ=[some (.ref a),some (.int at_),some (.int z),some (.ref l),some (.int k),v4,v5,v6]/\Same H H3/\H3 l2=some (.lst (ms.map V.int))/\H3 l=some (.lst xs)/\Paired (rPair K H3) as xs/\as.length<=i/\OkTies z as)
  ⟨none,none,none,[],[],rfl,sH,e2,hl2,.nil,Nat.le_refl _,⟨(fun t ht=>by cases ht),List.nodup_nil⟩⟩ (fun i σ H3 _ ⟨_,_,_,_,_,_,_,e3,_⟩=>SqL.of e3) ?_ ?_⟩
 ·rintro i y σ H3 hy ⟨v4,v5,v6,xs,as,rfl,s3,e3,hL,pl,hlen,ok⟩
  h hi:i<ms.length:=by rw[<- lms]; !(List.getElem?_eq_some_iff.mp hy).1
  rw[List.getElem?_map,± hi] at hy;h ey:y=.int ms[i]:=(Option.some.inj hy).symm;subst ey;o⟨v0,vm⟩:=hb _ (List.getElem_mem hi);h hz1:1<z:=kz ¢;h vm':ms[i]<z*(z-1):=by
   h hz2:(1:Int)<=z*(z-1):=by
    have:z=2\/z=3\/z=4\/z=5\/z=6\/z=7\/z=8\/z=9\/z=10:=by w
    rcases this with h | h | h | h | h | h | h | h | h<;>subst h<;>decide
   split at vm<;>w
  h okt:=drawn z1 z10 hz1 v0 vm';r⟨_,rfl,_,rfl,_,_,rfl,rfl,_,_,rfl,rfl,⟨by w,by w⟩,?_⟩;r⟨_,rfl,_,rfl,_,_,rfl,rfl,_,_,rfl,rfl,(by show 0<z-1; w),?_⟩;r⟨_,rfl,_,rfl,_,rfl,_,_,rfl,rfl,.inr ⟨_,rfl,?_⟩⟩;r⟨_,_,rfl,rfl,?_⟩;dsimp only;generalize ho:ms[i] / (z-1)=one at okt ⊢;generalize hq:ms[i]%(z-1)+(if decide (one<=ms[i]%(z-1))=true then 1 else 0)=oth at okt ⊢;r⟨_,rfl,_,rfl,(by show 2<=sizeLine; decide),fun t1 ht1=>?_⟩;h st1:Same H3 (upd H3 t1 (.tup [.int one,.int oth])):=Same.new ht1 _;h rt1:rPair K (upd H3 t1 (.tup [.int one,.int oth])) [one,oth] (.ref t1):=Es Ab;h pl1:Paired (rPair K (upd H3 t1 (.tup [.int one,.int oth]))) as xs:=Paired.imp (fun a b=>Aq Az _ _ a b st1.ts) pl;r⟨_,rfl,_,_,rt1,.inl ⟨l,xs,rfl,SqL.of (st1 _ _ hL),pl1⟩,_,rfl,?_⟩;by_cases c1:[one,oth]∈as
  ·r iteNP c1 (iteF ?_)
   !⟨_,_,_,xs,as,rfl,s3.trans st1,st1 _ _ e3,st1 _ _ hL,pl1,by w,ok⟩
  ·r iteNN c1 ?_
   r⟨_,rfl,_,rfl,(by show 2<=sizeLine; decide),fun t2 ht2=>?_⟩;h st2:=Same.new ht2 (.tup [.int oth,.int one]);generalize hH4:upd (upd H3 t1 (.tup [.int one,.int oth])) t2 (.tup [.int oth,.int one])=H4 at st2 ⊢;h s34:Same H3 H4:=st1.trans st2;h rt2:rPair K H4 [oth,one] (.ref t2):=Es (by rw[<- hH4]; !Ab);h pl2:Paired (rPair K H4) as xs:=Paired.imp (fun a b=>Aq Az _ _ a b st2.ts) pl1;r⟨_,rfl,_,_,rt2,.inl ⟨l,xs,rfl,SqL.of (s34 _ _ hL),pl2⟩,_,rfl,?_⟩;by_cases c2:[oth,one]∈as
   ·r iteNP c2 ?_
    !⟨_,_,_,xs,as,rfl,s3.trans s34,s34 _ _ e3,s34 _ _ hL,pl2,by w,ok⟩
   ·r iteNN c2 ?_
    r⟨_,rfl,.inl ⟨rfl,_,SqL.of (s34 _ _ hL)⟩,_,rfl,_,rfl,(by show 2<=sizeLine; decide),fun t3 ht3=>?_⟩;h st3:=Same.new ht3 (.tup [.int one,.int oth]);h hL5:=st3 _ _ (s34 _ _ hL);h lxs:xs.length=as.length:=(Paired.length pl).symm;r⟨l,xs,_,rfl,rfl,hL5,Ay ¢,?_⟩;h nl:∀ b o,H b=some o->b≠l:=fun b o e=>Ag e hl;r⟨_,_,_,_,as++[[one,oth]],rfl,fun b o e=>?_,?_,Ab,?_,?_,ok.snoc okt c1 c2⟩
    ·rw[Af (nl b o e)]
     !st3 _ _ (s34 _ _ (s3 b o e))
    ·have:l2≠l:=fun e=>by
      rw[e] at n2;rw[Ab] at n2;cases n2
     rw[Af this];!st3 _ _ (s34 _ _ e3)
    ·h ts:=TSm.lst (o:=.lst (xs++[.ref t3])) hL5
     h r3:rPair K (upd H4 t3 (.tup [.int one,.int oth])) [one,oth] (.ref t3):=Es Ab;!Paired.app (Paired.imp (fun a b=>Aq Az _ _ a b (st3.ts.trans ts)) pl2) (Paired.one (Aq Az _ _ _ _ ts r3))
    ·rw[List.length_append,List.length_singleton]
     w
 ·rintro σ H3 ⟨v4,v5,v6,xs,as,rfl,s3,e3,hL,pl,hlen,ok⟩
  r⟨_,rfl,_,rfl,(by show 2<=sizeLine; decide),fun t ht=>?_⟩;h st:=Same.new ht (.tup [.int z,.ref l]);r q t l z xs as _ (s3.trans st) Ab (st _ _ hL) hl (Paired.imp (fun a b=>Aq Az _ _ a b st.ts) pl) z1 z10 ¢ ok
end
abbrev rRow(K:¨)(H:Hp)(s:Addr)(ms:List Int):Prop:=SqL K H s (ms.map V.int)\/SqT K H s (ms.map V.int)
theorem rRow.same{K:¨}{H H':Hp}{s:Addr}{ms:List Int}(h:rRow K H s ms)(e:Same H H'):rRow K H' s ms:=h.elim (fun z=>.inl (e.seq z)) fun z=>.inr (e.ts.seq z)
def Td(K:¨):Sp:=fun vs H Q _=>∃(l s:Addr) (ns ms:List Int),vs=[.ref l,.ref s]/\SqL K H l ⑭/\rRow K H s ms/\ns.length<=12 /\
 ∀(D:Addr) (H':Hp),Same H H'->H D=none->H' D=some (.lst ((ns.filter fun k=>decide (k∈ms)).map V.int))->Q (.ref D) H'
def cnts(as:List ⑧)(ms:List Int):Nat->List Int
 | 0=>[]
 | i+1=>cnts as ms i++[(((hits (i:Int) as).filter fun k=>decide (k∈ms)).length:Int)]
theorem Ks(as:List ⑧)(ms:List Int):∀ i,(cnts as ms i).length=i
 | 0=>rfl
 | i+1=>by
  show (cnts as ms i++_).length=_;rw[List.length_append,Ks as ms i];rfl
def Qo(K:¨)(C:Addr):Sp:=fun vs H Q _=>∃(p s:Addr) (z:Int) (as:List ⑧) (ms:List Int),vs=[.ref p,.ref s]/\WebAt K C H p z as/\rRow K H s ms/\1<=z/\z<=10/\as.length<=12 /\
 ∀(D:Addr) (H':Hp),Same H H'->H D=none->H' D=some (.lst ((cnts as ms z.toNat).map V.int))->Q (.ref D) H'
theorem int_at{ns:List Int}{i:Nat}{y:V}(h:⑭[i]?=some y):∃ u,ns[i]?=some u/\y=.int u:=by
 rw[List.getElem?_map] at h;cases e:ns[i]? with
 | none=>rw[e] at h; cases h
 | some u=>rw[e] at h; !⟨u,rfl,(Option.some.inj h).symm⟩
theorem take_snoc{α:Type}{l:List α}{i:Nat}{x:α}(h:l[i]?=some x):l.take (i+1)=l.take i++[x]:=by rw[List.take_add_one,h]; rfl
theorem JZ(ms:List Int):(ms.map V.int).all flatV=true:=by
 rw[List.all_eq_true];intro x hx;o⟨i,_,rfl⟩:=List.mem_map.mp hx;rfl
section
variable{P:Program}{w:World}{K:¨}{mg:Str->Option Value}{base:Heap}{f C:Addr}{fd:FuncData}
theorem ZV:FnScope ["numbers", "some"] ["numbers", "some"] (Ac Fd):=¡
theorem Yk(F:Fun K "ties_within" "ties_within" Fd f fd):FnOk P w K mg base CX0 1 f fd ["numbers", "some"] (Td K):=by
 r F.ok ZV § ¦
 ·o⟨l,so,ns,ms,rfl,_⟩:=h
  rfl
 o⟨l,so,ns,ms,rfl,hl,hso,h12,q⟩:=h;r⟨_,Aj (Av (Ca (Ac Fd) ["number"] ["some"] [1] rfl rfl £ ⟨⟨rfl,£⟩,trivial⟩ (Bv (pv 0))
   (fun _ _ _=>Am (i:=0) (show ((["number"]:List Str)++(["some"]:List Str)).Nodup by decide +kernel) rfl ④)
   (fun _ _ _=>Dg (Ar (Fg (K:=K) rfl) (pv 0) (pv 1) rfl))
   (fun _ _ _=>pv 0))),?_⟩
 r⟨_,rfl,l,rfl,⟨_,hl⟩,fun D hD=>?_⟩;r Ck (xs:=ns.map V.int) (fun i τ H2=>∃ n:Option V,τ=[n,some (.ref so)]/\Same H H2/\H2 D=some (.lst (((ns.take i).filter fun k=>decide (k∈ms)).map V.int))) ⟨none,rfl,Same.new hD _,Ab⟩
  (fun i τ H2 _ ⟨_,_,sm,_⟩=>sm.seq hl) ?_ ?_
 ·rintro i y τ H2 hy ⟨n,rfl,sm,hD2⟩
  o⟨u,hu,rfl⟩:=int_at hy;r⟨_,rfl,_,rfl,so,ms.map V.int,rfl,hso.same sm,rfl,JZ ms,_,rfl,?_⟩;rw[if_neg (show ¬ (false=true) by decide),EY];show putD D _ _ _ (decide (u∈ms)) _;h ef:(ns.take (i+1)).filter (fun k=>decide (k∈ms))=(ns.take i).filter (fun k=>decide (k∈ms))++(if u∈ms then [u] else []):=by
   rw[take_snoc hu,List.filter_append];by_cases c:u∈ms<;>simp[c]
  by_cases c:u∈ms
  ·r iteP c ⟨_,rfl,_,hD2,?_,_,rfl,fun b o e=>?_,?_⟩
   ·have:=List.length_filter_le (fun k=>decide (k∈ms)) (ns.take i)
    rw[List.length_take] at this;rw[List.length_map];!Ay ¢
   ·rw[Af (Ag e hD)]
    !sm b o e
   ·rw[Ab,ef,if_pos c,List.map_append]
    rfl
  ·r iteN c ⟨_,rfl,sm,?_⟩
   rw[hD2,ef,if_neg c,List.append_nil]
 ·rintro τ H2 ⟨n,rfl,sm,hD2⟩
  rw[List.length_map,List.take_length] at hD2;!q D H2 sm hD hD2
theorem ZC:FnScope ["web", "some"] ["web", "some"] (Ac Fi):=¡
theorem Wt{fS fA fW:Addr}{fdS fdA fdW:FuncData}(F:Fun K "tie_counts" "tie_counts" Fi f fd)(T:Txt K mg C)
  (GS:FnOk P w K mg base CX0 1 fS fdS ["self"] (Ow K C)) (bS:Binds K fdS ["self"] []) (mS:Meth K C "size" fS)
  (GA:FnOk P w K mg base CX0 1 fA fdA ["self", "point"] (ADT K C)) (bA:Binds K fdA ["self", "point"] []) (mA:Meth K C "at" fA)
  (GW:FnOk P w K mg base CX0 1 fW fdW ["numbers", "some"] (Td K)) (bW:Binds K fdW ["numbers", "some"] []) (kW:© K (.ref fW)=true) (mW:mg "ties_within" = some (.ref fW)) :
  FnOk P w K mg base CX0 2 f fd ["web", "some"] (Qo K C):=by
 r F.ok ZC § ¦
 ·o⟨p,sm,z,as,ms,rfl,_⟩:=h
  rfl
 o⟨p,so,z,as,ms,rfl,hW,hso,z1,z10,h12,q⟩:=h;r⟨_,Aj (Av (Ca (Ac Fi) ["point"] ["web", "some"] [0,1] rfl rfl £ ⟨⟨rfl,£⟩,⟨rfl,£⟩,trivial⟩ (Cm rfl T.range (Aa (Bo (pv 0) T.cl mS GS hr bS .nil pass0) Ad))
   (fun _ _ _=>Am (i:=0) (show ((["point"]:List Str)++(["web", "some"]:List Str)).Nodup by decide +kernel) rfl ④)
   (fun _ _ _=>Cg)
   (fun _ _ _=>BL (HF (K:=K) rfl) rfl T.len PySem.boot_len (Aa (BP GW hr rfl mW kW bW .nil pass0 (Aa (CJ (pv 1) T.cl mA GA hr bA .nil pass0 (Aa (pv 0) Ad)) (Aa (pv 2) Ad))) Ad)))),?_⟩
 o⟨dx,j,hP,_⟩:=id hW;r⟨_,rfl,p,dx,_,rfl,hP,Ei _ _ £ £,p,z,_,rfl,hW,?_⟩;r⟨z,rfl,by w,by w,fun D hD=>?_⟩;r Cj (lo:=0) (n:=z.toNat) (fun i τ H2=>∃(n:Option V),τ=[n,some (.ref p),some (.ref so)]/\Same H H2/\H2 D=some (.lst ((cnts as ms i).map V.int))) ⟨none,rfl,Same.new hD _,Ab⟩ ?_ ?_
 ·rintro i τ H2 hi ⟨n,rfl,s2,e2⟩
  h ei:(0:Int)+(i:Int)=(i:Int):=by w
  rw[ei];r yesN ?_;h hW2:=hW.same s2;o⟨dx2,j2,hP2,_⟩:=id hW2;r⟨_,rfl,p,dx2,_,rfl,hP2,Ei _ _ £ £,_,rfl,p,z,_,as,rfl,hW2,h12,fun l3 H3 s3 n3 e3=>?_⟩;h hl:=Ht (i:Int) 0 as;r⟨_,rfl,l3,so,hits (i:Int) as,ms,rfl,SqL.of e3,hso.same (s2.trans s3),Nat.le_trans hl h12,fun D4 H4 s4 n4 e4=>?_⟩;r⟨D4,_,rfl,.inl (SqL.of e4),_,s4 _ _ (s3 _ _ e2),?_,_,rfl,fun b o e=>?_,?_⟩
  ·rw[List.length_map,Ks]
   !Ay ¢
  ·rw[Af (Ag e hD)]
   !s4 _ _ (s3 _ _ (s2 b o e))
  ·rw[Ab,List.length_map]
   show _=some (HO.lst ((cnts as ms i++[(((hits (i:Int) as).filter fun k=>decide (k∈ms)).length:Int)]).map V.int));rw[List.map_append];rfl
 ·rintro τ H2 ⟨n,rfl,s2,e2⟩
  !q D H2 s2 hD e2
end
end K53
end
section
namespace RT
open PySem
theorem noMul:fillsNumberSlot (.type "tuple") "mul" = pure false:=fillsNumberSlot_seq (id:="tuple.__mul__") (r:=some (.builtin "tuple.__rmul__")) PySem.F.slot_tuple_mul.lookup £ PySem.F.slot_tuple_rmul.lookup £
theorem reps:seqRepeat? (.type "tuple")=pure (some (.builtin "tuple.__mul__")):=by
 unfold seqRepeat?;rw[seqSlot_of (T:="tuple") (name:="__mul__") (id:="tuple.__mul__") PySem.F.slot_tuple_mul.lookup £,seqSlot_of (T:="tuple") (name:="__rmul__") (id:="tuple.__rmul__") PySem.F.slot_tuple_rmul.lookup £];rfl
theorem declines(a:Int)(t:Tok)(l:Addr)(c:Nat)(its:Array Value)(dc:Option Addr)(sl:Array ⑦) :
  Meets (Builtin.«int.__rmul__» ⟨[.int a t,.ref l],[]⟩) (fun _ R s=>s.heap.get? l=some {cls:=.type "tuple",dict:=dc,data:=.seq its c,slots:=sl}/\R (.ok (.ret Value.notImplemented)) s) :=
 .of_wp fun P w A R s h=>by
  o⟨hp,g,d,tk,os⟩:=s;o⟨hl,h⟩:=h
  wp_walk
  !⟨_,rfl,h⟩
theorem times(l:Addr)(c:Nat)(its:List Value)(dc:Option Addr)(sl:Array ⑦)(k:Int)(t:Tok)(k1:1<k)(k2:k<100)(ne:its≠[])(small:its.length<100) :
  Meets (Builtin.«tuple.__mul__» ⟨[.ref l,.int k t],[]⟩) (fun _ R s=>s.heap.get? l=some {cls:=.type "tuple",dict:=dc,data:=.seq its.toArray c,slots:=sl} /\
   R (.ok (.ret (.ref ¸))) {s with heap:=s.heap.push {cls:=.type "tuple",data:=.seq (List.replicate k.toNat its).flatten.toArray}}) :=
 .of_wp fun P w A R s h=>by
  o⟨hp,g,d,tk,os⟩:=s;o⟨hl,h⟩:=h;h ie:its.toArray.isEmpty=false:=by cases its with
   | nil=>!absurd rfl ne
   | cons=>rfl
  h sz:its.toArray.size=its.length:=by simp
  h c1:¬ (decide (k < -2 ^ 63)||decide (k >= 2 ^ 63))=true:=by
   rw[decide_eq_false ¢,decide_eq_false ¢];!Bool.false_ne_true
  h c2:¬ (its.toArray.isEmpty||k==1)=true:=by
   rw[ie,Bool.false_or];intro z;have:=eq_of_beq z;w
  h c3:¬ (decide (k<=0)||its.toArray.isEmpty)=true:=by
   rw[ie,Bool.or_false,decide_eq_false ¢];!Bool.false_ne_true
  h le:(its.toArray.size:Int)*k<=100*100:=Int.mul_le_mul ¢ ¢ ¢ ¤;h c4:¬ (its.toArray.size:Int)*k>(2 ^ 63-1) / 8:=by w
  h c5:¬ Builtin.Tuple.tupleTooMany ((its.toArray.size:Int)*k)=true:=by
   unfold Builtin.Tuple.tupleTooMany;intro z;have:=of_decide_eq_true z;h hs:(sizeLine:Nat)=16777216:=rfl;w
  h fl:List.foldl (fun x1 x2=>x1++x2) #[] (List.replicate k.toNat its.toArray)=(List.replicate k.toNat its).flatten.toArray:=by
   have:=L2.foldl_rep its k.toNat [];rw[List.nil_append] at this;!this
  h ln:(List.replicate k.toNat its).flatten.length<=sizeLine:=by
   rw[L2.len_rep];have:k.toNat*its.length<=100*100:=Nat.mul_le_mul ¢ ¢;!Nat.le_trans this ¤
  wp_walk
  rw[if_neg c1];r wpAny_bind (wpAny_tupleItemsOf hl rfl ?_);show wpAny _ _ (if (its.toArray.isEmpty||k==1)=true then _ else _) _ _ _;rw[if_neg c2];show wpAny _ _ (if (decide (k<=0)||its.toArray.isEmpty)=true then _ else _) _ _ _;rw[if_neg c3];show wpAny _ _ (if (its.toArray.size:Int)*k>(2 ^ 63-1) / 8 then _ else _) _ _ _;rw[if_neg c4];show wpAny _ _ (if Builtin.Tuple.tupleTooMany ((its.toArray.size:Int)*k)=true then _ else _) _ _ _;rw[if_neg c5];show wpAny _ _ (Builtin.Tuple.tupleExact _ >>= _) _ _ _;unfold Builtin.Tuple.tupleExact;rw[fl];r wpAny_bind (wpAny_newObj_type (hd:=?_) (wpAny_pure ⟨_,rfl,h⟩));show (List.replicate k.toNat its).flatten.toArray.size<=sizeLine;rw[List.size_toArray];!ln
theorem once(l:Addr)(c:Nat)(its:List Value)(dc:Option Addr)(sl:Array ⑦)(t:Tok) :
  Meets (Builtin.«tuple.__mul__» ⟨[.ref l,.int 1 t],[]⟩) (fun _ R s=>s.heap.get? l=some {cls:=.type "tuple",dict:=dc,data:=.seq its.toArray c,slots:=sl}/\R (.ok (.ret (.ref l))) s) :=
 .of_wp fun P w A R s h=>by
  o⟨hp,g,d,tk,os⟩:=s;o⟨hl,h⟩:=h
  wp_walk
  !⟨_,rfl,h⟩
end RT
namespace L2
open PySem
section
variable{X:Cx}
def rRepT:R2:=fun x y H Q=>∃ l k xs,x=.ref l/\y=.int k/\H l=some (.tup xs)/\1<=k/\k<100/\xs≠[]/\xs.length<100 /\
 (k=1->Q (.ref l) H)/\(1<k->∀ p,H p=none->Q (.ref p) (upd H p (.tup (List.replicate k.toNat xs).flatten)))
theorem ACd:OpR X (binaryOp .Mult) rRepT:=by
 intro pins s σ H x y v u Q I rx ry h;o⟨l,k,xs,rfl,rfl,hH,h1,h2,ne,sm,q1,q2⟩:=h;cases rx;o⟨t,rfl⟩:=ry;o⟨z,its,r,⟨⟨oc,od,odt,osl⟩,e,hc,c,hd⟩⟩:=(show ObjOk X.prog X.w H s.heap l (.tup xs) from I.hok l _ hH);dsimp only at hc hd;subst hc hd;h lr:=r.length;h ne':its≠[]:=fun z=>by rw[z] at lr; !ne (List.length_eq_zero_iff.mp (by simpa using lr))
 r wpAny_binaryOp_repeat_ref (T:="tuple") (U:="int") ¤ ⟨_,e,rfl⟩ (fun s'=>typeIs_int s' k t) RT.noMul PySem.F.fills_int_mul PySem.F.slot_int_rmul RT.reps PySem.F.slot_int_index.lookup
  (call_meets PySem.F.slot_int_rmul (typeIs_int s k t) PySem.F.entry_int_rmul (PySem.F.args_int_rmul_2 _ _) (RT.declines k t l c its.toArray od osl) ⟨e,rfl,⟨_,e,rfl⟩,?_⟩)
 by_cases c1:k=1
 ·subst c1
  r call_meets PySem.F.slot_tuple_mul ⟨_,e,rfl⟩ PySem.F.entry_tuple_mul (PySem.F.args_tuple_mul_2 _ _) (RT.once l c its od osl t) ⟨e,?_⟩;!⟨.ref l,H,I,rfl,q1 rfl⟩
 ·r call_meets PySem.F.slot_tuple_mul ⟨_,e,rfl⟩ PySem.F.entry_tuple_mul (PySem.F.args_tuple_mul_2 _ _) (RT.times l c its od osl k t ¢ h2 ne' ¢) ⟨e,?_⟩
  h hf:H ¸=none:=I.hok.fresh ③;r⟨.ref ¸,_,I.laid (t':=s.toks) (o:=.tup (List.replicate k.toNat xs).flatten) (fun b u e=>° _ e) ③ ?_,rfl,q2 ¢ _ hf⟩;r⟨?_,(List.replicate k.toNat its).flatten,r.rep k.toNat,⟨_,¿ _ rfl,rfl,_,rfl⟩⟩;rw[len_rep];have:k.toNat*xs.length<=100*100:=Nat.mul_le_mul ¢ ¢;!Nat.le_trans this ¤
end
end L2
end
section
namespace G
abbrev Row:=Nat×Nat×Nat
def Low(rows:List Row)(t k l:Nat):Prop:=l<k/\(l<=1\/∃ r,rows[l-2]?=some r/\t<r.1)
def Ok(n:Nat)(rows:List Row):Prop:=∀(i:Nat) (r:Row),rows[i]?=some r->r.1<n/\Low rows r.1 (i+2) r.2.1/\Low rows r.1 (i+2) r.2.2
structure Least(n:Nat)(rows:List Row):Prop where
 ok:Ok n rows
 pos:∀(i:Nat) (r:Row),rows[i]?=some r->r.2.2≠0
 one:∀(i j:Nat) (r:Row),rows[i]?=some r->rows[j]?=some r->i=j
def rank(n:Nat)(rows:List Row)(k:Nat):Nat:=if k<2 then n+1-k else ÷.1
def ledF(rows:List Row):Nat->Nat->List Nat->Bool
 | 0,_,_=>false
 | f+1,k,s=>if k<=1 then decide (k=1/\s=[]) else
  let r:=rows.getD (k-2) (0,0,0)
  match s with
  | []=>ledF rows f r.2.1 []
  | x::xs=>if x<r.1 then false else if x=r.1 then ledF rows f r.2.2 xs else ledF rows f r.2.1 (x::xs)
def led(rows:List Row)(k:Nat)(s:List Nat):Bool:=ledF rows (k+1) k s
def Knot(rows:List Row)(k:Nat):Prop:=k<rows.length+2
section
variable{n:Nat}{rows:List Row}
theorem Bg{k:Nat}(h:Knot rows k)(h2:2<=k):rows[k-2]?=some ÷:=by
 have:k-2<rows.length:=by unfold Knot at h; w
 rw[± this,¯,± this];rfl
theorem Ok.low(o:Ok n rows){i:Nat}{r:Row}(h:rows[i]?=some r):r.1<n/\r.2.1<i+2/\r.2.2<i+2/\r.1<rank n rows r.2.1/\r.1<rank n rows r.2.2/\Knot rows r.2.1/\Knot rows r.2.2:=by
 o⟨h1,h2,h3⟩:=o i r h;h hi:i<rows.length:=(List.getElem?_eq_some_iff.mp h).1;h rk:∀ l,Low rows r.1 (i+2) l->r.1<rank n rows l/\Knot rows l:=by
  intro l hl;o⟨a,b⟩:=hl;r⟨?_,by unfold Knot; w⟩;unfold rank;by_cases c:l<2
  ·rw[if_pos c]; w
  ·rw[if_neg c]
   rcases b with b | ⟨r',e,z⟩
   ·w
   ·rw[¯,e]; !z
 !⟨h1,h2.1,h3.1,(rk _ h2).1,(rk _ h3).1,(rk _ h2).2,(rk _ h3).2⟩
theorem Yc(o:Ok n rows):∀(f k:Nat) (s:List Nat),k<f->Knot rows k->ledF rows (f+1) k s=ledF rows f k s:=by
 intro f
 induction f with
 | zero=>intro k s h; w
 | succ f ih =>
  intro k s hk kn;unfold ledF;by_cases c:k<=1
  ·rw[if_pos c,if_pos c]
  rw[if_neg c,if_neg c];o⟨h1,h2,h3,_,_,k1,k2⟩:=o.low (Bg kn ¢);h e1:∀ s,ledF rows (f+1) ÷.2.1 s=ledF rows f ÷.2.1 s:=fun s=>ih _ _ ¢ k1;h e2:∀ s,ledF rows (f+1) ÷.2.2 s=ledF rows f ÷.2.2 s:=fun s=>ih _ _ ¢ k2;cases s with
  | nil=>!e1 _
  | cons x xs =>
   show (if _ then _ else if _ then ledF rows (f+1) _ _ else ledF rows (f+1) _ _)=_;rw[e1,e2]
theorem KC(o:Ok n rows){k:Nat}(s:List Nat)(kn:Knot rows k):∀ d,ledF rows (k+1+d) k s=led rows k s
 | 0=>rfl
 | d+1=>by rw[show k+1+(d+1)=(k+1+d)+1 by w,Yc o _ k s ¢ kn,KC o s kn d]
theorem Dy(s:List Nat):led rows 1 s=decide (s=[]):=by
 unfold led ledF;simp
theorem Cr(s:List Nat):led rows 0 s=false:=by
 unfold led ledF;simp
theorem Dq(o:Ok n rows){k:Nat}(kn:Knot rows k)(h2:2<=k):led rows k []=led rows ÷.2.1 []:=by
 o⟨h1,h2',h3,_,_,k1,k2⟩:=o.low (Bg kn h2);unfold led
 conv=>lhs; unfold ledF
 rw[if_neg ¢];have:=KC o [] k1 (k-÷.2.1-1);rw[show ÷.2.1+1+(k-÷.2.1-1)=k by w] at this;!this
theorem Bx(o:Ok n rows){k x:Nat}{xs:List Nat}(kn:Knot rows k)(h2:2<=k):led rows k (x::xs) =
  if x<÷.1 then false else if x=÷.1 then led rows ÷.2.2 xs else led rows ÷.2.1 (x::xs):=by
 o⟨h1,h2',h3,_,_,k1,k2⟩:=o.low (Bg kn h2);unfold led
 conv=>lhs; unfold ledF
 rw[if_neg ¢];h e1:=KC o (x::xs) k1 (k-÷.2.1-1);rw[show ÷.2.1+1+(k-÷.2.1-1)=k by w] at e1;h e2:=KC o xs k2 (k-÷.2.2-1);rw[show ÷.2.2+1+(k-÷.2.2-1)=k by w] at e2;show (if _ then _ else if _ then ledF rows k _ _ else ledF rows k _ _)=_;rw[e1,e2];rfl
def Way(n:Nat)(rows:List Row)(k:Nat)(s:List Nat):Prop:=led rows k s=true/\s.Pairwise (· < ·)/\∀ x∈s,x<n/\rank n rows k<=x
theorem Zc(L:Least n rows){k:Nat}{s:List Nat}(kn:Knot rows k)(h2:2<=k)(w:Way n rows ÷.2.2 s):Way n rows k (÷.1::s):=by
 o⟨w1,w2,w3⟩:=w;o⟨h1,h2',h3,r1,r2,k1,k2⟩:=L.ok.low (Bg kn h2);h rk:rank n rows k=÷.1:=by unfold rank; rw[if_neg ¢]
 r⟨?_,?_,?_⟩
 ·rw[Bx L.ok kn h2,if_neg ¢,if_pos rfl]; !w1
 ·!List.Pairwise.cons (fun x hx=>by have:=(w3 x hx).2; w) w2
 ·intro x hx
  rcases List.mem_cons.mp hx with rfl | hx
  ·!⟨h1,by w⟩
  ·have:=w3 x hx
   !⟨this.1,by w⟩
theorem ABw:Way n rows 1 []:=⟨by rw[Dy]; rfl,.nil,fun x hx=>nomatch hx⟩
structure Part(n:Nat)(rows:List Row)(a b:Nat)(u:Bool)(s:List Nat):Prop where
 asc:s.Pairwise (· < ·)
 lt:∀ x∈s,x<n
 ge:∀ m,m<=rank n rows a->m<=rank n rows b->∀ x∈s,m<=x
 la:led rows a s=u
 lb:led rows b s=!u
theorem off(o:Ok n rows){b x:Nat}{xs:List Nat}(kb:Knot rows b)(h:x<rank n rows b):led rows b (x::xs)=false:=by
 unfold rank at h;by_cases c:b<2
 ·h hb:b=0\/b=1:=by w
  rcases hb with rfl | rfl
  ·!Cr _
  ·rw[Dy]; rfl
 ·rw[if_neg c] at h
  rw[Bx o kb ¢,if_pos h]
end
section
variable{n t:Nat}{rows nums new:List Row}{rc:List Nat}{pl pl':Nat->Option Nat}
def tieOf(rows:List Row)(k:Nat):Nat:=÷.1
def outOf(rows:List Row)(k:Nat):Nat:=÷.2.1
def intoOf(rows:List Row)(k:Nat):Nat:=÷.2.2
structure Closed(rows:List Row)(rc:List Nat):Prop where
 two:∀ k∈rc,2<=k
 knot:∀ k∈rc,Knot rows k
 out:∀ k∈rc,outOf rows k<=1\/outOf rows k∈rc
 into:∀ k∈rc,intoOf rows k<=1\/intoOf rows k∈rc
structure Kept(n t:Nat)(rows:List Row)(rc:List Nat)(nums:List Row)(pl:Nat->Option Nat):Prop where
 least:Least n nums
 ge:∀ r∈nums,t<=r.1
 z:pl 0=some 0
 o:pl 1=some 1
 has:∀ k∈rc,t<=tieOf rows k->∃ p,pl k=some p/\Knot nums p/\tieOf rows k<=rank n nums p
theorem XR(hn:∀ k∈rc,tieOf rows k<n):Kept n n rows rc [] (fun k=>if k=0 then some 0 else if k=1 then some 1 else none) :=
 ⟨⟨fun i r h=>by simp at h,fun i r h=>by simp at h,fun i j r h=>by simp at h⟩,fun r h=>(nomatch h),rfl,rfl,fun k hk h=>absurd (hn k hk) ¢⟩
theorem Lb{p:Nat}(h:Knot nums p):rank n (nums++new) p=rank n nums p:=by
 unfold rank;by_cases c:p<2
 ·rw[if_pos c,if_pos c]
 ·rw[if_neg c,if_neg c,¯,¯,List.getElem?_append_left (by unfold Knot at h; w)]
theorem Fw{p:Nat}(h:Knot nums p):Knot (nums++new) p:=by unfold Knot at *; rw[List.length_append]; w
theorem Kept.low(I:Kept n (t+1) rows rc nums pl)(o:Ok n rows)(hn:t<n){l:Nat}(h:l<=1\/l∈rc)(z:l<=1\/t<tieOf rows l):∃ p,pl l=some p/\Knot nums p/\t<rank n nums p:=by
 rcases Nat.lt_or_ge l 2 with c | c
 ·h e:l=0\/l=1:=by w
  rcases e with rfl | rfl
  ·!⟨0,I.z,by unfold Knot; w,by unfold rank; rw[if_pos ¤]; w⟩
  ·!⟨1,I.o,by unfold Knot; w,by unfold rank; rw[if_pos ¤]; w⟩
 ·h hr:l∈rc:=h.resolve_left ¢
  h hz:t<tieOf rows l:=z.resolve_left ¢;o⟨p,h1,h2,h3⟩:=I.has l hr hz;!⟨p,h1,h2,by w⟩
def rowIn(rows:List Row)(pl:Nat->Option Nat)(k:Nat):Row:=(tieOf rows k,(pl (outOf rows k)).getD 0,(pl (intoOf rows k)).getD 0)
theorem Closed.low(c:Closed rows rc)(o:Ok n rows){k:Nat}(h:k∈rc):tieOf rows k<n/\(outOf rows k<=1\/tieOf rows k<tieOf rows (outOf rows k))/\(intoOf rows k<=1\/tieOf rows k<tieOf rows (intoOf rows k)):=by
 o⟨h1,h2,h3⟩:=o _ _ (Bg (c.knot k h) (c.two k h));r⟨h1,h2.2.imp id fun⟨r,e,z⟩=>?_,h3.2.imp id fun⟨r,e,z⟩=>?_⟩
 ·show ÷.1<(rows.getD (÷.2.1-2) (0,0,0)).1
  rw[List.getD_eq_getElem?_getD (l:=rows) (i:=÷.2.1-2),e];!z
 ·show ÷.1<(rows.getD (÷.2.2-2) (0,0,0)).1
  rw[List.getD_eq_getElem?_getD (l:=rows) (i:=÷.2.2-2),e];!z
theorem Kept.row(I:Kept n (t+1) rows rc nums pl)(c:Closed rows rc)(o:Ok n rows)(hn:t<n){k:Nat}(h:k∈rc)(ht:tieOf rows k=t) :
  ∃ a b,pl (outOf rows k)=some a/\pl (intoOf rows k)=some b/\rowIn rows pl k=(t,a,b)/\Knot nums a/\Knot nums b/\t<rank n nums a/\t<rank n nums b:=by
 o⟨_,z1,z2⟩:=c.low o h;o⟨a,a1,a2,a3⟩:=I.low o hn (c.out k h) (by rw[<- ht]; !z1);o⟨b,b1,b2,b3⟩:=I.low o hn (c.into k h) (by rw[<- ht]; !z2);!⟨a,b,a1,b1,by unfold rowIn; rw[a1,b1,ht]; rfl,a2,b2,a3,b3⟩
theorem AAu{p k:Nat}(h:Knot nums p)(hk:nums.length+2<=k)(z:t<rank n nums p):Low (nums++new) t k p:=by
 r⟨by unfold Knot at h; w,?_⟩;rcases Nat.lt_or_ge p 2 with c | c
 ·!.inl ¢
 ·r .inr ⟨nums.getD (p-2) (0,0,0),?_,?_⟩
  ·rw[List.getElem?_append_left (by unfold Knot at h; w)]
   !Bg h c
  ·unfold rank at z
   rw[if_neg ¢] at z;!z
theorem Kept.step(I:Kept n (t+1) rows rc nums pl)(c:Closed rows rc)(o:Ok n rows)(hn:t<n)(hw:∀ r,r∈new->∃ k,k∈rc/\tieOf rows k=t/\r=rowIn rows pl k/\r.2.2≠0)(nd:new.Nodup)
  (h1:∀ k,k∉rc\/tieOf rows k≠t->pl' k=pl k)
  (h2:∀ k∈rc,tieOf rows k=t->∃ p,pl' k=some p/\((∃ i,(nums++new)[i]?=some ⑫/\p=i+2)\/(rowIn rows pl k∉nums++new/\p=⑫.2.1))) :
  Kept n t rows rc (nums++new) pl':=by
 h at_new:∀(i:Nat) (r:Row),nums.length<=i->(nums++new)[i]?=some r->new[i-nums.length]?=some r:=fun i r hi e=>by rw[List.getElem?_append_right hi] at e; !e
 h at_old:∀(i:Nat) (r:Row),i<nums.length->(nums++new)[i]?=some r->nums[i]?=some r:=fun i r hi e=>by rw[List.getElem?_append_left hi] at e; !e
 h tn:∀ r∈new,∃ a b,r=(t,a,b)/\b≠0/\Knot nums a/\Knot nums b/\t<rank n nums a/\t<rank n nums b:=fun r hr=>by
  o⟨k,k1,k2,k3,k4⟩:=hw r hr;o⟨a,b,_,_,e,x1,x2,x3,x4⟩:=I.row c o hn k1 k2;rw[e] at k3;r⟨a,b,k3,?_,x1,x2,x3,x4⟩;rw[k3] at k4;!k4
 h two:∀ k∈rc,k≠0/\k≠1:=fun k hk=>by have:=c.two k hk; w
 r⟨⟨?_,?_,?_⟩,?_,?_,?_,?_⟩
 ·intro i r e
  rcases Nat.lt_or_ge i nums.length with hi | hi
  ·o⟨z1,z2,z3⟩:=I.least.ok i r (at_old i r hi e)
   r⟨z1,⟨z2.1,z2.2.imp id fun⟨q,e,z⟩=>⟨q,?_,z⟩⟩,⟨z3.1,z3.2.imp id fun⟨q,e,z⟩=>⟨q,?_,z⟩⟩⟩
   ·rw[List.getElem?_append_left (by have:=(List.getElem?_eq_some_iff.mp e).1; w)]; !e
   ·rw[List.getElem?_append_left (by have:=(List.getElem?_eq_some_iff.mp e).1; w)]; !e
  ·o⟨a,b,rfl,_,x1,x2,x3,x4⟩:=tn r (List.mem_of_getElem? (at_new i r hi e))
   !⟨hn,AAu x1 ¢ x3,AAu x2 ¢ x4⟩
 ·intro i r e
  rcases Nat.lt_or_ge i nums.length with hi | hi
  ·!I.least.pos i r (at_old i r hi e)
  ·o⟨a,b,rfl,x,_⟩:=tn r (List.mem_of_getElem? (at_new i r hi e))
   !x
 ·intro i j r e1 e2
  h cross:∀(i j:Nat),i<nums.length->nums.length<=j->(nums++new)[i]?=some r->(nums++new)[j]?=some r->False:=fun i j hi hj e1 e2=>by
   h g:=I.ge r (List.mem_of_getElem? (at_old i r hi e1));o⟨a,b,rfl,_⟩:=tn r (List.mem_of_getElem? (at_new j r hj e2));h g':t+1<=t:=g;w
  rcases Nat.lt_or_ge i nums.length with hi | hi
  ·rcases Nat.lt_or_ge j nums.length with hj | hj
   ·!I.least.one i j r (at_old i r hi e1) (at_old j r hj e2)
   ·!(cross i j hi hj e1 e2).elim
  ·rcases Nat.lt_or_ge j nums.length with hj | hj
   ·!(cross j i hj hi e2 e1).elim
   ·h a1:=at_new i r hi e1
    h a2:=at_new j r hj e2;have:=(List.getElem?_inj (List.getElem?_eq_some_iff.mp a1).1 nd).mp (a1.trans a2.symm);w
 ·intro r hr
  rcases List.mem_append.mp hr with hr | hr
  ·have:=I.ge r hr; w
  ·o⟨a,b,rfl,_⟩:=tn r hr
   !Nat.le_refl t
 ·rw[h1 0 (.inl fun h=>(two 0 h).1 rfl)]; !I.z
 ·rw[h1 1 (.inl fun h=>(two 1 h).2 rfl)]; !I.o
 ·intro k hk hk2
  by_cases e:tieOf rows k=t
  ·o⟨p,p1,p2⟩:=h2 k hk e
   r⟨p,p1,?_⟩;o⟨a,b,_,_,re,x1,x2,x3,x4⟩:=I.row c o hn hk e;rcases p2 with⟨i,i1,rfl⟩ | ⟨i1,rfl⟩
   ·h il:=(List.getElem?_eq_some_iff.mp i1).1
    r⟨by unfold Knot; w,?_⟩;unfold rank;rw[if_neg ¢,Nat.add_sub_cancel,¯,i1,re];show tieOf rows k<=t;w
   ·rw[re]
    r⟨Fw x1,?_⟩;rw[Lb x1,e];!Nat.le_of_lt x3
  ·o⟨p,p1,p2,p3⟩:=I.has k hk ¢
   !⟨p,by rw[h1 k (.inr e)]; !p1,Fw p2,by rw[Lb p2]; !p3⟩
end
structure SetsOk(n lo:Nat)(ss:List ⑧):Prop where
 nd:ss.Nodup
 asc:∀ s∈ss,s.Pairwise (· < ·)
 rng:∀ s∈ss,∀ x∈s,(lo:Int)<=x/\x<n
section
variable{n lo d t k1 k2 m1 m2 m:Nat}{ss:List ⑧}{rows more more1 more2:List Row}
structure Made(n lo d:Nat)(rows more:List Row)(k m:Nat):Prop where
 ok:Ok n (rows++more)
 kn:Knot (rows++more) k
 up:k<=1\/lo<=tieOf (rows++more) k
 ge:∀ r∈more,lo<=r.1
 cnt:∀ t,(more.filter fun r=>decide (r.1=t)).length<=m
 len:more.length<=d*m
theorem Jz{l k:Nat}(h:Low rows t k l):Low (rows++more) t k l:=⟨h.1,h.2.imp id fun⟨q,e,z⟩=>⟨q,by rw[List.getElem?_append_left (List.getElem?_eq_some_iff.mp e).1]; !e,z⟩⟩
theorem ADz(o:Ok n rows)(ht:t<n)(h1:Low rows t (rows.length+2) k1)(h2:Low rows t (rows.length+2) k2):Ok n (rows++[(t,k1,k2)]):=by
 intro j r e;rcases Nat.lt_or_ge j rows.length with c | c
 ·rw[List.getElem?_append_left c] at e
  o⟨z1,z2,z3⟩:=o j r e;!⟨z1,Jz z2,Jz z3⟩
 ·rw[List.getElem?_append_right c] at e
  h j0:j=rows.length:=by
   have:=(List.getElem?_eq_some_iff.mp e).1;simp at this;w
  subst j0;rw[Nat.sub_self] at e;cases e;!⟨ht,Jz h1,Jz h2⟩
theorem TQ{k:Nat}(kn:Knot rows k)(up:k<=1\/t+1<=tieOf rows k):Low rows t (rows.length+2) k:=by
 r⟨kn,?_⟩;rcases Nat.lt_or_ge k 2 with c | c
 ·!.inl ¢
 ·!.inr ⟨_,Bg kn c,by have:=up.resolve_left ¢; unfold tieOf at this; w⟩
theorem ACa{k:Nat}(kn:Knot rows k)(h2:2<=k):tieOf (rows++more) k=tieOf rows k:=by
 unfold tieOf;rw[¯,¯,List.getElem?_append_left (by unfold Knot at kn; w)]
end
section
variable{n t:Nat}{rows nums new more:List Row}{rc:List Nat}{pl pl':Nat->Option Nat}
theorem AAs(o:Ok n rows):∀(f k:Nat) (s:List Nat),Knot rows k->ledF (rows++more) f k s=ledF rows f k s:=by
 intro f
 induction f with
 | zero=>intro k s h; rfl
 | succ f ih =>
  intro k s kn;unfold ledF;by_cases c:k<=1
  ·rw[if_pos c,if_pos c]
  rw[if_neg c,if_neg c];h eg:(rows++more).getD (k-2) (0,0,0)=rows.getD (k-2) (0,0,0):=by
   rw[¯,¯,List.getElem?_append_left (by unfold Knot at kn; w)]
  o⟨h1,h2,h3,_,_,k1,k2⟩:=o.low (Bg kn ¢);rw[eg];cases s with
  | nil=>!ih _ _ k1
  | cons x xs =>
   show (if _ then _ else if _ then ledF (rows++more) f _ _ else ledF (rows++more) f _ _)=_;rw[ih _ _ k1,ih _ _ k2]
theorem Dd(o:Ok n rows){k:Nat}(s:List Nat)(kn:Knot rows k):led (rows++more) k s=led rows k s:=AAs o _ _ _ kn
def RowLt(a b:Row):Prop:=b.1<a.1\/(a.1=b.1/\(a.2.1<b.2.1\/(a.2.1=b.2.1/\a.2.2<b.2.2)))
structure Kept2(n t:Nat)(rows:List Row)(rc:List Nat)(nums:List Row)(pl:Nat->Option Nat):Prop where
 base:Kept n t rows rc nums pl
 sem:∀ k∈rc,t<=tieOf rows k->∀ p,pl k=some p->∀ s,led nums p s=led rows k s
 img:∀ k∈rc,t<=tieOf rows k->∀ p,pl k=some p->(2<=p/\nums[p-2]?=some ⑫)\/(⑫.2.2=0/\p=⑫.2.1)
 sur:∀(i:Nat) (r:Row),nums[i]?=some r->∃ k∈rc,t<=tieOf rows k/\pl k=some (i+2)
 srt:nums.Pairwise RowLt
theorem Uj(hn:∀ k∈rc,tieOf rows k<n):Kept2 n n rows rc [] (fun k=>if k=0 then some 0 else if k=1 then some 1 else none) :=
 ⟨XR hn,fun k hk h=>absurd (hn k hk) ¢,fun k hk h=>absurd (hn k hk) ¢,fun i r h=>by simp at h,.nil⟩
theorem Ue(c:Closed rows rc)(o:Ok n rows)(h1:∀ k,k∉rc\/tieOf rows k≠t->pl' k=pl k){k:Nat}(hk:k∈rc)(ht:t<=tieOf rows k):rowIn rows pl' k=rowIn rows pl k:=by
 h two:∀ k,k<=1->k∉rc:=fun k h z=>by have:=c.two k z; w
 o⟨_,z1,z2⟩:=c.low o hk;h e1:pl' (outOf rows k)=pl (outOf rows k):=by
  rcases z1 with z | z
  ·!h1 _ (.inl (two _ z))
  ·!h1 _ (.inr ¢)
 h e2:pl' (intoOf rows k)=pl (intoOf rows k):=by
  rcases z2 with z | z
  ·!h1 _ (.inl (two _ z))
  ·!h1 _ (.inr ¢)
 unfold rowIn;rw[e1,e2]
theorem Kept2.low(I:Kept2 n (t+1) rows rc nums pl){l p:Nat}(h:l<=1\/l∈rc)(z:l<=1\/t<tieOf rows l)(hp:pl l=some p)(s:List Nat):led nums p s=led rows l s:=by
 rcases Nat.lt_or_ge l 2 with c | c
 ·h e:l=0\/l=1:=by w
  rcases e with rfl | rfl
  ·rw[I.base.z] at hp
   cases hp;rw[Cr,Cr]
  ·rw[I.base.o] at hp
   cases hp;rw[Dy,Dy]
 ·!I.sem l (h.resolve_left ¢) (z.resolve_left ¢) p hp s
theorem Kept2.step(I:Kept2 n (t+1) rows rc nums pl)(c:Closed rows rc)(o:Ok n rows)(hn:t<n)(hw:∀ r,r∈new->∃ k,k∈rc/\tieOf rows k=t/\r=rowIn rows pl k/\r.2.2≠0)(nd:new.Nodup)
  (hw2:∀ k∈rc,tieOf rows k=t->⑫.2.2≠0->rowIn rows pl k∈new) (so:new.Pairwise RowLt)
  (h1:∀ k,k∉rc\/tieOf rows k≠t->pl' k=pl k)
  (h2:∀ k∈rc,tieOf rows k=t->∃ p,pl' k=some p/\((∃ i,(nums++new)[i]?=some ⑫/\p=i+2)\/(rowIn rows pl k∉nums++new/\p=⑫.2.1))) :
  Kept2 n t rows rc (nums++new) pl':=by
 h B:=I.base.step c o hn hw nd h1 h2;h okN:=I.base.least.ok;h at_:∀ k∈rc,tieOf rows k=t->∀ p,pl' k=some p->(∃ i,(nums++new)[i]?=some ⑫/\p=i+2)\/(⑫.2.2=0/\p=⑫.2.1):=fun k hk ht p hp=>by
  o⟨p',e,h⟩:=h2 k hk ht;rw[hp] at e;cases e;rcases h with h | ⟨nm,e⟩
  ·!.inl h
  ·r .inr ⟨?_,e⟩
   rcases Nat.eq_zero_or_pos ⑫.2.2 with z | z
   ·!z
   ·!absurd (List.mem_append_right _ (hw2 k hk ht ¢)) nm
 h old:∀ k∈rc,t+1<=tieOf rows k->∀ p,pl' k=some p->pl k=some p:=fun k hk ht p hp=>by rw[h1 k (.inr ¢)] at hp; !hp
 r⟨B,fun k hk ht p hp s=>?_,fun k hk ht p hp=>?_,fun i r e=>?_,?_⟩
 ·by_cases e:tieOf rows k=t
  ·o⟨a,b,ea,eb,re,x1,x2,x3,x4⟩:=I.base.row c o hn hk e
   o⟨_,z1,z2⟩:=c.low o hk;h la:∀ s,led nums a s=led rows (outOf rows k) s:=I.low (c.out k hk) (by rw[<- e]; !z1) ea;h lb:∀ s,led nums b s=led rows (intoOf rows k) s:=I.low (c.into k hk) (by rw[<- e]; !z2) eb;h kk:=c.knot k hk;h k2:=c.two k hk;h et:÷.1=t:=e;rcases at_ k hk e p hp with⟨i,hi,rfl⟩ | ⟨w0,rfl⟩
   ·h il:=(List.getElem?_eq_some_iff.mp hi).1
    h kp:Knot (nums++new) (i+2):=by unfold Knot; w
    h eg:(nums++new).getD (i+2-2) (0,0,0)=(t,a,b):=by rw[Nat.add_sub_cancel,¯,hi,re]; rfl
    cases s with
    | nil =>
     rw[Dq B.least.ok kp ¢,eg,Dq o kk k2];show led (nums++new) a []=_;rw[Dd okN [] x1];!la []
    | cons x xs =>
     rw[Bx B.least.ok kp ¢,eg,Bx o kk k2,et];show (if x<t then false else if x=t then led (nums++new) b xs else led (nums++new) a (x::xs))=_;rw[Dd okN _ x1,Dd okN _ x2,la,lb];rfl
   ·rw[re] at w0
    h b0:b=0:=w0;rw[re];show led (nums++new) a s=_;rw[Dd okN _ x1,la];h into0:∀ s,led rows (intoOf rows k) s=false:=fun s=>by rw[<- lb,b0,Cr]
    h offA:∀ x xs,x<=t->led rows (outOf rows k) (x::xs)=false:=fun x xs h=>by rw[<- la]; !off okN x1 ¢
    cases s with
    | nil=>rw[Dq o kk k2]; rfl
    | cons x xs =>
     rw[Bx o kk k2,et];by_cases c1:x<t
     ·rw[if_pos c1]; !offA x xs ¢
     ·rw[if_neg c1]
      by_cases c2:x=t
      ·rw[if_pos c2]
       show _=led rows (intoOf rows k) xs;rw[into0];!offA x xs ¢
      ·rw[if_neg c2]; rfl
  ·h hp':=old k hk ¢ p hp
   o⟨p',e1,e2,_⟩:=I.base.has k hk ¢;rw[hp'] at e1;cases e1;rw[Dd okN s e2];!I.sem k hk ¢ p hp' s
 ·rw[Ue c o h1 hk ht]
  by_cases e:tieOf rows k=t
  ·rcases at_ k hk e p hp with⟨i,hi,rfl⟩ | h
   ·!.inl ⟨by w,hi⟩
   ·!.inr h
  ·rcases I.img k hk ¢ p (old k hk ¢ p hp) with⟨h2,h3⟩ | h
   ·r .inl ⟨h2,?_⟩
    rw[List.getElem?_append_left (List.getElem?_eq_some_iff.mp h3).1];!h3
   ·!.inr h
 ·rcases Nat.lt_or_ge i nums.length with hi | hi
  ·rw[List.getElem?_append_left hi] at e
   o⟨k,hk,ht,hp⟩:=I.sur i r e;!⟨k,hk,by w,by rw[h1 k (.inr ¢)]; !hp⟩
  ·h e':=e
   rw[List.getElem?_append_right hi] at e';o⟨k,hk,ht,rfl,w0⟩:=hw r (List.mem_of_getElem? e');o⟨p,hp,h⟩:=h2 k hk ht;r⟨k,hk,by w,?_⟩;rcases h with⟨j,hj,rfl⟩ | ⟨nm,_⟩
   ·rw[B.least.one i j _ e hj]
    !hp
   ·!absurd (List.mem_of_getElem? e) nm
 ·r List.pairwise_append.mpr ⟨I.srt,so,fun a ha b hb=>.inl ?_⟩
  have:=I.base.ge a ha;o⟨k,_,hk,rfl,_⟩:=hw b hb;show tieOf rows k<a.1;w
structure Canon(n:Nat)(nums:List Row)(top:Nat):Prop where
 least:Least n nums
 srt:nums.Pairwise RowLt
 knot:Knot nums top
 led:∀ p,2<=p->Knot nums p->p=top\/∃ r∈nums,r.2.1=p\/r.2.2=p
theorem Kept2.canon(I:Kept2 n 0 rows rc nums pl)(c:Closed rows rc)(o:Ok n rows){top hd:Nat}(ht:top<=1\/top∈rc)(hp:pl top=some hd)(par:∀ k∈rc,k=top\/∃ k'∈rc,k<k'/\(outOf rows k'=k\/intoOf rows k'=k)) :
  Canon n nums hd/\∀ s,led nums hd s=led rows top s:=by
 h key:∀ d k p,k∈rc->rows.length+2-k<=d->pl k=some p->2<=p->p=hd\/∃ r∈nums,r.2.1=p\/r.2.2=p:=by
  intro d
  induction d with
  | zero =>
   intro k p hk hd' _ _;have:=c.knot k hk;unfold Knot at this;w
  | succ d ih =>
   intro k p hk hd' hkp p2;rcases par k hk with rfl | ⟨k',hk',lt,ch⟩
   ·rw[hp] at hkp
    !.inl (Option.some.inj hkp).symm
   ·o⟨p',hp',_⟩:=I.base.has k' hk' (Nat.zero_le _)
    h im:=I.img k' hk' (Nat.zero_le _) p' hp';rcases ch with e | e
    ·h ep:(rowIn rows pl k').2.1=p:=by
      show (pl (outOf rows k')).getD 0=p;rw[e,hkp];rfl
     rcases im with⟨_,h3⟩ | ⟨_,h4⟩
     ·!.inr ⟨_,List.mem_of_getElem? h3,.inl ep⟩
     ·rw[ep] at h4
      subst h4;have:=c.knot k' hk';unfold Knot at this;!ih k' p' hk' ¢ hp' p2
    ·h ep:(rowIn rows pl k').2.2=p:=by
      show (pl (intoOf rows k')).getD 0=p;rw[e,hkp];rfl
     rcases im with⟨_,h3⟩ | ⟨h4,_⟩
     ·!.inr ⟨_,List.mem_of_getElem? h3,.inr ep⟩
     ·w
 r⟨⟨I.base.least,I.srt,?_,fun p p2 kp=>?_⟩,fun s=>?_⟩
 ·rcases ht with h | h
  ·have:top=0\/top=1:=by w
   rcases this with rfl | rfl
   ·rw[I.base.z] at hp; cases hp; unfold Knot; w
   ·rw[I.base.o] at hp; cases hp; unfold Knot; w
  ·o⟨p,e,kn,_⟩:=I.base.has top h (Nat.zero_le _)
   rw[hp] at e;cases e;!kn
 ·o⟨k,hk,_,hkp⟩:=I.sur (p-2) _ (Bg kp p2)
  rw[show p-2+2=p by w] at hkp;!key _ k p hk ③ hkp p2
 ·rcases ht with h | h
  ·have:top=0\/top=1:=by w
   rcases this with rfl | rfl
   ·rw[I.base.z] at hp; cases hp; rw[Cr,Cr]
   ·rw[I.base.o] at hp; cases hp; rw[Dy,Dy]
  ·!I.sem top h (Nat.zero_le _) hd hp s
end
theorem KQ{α:Type}{R:α->α->Prop}(as:∀ a b,R a b->R b a->False):∀{l m:List α},l.Pairwise R->m.Pairwise R->(∀ x,x∈l↔x∈m)->l=m
 | [],[],_,_,_=>rfl
 | [],b::m,_,_,h=>absurd ((h b).mpr ´) (fun z=>nomatch z)
 | a::l,[],_,_,h=>absurd ((h a).mp ´) (fun z=>nomatch z)
 | a::l,b::m,hl,hm,h=>by
  o⟨l1,l2⟩:=List.pairwise_cons.mp hl;o⟨m1,m2⟩:=List.pairwise_cons.mp hm;h e:a=b:=by
   rcases List.mem_cons.mp ((h a).mp ´) with e | e
   ·!e
   ·rcases List.mem_cons.mp ((h b).mpr ´) with e' | e'
    ·!e'.symm
    ·!(as _ _ (m1 a e) (l1 b e')).elim
  subst e
  congr 1
  r KQ as l2 m2 fun x=>⟨fun hx=>?_,fun hx=>?_⟩
  ·rcases List.mem_cons.mp ((h x).mp (¶ _ hx)) with e | e
   ·rw[e] at hx; !(as _ _ (l1 a hx) (l1 a hx)).elim
   ·!e
  ·rcases List.mem_cons.mp ((h x).mpr (¶ _ hx)) with e | e
   ·rw[e] at hx; !(as _ _ (m1 a hx) (m1 a hx)).elim
   ·!e
theorem TV(a b:Row)(h:RowLt a b)(k:RowLt b a):False:=by
 unfold RowLt at h k;w
theorem Gm(t:Nat):∀{A:List Row},A.Pairwise RowLt->A=A.filter (fun r=>decide (t<=r.1))++A.filter (fun r=>!decide (t<=r.1))
 | [],_=>rfl
 | a::l,h=>by
  o⟨h1,h2⟩:=List.pairwise_cons.mp h;by_cases c:t<=a.1
  ·rw[List.filter_cons,List.filter_cons,if_pos (by simpa using c),if_neg (by simpa using c),List.cons_append,<- Gm t h2]
  ·h z:∀ r∈l,¬ t<=r.1:=fun r hr=>by
    have:=h1 r hr;unfold RowLt at this;w
   h e1:l.filter (fun r=>decide (t<=r.1))=[]:=List.filter_eq_nil_iff.mpr fun r hr=>by simpa using z r hr
   h e2:l.filter (fun r=>!decide (t<=r.1))=l:=List.filter_eq_self.mpr fun r hr=>by simpa using z r hr
   rw[List.filter_cons,List.filter_cons,if_neg (by simpa using c),if_pos (by simpa using c),e1,e2];rfl
section
variable{n:Nat}{A B:List Row}{a b k k':Nat}
theorem Kz(L:Least n A):∀(f k:Nat),k<f->Knot A k->k≠0->∃ s,Way n A k s/\(2<=k->∃ xs,s=rank n A k::xs)/\(k=1->s=[])
 | 0,k,h,_,_=>by w
 | f+1,k,h,kn,k0=>by
  rcases Nat.lt_or_ge k 2 with c | c
  ·h e:k=1:=by w
   subst e;!⟨[],ABw,fun z=>by w,fun _=>rfl⟩
  ·o⟨_,_,h3,_,_,_,k2⟩:=L.ok.low (Bg kn c)
   h w0:=L.pos _ _ (Bg kn c);o⟨s,hs,_⟩:=Kz L f _ ¢ k2 w0;r⟨_,Zc L kn c hs,fun _=>⟨s,?_⟩,fun z=>by w⟩;unfold rank;rw[if_neg ¢]
structure Sim(A B:List Row)(k k':Nat):Prop where
 ka:Knot A k
 kb:Knot B k'
 eq:∀ s,led A k s=led B k' s
theorem Sim.symm(S:Sim A B k k'):Sim B A k' k:=⟨S.kb,S.ka,fun s=>(S.eq s).symm⟩
theorem Sim.no(LA:Least n A)(LB:Least n B)(S:Sim A B k k'):¬ rank n A k<rank n B k':=fun h=>by
 h k0:k≠0:=fun e=>by
  subst e;have:rank n B k'<=n+1:=by
   unfold rank;by_cases c:k'<2
   ·rw[if_pos c]; w
   ·rw[if_neg c]
    have:=(LB.ok.low (Bg S.kb ¢)).1;w
  h e:rank n A 0=n+1:=by unfold rank; rw[if_pos ¤]; rfl
  w
 o⟨s,⟨w1,_,_⟩,s2,s1⟩:=Kz LA _ k (Nat.lt_succ_self _) S.ka k0;rcases Nat.lt_or_ge k 2 with c | c
 ·h e:k=1:=by w
  subst e;rw[s1 rfl,S.eq] at w1;h e1:rank n A 1=n:=by unfold rank; rw[if_pos ¤]; rfl
  h k1:k'=0:=by
   unfold rank at h e1;rw[e1] at h;by_cases c':k'<2
   ·rw[if_pos c'] at h; w
   ·rw[if_neg c'] at h
    have:=(LB.ok.low (Bg S.kb ¢)).1;w
  rw[k1,Cr] at w1;cases w1
 ·o⟨xs,rfl⟩:=s2 c
  rw[S.eq,off LB.ok S.kb h] at w1;cases w1
theorem Sim.rank_eq(LA:Least n A)(LB:Least n B)(S:Sim A B k k'):rank n A k=rank n B k':=by
 h h1:=S.no LA LB;h h2:=S.symm.no LB LA;w
theorem Gg(L:Least n A)(kn:Knot A k):2<=k↔rank n A k<n:=by
 unfold rank;constructor
 ·intro h
  rw[if_neg ¢];!(L.ok.low (Bg kn h)).1
 ·intro h
  rcases Nat.lt_or_ge k 2 with c | c
  ·rw[if_pos c] at h; w
  ·!c
theorem Sim.small(LA:Least n A)(LB:Least n B)(S:Sim A B k k')(h:k<=1):k=k':=by
 h e:=S.rank_eq LA LB;h z:=Gg LA S.ka;h z':=Gg LB S.kb;have:¬ 2<=k':=fun c=>by have:=z'.mp c; rw[<- e] at this; have:=z.mpr this; w
 unfold rank at e;rw[if_pos ¢,if_pos ¢] at e;w
theorem Sim.child(LA:Least n A)(LB:Least n B)(S:Sim A B k k')(h:2<=k):2<=k'/\tieOf A k=tieOf B k'/\Sim A B (outOf A k) (outOf B k')/\Sim A B (intoOf A k) (intoOf B k'):=by
 h e:=S.rank_eq LA LB;h k2:2<=k':=(Gg LB S.kb).mpr (by rw[<- e]; !(Gg LA S.ka).mp h);h et:tieOf A k=tieOf B k':=by
  unfold rank at e;rw[if_neg ¢,if_neg ¢] at e;!e
 o⟨_,_,_,ra,_,ka1,ka2⟩:=LA.ok.low (Bg S.ka h);o⟨_,_,_,rb,_,kb1,kb2⟩:=LB.ok.low (Bg S.kb k2);r⟨k2,et,⟨ka1,kb1,fun s=>?_⟩,⟨ka2,kb2,fun s=>?_⟩⟩
 ·cases s with
  | nil =>
   have:=S.eq [];rw[Dq LA.ok S.ka h,Dq LB.ok S.kb k2] at this;!this
  | cons x xs =>
   by_cases c:x<=tieOf A k
   ·rw[show led A (outOf A k) (x::xs)=false from off LA.ok ka1 (by show x<rank n A (A.getD (k-2) (0,0,0)).2.1; unfold tieOf at c; w),show led B (outOf B k') (x::xs)=false from off LB.ok kb1 (by show x<rank n B (B.getD (k'-2) (0,0,0)).2.1; unfold tieOf at c et; w)]
   ·have:=S.eq (x::xs)
    rw[Bx LA.ok S.ka h,Bx LB.ok S.kb k2] at this;unfold tieOf at c et;rw[if_neg ¢,if_neg ¢,if_neg ¢,if_neg ¢] at this;!this
 ·have:=S.eq (tieOf A k::s)
  rw[Bx LA.ok S.ka h,Bx LB.ok S.kb k2] at this;unfold tieOf at this et;rw[if_neg ¢,if_pos rfl,if_neg ¢,if_pos et] at this;!this
theorem Sim.all(CA:Canon n A a)(CB:Canon n B b)(S:Sim A B a b):∀(d k:Nat),A.length+2-k<=d->2<=k->Knot A k->∃ k',Sim A B k k'
 | 0,k,h,_,kn=>by unfold Knot at kn; w
 | d+1,k,h,k2,kn=>by
  rcases CA.led k k2 kn with rfl | ⟨r,hr,ch⟩
  ·!⟨b,S⟩
  ·o⟨i,hi⟩:=List.mem_iff_getElem?.mp hr
   h il:=(List.getElem?_eq_some_iff.mp hi).1;o⟨_,lo,li,_⟩:=CA.least.ok.low hi;h er:A.getD (i+2-2) (0,0,0)=r:=by rw[Nat.add_sub_cancel,¯,hi]; rfl
   o⟨j,SJ⟩:=Sim.all CA CB S d (i+2) (by unfold Knot at kn; rcases ch with e | e<;>w) ¢ (by unfold Knot; w);o⟨_,_,s1,s2⟩:=SJ.child CA.least CB.least ¢;unfold outOf at s1;unfold intoOf at s2;rw[er] at s1 s2;rcases ch with e | e
   ·rw[e] at s1; !⟨_,s1⟩
   ·rw[e] at s2; !⟨_,s2⟩
theorem half(CA:Canon n A a)(CB:Canon n B b)(S:Sim A B a b){t:Nat}(P:∀ k k',Sim A B k k'->t+1<=rank n A k->k=k'){r:Row}(hr:r∈A)(ht:r.1=t):r∈B:=by
 o⟨i,hi⟩:=List.mem_iff_getElem?.mp hr;h il:=(List.getElem?_eq_some_iff.mp hi).1;h er:A.getD (i+2-2) (0,0,0)=r:=by rw[Nat.add_sub_cancel,¯,hi]; rfl
 o⟨j,SJ⟩:=Sim.all CA CB S _ (i+2) ③ ¢ (by unfold Knot; w);o⟨j2,et,s1,s2⟩:=SJ.child CA.least CB.least ¢;o⟨_,_,_,r1,r2,_,_⟩:=CA.least.ok.low hi;h e1:r.2.1=outOf B j:=by
  have:=P _ _ s1 (by unfold outOf; rw[er]; w);unfold outOf at this ⊢;rw[er] at this;!this
 h e2:r.2.2=intoOf B j:=by
  have:=P _ _ s2 (by unfold intoOf; rw[er]; w);unfold intoOf at this ⊢;rw[er] at this;!this
 h e3:r.1=tieOf B j:=by
  unfold tieOf at et ⊢;rw[er] at et;!et
 have:r=B.getD (j-2) (0,0,0):=Prod.ext e3 (Prod.ext e1 e2);rw[this];!List.mem_of_getElem? (Bg SJ.kb j2)
theorem XF(CA:Canon n A a)(CB:Canon n B b)(S:Sim A B a b):∀ d,(∀ r:Row,n<=r.1+d->(r∈A↔r∈B))/\∀ k k',Sim A B k k'->n<=rank n A k+d->k=k':=by
 intro d
 induction d with
 | zero =>
  have hA:∀ r∈A,r.1<n:=fun r hr=>by
   o⟨i,hi⟩:=List.mem_iff_getElem?.mp hr;!(CA.least.ok.low hi).1
  have hB:∀ r∈B,r.1<n:=fun r hr=>by
   o⟨i,hi⟩:=List.mem_iff_getElem?.mp hr;!(CB.least.ok.low hi).1
  r⟨fun r h=>⟨fun z=>?_,fun z=>?_⟩,fun k k' s h=>?_⟩
  ·have:=hA r z; w
  ·have:=hB r z; w
  ·r s.small CA.least CB.least ?_
   have:=Gg CA.least s.ka;rcases Nat.lt_or_ge k 2 with c | c
   ·w
   ·have:=this.mp c; w
 | succ d ih =>
  o⟨M,P⟩:=ih;h M':∀ r:Row,n<=r.1+(d+1)->(r∈A↔r∈B):=fun r h=>by
   by_cases c:n<=r.1+d
   ·!M r c
   ·r⟨fun z=>half CA CB S (fun k k' s hk=>P k k' s ¢) z rfl,fun z=>half CB CA S.symm (fun k k' s hk=>?_) z rfl⟩
    h e:=s.rank_eq CB.least CA.least;!(P k' k s.symm ¢).symm
  r⟨M',fun k k' s h=>?_⟩;by_cases c:n<=rank n A k+d
  ·!P k k' s c
  rcases Nat.lt_or_ge k 2 with k2 | k2
  ·!s.small CA.least CB.least ¢
  o⟨k2',et,s1,s2⟩:=s.child CA.least CB.least k2;o⟨_,_,_,r1,r2,_,_⟩:=CA.least.ok.low (Bg s.ka k2);h rk:rank n A k=tieOf A k:=by unfold rank tieOf; rw[if_neg ¢]
  h e1:=P _ _ s1 (by unfold outOf; unfold tieOf at rk; w);h e2:=P _ _ s2 (by unfold intoOf; unfold tieOf at rk; w);h er:A.getD (k-2) (0,0,0)=B.getD (k'-2) (0,0,0):=Prod.ext et (Prod.ext e1 e2);h ef:A.filter (fun r=>decide (tieOf A k<=r.1))=B.filter (fun r=>decide (tieOf A k<=r.1)):=by
   r KQ TV (CA.srt.filter _) (CB.srt.filter _) fun r=>?_;rw[List.mem_filter,List.mem_filter];constructor
   ·rintro⟨h1,h2⟩
    !⟨(M' r (by have:=of_decide_eq_true h2; w)).mp h1,h2⟩
   ·rintro⟨h1,h2⟩
    !⟨(M' r (by have:=of_decide_eq_true h2; w)).mpr h1,h2⟩
  h mem:A.getD (k-2) (0,0,0)∈A.filter (fun r=>decide (tieOf A k<=r.1)):=List.mem_filter.mpr ⟨List.mem_of_getElem? (Bg s.ka k2),decide_eq_true ③⟩;o⟨i,hi⟩:=List.mem_iff_getElem?.mp mem;h il:=(List.getElem?_eq_some_iff.mp hi).1;h iA:A[i]?=some (A.getD (k-2) (0,0,0)):=by
   rw[Gm (tieOf A k) CA.srt,List.getElem?_append_left il];rw[<- Gm (tieOf A k) CA.srt];!hi
  h iB:B[i]?=some (B.getD (k'-2) (0,0,0)):=by
   rw[<- er];rw[ef] at hi il;rw[Gm (tieOf A k) CB.srt,List.getElem?_append_left il];!hi
  h j1:=CA.least.one _ _ _ iA (Bg s.ka k2);h j2:=CB.least.one _ _ _ iB (Bg s.kb k2');w
theorem Canon.unique(CA:Canon n A a)(CB:Canon n B b)(h:∀ s,G.led A a s=G.led B b s):A=B/\a=b:=by
 h S:Sim A B a b:=⟨CA.knot,CB.knot,h⟩;o⟨M,P⟩:=XF CA CB S n;!⟨KQ TV CA.srt CB.srt fun r=>M r ¢,P a b S ¢⟩
end
def up(s:List Nat):List Int:=s.map fun(x:Nat)=>(x:Int)
section
variable{n lo d t k1 k2:Nat}{ss:List ⑧}{rows more more1 more2:List Row}
structure Made2(n lo d:Nat)(rows more:List Row)(k:Nat)(ss:List ⑧):Prop where
 base:Made n lo d rows more k ss.length
 sem:∀ s,led (rows++more) k s=decide (up s∈ss)
end
theorem Ym{n:Nat}{rows nums:List Row}{rc:List Nat}{pl:Nat->Option Nat}(I:Kept2 n 0 rows rc nums pl)(c:Closed rows rc):nums.length<=rows.length:=by
 h ex:∀ i,i<nums.length->∃ k,k∈rc/\pl k=some (i+2):=fun i hi=>by
  o⟨k,hk,_,e⟩:=I.sur i _ (± hi);!⟨k,hk,e⟩
 let g:Nat->Nat:=fun i=>if h:i<nums.length then Classical.choose (ex i h) else 0
 h hg:∀ i,i<nums.length->g i∈rc/\pl (g i)=some (i+2):=fun i hi=>by
  h z:=Classical.choose_spec (ex i hi);show (if h:i<nums.length then Classical.choose (ex i h) else 0)∈rc/\pl (if h:i<nums.length then Classical.choose (ex i h) else 0)=some (i+2);rw[dif_pos hi];!z
 h nd:((List.range nums.length).map g).Nodup:=by
  unfold List.Nodup;rw[List.pairwise_map];r List.Pairwise.imp_of_mem (fun {a b} ha hb h e=>?_) (List.nodup_range (n:=nums.length));h h1:=(hg a (List.mem_range.mp ha)).2;h h2:=(hg b (List.mem_range.mp hb)).2;rw[e,h2] at h1;injection h1 with h1
  w
 h z:=ST.CZ nd (l₂:=(List.range rows.length).map (·+2)) fun x hx=>by
  o⟨i,hi,rfl⟩:=List.mem_map.mp hx;h hk:=(hg i (List.mem_range.mp hi)).1;h a:=c.two _ hk;h b:g i<rows.length+2:=c.knot _ hk;!List.mem_map.mpr ⟨g i-2,List.mem_range.mpr ¢,by w⟩
 rw[List.length_map,List.length_map,List.length_range,List.length_range] at z;!z
section
variable{n t:Nat}{A rows nums:List Row}{rc:List Nat}{pl:Nat->Option Nat}
theorem Sim.inj(L:Least n A):∀(f k k':Nat),k<f->Sim A A k k'->k=k':=by
 intro f
 induction f with
 | zero=>intro k k' h; w
 | succ f ih =>
  intro k k' hk S;rcases Nat.lt_or_ge k 2 with c | c
  ·!S.small L L ¢
  ·o⟨c',et,so,si⟩:=S.child L L c
   h ra:=Bg S.ka c;h rb:=Bg S.kb c';o⟨_,a1,a2,_⟩:=L.ok.low ra;h e1:outOf A k=outOf A k':=ih _ _ (by show (A.getD (k-2) (0,0,0)).2.1<f; w) so;h e2:intoOf A k=intoOf A k':=ih _ _ (by show (A.getD (k-2) (0,0,0)).2.2<f; w) si;h er:A.getD (k-2) (0,0,0)=A.getD (k'-2) (0,0,0):=Prod.ext et (Prod.ext e1 e2);rw[er] at ra;have:=L.one _ _ _ ra rb;w
theorem Wd(L:Least n A){a b:Nat}(ka:Knot A a)(kb:Knot A b)(h:∀ s,led A a s=led A b s):a=b:=Sim.inj L (a+1) a b (Nat.lt_succ_self _) ⟨ka,kb,h⟩
theorem Ys{P:Nat->Prop}{top:Nat}(pt:P top)(ps:∀ k,P k->2<=k->Knot rows k->P (outOf rows k)/\P (intoOf rows k))(c:Closed rows rc)(par:∀ k∈rc,k=top\/∃ k'∈rc,k<k'/\(outOf rows k'=k\/intoOf rows k'=k)):∀(d k:Nat),rows.length+2-k<=d->k∈rc->P k:=by
 intro d
 induction d with
 | zero=>intro k h hk; have:k<rows.length+2:=c.knot k hk; w
 | succ d ih =>
  intro k h hk;rcases par k hk with rfl | ⟨k',hk',lt,e⟩
  ·!pt
  ·have:k<rows.length+2:=c.knot k hk
   h z:=ps k' (ih k' ¢ hk') (c.two k' hk') (c.knot k' hk');rcases e with rfl | rfl
   ·!z.1
   ·!z.2
def lowH(t:Nat):List Nat->Bool
 | []=>false
 | x::_=>decide (x<=t)
end
section
variable{n:Nat}{A rows more:List Row}{m k:Nat}
def Like(A rows:List Row)(m k:Nat):Prop:=Knot rows k/\∀ s,led rows k s=led A m s
theorem ABt(rows:List Row)(r:Row):(rows++[r]).getD (rows.length+2-2) (0,0,0)=r:=by
 rw[Nat.add_sub_cancel,¯,List.getElem?_append_right ¢,Nat.sub_self];rfl
theorem AAh(rows:List Row)(r:Row):Knot (rows++[r]) (rows.length+2):=by
 unfold Knot;rw[List.length_append,List.length_singleton];w
theorem Yb{t:Nat}(ks:List Nat)(hk:∀ k∈ks,2<=k/\Knot A k/\tieOf A k=t)(nd:ks.Nodup):ks.length<=(A.filter fun r=>decide (r.1=t)).length:=by
 h hsub:∀ i∈(ks.map (· - 2)),i<A.length/\(A.getD i (0,0,0)).1=t:=fun i hi=>by
  o⟨k,hk',rfl⟩:=List.mem_map.mp hi;o⟨k2,kn,ht⟩:=hk k hk';!⟨by unfold Knot at kn; w,ht⟩
 h nd2:(ks.map (· - 2)).Nodup:=by
  unfold List.Nodup;rw[List.pairwise_map];r List.Pairwise.imp_of_mem (fun {a b} ha hb h e=>h ?_) nd;have:=(hk a ha).1;have:=(hk b hb).1;w
 h z:=ST.CZ nd2 (l₂:=(List.range A.length).filter fun i=>decide ((A.getD i (0,0,0)).1=t)) fun i hi=>by
  o⟨h1,h2⟩:=hsub i hi;!List.mem_filter.mpr ⟨List.mem_range.mpr h1,decide_eq_true h2⟩
 rw[List.length_map] at z;r Nat.le_trans z (Nat.le_of_eq ?_);h e:A=(List.range A.length).map fun i=>A.getD i (0,0,0):=by
  apply List.ext_getElem?;intro i;rw[List.getElem?_map];by_cases c:i<A.length
  ·rw[List.getElem?_range c,± c]
   simp[¯,c]
  ·rw[List.getElem?_eq_none ¢,List.getElem?_eq_none (by rw[List.length_range]; w)]
   rfl
 conv=>rhs; rw[e,List.filter_map,List.length_map]
 rfl
structure Stand(A rows:List Row)(m:Nat)(ks:List Nat):Prop where
 kn:Knot A m
 all:∀ k∈ks,Like A rows m k
 some:∃ k∈ks,k<=1\/(2<=m/\tieOf A m<=tieOf rows k)
 len:ks.length<=6
end
def addRow(S:List (List (List Nat)))(r:Row):List (List (List Nat)):=S++[S.getD r.2.1 []++(S.getD r.2.2 []).map (r.1::·)]
def setsUp(rows:List Row):List (List (List Nat)):=rows.foldl addRow [[],[[]]]
def setsOf(rows:List Row)(k:Nat):List (List Nat):=(setsUp rows).getD k []
theorem Jj(rows:List Row)(r:Row):setsUp (rows++[r])=addRow (setsUp rows) r:=by unfold setsUp; rw[List.foldl_append]; rfl
theorem Hh:∀(rows:List Row),(setsUp rows).length=rows.length+2:=by
 intro rows
 suffices h:∀(l:List Row) (S:List (List (List Nat))),(l.foldl addRow S).length=S.length+l.length by
  unfold setsUp;rw[h];show 2+_=_;w
 intro l
 induction l with
 | nil=>intro S; simp
 | cons a l ih =>
  intro S;rw[List.foldl_cons,ih];unfold addRow;rw[List.length_append];simp;w
def num(n:Nat):List Nat->Nat
 | []=>0
 | x::xs=>2 ^ (n-1-x)+num n xs
theorem ZM{n:Nat}:∀{s:List Nat}{t:Nat},s.Pairwise (· < ·)->(∀ x∈s,t<=x/\x<n)->num n s<2 ^ (n-t)
 | [],t,_,_=>Nat.two_pow_pos _
 | x::xs,t,h,hr=>by
  o⟨h1,h2⟩:=List.pairwise_cons.mp h;o⟨x1,x2⟩:=hr x ´;h ih:=ZM (t:=x+1) h2 fun y hy=>⟨h1 y hy,(hr y (¶ _ hy)).2⟩;h e:2 ^ (n-x)=2 ^ (n-1-x)+2 ^ (n-1-x):=by
   rw[show n-x=(n-1-x)+1 by w,Nat.pow_succ];w
  h le:2 ^ (n-x)<=2 ^ (n-t):=Nat.pow_le_pow_right ¤ ¢;h e2:n-(x+1)=n-1-x:=by w
  rw[e2] at ih;show 2 ^ (n-1-x)+num n xs<_;w
section
variable{n:Nat}{rows:List Row}
structure InOrder(n:Nat)(rows:List Row)(k:Nat)(L:List (List Nat)):Prop where
 mem:∀ s,s∈L↔led rows k s=true
 ord:L.Pairwise fun s u=>num n s<num n u
 way:∀ s∈L,s.Pairwise (· < ·)/\∀ x∈s,rank n rows k<=x/\x<n
theorem ABM{α:Type}{l m:List α}{k:Nat}{d:α}(h:k<l.length):(l++m).getD k d=l.getD k d:=by
 rw[¯,¯,List.getElem?_append_left h]
theorem Uu(o:Ok n rows)(r:Row){k:Nat}(kn:Knot rows k):setsOf (rows++[r]) k=setsOf rows k:=by
 unfold setsOf;rw[Jj];unfold addRow;!ABM (by rw[Hh]; !kn)
theorem Um(rows:List Row)(r:Row):setsOf (rows++[r]) (rows.length+2)=setsOf rows r.2.1++(setsOf rows r.2.2).map (r.1::·):=by
 unfold setsOf;rw[Jj];unfold addRow;rw[¯,List.getElem?_append_right (by rw[Hh]; !Nat.le_refl _),Hh,Nat.sub_self];rfl
theorem InOrder.app(o:Ok n rows){r:Row}{k:Nat}{L:List (List Nat)}(kn:Knot rows k)(I:InOrder n rows k L):InOrder n (rows++[r]) k L :=
 ⟨fun s=>by rw[Dd o s kn]; !I.mem s,I.ord,fun s hs=>by rw[Lb kn]; !I.way s hs⟩
theorem Hr{r:Row}(o:Ok n (rows++[r])):Ok n rows:=fun i q e=>by
 h il:=(List.getElem?_eq_some_iff.mp e).1;o⟨h1,h2,h3⟩:=o i q (by rw[List.getElem?_append_left il]; !e);h low:∀ l,Low (rows++[r]) q.1 (i+2) l->Low rows q.1 (i+2) l:=fun l ⟨a,b⟩=>⟨a,b.imp id fun⟨u,e,z⟩=>⟨u,by rw[List.getElem?_append_left ¢] at e; !e,z⟩⟩;!⟨h1,low _ h2,low _ h3⟩
theorem Zx:∀(m:Nat) (rows:List Row),rows.length=m->Ok n rows->∀ k,Knot rows k->InOrder n rows k (setsOf rows k):=by
 intro m
 induction m with
 | zero =>
  intro rows h o k kn;h e:rows=[]:=List.length_eq_zero_iff.mp h;subst e;have:k=0\/k=1:=by unfold Knot at kn; simp at kn; w
  rcases this with rfl | rfl
  ·r⟨fun s=>?_,.nil,fun s hs=>by cases hs⟩
   rw[Cr];!⟨fun h=>(by cases h),fun h=>(by cases h)⟩
  ·r⟨fun s=>?_,List.pairwise_singleton _ _,fun s hs=>?_⟩
   ·rw[Dy,decide_eq_true_iff]
    !List.mem_singleton
   ·rw[List.mem_singleton.mp hs]
    !⟨.nil,fun x hx=>by cases hx⟩
 | succ m ih =>
  intro rows h o k kn;h ne:rows≠[]:=fun e=>by rw[e] at h; cases h
  obtain ⟨init,r,rfl⟩:∃ init r,rows=init++[r]:=⟨rows.dropLast,rows.getLast ne,(List.dropLast_concat_getLast ne).symm⟩;h hl:init.length=m:=by simpa using h
  h oi:=Hr o;h I:=ih init hl oi;by_cases c:k<init.length+2
  ·rw[Uu oi r c]
   !(I k c).app oi c
  ·h ek:k=init.length+2:=by unfold Knot at kn; simp at kn; w
   subst ek;h hi:(init++[r])[init.length]?=some r:=by simp
   o⟨t1,l1,l2,r1,r2,_,_⟩:=o.low hi;h kn1:Knot init r.2.1:=l1;h kn2:Knot init r.2.2:=l2;h I1:=(I _ kn1).app (r:=r) oi kn1;h I2:=(I _ kn2).app (r:=r) oi kn2;h eg:(init++[r]).getD (init.length+2-2) (0,0,0)=r:=by rw[Nat.add_sub_cancel,¯,hi]; rfl
   h rk:rank n (init++[r]) (init.length+2)=r.1:=by unfold rank; rw[if_neg ¢,eg]
   rw[Um];r⟨fun s=>?_,?_,fun s hs=>?_⟩
   ·rw[List.mem_append,List.mem_map]
    cases s with
    | nil =>
     rw[Dq o kn ¢,eg,I1.mem];!⟨fun h=>h.elim id fun⟨u,_,e⟩=>(by cases e),.inl⟩
    | cons x xs =>
     rw[Bx o kn ¢,eg,I1.mem];by_cases c1:x<r.1
     ·rw[if_pos c1]
      r⟨fun h=>?_,fun h=>by cases h⟩;rcases h with h | ⟨u,_,e⟩
      ·rw[off o (Fw kn1) ¢] at h; !h
      ·injection e with e _; w
     ·rw[if_neg c1]
      by_cases c2:x=r.1
      ·rw[if_pos c2]
       subst c2;r⟨fun h=>?_,fun h=>.inr ⟨xs,(I2.mem xs).mpr h,rfl⟩⟩;rcases h with h | ⟨u,hu,e⟩
       ·rw[off o (Fw kn1) ¢] at h; cases h
       ·injection e with _ e
        rw[<- e];!(I2.mem u).mp hu
      ·rw[if_neg c2]
       r⟨fun h=>h.elim id fun⟨u,_,e⟩=>(by injection e with e _; w),.inl⟩
   ·r List.pairwise_append.mpr ⟨I1.ord,?_,fun s hs u hu=>?_⟩
    ·rw[List.pairwise_map]
     !I2.ord.imp fun {a b} h=>by show 2 ^ _+_<2 ^ _+_; w
    ·o⟨v,hv,rfl⟩:=List.mem_map.mp hu
     o⟨w1,w2⟩:=I1.way s hs;have:=ZM (n:=n) (t:=r.1+1) w1 fun x hx=>⟨by have:=(w2 x hx).1; w,(w2 x hx).2⟩;rw[show n-(r.1+1)=n-1-r.1 by w] at this;show _<2 ^ (n-1-r.1)+_;w
   ·rw[rk]
    rcases List.mem_append.mp hs with hs | hs
    ·o⟨w1,w2⟩:=I1.way s hs
     !⟨w1,fun x hx=>⟨by have:=(w2 x hx).1; w,(w2 x hx).2⟩⟩
    ·o⟨v,hv,rfl⟩:=List.mem_map.mp hs
     o⟨w1,w2⟩:=I2.way v hv;r⟨.cons (fun x hx=>by have:=(w2 x hx).1; w) w1,fun x hx=>?_⟩;rcases List.mem_cons.mp hx with rfl | hx
     ·!⟨Nat.le_refl _,t1⟩
     ·!⟨by have:=(w2 x hx).1; w,(w2 x hx).2⟩
end
abbrev Sta:=List Int
section
variable (lef tak pas:Nat->Sta->Option Sta)(ful:Sta->Bool)
def stepS(t:Nat)(g:Option Sta->List Nat->Bool)(st:Sta):List Nat->Bool
 | []=>g (lef t st) []
 | x::xs=>if x<t then false else if x=t then g (tak t st) xs else g (lef t st) (x::xs)
def semG:Nat->Nat->Option Sta->List Nat->Bool
 | _,_,none,_=>false
 | 0,t,some r,s=>match pas t r with
  | none=>false
  | some st=>ful st&&decide (s=[])
 | d+1,t,some r,s=>match pas t r with
  | none=>false
  | some st=>stepS lef tak t (semG d (t+1)) st s
end
section
variable{n t k kl kr:Nat}{rows more:List Row}{f:List Nat->Bool}
structure Lead(rows:List Row)(t k:Nat)(f:List Nat->Bool):Prop where
 kn:Knot rows k
 up:k<=1\/t<=tieOf rows k
 eq:∀ s,led rows k s=f s
theorem Lead.app(o:Ok n rows)(h:Lead rows t k f):Lead (rows++more) t k f:=by
 r⟨Fw h.kn,?_,fun s=>by rw[Dd o s h.kn,h.eq]⟩;rcases Nat.lt_or_ge 1 k with c | c
 ·rw[ACa h.kn c]; !h.up
 ·!.inl c
theorem Xw(h:∀ s,f s=false):Lead rows t 0 f:=⟨by unfold Knot; w,.inl ¢,fun s=>by rw[Cr,h]⟩
theorem Zg(h:∀ s,f s=decide (s=[])):Lead rows t 1 f:=⟨by unfold Knot; w,.inl ¢,fun s=>by rw[Dy,h]⟩
theorem ZS{lef tak:Nat->Sta->Option Sta}{g:Option Sta->List Nat->Bool}{st:Sta}(o:Ok n rows)(tn:t<n)(hl:Lead rows (t+1) kl (g (lef t st)))(hr:Lead rows (t+1) kr (g (tak t st))) :
  Ok n (rows++[(t,kl,kr)])/\Lead (rows++[(t,kl,kr)]) t (rows.length+2) (stepS lef tak t g st):=by
 h o2:Ok n (rows++[(t,kl,kr)]):=ADz o tn (TQ hl.kn hl.up) (TQ hr.kn hr.up);h e:=ABt rows (t,kl,kr);h kn:=AAh rows (t,kl,kr);r⟨o2,kn,.inr ?_,fun s=>?_⟩
 ·unfold tieOf
  rw[e];!Nat.le_refl _
 ·cases s with
  | nil =>
   rw[Dq o2 kn ¢,e,Dd o _ hl.kn,hl.eq];rfl
  | cons x xs =>
   rw[Bx o2 kn ¢,e,Dd o _ hl.kn,Dd o _ hr.kn,hl.eq,hr.eq];rfl
def Cnt(t:Nat)(more:List Row):Prop:=∀ j,(more.filter fun r=>decide (r.1=j)).length<=if j<t then 0 else 2 ^ (j-t)
theorem cnt_nil:Cnt t []:=fun j=>Nat.zero_le _
theorem AAe{m1 m2:List Row}(h1:Cnt (t+1) m1)(h2:Cnt (t+1) m2):Cnt t (m1++m2++[(t,kl,kr)]):=fun j=>by
 h a:=h1 j;h b:=h2 j;rw[List.filter_append,List.filter_append,List.length_append,List.length_append];rcases Nat.lt_trichotomy j t with c | c | c
 ·rw[if_pos ¢] at a b
  rw[if_pos c,List.filter_cons_of_neg (by simp; w)];show _+_+0<=0;w
 ·subst c
  rw[if_pos ¢] at a b;rw[if_neg ¢,Nat.sub_self,List.filter_cons_of_pos ¥];show _+_+1<=1;w
 ·rw[if_neg ¢] at a b
  rw[if_neg ¢,List.filter_cons_of_neg (by simp; w)];h e:2 ^ (j-t)=2 ^ (j-(t+1))+2 ^ (j-(t+1)):=by
   rw[show j-t=(j-(t+1))+1 by w,Nat.pow_succ];w
  show _+_+0<=_;w
end
section
variable (on:Nat->Nat->Bool)(L:Nat->Nat)(z n:Nat)
def tkC(t:Nat)(st:Sta):Sta:=(List.range st.length).map fun p=>if on p t=true then min (st.getD p 0+1) 2 else st.getD p 0
def lefC(_:Nat)(st:Sta):Option Sta:=some st
end
theorem Hu(l:Sta)(p q:Nat)(h:q≠p):(l.set p 0).getD q 0=l.getD q 0:=by
 rw[¯,¯,List.getElem?_set_ne (Ne.symm h)]
section
variable{on:Nat->Nat->Bool}{L:Nat->Nat}{z n:Nat}
theorem KD{t p:Nat}{st:Sta}(h:p<st.length):(tkC on t st).getD p 0=if on p t=true then min (st.getD p 0+1) 2 else st.getD p 0:=by
 unfold tkC;rw[¯,List.getElem?_map,List.getElem?_range h];rfl
theorem Ii{t:Nat}{st:Sta}:(tkC on t st).length=st.length:=by unfold tkC; rw[List.length_map,List.length_range]
end
section
variable (al:Int->Bool)(on:Nat->Nat->Bool)(L:Nat->Nat)(z n:Nat)
def passT:Sta->List Nat->Option Sta
 | st,[]=>some st
 | st,p::ps=>if al (st.getD p 0)=true then passT (st.set p 0) ps else none
def pasT(t:Nat)(st:Sta):Option Sta:=passT al st ((List.range z).filter fun p=>decide (L p=t))
def takT(t:Nat)(st:Sta):Option Sta:=if (2:Int)∈tkC on t st/\al 2=false then none else some (tkC on t st)
def cntS(p:Nat)(s:List Nat):Nat:=(s.filter fun x=>on p x).length
def Tied(t:Nat)(r:Sta)(s:List Nat):Prop:=s.Pairwise (· < ·)/\(∀ x∈s,t<=x/\x<n)/\∀ p,p<z->t<=L p->al (min (r.getD p 0+(cntS on p s:Nat)) 2)=true
end
section
variable{al:Int->Bool}
theorem Hl:∀(ps:List Nat) (st st':Sta),ps.Nodup->passT al st ps=some st'->(∀ p∈ps,al (st.getD p 0)=true)/\st'.length=st.length/\(∀ q,q∉ps->st'.getD q 0=st.getD q 0)/\∀ q,(st'.getD q 0=st.getD q 0\/st'.getD q 0=0)
 | [],st,st',_,h=>by cases h; !⟨fun p hp=>(nomatch hp),rfl,fun q _=>rfl,fun q=>.inl rfl⟩
 | p::ps,st,st',nd,h=>by
  unfold passT at h;by_cases c:al (st.getD p 0)=true
  ·rw[if_pos c] at h
   o⟨np,nd'⟩:=List.nodup_cons.mp nd;o⟨h1,h2,h3,h4⟩:=Hl ps _ _ nd' h;r⟨fun q hq=>?_,by rw[h2,List.length_set],fun q hq=>?_,fun q=>?_⟩
   ·rcases List.mem_cons.mp hq with rfl | hq
    ·!c
    ·have:=h1 q hq
     rwa [Hu _ _ _ (fun e=>np (by rw[<- e]; !hq))] at this
   ·rw[h3 q (fun e=>hq (¶ _ e)),Hu _ _ _ (fun e=>hq (by rw[e]; !´ ..))]
   ·rcases h4 q with e | e
    ·by_cases cq:q=p
     ·subst cq
      by_cases l:q<st.length
      ·right
       rw[e,¯,List.getElem?_set_self l];rfl
      ·left
       rw[e,¯,¯,List.getElem?_eq_none (by rw[List.length_set]; w),List.getElem?_eq_none ¢]
     ·left
      rw[e,Hu _ _ _ cq]
    ·!.inr e
  ·rw[if_neg c] at h
   cases h
theorem passT_none:∀(ps:List Nat) (st:Sta),ps.Nodup->passT al st ps=none->∃ p∈ps,al (st.getD p 0)=false
 | [],st,_,h=>by cases h
 | p::ps,st,nd,h=>by
  unfold passT at h;by_cases c:al (st.getD p 0)=true
  ·rw[if_pos c] at h
   o⟨np,nd'⟩:=List.nodup_cons.mp nd;o⟨q,hq,hn⟩:=passT_none ps _ nd' h;rw[Hu _ _ _ (fun e=>np (by rw[<- e]; !hq))] at hn;!⟨q,¶ _ hq,hn⟩
  ·!⟨p,´ ..,by cases e:al (st.getD p 0) with | true=>!absurd e c | false=>rfl⟩
end
section
variable{al:Int->Bool}{on:Nat->Nat->Bool}{L:Nat->Nat}{z n:Nat}
theorem QL{p:Nat}:∀{s:List Nat},(∀ x∈s,on p x=false)->cntS on p s=0
 | s,h=>by
  unfold cntS;rw[List.length_eq_zero_iff,List.filter_eq_nil_iff];intro x hx;rw[h x hx];decide
theorem cnt_cons(p x:Nat)(s:List Nat):cntS on p (x::s)=(if on p x=true then 1 else 0)+cntS on p s:=by
 unfold cntS;rw[List.filter_cons];split
 ·rw[List.length_cons]; w
 ·w
def Sml(al:Int->Bool)(r:Sta):Prop:=(∀ p,0<=r.getD p 0/\r.getD p 0<=2)/\(al 2=false->∀ p,r.getD p 0<=1)
theorem Vx{t p:Nat}{st:Sta}(h:¬ p<st.length):(tkC on t st).getD p 0=0:=by
 rw[¯,List.getElem?_eq_none (by rw[Ii]; w)];rfl
theorem Sml.take{t:Nat}{st:Sta}(h:Sml al st)(hn:¬ ((2:Int)∈tkC on t st/\al 2=false)):Sml al (tkC on t st):=by
 h b:∀ p,0<=(tkC on t st).getD p 0/\(tkC on t st).getD p 0<=2:=fun p=>by
  by_cases c:p<st.length
  ·rw[KD c]
   have:=h.1 p;split<;>w
  ·rw[Vx c]; w
 r⟨b,fun a p=>?_⟩;h hb:=b p;by_cases c:p<st.length
 ·h ne:(tkC on t st).getD p 0≠2:=fun e=>hn ⟨by
   h pl:p<(tkC on t st).length:=by rw[Ii]; !c
   rw[¯,± pl] at e;h e':(tkC on t st)[p]=2:=e;rw[<- e'];!List.getElem_mem pl,a⟩
  w
 ·rw[Vx c]; decide
theorem ZJ(hL:∀ p x,p<z->x<n->on p x=true->x<L p)(hn:∀ p,p<z->L p<=n):∀(d t:Nat) (r:Sta) (s:List Nat),t+d=n->r.length=z->Sml al r ->
  (semG lefC (takT al on) (pasT al L z) (fun _=>true) d t (some r) s=true↔Tied al on L z n t r s):=by
 h small:∀{c:Int},0<=c->c<=2->min (c+((0:Nat):Int)) 2=c:=fun {c} a b=>by w
 intro d
 induction d with
 | zero =>
  intro t r s tn rl r0;obtain rfl:t=n:=by w
  h nil:∀{s:List Nat},(∀ x∈s,t<=x/\x<t)->s=[]:=fun {s} h=>by
   cases s with
   | nil=>rfl
   | cons x xs=>have:=h x (´ ..); w
  h nd:((List.range z).filter fun p=>decide (L p=t)).Nodup:=List.nodup_range.filter _;show (match pasT al L z t r with | none=>false | some st=>true&&decide (s=[]))=true↔_;cases e:pasT al L z t r with
  | none =>
   o⟨p,hp,hb⟩:=passT_none _ _ nd e;o⟨h1,h2⟩:=List.mem_filter.mp hp;r⟨fun h=>(by cases h),fun⟨_,h,c⟩=>?_⟩;have:=nil h;subst this;h c':=c p (List.mem_range.mp h1) (Nat.le_of_eq (of_decide_eq_true h2).symm);rw[QL (s:=[]) (fun x hx=>(by cases hx)),small (r0.1 p).1 (r0.1 p).2,hb] at c';cases c'
  | some st =>
   o⟨h1,_⟩:=Hl _ _ _ nd e;dsimp only;rw[Bool.true_and,decide_eq_true_iff];constructor
   ·rintro rfl
    r⟨.nil,fun x hx=>(nomatch hx),fun p hp hl=>?_⟩;rw[QL (s:=[]) (fun x hx=>(by cases hx)),small (r0.1 p).1 (r0.1 p).2];r h1 p (List.mem_filter.mpr ⟨List.mem_range.mpr hp,decide_eq_true ?_⟩);have:=hn p hp;w
   ·!fun⟨_,h,_⟩=>nil h
 | succ d ih =>
  intro t r s tn rl r0;h nd:((List.range z).filter fun p=>decide (L p=t)).Nodup:=List.nodup_range.filter _;h off:∀{p:Nat}{s:List Nat},p<z->L p=t->(∀ x∈s,t<=x/\x<n)->cntS on p s=0:=fun {p s} hp e h=>QL fun x hx=>by
   cases ho:on p x with
   | false=>rfl
   | true =>
    have:=hL p x hp (h x hx).2 ho;have:=(h x hx).1;w
  show (match pasT al L z t r with | none=>false | some st=>stepS lefC (takT al on) t (semG lefC (takT al on) (pasT al L z) (fun _=>true) d (t+1)) st s)=true↔_;cases e:pasT al L z t r with
  | none =>
   o⟨p,hp,hb⟩:=passT_none _ _ nd e;o⟨h1,h2⟩:=List.mem_filter.mp hp;r⟨fun h=>(by cases h),fun⟨_,h,c⟩=>?_⟩;h e2:L p=t:=of_decide_eq_true h2;h c':=c p (List.mem_range.mp h1) (Nat.le_of_eq e2.symm);rw[off (List.mem_range.mp h1) e2 h,small (r0.1 p).1 (r0.1 p).2,hb] at c';cases c'
  | some st =>
   o⟨h1,h2,h3,h4⟩:=Hl _ _ _ nd e;h sl:st.length=z:=by rw[h2,rl]
   h s0:Sml al st:=⟨fun p=>by
    rcases h4 p with e | e
    ·rw[e]; !r0.1 p
    ·rw[e]; decide,fun a p=>by
    rcases h4 p with e | e
    ·rw[e]; !r0.2 a p
    ·rw[e]; decide⟩
   dsimp only;h key:Tied al on L z n t r s↔(s.Pairwise (· < ·)/\(∀ x∈s,t<=x/\x<n)/\∀ p,p<z->t+1<=L p->al (min (st.getD p 0+(cntS on p s:Nat)) 2)=true):=by
    constructor
    ·rintro⟨a,b,c⟩
     r⟨a,b,fun p hp hl=>?_⟩;rw[h3 p (fun hm=>by have:=of_decide_eq_true (List.mem_filter.mp hm).2; w)];!c p hp ¢
    ·rintro⟨a,b,c⟩
     r⟨a,b,fun p hp hl=>?_⟩;by_cases lt:L p=t
     ·rw[off hp lt b,small (r0.1 p).1 (r0.1 p).2]
      !h1 p (List.mem_filter.mpr ⟨List.mem_range.mpr hp,decide_eq_true lt⟩)
     ·have:=c p hp ¢
      rwa [h3 p (fun hm=>lt (of_decide_eq_true (List.mem_filter.mp hm).2))] at this
   rw[key];cases s with
   | nil =>
    show semG lefC (takT al on) (pasT al L z) (fun _=>true) d (t+1) (some st) []=true↔_;rw[ih (t+1) st [] ¢ sl s0];!⟨fun⟨a,b,c⟩=>⟨a,fun x hx=>(nomatch hx),c⟩,fun⟨a,b,c⟩=>⟨a,fun x hx=>(nomatch hx),c⟩⟩
   | cons x xs =>
    show (if x<t then false else if x=t then semG lefC (takT al on) (pasT al L z) (fun _=>true) d (t+1) (takT al on t st) xs else semG lefC (takT al on) (pasT al L z) (fun _=>true) d (t+1) (some st) (x::xs))=true↔_;by_cases c1:x<t
    ·rw[if_pos c1]
     !⟨fun h=>(by cases h),fun⟨_,b,_⟩=>by have:=b x (´ ..); w⟩
    rw[if_neg c1];by_cases c2:x=t
    ·subst c2
     rw[if_pos rfl];by_cases dead:(2:Int)∈tkC on x st/\al 2=false
     ·h e0:takT al on x st=none:=by unfold takT; rw[if_pos dead]
      rw[e0];r⟨fun h=>(by cases d<;>cases h),fun⟨a,b,c⟩=>?_⟩;o⟨p,hp,e⟩:=List.mem_iff_getElem.mp dead.1;h pl:p<st.length:=by rw[Ii] at hp; !hp
      h g:=KD (on:=on) (t:=x) pl;rw[¯,± hp] at g;h g':(tkC on x st)[p]=if on p x=true then min (st.getD p 0+1) 2 else st.getD p 0:=g
      rw[e] at g';h b1:=s0.2 dead.2 p;h ho:on p x=true:=by
       cases q:on p x with
       | true=>rfl
       | false=>rw[q,if_neg ¤] at g'; w
      rw[if_pos ho] at g';h pz:p<z:=by w
      h lx:=hL p x pz (b x (´ ..)).2 ho;h c':=c p pz ¢;rw[cnt_cons,if_pos ho] at c';h e2:min (st.getD p 0+((1+cntS on p xs:Nat):Int)) 2=2:=by w
      rw[e2,dead.2] at c';cases c'
     ·h e0:takT al on x st=some (tkC on x st):=by unfold takT; rw[if_neg dead]
      rw[e0,ih (x+1) (tkC on x st) xs ¢ (by rw[Ii,sl]) (s0.take dead)];h mm:∀ p,p<z->min ((tkC on x st).getD p 0+((cntS on p xs:Nat):Int)) 2=min (st.getD p 0+((cntS on p (x::xs):Nat):Int)) 2:=fun p hp=>by
       rw[KD ¢,cnt_cons];have:=s0.1 p;split<;>w
      constructor
      ·rintro⟨a,b,c⟩
       r⟨List.pairwise_cons.mpr ⟨fun y hy=>by have:=(b y hy).1; w,a⟩,fun y hy=>?_,fun p hp hl=>?_⟩
       ·rcases List.mem_cons.mp hy with rfl | hy
        ·w
        ·have:=b y hy; w
       ·rw[<- mm p hp]
        !c p hp hl
      ·rintro⟨a,b,c⟩
       o⟨a1,a2⟩:=List.pairwise_cons.mp a;r⟨a2,fun y hy=>⟨a1 y hy,(b y (¶ _ hy)).2⟩,fun p hp hl=>?_⟩;rw[mm p hp];!c p hp hl
    ·rw[if_neg c2,ih (t+1) st (x::xs) ¢ sl s0]
     constructor
     ·rintro⟨a,b,c⟩
      !⟨a,fun y hy=>by have:=b y hy; w,c⟩
     ·rintro⟨a,b,c⟩
      r⟨a,fun y hy=>?_,c⟩;rcases List.mem_cons.mp hy with rfl | hy
      ·have:=b y (´ ..); w
      ·have:=(List.pairwise_cons.mp a).1 y hy
       have:=b y (¶ _ hy);w
end
end G
end
section
namespace K53
open PySem L2 G
structure Ru where
 rf:List (Str×V)
 al:Int->Bool
structure Rul(u:Ru)(K:¨)(mg:Str->Option Value)(D:Addr):Prop where
 cl:Cls K D
 no:∀{m:Str},¬ m = "full"->u.rf.lookup m=none
 sev:∃ t,mg "SEVERAL" = some (.int 2 t)
def pf(fu:Bool):List (Str×V):=putF "full" (.bl fu) []
def alP(fu:Bool)(c:Int):Bool:=decide (c=1)||(decide (c=0) && !fu)
def uP(fu:Bool):Ru:=⟨pf fu,alP fu⟩
theorem AAZ{fu:Bool}{m:Str}(h:¬ m = "full"):(pf fu).lookup m=none:=by
 unfold pf;rw[Ai,if_neg h];rfl
theorem ABb{fu:Bool}:(pf fu).lookup ("full" : Str)=some (.bl fu):=by
 unfold pf;rw[Ai,if_pos rfl]
def Gh(u:Ru)(D:Addr):Sp:=fun vs H Q _=>∃(p dx:Addr) (c:Int),vs=[.ref p,.int c]/\H p=some (.ins D dx u.rf)/\Q (.bl (u.al c)) H
section
variable{P:Program}{w:World}{K:¨}{mg:Str->Option Value}{base:Heap}{f C D R:Addr}{fd:FuncData}
theorem ZD:FnScope ["self", "count"] ["self", "count"] (Ac Gq):=¡
theorem Wv{fu:Bool}(F:Fun K "allows" "Pairs.allows" Gq f fd)(cl:Cls K D)(nF:NoAttr K D "full"):FnOk P w K mg base CX0 1 f fd ["self", "count"] (Gh (uP fu) D):=by
 r F.ok ZD § ¦
 ·o⟨p,dx,c,rfl,_⟩:=h
  rfl
 o⟨p,dx,c,rfl,hp,q⟩:=h;r⟨_,Aj (Av (AEj (Cp Ey (pv 1) Ah ⑮) (QX (Vb (Cp Ey (pv 1) Ah ⑮) (QX (ADv (Bt (pv 0) rfl))))))),?_⟩;r⟨_,rfl,rfl,_,rfl,?_⟩;by_cases c1:c=1
 ·r iteP (by rw[c1]) ?_
  h e:(uP fu).al c=true:=by show (decide (c=1)||_)=true; rw[decide_eq_true c1]; rfl
  rw[e] at q;!q
 ·r iteN (fun z=>c1 (by injection z)) ?_
  r⟨_,rfl,rfl,_,rfl,?_⟩;by_cases c0:c=0
  ·r iteP (by rw[c0]) ?_
   h e:(uP fu).al c=!fu:=by show (decide (c=1)||(decide (c=0) && !fu))=!fu; rw[decide_eq_false c1,decide_eq_true c0]; rfl
   rw[e] at q;!⟨_,rfl,p,D,dx,_,_,rfl,hp,cl,nF,ABb,_,rfl,q⟩
  ·h e:(uP fu).al c=false:=by show (decide (c=1)||(decide (c=0) && !fu))=false; rw[decide_eq_false c1,decide_eq_false c0]; rfl
   rw[e] at q;!iteN (fun z=>c0 (by injection z)) q
def Wm(D:Addr):Sp:=fun vs H Q _=>∃(r dx:Addr) (fu:Bool),vs=[.ref r,.bl fu]/\H r=some (.ins D dx [])/\Q .non (upd H r (.ins D dx (pf fu)))
theorem ABW:FnScope ["self", "full"] ["self", "full"] (Ac JC):=¡
end
variable{u:Ru}
def onB(bs:List ⑧)(p x:Nat):Bool:=decide ((p:Int)∈bs.getD x [])
def StAt(H:Hp)(b:Addr)(st:Sta):Prop:=H b=some (.tup (st.map V.int))
def RS(z:Nat)(H:Hp)(v:V):Option Sta->Prop
 | none=>v=.non
 | some st=>∃ b,v=.ref b/\StAt H b st/\st.length=z
def Wb(K:¨)(C D:Addr):Sp:=fun vs H Q _=>∃(r p:Addr) (z:Nat) (bs:List ⑧),vs=[.ref r,.ref p]/\WebAt K C H p z bs/\1<=z/\z<=10/\∀(b:Addr) (H':Hp),Same H H'->StAt H' b (List.replicate z 0)->Q (.ref b) H'
def UW:Sp:=fun vs H Q _=>∃(r p b x:V),vs=[r,p,b,x]/\Q b H
def Zt:Sp:=fun vs H Q _=>∃(r p b:V),vs=[r,p,b]/\Q (.bl true) H
def Rx(u:Ru)(D:Addr):Sp:=fun vs H Q _=>∃(r p:V) (b dx:Addr) (a:Addr) (q:Nat) (st:Sta),vs=[.ref a,p,.ref b,.int q]/\H a=some (.ins D dx u.rf)/\StAt H b st/\q<st.length/\st.length<=10 /\
 (u.al (st.getD q 0)=true->∀(b':Addr) (H':Hp),Same H H'->StAt H' b' (st.set q 0)->Q (.ref b') H')/\(¬ u.al (st.getD q 0)=true->∀ H',Same H H'->Q .non H')
def Pu(u:Ru)(K:¨)(C D:Addr):Sp:=fun vs H Q _=>∃(a p b dx:Addr) (t z:Nat) (bs:List ⑧) (st:Sta),vs=[.ref a,.ref p,.ref b,.int t]/\H a=some (.ins D dx u.rf)/\WebAt K C H p z bs/\StAt H b st/\t<bs.length/\st.length<=10 /\
 st.length=z/\∀(v':V) (H':Hp),Same H H'->RS z H' v' (takT u.al (onB bs) t st)->Q v' H'
section
variable{P:Program}{w:World}{K:¨}{mg:Str->Option Value}{base:Heap}{f C D:Addr}{fd:FuncData}
theorem ACG:FnScope ["self", "web"] ["self", "web"] (Ac JV):=¡
theorem ABH{fS:Addr}{fdS:FuncData}(F:Fun K "begun" "TiedPoints.begun" JV f fd)(T:Txt K mg C)(GS:FnOk P w K mg base CX0 1 fS fdS ["self"] (Ow K C))(bS:Binds K fdS ["self"] [])(mS:Meth K C "size" fS) :
  FnOk P w K mg base CX0 2 f fd ["self", "web"] (Wb K C D):=by
 r F.ok ACG § ¦
 ·o⟨r,p,z,bs,rfl,_⟩:=h
  rfl
 o⟨r,p,z,bs,rfl,hW,z1,z10,q⟩:=h;o⟨dx,j,hp,_⟩:=id hW;r⟨_,Aj (Av (Aw ACd (CG (Aa Ah Ad)) (Bo (pv 1) T.cl mS GS hr bS .nil pass0))),?_⟩;r⟨(by show 1<=sizeLine; decide),fun t ht=>?_⟩;h s1:=Same.new ht (.tup [.int 0]);r⟨_,rfl,p,dx,_,rfl,s1 _ _ hp,Ei _ _ £ £,p,z,bs,rfl,hW.same s1,t,z,[.int 0],rfl,rfl,Ab,by w,by w,by simp,by decide,fun e=>?_,fun e b hb=>?_⟩
 ·have:z=1:=by w
  subst this;!q t _ s1 Ab
 ·h eq:(List.replicate (z:Int).toNat [V.int 0]).flatten=(List.replicate z (0:Int)).map V.int:=by
   rw[Int.toNat_natCast,List.map_replicate];generalize z=m
   induction m with
   | zero=>rfl
   | succ m ih=>rw[List.replicate_succ,List.replicate_succ,List.flatten_cons,ih]; rfl
  rw[eq];!q b _ (s1.trans (Same.new hb _)) Ab
theorem ADc:FnScope ["self", "web", "state", "number"] ["self", "web", "state", "number"] (Ac Nu):=¡
theorem ACX(F:Fun K "left" "Rule.left" Nu f fd):FnOk P w K mg base CX0 1 f fd ["self", "web", "state", "number"] UW:=by
 r F.ok ADc § ¦
 ·o⟨r,p,b,x,rfl,_⟩:=h
  rfl
 o⟨r,p,b,x,rfl,q⟩:=h;!⟨_,Aj (Av (pv 2)),⟨_,rfl,q⟩⟩
theorem AFO:FnScope ["self", "web", "state"] ["self", "web", "state"] (Ac YT):=¡
theorem AEP(F:Fun K "fulfilled" "TiedPoints.fulfilled" YT f fd):FnOk P w K mg base CX0 1 f fd ["self", "web", "state"] Zt:=by
 r F.ok AFO § ¦
 ·o⟨r,p,b,rfl,_⟩:=h
  rfl
 o⟨r,p,b,rfl,q⟩:=h;!⟨_,Aj (Av Ec),q⟩
theorem AAc:FnScope ["self", "web", "state", "point"] ["self", "web", "state", "point"] (Ac FZ):=¡
theorem Nz{fA:Addr}{fdA:FuncData}(F:Fun K "passed" "TiedPoints.passed" FZ f fd)(T:Txt K mg C)(U:Rul u K mg D)(GA:FnOk P w K mg base CX0 1 fA fdA ["self", "count"] (Gh u D))(bA:Binds K fdA ["self", "count"] [])(mA:Meth K D "allows" fA) :
  FnOk P w K mg base CX0 2 f fd ["self", "web", "state", "point"] (Rx u D):=by
 r F.ok AAc § ¦
 ·o⟨r,p,b,dx,a,q,st,rfl,_⟩:=h
  rfl
 o⟨r,p,b,dx,a,q,st,rfl,ha,hb,ql,s10,q1,q2⟩:=h;r⟨_,Ae (CN (Hq (CJ (pv 0) U.cl mA GA hr bA .nil pass0 (Aa (Bc Dn (pv 2) (pv 3) (fun _ _=>rfl)) Ad)))
   (Aj (Av (Bk Ce rfl T.tuple PyProof.Rows.boot_tuple (Aa (Ca (Ac FZ) ["other", "count"] ["point"] [3] rfl rfl £ ⟨⟨rfl,£⟩,trivial⟩ (Ke rfl T.enum (Aa (pv 2) Ad))
    (fun _ _ _=>Ft (K:=K) (n:=2) rfl rfl (Bb (Am (i:=0) (show ((["other", "count"]:List Str)++(["point"]:List Str)).Nodup by decide +kernel) rfl ④) (Bb (Am (i:=1) (show ((["other", "count"]:List Str)++(["point"]:List Str)).Nodup by decide +kernel) rfl ④) Dw)))
    (fun _ _ _=>Cg)
    (fun _ _ _=>Hw (Ar Ey (pv 0) (pv 2) ⑮) Ah (pv 1))) Ad)))) BX)
  (Aj (Av ZK)),?_⟩
 h hc:atI (st.map V.int) (q:Int)=some (.int (st.getD q 0)):=Bm (by rw[List.getElem?_map,¯,± ql]; rfl);r⟨_,rfl,a,dx,_,rfl,ha,U.no £,_,rfl,_,rfl,b,_,_,_,rfl,rfl,SqT.of hb,hc,a,dx,_,rfl,ha,_,rfl,?_⟩;r ite2 (fun c=>?_) (fun c=>?_)
 ·h c':u.al (st.getD q 0)=true:=c
  r⟨_,rfl,b,rfl,⟨_,SqT.of hb⟩,fun Z hZ=>?_⟩;r HW (xs:=st.map V.int) (fun i τ H2=>∃ n t:Option V,τ=[n,t,some (.int q)]/\Same H H2/\H2 Z=some (.lst (((st.set q 0).take i).map V.int))) ⟨none,none,rfl,Same.new hZ _,Ab⟩ (fun i τ H2 _ ⟨_,_,_,sm,_⟩=>sm.ts.seq (SqT.of hb)) ?_ ?_
  ·rintro i y τ H2 T1 hy hT1 ⟨n,t,rfl,sm,eZ⟩
   obtain ⟨v,hv,rfl⟩:∃ v,st[i]?=some v/\y=.int v:=by
    rw[List.getElem?_map] at hy;cases g:st[i]? with
    | none=>rw[g] at hy; cases hy
    | some v=>rw[g] at hy; cases hy; !⟨v,rfl,rfl⟩
   h il:=(List.getElem?_eq_some_iff.mp hv).1;h s1:Same H2 (upd H2 T1 (.tup [.int i,.int v])):=Same.new hT1 _;r⟨T1,_,rfl,SqT.of Ab,rfl,_,_,rfl,_,_,rfl,rfl,yesD ?_⟩;h fin:∀ u:Int,(st.set q 0)[i]?=some u->∃ n t:Option V,[some (.int (i:Int)),some (.int v),some (.int (q:Int))]=[n,t,some (V.int q)]/\Same H (upd (upd H2 T1 (.tup [.int i,.int v])) Z (.lst (((st.set q 0).take i).map V.int++[.int u])))/\(upd (upd H2 T1 (.tup [.int i,.int v])) Z (.lst (((st.set q 0).take i).map V.int++[.int u]))) Z=some (.lst (((st.set q 0).take (i+1)).map V.int)):=fun u hu=>by
    r⟨_,_,rfl,fun b o e=>?_,?_⟩
    ·rw[Af (Ag e hZ)]
     !s1 _ _ (sm b o e)
    ·rw[Ab,List.take_add_one,hu,List.map_append]
     rfl
   h sl:(((st.set q 0).take i).map V.int).length<sizeLine:=Ay (by rw[List.length_map,List.length_take]; w);r⟨_,rfl,_,rfl,rfl,_,rfl,?_⟩;r ite2 (fun e=>?_) (fun e=>?_)
   ·h e':i=q:=by have:=of_decide_eq_true e; injection this with this; w
    subst e';!⟨_,s1 _ _ eZ,sl,fin 0 (List.getElem?_set_self il)⟩
   ·h e':i≠q:=fun z=>e (decide_eq_true (by rw[z]))
    !⟨_,rfl,_,s1 _ _ eZ,sl,fin v (by rw[List.getElem?_set_ne (Ne.symm e')]; !hv)⟩
  ·rintro τ H2 ⟨n,t,rfl,sm,eZ⟩
   rw[List.length_map,show st.length=(st.set q 0).length by rw[List.length_set],List.take_length] at eZ;r⟨Z,_,rfl,.inl ⟨SqL.of eZ,fun t ht=>?_⟩⟩;!q1 c' t _ (sm.trans (Same.new ht _)) Ab
 ·!q2 c _ (Same.refl _)
end
variable{u:Ru}
section
variable{P:Program}{w:World}{K:¨}{mg:Str->Option Value}{base:Heap}{f C D:Addr}{fd:FuncData}
theorem Qd:FnScope ["self", "web", "state", "number", "tie", "counts"] ["self", "web", "state", "number"] (Ac HX):=¡
theorem Qy{fA fT:Addr}{fdA fdT:FuncData}(F:Fun K "taken" "TiedPoints.taken" HX f fd)(T:Txt K mg C)(U:Rul u K mg D)(GA:FnOk P w K mg base CX0 1 fA fdA ["self", "count"] (Gh u D))(bA:Binds K fdA ["self", "count"] [])(mA:Meth K D "allows" fA)
  (GT:FnOk P w K mg base CX0 1 fT fdT ["self"] (QJ K C)) (bT:Binds K fdT ["self"] []) (mT:Meth K C "ties" fT) :
  FnOk P w K mg base CX0 2 f fd ["self", "web", "state", "number"] (Pu u K C D):=by
 r F.ok Qd § ¦
 ·o⟨a,p,b,dx,t,z,bs,st,rfl,_⟩:=h
  rfl
 o⟨a,p,b,dx,t,z,bs,st,rfl,ha,hW,hb,tl,s10,sz,q⟩:=h;o⟨t2,e2⟩:=U.sev;r⟨_,Ae (Ax (i:=4) Qd.nd rfl (Or.inr rfl) (Bc Bl (Bo (pv 1) T.cl mT GT hr bT .nil pass0) (pv 3) (fun _ _=>rfl)))
  (Ae (Pg (i:=5) (Ac HX) ["point", "count"] ["tie"] [4] Qd.nd rfl ④ rfl rfl £ ⟨⟨rfl,£⟩,trivial⟩ (Ke rfl T.enum (Aa (pv 2) Ad))
    (fun _ _ _=>Ft (K:=K) (n:=2) rfl rfl (Bb (Am (i:=0) (show ((["point", "count"]:List Str)++(["tie"]:List Str)).Nodup by decide +kernel) rfl ④) (Bb (Am (i:=1) (show ((["point", "count"]:List Str)++(["tie"]:List Str)).Nodup by decide +kernel) rfl ④) Dw)))
    (fun _ _ _=>Cg)
    (fun _ _ _=>Hw (Ar (Fg (K:=K) rfl) (pv 0) (pv 2) rfl) (BL (YH rfl) rfl T.min PyProof.Rows.boot_min (Aa (Aw Cv (pv 1) Ah) (Aa (Gv (v:=.int 2) rfl e2 ⟨t2,rfl⟩) Ad))) (pv 1)))
  (Ae (CN (PW.pt (LC (Ar Oa (Gv (v:=.int 2) rfl e2 ⟨t2,rfl⟩) (pv 5) rfl) (Ie (Kl (Hq (CJ (pv 0) U.cl mA GA hr bA .nil pass0 (Aa (Gv (v:=.int 2) rfl e2 ⟨t2,rfl⟩) Ad)))))))
   (Aj (Av ZK)) BX)
  (Aj (Av (Bk Ce rfl T.tuple PyProof.Rows.boot_tuple (Aa (pv 5) Ad)))))),?_⟩
 o⟨dw,jw,hp,_⟩:=id hW;r⟨_,rfl,p,dw,_,rfl,hp,Ei _ _ £ £,p,z,bs,rfl,hW,fun l H1 s1 hl hL=>?_⟩;o⟨l',xs,el,hX,px⟩:=hL;cases el;h lx:=Paired.length px;h xl:t<xs.length:=by w
 o⟨tie,ht,rt⟩:=Paired.get px (± xl);o⟨tq,et,htq⟩:=Cz rt;h hat:atI xs (t:Int)=some (.ref tq):=by
  rw[<- et];!Bm (± xl)
 r⟨_,rfl,l,xs,_,_,rfl,rfl,hX,hat,?_⟩;h ont:∀ i:Nat,onB bs i t=decide ((i:Int)∈tie):=fun i=>by
  unfold onB;rw[¯,ht];rfl
 h hb1:StAt H1 b st:=s1 _ _ hb;r⟨_,rfl,b,rfl,⟨_,SqT.of hb1⟩,fun Z hZ=>?_⟩;h kl:(tkC (onB bs) t st).length=st.length:=Ii;r HW (xs:=st.map V.int) (fun i τ H2=>∃ n c:Option V,τ=[n,c,some (.ref tq)]/\Same H1 H2/\H2 Z=some (.lst (((tkC (onB bs) t st).take i).map V.int))) ⟨none,none,rfl,Same.new hZ _,Ab⟩ (fun i τ H2 _ ⟨_,_,_,sm,_⟩=>sm.ts.seq (SqT.of hb1)) ?_ ?_
 ·rintro i y τ H2 T1 hy hT1 ⟨n,c,rfl,sm,eZ⟩
  obtain ⟨v,hv,rfl⟩:∃ v,st[i]?=some v/\y=.int v:=by
   rw[List.getElem?_map] at hy;cases g:st[i]? with
   | none=>rw[g] at hy; cases hy
   | some v=>rw[g] at hy; cases hy; !⟨v,rfl,rfl⟩
  h il:=(List.getElem?_eq_some_iff.mp hv).1;h gi:st.getD i 0=v:=by rw[¯,hv]; rfl
  h s2:Same H2 (upd H2 T1 (.tup [.int i,.int v])):=Same.new hT1 _;r⟨T1,_,rfl,SqT.of Ab,rfl,_,_,rfl,_,_,rfl,rfl,yesD ?_⟩;h fin:∀ u:Int,(tkC (onB bs) t st).getD i 0=u->∃ n c:Option V,[some (.int (i:Int)),some (.int v),some (.ref tq)]=[n,c,some (V.ref tq)]/\Same H1 (upd (upd H2 T1 (.tup [.int i,.int v])) Z (.lst (((tkC (onB bs) t st).take i).map V.int++[.int u])))/\(upd (upd H2 T1 (.tup [.int i,.int v])) Z (.lst (((tkC (onB bs) t st).take i).map V.int++[.int u]))) Z=some (.lst (((tkC (onB bs) t st).take (i+1)).map V.int)):=fun u hu=>by
   r⟨_,_,rfl,fun b o e=>?_,?_⟩
   ·rw[Af (Ag e hZ)]
    !s2 _ _ (sm b o e)
   ·h hk:i<(tkC (onB bs) t st).length:=by w
    rw[¯,± hk] at hu;rw[Ab,List.take_add_one,± hk,List.map_append,<- hu];rfl
  h sl:(((tkC (onB bs) t st).take i).map V.int).length<sizeLine:=Ay (by rw[List.length_map,List.length_take]; w);h tk:=KD (on:=onB bs) (t:=t) (p:=i) il;rw[ont,gi] at tk;r⟨_,rfl,_,rfl,tq,_,rfl,.inr (s2.ts.seq (sm.ts.seq htq)),rfl,by simp[flatV],_,rfl,?_⟩;rw[if_neg ¤,EY];r ite2 (fun e=>?_) (fun e=>?_)
  ·rw[if_pos e] at tk
   r⟨_,rfl,_,_,rfl,rfl,_,_,rfl,_,s2 _ _ eZ,sl,?_⟩;r fin _ (tk.trans ?_);show min (v+1) 2=if (2:Int)<v+1 then 2 else v+1
   by_cases d:(2:Int)<v+1
   ·rw[if_pos d]; w
   ·rw[if_neg d]; w
  ·rw[if_neg e] at tk
   !⟨_,rfl,_,s2 _ _ eZ,sl,fin v tk⟩
 ·rintro τ H2 ⟨n,c,rfl,sm,eZ⟩
  rw[List.length_map,<- kl,List.take_length] at eZ;h s12:=s1.trans sm;h ln:(tkC (onB bs) t st).length=z:=by rw[kl]; !sz
  h go:¬ ((2:Int)∈tkC (onB bs) t st/\u.al 2=false)->∃ v,[some (V.ref a),some (V.ref p),some (V.ref b),some (V.int t),some (V.ref tq),some (V.ref Z)][5]?=some (some v)/\∃ pp ys,[v]=[V.ref pp]/\((SqL K H2 pp ys/\∀ l,H2 l=none->Q (.ref l) (upd H2 l (.tup ys)))\/(SqT K H2 pp ys/\Q (.ref pp) H2)):=fun nd =>
   ⟨_,rfl,Z,_,rfl,.inl ⟨SqL.of eZ,fun l hl=>q _ _ (s12.trans (Same.new hl _)) (by unfold takT; rw[if_neg nd]; !⟨l,rfl,Ab,ln⟩)⟩⟩
  r⟨_,rfl,Z,_,rfl,.inl (SqL.of eZ),rfl,by simp[flatV],_,rfl,?_⟩;rw[if_neg ¤,EY];r ite2 (fun c=>?_) (fun c=>?_)
  ·h hm:(2:Int)∈tkC (onB bs) t st:=of_decide_eq_true c
   r⟨_,rfl,a,dx,_,rfl,s12 _ _ ha,U.no £,a,dx,_,rfl,s12 _ _ ha,_,rfl,?_⟩;cases e:u.al 2 with
   | true=>!iteF (go fun z=>by rw[e] at z; cases z.2)
   | false=>!iteT (q _ _ s12 (by unfold takT; rw[if_pos ⟨hm,e⟩]; !rfl))
  ·!iteF (go fun z=>c (decide_eq_true z.1))
end
theorem Xn{X:Cx}{K:¨}(hK:X.K=K)(hc:X.calm=true):CallR X (.builtin "max") (fun xs H Q=>∃(p:Addr) (ns:List Int),xs=[.ref p]/\SqL K H p ⑭/\0<ns.length/\∀ m,m∈ns->(∀ a∈ns,a<=m)->Q (.int m) H):=by subst hK; !max_list hc
theorem AAq{X:Cx}{K:¨}(hK:X.K=K):OpR X (binaryOp .Add) (rAddL K):=by subst hK; !ACR
def Lp(bs:List ⑧)(p:Nat):Nat:=match (hits (p:Int) bs).getLast? with
 | none=>0
 | some x=>(x+1).toNat
theorem Wf{bs:List ⑧}{p:Nat}{x:Int}(h:x∈hits (p:Int) bs):0<=x/\x<bs.length:=by
 o⟨i,t,e,_,rfl⟩:=L2.Hs.mp h;have:=(List.getElem?_eq_some_iff.mp e).1;w
theorem ADr{bs:List ⑧}{p:Nat}{m:Int}(h1:m∈(-1:Int)::hits (p:Int) bs)(h2:∀ a∈(-1:Int)::hits (p:Int) bs,a<=m):m=(Lp bs p:Int)-1:=by
 unfold Lp;cases e:(hits (p:Int) bs).getLast? with
 | none =>
  have e':=List.getLast?_eq_none_iff.mp e;rw[e'] at h1;have:m=-1:=by simpa using h1
  rw[this];rfl
 | some x =>
  o⟨ne,ex⟩:=List.getLast?_eq_some_iff.mp e |> fun⟨ys,h⟩=>(⟨by rw[h]; simp,by simp[h]⟩:∃ ne:hits (p:Int) bs≠[],(hits (p:Int) bs).getLast ne=x)
  h xm:x∈hits (p:Int) bs:=by rw[<- ex]; !List.getLast_mem ne
  h x0:=(Wf xm).1;have:=h2 x (¶ _ xm);h mx:m=x:=by
   rcases List.mem_cons.mp h1 with rfl | h1
   ·w
   ·have:=QM ne (JR _ 0 bs) m h1
    w
  dsimp only;w
theorem AFH{bs:List ⑧}{p x:Nat}(xl:x<bs.length)(h:onB bs p x=true):x<Lp bs p:=by
 h hm:(p:Int)∈bs.getD x []:=of_decide_eq_true h;rw[¯,± xl] at hm;h xm:(x:Int)∈hits (p:Int) bs:=L2.Hs.mpr ⟨x,_,± xl,hm,by w⟩;unfold Lp;cases e:(hits (p:Int) bs).getLast? with
 | none=>rw[List.getLast?_eq_none_iff.mp e] at xm; cases xm
 | some y =>
  o⟨ne,ey⟩:=List.getLast?_eq_some_iff.mp e |> fun⟨ys,h⟩=>(⟨by rw[h]; simp,by simp[h]⟩:∃ ne:hits (p:Int) bs≠[],(hits (p:Int) bs).getLast ne=y)
  have:=QM ne (JR _ 0 bs) x xm;dsimp only;w
theorem AEw{bs:List ⑧}{p:Nat}:Lp bs p<=bs.length:=by
 unfold Lp;cases e:(hits (p:Int) bs).getLast? with
 | none=>!Nat.zero_le _
 | some y =>
  have:=Wf (List.mem_of_getLast? e);dsimp only;w
def nI(ks:List Nat):List V:=ks.map fun(k:Nat)=>V.int (k:Int)
theorem Zw(ks:List Nat):(nI ks).length=ks.length:=by unfold nI; rw[List.length_map]
theorem ADf{ks:List Nat}{j:Nat}{x:V}(h:(nI ks)[j]?=some x):∃ k:Nat,ks[j]?=some k/\x=.int (k:Int):=by
 unfold nI at h;rw[List.getElem?_map] at h;cases g:ks[j]? with
 | none=>rw[g] at h; cases h
 | some k=>rw[g] at h; cases h; !⟨k,rfl,rfl⟩
def behP(bs:List ⑧)(z t:Nat):List Nat:=(List.range z).filter fun p=>decide (Lp bs p=t)
def Yw(K:¨)(C:Addr):Sp:=fun vs H Q _=>∃(p:Addr) (t z:Nat) (bs:List ⑧),vs=[.ref p,.int t]/\WebAt K C H p z bs/\z<=10/\bs.length<=12/\∀(l:Addr) (H':Hp),Same H H'->H l=none->H' l=some (.lst (nI (behP bs z t)))->Q (.ref l) H'
section
variable{P:Program}{w:World}{K:¨}{mg:Str->Option Value}{base:Heap}{f C D:Addr}{fd:FuncData}
theorem AEO:FnScope ["web", "number"] ["web", "number"] (Ac Fp):=¡
theorem ACj{fS fA:Addr}{fdS fdA:FuncData}(F:Fun K "points_behind" "points_behind" Fp f fd)(T:Txt K mg C)(GS:FnOk P w K mg base CX0 1 fS fdS ["self"] (Ow K C))(bS:Binds K fdS ["self"] [])(mS:Meth K C "size" fS)
  (GA:FnOk P w K mg base CX0 1 fA fdA ["self", "point"] (ADT K C)) (bA:Binds K fdA ["self", "point"] []) (mA:Meth K C "at" fA):FnOk P w K mg base CX0 2 f fd ["web", "number"] (Yw K C):=by
 r F.ok AEO § ¦
 ·o⟨p,t,z,bs,rfl,_⟩:=h
  rfl
 o⟨p,t,z,bs,rfl,hW,z10,b12,q⟩:=h;o⟨dx,j,hp,_⟩:=id hW;r⟨_,Aj (Av (Ca (Ac Fp) ["point"] ["number", "web"] [1,0] rfl rfl £ ⟨⟨rfl,£⟩,⟨rfl,£⟩,trivial⟩ (Cm rfl T.range (Aa (Bo (pv 0) T.cl mS GS hr bS .nil pass0) Ad))
   (fun _ _ _=>Am (i:=0) (show ((["point"]:List Str)++(["number", "web"]:List Str)).Nodup by decide +kernel) rfl ④)
   (fun _ _ _=>Dg (Ar Ey (BL (Xn (K:=K) rfl rfl) rfl T.max PyProof.Rows.boot_max (Aa (Aw (AAq (K:=K) rfl) (Ci (Aa (Wr Py Ah) Ad)) (CJ (pv 2) T.cl mA GA hr bA .nil pass0 (Aa (pv 0) Ad))) Ad)) (Aw DP (pv 1) Ah) ⑮))
   (fun _ _ _=>pv 0))),?_⟩
 r⟨_,rfl,p,dx,_,rfl,hp,Ei _ _ £ £,p,z,bs,rfl,hW,_,rfl,by w,by w,fun Z hZ=>?_⟩;r Cj (lo:=0) (n:=(z:Int).toNat) (fun j τ H2=>∃ o:Option V,τ=[o,some (.int t),some (.ref p)]/\Same H H2/\H2 Z=some (.lst (nI ((List.range j).filter fun p=>decide (Lp bs p=t))))) ⟨none,rfl,Same.new hZ _,Ab⟩ ?_ ?_
 ·rintro j τ H2 hj ⟨o,rfl,s2,eZ⟩
  h ej:(0:Int)+j=(j:Int):=by w
  rw[ej];r⟨1,rfl,(by show 1<=sizeLine; decide),fun M hM=>?_⟩;h s3:=s2.trans (Same.new hM (.lst [.int (-1)]));r⟨_,rfl,p,dx,_,rfl,s3 _ _ hp,Ei _ _ £ £,_,rfl,p,z,j,bs,rfl,hW.same s3,b12,fun l H4 s4 hl el=>?_⟩;h hlen:(hits (j:Int) bs).length<=bs.length:=Ht _ 0 bs;h eM4:=s4 _ _ (show (upd H2 M (.lst [.int (-1)])) M=some (.lst [.int (-1)]) from Ab);r⟨M,l,_,_,rfl,rfl,SqL.of eM4,SqL.of el,Nat.le_of_lt (Ay (by rw[List.length_map]; show 1+_<=1000; w)),fun N hN=>?_⟩;h s5:=Same.new hN (.lst (V.int (-1)::(hits (j:Int) bs).map V.int));r⟨N,(-1:Int)::hits (j:Int) bs,rfl,SqL.of Ab,by simp,fun m hm hx=>?_⟩;h e:=ADr hm hx;h s6:=(s3.trans s4).trans s5;h eZ6:=s5 _ _ (s4 _ _ (Same.new hM _ _ _ eZ));r⟨_,rfl,_,_,rfl,rfl,rfl,_,rfl,?_⟩;h lz:((List.range j).filter fun p=>decide (Lp bs p=t)).length<=j:=Nat.le_trans (List.length_filter_le ..) (by rw[List.length_range]; !Nat.le_refl _);r ite2 (fun c=>?_) (fun c=>?_)
  ·h c':Lp bs j=t:=by
    have:=of_decide_eq_true c;injection this with this
    w
   r⟨_,rfl,_,eZ6,Ay (by rw[Zw]; w),_,rfl,fun b o e=>?_,?_⟩
   ·rw[Af (Ag e hZ)]
    !s6 b o e
   ·rw[Ab,List.range_succ,List.filter_append,List.filter_cons_of_pos (by simpa using c')]
    unfold nI;rw[List.map_append];rfl
  ·h c':¬ Lp bs j=t:=fun z=>c (decide_eq_true (by rw[e,z]))
   r⟨_,rfl,s6,?_⟩;rw[List.range_succ,List.filter_append,List.filter_cons_of_neg (by simpa using c'),List.filter_nil,List.append_nil];!eZ6
 ·rintro τ H2 ⟨o,rfl,s2,eZ⟩
  rw[Int.toNat_natCast] at eZ;!q Z H2 s2 hZ eZ
end
end K53
end
section
namespace L2
open PySem PySem.Spec PyProof.Rows
section
variable{prog:Program}{w:World}{A:Around}{E:Value->Shared->Prop}{s:Shared}{d:Addr}{o:Obj}{es:Array DictEntry}{ep:Nat}
theorem MK(d:Addr)(hd:(d==sysModules)=false) :
  MeetsIn prog w (Builtin.«dict.__len__» ⟨[.ref d],[]⟩) (fun _ R s=>∃ o es ep,s.heap.get? d=some o/\o.data=.dict es ep/\R (.ok (.ret (.int es.size s.toks))) {s with toks:=s.toks+1}) :=
 .of_wp fun A R s ⟨o,es,ep,ho,hdat,h⟩=>by
  show wpAny _ _ (dictSize d >>= _) _ _ s;unfold dictSize;r wpAny_bind (wpAny_bind (wpAny_dictEntries ho hdat (wpAny_pure ?_)));show wpAny _ _ (Builtin.Dict.pendingCount d >>= _) _ _ s;r wpAny_bind (wpAny_pendingCount_other hd ?_);r wpAny_ret_mkInt ?_;rw[Nat.add_zero]; !h
theorem ACc{Q:Value->Shared->Prop}(hd:(d==sysModules)=false)(hT:s.TypeIs (.ref d) "dict")(ho:s.heap.get? d=some o)(hdat:o.data=.dict es ep)(hfit:(es.size:Int)<2 ^ 63)
  (h:Q (.int es.size (s.toks+1)) {s with toks:=s.toks+1+1}):wpAny ① A (call (.builtin "len") [.ref d]) Q E s:=by
 r Calls.call_function_entry kind_len plain_len entry_len (args_len1 _) ?_;unfold Builtin.«len»;r wpAny_bind (m:=oneArg "len" _) (wpAny_pure ?_);r wpAny_bind (m:=callSpecial? (.ref d) (Str.ofString "__len__")) (wpAny_callSpecial?_slot (name:=Str.ofString "__len__") hT PySem.F.slot_dict_len
  (call_meetsIn PySem.F.slot_dict_len hT PySem.F.entry_dict_len (PySem.F.args_dict_len_1 _) (MK d hd) ⟨o,es,ep,ho,hdat,?_⟩))
 show wpAny _ _ _ _ _ {s with toks:=s.toks+1};r wpAny_bind (wpAny_holding (wpAny_pure ?_));r wpAny_bind (wpAny_letGo ?_);show wpAny _ _ (if ((es.size:Nat):Int)<0 then _ else _) _ _ _;rw[if_neg ¢];show wpAny _ _ (if ((es.size:Nat):Int) >= 2 ^ 63 then _ else _) _ _ _;rw[if_neg ¢];!wpAny_bind (wpAny_mkInt (wpAny_pure ⟨_,rfl,h⟩))
end
section
variable{X:Cx}
theorem TX:CallR X (.builtin "len") (fun xs H Q=>∃ p kvs,xs=[.ref p]/\H p=some (.dT kvs)/\Q (.int kvs.length) H):=by
 intro pins s σ H xs us Q I rr h;o⟨p,kvs,rfl,hp,q⟩:=h;o⟨u,rfl,ru⟩:=rr.one;cases ru;o⟨z,lo,ts,kt,o,es,ep,h1,h2,h3,h4,h5⟩:=(show ObjOk X.prog X.w H s.heap p (.dT kvs) from I.hok p _ hp);h hl:es.size=kvs.length:=by
  rw[<- Array.length_toList,h4,List.length_map];!(Paired.length kt).symm
 r ACc lo ⟨o,h1,h2.1⟩ h1 h3 (by rw[hl]; rw[sizeLine_eq] at z; w) ?_;!⟨.int kvs.length,H,I.tok _,⟨_,by rw[hl]⟩,q⟩
end
def Itd(lo:Int)(n:Nat):It:=⟨fun i _=>i<n,fun i H x H'=>H'=H/\x=.int (lo-i),fun i _=>n<=i⟩
theorem Xv{P:Program}{w:World}{K:¨}{tg:Expr}(it:Addr)(lo:Int)(n:Nat):Turn P w K tg (Itd lo n) [it] it (fun i h=>IsRangeIter h it (lo+(i:Nat)*(-1)) ((n:Int)-(i:Nat)) (-1)) where
 mem:=by simp
 obj:=fun i h st b hb=>by
  h e:b=it:=by simpa using hb
  subst e;!⟨_,st,fun v z=>by
   h z':Data.fields _=Data.cell v:=z;cases z'⟩
 keep:=fun i h h' st k=>k it ¥ _ st
 item:=by
  intro X hP hw hK hc i pins s σ H E I hf st hg;subst hP hw hK;o⟨f0,f1,f2,f3,f4,f5⟩:=hf it ¥;h W:=Walks.range (prog:=X.prog) (w:=X.w) (I.ok.hd hc) it lo (-1) n;r W.item i s _ _ hg st fun v h' tk hv st' kk=>?_;o⟨t,rfl⟩:=hv;h I1:Inv X pins σ H {s with heap:=h',toks:=tk}:=I.turned (fun b o hb e=>kk b o (by simpa using hb) e) f0 f1 f3 f4 f5;r⟨_,rfl,Wh (s:={s with heap:=h',toks:=tk}) (n:="range_iterator") st' rfl rfl ¤ ⟨.int (lo-i),H,I1,⟨t,?_⟩,⟨rfl,rfl⟩,st',fun b hb=>(hf b hb).1⟩⟩
  congr 1
  w
 done:=by
  intro X hP hw hK hc i pins s σ H E I hf st hg;subst hP hw hK;o⟨f0,f1,f2,f3,f4,f5⟩:=hf it ¥;!wpAny_pyNext_range_end (I.ok.hd hc) st (by have:n<=i:=hg; w) fun h' eb=>⟨rfl,I.turned (t':=s.toks) (fun b o hb e=>eb b o hb e) f0 f1 f3 f4 f5⟩
 self:=fun _ _ _ _ _ st h=>wpAny_pyIter_rangeiter st h
theorem rangeSize_down(a b:Int):Builtin.Range.rangeSize a b (-1)=if b<a then a-b else 0:=by
 unfold Builtin.Range.rangeSize;simp only[show ¬ ((-1:Int)>0) by decide,if_false];split
 ·rw[show (- -1:Int)=1 from rfl,Int.ediv_one]; w
 ·rfl
theorem small_down{a b:Int}(ha:-(2 ^ 62)<=a)(ha':a<2 ^ 62)(hb:-(2 ^ 62)<=b)(hb':b<2 ^ 62):Builtin.Range.small a b (-1)=true:=by
 unfold Builtin.Range.small;rw[rangeSize_down];simp only[Builtin.Range.rangeFitsLong,Bool.and_eq_true,Bool.or_eq_true,decide_eq_true_eq,beq_iff_eq,show ¬ ((-1:Int)>0) by decide,if_false];split<;>w
section
variable{X:Cx}{tg:Expr}
theorem Xc{pins:List ⑤}{σ:St}{H:Hp}{s:Shared}{R:It->Hp->Prop}{E:Value->Shared->Prop}{lo hi:Int}{t u v:Tok}{tk:Nat}(I:Inv X pins σ H s)(h1:-(2 ^ 62)<=lo)(h2:lo<2 ^ 62)(h3:-(2 ^ 62)<=hi)(h4:hi<2 ^ 62)
  (q:R (Itd lo (lo-hi).toNat) H):wpAny ② X.A (pyIter (.ref ¸)) (PIE X pins σ tg R) E {s with heap:=s.heap.push {cls:=.type "range",data:=.fields #[.int lo t,.int hi u,.int (-1) v]},toks:=tk}:=by
 r wpAny_pyIter_range (IsRange.new ..) (small_down h1 h2 h3 h4) ?_;h I1:Inv X pins σ H {s with heap:=s.heap.push {cls:=.type "range",data:=.fields #[.int lo t,.int hi u,.int (-1) v]},toks:=tk}:=I.kept fun b o e=>° _ e;r⟨(s.heap.push {cls:=.type "range",data:=.fields #[.int lo t,.int hi u,.int (-1) v]}).objs.size,[(s.heap.push {cls:=.type "range",data:=.fields #[.int lo t,.int hi u,.int (-1) v]}).objs.size],_,_,H,rfl,
  I1.kept (t':=tk) fun b o e=>° _ e,Xv _ lo (lo-hi).toNat,?_,fun b hb=>?_,q⟩
 ·h e1:lo+((0:Nat):Int)*(-1)=lo:=by simp
  h e2:(((lo-hi).toNat:Nat):Int)-((0:Nat):Int)=Builtin.Range.rangeSize lo hi (-1):=by rw[rangeSize_down]; split<;>w
  show IsRangeIter _ _ (lo+((0:Nat):Int)*(-1)) ((((lo-hi).toNat:Nat):Int)-((0:Nat):Int)) (-1);rw[e1,e2];!¿ _ rfl
 ·h e:b=(s.heap.push {cls:=.type "range",data:=.fields #[.int lo t,.int hi u,.int (-1) v]}).objs.size:=by simpa using hb
  subst e;!I1.fpOk ③ (I1.hok.fresh ③)
def AFJ(ta:TA):TI:=fun σ H R=>ta σ H fun vs H1=>∃ i j:Int,vs=[.int i,.int j,.int (-1)]/\(-(2 ^ 62)<=i/\i<2 ^ 62/\-(2 ^ 62)<=j/\j<2 ^ 62)/\R (Itd i (i-j).toNat) H1
theorem NT{a b c:Expr}{ta:TA}{p pos:Pos}(hg:Gl X "range")(hm:X.mg "range" = none)(ha:PA X [a,b,c] ta)(hs:starEach [a,b,c] X.env=[(false,eval a X.env),(false,eval b X.env),(false,eval c X.env)]:=by rfl)(hs2:starEach [b,c] X.env=[(false,eval b X.env),(false,eval c X.env)]:=by rfl) :
  PI X tg (.Call (.Name "range" p) [a,b,c] [] pos) (AFJ ta):=by
 intro pins s σ H R I h;r Call_ (Ej I hg hm boot_range (PyProof.Rows.callWith_type1 (thn (ha pos pins s σ H _ I h) fun us s1 ⟨vs,H1,I1,r1,q1⟩=>?_) (by rw[hs,hs2]) (by rw[hs2]; rfl)));o⟨i,j,e,⟨q1,q2,q3,q4⟩,q⟩:=q1;subst e;cases r1 with
 | cons r rr =>
  cases rr with
  | cons r' rr =>
   cases rr with
   | cons r'' rr =>
    cases rr;o⟨t,rfl⟩:=r;o⟨t',rfl⟩:=r';o⟨t'',rfl⟩:=r'';!call_range_3 ¤ (Xc I1 q1 q2 q3 q4 q) (.inl (PyProof.noPylong_small ¤))
theorem Qj{lo:Int}{n:Nat}{g:TG}{tb:TS}{D:Ends}{σ:St}{H:Hp}(Pv:Nat->St->Hp->Prop)(h0:Pv 0 σ H)
  (hs:∀ i σ H,i<n->Pv i σ H->g (.int (lo-i)) σ H fun σ2 H2=>tb {D with nx:=Pv (i+1),ct:=Pv (i+1),bk:=D.nx} σ2 H2) (hd:∀ σ H,Pv n σ H->D.nx σ H) :
  ∃ W:Nat->Nat->St->Hp->Prop,(∃ m,W 0 m σ H)/\∀ i m σ H,W i m σ H ->
   ((Itd lo n).stop i H/\D.nx σ H)\/((Itd lo n).go i H/\∃ N:St->Hp->Prop,(∀ σ' H',N σ' H'->∃ m',m'<m/\W (i+1) m' σ' H')/\∀ x H',(Itd lo n).yld i H x H'->g x σ H' fun σ2 H2=>tb {D with nx:=N,ct:=N,bk:=D.nx} σ2 H2):=by
 r⟨fun i m σ H=>m=n-i/\i<=n/\Pv i σ H,⟨n,by simp,Nat.zero_le _,h0⟩,?_⟩;rintro i m σ H ⟨rfl,hi,p⟩;by_cases hlt:i<n
 ·r .inr ⟨hlt,Pv (i+1),fun σ' H' p'=>⟨n-(i+1),by w,rfl,hlt,p'⟩,fun x H' y=>?_⟩
  o⟨e,y⟩:=y;subst e y;!hs i σ _ hlt p
 ·h e:i=n:=by w
  subst e;!.inl ⟨Nat.le_refl _,hd σ H p⟩
end
end L2
end
section
namespace L2
open PySem
open Sem (wp)
end L2
end
section
namespace L2
open PySem
open Sem (wp)
open AutoSeq1 (wpAny_loadPart')
end L2
end
section
namespace L2
open PySem PySem.Spec PyProof.Rows
theorem Yq{bs:List Bool}{us:List Value}(r:Vals (bs.map V.bl) us):us=bs.map Value.bool:=by
 induction bs generalizing us with
 | nil=>cases r; rfl
 | cons b bs ih =>
  rw[List.map_cons] at r;cases r with
  | cons h t =>
   rw[ih t,List.map_cons]
   congr 1
section
variable{X:Cx}{K:¨}
theorem Ld(hc:X.calm=true):CallR X (.builtin "all") (fun xs H Q=>∃(p:Addr) (bs:List Bool),xs=[.ref p]/\SqL X.K H p (bs.map V.bl)/\Q (.bl (bs.all id)) H):=by
 intro pins s σ H xs us Q I r h;o⟨p,bs,rfl,hq,q⟩:=h;o⟨u0,rfl,ru⟩:=r.one;cases ru;o⟨its,rv,pl,hz⟩:=I.list hq;h e:=Yq rv;subst e;h hl:=pl.isList;h hlt:p<¸:=by o⟨_,e,_⟩:=hl; !Heap.lt_size e
 r call_all_walk (wpAny_pyIter_list hl ?_);r⟨¸,[¸,p],[¸],(bs.map Value.bool).toArray.size,_,_,fun i=>(bs[i]?).getD true,rfl,Walks.list (A:=X.A.in1) (I.ok.hd hc) _ p (Nat.ne_of_lt hlt) (bs.map Value.bool).toArray,
  ⟨⟨_,¿ _ rfl,rfl,rfl⟩,hl.push _⟩,fun i v s' Q' E' hP hQ=>?_,fun h' tk hk=>?_⟩
 ·h hP':(bs.map Value.bool)[i]?=some v:=by simpa using hP
  rw[List.getElem?_map] at hP';cases g:bs[i]? with
  | none=>rw[g] at hP'; cases hP'
  | some b =>
   rw[g] at hP';cases hP';simp only[g,Option.getD_some] at hQ;!wpAny_truthy_bool hQ
 ·h e:((List.range (bs.map Value.bool).toArray.size).all fun i=>(bs[i]?).getD true)=bs.all id:=by
   rw[List.size_toArray,List.length_map]; !LSm.range_all bs
  rw[e];!⟨.bl (bs.all id),H,I.kept (LSm.kept_iter hk),rfl,q⟩
end
end L2
end
section
namespace L2
open PySem PySem.Spec PyProof.Rows
open AutoSeq1 (wpAny_loadPart')
end L2
end
section
theorem L2.smallN{n:Nat}(h:n<=100000):n<PySem.sizeLine:=Nat.lt_of_le_of_lt h ¤
namespace K53s
open PySem L2 G
def top(i:Nat):Stmt:=PySem.Challenge.pw_frontways_k53_whole_grown_of_pairs.main.body.getD i (.Pass ⟨0,0,0,0⟩)
abbrev Fv:Stmt:=top 9
abbrev Hg:Stmt:=top 10
abbrev sIn:Stmt:=top 11
abbrev FP:Stmt:=inClass (top 7) 0
abbrev Ms:Stmt:=inClass (top 7) 1
abbrev JD:Stmt:=inClass (top 7) 2
abbrev Xx:Stmt:=inClass (top 7) 3
theorem ra:¬ (("amount" : Str) = "rows"):=by decide +kernel
theorem ha:¬ (("amount" : Str) = "head"):=by decide +kernel
theorem hr':¬ (("rows" : Str) = "head"):=by decide +kernel
def flds(z:Int)(j:Addr)(h:Int):List (Str×V):=putF "head" (.int h) (putF "rows" (.ref j) (putF "amount" (.int z) []))
theorem Ge(z:Int)(j:Addr)(h:Int):(flds z j h).lookup ("amount" : Str)=some (.int z):=by
 unfold flds;rw[Ai,if_neg ha,Ai,if_neg ra,Ai,if_pos rfl]
theorem Yn(z:Int)(j:Addr)(h:Int):(flds z j h).lookup ("rows" : Str)=some (.ref j):=by
 unfold flds;rw[Ai,if_neg hr',Ai,if_pos rfl]
structure Txt(K:¨)(mg:Str->Option Value)(C:Addr):Prop where
 cl:Cls K C
 nA:NoAttr K C "amount"
 nR:NoAttr K C "rows"
 nH:NoAttr K C "head"
 mgC:mg "Sieve" = some (.ref C)
 mt:∃ t,mg "MOST_TIES" = some (.int 12 t)
 len:mg "len" = none
 range:mg "range" = none
 int:mg "int" = none
 sorted:mg "sorted" = none
 set:mg "set" = none
 tuple:mg "tuple" = none
 list:mg "list" = none
 bool:mg "bool" = none
 enum:mg "enumerate" = none
 all:mg "all" = none
 isi:mg "isinstance" = none
 min:mg "min" = none
 rev:mg "reversed" = none
def rRow(K:¨):Rep Row:=fun H r v=>∃ p,v=.ref p/\SqT K H p [.int r.1,.int r.2.1,.int r.2.2]
theorem Bu{K:¨}:TRep (rRow K):=fun H H' r v t ⟨p,a,b⟩=>⟨p,a,t.seq b⟩
def SvAt(K:¨)(C:Addr)(H:Hp)(p:Addr)(z:Int)(rows:List Row)(h:Int):Prop:=∃ dx j,H p=some (.ins C dx (flds z j h))/\rTup K (rRow K) H rows (.ref j)
theorem SvAt.same{K:¨}{C:Addr}{H H':Hp}{p:Addr}{z hd:Int}{rows:List Row}(h:SvAt K C H p z rows hd)(e:Same H H'):SvAt K C H' p z rows hd:=by
 o⟨dx,j,h1,h2⟩:=h;!⟨dx,j,e _ _ h1,Aq Bu _ _ _ _ e.ts h2⟩
def JW(K:¨)(C:Addr):Sp:=fun vs H Q _=>∃(p dx l:Addr) (z h:Int) (xs:List V) (rows:List Row),vs=[.ref p,.int z,.ref l,.int h]/\H p=some (.ins C dx [])/\SqL K H l xs/\Paired (rRow K H) rows xs /\
 ∀(H':Hp),(∀ b o,H b=some o->b≠p->H' b=some o)->SvAt K C H' p z rows h->Q .non H'
def Zo(K:¨)(C:Addr):Sp:=fun vs H Q _=>∃(p:Addr) (z h:Int) (rows:List Row),vs=[.ref p]/\SvAt K C H p z rows h/\Q (.int z) H
def ACp(K:¨)(C:Addr):Sp:=fun vs H Q _=>∃(p:Addr) (z h:Int) (rows:List Row),vs=[.ref p]/\SvAt K C H p z rows h/\Q (.int h) H
def Vk(K:¨)(C:Addr):Sp:=fun vs H Q _=>∃(p:Addr) (z h:Int) (rows:List Row),vs=[.ref p]/\SvAt K C H p z rows h/\∀(l:Addr) (ys:List V) (H':Hp),Same H H'->H l=none->H' l=some (.lst ys)->Paired (rRow K H') rows ys->Q (.ref l) H'
section
variable{P:Program}{w:World}{K:¨}{mg:Str->Option Value}{base:Heap}{f C:Addr}{fd:FuncData}
theorem ADj:FnScope ["self"] ["self"] (Ac Ms):=¡
theorem ACJ(F:Fun K "many" "Sieve.many" Ms f fd)(T:Txt K mg C):FnOk P w K mg base CX0 1 f fd ["self"] (Zo K C):=by
 r F.ok ADj § ¦
 ·o⟨p,z,hd,rows,rfl,_⟩:=h
  rfl
 o⟨p,z,hd,rows,rfl,⟨dx,j,hP,hj⟩,q⟩:=h;r⟨_,Aj (Av (Bt (pv 0) rfl)),?_⟩;!⟨_,rfl,p,C,dx,_,_,rfl,hP,T.cl,T.nA,Ge _ _ _,q⟩
theorem ACm:FnScope ["self"] ["self"] (Ac JD):=¡
theorem ZL(F:Fun K "knots" "Sieve.knots" JD f fd)(T:Txt K mg C):FnOk P w K mg base CX0 1 f fd ["self"] (Vk K C):=by
 r F.ok ACm § ¦
 ·o⟨p,z,hd,rows,rfl,_⟩:=h
  rfl
 o⟨p,z,hd,rows,rfl,⟨dx,j,hP,j',xs,ej,hj,pj⟩,q⟩:=h;cases ej;r⟨_,Aj (Av (Bk Fl rfl T.list PyProof.Rows.boot_list (Aa (Bt (pv 0) rfl) Ad))),?_⟩;r⟨_,rfl,p,C,dx,_,_,rfl,hP,T.cl,T.nR,Yn _ _ _,j,xs,rfl,.inr hj,fun l hl=>?_⟩;r q l xs _ (Same.new hl _) hl Ab ?_;!Paired.imp (fun a b=>Bu H _ a b (TSm.new hl)) pj
theorem YJ(z:Int)(j:Addr)(h:Int):(flds z j h).lookup ("head" : Str)=some (.int h):=by
 unfold flds;rw[Ai,if_pos rfl]
theorem AEs:FnScope ["self"] ["self"] (Ac Xx):=¡
theorem ADY(F:Fun K "top" "Sieve.top" Xx f fd)(T:Txt K mg C):FnOk P w K mg base CX0 1 f fd ["self"] (ACp K C):=by
 r F.ok AEs § ¦
 ·o⟨p,z,hd,rows,rfl,_⟩:=h
  rfl
 o⟨p,z,hd,rows,rfl,⟨dx,j,hP,hj⟩,q⟩:=h;r⟨_,Aj (Av (Bt (pv 0) rfl)),?_⟩;!⟨_,rfl,p,C,dx,_,_,rfl,hP,T.cl,T.nH,YJ _ _ _,q⟩
theorem Vh:FnScope ["self", "n", "rows", "head"] ["self", "n", "rows", "head"] (Ac FP):=¡
theorem Hr(F:Fun K "__init__" "Sieve.__init__" FP f fd)(T:Txt K mg C):FnOk P w K mg base CX0 1 f fd ["self", "n", "rows", "head"] (JW K C):=by
 r F.ok Vh § ¦
 ·o⟨p,dx,l,z,h,xs,rows,rfl,_⟩:=h
  rfl
 o⟨p,dx,l,z,h,xs,rows,rfl,hP,hS,pa,q⟩:=h;r⟨_,Ae (Dp (pv 0) (pv 1) rfl)
  (Ae (Dp (pv 0) (Bk Ce rfl T.tuple PyProof.Rows.boot_tuple (Aa (pv 2) Ad)) rfl)
  (Aj (Dp (pv 0) (pv 3) rfl))),?_⟩
 h sl:∀{H:Hp}{fs gs:List (Str×V)}{a:Addr}{zs:List V},H p=some (.ins C dx fs)->SqL K H a zs->SqL K (upd H p (.ins C dx gs)) a zs:=fun {H fs gs a zs} hP h=>by
  rcases h with (h | ⟨o,h⟩) | h
  ·!.inl (.inl (by rw[Af (Cd h hP (by intro z; cases z))]; !h))
  ·!.inl (.inr ⟨o,by rw[Af (Cd h hP (by intro z; cases z))]; !h⟩)
  ·!.inr h
 h ts:∀{H:Hp}{fs gs:List (Str×V)},H p=some (.ins C dx fs)->TSm H (upd H p (.ins C dx gs)):=fun {H fs gs} hP b u hb t=>by
  rw[Af ?_]
  ·!hb
  ·rintro rfl
   rw[hP] at hb;cases hb;o⟨ys,e | ⟨o,e⟩⟩:=t
   ·cases e
   ·cases e
 r⟨_,rfl,_,rfl,p,C,dx,[],rfl,hP,T.cl,T.nA,(by show 0<1000; decide),?_⟩;r⟨_,rfl,l,xs,rfl,.inl ⟨sl hP hS,fun j hj=>?_⟩⟩;h jp:p≠j:=fun e=>by rw[<- e,Ab] at hj; cases hj
 h hP2:(upd (upd H p (.ins C dx (putF "amount" (.int z) []))) j (.tup xs)) p=some (.ins C dx (putF "amount" (.int z) [])):=by rw[Af jp,Ab]
 h t2:=ts (gs:=putF "rows" (.ref j) (putF "amount" (.int z) [])) hP2;r⟨_,rfl,p,C,dx,_,rfl,hP2,T.cl,T.nR,(by show 1<1000; decide),?_⟩;h t3:=ts (H:=upd (upd (upd H p (.ins C dx (putF "amount" (.int z) []))) j (.tup xs)) p (.ins C dx (putF "rows" (.ref j) (putF "amount" (.int z) [])))) (gs:=flds z j h) Ab;r⟨_,rfl,_,rfl,p,C,dx,_,rfl,Ab,T.cl,T.nH,(by show 2<1000; decide),?_⟩;r q _ (fun b o e hb=>?_) ⟨dx,j,Ab,j,xs,rfl,t3.seq (t2.seq (SqT.of Ab)),?_⟩
 ·rw[Af hb,Af hb,Af ?_,Af hb]
  ·!e
  ·rintro rfl
   rw[Af hb,e] at hj;cases hj
 ·!Paired.imp (fun a b r=>Bu _ _ _ _ t3 (Bu _ _ _ _ t2 (Bu _ _ _ _ (TSm.new hj) (Bu _ _ _ _ (ts hP) r)))) pa
end
abbrev Sq(K:¨)(H:Hp)(l:Addr)(xs:List V):Prop:=SqL K H l xs\/SqT K H l xs
theorem Sq.same{K:¨}{H H':Hp}{l:Addr}{xs:List V}(h:Sq K H l xs)(e:Same H H'):Sq K H' l xs:=h.elim (fun z=>.inl (e.seq z)) fun z=>.inr (e.ts.seq z)
def rIxA(K:¨):R2:=fun x y H Q=>rIxL K x y H Q\/rIxT K x y H Q
theorem Ga{X:Cx}:IxR X (rIxA X.K):=by
 intro value slice pins s σ H x y v u Q I rx ry h hs;rcases h with h | h
 ·!Bl value slice pins s σ H x y v u Q I rx ry h hs
 ·!Dn value slice pins s σ H x y v u Q I rx ry h hs
theorem Pz{X:Cx}{K:¨}(hK:X.K=K):IxR X (rIxA K):=by subst hK; !Ga
theorem ixA{K:¨}{H:Hp}{p:Addr}{xs:List V}{i:Int}{v:V}{Q:VK}(h:Sq K H p xs)(e:atI xs i=some v)(q:Q v H):rIxA K (.ref p) (.int i) H Q :=
 h.elim (fun z=>.inl ⟨p,_,i,_,rfl,rfl,z,e,q⟩) fun z=>.inr ⟨p,_,i,_,rfl,rfl,z,e,q⟩
def rRowA(K:¨)(H:Hp)(r:Row)(v:V):Prop:=∃ p,v=.ref p/\Sq K H p [.int r.1,.int r.2.1,.int r.2.2]
theorem XS{K:¨}{H H':Hp}{r:Row}{v:V}(e:Same H H')(h:rRowA K H r v):rRowA K H' r v:=let ⟨p,a,b⟩:=h; ⟨p,a,b.same e⟩
def RowsAt(K:¨)(H:Hp)(l:Addr)(rows:List Row):Prop:=∃ xs,Sq K H l xs/\Paired (rRowA K H) rows xs
theorem RowsAt.same{K:¨}{H H':Hp}{l:Addr}{rows:List Row}(h:RowsAt K H l rows)(e:Same H H'):RowsAt K H' l rows:=let ⟨xs,a,b⟩:=h; ⟨xs,a.same e,Paired.imp (fun _ _ r=>XS e r) b⟩
theorem RowsAt.of{K:¨}{H:Hp}{l:Addr}{rows:List Row}(h:rLst K (rRow K) H rows (.ref l)):RowsAt K H l rows:=by
 o⟨l',xs,e,hS,pa⟩:=h;cases e;!⟨xs,.inl hS,Paired.imp (fun _ _ ⟨p,a,b⟩=>⟨p,a,.inr b⟩) pa⟩
abbrev iN(s:List Nat):List V:=s.map fun(x:Nat)=>V.int (x:Int)
theorem Pj{K:¨}{H:Hp}{rows:List Row}{l:Addr}{k:Nat}(h:RowsAt K H l rows)(kn:Knot rows k)(h2:2<=k) :
  ∃ xs p,Sq K H l xs/\atI xs ((k:Int)-2)=some (.ref p)/\Sq K H p [.int ÷.1,.int ÷.2.1,.int ÷.2.2]:=by
 o⟨xs,hS,pa⟩:=h;o⟨v,hv,p,rfl,hp⟩:=Paired.getL pa (Bg kn h2);!⟨xs,p,hS,by rw[show (k:Int)-2=((k-2:Nat):Int) by w]; !Bm hv,hp⟩
theorem ZW{K:¨}{H:Hp}{rows:List Row}{l:Addr}{k:Nat}(h:rLst K (rRow K) H rows (.ref l))(kn:Knot rows k)(h2:2<=k) :
  ∃ xs p,SqL K H l xs/\atI xs ((k:Int)-2)=some (.ref p)/\SqT K H p [.int ÷.1,.int ÷.2.1,.int ÷.2.2]:=by
 o⟨l',xs,e,hS,pa⟩:=h;cases e;o⟨v,hv,p,rfl,hp⟩:=Paired.getL pa (Bg kn h2);!⟨xs,p,hS,by rw[show (k:Int)-2=((k-2:Nat):Int) by w]; !Bm hv,hp⟩
theorem at0{a b c:V}:atI [a,b,c] 0=some a:=rfl
theorem at1{a b c:V}:atI [a,b,c] 1=some b:=rfl
theorem at2{a b c:V}:atI [a,b,c] 2=some c:=rfl
structure Ex(K:¨)(mg:Str->Option Value)(x:Str)(c:Addr):Prop where
 m:mg x=some (.ref c)
 ex:PySem.W.excIn K c [.type "ValueError",.type "Exception",.type "BaseException",.type "object"] "ValueError.__new__" = true
def lay(rows:List Row)(t:Nat)(rc:List Nat)(j:Nat):List Nat:=(rc.take j).filter fun k=>decide (tieOf rows k=t)
theorem RV{rows:List Row}{t:Nat}{rc:List Nat}{j k:Nat}(h:rc[j]?=some k):lay rows t rc (j+1)=lay rows t rc j++if tieOf rows k=t then [k] else []:=by
 unfold lay;rw[List.take_add_one,h,List.filter_append];by_cases c:tieOf rows k=t
 ·simp[c]
 ·simp[c]
theorem Ig{rows:List Row}{t:Nat}{rc:List Nat}{k:Nat}:k∈lay rows t rc rc.length↔k∈rc/\tieOf rows k=t:=by
 unfold lay;rw[List.take_length,List.mem_filter];simp
theorem JT{n:Nat}(h:n<=20000):n<sizeLine:=Nat.lt_of_le_of_lt h ¤
def has(kvs:List (Key×V))(k:Nat):Prop:=(valV kvs (.inl (k:Int))).isSome=true
theorem has_put{kvs:List (Key×V)}{a k:Nat}{v:V}:has (putK kvs (.inl (a:Int)) v) k↔k=a\/has kvs k:=by
 unfold has;rw[Ed];by_cases e:k=a
 ·subst e; simp
 ·rw[if_neg (fun z=>e (by injection z with z; w))]
  !⟨.inr,fun h=>h.resolve_left e⟩
def rcOf(kvs:List (Key×V))(i:Nat):List Nat:=((List.range i).map (·+2)).filter fun k=>(valV kvs (.inl (k:Int))).isSome
theorem Nj(kvs:List (Key×V))(i:Nat):rcOf kvs (i+1)=rcOf kvs i++if (valV kvs (.inl ((i+2:Nat):Int))).isSome=true then [i+2] else []:=by
 unfold rcOf;rw[List.range_succ,List.map_append,List.filter_append,List.map_singleton,List.filter_cons,List.filter_nil]
theorem Kd{kvs:List (Key×V)}{i k:Nat}:k∈rcOf kvs i↔2<=k/\k<i+2/\has kvs k:=by
 unfold rcOf has;rw[List.mem_filter,List.mem_map];constructor
 ·rintro⟨⟨a,ha,rfl⟩,h⟩
  rw[List.mem_range] at ha;!⟨by w,by w,h⟩
 ·rintro⟨h1,h2,h3⟩
  !⟨⟨k-2,List.mem_range.mpr ¢,by w⟩,h3⟩
theorem Ze(kvs:List (Key×V))(i:Nat):(rcOf kvs i).length<=i:=by
 unfold rcOf;r Nat.le_trans (List.length_filter_le _ _) ?_;rw[List.length_map,List.length_range];!Nat.le_refl _
theorem getD_map:∀(rows:List Row),(List.range rows.length).map (fun i=>rows.getD i (0,0,0))=rows:=fun rows=>by
 apply List.ext_getElem?;intro i;by_cases c:i<rows.length
 ·simp[c]
 ·simp[c]
theorem AAL{rows:List Row}{rc:List Nat}{t j m:Nat}(h:rc.Sublist ((List.range m).map (·+2)))(hm:m<=rows.length):(lay rows t rc j).length<=(rows.filter fun r=>decide (r.1=t)).length:=by
 h h1:(lay rows t rc j).Sublist (((List.range rows.length).map (·+2)).filter fun k=>decide (tieOf rows k=t)):=by
  unfold lay;!(((List.take_sublist _ _).trans h).trans ((List.range_sublist.mpr hm).map _)).filter _
 r Nat.le_trans h1.length_le ?_;h e:(rows.filter fun r=>decide (r.1=t))=(((List.range rows.length).filter fun i=>decide ((rows.getD i (0,0,0)).1=t)).map fun i=>rows.getD i (0,0,0)):=by
  conv=>lhs; rw[<- getD_map rows]
  rw[List.filter_map];rfl
 rw[e,List.length_map,List.filter_map,List.length_map];!Nat.le_refl _
theorem ADw(kvs:List (Key×V))(i:Nat):(rcOf kvs i).Sublist ((List.range i).map (·+2)):=List.filter_sublist
def AEz(K:¨):Sp:=fun vs H Q _=>∃(d p:Addr) (r:Row) (x y:Nat) (kvs:List (Key×V)),vs=[.ref d,.ref p]/\H d=some (.dK kvs)/\rRowA K H r (.ref p)/\valV kvs (.inl (r.2.1:Int))=some (.int x)/\valV kvs (.inl (r.2.2:Int))=some (.int y) /\
 ∀ t,H t=none->Q (.ref t) (upd H t (.tup [.int r.1,.int x,.int y]))
def WK(K:¨):Sp:=fun vs H Q _=>∃(l:Addr) (n top:Nat) (rows:List Row),vs=[.ref l,.int top]/\RowsAt K H l rows/\Ok n rows/\rows.length<=4100/\Knot rows top /\
 ∀(D:Addr) (rc:List Nat) (H':Hp),Same H H'->H D=none->H' D=some (.lst (iN rc))->Closed rows rc->(top<=1\/top∈rc)->(∀ t j,(lay rows t rc j).length<=(rows.filter fun r=>decide (r.1=t)).length)->(∀ k∈rc,k=top\/∃ k'∈rc,k<k'/\(outOf rows k'=k\/intoOf rows k'=k))->Q (.ref D) H'
section
variable{P:Program}{w:World}{K:¨}{mg:Str->Option Value}{base:Heap}{f C:Addr}{fd:FuncData}
theorem AFi:FnScope ["places", "row"] ["places", "row"] (Ac sIn):=¡
theorem AEk(F:Fun K "row_in_places" "row_in_places" sIn f fd):FnOk P w K mg base CX0 1 f fd ["places", "row"] (AEz K):=by
 r F.ok AFi § ¦
 ·o⟨d,p,r,x,y,kvs,rfl,_⟩:=h
  rfl
 o⟨d,p,r,x,y,kvs,rfl,hd,⟨p',e,hp⟩,hx,hy,q⟩:=h;cases e;r⟨_,Aj (Av (CG (Aa (Bc Ga (pv 1) Ah (fun _ _=>rfl)) (Aa (Qe (CW hr) (pv 0) (Bc Ga (pv 1) Ah (fun _ _=>rfl)) (fun _ _=>rfl)) (Aa (Qe (CW hr) (pv 0) (Bc Ga (pv 1) Ah (fun _ _=>rfl)) (fun _ _=>rfl)) Ad))))),?_⟩;r⟨_,rfl,ixA hp at0 ⟨_,rfl,_,rfl,ixA hp at1 ⟨d,.int x,rfl,?_,_,rfl,_,rfl,ixA hp at2 ⟨d,.int y,rfl,?_,(by show 3<=sizeLine; decide),q⟩⟩⟩⟩
 ·have:=DGet.k (k:=.inl (r.2.1:Int)) hd
  rw[hx] at this;!this
 ·have:=DGet.k (k:=.inl (r.2.2:Int)) hd
  rw[hy] at this;!this
theorem PX:FnScope ["rows", "top", "reached", "knot"] ["rows", "top"] (Ac Hg):=¡
theorem AAw(F:Fun K "reached_knots" "reached_knots" Hg f fd)(T:Txt K mg C):FnOk P w K mg base CX0 1 f fd ["rows", "top"] (WK K):=by
 r F.ok PX § ¦
 ·o⟨l,n,top,rows,rfl,_⟩:=h
  rfl
 o⟨l,n,top,rows,rfl,hL,ok,r60,kt,q⟩:=h;r⟨_,Ae (Ax (i:=2) PX.nd rfl (Or.inr rfl) (Wc (Lj (pv 1) Ec WW) rfl rfl (by intro z; cases z) ¤))
  (Ae (Cw PassesOwn.never rfl (NT rfl T.range (Aa (pv 1) (Aa Ah (Aa (Wr Py Ah) Ad)))) (Am (i:=3) PX.nd rfl ④)
   (Aj (CN (KZ (AAn (CW hr) (pv 3) (pv 2)))
    (Ae (Jw (CW hr) (pv 2) (Bc Ga (Bc Ga (pv 0) (Aw DP (pv 3) Ah) (fun _ _=>rfl)) Ah (fun _ _=>rfl)) Ec rfl)
    (Aj (Jw (CW hr) (pv 2) (Bc Ga (Bc Ga (pv 0) (Aw DP (pv 3) Ah) (fun _ _=>rfl)) Ah (fun _ _=>rfl)) Ec rfl))) BX)))
  (Aj (Av (Ca (Ac Hg) ["knot"] ["reached"] [2] rfl rfl £ ⟨⟨rfl,£⟩,trivial⟩ (Xg rfl T.range (Aa Ah (Aa (Aw Cv (pv 1) Ah) Ad)))
   (fun _ _ _=>Am (i:=0) (show ((["knot"]:List Str)++(["reached"]:List Str)).Nodup by decide +kernel) rfl ④)
   (fun _ _ _=>Dg (KZ (AAn (CW hr) (pv 0) (pv 1)) rfl))
   (fun _ _ _=>pv 0))))),?_⟩
 r fun D hD=>⟨_,rfl,Ab,[(.inl (top:Int),.bl true)],rfl,(by show 1<=15; decide),?_⟩;h s0:Same H (upd (upd H D (.dK [])) D (.dK (mergeK [] [(.inl (top:Int),.bl true)]))):=fun b o e=>by rw[Af (Ag e hD),Af (Ag e hD)]; !e
 r⟨_,rfl,_,rfl,(top:Int),1,rfl,⟨by w,by have:top<rows.length+2:=kt; w,by w,by w⟩,?_⟩;r Qj (lo:=(top:Int)) (n:=((top:Int)-1).toNat) (fun i σ H2=>∃(kvs:List (Key×V)) (kv:Option V),σ=[some (.ref l),some (.int top),some (.ref D),kv]/\Same H H2/\H2 D=some (.dK kvs)/\kvs.length<=1+2*i/\has kvs top /\
   (∀ k:Nat,top<k+i->k<=top->has kvs k->has kvs (outOf rows k)/\has kvs (intoOf rows k))/\(∀ k:Nat,has kvs k->k<=top)/\∀ k:Nat,2<=k->has kvs k->k=top\/∃ k',2<=k'/\has kvs k'/\k<k'/\(outOf rows k'=k\/intoOf rows k'=k))
  ⟨_,none,rfl,s0,Ab,by show 1<=1; decide,?_,fun k h1 h2=>by w,?_,?_⟩ ?_ ?_
 ·show has (putK [] (.inl (top:Int)) (.bl true)) top
  !has_put.mpr (.inl rfl)
 ·intro k hk
  rcases has_put.mp (show has (putK [] (.inl (top:Int)) (.bl true)) k from hk) with e | e
  ·w
  ·!absurd e (by intro z; cases z)
 ·intro k _ hk
  rcases has_put.mp (show has (putK [] (.inl (top:Int)) (.bl true)) k from hk) with e | e
  ·!.inl e
  ·!absurd e (by intro z; cases z)
 ·rintro i σ H2 hi ⟨kvs,kv,rfl,sm,eD,hl,ht,hc,hb,hpar⟩
  obtain ⟨k,ek,k2⟩:∃ k:Nat,(top:Int)-i=k/\2<=k:=⟨((top:Int)-i).toNat,by w,by w⟩;h kk:Knot rows k:=by unfold Knot at *; w
  rw[ek];r⟨_,rfl,_,rfl,D,_,rfl,DGet.k (k:=.inl (k:Int)) eD,_,rfl,?_⟩;r ite2 (fun c=>?_) (fun c=>?_)
  ·h hL2:=hL.same sm
   o⟨xs,p,hS,ha,hp⟩:=Pj hL2 kk k2;o⟨_,lo,li,_⟩:=ok.low (Bg kk k2);h z1:kvs.length<sizeLine:=JT (by unfold Knot at kt; w);r⟨_,rfl,_,rfl,_,rfl,_,_,rfl,rfl,ixA hS ha (ixA hp at1 ⟨D,_,rfl,.inl ⟨kvs,.inl (÷.2.1:Int),eD,rfl,z1,rfl⟩,?_⟩)⟩;h l1:=CT kvs (.inl (÷.2.1:Int)) (.bl true);h z2:(putK kvs (.inl (÷.2.1:Int)) (.bl true)).length<sizeLine:=JT (by unfold Knot at kt; w);h sm2:Same H (upd H2 D (.dK (putK kvs (.inl (÷.2.1:Int)) (.bl true)))):=fun b o e=>by rw[Af (Ag e hD)]; !sm b o e
   o⟨xs2,p2,hS2,ha2,hp2⟩:=Pj (hL.same sm2) kk k2;r⟨_,rfl,_,rfl,_,rfl,_,_,rfl,rfl,ixA hS2 ha2 (ixA hp2 at2 ⟨D,_,rfl,.inl ⟨_,.inl (÷.2.2:Int),Ab,rfl,z2,rfl⟩,?_⟩)⟩;h l2:=CT (putK kvs (.inl (÷.2.1:Int)) (.bl true)) (.inl (÷.2.2:Int)) (.bl true);h hup:∀ k',has (putK (putK kvs (.inl (÷.2.1:Int)) (.bl true)) (.inl (÷.2.2:Int)) (.bl true)) k'->k'=outOf rows k\/k'=intoOf rows k\/has kvs k':=fun k' h=>by
    rcases has_put.mp h with e | h
    ·!.inr (.inl e)
    rcases has_put.mp h with e | h
    ·!.inl e
    !.inr (.inr h)
   h hkk:has kvs k:=c;h kle:k<=top:=by w
   h lo':outOf rows k<k:=by unfold outOf; w
   h li':intoOf rows k<k:=by unfold intoOf; w
   r⟨_,_,rfl,fun b o e=>?_,Ab,by w,has_put.mpr (.inr (has_put.mpr (.inr ht))),fun k' h1 h2 h3=>?_,fun k' h=>?_,fun k' h2 h=>?_⟩
   ·rw[Af (Ag e hD),Af (Ag e hD)]
    !sm b o e
   ·by_cases e:k'=k
    ·subst e
     !⟨has_put.mpr (.inr (has_put.mpr (.inl rfl))),has_put.mpr (.inl rfl)⟩
    ·h h4:has kvs k':=by
      rcases has_put.mp h3 with e' | h3
      ·w
      rcases has_put.mp h3 with e' | h3
      ·w
      !h3
     o⟨y1,y2⟩:=hc k' ¢ h2 h4;!⟨has_put.mpr (.inr (has_put.mpr (.inr y1))),has_put.mpr (.inr (has_put.mpr (.inr y2)))⟩
   ·rcases hup k' h with e | e | e
    ·w
    ·w
    ·!hb k' e
   ·h keep:has (putK (putK kvs (.inl (÷.2.1:Int)) (.bl true)) (.inl (÷.2.2:Int)) (.bl true)) k:=has_put.mpr (.inr (has_put.mpr (.inr hkk)))
    rcases hup k' h with e | e | e
    ·!.inr ⟨k,k2,keep,by w,.inl e.symm⟩
    ·!.inr ⟨k,k2,keep,by w,.inr e.symm⟩
    ·rcases hpar k' h2 e with z | ⟨u,z1,z2,z3⟩
     ·!.inl z
     ·!.inr ⟨u,z1,has_put.mpr (.inr (has_put.mpr (.inr z2))),z3⟩
  ·r⟨kvs,_,rfl,sm,eD,by w,ht,fun k' h1 h2 h3=>?_,hb,hpar⟩
   by_cases e:k'=k
   ·subst e
    !absurd h3 c
   ·!hc k' ¢ h2 h3
 ·rintro σ H2 ⟨kvs,kv,rfl,sm,eD,hl,ht,hc,hb,hpar⟩
  r⟨_,rfl,_,_,rfl,rfl,2,(top:Int)+1,rfl,⟨by w,by w,by w,by unfold Knot at kt; w⟩,fun L hL0=>?_⟩;h neL:D≠L:=fun e=>by rw[<- e,eD] at hL0; cases hL0
  h nL:H L=none:=sm.free hL0;r Cj (lo:=2) (n:=((top:Int)+1-2).toNat) (fun i τ H3=>∃ kv:Option V,τ=[kv,some (.ref D)]/\Same H H3/\H3 D=some (.dK kvs)/\H3 L=some (.lst (iN (rcOf kvs i)))) ⟨none,rfl,sm.trans (Same.new hL0 _),by rw[Af neL]; !eD,Ab⟩ ?_ ?_
  ·rintro i τ H3 hi ⟨kv,rfl,sm3,eD3,eL3⟩
   h ei:(2:Int)+i=((i+2:Nat):Int):=by w
   rw[ei];r⟨_,rfl,_,rfl,D,_,rfl,DGet.k (k:=.inl ((i+2:Nat):Int)) eD3,_,rfl,?_⟩;h lr:=Ze kvs i;r ite2 (fun c=>?_) (fun c=>?_)
   ·r⟨_,rfl,_,eL3,JT (by rw[List.length_map]; unfold Knot at kt; w),_,rfl,fun b o e=>?_,by rw[Af neL]; !eD3,?_⟩
    ·rw[Af (Ag e nL)]
     !sm3 b o e
    ·rw[Ab,Nj,if_pos c]
     unfold iN;rw[List.map_append];rfl
   ·r⟨_,rfl,sm3,eD3,?_⟩
    rw[eL3,Nj,if_neg c,List.append_nil]
  ·rintro τ H3 ⟨kv,rfl,sm3,eD3,eL3⟩
   h all:∀ k,k∈rcOf kvs ((top:Int)+1-2).toNat->2<=k/\k<=top/\has kvs k:=fun k hk=>by
    o⟨a,b,c⟩:=Kd.mp hk;!⟨a,by w,c⟩
   h back:∀ k,k<=top->has kvs k->k<=1\/k∈rcOf kvs ((top:Int)+1-2).toNat:=fun k h1 h2=>by
    rcases Nat.lt_or_ge k 2 with c | c
    ·!.inl ¢
    ·!.inr (Kd.mpr ⟨c,by w,h2⟩)
   h kn:∀ k,k<=top->Knot rows k:=fun k h=>by unfold Knot at *; w
   r q L _ H3 sm3 nL eL3 ⟨fun k hk=>(all k hk).1,fun k hk=>kn k (all k hk).2.1,fun k hk=>?_,fun k hk=>?_⟩ (back top ③ ht) (fun t j=>AAL (ADw _ _) (by unfold Knot at kt; w)) (fun k hk=>by
     o⟨a1,b1,c1⟩:=all k hk;rcases hpar k a1 c1 with z | ⟨u,u2,z1,z2⟩
     ·!.inl z
     ·!.inr ⟨u,Kd.mpr ⟨u2,by have:=hb u z1; w,z1⟩,z2⟩)
   ·o⟨a,b,c⟩:=all k hk
    o⟨_,lo,li,_⟩:=ok.low (Bg (kn k b) a);!back _ (by unfold outOf; w) (hc k ¢ b c).1
   ·o⟨a,b,c⟩:=all k hk
    o⟨_,lo,li,_⟩:=ok.low (Bg (kn k b) a);!back _ (by unfold intoOf; w) (hc k ¢ b c).2
end
def ik3(r:Row):List Key:=[.inl (r.1:Int),.inl (r.2.1:Int),.inl (r.2.2:Int)]
abbrev r3(r:Row):List V:=[.int r.1,.int r.2.1,.int r.2.2]
def r3i(r:Row):List Int:=[(r.1:Int),(r.2.1:Int),(r.2.2:Int)]
theorem ACI{a b:Row}(h:ik3 a=ik3 b):a=b:=by
 o⟨a1,a2,a3⟩:=a;o⟨b1,b2,b3⟩:=b;simp[ik3] at h;o⟨h1,h2,h3⟩:=h;injection h1 with h1
 injection h2 with h2
 injection h3 with h3
 h e1:a1=b1:=by w
 h e2:a2=b2:=by w
 h e3:a3=b3:=by w
 rw[e1,e2,e3]
theorem Jt{a b:Row}(h:r3i a=r3i b):a=b:=by
 o⟨a1,a2,a3⟩:=a;o⟨b1,b2,b3⟩:=b;simp[r3i] at h;o⟨h1,h2,h3⟩:=h;h e1:a1=b1:=by w
 h e2:a2=b2:=by w
 h e3:a3=b3:=by w
 rw[e1,e2,e3]
def numKV:Nat->List Row->List (List Key×V)
 | _,[]=>[]
 | i,r::rs=>(ik3 r,.int (i:Int))::numKV (i+1) rs
def numOf:Nat->List Row->Row->Option Nat
 | _,[],_=>none
 | i,a::rs,r=>if a=r then some i else numOf (i+1) rs r
theorem JH:∀(i:Nat) (nums:List Row),(numKV i nums).length=nums.length
 | _,[]=>rfl
 | i,_::rs=>by show (numKV (i+1) rs).length+1=rs.length+1; rw[JH]
theorem JM(r:Row):∀(i:Nat) (nums:List Row),valV (numKV i nums) (ik3 r)=(numOf i nums r).map fun(m:Nat)=>V.int (m:Int)
 | _,[]=>rfl
 | i,a::rs=>by
  by_cases e:a=r
  ·rw[numKV,CP (by show ik3 a=ik3 r; rw[e]),numOf,if_pos e]; rfl
  ·rw[numKV,CQ (fun z=>e (ACI z)),numOf,if_neg e]; !JM r (i+1) rs
theorem Lk(r:Row):∀(i:Nat) (nums:List Row) (m:Nat),numOf i nums r=some m->∃ j,nums[j]?=some r/\m=i+j
 | _,[],_,h=>by cases h
 | i,a::rs,m,h=>by
  unfold numOf at h;by_cases e:a=r
  ·rw[if_pos e] at h
   cases h;!⟨0,by rw[e]; rfl,rfl⟩
  ·rw[if_neg e] at h
   o⟨j,h1,h2⟩:=Lk r (i+1) rs m h;!⟨j+1,by simpa using h1,by w⟩
theorem Kw(r:Row):∀(i:Nat) (nums:List Row),numOf i nums r=none->r∉nums
 | _,[],_=>fun h=>nomatch h
 | i,a::rs,h=>by
  unfold numOf at h;by_cases e:a=r
  ·rw[if_pos e] at h; cases h
  ·rw[if_neg e] at h
   intro hm;rcases List.mem_cons.mp hm with rfl | hm
   ·!e rfl
   ·!Kw r (i+1) rs h hm
theorem Nh(r:Row):∀(i:Nat) (nums:List Row),r∉nums->numOf i nums r=none
 | _,[],_=>rfl
 | i,a::rs,h=>by
  unfold numOf;rw[if_neg (fun e=>h (by rw[e]; !´ ..))];!Nh r (i+1) rs fun z=>h (¶ _ z)
theorem Nq:∀(i:Nat) (nums:List Row) (r:Row),numKV i (nums++[r])=numKV i nums++[(ik3 r,.int ((i+nums.length:Nat):Int))]
 | i,[],r=>rfl
 | i,a::rs,r=>by
  show (ik3 a,V.int (i:Int))::numKV (i+1) (rs++[r])=(ik3 a,V.int (i:Int))::(numKV (i+1) rs++[(ik3 r,V.int ((i+(rs.length+1):Nat):Int))]);rw[Nq (i+1) rs r];rw[show i+1+rs.length=i+(rs.length+1) by w]
theorem Xr{nums:List Row}{r:Row}(h:r∉nums):putK (numKV 2 nums) (ik3 r) (.int (((numKV 2 nums).length:Int)+2))=numKV 2 (nums++[r]):=by
 rw[Ir _ (by rw[JM,Nh r 2 nums h]; rfl),Nq,JH]
 congr 4
 w
theorem Nv{K:¨}{H:Hp}:∀{i:Nat}{nums:List Row}{ys:List V},KeyL H (numKV i nums) ys->Paired (rRow K H) nums ys
 | _,[],_,.nil=>.nil
 | i,r::rs,_,.cons ⟨b,e,hb⟩ t=>.cons ⟨b,e,SqT.of hb⟩ (Nv t)
theorem Jb:∀(ms:List ⑧),(∀ m∈ms,∃ r,m=r3i r)->∃ new:List Row,ms=new.map r3i
 | [],_=>⟨[],rfl⟩
 | m::ms,h=>by
  o⟨r,rfl⟩:=h m (´ ..);o⟨new,rfl⟩:=Jb ms fun x hx=>h x (¶ _ hx);!⟨r::new,rfl⟩
theorem Xq:∀{new:List Row},(new.map r3i).Pairwise (fun a b=>HT.lexLt a b=true)->new.Nodup:=fun {new} h=>by
 h h2:new.Pairwise (fun a b=>HT.lexLt (r3i a) (r3i b)=true):=List.pairwise_map.mp h;!h2.imp fun {a b} z e=>by rw[e,Km] at z; cases z
def plOf(pl:Nat->Option Nat)(place:Nat->Nat)(ks:List Nat)(k:Nat):Option Nat:=if k∈ks then some (place k) else pl k
theorem Zz{pl:Nat->Option Nat}{place:Nat->Nat}{ks:List Nat}{a k:Nat}:plOf pl place (ks++[a]) k=if k=a then some (place a) else plOf pl place ks k:=by
 unfold plOf;by_cases e:k=a
 ·subst e; simp
 ·by_cases h:k∈ks
  ·simp[h,e]
  ·simp[h,e]
def PlD(kvs:List (Key×V))(pl:Nat->Option Nat):Prop:=∀ k:Nat,valV kvs (.inl (k:Int))=(pl k).map fun(p:Nat)=>V.int (p:Int)
theorem PlD.put{kvs:List (Key×V)}{pl:Nat->Option Nat}{place:Nat->Nat}{ks:List Nat}{a:Nat}(h:PlD kvs (plOf pl place ks)):PlD (putK kvs (.inl (a:Int)) (.int (place a:Nat))) (plOf pl place (ks++[a])):=fun k=>by
 rw[Ed,Zz];by_cases e:k=a
 ·subst e; rw[if_pos rfl,if_pos rfl]; rfl
 ·rw[if_neg (fun z=>e (by injection z with z; w)),if_neg e]
  !h k
end K53s
end
section
namespace G
section
variable{n t:Nat}{A rows nums:List Row}{rc:List Nat}{pl:Nat->Option Nat}
def FewB(rows:List Row)(top:Nat):Prop:=∃ P:Nat->Prop,P top/\(∀ k,P k->2<=k->Knot rows k->P (outOf rows k)/\P (intoOf rows k)) /\
 ∀(t:Nat) (ks:List Nat),(∀ k∈ks,P k/\2<=k/\Knot rows k/\tieOf rows k=t/\∃ s,led rows (intoOf rows k) s=true)->ks.Pairwise (fun a b=>∃ s,led rows a s≠led rows b s)->ks.length<=300
theorem FewB.sel{top:Nat}(F:FewB rows top)(I:Kept2 n (t+1) rows rc nums pl)(c:Closed rows rc)(o:Ok n rows)(hn:t<n)(par:∀ k∈rc,k=top\/∃ k'∈rc,k<k'/\(outOf rows k'=k\/intoOf rows k'=k)) :
  ∀ new:List Row,new.Nodup->(∀ r∈new,∃ k,k∈rc/\tieOf rows k=t/\r=rowIn rows pl k/\r.2.2≠0)->new.length<=300:=by
 intro new nd hw;o⟨P,pt,ps,few⟩:=F;h hP:∀ k∈rc,P k:=fun k hk=>Ys pt ps c par _ k ③ hk;obtain ⟨g,hg⟩:∃ g:Row->Nat,∀ r∈new,g r∈rc/\tieOf rows (g r)=t/\r=rowIn rows pl (g r)/\r.2.2≠0 :=
  ⟨fun r=>if h:r∈new then Classical.choose (hw r h) else 0,fun r h=>by
   dsimp only;rw[dif_pos h];!Classical.choose_spec (hw r h)⟩
 h okN:=I.base.least.ok;h key:∀ r∈new,∃ a b,r=(t,a,b)/\Knot nums a/\Knot nums b/\b≠0/\(∀ s,led nums a s=led rows (outOf rows (g r)) s)/\(∀ s,led nums b s=led rows (intoOf rows (g r)) s)/\(∀ xs,led rows (g r) (t::xs)=led nums b xs)/\∀ s,led nums a s=if lowH t s=true then false else led rows (g r) s:=fun r hr=>by
  o⟨hk,ht,e,w0⟩:=hg r hr;o⟨a,b,ea,eb,re,x1,x2,x3,x4⟩:=I.base.row c o hn hk ht;o⟨_,z1,z2⟩:=c.low o hk;h la:∀ s,led nums a s=led rows (outOf rows (g r)) s:=I.low (c.out _ hk) (by rw[<- ht]; !z1) ea;h lb:∀ s,led nums b s=led rows (intoOf rows (g r)) s:=I.low (c.into _ hk) (by rw[<- ht]; !z2) eb;h kk:=c.knot _ hk;h k2:=c.two _ hk;h et:(rows.getD (g r-2) (0,0,0)).1=t:=ht;r⟨a,b,e.trans re,x1,x2,?_,la,lb,fun xs=>?_,fun s=>?_⟩
  ·rw[e,re] at w0
   !w0
  ·rw[Bx o kk k2,et,if_neg (Nat.lt_irrefl _),if_pos rfl,lb]
   rfl
  ·cases s with
   | nil=>rw[la,Dq o kk k2,if_neg (by intro z; cases z)]; rfl
   | cons x xs =>
    by_cases cs:x<=t
    ·rw[if_pos (show lowH t (x::xs)=true from decide_eq_true cs)]
     !off okN x1 ¢
    ·rw[if_neg (show ¬ lowH t (x::xs)=true from fun z=>cs (of_decide_eq_true z)),la,Bx o kk k2,et,if_neg ¢,if_neg ¢]
     rfl
 have:=few t (new.map g) (fun k hk=>by
  o⟨r,hr,rfl⟩:=List.mem_map.mp hk;o⟨h1,h2,h3,h4⟩:=hg r hr;o⟨a,b,_,_,kb,b0,_,lb,_⟩:=key r hr;r⟨hP _ h1,c.two _ h1,c.knot _ h1,h2,?_⟩;o⟨s,w,_⟩:=Kz I.base.least (b+1) b (Nat.lt_succ_self _) kb b0;!⟨s,by rw[<- lb]; !w.1⟩) (by
  rw[List.pairwise_map];r List.Pairwise.imp_of_mem (fun {r r'} hr hr' ne=>?_) nd;r Classical.byContradiction fun h=>ne ?_;h same:∀ s,led rows (g r) s=led rows (g r') s:=fun s=>Classical.byContradiction fun z=>h ⟨s,z⟩;o⟨a,b,er,ka,kb,_,_,_,lb,la⟩:=key r hr;o⟨a',b',er',ka',kb',_,_,_,lb',la'⟩:=key r' hr';h e1:a=a':=Wd I.base.least ka ka' fun s=>by rw[la,la',same]
  h e2:b=b':=Wd I.base.least kb kb' fun s=>by rw[<- lb,<- lb',same]
  rw[er,er',e1,e2])
 rwa [List.length_map] at this
theorem Qz{α:Type}[DecidableEq α]:∀{l₁ l₂:List α},l₁.Nodup->(∀ x∈l₁,x∈l₂)->l₁.length<=l₂.length
 | [],_,_,_=>Nat.zero_le _
 | a::t,l₂,nd,hs=>by
  o⟨n1,n2⟩:=List.nodup_cons.mp nd;h ha:a∈l₂:=hs a ´;h hl:(l₂.erase a).length=l₂.length-1:=List.length_erase_of_mem ha;h ih:=Qz (l₂:=l₂.erase a) n2 fun x hx=>(List.mem_erase_of_ne (fun(e:x=a)=>n1 (by rw[<- e]; !hx))).mpr (hs x (¶ _ hx));have:0<l₂.length:=List.length_pos_of_mem ha;simp;w
def allB:Nat->List (List Bool)
 | 0=>[[]]
 | n+1=>(allB n).map (true::·)++(allB n).map (false::·)
theorem RZ:∀ n,(allB n).length=2 ^ n
 | 0=>rfl
 | n+1=>by
  show ((allB n).map (true::·)++(allB n).map (false::·)).length=_;rw[List.length_append,List.length_map,List.length_map,RZ n,Nat.pow_succ];w
theorem Qx:∀{n:Nat}{l:List Bool},l.length=n->l∈allB n
 | 0,[],_=>by simp[allB]
 | n+1,b::l,h=>by
  have:=Qx (n:=n) (l:=l) (by simpa using h);show b::l∈(allB n).map (true::·)++(allB n).map (false::·);cases b with
  | true=>!List.mem_append_left _ (List.mem_map_of_mem this)
  | false=>!List.mem_append_right _ (List.mem_map_of_mem this)
 | 0,_::_,h=>by cases h
 | _+1,[],h=>by cases h
def subs12:List (List Nat):=[[],[9],[10],[11],[9,10],[9,11],[10,11],[9,10,11]]
theorem ABg{s:List Nat}(w:s.Pairwise (· < ·))(bd:∀ x∈s,9<=x/\x<12):s∈subs12:=by
 match s,w,bd with
 | [],_,_=>!by decide
 | [x],_,bd =>
  have:=bd x (´ ..);have:x=9\/x=10\/x=11:=by w
  rcases this with rfl | rfl | rfl<;>decide
 | [x,y],w,bd =>
  have h1:=bd x (´ ..);have h2:=bd y (¶ _ (´ ..));have lt:x<y:=(List.pairwise_cons.mp w).1 y (´ ..);have:(x=9/\y=10)\/(x=9/\y=11)\/(x=10/\y=11):=by w
  rcases this with⟨rfl,rfl⟩ | ⟨rfl,rfl⟩ | ⟨rfl,rfl⟩<;>decide
 | x::y::z::r,w,bd =>
  have h1:=bd x (´ ..);have h2:=bd y (¶ _ (´ ..));have h3:=bd z (¶ _ (¶ _ (´ ..)));have l1:x<y:=(List.pairwise_cons.mp w).1 y (´ ..);have w2:=(List.pairwise_cons.mp w).2;have l2:y<z:=(List.pairwise_cons.mp w2).1 z (´ ..);obtain rfl:x=9:=by w
  obtain rfl:y=10:=by w
  obtain rfl:z=11:=by w
  cases r with
  | nil=>decide
  | cons u r =>
   have hu:=bd u ¥;have l3:11<u:=(List.pairwise_cons.mp (List.pairwise_cons.mp w2).2).1 u (´ ..);w
theorem VJ{n:Nat}{rows:List Row}(o:Ok n rows)(n12:n<=12)(c:Cnt 0 rows)(top:Nat):FewB rows top:=by
 r⟨fun _=>True,trivial,fun _ _ _ _=>⟨trivial,trivial⟩,fun t ks hk un=>?_⟩;h nd:ks.Nodup:=un.imp fun {a b} ⟨s,h⟩ e=>h (by rw[e]);rcases Nat.lt_or_ge t 9 with c9 | c9
 ·h z:=Yb (A:=rows) (t:=t) ks (fun k h=>⟨(hk k h).2.1,(hk k h).2.2.1,(hk k h).2.2.2.1⟩) nd
  h y:=c t;rw[if_neg ¢,Nat.sub_zero] at y;have:2 ^ t<=2 ^ 8:=Nat.pow_le_pow_right ¤ ¢;w
 ·h lim:∀{k:Nat}{s:List Nat},Knot rows k->2<=k->tieOf rows k=t->led rows k s=true->s∈subs12:=fun {k s} kn k2 tk ld=>by
   h I0:=Zx _ _ rfl o _ kn;o⟨w1,w2⟩:=I0.way s ((I0.mem s).mpr ld);r ABg w1 fun x hx=>?_;h z:=w2 x hx;unfold rank at z;rw[if_neg ¢] at z;h e:÷.1=t:=tk;w
  h z:=Qz (l₁:=ks.map fun k=>subs12.map (led rows k)) (l₂:=allB 8) (by
   unfold List.Nodup;rw[List.pairwise_map];r List.Pairwise.imp_of_mem (fun {a b} ha hb ⟨s,ne⟩ e=>ne ?_) un;o⟨_,a2,ka,ta,_⟩:=hk a ha;o⟨_,b2,kb,tb,_⟩:=hk b hb;h same:∀ s∈subs12,led rows a s=led rows b s:=fun s hs=>(List.map_inj_left.mp e) s hs;cases ea:led rows a s with
   | true=>rw[<- same s (lim ka a2 ta ea),ea]
   | false =>
    cases eb:led rows b s with
    | true=>rw[<- same s (lim kb b2 tb eb),ea] at eb; !eb
    | false=>rfl) fun x hx=>by
   o⟨k,_,rfl⟩:=List.mem_map.mp hx;!Qx (by rw[List.length_map]; rfl)
  rw[List.length_map,RZ] at z;w
end
end G
end
section
namespace SB
open PySem PySem.SetTable
def iter{α:Type}(f:α->α):Nat->α->α
 | 0,x=>x
 | n+1,x=>iter f n (f x)
theorem CK{α:Type}(f:α->α):∀(m n:Nat) (x:α),iter f (m+n) x=iter f n (iter f m x)
 | 0,n,x=>by rw[Nat.zero_add]; rfl
 | m+1,n,x=>by
  rw[Nat.succ_add];!CK f m n (f x)
theorem Xk{α:Type}(f:α->α)(n:Nat)(x:α):iter f (n+1) x=f (iter f n x):=CK f n 1 x
def Mask(m:Nat):Prop:=m=7\/m=31\/m=127\/m=511
def step(M:Nat)(p:Probe):Probe :=
 if p.more>0 then {p with j:=p.j+1,more:=p.more-1} else
 {p with j:=(leap M p.i p.perturb).1,more:=runEnd M (leap M p.i p.perturb).1-(leap M p.i p.perturb).1,i:=(leap M p.i p.perturb).1,perturb:=(leap M p.i p.perturb).2}
theorem HY(t:SetTable)(p:Probe):t.advance p=step t.mask p:=by
 unfold advance step;split<;>rfl
theorem Px(M i:Nat):runEnd M i-i<=9:=by
 unfold runEnd;split<;>w
structure Fine(M:Nat)(p:Probe):Prop where
 more:p.more<=9
 i:p.i<=M
 j:p.j<=M
 jm:p.j+p.more<=M
 dummy:p.dummy=none
theorem VN{M i:Nat}(h:i<=M):i+(runEnd M i-i)<=M:=by
 unfold runEnd;split<;>w
theorem Ik(M i p:Nat):(leap M i p).1<=M:=by
 unfold leap;have:=Nat.mod_lt (i*5+1+p / 32) (show 0<M+1 by w);show (i*5+1+p / 32)%(M+1)<=M;w
theorem Fine.step{M:Nat}{p:Probe}(h:Fine M p):Fine M (step M p):=by
 unfold SB.step;by_cases c:p.more>0
 ·rw[if_pos c]
  have:=h.jm;have:=h.more;!⟨by show p.more-1<=9; w,h.i,by show p.j+1<=M; w,by show p.j+1+(p.more-1)<=M; w,h.dummy⟩
 ·rw[if_neg c]
  !⟨Px _ _,Ik _ _ _,Ik _ _ _,VN (Ik _ _ _),h.dummy⟩
theorem Fine.iter{M:Nat}:∀(n:Nat) {p:Probe},Fine M p->Fine M (iter (SB.step M) n p)
 | 0,_,h=>h
 | n+1,_,h=>Fine.iter n h.step
theorem Fine.start(t:SetTable)(h:Int):Fine t.mask (t.probeStart h):=by
 have:=Nat.mod_lt (bits h) (show 0<t.mask+1 by w);h hi:bits h%(t.mask+1)<=t.mask:=by w
 !⟨Px _ _,hi,hi,VN hi,rfl⟩
theorem WL{M:Nat}:∀(k:Nat) {p:Probe},p.more=k->∃ q,SB.iter (step M) (k+1) p=q/\q.i=(leap M p.i p.perturb).1/\q.perturb=(leap M p.i p.perturb).2/\q.j=q.i/\q.more<=9
 | 0,p,e=>by
  r⟨_,rfl,?_⟩;show (step M p).i=_/\(step M p).perturb=_/\(step M p).j=(step M p).i/\(step M p).more<=9;unfold step;rw[if_neg ¢];!⟨rfl,rfl,rfl,Px _ _⟩
 | k+1,p,e=>by
  h hs:step M p={p with j:=p.j+1,more:=p.more-1}:=by unfold step; rw[if_pos ¢]
  o⟨q,h1,h2⟩:=WL (M:=M) k (p:=step M p) (by rw[hs]; show p.more-1=k; w);rw[hs] at h2;!⟨q,h1,h2⟩
def leaps(M:Nat):Nat->Nat×Nat->Nat×Nat:=SB.iter (fun x=>leap M x.1 x.2)
theorem LQ{M:Nat}:∀(k:Nat) {p:Probe},p.more<=9->∃ m,m<=10*k/\((SB.iter (step M) m p).i,(SB.iter (step M) m p).perturb)=leaps M k (p.i,p.perturb)/\(SB.iter (step M) m p).more<=9/\(0<k->(SB.iter (step M) m p).j=(SB.iter (step M) m p).i)
 | 0,p,h=>⟨0,by w,rfl,h,fun z=>absurd z ¢⟩
 | k+1,p,h=>by
  o⟨q,e,q1,q2,q3,q4⟩:=WL (M:=M) p.more (p:=p) rfl;o⟨m,hm,h1,h2,h3⟩:=LQ k q4;r⟨(p.more+1)+m,by w,?_,?_,fun _=>?_⟩
  ·rw[CK,e,h1]
   show leaps M k (q.i,q.perturb)=leaps M k (leap M p.i p.perturb);rw[q1,q2]
  ·rw[CK,e]; !h2
  ·rw[CK,e]
   by_cases c:0<k
   ·!h3 c
   ·have:k=0:=by w
    subst this;have:m=0:=by w
    subst this;!q3
theorem Ep{M:Nat}:∀(k:Nat) (x:Nat×Nat),(leaps M k x).2=x.2 / 32 ^ k
 | 0,x=>by simp[leaps,SB.iter]
 | k+1,x=>by
  show (leaps M k (leap M x.1 x.2)).2=_;rw[Ep k];show x.2 / 32 / 32 ^ k=_;rw[Nat.div_div_eq_div_mul,Nat.pow_succ,Nat.mul_comm]
def lc(n i:Nat):Nat:=(i*5+1)%n
theorem HS{M:Nat}:∀(k i:Nat),leaps M k (i,0)=(SB.iter (lc (M+1)) k i,0)
 | 0,i=>rfl
 | k+1,i=>by
  show leaps M k (leap M i 0)=_;have:leap M i 0=(lc (M+1) i,0):=by unfold leap lc; simp
  rw[this,HS k];rfl
theorem cyc8:∀ j,j<8->∃ k,k<8/\SB.iter (lc 8) k 0=j:=by decide +kernel
theorem cyc32:∀ j,j<32->∃ k,k<32/\SB.iter (lc 32) k 0=j:=by decide +kernel
theorem cyc128:∀ j,j<128->∃ k,k<128/\SB.iter (lc 128) k 0=j:=by decide +kernel
def iters(f:Nat->Nat):Nat->Nat->List Nat
 | 0,_=>[]
 | n+1,x=>x::iters f n (f x)
theorem Rf(f:Nat->Nat):∀(n x j:Nat),j∈iters f n x->∃ k,k<n/\SB.iter f k x=j
 | 0,x,j,h=>by cases h
 | n+1,x,j,h=>by
  rcases List.mem_cons.mp h with rfl | h
  ·!⟨0,Nat.zero_lt_succ _,rfl⟩
  ·o⟨k,hk,e⟩:=Rf f n (f x) j h
   !⟨k+1,Nat.succ_lt_succ hk,e⟩
theorem all512:((List.range 512).all fun j=>(iters (lc 512) 512 0).contains j)=true:=by decide +kernel
theorem cyc512:∀ j,j<512->∃ k,k<512/\SB.iter (lc 512) k 0=j:=fun j hj=>Rf _ _ _ _ (List.contains_iff_mem.mp (List.all_eq_true.mp all512 j (List.mem_range.mpr hj)))
theorem cyc{M:Nat}(h:Mask M):(∀ j,j<M+1->∃ k,k<M+1/\SB.iter (lc (M+1)) k 0=j)/\SB.iter (lc (M+1)) (M+1) 0=0:=by
 rcases h with rfl | rfl | rfl | rfl
 ·!⟨cyc8,£⟩
 ·!⟨cyc32,£⟩
 ·!⟨cyc128,£⟩
 ·!⟨cyc512,£⟩
theorem Vn{M:Nat}(h:Mask M){i j:Nat}(hi:i<M+1)(hj:j<M+1):∃ k,k<M+1/\SB.iter (lc (M+1)) k i=j:=by
 o⟨c1,c2⟩:=cyc h;o⟨a,ha,ea⟩:=c1 i hi;o⟨b,hb,eb⟩:=c1 j hj;by_cases c:a<=b
 ·r⟨b-a,by w,?_⟩
  rw[<- ea,<- CK,show a+(b-a)=b by w,eb]
 ·r⟨M+1+b-a,by w,?_⟩
  rw[<- ea,<- CK,show a+(M+1+b-a)=(M+1)+b by w,CK,c2,eb]
theorem CZ:∀{l₁ l₂:List Nat},l₁.Nodup->(∀ x∈l₁,x∈l₂)->l₁.length<=l₂.length
 | [],_,_,_=>Nat.zero_le _
 | a::t,l₂,nd,hs=>by
  o⟨n1,n2⟩:=List.nodup_cons.mp nd;h ha:a∈l₂:=hs a ´;h hl:(l₂.erase a).length=l₂.length-1:=List.length_erase_of_mem ha;h ih:=CZ (l₂:=l₂.erase a) n2 fun x hx=>(List.mem_erase_of_ne (fun(e:x=a)=>n1 (by rw[<- e]; !hx))).mpr (hs x (¶ _ hx));have:0<l₂.length:=List.length_pos_of_mem ha;simp;w
theorem ABV{M:Nat}{place:Array Nat}(h:place.size<=M):∃ j,j<M+1/\j∉place.toList:=by
 r Classical.byContradiction fun c=>?_;h all:∀ j∈List.range (M+1),j∈place.toList:=fun j hj=>Classical.byContradiction fun z=>c ⟨j,List.mem_range.mp hj,z⟩;have:=CZ List.nodup_range all;rw[List.length_range,Array.length_toList] at this;w
theorem Pq(h:Int):bits h<2 ^ 64:=by
 unfold bits;h h1:=Int.emod_nonneg h (show (2 ^ 64:Int)≠0 by decide);h h2:=Int.emod_lt_of_pos h (show (0:Int)<2 ^ 64 by decide);w
theorem Kh{M:Nat}:∀(n:Nat) (p:Probe),(SB.iter (step M) n p).perturb<=p.perturb
 | 0,_=>Nat.le_refl _
 | n+1,p=>by
  r Nat.le_trans (Kh n (step M p)) ?_;unfold step;split
  ·!Nat.le_refl _
  ·!Nat.div_le_self _ _
theorem NZ{M:Nat}{place:Array Nat}(hM:Mask M)(hs:place.size<=M){p:Probe}(hp:Fine M p)(hb:p.perturb<2 ^ 64):∃ m,m<10*turns M/\(SB.iter (step M) m p).j∉place.toList:=by
 o⟨j,hj,nj⟩:=ABV hs;o⟨m1,hm1,e1,k1,_⟩:=LQ (M:=M) 13 (p:=p) hp.more;generalize hq:SB.iter (step M) m1 p=q at *;h fq:Fine M q:=by rw[<- hq]; !hp.iter m1
 h pz:q.perturb=0:=by
  h h2:=congrArg Prod.snd e1;rw[Ep] at h2;h h3:q.perturb=p.perturb / 32 ^ 13:=h2;rw[h3];!Nat.div_eq_of_lt (Nat.lt_of_lt_of_le hb ¤)
 o⟨k,hk,ek⟩:=Vn hM (i:=lc (M+1) q.i) (j:=j) (Nat.mod_lt _ (Nat.succ_pos _)) hj;o⟨m2,hm2,e2,_,k2⟩:=LQ (M:=M) (k+1) (p:=q) fq.more;r⟨m1+m2,?_,?_⟩
 ·unfold turns
  w
 ·rw[CK,hq,k2 (Nat.succ_pos _)]
  h h1:=congrArg Prod.fst e2;rw[pz,HS] at h1;h h2:(SB.iter (step M) m2 q).i=SB.iter (lc (M+1)) k (lc (M+1) q.i):=h1;rw[h2,ek];!nj
theorem KY{xs:Array Nat}{j:Nat}(so:xs.toList.Pairwise (· < ·)):∀(fuel lo hi:Nat),lo<=hi->hi<=xs.size->hi-lo<=fuel->(∀ k,k<lo->xs.getD k j<j)->(∀ k,hi<=k->k<xs.size->j<=xs.getD k j) ->
  (∀ k,k<below.go xs j fuel lo hi->xs.getD k j<j)/\(∀ k,below.go xs j fuel lo hi<=k->k<xs.size->j<=xs.getD k j)/\below.go xs j fuel lo hi<=xs.size
 | 0,lo,hi,h1,h2,h3,h4,h5=>by
  have:lo=hi:=by w
  subst this;!⟨h4,h5,h2⟩
 | fuel+1,lo,hi,h1,h2,h3,h4,h5=>by
  unfold below.go;by_cases c:lo<hi
  ·rw[if_pos c]
   h hm:(lo+hi) / 2<xs.size:=by w
   h so':=List.pairwise_iff_getElem.mp so;h gd:∀ k,k<xs.size->xs.getD k j=xs.toList.getD k j:=fun k hk=>by simp[Array.getD,hk]
   by_cases d:xs.getD ((lo+hi) / 2) j<j
   ·simp only[if_pos d]
    r KY so fuel _ hi ¢ h2 ¢ (fun k hk=>?_) h5;by_cases e:k=(lo+hi) / 2
    ·rw[e]; !d
    ·h hk':k<(lo+hi) / 2:=by w
     h z:=so' k ((lo+hi) / 2) (by simpa using (show k<xs.size by w)) (by simpa using hm) hk';h g1:xs.getD k j=xs[k]'¢:=by simp[Array.getD,show k<xs.size by w]
     h g2:xs.getD ((lo+hi) / 2) j=xs[(lo+hi) / 2]'hm:=by simp[Array.getD,hm]
     rw[g2] at d;rw[g1];simp at z;w
   ·simp only[if_neg d]
    r KY so fuel lo _ ¢ ¢ ¢ h4 (fun k hk hk2=>?_);by_cases e:k=(lo+hi) / 2
    ·rw[e]; w
    ·h z:=so' ((lo+hi) / 2) k (by simpa using hm) (by simpa using hk2) ¢
     h g1:xs.getD k j=xs[k]'hk2:=by simp[Array.getD,hk2]
     h g2:xs.getD ((lo+hi) / 2) j=xs[(lo+hi) / 2]'hm:=by simp[Array.getD,hm]
     rw[g2] at d;rw[g1];simp at z;w
  ·rw[if_neg c]
   have:lo=hi:=by w
   subst this;!⟨h4,h5,h2⟩
theorem FT{xs:Array Nat}{j:Nat}(so:xs.toList.Pairwise (· < ·)):(∀ k,k<below xs j->xs.getD k j<j)/\(∀ k,below xs j<=k->k<xs.size->j<=xs.getD k j)/\below xs j<=xs.size :=
 KY so xs.size 0 xs.size (Nat.zero_le _) ③ ③ (fun k hk=>absurd hk ¢) (fun k h1 h2=>absurd h2 ¢)
theorem below_at{xs:Array Nat}{j:Nat}(so:xs.toList.Pairwise (· < ·))(h:j∈xs.toList):xs[below xs j]?=some j:=by
 o⟨b1,b2,b3⟩:=FT (j:=j) so;o⟨k,hk,e⟩:=List.mem_iff_getElem.mp h;h hk':k<xs.size:=by simpa using hk
 h e':xs[k]=j:=by simpa using e
 h g1:xs.getD k j=j:=by simp[Array.getD,hk',e']
 h h1:below xs j<=k:=by
  r Classical.byContradiction fun c=>?_;have:=b1 k ¢;w
 by_cases c:below xs j=k
 ·rw[c,Array.getElem?_eq_getElem hk',e']
 ·h hb:below xs j<xs.size:=by w
  h z:=List.pairwise_iff_getElem.mp so (below xs j) k (by simpa using hb) hk ¢;h b:=b2 (below xs j) ③ hb;h g2:xs.getD (below xs j) j=xs[below xs j]'hb:=by simp[Array.getD,hb]
  rw[g2] at b;simp at z;w
structure Tab(t:SetTable):Prop where
 mask:Mask t.mask
 none:t.dummies=#[]
 size:t.place.size<=t.mask
 le:∀ j∈t.place.toList,j<=t.mask
 rise:t.place.toList.Pairwise (· < ·)
theorem slot_of{t:SetTable}(T:Tab t)(j:Nat):(t.slot j=.empty/\j∉t.place.toList)\/∃ i,t.slot j=.live i/\t.place[i]?=some j:=by
 unfold slot;by_cases c:t.place[below t.place j]?=some j
 ·right
  !⟨below t.place j,by simp[c],c⟩
 ·left
  h hd:has t.dummies j=false:=by rw[T.none]; unfold has; simp
  r⟨by simp[c,hd],fun h=>c (below_at T.rise h)⟩
def way(t:SetTable)(p:Probe)(m:Nat):Nat:=(SB.iter (step t.mask) m p).j
theorem Sx(t:SetTable)(p:Probe)(m:Nat):way t (step t.mask p) m=way t p (m+1):=rfl
theorem ACv{t:SetTable}(T:Tab t){hashAt:Nat->Int}{h:Int}:∀(fuel:Nat) (p:Probe),p.dummy=none->(∃ m,m<fuel/\way t p m∉t.place.toList) ->
  ∃ m,(∀ m',m'<m->∃ i,t.place[i]?=some (way t p m')/\hashAt i≠h) /\
   (
    (way t p m∉t.place.toList/\probe.go t hashAt h fuel p=some (.empty (way t p m) none)) \/
    ∃ i,t.place[i]?=some (way t p m)/\t.slot (way t p m)=.live i/\hashAt i=h/\probe.go t hashAt h fuel p=some (.candidate (way t p m) i (SB.iter (step t.mask) (m+1) p)))
 | 0,p,_,⟨m,hm,_⟩=>absurd hm ¢
 | fuel+1,p,hd,⟨m0,hm0,n0⟩=>by
  unfold probe.go;rcases slot_of T p.j with⟨e,ne⟩ | ⟨i,e,pi⟩
  ·r⟨0,fun m' h=>absurd h ¢,.inl ⟨ne,?_⟩⟩
   rw[e];show some (Met.empty p.j p.dummy)=_;rw[hd];rfl
  ·by_cases c:hashAt i=h
   ·r⟨0,fun m' h=>absurd h ¢,.inr ⟨i,pi,e,c,?_⟩⟩
    rw[e];simp only[c,beq_self_eq_true,if_true];rw[HY];rfl
   ·h m1:m0≠0:=fun z=>by
     subst z;!n0 (by rw[List.mem_iff_getElem?]; !⟨i,by rw[Array.getElem?_toList]; !pi⟩)
    h hd':(step t.mask p).dummy=none:=by unfold step; split<;>!hd
    o⟨m,h1,h2⟩:=ACv T (hashAt:=hashAt) (h:=h) fuel (step t.mask p) hd' ⟨m0-1,by w,by rw[Sx,show m0-1+1=m0 by w]; !n0⟩;h ee:probe.go t hashAt h (fuel+1) p=probe.go t hashAt h fuel (step t.mask p):=by
     show (match t.slot p.j with | .empty=>some (Met.empty p.j p.dummy) | .dummy=>probe.go t hashAt h fuel (t.advance {p with dummy:=some p.j}) | .live i=>if hashAt i==h then some (.candidate p.j i (t.advance p)) else probe.go t hashAt h fuel (t.advance p))=_;rw[e];h cb:(hashAt i==h)=false:=by simpa using c
     simp only[cb,Bool.false_eq_true,if_false];rw[HY]
    r⟨m+1,fun m' hm'=>?_,?_⟩
    ·by_cases z:m'=0
     ·subst z; !⟨i,pi,c⟩
     ·have:=h1 (m'-1) ¢
      rw[Sx,show m'-1+1=m' by w] at this;!this
    ·rw[e]
     h cb:(hashAt i==h)=false:=by simpa using c
     simp only[cb,Bool.false_eq_true,if_false,HY];!h2
def Loc(t:SetTable)(hs:List Int):Prop:=∀(idx j:Nat) (h:Int),t.place[idx]?=some j->hs[idx]?=some h->∃ m,way t (t.probeStart h) m=j/\∀ m',m'<m->way t (t.probeStart h) m'∈t.place.toList
theorem ZF{t:SetTable}(T:Tab t){hashAt:Nat->Int}{h:Int}{p:Probe}(hp:Fine t.mask p)(hb:p.perturb<2 ^ 64) :
  ∃ m,(∀ m',m'<m->∃ i,t.place[i]?=some (way t p m')/\hashAt i≠h) /\
   (
    (way t p m∉t.place.toList/\t.probe hashAt h p=some (.empty (way t p m) none)) \/
    ∃ i,t.place[i]?=some (way t p m)/\t.slot (way t p m)=.live i/\hashAt i=h/\t.probe hashAt h p=some (.candidate (way t p m) i (SB.iter (step t.mask) (m+1) p))) :=
 ACv T _ p hp.dummy (NZ T.mask T.size hp hb)
theorem BW{α:Type}(xs:Array α)(p:Nat)(x:α):(insertAt xs p x).toList=xs.toList.take p++[x]++xs.toList.drop p:=by
 unfold insertAt;simp;!List.take_of_length_le ¥
structure Put(t:SetTable)(j:Nat):Prop where
 le:j<=t.mask
 new:j∉t.place.toList
 room:t.place.size+1<=t.mask
theorem JL{t:SetTable}(T:Tab t){j:Nat}:(t.put j).1={t with place:=insertAt t.place (below t.place j) j}/\(t.put j).2=below t.place j:=by
 unfold put;h hd:has t.dummies j=false:=by rw[T.none]; unfold has; simp
 simp[hd]
theorem ACO{t:SetTable}(T:Tab t){j:Nat}(P:Put t j):Tab (t.put j).1:=by
 o⟨e,_⟩:=JL T (j:=j);o⟨b1,b2,b3⟩:=FT (j:=j) T.rise;rw[e];r⟨T.mask,T.none,?_,fun k hk=>?_,?_⟩
 ·show (insertAt t.place (below t.place j) j).size<=t.mask
  have:=congrArg List.length (BW t.place (below t.place j) j);simp at this;have:=P.room;w
 ·h hk':k∈(insertAt t.place (below t.place j) j).toList:=hk
  rw[BW] at hk';rcases List.mem_append.mp hk' with hk' | hk'
  ·rcases List.mem_append.mp hk' with hk' | hk'
   ·!T.le k (List.mem_of_mem_take hk')
   ·rw[List.mem_singleton.mp hk']; !P.le
  ·!T.le k (List.mem_of_mem_drop hk')
 ·show (insertAt t.place (below t.place j) j).toList.Pairwise (· < ·)
  rw[BW];h so:=T.rise;h get:∀ k (hk:k<t.place.size),t.place.getD k j=t.place.toList[k]'(by simpa using hk):=fun k hk=>by simp[Array.getD,hk]
  r List.pairwise_append.mpr ⟨List.pairwise_append.mpr ⟨so.sublist (List.take_sublist _ _),List.pairwise_singleton _ _,fun a ha b hb=>?_⟩,so.sublist (List.drop_sublist _ _),fun a ha b hb=>?_⟩
  ·rw[List.mem_singleton.mp hb]
   o⟨k,hk,rfl⟩:=List.mem_iff_getElem.mp ha;rw[List.length_take] at hk;h hk2:k<t.place.size:=by simp at hk; w
   have:=b1 k ¢;rw[get k hk2] at this;rw[List.getElem_take];!this
  ·o⟨k,hk,rfl⟩:=List.mem_iff_getElem.mp hb
   rw[List.length_drop] at hk;h hk2:below t.place j+k<t.place.size:=by simp at hk; w
   rw[List.getElem_drop];h z:=b2 (below t.place j+k) ¢ hk2;rw[get _ hk2] at z;h ne:t.place.toList[below t.place j+k]'(by simpa using hk2)≠j:=fun e=>P.new (e ▸ List.getElem_mem _);rcases List.mem_append.mp ha with ha | ha
   ·o⟨i,hi,rfl⟩:=List.mem_iff_getElem.mp ha
    rw[List.length_take] at hi;rw[List.getElem_take];!List.pairwise_iff_getElem.mp so i (below t.place j+k) ¢ (by simpa using hk2) ¢
   ·rw[List.mem_singleton.mp ha]
    w
theorem ABU{t:SetTable}(T:Tab t){hs:List Int}(hl:hs.length=t.place.size)(L:Loc t hs){h:Int}{m:Nat}(hm:∀ m',m'<m->way t (t.probeStart h) m'∈t.place.toList) :
  Loc (t.put (way t (t.probeStart h) m)).1 (hs.take (t.put (way t (t.probeStart h) m)).2++[h]++hs.drop (t.put (way t (t.probeStart h) m)).2):=by
 generalize hj:way t (t.probeStart h) m=j;o⟨e,e2⟩:=JL T (j:=j);o⟨_,_,b3⟩:=FT (j:=j) T.rise;rw[e,e2];generalize hp:below t.place j=p at *;h mem:∀ k,k∈t.place.toList->k∈(insertAt t.place p j).toList:=fun k hk=>by
  rw[BW];rw[<- List.take_append_drop p t.place.toList] at hk;rcases List.mem_append.mp hk with hk | hk
  ·!List.mem_append_left _ (List.mem_append_left _ hk)
  ·!List.mem_append_right _ hk
 h memj:j∈(insertAt t.place p j).toList:=by
  rw[BW];!List.mem_append_left _ (List.mem_append_right _ (List.mem_singleton.mpr rfl))
 intro idx k h' hk hh;h hk':(insertAt t.place p j).toList[idx]?=some k:=by simpa using hk
 rw[BW] at hk';h wy:∀(q:Probe) m,way {t with place:=insertAt t.place p j} q m=way t q m:=fun _ _=>rfl;h ps:∀ h,({t with place:=insertAt t.place p j}:SetTable).probeStart h=t.probeStart h:=fun _=>rfl;h lt:(t.place.toList.take p).length=p:=by rw[List.length_take,Array.length_toList]; w
 h lh:(hs.take p).length=p:=by rw[List.length_take]; w
 rw[List.append_assoc] at hk' hh;h old:∀ i,t.place.toList[i]?=some k->hs[i]?=some h'->∃ m,way {t with place:=insertAt t.place p j} (({t with place:=insertAt t.place p j}:SetTable).probeStart h') m=k/\∀ m',m'<m->way {t with place:=insertAt t.place p j} (({t with place:=insertAt t.place p j}:SetTable).probeStart h') m'∈({t with place:=insertAt t.place p j}:SetTable).place.toList:=fun i a b=>by
  o⟨m,x,y⟩:=L i k h' (by rw[<- Array.getElem?_toList]; !a) b;!⟨m,x,fun m' hm'=>mem _ (y m' hm')⟩
 by_cases c:idx<p
 ·rw[List.getElem?_append_left ¢,List.getElem?_take_of_lt c] at hk' hh
  !old idx hk' hh
 ·rw[List.getElem?_append_right ¢] at hk' hh
  rw[lt] at hk';rw[lh] at hh;by_cases d:idx=p
  ·subst d
   simp at hk' hh;subst hk' hh;!⟨m,hj,fun m' hm'=>mem _ (hm m' hm')⟩
  ·rw[List.getElem?_append_right (by simp; w)] at hk' hh
   simp only[List.length_singleton,List.getElem?_drop] at hk' hh;rw[show p+(idx-p-1)=idx-1 by w] at hk' hh;!old (idx-1) hk' hh
def Bp(M i perturb:Nat):Probe:={j:=i,more:=runEnd M i-i,i:=i,perturb:=perturb,dummy:=none}
theorem Lh{M:Nat}:∀(m:Nat) (p:Probe),m<=p.more->SB.iter (step M) m p={p with j:=p.j+m,more:=p.more-m}
 | 0,p,_=>by cases p; rfl
 | m+1,p,h=>by
  h hs:step M p={p with j:=p.j+1,more:=p.more-1}:=by unfold step; rw[if_pos ¢]
  show SB.iter (step M) m (step M p)=_;rw[Lh m (step M p) (by rw[hs]; show m<=p.more-1; w),hs];show ({p with j:=p.j+1+m,more:=p.more-1-m}:Probe)={p with j:=p.j+(m+1),more:=p.more-(m+1)};rw[show p.j+1+m=p.j+(m+1) by w,show p.more-1-m=p.more-(m+1) by w]
theorem Uh{M i pe:Nat}:SB.iter (step M) (runEnd M i-i+1) (Bp M i pe)=Bp M (leap M i pe).1 (leap M i pe).2:=by
 rw[Xk,Lh (runEnd M i-i) (Bp M i pe) ③];unfold step;rw[if_neg (by show ¬ (runEnd M i-i-(runEnd M i-i)>0); w)];rfl
theorem Xl(M i:Nat):i<=runEnd M i:=by
 unfold runEnd;split<;>w
def wayM(M:Nat)(p:Probe)(m:Nat):Nat:=(SB.iter (step M) m p).j
theorem Wi{M:Nat}{owner:Array (Option Nat)}:∀(fuel i pe:Nat),i<=M->(∃ k,k<fuel/\owner.getD (leaps M k (i,pe)).1 (some 0)=none) ->
  ∃ m,layClean.free M owner fuel i pe=some (wayM M (Bp M i pe) m)/\owner.getD (wayM M (Bp M i pe) m) (some 0)=none/\∀ m',m'<m->(owner.getD (wayM M (Bp M i pe) m') (some 0)).isSome=true
 | 0,i,pe,_,⟨k,hk,_⟩=>absurd hk ¢
 | fuel+1,i,pe,hi,⟨k,hk,nk⟩=>by
  h ge:=Xl M i;h wy:∀ m,m<=runEnd M i-i->wayM M (Bp M i pe) m=i+m:=fun m hm=>by
   unfold wayM;rw[Lh m (Bp M i pe) hm];rfl
  unfold layClean.free;cases hf:(List.range (runEnd M i+1-i)).find? fun k=>(owner.getD (i+k) (some 0)).isNone with
  | some k' =>
   have h1:=List.find?_some hf;have h2:=List.mem_range.mp (List.mem_of_find?_eq_some hf);r⟨k',?_,?_,fun m' hm'=>?_⟩
   ·rw[wy k' ¢]
   ·rw[wy k' ¢]
    simpa using h1
   ·rw[wy m' ¢]
    o⟨_,as,bs,e,hb⟩:=List.find?_eq_some_iff_append.mp hf;have hl:as.length=k':=by
     have:(List.range (runEnd M i+1-i))[as.length]?=some k':=by rw[e]; simp
     rw[List.getElem?_range (by have:=congrArg List.length e; simp at this; w)] at this;!Option.some.inj this
    have hm:m'∈as:=by
     have:(List.range (runEnd M i+1-i))[m']?=some m':=List.getElem?_range ¢;rw[e,List.getElem?_append_left ¢] at this;!List.mem_of_getElem? this
    have:=hb m' hm;simpa [Option.isSome_iff_ne_none] using this
  | none =>
   have hn:=List.find?_eq_none.mp hf;have all:∀ m,m<=runEnd M i-i->(owner.getD (i+m) (some 0)).isSome=true:=fun m hm=>by
    have:=hn m (List.mem_range.mpr ¢);simpa [Option.isSome_iff_ne_none] using this
   have k0:k≠0:=fun z=>by
    subst z;have:=all 0 (Nat.zero_le _);have nk':owner.getD i (some 0)=none:=nk;rw[Nat.add_zero,nk'] at this;cases this
   o⟨m,h1,h2,h3⟩:=Wi fuel (leap M i pe).1 (leap M i pe).2 (Ik _ _ _) ⟨k-1,by w,by
    have e:leaps M k (i,pe)=leaps M (k-1) (leap M i pe):=by
     obtain ⟨k',rfl⟩:∃ k',k=k'+1:=⟨k-1,by w⟩;rfl
    rw[e] at nk;!nk⟩
   have sh:∀ m,wayM M (Bp M (leap M i pe).1 (leap M i pe).2) m=wayM M (Bp M i pe) (runEnd M i-i+1+m):=fun m=>by
    unfold wayM;rw[CK,Uh]
   rw[sh] at h1 h2;r⟨runEnd M i-i+1+m,h1,h2,fun m' hm'=>?_⟩;by_cases c:m'<=runEnd M i-i
   ·rw[wy m' c]
    !all m' c
   ·have:=h3 (m'-(runEnd M i-i+1)) ¢
    rw[sh,show runEnd M i-i+1+(m'-(runEnd M i-i+1))=m' by w] at this;!this
structure Own(M:Nat)(owner:Array (Option Nat))(hs:List Int):Prop where
 size:owner.size=M+1
 has:∀ idx,idx<hs.length->∃ j:Nat,owner[j]?=some (some idx)
 at_:∀(j idx:Nat),owner[j]?=some (some idx)->idx<hs.length/\∃ m,wayM M (Bp M (bits (hs.getD idx 0)%(M+1)) (bits (hs.getD idx 0))) m=j/\∀ m',m'<m->(owner.getD (wayM M (Bp M (bits (hs.getD idx 0)%(M+1)) (bits (hs.getD idx 0))) m') (some 0)).isSome=true
 one:∀(j j' idx:Nat),owner[j]?=some (some idx)->owner[j']?=some (some idx)->j=j'
theorem Own.start(M:Nat):Own M (Array.replicate (M+1) none) []:=by
 h no:∀(j idx:Nat),¬ (Array.replicate (M+1) (none:Option Nat))[j]?=some (some idx):=fun j idx e=>by
  rw[Array.getElem?_replicate] at e;split at e<;>cases e
 !⟨Array.size_replicate ..,fun idx h=>absurd h ¥,fun j idx e=>absurd e (no j idx),fun j _ idx e=>absurd e (no j idx)⟩
theorem Own.free{M:Nat}{owner:Array (Option Nat)}{hs:List Int}(O:Own M owner hs)(h:hs.length<=M):∃ j,j<M+1/\owner.getD j (some 0)=none:=by
 r Classical.byContradiction fun c=>?_;h all:∀ j,j<M+1->∃ idx,owner[j]?=some (some idx):=fun j hj=>by
  h hj':j<owner.size:=by rw[O.size]; !hj
  cases e:owner[j] with
  | none=>!absurd ⟨j,hj,by simp[Array.getD,hj',e]⟩ c
  | some idx=>!⟨idx,by rw[Array.getElem?_eq_getElem hj',e]⟩
 h key:∀ n,n<=M+1->∃ l:List Nat,l.length=n/\l.Nodup/\∀ x∈l,∃ j,j<n/\owner[j]?=some (some x):=by
  intro n
  induction n with
  | zero=>!fun _=>⟨[],rfl,List.nodup_nil,fun x hx=>by cases hx⟩
  | succ n ih =>
   intro hn;o⟨l,l1,l2,l3⟩:=ih ¢;o⟨idx,e⟩:=all n ¢;r⟨idx::l,by simp[l1],List.nodup_cons.mpr ⟨fun hm=>?_,l2⟩,fun x hx=>?_⟩
   ·o⟨j,hj,ej⟩:=l3 idx hm
    have:=O.one _ _ _ ej e;w
   ·rcases List.mem_cons.mp hx with rfl | hx
    ·!⟨n,by w,e⟩
    ·o⟨j,hj,ej⟩:=l3 x hx
     !⟨j,by w,ej⟩
 o⟨l,l1,l2,l3⟩:=key (M+1) ③;have:=CZ (l₂:=List.range hs.length) l2 fun x hx=>by
  o⟨j,_,ej⟩:=l3 x hx;!List.mem_range.mpr (O.at_ j x ej).1
 rw[List.length_range] at this;w
theorem Qn{M:Nat}:∀(k:Nat) (x:Nat×Nat),x.1<=M->(leaps M k x).1<=M
 | 0,x,h=>h
 | k+1,x,h=>Qn k (leap M x.1 x.2) (Ik _ _ _)
theorem Yg{M:Nat}(a b:Nat)(x:Nat×Nat):leaps M (a+b) x=leaps M b (leaps M a x):=CK _ a b x
theorem Own.next{M:Nat}{owner:Array (Option Nat)}{hs:List Int}(hM:Mask M)(O:Own M owner hs)(hl:hs.length<=M)(h:Int) :
  ∃ j,layClean.free M owner (turns M) (bits h%(M+1)) (bits h)=some j/\Own M (owner.setIfInBounds j (some hs.length)) (hs++[h]):=by
 o⟨f,hf,nf⟩:=O.free hl;h hi:bits h%(M+1)<=M:=by
  have:=Nat.mod_lt (bits h) (show 0<M+1 by w);w
 h reach:∃ k,k<turns M/\owner.getD (leaps M k (bits h%(M+1),bits h)).1 (some 0)=none:=by
  h p13:(leaps M 13 (bits h%(M+1),bits h)).2=0:=by
   rw[Ep];!Nat.div_eq_of_lt (Nat.lt_of_lt_of_le (Pq h) ¤)
  h i13:=Qn (M:=M) 13 (bits h%(M+1),bits h) hi;o⟨k,hk,ek⟩:=Vn hM (i:=(leaps M 13 (bits h%(M+1),bits h)).1) (j:=f) ¢ hf;r⟨13+k,by unfold turns; w,?_⟩;h e:leaps M 13 (bits h%(M+1),bits h)=((leaps M 13 (bits h%(M+1),bits h)).1,0):=Prod.ext rfl p13;rw[Yg,e,HS,ek];!nf
 o⟨m,h1,h2,h3⟩:=Wi (M:=M) (owner:=owner) (turns M) _ (bits h) hi reach;r⟨_,h1,?_⟩;generalize hj:wayM M (Bp M (bits h%(M+1)) (bits h)) m=j at h2;h hjs:j<owner.size:=by
  r Classical.byContradiction fun c=>?_;have:owner.getD j (some 0)=some 0:=by simp[Array.getD,c]
  rw[this] at h2;cases h2
 h hjn:owner[j]?=some none:=by
  rw[Array.getElem?_eq_getElem hjs];simp[Array.getD,hjs] at h2;rw[h2]
 h get:∀ k,(owner.setIfInBounds j (some hs.length))[k]?=if k=j then some (some hs.length) else owner[k]?:=fun k=>by
  rw[Array.getElem?_setIfInBounds];by_cases c:j=k
  ·subst c
   simp[hjs]
  ·rw[if_neg c,if_neg (Ne.symm c)]
 h some_of:∀ k,(owner.getD k (some 0)).isSome=true->((owner.setIfInBounds j (some hs.length)).getD k (some 0)).isSome=true:=fun k hk=>by
  rw[Array.getD_eq_getD_getElem?,get];split
  ·rfl
  ·rw[Array.getD_eq_getD_getElem?] at hk
   !hk
 h gd:∀ idx,idx<hs.length->(hs++[h]).getD idx 0=hs.getD idx 0:=fun idx hi=>by
  rw[¯,¯,List.getElem?_append_left hi]
 h gl:(hs++[h]).getD hs.length 0=h:=by rw[¯]; simp
 r⟨by rw[Array.size_setIfInBounds]; !O.size,fun idx hi=>?_,fun k idx e=>?_,fun k k' idx e e'=>?_⟩
 ·by_cases c:idx<hs.length
  ·o⟨k,ek⟩:=O.has idx c
   r⟨k,?_⟩;rw[get,if_neg (fun z=>by rw[z,hjn] at ek; cases ek)];!ek
  ·have:idx=hs.length:=by simp at hi; w
   !⟨j,by rw[get,if_pos rfl,this]⟩
 ·rw[get] at e
  by_cases c:k=j
  ·rw[if_pos c] at e
   have:hs.length=idx:=by simpa using e
   subst this;r⟨by simp,m,?_,fun m' hm'=>?_⟩
   ·rw[gl,hj,c]
   ·rw[gl]
    !some_of _ (h3 m' hm')
  ·rw[if_neg c] at e
   o⟨i1,m1,w1,w2⟩:=O.at_ k idx e;r⟨by simp; w,m1,?_,fun m' hm'=>?_⟩
   ·rw[gd idx i1]; !w1
   ·rw[gd idx i1]; !some_of _ (w2 m' hm')
 ·rw[get] at e e'
  by_cases c:k=j
  ·by_cases c':k'=j
   ·rw[c,c']
   ·rw[if_pos c] at e
    rw[if_neg c'] at e';have:hs.length=idx:=by simpa using e
    have:=(O.at_ k' idx e').1;w
  ·by_cases c':k'=j
   ·rw[if_neg c] at e
    rw[if_pos c'] at e';have:hs.length=idx:=by simpa using e'
    have:=(O.at_ k idx e).1;w
   ·rw[if_neg c] at e
    rw[if_neg c'] at e';!O.one _ _ _ e e'
theorem AAf{M:Nat}(hM:Mask M){hashes:Array Int}(h:hashes.size<=M):∃ owner,layClean M hashes=some owner/\Own M owner hashes.toList:=by
 unfold layClean;rw[<- Array.foldl_toList];h key:∀(l done:List Int) (owner:Array (Option Nat)),Own M owner done->done.length+l.length<=M ->
   ∃ owner',(l.foldl (fun acc h=>do
    let (owner,k) <- acc
    let j <- layClean.free M owner (turns M) (bits h%(M+1)) (bits h)
    pure (owner.setIfInBounds j (some k),k+1)) (some (owner,done.length)))=some (owner',done.length+l.length)/\Own M owner' (done++l):=by
  intro l
  induction l with
  | nil=>!fun done owner O _=>⟨owner,rfl,by rw[List.append_nil]; !O⟩
  | cons a t ih =>
   intro done owner O hl;simp at hl;o⟨j,ej,O'⟩:=O.next hM ¢ a
   o⟨owner',e,O''⟩:=ih (done++[a]) _ O' (by simp; w);r⟨owner',?_,by simpa using O''⟩;rw[List.foldl_cons];have:(do
    let (owner,k) <- some (owner,done.length)
    let j <- layClean.free M owner (turns M) (bits a%(M+1)) (bits a)
    pure (owner.setIfInBounds j (some k),k+1))=some (owner.setIfInBounds j (some done.length),done.length+1):=by
    show (do
     let j <- layClean.free M owner (turns M) (bits a%(M+1)) (bits a)
     pure (owner.setIfInBounds j (some done.length),done.length+1))=_
    rw[ej];rfl
   rw[this];rw[show (done++[a]).length=done.length+1 by simp] at e;rw[e];simp;w
 o⟨owner',e,O⟩:=key hashes.toList [] _ (Own.start M) (by simpa using h);r⟨owner',?_,by simpa using O⟩;h e':=congrArg (Option.map Prod.fst) e;!e'
def pairs(owner:Array (Option Nat))(l:List Nat):List (Nat×Nat):=l.filterMap fun j=>(owner.getD j none).map (j,·)
theorem Je{owner:Array (Option Nat)}{l:List Nat}{j idx:Nat}:(j,idx)∈pairs owner l↔j∈l/\owner.getD j none=some idx:=by
 unfold pairs;rw[List.mem_filterMap];constructor
 ·rintro⟨k,hk,e⟩
  cases o:owner.getD k none with
  | none=>rw[o] at e; cases e
  | some x =>
   rw[o] at e;h e':(k,x)=(j,idx):=Option.some.inj e;cases e';!⟨hk,o⟩
 ·rintro⟨hj,e⟩
  !⟨j,hj,by rw[e]; rfl⟩
theorem Ky{owner:Array (Option Nat)}:∀{l:List Nat},l.Pairwise (· < ·)->((pairs owner l).map (·.1)).Pairwise (· < ·)
 | [],_=>.nil
 | a::t,h=>by
  o⟨h1,h2⟩:=List.pairwise_cons.mp h;h ih:=Ky (owner:=owner) h2;unfold pairs;rw[List.filterMap_cons];cases o:owner.getD a none with
  | none=>!ih
  | some x =>
   show ((a,x)::pairs owner t |>.map (·.1)).Pairwise (· < ·);rw[List.map_cons];r List.pairwise_cons.mpr ⟨fun b hb=>?_,ih⟩;o⟨⟨b',i⟩,hm,rfl⟩:=List.mem_map.mp hb;!h1 b' (Je.mp hm).1
theorem Gd:∀{l₁ l₂:List Nat},l₁.Nodup->(∀ x∈l₁,x∈l₂)->l₂.length<=l₁.length->l₁.Perm l₂
 | [],l₂,_,_,h=>by
  have:l₂=[]:=List.length_eq_zero_iff.mp (by simpa using h);rw[this]
 | a::t,l₂,nd,hs,h=>by
  o⟨n1,n2⟩:=List.nodup_cons.mp nd;h ha:a∈l₂:=hs a ´;h hp:=List.perm_cons_erase ha;h hl:(l₂.erase a).length=l₂.length-1:=List.length_erase_of_mem ha;h ih:=Gd (l₂:=l₂.erase a) n2 (fun x hx=>(List.mem_erase_of_ne (fun(e:x=a)=>n1 (by rw[<- e]; !hx))).mpr (hs x (¶ _ hx))) (by simp at h; w);!(List.Perm.cons a ih).trans hp.symm
theorem ABi{M:Nat}(hM:Mask M){hashes:Array Int}(h:hashes.size<=M)(finger moves:Nat)(led plain:Bool) :
  ∃(place order:Array Nat),laid M finger moves led plain hashes=some ({mask:=M,place:=place,dummies:=#[],finger:=finger,led:=led,moves:=moves,plain:=plain},order) /\
   Tab {mask:=M,place:=place,dummies:=#[],finger:=finger,led:=led,moves:=moves,plain:=plain}/\place.size=hashes.size/\order.toList.Perm (List.range hashes.size) /\
   Loc {mask:=M,place:=place,dummies:=#[],finger:=finger,led:=led,moves:=moves,plain:=plain} (order.toList.map fun i=>hashes.toList.getD i 0):=by
 o⟨owner,e,O⟩:=AAf hM h;h gd:∀ j idx,owner.getD j none=some idx↔owner[j]?=some (some idx):=fun j idx=>by
  rw[Array.getD_eq_getD_getElem?];cases o:owner[j]? with
  | none=>simp
  | some x=>simp
 h rl:=List.pairwise_lt_range (n:=M+1);h rise:=Ky (owner:=owner) rl;h mem:∀ j idx,(j,idx)∈pairs owner (List.range (M+1))↔owner[j]?=some (some idx):=fun j idx=>by
  rw[Je,gd];r⟨fun z=>z.2,fun z=>⟨List.mem_range.mpr ?_,z⟩⟩;have:=(Array.getElem?_eq_some_iff.mp z).1;rw[O.size] at this;!this
 h nd:(⑯.map (·.2)).Nodup:=by
  h r:=List.pairwise_map.mp rise;r List.pairwise_map.mpr (r.imp_of_mem fun {a b} ha hb lt z=>?_);o⟨a1,a2⟩:=a;o⟨b1,b2⟩:=b;h z':a2=b2:=z;subst z';have:=O.one _ _ _ ((mem a1 a2).mp ha) ((mem b1 a2).mp hb);simp at lt;w
 h sub:∀ x∈⑯.map (·.2),x∈List.range hashes.size:=fun x hx=>by
  o⟨⟨j,i⟩,hm,rfl⟩:=List.mem_map.mp hx;have:=(O.at_ j i ((mem j i).mp hm)).1;!List.mem_range.mpr (by simpa using this)
 h sup:∀ x∈List.range hashes.size,x∈⑯.map (·.2):=fun x hx=>by
  o⟨j,ej⟩:=O.has x (by simpa using hx);!List.mem_map.mpr ⟨(j,x),(mem j x).mpr ej,rfl⟩
 h l1:=CZ List.nodup_range sup;h l2:=CZ nd sub;rw[List.length_range] at l1 l2;h perm:=Gd nd sub (by rw[List.length_range]; !l1);h ll:⑯.length=hashes.size:=by
  rw[List.length_map] at l1 l2;w
 r⟨(⑯.map (·.1)).toArray,(⑯.map (·.2)).toArray,?_,?_,?_,?_,?_⟩
 ·unfold laid
  rw[e];rfl
 ·r⟨hM,rfl,?_,fun j hj=>?_,?_⟩
  ·show (⑯.map (·.1)).toArray.size<=M
   rw[List.size_toArray,List.length_map,ll];!h
  ·h hj':j∈⑯.map (·.1):=hj
   o⟨⟨k,i⟩,hm,rfl⟩:=List.mem_map.mp hj';have:=List.mem_range.mp (Je.mp hm).1;show k<=M;w
  ·!rise
 ·rw[List.size_toArray,List.length_map,ll]
 ·!perm
 ·intro idx j hh hj hh'
  h hj':(⑯.map (·.1))[idx]?=some j:=by simpa using hj
  h hh2:((⑯.map (·.2)).map fun i=>hashes.toList.getD i 0)[idx]?=some hh:=hh';rw[List.getElem?_map] at hj';rw[List.getElem?_map,List.getElem?_map] at hh2;cases o:⑯[idx]? with
  | none=>rw[o] at hj'; cases hj'
  | some x =>
   o⟨k,i⟩:=x;rw[o] at hj' hh2;h ek:k=j:=Option.some.inj hj';h ei:hashes.toList.getD i 0=hh:=Option.some.inj hh2;subst ek;o⟨_,m,w1,w2⟩:=O.at_ k i ((mem k i).mp (List.mem_of_getElem? o));rw[ei] at w1 w2;r⟨m,w1,fun m' hm'=>?_⟩;h z:=w2 m' hm';h hb:bits hh%(M+1)<=M:=by
    have:=Nat.mod_lt (bits hh) (show 0<M+1 by w);w
   h fine:Fine M (Bp M (bits hh%(M+1)) (bits hh)):=⟨Px _ _,hb,hb,VN hb,rfl⟩;h wl:wayM M (Bp M (bits hh%(M+1)) (bits hh)) m'<=M:=(fine.iter m').j;show wayM M (Bp M (bits hh%(M+1)) (bits hh)) m'∈⑯.map (·.1);generalize wayM M (Bp M (bits hh%(M+1)) (bits hh)) m'=wv at z wl;h hw:wv<owner.size:=by rw[O.size]; w
   cases q:owner[wv] with
   | none =>
    have:owner.getD wv (some 0)=none:=by simp[Array.getD,hw,q]
    rw[this] at z;cases z
   | some i'=>!List.mem_map.mpr ⟨(wv,i'),(mem wv i').mpr (by rw[Array.getElem?_eq_getElem hw,q]),rfl⟩
section
variable{prog:Program}{w:World}{A:Around}{E:Value->Shared->Prop}{s:Shared}
abbrev IK(prog:Program)(w:World)(h:Heap)(ks:List Int)(a:Addr):Prop:=IsTupleKey (intKind prog w) h ks a
abbrev hsh(prog:Program)(w:World)(ks:List Int):Int:=tupleKeyHash (intKind prog w) ks
theorem Qa{ks:List Int}{vs:List Value}(h:ItemsAre (intKind prog w) ks vs):∀ v∈vs,∃ n t,v=.int n t:=by
 induction h with
 | nil=>intro v hv; cases hv
 | cons h1 _ ih =>
  intro v hv;rcases List.mem_cons.mp hv with rfl | hv
  ·o⟨t,e⟩:=Value.isInt_shape h1
   !⟨_,t,e⟩
  ·!ih v hv
theorem ABx{ks:List Int}{a:Addr}{Q:Bool->Shared->Prop}(hk:IK prog w s.heap ks a)(h:Q true s):wpAny ① A (hashByValue 8 (.ref a)) Q E s:=by
 h hT:=hk.typeIs;o⟨o,items,n,ho,_,hd,hi⟩:=hk;h allI:=Qa hi;unfold hashByValue;r wpAny_bind (wpAny_specialOf hT F.slot_tuple_hash.lookup ?_);show wpAny _ _ (seqItems? (.ref a) >>= _) _ _ s;r wpAny_bind (wpAny_seqItems ho hd ?_);r wpAny_bind ?_;show wpAny _ _ (forIn items _ _) _ _ s;rw[<- Array.forIn_toList];r wpAny_forIn_list _ (fun rest r s'=>r.1=none/\s'=s/\∀ v∈rest,∃ n t,v=Value.int n t) _ ?_ ?_ _ _ ⟨rfl,rfl,allI⟩
 ·rintro v rest r s' ⟨hr,rfl,hall⟩
  o⟨n,t,rfl⟩:=hall v ´;r wpAny_bind (wpAny_pure ?_);simp only[Bool.not_true,Bool.false_eq_true,if_false];!wpAny_pure ⟨rfl,rfl,fun u hu'=>hall u (¶ _ hu')⟩
 ·rintro⟨r1,r2⟩ s' ⟨hr,rfl,_⟩
  simp only at hr;subst hr;!wpAny_pure h
theorem Sh{ks:List Int}{a:Addr}{Q:Bool->Shared->Prop}(hk:IK prog w s.heap ks a)(h:Q false s):wpAny ① A (ofAClassStatement 8 (.ref a)) Q E s:=by
 h hT:=hk.typeIs;o⟨o,items,n,ho,_,hd,hi⟩:=hk;h allI:=Qa hi;unfold ofAClassStatement;r wpAny_bind (wpAny_typeOf hT ?_);show wpAny _ _ ((if ("tuple" == "tuple")=true then pure true else isSubtype (.type "tuple") (.type "tuple")) >>= _) _ _ s;rw[if_pos ¤];r wpAny_bind (wpAny_pure ?_);simp only[Bool.not_true,Bool.false_eq_true,if_false];r wpAny_bind (wpAny_seqItems ho hd ?_);show wpAny _ _ (forIn items _ _ >>= _) _ _ s;r wpAny_bind ?_;rw[<- Array.forIn_toList];r wpAny_forIn_list _ (fun rest r s'=>r.1=none/\s'=s/\∀ v∈rest,∃ n t,v=Value.int n t) _ ?_ ?_ _ _ ⟨rfl,rfl,allI⟩
 ·rintro v rest r s' ⟨hr,rfl,hall⟩
  o⟨n,t,rfl⟩:=hall v ´;r wpAny_bind (wpAny_pure ?_);simp only[Bool.false_eq_true,if_false];!wpAny_pure ⟨rfl,rfl,fun u hu'=>hall u (¶ _ hu')⟩
 ·rintro⟨r1,r2⟩ s' ⟨hr,rfl,_⟩
  simp only at hr;subst hr;!wpAny_pure h
theorem AAP{ks:List Int}{a:Addr}{Q:Bool->Shared->Prop}(hk:IK prog w s.heap ks a)(stored:List Value)(hst:∀ v∈stored,∃ k b,v=.ref b/\IK prog w s.heap k b)(h:Q false s):wpAny ① A (searchCouldBeSeen (.ref a) stored) Q E s:=by
 unfold searchCouldBeSeen;r wpAny_bind ?_;r wpAny_forIn_list _ (fun rest r s'=>r.1=none/\s'=s/\∀ v∈rest,∃ k b,v=Value.ref b/\IK prog w s.heap k b) _ ?_ ?_ _ _ ⟨rfl,rfl,hst⟩
 ·rintro v rest r s' ⟨hr,rfl,hall⟩
  h tl:∀ u∈rest,∃ k b,u=Value.ref b/\IK prog w s'.heap k b:=fun u hu'=>hall u (¶ _ hu');o⟨k,b,rfl,hb⟩:=hall v ´;dsimp only;by_cases c:(a==b)=true
  ·rw[if_pos (by rw[c]; rfl)]
   !wpAny_pure ⟨rfl,rfl,tl⟩
  ·rw[if_neg (by simp[c,carriedByValue])]
   r wpAny_bind (wpAny_eqIsQuiet_tuple hk ?_);simp only[Bool.not_true,Bool.false_eq_true,if_false];r wpAny_bind (wpAny_eqIsQuiet_tuple hb ?_);simp only[Bool.not_true,Bool.false_eq_true,if_false];r wpAny_bind (Sh hk ?_);simp only[Bool.false_eq_true,if_false];r wpAny_bind (Sh hb ?_);simp only[Bool.false_eq_true,if_false];!wpAny_pure ⟨rfl,rfl,tl⟩
 ·rintro⟨r1,r2⟩ s' ⟨hr,rfl,_⟩
  simp only at hr;subst hr;!wpAny_pure h
end
theorem Vi{P:Nat->Prop}:∀(m:Nat),P m->∃ n,P n/\∀ n',n'<n->¬ P n':=by
 intro m
 induction m using Nat.strongRecOn with
 | ind m ih =>
  intro h;by_cases c:∃ n,n<m/\P n
  ·o⟨n,hn,hp⟩:=c
   !ih n hn hp
  ·!⟨m,h,fun n' hn' hp=>c ⟨n',hn',hp⟩⟩
def ledOf(w:World):Bool:=!w.params.followText "set-order"
structure TS(prog:Program)(w:World)(h:Heap)(S:Addr)(es:Array (Int×Value))(t:SetTable)(ks:List ⑬):Prop where
 obj:∃ o ep,h.get? S=some o/\o.ExactSet/\o.data=.set es ep t
 tab:Tab t
 len:es.size=t.place.size
 loc:Loc t (es.toList.map (·.1))
 els:es.toList=ks.map fun x=>(hsh prog w x.1,Value.ref x.2)
 nd:(ks.map (·.1)).Nodup
 few:t.place.size*5<t.mask*3
 pl:t.plain=true
 ld:t.led=ledOf w
theorem Vj{t:SetTable}(T:Tab t):t.fill=t.place.size:=by unfold fill; rw[T.none]; rfl
theorem Gi{t:SetTable}(T:Tab t){n:Nat}(e:n=t.place.size):t.fits n=true:=by
 unfold SetTable.fits;rw[Vj T,e];have:=T.size;simp[this]
section
variable{prog:Program}{w:World}{A:Around}{E:Value->Shared->Prop}{s:Shared}{S:Addr}{es:Array (Int×Value)}{t:SetTable}{ks:List ⑬}
theorem TS.at_{h:Heap}(X:TS prog w h S es t ks){i:Nat}{j:Nat}(hi:t.place[i]?=some j):∃ x,ks[i]?=some x/\es[i]?=some (hsh prog w x.1,Value.ref x.2):=by
 h hl:=(Array.getElem?_eq_some_iff.mp hi).1;h hle:i<es.toList.length:=by rw[Array.length_toList,X.len]; !hl
 cases o:ks[i]? with
 | none =>
  have l2:=congrArg List.length X.els;rw[List.length_map] at l2;have:=List.getElem?_eq_none_iff.mp o;w
 | some x =>
  r⟨x,rfl,?_⟩;rw[<- Array.getElem?_toList,X.els,List.getElem?_map,o];rfl
theorem Ov{t:SetTable}(T:Tab t){i i' j:Nat}(h:t.place[i]?=some j)(h':t.place[i']?=some j):i=i':=by
 o⟨a,ea⟩:=Array.getElem?_eq_some_iff.mp h;o⟨b,eb⟩:=Array.getElem?_eq_some_iff.mp h';h r:=List.pairwise_iff_getElem.mp T.rise;rcases Nat.lt_trichotomy i i' with c | c | c
 ·have:=r i i' (by simpa using a) (by simpa using b) c
  simp at this;w
 ·!c
 ·have:=r i' i (by simpa using b) (by simpa using a) c
  simp at this;w
theorem Xj{k:List Int}{a:Addr}(X:TS prog w s.heap S es t ks)(hK:∀ x∈ks,IK prog w s.heap x.1 x.2)(hk:IK prog w s.heap k a)(hu:A.units<cLine){N:Nat}
  (hN:way t ⑪ N∉t.place.toList) (hB:∀ m,m<N->way t ⑪ m∈t.place.toList) {Q:SetFound->Shared->Prop}
  (h1:k∈ks.map (·.1)->Q (.there none) s) (h2:k∉ks.map (·.1)->Q (.free (way t ⑪ N) false) s) :
  ∀(fuel c:Nat) (stand:Option Probe),c<=N->N-c<fuel->stand.getD ⑪=SB.iter (step t.mask) c ⑪ ->
   (∀ m,m<c->∀(i:Nat) (x:List Int×Addr),t.place[i]?=some (way t ⑪ m)->ks[i]?=some x->x.1≠k) ->
   wpAny ① A (setSearchFrom S (.ref a) (hsh prog w k) true fuel stand) Q E s:=by
 o⟨o,ep,ho,hex,hd⟩:=X.obj;h hf:=Gi X.tab X.len;intro fuel
 induction fuel with
 | zero=>intro c stand _ h; w
 | succ fuel ih =>
  intro c stand hc hfu hst hV;unfold setSearchFrom;r wpAny_bind (wpAny_setState_of ho hd hf ?_);dsimp only;h hg:t.gaveWay=false:=by
   unfold SetTable.gaveWay;rcases X.tab.mask with e | e | e | e<;>rw[e]<;>decide
  rw[hg];simp only[Bool.false_eq_true,if_false];h fine:Fine t.mask (SB.iter (step t.mask) c ⑪):=(Fine.start t _).iter c;h hb:(SB.iter (step t.mask) c ⑪).perturb<2 ^ 64:=Nat.lt_of_le_of_lt (Kh c _) (Pq _);o⟨m,hm,hcase⟩:=ZF X.tab (hashAt:=fun i=>(es[i]?.map (·.1)).getD 0) (h:=hsh prog w k) fine hb;h wy:∀ m,way t (SB.iter (step t.mask) c ⑪) m=way t ⑪ (c+m):=fun m=>by
   unfold way;rw[CK]
  h inpl:∀{i j:Nat},t.place[i]?=some j->j∈t.place.toList:=fun {i j} e=>by
   rw[List.mem_iff_getElem?];!⟨i,by rw[Array.getElem?_toList]; !e⟩
  h hV':∀ m',m'<c+m->∀(i:Nat) (x:List Int×Addr),t.place[i]?=some (way t ⑪ m')->ks[i]?=some x->x.1≠k:=fun m' hm' i x hi hx ek=>by
   by_cases z:m'<c
   ·!hV m' z i x hi hx ek
   ·o⟨i',hi',hne⟩:=hm (m'-c) ¢
    rw[wy,show c+(m'-c)=m' by w] at hi';have:=Ov X.tab hi hi';subst this;o⟨y,hy,ey⟩:=X.at_ hi;rw[hx] at hy;cases hy;r hne ?_;show ((es[i]?.map (·.1)).getD 0)=_;rw[ey,<- ek];rfl
  h ltN:way t ⑪ (c+m)∈t.place.toList->c+m<N:=fun z=>by
   r Classical.byContradiction fun zz=>?_;by_cases q:c+m=N
   ·rw[q] at z; !hN z
   ·o⟨i',hi',_⟩:=hm (N-c) ¢
    rw[wy,show c+(N-c)=N by w] at hi';!hN (inpl hi')
  split
  ·rename_i met heq
   rw[hst] at heq;rcases hcase with⟨hne,e⟩ | ⟨i,hi,hsl,hhash,e⟩
   ·obtain rfl:=Option.some.inj (heq.symm.trans e)
    dsimp only;h hcN:c+m=N:=by
     rw[wy] at hne;r Classical.byContradiction fun q=>?_;by_cases z:c+m<N
     ·!hne (hB _ z)
     ·o⟨i',hi',_⟩:=hm (N-c) ¢
      rw[wy,show c+(N-c)=N by w] at hi';!hN (inpl hi')
    rw[wy,hcN];r wpAny_pure (h2 fun hmem=>?_);o⟨x,hx,ex⟩:=List.mem_map.mp hmem;o⟨i,hi⟩:=List.mem_iff_getElem?.mp hx;h hil:i<t.place.size:=by
     h l1:=(List.getElem?_eq_some_iff.mp hi).1;h l2:=congrArg List.length X.els;rw[List.length_map,Array.length_toList,X.len] at l2;w
    o⟨m1,w1,w2⟩:=X.loc i t.place[i] (hsh prog w x.1) (Array.getElem?_eq_getElem hil) (by rw[X.els,List.map_map,List.getElem?_map,hi]; rfl);rw[ex] at w1 w2;h hm1:m1<N:=by
     r Classical.byContradiction fun q=>?_;by_cases z:m1=N
     ·subst z
      rw[w1] at hN;!hN (inpl (Array.getElem?_eq_getElem hil))
     ·!hN (w2 N ¢)
    !hV' m1 ¢ i x (by rw[w1]; !Array.getElem?_eq_getElem hil) hi ex
   ·obtain rfl:=Option.some.inj (heq.symm.trans e)
    dsimp only;rw[wy] at hi hsl ⊢;h hlt:=ltN (inpl hi);o⟨x,hx,hes⟩:=X.at_ hi;h hxb:=hK x (List.mem_of_getElem? hx);h tail:wpAny ① A (do
      let some (_,y):=es[i]? | unsupported "internal:set-entry"
      let equal <- holding [y] (eqBool y (.ref a))
      let (es',_,t') <- setState S
      if true&&equal then return .there none
      let some same:=t'.sameMemory t.moves t.mask | unsupported "set.changed-during-lookup:is-the-new-block-at-the-old-address"
      let still <- match (if same then t'.slot (way t ⑪ (c+m)) else .empty) with
       | .live i'=>match es'[i']? with
        | some (_,y')=>do pure (if <- isSame y' y then some i' else none)
        | none=>pure none
       | _=>pure none
      match still with
      | none=>rule "set.search.anew"; setSearchFrom S (.ref a) (hsh prog w k) true fuel none
      | some i'=>if equal then return .there (some i') else setSearchFrom S (.ref a) (hsh prog w k) true fuel (some (SB.iter (step t.mask) (m+1) (SB.iter (step t.mask) c ⑪)))) Q E s:=by
     rw[hes];dsimp only;r wpAny_bind (wpAny_holding (wpAny_eqBool_tuple hu hxb hk ?_));r wpAny_bind (wpAny_setState_of ho hd hf ?_);dsimp only;by_cases ek:x.1=k
     ·rw[decide_eq_true ek]
      simp only[Bool.and_self,if_true];!wpAny_pure (h1 (List.mem_map.mpr ⟨x,List.mem_of_getElem? hx,ek⟩))
     ·rw[decide_eq_false ek]
      simp only[Bool.and_false,Bool.false_eq_true,if_false];h sm:t.sameMemory t.moves t.mask=some true:=by unfold sameMemory; simp
      rw[sm];dsimp only;simp only[if_true,hsl];rw[hes];dsimp only;r wpAny_bind (wpAny_isSame_ref_self ?_);simp only[if_true];r wpAny_bind (wpAny_pure ?_);dsimp only;r ih (c+m+1) _ ¢ ¢ ?_ ?_
      ·show SB.iter (step t.mask) (m+1) (SB.iter (step t.mask) c ⑪)=_
       rw[<- CK];rfl
      ·intro m' hm' i' x' hi' hx' ek'
       by_cases z:m'<c+m
       ·!hV' m' z i' x' hi' hx' ek'
       ·have:m'=c+m:=by w
        subst this;have:=Ov X.tab hi hi';subst this;rw[hx] at hx';cases hx';!ek ek'
    cases hled:t.led with
    | true =>
     simp only[Bool.not_true,Bool.false_eq_true,if_false];!tail
    | false =>
     simp only[Bool.not_false,if_true];r wpAny_bind (AAP hk _ ?_ ?_)
     ·intro v hv
      o⟨e',he',rfl⟩:=List.mem_map.mp hv;h he2:e'∈es.toList:=by
       have:e'∈es/\e'.fst=hsh prog w k:=by simpa using he'
       simpa using this.1
      rw[X.els] at he2;o⟨y,hy,rfl⟩:=List.mem_map.mp he2;!⟨y.1,y.2,rfl,hK y hy⟩
     ·simp only[Bool.false_eq_true,if_false]
      !tail
  ·rename_i hno
   rcases hcase with⟨_,e⟩ | ⟨i,_,_,_,e⟩
   ·!(hno _ (by rw[hst]; !e)).elim
   ·!(hno _ (by rw[hst]; !e)).elim
end
theorem Hz{α:Type}{l:List α}(d:α):∀{order:List Nat},(∀ i∈order,i<l.length)->order.filterMap (fun i=>l[i]?)=order.map fun i=>l.getD i d
 | [],_=>rfl
 | i::r,h=>by
  h hi:=h i ´;rw[List.filterMap_cons,± hi,List.map_cons,Hz d fun j hj=>h j (¶ _ hj)];simp[¯,hi]
theorem VD{α:Type}(l:List α):(List.range l.length).filterMap (fun i=>l[i]?)=l:=by
 cases l with
 | nil=>rfl
 | cons d r =>
  rw[Hz d fun i hi=>List.mem_range.mp hi];apply List.ext_getElem?;intro i;by_cases hi:i<(d::r).length
  ·rw[List.getElem?_map,List.getElem?_range hi,± hi]
   show some ((d::r).getD i d)=_;rw[¯,± hi];rfl
  ·rw[List.getElem?_eq_none (by simpa using hi),List.getElem?_eq_none ¢]
theorem Iw{α:Type}{l:List α}{order:List Nat}(h:order.Perm (List.range l.length)):(order.filterMap fun i=>l[i]?).Perm l:=by
 have:=h.filterMap fun i=>l[i]?;rw[VD] at this;!this
section
variable{prog:Program}{w:World}{A:Around}{E:Value->Shared->Prop}{s:Shared}{S:Addr}{es:Array (Int×Value)}{t:SetTable}{ks:List ⑬}
theorem stored{h:Heap}{o:Obj}{ep:Nat}(ho:h.get? S=some o)(hex:o.ExactSet)(hd:o.data=.set es ep t)(es':Array (Int×Value))(t':SetTable) :
  ∃ o' ep',(h.update S (Obj.putSet es' t')).get? S=some o'/\o'.ExactSet/\o'.data=.set es' ep' t':=by
 h hg:(h.update S (Obj.putSet es' t')).get? S=some {o with data:=.set es' (ep+1) t'}:=by
  have:=Heap.get?_update_self (Obj.putSet es' t') ho (by rw[putSet_of es' t' hd]; rfl);rw[putSet_of es' t' hd] at this; !this
 !⟨_,_,hg,hex,rfl⟩
theorem AAV{h:Heap}(hs:s.heap=h){o:Obj}{ep:Nat}(ho:h.get? S=some o)(hex:o.ExactSet)(hd:o.data=.set es ep t)(T:Tab t)(hl:es.size=t.place.size)(hel:es.toList=ks.map fun x=>(hsh prog w x.1,Value.ref x.2))
  (nd:(ks.map (·.1)).Nodup) (hfull:t.mask*3<=t.place.size*5) (hfew:(t.place.size-1)*5<t.mask*3) (h61:ks.length<=301) (hpl:t.plain=true) (hld:t.led=ledOf w) {Q:Unit->Shared->Prop}
  (q:∀ h' es' t' ks',Heap.SameBut S h h'->TS prog w h' S es' t' ks'->ks'.Perm ks->Q () {s with heap:=h'}) :
  wpAny ① A (setRelay S (grown es.size)) Q E s:=by
 subst hs;h hks:ks.length=es.size:=by
  have:=congrArg List.length hel;rw[List.length_map,Array.length_toList] at this;!this.symm
 h key:∃ M,sizeAbove (grown es.size)=M+1/\Mask M/\es.size<=M/\es.size*5<M*3:=by
  rcases T.mask with e | e | e | e
  ·have:es.size=5:=by rw[e] at hfull hfew; w
   rw[this];!⟨31,by decide,.inr (.inl rfl),by decide,by decide⟩
  ·have:es.size=19:=by rw[e] at hfull hfew; w
   rw[this];!⟨127,by decide,.inr (.inr (.inl rfl)),by decide,by decide⟩
  ·have:es.size=77:=by rw[e] at hfull hfew; w
   rw[this];!⟨511,by decide,.inr (.inr (.inr rfl)),by decide,by decide⟩
  ·rw[e] at hfull
   w
 o⟨M,eM,hM,hle,hfew'⟩:=key;unfold setRelay;r wpAny_bind (wpAny_setState_of ho hd (Gi T hl) ?_);dsimp only;h hz:¬ (sizeAbove (grown es.size)>sizeLine):=by
  rw[eM,sizeLine_eq];rcases hM with e | e | e | e<;>w
 rw[if_neg hz];o⟨place,order,el,T2,hps,hpo,L2⟩:=ABi hM (hashes:=es.map (·.1)) (by simpa using hle) t.finger (t.movedTo M) t.led t.plain;h erl:t.relaid (es.map (·.1)) (grown es.size)=some ({mask:=M,place:=place,dummies:=#[],finger:=t.finger,led:=t.led,moves:=t.movedTo M,plain:=t.plain},order):=by
  unfold relaid;rw[eM];!el
 r wpAny_bind ?_;show wpAny _ _ (do
  let some (t,order):=t.relaid (es.map (·.1)) (grown es.size) | unsupported "internal:set-table-without-room"
  let es':=order.filterMap (es[·]?)
  if es'.size != es.size then unsupported "internal:set-table-lost-an-element"
  pure (es',t)) _ _ _
 rw[erl];dsimp only;h hsz:(es.map (·.1)).size=es.toList.length:=by simp
 rw[hsz] at hpo;h ef:(order.filterMap (es[·]?)).toList=order.toList.filterMap fun i=>es.toList[i]?:=by
  rw[Array.toList_filterMap]
  congr 1
  funext i
  rw[Array.getElem?_toList]
 h hp:=Iw hpo;h hes:(order.filterMap (es[·]?)).size=es.size:=by
  rw[<- Array.length_toList,ef,hp.length_eq,Array.length_toList]
 rw[if_neg (by rw[hes]; simp)];r wpAny_pure ?_;dsimp only;r wpAny_storeSet_of ho hd ?_ (by rw[hes,sizeLine_eq]; rcases hM with e | e | e | e<;>w);o⟨o',ep',ho',hex',hd'⟩:=stored ho hex hd (order.filterMap (es[·]?)) {mask:=M,place:=place,dummies:=#[],finger:=t.finger,led:=t.led,moves:=t.movedTo M,plain:=t.plain};h hpk:(order.toList.filterMap fun i=>ks[i]?).Perm ks:=Iw (by rw[Array.length_toList] at hpo; rw[hks]; !hpo);r q _ _ _ (order.toList.filterMap fun i=>ks[i]?) (Heap.SameBut.update ..) ⟨⟨o',ep',ho',hex',hd'⟩,T2,?_,?_,?_,?_,?_,hpl,hld⟩ hpk
 ·rw[hes,hps]; simp
 ·h e1:(order.filterMap (es[·]?)).toList.map (·.1)=order.toList.map fun i=>(es.map (·.1)).toList.getD i 0:=by
   rw[ef,Hz (0,Value.none) (fun i hi=>by have:=List.mem_range.mp (hpo.mem_iff.mp hi); !this),List.map_map];r List.map_congr_left fun i hi=>?_;h hi':i<es.toList.length:=List.mem_range.mp (hpo.mem_iff.mp hi);h hi2:i<es.size:=by simpa using hi'
   show (es.toList.getD i (0,Value.none)).1=_;simp[¯,hi2]
  rw[e1];!L2
 ·rw[ef,hel,List.map_filterMap]
  congr 1
  funext i
  rw[List.getElem?_map]
 ·!(List.Perm.nodup_iff (hpk.map (·.1))).mpr nd
 ·show place.size*5<M*3
  rw[hps];simpa using hfew'
def Added(ks:List ⑬)(k:List Int)(a:Addr)(ks':List ⑬):Prop:=(k∈ks.map (·.1)/\ks'=ks)\/(k∉ks.map (·.1)/\ks'.Perm ((k,a)::ks))
theorem VL{k:List Int}{a:Addr}(X:TS prog w s.heap S es t ks)(hK:∀ x∈ks,IK prog w s.heap x.1 x.2)(hk:IK prog w s.heap k a)(hu:A.units<cLine)(h60:ks.length<=300){Q:Bool->Shared->Prop}
  (q:∀ b h' es' t' ks',Heap.SameBut S s.heap h'->TS prog w h' S es' t' ks'->Added ks k a ks'->Q b {s with heap:=h'}) :
  wpAny ① A (setAddHashed S (.ref a) (hsh prog w k)) Q E s:=by
 o⟨o,ep,ho,hex,hd⟩:=X.obj;h hf:=Gi X.tab X.len;h fine:Fine t.mask ⑪:=Fine.start t _;h hks:ks.length=t.place.size:=by
  have:=congrArg List.length X.els;rw[List.length_map,Array.length_toList,X.len] at this;!this.symm
 o⟨m0,hm0,nm0⟩:=NZ X.tab.mask X.tab.size fine (Pq (hsh prog w k));o⟨N,hN,hNmin⟩:=Vi (P:=fun m=>way t ⑪ m∉t.place.toList) m0 nm0;h hNle:N<=m0:=Classical.byContradiction fun c=>hNmin m0 ¢ nm0;h hB:∀ m,m<N->way t ⑪ m∈t.place.toList:=fun m hm=>Classical.byContradiction fun c=>hNmin m hm c;h hM:t.mask<=511:=by rcases X.tab.mask with e | e | e | e<;>w
 unfold setAddHashed setAddHashedIn;r wpAny_holding (wpAny_bind (wpAny_setState_of ho hd hf ?_));dsimp only;h hbs:byScan (.ref a) es=false:=rfl;rw[hbs];simp only[Bool.false_eq_true,if_false];unfold setSearch;r wpAny_bind (Xj X hK hk hu hN hB ?_ ?_ 100000 0 none (Nat.zero_le _) (by unfold turns at hm0; w) rfl (fun m hm=>absurd hm ¢))
 ·intro hmem
  !wpAny_pure (by
   have:=q false s.heap es t ks (Heap.SameBut.refl S s.heap) X (.inl ⟨hmem,rfl⟩);!this)
 ·intro hnm
  dsimp only;r wpAny_bind (wpAny_setState_of ho hd hf ?_);dsimp only;generalize hj:way t ⑪ N=j;h P:Put t j:=by
   r⟨?_,?_,?_⟩
   ·rw[<- hj]; !(fine.iter N).j
   ·rw[<- hj]; !hN
   ·have:=X.few
    rcases X.tab.mask with e | e | e | e<;>rw[e] at this ⊢<;>w
  h T1:=ACO X.tab P;h L1:=ABU X.tab (by rw[List.length_map,Array.length_toList,X.len]) X.loc hB;rw[hj] at L1;o⟨e1,e2⟩:=JL X.tab (j:=j);h b3:=(FT (j:=j) X.tab.rise).2.2;h pm:(t.put j).1.mask=t.mask:=by rw[e1]
  h pp:(t.put j).1.plain=true:=by rw[e1]; !X.pl
  h pd:(t.put j).1.led=ledOf w:=by rw[e1]; !X.ld
  h ps:(t.put j).1.place.size=t.place.size+1:=by
   rw[e1];have:=congrArg List.length (BW t.place (below t.place j) j);simp at this;show (insertAt t.place (below t.place j) j).size=_;w
  rw[e2] at L1;generalize hp:below t.place j=p at *;generalize ht1:(t.put j).1=t1 at *;h hes1:(insertAt es p (hsh prog w k,Value.ref a)).toList=(ks.take p++[(k,a)]++ks.drop p).map fun x=>(hsh prog w x.1,Value.ref x.2):=by
   rw[BW,X.els,List.map_append,List.map_append,List.map_take,List.map_drop];rfl
  h hsz1:(insertAt es p (hsh prog w k,Value.ref a)).size=es.size+1:=by
   have:=congrArg List.length (BW es p (hsh prog w k,Value.ref a));simp at this;have:=X.len;w
  h hperm:(ks.take p++[(k,a)]++ks.drop p).Perm ((k,a)::ks):=by
   have:=List.perm_middle (a:=(k,a)) (l₁:=ks.take p) (l₂:=ks.drop p);rw[List.take_append_drop] at this;rw[List.append_assoc];!this
  h nd1:((ks.take p++[(k,a)]++ks.drop p).map (·.1)).Nodup:=(List.Perm.nodup_iff (hperm.map (·.1))).mpr (by rw[List.map_cons]; !List.nodup_cons.mpr ⟨hnm,X.nd⟩);h hl1:(insertAt es p (hsh prog w k,Value.ref a)).toList.map (·.1)=(es.toList.map (·.1)).take p++[hsh prog w k]++(es.toList.map (·.1)).drop p:=by
   rw[BW,List.map_append,List.map_append,List.map_take,List.map_drop];rfl
  h e3:(t.put j).2=p:=e2;h go:∀(t2:SetTable),Tab t2->t2.mask=t1.mask->t2.place=t1.place->t2.plain=true->t2.led=ledOf w->wpAny ① A (do
    storeSet S (insertAt es p (hsh prog w k,Value.ref a)) t2
    if (!false&&t2.tooFull)=true then do
     setRelay S (grown (es.size+1))
     pure true
    else pure true) Q E s:=by
   intro t2 T2 m2 p2 q2 r2;r wpAny_bind (wpAny_storeSet_of ho hd ?_ (by rw[hsz1,sizeLine_eq]; have:=X.len; w));o⟨o',ep',ho',hex',hd'⟩:=stored ho hex hd (insertAt es p (hsh prog w k,Value.ref a)) t2;h L2:Loc t2 ((insertAt es p (hsh prog w k,Value.ref a)).toList.map (·.1)):=by
    rw[hl1];intro idx jj h' a1 a2;rw[p2] at a1;o⟨m,w1,w2⟩:=L1 idx jj h' a1 a2;r⟨m,?_,fun m' hm'=>?_⟩
    ·unfold way probeStart at w1 ⊢
     rw[m2];!w1
    ·have:=w2 m' hm'
     unfold way probeStart at this ⊢;rw[m2,p2];!this
   h tf:t2.tooFull=decide (t.mask*3<=(t.place.size+1)*5):=by
    unfold tooFull;rw[Vj T2,p2,m2,ps,pm]
   rw[tf];by_cases c:t.mask*3<=(t.place.size+1)*5
   ·rw[decide_eq_true c]
    simp only[Bool.not_false,Bool.and_self,if_true];rw[<- hsz1];r wpAny_bind (AAV (ks:=ks.take p++[(k,a)]++ks.drop p) rfl ho' hex' hd' T2 (by rw[hsz1,p2,ps,X.len]) hes1 nd1 ?_ ?_ ?_ q2 r2 ?_)
    ·rw[p2,m2,ps,pm]; !c
    ·rw[p2,m2,ps,pm]
     have:=X.few;w
    ·rw[hperm.length_eq]
     simp;w
    ·intro h' es' t' ks' sb X' pk
     !wpAny_pure (q true h' es' t' ks' ((Heap.SameBut.update ..).trans sb) X' (.inr ⟨hnm,pk.trans hperm⟩))
   ·rw[decide_eq_false c]
    simp only[Bool.and_false,Bool.false_eq_true,if_false];!wpAny_pure (q true _ _ t2 _ (Heap.SameBut.update ..) ⟨⟨o',ep',ho',hex',hd'⟩,T2,by rw[hsz1,p2,ps,X.len],L2,hes1,nd1,by rw[p2,m2,ps,pm]; w,q2,r2⟩ (.inr ⟨hnm,hperm⟩))
  rw[e3];simp only[pp,if_true];r wpAny_bind (ABx hk ?_);simp only[if_true];!go t1 T1 rfl rfl pp pd
theorem ADx{k:List Int}{a:Addr}(X:TS prog w s.heap S es t ks)(hK:∀ x∈ks,IK prog w s.heap x.1 x.2)(hk:IK prog w s.heap k a)(hu:A.units<cLine)(h60:ks.length<=300){Q:Bool->Shared->Prop}
  (q:∀ b h' es' t' ks',Heap.SameBut S s.heap h'->TS prog w h' S es' t' ks'->Added ks k a ks'->Q b {s with heap:=h',toks:=s.toks+(k.length+1)}) :
  wpAny ① A (setAdd S (.ref a)) Q E s:=by
 unfold setAdd;r wpAny_holding ?_;r wpAny_bind (wpAny_pyHash_tuple hu hk ?_);!VL (s:={s with toks:=s.toks+(k.length+1)}) X hK hk hu h60 fun b h' es' t' ks' sb X' ad=>q b h' es' t' ks' sb X' ad
end
structure Of(vals:Nat->List Int×Addr)(i:Nat)(ks:List ⑬):Prop where
 sub:∀ x∈ks,∃ j,j<i/\x=vals j
 sup:∀ j,j<i->(vals j).1∈ks.map (·.1)
 len:ks.length<=i
theorem Of.next{vals:Nat->List Int×Addr}{i:Nat}{ks ks':List ⑬}(h:Of vals i ks)(a:Added ks (vals i).1 (vals i).2 ks'):Of vals (i+1) ks':=by
 rcases a with⟨hm,rfl⟩ | ⟨hm,p⟩
 ·r⟨fun x hx=>?_,fun j hj=>?_,by have:=h.len; w⟩
  ·o⟨j,hj,e⟩:=h.sub x hx
   !⟨j,by w,e⟩
  ·by_cases c:j=i
   ·rw[c]; !hm
   ·!h.sup j ¢
 ·r⟨fun x hx=>?_,fun j hj=>?_,by rw[p.length_eq]; have:=h.len; simp; w⟩
  ·rcases List.mem_cons.mp (p.mem_iff.mp hx) with e | hx
   ·!⟨i,by w,e⟩
   ·o⟨j,hj,e⟩:=h.sub x hx
    !⟨j,by w,e⟩
  ·h pm:=(p.map (·.1)).mem_iff (a:=(vals j).1)
   by_cases c:j=i
   ·subst c
    !pm.mpr (by rw[List.map_cons]; !´)
   ·!pm.mpr (by rw[List.map_cons]; !¶ _ (h.sup j ¢))
section
variable{prog:Program}{w:World}{A:Around}{s:Shared}
theorem Gs{h h':Heap}{k:List Int}{a:Addr}(hk:IK prog w h k a)(e:∀ o,h.get? a=some o->h'.get? a=some o):IK prog w h' k a:=by
 o⟨o,items,n,ho,r⟩:=hk;!⟨o,items,n,e o ho,r⟩
theorem Vr{h h':Heap}{S:Addr}{es:Array (Int×Value)}{t:SetTable}{ks:List ⑬}(X:TS prog w h S es t ks)(e:∀ o,h.get? S=some o->h'.get? S=some o):TS prog w h' S es t ks:=by
 o⟨o,ep,ho,r⟩:=X.obj;!⟨⟨o,ep,e o ho,r⟩,X.tab,X.len,X.loc,X.els,X.nd,X.few,X.pl,X.ld⟩
end
theorem AAa{prog:Program}{w:World}{h:Heap}{S:Addr}{led:Bool}(hw:led=ledOf w)(hg:h.get? S=some {cls:=.type "set",dict:=none,data:=.set #[] 0 (.fresh 0 0 led)}):TS prog w h S #[] (.fresh 0 0 led) []:=by
 r⟨⟨_,0,hg,⟨rfl,rfl,rfl⟩,rfl⟩,⟨.inl rfl,rfl,Nat.zero_le _,fun j hj=>(by cases hj),.nil⟩,rfl,fun idx j h' a=>?_,rfl,.nil,by show 0*5<7*3; decide,rfl,hw⟩;cases a
section
variable{prog:Program}{w:World}{A:Around}{E:Value->Shared->Prop}{s:Shared}
theorem Yz(a:Value){Q₁:Value->Shared->Prop}(h:Q₁ (.ref ¸) {s with heap:=s.heap.push {cls:=.type "set",dict:=none,data:=.set #[] 0 (.fresh 0 0 (ledOf w))}}) :
  codeAny ① A (.call (.builtin "set.__new__") ⟨[.type "set",a],[]⟩) (wants Q₁ E) s:=by
 r codeAny_of_tree ?_;show wpAny _ A.in1 (checkBuiltinCall "set.__new__" ⟨[.type "set",a],[]⟩ >>= fun _=>again (.builtin "set.__new__" ⟨[.type "set",a],[]⟩)) _ _ s;r wpAny_bind (wpAny_of_eq (F.newCall_set_1 a) (wpAny_pure ⟨plainId_quiet F.plain_set_new _,codeAny_builtin F.entry_set_new ?_⟩));rw[Around.under_plainId F.plain_set_new _];unfold Builtin.«set.__new__» Builtin.Frozenset.newClass;h sself:=sub_set_self;o⟨hp,g,d,tk,os⟩:=s;dsimp only
 wp_walk
 r wpAny_askSetting (wpAny_pure ?_);dsimp only;simp only[newObj];r wpAny_bind (wpAny_alloc (wpAny_pure ?_));!wpAny_pure h
end
theorem AAv{α:Type}{l:List α}:∀{k:Nat}{y:α},l[k]?=some y->(y::l.eraseIdx k).Perm l:=by
 induction l with
 | nil=>intro k y h; simp at h
 | cons a t ih =>
  intro k y h;cases k with
  | zero =>
   obtain rfl:a=y:=by simpa using h
   !List.Perm.refl _
  | succ k =>
   have h':t[k]?=some y:=by simpa using h
   !(List.Perm.swap a y _).trans (List.Perm.cons a (ih h'))
theorem WR{α:Type}(next:Nat->Nat):∀(fuel k:Nat) (left:List α) (out:Array α),left.length<=fuel->(pickOrder.go next fuel k left out).toList.Perm (out.toList++left)
 | 0,k,left,out,h=>by
  have:left=[]:=List.length_eq_zero_iff.mp ¢;subst this;rw[List.append_nil];!List.Perm.refl _
 | fuel+1,k,left,out,h=>by
  unfold pickOrder.go;cases e:left[next k%left.length]? with
  | none =>
   have hl:left=[]:=by
    cases left with
    | nil=>rfl
    | cons a t =>
     have:=Nat.mod_lt (next k) (show 0<(a::t).length by simp);rw[± this] at e;cases e
   subst hl;rw[List.append_nil]
  | some x =>
   have hi:=(List.getElem?_eq_some_iff.mp e).1;have hl:(left.eraseIdx (next k%left.length)).length=left.length-1:=List.length_eraseIdx_of_lt hi;have ih:=WR next fuel (k+1) (left.eraseIdx (next k%left.length)) (out.push x) ¢
   r ih.trans ?_;rw[Array.toList_push,List.append_assoc];!List.Perm.append_left _ (AAv e)
theorem ACg{α:Type}(next:Nat->Nat)(xs:Array α):(pickOrder next xs).toList.Perm xs.toList:=by
 have:=WR next xs.size 0 xs.toList #[] ¥
 unfold pickOrder;simpa using this
namespace F
theorem La:entryFor table "set.__iter__" = some Builtin.«frozenset.__iter__» :=
 entryFor_alias (id':="frozenset.__iter__") (by kernel_rfl) (by first | rfl | decide +kernel) £ (by kernel_rfl)
theorem Tn:Manifest.owners.lookup (String.ofList ['r','o','t','a','r','e','t','i','_','t','e','s'].reverse)=some Manifest.sig_set_iterator:=by kernel_rfl
theorem Dv:Slot "set_iterator" "__next__" "set_iterator.__next__":=.of (owner:="set_iterator") (n:="__next__") (by rw[typeLookup_type,builtinLookup_eq_fast]; kernel_rfl) £ £ £ (by first | !.inl £ | !.inr £) (by rw[isSubtype_type]; kernel_rfl)
theorem Mp:entryFor table "set_iterator.__next__" = some Builtin.«set_iterator.__next__»:=entryFor_of_tree (by kernel_rfl)
theorem QS(a:Value):argsOk "set_iterator.__next__" ⟨[a],[]⟩:=by
 unfold argsOk; rw[signature?_of (id:="set_iterator.__next__") (n:=['_','_','t','x','e','n','_','_']) (o:=['r','o','t','a','r','e','t','i','_','t','e','s']) (by kernel_rfl) Tn]; kernel_rfl
theorem Io:Slot "set_iterator" "__iter__" "set_iterator.__iter__":=.of (owner:="set_iterator") (n:="__iter__") (by rw[typeLookup_type,builtinLookup_eq_fast]; kernel_rfl) £ £ £ (by first | !.inl £ | !.inr £) (by rw[isSubtype_type]; kernel_rfl)
theorem Pn(a:Value):argsOk "set_iterator.__iter__" ⟨[a],[]⟩:=by
 unfold argsOk; rw[signature?_of (id:="set_iterator.__iter__") (n:=['_','_','r','e','t','i','_','_']) (o:=['r','o','t','a','r','e','t','i','_','t','e','s']) (by kernel_rfl) Tn]; kernel_rfl
theorem Mj:entryFor table "set_iterator.__iter__" = some Builtin.«dict_keyiterator.__iter__» :=
 entryFor_alias (id':="dict_keyiterator.__iter__") (by kernel_rfl) (by first | rfl | decide +kernel | (unfold String.splitOn; simp +decide [String.splitOnAux])) £ (by kernel_rfl)
end F
def SI(h:Heap)(I S:Addr)(slot i n ep:Nat):Prop:=∃ o,h.get? I=some o/\o.cls=.type "set_iterator"/\o.data=.fields #[rawInt slot,rawInt i,.ref S,rawInt n,rawInt ep]
theorem SI.typeIs{s:Shared}{I S:Addr}{slot i n ep:Nat}(x:SI s.heap I S slot i n ep):s.TypeIs (.ref I) "set_iterator":=let ⟨o,ho,hc,_⟩:=x; ⟨o,ho,hc⟩
section
variable{prog:Program}{w:World}{A:Around}{E:Value->Shared->Prop}{s:Shared}{S:Addr}{es:Array (Int×Value)}{t:SetTable}{ep:Nat}{o:Obj}
def text(w:World):Bool:=w.params.followText "set-order"
def ord(w:World)(S:Addr)(ep:Nat)(es:Array (Int×Value)):Array (Int×Value):=if text w=true then pickOrder (w.params.setOrder S ep) es else es
theorem TF(w:World)(S:Addr)(ep:Nat)(es:Array (Int×Value)):(ord w S ep es).toList.Perm es.toList:=by
 unfold ord;split
 ·!ACg _ _
 ·!List.Perm.refl _
def slotAt(w:World)(t:SetTable)(i:Nat):Nat:=if text w=true then 0 else if i=0 then 0 else t.place.getD (i-1) 0+1
theorem Tw(hx:text w=false)(T:Tab t){i:Nat}(hi:i<=t.place.size):below t.place (slotAt w t i)=i:=by
 o⟨b1,b2,b3⟩:=FT (j:=slotAt w t i) T.rise;h r:=List.pairwise_iff_getElem.mp T.rise;h gd:∀ k (hk:k<t.place.size) d,t.place.getD k d=t.place.toList[k]'(by simpa using hk):=fun k hk d=>by simp[Array.getD,hk]
 h sl:∀ h0:i≠0,slotAt w t i=t.place.toList[i-1]'(by simp; w)+1:=fun h0=>by
  unfold slotAt;rw[hx,if_neg ¤,if_neg h0,gd (i-1) ¢]
 rcases Nat.lt_trichotomy (below t.place (slotAt w t i)) i with c | c | c
 ·h z:=b2 _ ③ ¢
  rw[gd _ ¢] at z;h slz:=sl ¢;by_cases d:below t.place (slotAt w t i)=i-1
  ·have:t.place.toList[below t.place (slotAt w t i)]'(by simp; w)=t.place.toList[i-1]'(by simp; w):=by congr 1
   w
  ·have:=r (below t.place (slotAt w t i)) (i-1) (by simp; w) (by simp; w) ¢
   w
 ·!c
 ·h z:=b1 i c
  rw[gd i ¢] at z;by_cases h0:i=0
  ·have:slotAt w t i=0:=by unfold slotAt; rw[hx,if_neg ¤,if_pos h0]
   w
  ·h slz:=sl h0
   have:=r (i-1) i (by simp; w) (by simp; w) ¢;w
theorem ACT(ho:s.heap.get? S=some o)(hd:o.data=.set es ep t)(T:Tab t)(hl:es.size=t.place.size)(hp:t.plain=true)(hled:t.led=ledOf w){i:Nat}{Q:Option (Value×Nat)->Shared->Prop}
  (q:Q (((ord w S ep es)[i]?).map fun e=>(e.2,slotAt w t (i+1))) s) (hi:i<=es.size):wpAny ① A (setNext S (slotAt w t i) i ep) Q E s:=by
 h hf:=Gi T hl;unfold setNext;r wpAny_bind (wpAny_setState_of ho hd hf ?_);dsimp only;unfold setsByText;r wpAny_bind (wpAny_bind (wpAny_askSetting (wpAny_pure ?_)));cases hx:text w with
 | true =>
  have hx':①.w.params.followText "set-order" = true:=hx;simp only[hx',if_true,bne_self_eq_false,Bool.false_eq_true,if_false];unfold setWalk setsByText;r wpAny_bind (wpAny_bind (wpAny_setState_of ho hd hf ?_));dsimp only;r wpAny_bind (wpAny_bind (wpAny_askSetting (wpAny_pure ?_)));simp only[hx',if_true];r wpAny_bind (wpAny_askSetting (wpAny_pure ?_));r wpAny_pure ?_;have e1:ord w S ep es=pickOrder (w.params.setOrder S ep) es:=by unfold ord; rw[hx]; rfl
  have e2:∀ i,slotAt w t i=0:=fun i=>by unfold slotAt; rw[hx]; rfl
  rw[e1,e2] at q;rw[e2];!q
 | false =>
  have hx':①.w.params.followText "set-order" = false:=hx;have hledT:t.led=true:=by rw[hled]; unfold ledOf; rw[show w.params.followText "set-order" = false from hx]; rfl
  have e1:ord w S ep es=es:=by unfold ord; rw[hx]; rfl
  rw[e1] at q;simp only[hx',Bool.false_eq_true,if_false];r wpAny_ite_split (fun hab=>?_) (fun _=>?_)
  ·have hab':(!t.plain&&decide (es.size>1))=true:=hab
   rw[hp] at hab';cases hab'
  r wpAny_bind ?_;show wpAny _ _ (if (!t.led && !es.isEmpty)=true then unsupported "set:maker-not-led" else pure ()) _ _ _;rw[hledT];simp only[Bool.not_true,Bool.false_and,Bool.false_eq_true,if_false];r wpAny_pure (wpAny_pure ?_);rw[Tw hx T (by rw[<- hl]; !hi)];by_cases c:i<es.size
  ·have c2:i<t.place.size:=by rw[<- hl]; !c
   rw[Array.getElem?_eq_getElem c] at q ⊢;rw[Array.getElem?_eq_getElem c2];have e3:slotAt w t (i+1)=t.place[i]+1:=by
    unfold slotAt;rw[hx,if_neg ¤,if_neg ¢];simp[Array.getD,c2]
   rw[e3] at q;!q
  ·rw[Array.getElem?_eq_none ¢] at q ⊢
   !q
def SSt(w:World)(I S:Addr)(o:Obj)(es:Array (Int×Value))(t:SetTable)(ep i:Nat)(h:Heap):Prop:=h.get? S=some o/\SI h I S (slotAt w t i) i es.size ep
theorem Vq(hh:A.handled=none){I:Addr}(hne:S≠I)(hd:o.data=.set es ep t)(T:Tab t)(hl:es.size=t.place.size)(hp:t.plain=true)(hled:t.led=ledOf w){i:Nat}(st:SSt w I S o es t ep i s.heap)(hi:i<=es.size){Q:Option Value->Shared->Prop}
  (q1:∀ e h',(ord w S ep es)[i]?=some e->SSt w I S o es t ep (i+1) h'->Heap.SameBut I s.heap h'->Q (some e.2) {s with heap:=h'})
  (q2:(ord w S ep es)[i]?=none->∀ h',Heap.ExtBut I s.heap h'->Q none {s with heap:=h'}):wpAny ① A (pyNext (.ref I)) Q E s:=by
 o⟨ho,x⟩:=st;o⟨oi,hoi,hci,hdi⟩:=id x;unfold pyNext;r wpAny_bind (wpAny_attempt (wpAny_callSpecial?_slot (name:=Str.ofString "__next__") x.typeIs F.Dv (wpAny_call_entry F.Dv x.typeIs F.Mp ?_ (F.QS _))));unfold Builtin.«set_iterator.__next__»;r wpAny_bind (wpAny_of_eq (a:=(Value.ref I,[])) rfl ?_)
 try dsimp only
 r wpAny_bind (wpAny_fieldsOf hoi hdi ?_);show wpAny _ _ (setEntries S >>= _) _ _ s;r wpAny_bind (wpAny_setEntries_of ho hd (Gi T hl) ?_);simp only[bne_self_eq_false,Bool.false_eq_true,if_false];show wpAny _ _ (setNext S (((slotAt w t i:Nat):Int)).toNat (((i:Nat):Int)).toNat (((ep:Nat):Int)).toNat >>= _) _ _ s;rw[Int.toNat_natCast,Int.toNat_natCast,Int.toNat_natCast];r wpAny_bind (ACT ho hd T hl hp hled ?_ hi);cases e:(ord w S ep es)[i]? with
 | some v =>
  show wpAny _ _ (setField (.ref I) 0 (rawInt ((slotAt w t (i+1):Nat):Int)) >>= fun _=>setField (.ref I) 1 (rawInt ((i:Int)+1)) >>= fun _=>ret v.2) _ _ s;r wpAny_bind (wpAny_setField hoi hdi ¥ ?_);h g1:=Heap.get?_update_self (Obj.mapFields (fun fs=>fs.setIfInBounds 0 (rawInt ((slotAt w t (i+1):Nat):Int)))) hoi (Obj.isFreed_of_fields (Obj.data_mapFields hdi _));h d1:=Obj.data_mapFields hdi (fun fs=>fs.setIfInBounds 0 (rawInt ((slotAt w t (i+1):Nat):Int)));r wpAny_bind (wpAny_setField g1 d1 ¥ ?_);h g2:=Heap.get?_update_self (Obj.mapFields (fun fs=>fs.setIfInBounds 1 (rawInt ((i:Int)+1)))) g1 (Obj.isFreed_of_fields (Obj.data_mapFields d1 _));h d2:=Obj.data_mapFields d1 (fun fs=>fs.setIfInBounds 1 (rawInt ((i:Int)+1)));r wpAny_pure ⟨_,rfl,wpAny_pure (q1 v _ e ⟨?_,_,g2,?_,?_⟩ ((Heap.SameBut.update ..).trans (Heap.SameBut.update ..)))⟩
  ·!(Heap.get?_update_other _ _ (Ne.symm hne)).trans ((Heap.get?_update_other _ _ (Ne.symm hne)).trans ho)
  ·!(Obj.cls_mapFields ..).trans ((Obj.cls_mapFields ..).trans hci)
  ·rw[d2]
   simp
 | none =>
  show wpAny _ _ (setField (.ref I) 2 Value.none >>= fun _=>newExc (Value.type "StopIteration") [] >>= fun x=>raiseNew x) _ _ s;r wpAny_bind (wpAny_setField hoi hdi ¥ ?_);r wpAny_bind ?_;simp only[newExc,newTuple];r wpAny_bind (wpAny_newObj_type ?_ (by size_fits));r wpAny_bind (m:=firstArgMember _ _) (wpAny_of_eq (a:=Value.none) (by first | rfl | (simp only[firstArgMember]; rfl)) ?_);r wpAny_newObj_type ?_ (by size_fits);simp only[raiseNew];r wpAny_bind (wpAny_handled ?_);rw[show A.in1.handled=none from hh];r wpAny_bind (wpAny_pure (wpAny_throw ?_));r wpAny_bind (wpAny_isInstance (T:="StopIteration") (b:=true) ⟨_,¿ _ rfl,rfl⟩ isSubtype_stop ?_);!wpAny_pure (q2 e _ (((Heap.SameBut.update ..).extBut.push _).push _))
theorem Kq(w:World)(S:Addr)(ep:Nat)(es:Array (Int×Value)):(ord w S ep es).size=es.size:=by
 rw[<- Array.length_toList,(TF w S ep es).length_eq,Array.length_toList]
theorem Xh(hh:A.handled=none){I:Addr}(hne:S≠I)(hd:o.data=.set es ep t)(T:Tab t)(hl:es.size=t.place.size)(hp:t.plain=true)(hled:t.led=ledOf w) :
  Walks prog w A I [I,S] [I] es.size (fun i v=>∃ e,(ord w S ep es)[i]?=some e/\v=e.2) (fun i h=>i<=es.size/\SSt w I S o es t ep i h) where
 sub:=fun b hb=>by simp at hb; simp[hb]
 frame:=fun i h h' ⟨hi,h1,oi,h2,r⟩ hk=>⟨hi,hk S ¥ o h1,oi,hk I ¥ oi h2,r⟩
 item:=fun i s Q E hi ⟨hi',st⟩ hQ=>by
  r Vq hh hne hd T hl hp hled st hi' (fun e h' ge st' sb=>hQ _ h' s.toks ⟨e,ge,rfl⟩ ⟨hi,st'⟩ fun b ob hb eo=>?_) (fun z=>?_)
  ·rw[sb.2 b (fun(q:b=I)=>hb (by simp[q]))]
   !eo
  ·have:=Kq w S ep es
   rw[Array.getElem?_eq_none_iff] at z;w
 done:=fun s Q E ⟨_,st⟩ hQ=>by
  r Vq hh hne hd T hl hp hled st ③ (fun e h' ge st' sb=>?_) (fun z h' eb=>hQ h' s.toks fun b ob hb eo=>eb b ob (fun q=>hb (by simp[q])) eo);have:=(Array.getElem?_eq_some_iff.mp ge).1;rw[Kq] at this;w
 self:=fun i s Q E ⟨_,_,x⟩ hQ=>by
  r wpAny_pyIter_slot x.typeIs F.Io (wpAny_call_entry F.Io x.typeIs F.Mj ?_ (F.Pn _));show wpAny _ _ (ret (.ref I)) _ _ s;!wpAny_pure ⟨_,rfl, "set_iterator",_,x.typeIs,F.Dv.lookup,hQ⟩
theorem Zi(ho:s.heap.get? S=some o)(hex:o.ExactSet)(hd:o.data=.set es ep t)(T:Tab t)(hl:es.size=t.place.size)(hp:t.plain=true){Q:Value->Shared->Prop}
  (q:∀ x,(s.heap.push x).get? ¸=some x->SSt w ¸ S o es t ep 0 (s.heap.push x)->Q (.ref ¸) {s with heap:=s.heap.push x}):wpAny ① A (pyIter (.ref S)) Q E s:=by
 h hf:=Gi T hl;h tS:s.TypeIs (.ref S) "set":=⟨o,ho,hex.1⟩;r wpAny_pyIter_slot tS PySem.F.slot_set_iter (wpAny_call_entry PySem.F.slot_set_iter tS F.La ?_ (PySem.F.args_set_iter_1 _));unfold Builtin.«frozenset.__iter__»;r wpAny_bind (wpAny_of_eq (a:=S) rfl ?_);r wpAny_bind (m:=Builtin.Frozenset.sizeOf S) (wpAny_bind (wpAny_setEntries_of ho hd hf (wpAny_pure ?_)));r wpAny_bind (m:=setDrawn S) ?_;unfold setDrawn setsByText;r wpAny_bind (wpAny_setState_of ho hd hf ?_);dsimp only;r wpAny_bind (wpAny_bind (wpAny_askSetting (wpAny_pure ?_)));r wpAny_pure ?_;r wpAny_ite_split (fun hab=>?_) (fun _=>?_)
 ·h hab':(!w.params.followText "set-order" && (!t.plain&&decide (es.size>1)))=true:=hab
  rw[hp] at hab';simp at hab'
 r wpAny_bind (wpAny_pure ?_);r wpAny_bind (wpAny_setEpoch_of ho hd hf ?_);unfold newFields;r wpAny_bind (wpAny_newObj_type ?_);h z:slotAt w t 0=0:=by
  unfold slotAt;split
  ·rfl
  ·rfl
 r wpAny_pure ⟨_,rfl, "set_iterator",_,⟨_,¿ _ rfl,rfl⟩,F.Dv.lookup,q _ (¿ _ rfl) ⟨° _ ho,_,¿ _ rfl,rfl,?_⟩⟩;rw[z];rfl
theorem AAt(ho:s.heap.get? S=some o)(hex:o.ExactSet){Q:Bool->Shared->Prop}(h:Q false s):wpAny ① A (Builtin.List.listLengthHint (.ref S)) Q E s:=by
 h tS:s.TypeIs (.ref S) "set":=⟨o,ho,hex.1⟩;unfold Builtin.List.listLengthHint;r wpAny_bind (wpAny_specialOf tS PySem.F.slot_set_len.lookup ?_);generalize hid:("set.__len__" : String)=id0
 wp_delta
 rw[show splitId id0=some ("set", "__len__") from by subst hid; decide +kernel];subst hid;r wpAny_bind (wpAny_isInstance (T:="set") (b:=true) tS (by rw[isSubtype_type]; kernel_rfl) ?_);r wpAny_ite_split (fun hab=>absurd hab ¤) (fun _=>?_);r wpAny_ite_split (fun _=>?_) (fun hab=>absurd £ hab);r wpAny_bind (wpAny_typeOf tS ?_);!wpAny_pure h
theorem Uq{R:Result->Shared->Prop}(hh:A.handled=none)(ho:s.heap.get? S=some o)(hex:o.ExactSet)(hd:o.data=.set es ep t)(T:Tab t)(hl:es.size=t.place.size)(hp:t.plain=true)(hled:t.led=ledOf w)(h61:es.size<=301)
  (D:Addr) (res:Value) (c₀:Nat) (hD:s.heap.get? D=some {cls:=.type "list",data:=.seq #[] c₀})
  (hR:∀ h' tk acc' c',(∀ b ob,b≠D->s.heap.get? b=some ob->h'.get? b=some ob)->h'.get? D=some {cls:=.type "list",dict:=none,data:=.seq acc' c',slots:=#[]} ->
   ItemsOf (fun i v=>∃ e,(ord w S ep es)[i]?=some e/\v=e.2) acc' es.size->R (.ok (.ret res)) {s with heap:=h',toks:=tk}) :
  wpAny ① A.in1 (Builtin.List.listExtendWith (.ref D) (.ref S) res)
   (fun fin s'=>match fin with | .done f=>R (.ok f) s' | .again c'=>c'.quiet=true/\codeAny ① A c' R s') (fun e s'=>R (.error e) s') s:=by
 h tS:s.TypeIs (.ref S) "set":=⟨o,ho,hex.1⟩;h nDS:D≠S:=fun e=>by
  rw[e,ho] at hD;cases hD;cases hd
 h nSI:S≠¸:=Nat.ne_of_lt (Heap.lt_size ho);h nDI:D≠¸:=Nat.ne_of_lt (Heap.lt_size hD);h nDf:D∉[¸,S]:=fun hm=>by
  rcases List.mem_cons.mp hm with e | hm
  ·!nDI e
  ·!nDS (List.mem_singleton.mp hm)
 h W:=(Xh (prog:=prog) (A:=A.in1) (o:=o) hh nSI hd T hl hp hled).toS;unfold Builtin.List.listExtendWith;r wpAny_bind (wpAny_typeOf (T:="set") tS ?_);h c1:Builtin.List.listSameRef (.ref D) (.ref S)=false:=by simp[Builtin.List.listSameRef,nDS]
 h c2:(Value.type "set" == Value.type "list")=false:=by decide
 h c3:(Value.type "set" == Value.type "tuple")=false:=by decide
 simp only[c1,c2,c3,Bool.or_false,Bool.false_eq_true,if_false];r wpAny_bind (Zi ho hex hd T hl hp fun x gx st=>?_);r wpAny_bind (wpAny_holding (AAt (s:={s with heap:=s.heap.push x}) (° _ ho) hex ?_));r wpAny_ite_split (fun _=>?_) (fun hab=>absurd £ hab);h hD1:(s.heap.push x).get? D=some {cls:=.type "list",data:=.seq #[] c₀}:=° _ hD;r wpAny_bind (wpAny_rule ?_);r wpAny_bind ?_;show wpAny _ _ (updateSeq D (·.push .none) >>= fun _=>updateSeq D (·.pop)) _ _ _;r wpAny_bind (wpAny_updateSeq hD1 rfl ?_);h hD2:=Heap.get?_update_self (Obj.mapSeq (·.push Value.none)) hD1 rfl;r wpAny_updateSeq (hz:=by seq_fits) hD2 rfl ?_;h hD3:=Heap.get?_update_self (Obj.mapSeq (·.pop)) hD2 rfl;h keep:∀ b ob,b≠D->(s.heap.push x).get? b=some ob->(((s.heap.push x).update D (Obj.mapSeq (·.push Value.none))).update D (Obj.mapSeq (·.pop))).get? b=some ob:=fun b ob hb e=>(Heap.get?_update_other _ _ (Ne.symm hb)).trans ((Heap.get?_update_other _ _ (Ne.symm hb)).trans e);o⟨st1,oi,st2,st3⟩:=st;r wpAny_pure ⟨plainId_quiet F.plain_extend_loop _,?_⟩;r codeAny_extend_loopS W (by rw[sizeLine_eq]; w) D nDf res es.size 0 _ _ _ rfl (Nat.zero_le _) ⟨Nat.zero_le _,keep S o nDS.symm st1,oi,keep _ oi (Ne.symm nDI) st2,st3⟩ hD3 (ItemsOf.nil _) fun s' acc' c' hm hS' hacc=>?_;rw[Moved.eq_with hm];r hR s'.heap s'.toks acc' c' (fun b ob hb e=>hm.heap b ob (fun hmem=>?_) (keep b ob hb (° _ e))) hS' hacc;rcases List.mem_cons.mp hmem with e' | hmem
 ·!hb e'
 ·!absurd (Heap.lt_size e) (by rw[List.mem_singleton.mp hmem]; !Nat.lt_irrefl _)
end
end SB
end
section
namespace SB
open PySem PySem.W PyProof.Rows
abbrev g(p:Array Nat)(k:Nat):Nat:=p.getD k 0
structure PP(n:Nat)(p:Array Nat):Prop where
 size:p.size=n
 lt:∀ k,k<n->g p k<n
 inj:∀ k k',k<n->k'<n->g p k=g p k'->k=k'
structure Tot(n:Nat)(lt:Nat->Nat->Bool):Prop where
 or:∀ i j,i<n->j<n->i≠j->lt i j=false->lt j i=true
 as:∀ i j,i<n->j<n->lt i j=true->lt j i=false
 tr:∀ i j k,i<n->j<n->k<n->lt i j=true->lt j k=true->lt i k=true
def Up(lt:Nat->Nat->Bool)(p:Array Nat)(m:Nat):Prop:=∀ a b,a<b->b<m->lt (g p a) (g p b)=true
section
variable{n:Nat}{lt:Nat->Nat->Bool}{p:Array Nat}
theorem AAj(n:Nat):PP n (List.toArray (List.range n)):=by
 h ge:∀ k,k<n->g (List.toArray (List.range n)) k=k:=fun k hk=>by
  unfold g;rw[Array.getD_eq_getD_getElem?];simp[hk]
 r⟨by simp,fun k hk=>by rw[ge k hk]; !hk,fun k k' hk hk' e=>?_⟩;rw[ge k hk,ge k' hk'] at e;!e
end
end SB
end
section
namespace TM
open PySem PyProof.Rows
def JG:Nat->Nat->StateT SortSt Sem (Option Nat):=sortPriv% PySem.Builtin.countRun
theorem QW(lo nrem:Nat):JG lo nrem=(do
 let mut n:=1
 for _ in [1:nrem] do
  let some smaller <- ltAt' (lo+n) (lo+n-1) | return none
  if smaller then break
  n:=n+1
 if n==nrem then return some n
 if n>1 then
  let some rose <- ltAt' lo (lo+n-1) | return none
  if rose then return some n
  reverseSlice' lo (lo+n)
 rule "list.sort.descending-run"
 n:=n+1
 let mut neq:=0
 for _ in [n:nrem] do
  let some smaller <- ltAt' (lo+n) (lo+n-1) | return none
  if smaller then
   if neq>0 then reverseSlice' (lo+n-(neq+1)) (lo+n)
   neq:=0
  else
   let some larger <- ltAt' (lo+n-1) (lo+n) | return none
   if larger then break
   neq:=neq+1
  n:=n+1
 if neq>0 then reverseSlice' (lo+n-(neq+1)) (lo+n)
 reverseSlice' lo (lo+n)
 for _ in [n:nrem] do
  let some smaller <- ltAt' (lo+n) (lo+n-1) | return none
  if smaller then break
  n:=n+1
 return some n):=rfl
def N(rk:Keyed->Int)(xs:Array Keyed)(i:Nat):Int:=match xs[i]? with
 | some p=>rk p
 | none=>0
variable{rk:Keyed->Int}
theorem Eh{xs ys:Array Keyed}{i j:Nat}(h:xs[i]?=ys[j]?):N rk xs i=N rk ys j:=by unfold N; rw[h]
def Al(G:Keyed->Prop)(xs:Array Keyed):Prop:=∀(i:Nat) (x:Keyed),xs[i]?=some x->G x
theorem Al.perm{G:Keyed->Prop}{xs ys:Array Keyed}(h:Al G xs)(p:ys.Perm xs):Al G ys:=fun i x e=>by
 h m:x∈ys.toList:=by
  o⟨hl,rfl⟩:=Array.getElem?_eq_some_iff.mp e;!Array.getElem_mem_toList hl
 h m2:=(Array.perm_iff_toList_perm.mp p).mem_iff.mp m;o⟨k,hk,e⟩:=List.mem_iff_getElem.mp m2;!h k x (by rw[<- Array.getElem?_toList,± hk,e])
def Di(rk:Keyed->Int)(xs:Array Keyed):Prop:=(xs.toList.map rk).Nodup
theorem Di.perm{xs ys:Array Keyed}(h:Di rk xs)(p:ys.Perm xs):Di rk ys:=((Array.perm_iff_toList_perm.mp p).map rk).nodup_iff.mpr h
theorem Di.ne{xs:Array Keyed}(h:Di rk xs){i j:Nat}(ij:i<j)(jl:j<xs.size):N rk xs i≠N rk xs j:=by
 h il:i<xs.size:=by w
 have:=List.pairwise_iff_getElem.mp h i j (by simpa using il) (by simpa using jl) ij;unfold N;rw[Array.getElem?_eq_getElem il,Array.getElem?_eq_getElem jl];simpa using this
def Up(rk:Keyed->Int)(xs:Array Keyed)(lo hi:Nat):Prop:=∀ i j,lo<=i->i<=j->j<hi->N rk xs i<=N rk xs j
def Down(rk:Keyed->Int)(xs:Array Keyed)(lo hi:Nat):Prop:=∀ i j,lo<=i->i<=j->j<hi->N rk xs j<=N rk xs i
structure Ba(G:Keyed->Prop)(rk:Keyed->Int)(κ:SortKind)(a₀:Array Keyed)(st:SortSt):Prop where
 perm:⑥.Perm a₀
 kind:kindOf st=κ
 failed:failedOf st=none
 all:Al G a₀
 di:Di rk a₀
structure Nx(lo:Nat)(st st':SortSt):Prop where
 perm:(arrOf st').Perm ⑥
 kind:kindOf st'=kindOf st
 failed:failedOf st'=failedOf st
 pend:pendingOf st'=pendingOf st
 low:∀ i,i<lo->(arrOf st')[i]?=⑥[i]?
theorem Nx.refl(lo:Nat)(st:SortSt):Nx lo st st:=⟨Array.Perm.refl _,rfl,rfl,rfl,fun _ _=>rfl⟩
theorem Nx.trans{lo:Nat}{a b c:SortSt}(h:Nx lo a b)(k:Nx lo b c):Nx lo a c:=⟨k.perm.trans h.perm,k.kind.trans h.kind,k.failed.trans h.failed,k.pend.trans h.pend,fun i hi=>(k.low i hi).trans (h.low i hi)⟩
theorem Ba.nx{G:Keyed->Prop}{κ:SortKind}{a₀:Array Keyed}{st st':SortSt}{lo:Nat}(h:Ba G rk κ a₀ st)(n:Nx lo st st'):Ba G rk κ a₀ st':=⟨n.perm.trans h.perm,n.kind.trans h.kind,n.failed.trans h.failed,h.all,h.di⟩
theorem Ba.size{G:Keyed->Prop}{κ:SortKind}{a₀:Array Keyed}{st:SortSt}(h:Ba G rk κ a₀ st):⑥.size=a₀.size:=h.perm.size_eq
theorem Ba.ne{G:Keyed->Prop}{κ:SortKind}{a₀:Array Keyed}{st:SortSt}(h:Ba G rk κ a₀ st){i j:Nat}(ij:i<j)(jl:j<a₀.size):N rk ⑥ i≠N rk ⑥ j:=(h.di.perm h.perm).ne ij (by rw[h.size]; !jl)
section
variable{prog:Program}{w:World}{A:Around}{E:Value->Shared->Prop}{s:Shared}{G:Keyed->Prop}{κ:SortKind}{a₀:Array Keyed}
def Cmp(prog:Program)(w:World)(A:Around)(E:Value->Shared->Prop)(s:Shared)(κ:SortKind)(G:Keyed->Prop)(rk:Keyed->Int):Prop :=
 ∀ x y,G x->G y->∀(st:SortSt) (Q:Option Bool->SortSt->Prop),kindOf st=κ->Q (some (decide (rk x<rk y))) st->wpS ① A E s (lt' x y) Q st
theorem Bj{xs:Array Keyed}{i:Nat}{st:SortSt}{Q:Keyed->SortSt->Prop}(hi:i<xs.size)(h:Q xs[i] st):wpS ① A E s (elem' xs i) Q st:=by
 rw[elem'_eq,Array.getElem?_eq_getElem hi];!wpS_pure h
theorem Fb{xs:Array Keyed}{i:Nat}(hi:i<xs.size):N rk xs i=rk xs[i]:=by unfold N; rw[Array.getElem?_eq_getElem hi]
theorem Al.at{xs:Array Keyed}(h:Al G xs){i:Nat}(hi:i<xs.size):G xs[i]:=h i _ (Array.getElem?_eq_getElem hi)
theorem Rt(C:Cmp prog w A E s κ G rk){st:SortSt}(B:Ba G rk κ a₀ st){i j:Nat}{Q:Option Bool->SortSt->Prop}(hi:i<a₀.size)(hj:j<a₀.size)(h:Q (some (decide (N rk ⑥ i<N rk ⑥ j))) st):wpS ① A E s (ltAt' i j) Q st:=by
 h hi':i<⑥.size:=by rw[B.size]; !hi
 h hj':j<⑥.size:=by rw[B.size]; !hj
 h al:=B.all.perm B.perm;rw[ltAt'_eq];r wpS_bind (wpS_get ?_);show wpS _ _ _ _ (do let x <- elem' ⑥ i; let y <- elem' ⑥ j; lt' x y) Q st;r wpS_bind (Bj hi' (wpS_bind (Bj hj' ?_)));r C _ _ (al.at hi') (al.at hj') st Q B.kind ?_;rw[<- Fb (rk:=rk) hi',<- Fb (rk:=rk) hj'];!h
theorem Qw{xs:Array Keyed}{i j:Nat}(hj:j<=xs.size)(k:Nat):N rk (mirror xs i j ((j-i) / 2)) k=if i<=k/\k<j then N rk xs (i+j-1-k) else N rk xs k:=by
 h e:=getElem?_mirror_all (i:=i) hj k;by_cases h1:i<=k/\k<j
 ·rw[if_pos h1] at e ⊢; !Eh e
 ·rw[if_neg h1] at e ⊢; !Eh e
theorem Qq{xs:Array Keyed}{src d:Nat}(hs:src<xs.size)(hd:d<=src)(k:Nat):N rk (bubble xs src d) k=if k=src-d then N rk xs src else if src-d<k/\k<=src then N rk xs (k-1) else N rk xs k:=by
 h e:=getElem?_bubble hs d hd k;by_cases h1:k=src-d
 ·rw[if_pos h1] at e ⊢; !Eh e
 ·rw[if_neg h1] at e ⊢
  by_cases h2:src-d<k/\k<=src
  ·rw[if_pos h2] at e ⊢; !Eh e
  ·rw[if_neg h2] at e ⊢; !Eh e
theorem AEH{st:SortSt}{lo hi:Nat}(hh:hi<=⑥.size):Nx lo st (setArr st (mirror ⑥ lo hi ((hi-lo) / 2))):=⟨mirror_perm _ _ _ _,rfl,rfl,rfl,fun i hi'=>by
 show (mirror ⑥ lo hi ((hi-lo) / 2))[i]?=_;rw[getElem?_mirror_all hh,if_neg ¢]⟩
theorem ABK(C:Cmp prog w A E s κ G rk){lo n nrem:Nat}{st:SortSt}(B:Ba G rk κ a₀ st)(h1:1<=n)(hn:n<nrem)(hs:lo+nrem<=a₀.size)(up:Up rk ⑥ lo (lo+n)){Q:Option Bool->SortSt->Prop}
  (hy:N rk ⑥ (lo+n)<N rk ⑥ (lo+n-1)->Q (some true) st) (hno:Up rk ⑥ lo (lo+(n+1))->Q (some false) st):wpS ① A E s (ltAt' (lo+n) (lo+n-1)) Q st:=by
 r Rt C B ¢ ¢ ?_;by_cases c:N rk ⑥ (lo+n)<N rk ⑥ (lo+n-1)
 ·rw[decide_eq_true c]
  !hy c
 ·rw[decide_eq_false c]
  r hno fun i j li ij jh=>?_;by_cases d:j<lo+n
  ·!up i j li ij d
  ·by_cases e:i=j
   ·rw[e]; !Int.le_refl _
   ·have:=up i (lo+n-1) li ¢ ¢
    h ej:j=lo+n:=by w
    rw[ej];w
theorem Vw(C:Cmp prog w A E s κ G rk){lo n0 nrem:Nat}{st:SortSt}(B:Ba G rk κ a₀ st)(h1:1<=n0)(hn:n0<=nrem)(hs:lo+nrem<=a₀.size)(up:Up rk ⑥ lo (lo+n0)){Q:(Option (Option Nat)×Nat)->SortSt->Prop}
  (h:∀ n,n0<=n->n<=nrem->Up rk ⑥ lo (lo+n)->(n<nrem->N rk ⑥ (lo+n)<N rk ⑥ (lo+n-1))->Q (none,n) st) :
  wpS ① A E s (forIn [n0:nrem] ((none,n0):Option (Option Nat)×Nat) fun _ r=>do
   let x <- ltAt' (lo+r.snd) (lo+r.snd-1)
   match x with
   | some smaller=>if smaller=true then pure (ForInStep.done (none,r.snd)) else pure (ForInStep.yield (none,r.snd+1))
   | _=>pure (ForInStep.done (some none,r.snd))) Q st:=by
 r wpS_forRange (I:=fun x c st'=>st'=st/\c=(none,x)/\n0<=x/\x<=nrem/\Up rk ⑥ lo (lo+x)) ?_ ?_ ⟨rfl,rfl,Nat.le_refl _,hn,up⟩
 ·rintro x c st' ax xb ⟨rfl,rfl,_,_,up'⟩
  r wpS_bind (ABK C B ¢ xb hs up' (fun lt=>?_) (fun up2=>?_))
  ·!wpS_pure (h x ax ¢ up' fun _=>lt)
  ·!wpS_pure ⟨rfl,rfl,by w,by w,up2⟩
 ·rintro c st' ⟨rfl,rfl,a1,a2,up'⟩
  r h _ a1 a2 up' fun z=>?_;w
end
variable{rk:Keyed->Int}{prog:Program}{w:World}{A:Around}{E:Value->Shared->Prop}{s:Shared}{G:Keyed->Prop}{κ:SortKind}{a₀:Array Keyed}
theorem MF(C:Cmp prog w A E s κ G rk){lo nrem:Nat}{st:SortSt}(B:Ba G rk κ a₀ st)(h1:1<=nrem)(hs:lo+nrem<=a₀.size){Q:Option Nat->SortSt->Prop}
  (h:∀ n st',1<=n->n<=nrem->Nx lo st st'->Up rk (arrOf st') lo (lo+n)->Q (some n) st'):wpS ① A E s (JG lo nrem) Q st:=by
 rw[QW];r wpS_bind (Vw C B (Nat.le_refl 1) h1 hs (fun i j li ij jh=>by
  have:i=j:=by w
  rw[this]; !Int.le_refl _) fun n n1 nn up lt=>?_)
 dsimp only;by_cases c:n=nrem
 ·rw[if_pos (by rw[c]; !beq_self_eq_true _)]
  !wpS_pure (h n st n1 nn (Nx.refl _ _) up)
 rw[if_neg (by intro z; !c ⑲)];h sm:=lt ¢;by_cases d:n>1
 ·rw[if_pos d]
  r wpS_bind (Rt C B ¢ ¢ ?_);h a1:=up lo (lo+n-1) ③ ¢ ¢;h a2:=B.ne (i:=lo) (j:=lo+n-1) ¢ ¢;rw[decide_eq_true (show N rk ⑥ lo<N rk ⑥ (lo+n-1) by w)];!wpS_pure (h n st n1 nn (Nx.refl _ _) up)
 rw[if_neg d];h e1:n=1:=by w
 subst e1;h wn:lo+1-1=lo:=by w
 rw[wn] at sm;r wpS_bind (wpS_lift (wpAny_rule ⟨rfl,?_⟩));r wpS_bind (wpS_mono (wpS_forRange (I:=fun x c st'=>st'=st/\c=(none,x,0)/\2<=x/\x<=nrem/\Down rk ⑥ lo (lo+x)) (Q:=fun c st'=>st'=st/\∃ m,c=(none,m,0)/\2<=m/\m<=nrem/\Down rk ⑥ lo (lo+m)) ?_ ?_ ⟨rfl,rfl,Nat.le_refl _,by w,?_⟩) ?_)
 ·rintro x c st' ax xb ⟨rfl,rfl,x2,_,dn⟩
  dsimp only;r wpS_bind (Rt C B ¢ ¢ ?_);by_cases c1:N rk (arrOf st') (lo+x)<N rk (arrOf st') (lo+x-1)
  ·rw[decide_eq_true c1]
   dsimp only;rw[if_pos rfl,if_neg ¢];r wpS_pure ⟨rfl,rfl,by w,by w,fun i j li ij jh=>?_⟩;by_cases d1:j<lo+x
   ·!dn i j li ij d1
   ·h ej:j=lo+x:=by w
    subst ej;by_cases e:i=lo+x
    ·rw[e]; !Int.le_refl _
    ·have:=dn i (lo+x-1) li ¢ ¢
     w
  ·rw[decide_eq_false c1]
   dsimp only;rw[if_neg ¤];r wpS_bind (Rt C B ¢ ¢ ?_);h a2:=B.ne (i:=lo+x-1) (j:=lo+x) ¢ ¢;rw[decide_eq_true (show N rk (arrOf st') (lo+x-1)<N rk (arrOf st') (lo+x) by w)];dsimp only;rw[if_pos rfl];!wpS_pure ⟨rfl,x,rfl,x2,by w,dn⟩
 ·rintro c st' ⟨rfl,rfl,a1,a2,dn⟩
  !⟨rfl,_,rfl,a1,a2,dn⟩
 ·intro i j li ij jh
  by_cases e:i=j
  ·rw[e]; !Int.le_refl _
  ·rw[show i=lo by w,show j=lo+1 by w]
   w
 ·rintro c st' ⟨rfl,m,rfl,m2,mn,dn⟩
  dsimp only;rw[if_neg ¢,reverseSlice'_eq];h sz:lo+m<=(arrOf st').size:=by rw[B.size]; w
  h nx:=AEH (st:=st') (lo:=lo) sz;r wpS_bind (wpS_modify ?_);h up2:Up rk (arrOf (setArr st' (mirror (arrOf st') lo (lo+m) ((lo+m-lo) / 2)))) lo (lo+m):=fun i j li ij jh=>by
   show N rk (mirror (arrOf st') lo (lo+m) ((lo+m-lo) / 2)) i<=N rk (mirror (arrOf st') lo (lo+m) ((lo+m-lo) / 2)) j;rw[Qw sz,Qw sz,if_pos ¢,if_pos ¢];!dn _ _ ¢ ¢ ¢
  r wpS_bind (Vw C (B.nx nx) ¢ mn hs up2 fun n' n1' nn' up' _=>?_);!wpS_pure (h n' _ ¢ nn' nx up')
def KJ:Nat->Nat->Nat->StateT SortSt Sem Bool:=sortPriv% PySem.Builtin.binarySort
theorem Tj(lo n ok:Nat):KJ lo n ok=(do
 for k in [max ok 1:n] do
  let mut l:=0
  let mut r:=k
  for _ in [0:k] do
   if l >= r then break
   let m:=(l+r) / 2
   let some less <- ltAt' (lo+k) (lo+m) | return false
   if less then r:=m else l:=m+1
  moveDown' (lo+k) (lo+l)
 return true):=rfl
theorem Ph(C:Cmp prog w A E s κ G rk){lo n ok:Nat}{st:SortSt}(B:Ba G rk κ a₀ st)(hn:lo+n<=a₀.size)(hok:ok<=n)(up:Up rk ⑥ lo (lo+ok)){Q:Bool->SortSt->Prop}
  (h:∀ st',Nx lo st st'->Up rk (arrOf st') lo (lo+n)->Q true st'):wpS ① A E s (KJ lo n ok) Q st:=by
 rw[Tj];r wpS_bind (wpS_mono (wpS_forRange (I:=fun k c st'=>c=(none,())/\Nx lo st st'/\Up rk (arrOf st') lo (lo+min k n))
  (Q:=fun c st'=>c=(none,())/\Nx lo st st'/\Up rk (arrOf st') lo (lo+n)) ?step ?fin ?init) ?post)
 case post =>
  rintro c st' ⟨rfl,nx,up'⟩;!wpS_pure (h st' nx up')
 case init =>
  r⟨rfl,Nx.refl _ _,fun i j li ij jh=>?_⟩;by_cases e:i=j
  ·rw[e]; !Int.le_refl _
  ·!up i j li ij ¢
 case fin =>
  rintro c st' ⟨hc,nx,up'⟩;r⟨hc,nx,?_⟩
  rwa [show min (max (max ok 1) n) n=n by w] at up'
 case step =>
  rintro k c st' hak hkn ⟨rfl,nx,up'⟩;rw[show min k n=k by w] at up';h B':=B.nx nx;h hk:lo+k<a₀.size:=by w
  r wpS_bind (wpS_mono (wpS_forRange (I:=fun x c st''=>st''=st'/\∃ l r,c=(none,l,r)/\l<=r/\r<=k/\r-l<=k-x /\
    (∀ i,lo<=i->i<lo+l->N rk (arrOf st') i<=N rk (arrOf st') (lo+k))/\(∀ i,lo+r<=i->i<lo+k->N rk (arrOf st') (lo+k)<N rk (arrOf st') i))
   (Q:=fun c st''=>st''=st'/\∃ l r,c=(none,l,r)/\l<=k /\
    (∀ i,lo<=i->i<lo+l->N rk (arrOf st') i<=N rk (arrOf st') (lo+k))/\(∀ i,lo+l<=i->i<lo+k->N rk (arrOf st') (lo+k)<N rk (arrOf st') i)) ?istep ?ifin ?iinit) ?ipost)
  case iinit=>!⟨rfl,0,k,rfl,by w,by w,by w,fun i hi=>by w,fun i h1 h2=>by w⟩
  case ifin =>
   rintro c st'' ⟨rfl,l,r,rfl,hlr,hrk,hm,hlo,hhi⟩;have:l=r:=by w
   subst this;!⟨rfl,l,l,rfl,hrk,hlo,hhi⟩
  case istep =>
   rintro x c st'' _ hxk ⟨rfl,l,r,rfl,hlr,hrk,hm,hlo,hhi⟩;dsimp only;by_cases hge:l >= r
   ·rw[if_pos hge]
    have:l=r:=by w
    subst this;!wpS_pure ⟨rfl,l,l,rfl,hrk,hlo,hhi⟩
   ·rw[if_neg hge]
    r wpS_bind (Rt C B' hk ¢ ?_);by_cases hless:N rk (arrOf st'') (lo+k)<N rk (arrOf st'') (lo+(l+r) / 2)
    ·simp only[hless,decide_true,if_true]
     r wpS_pure ⟨rfl,l,(l+r) / 2,rfl,by w,by w,by w,hlo,fun i h1 h2=>?_⟩;!Int.lt_of_lt_of_le hless (up' _ _ ¢ h1 h2)
    ·simp only[hless,decide_false,Bool.false_eq_true,if_false]
     r wpS_pure ⟨rfl,(l+r) / 2+1,r,rfl,by w,by w,by w,fun i h0 h1=>?_,hhi⟩;!Int.le_trans (up' i (lo+(l+r) / 2) h0 ¢ ¢) (Int.not_lt.mp hless)
  case ipost =>
   rintro c st'' ⟨rfl,l,r,rfl,hlk,hlo,hhi⟩;show wpS _ _ _ _ (do moveDown' (lo+k) (lo+l); pure (ForInStep.yield (none,()))) _ _;rw[moveDown'_eq];h hks:lo+k<(arrOf st'').size:=by rw[B'.size]; !hk
   h nx2:Nx lo st'' (setArr st'' (bubble (arrOf st'') (lo+k) (lo+k-(lo+l)))):=⟨bubble_perm _ _ _,rfl,rfl,rfl,fun i hi=>by
    show (bubble (arrOf st'') (lo+k) (lo+k-(lo+l)))[i]?=_;rw[getElem?_bubble hks _ ¢,if_neg ¢,if_neg ¢]⟩
   r wpS_bind (wpS_modify (wpS_pure ⟨rfl,nx.trans nx2,?_⟩));rw[show min (k+1) n=k+1 by w];intro i j li hij hj;show N rk (bubble (arrOf st'') (lo+k) (lo+k-(lo+l))) i<=N rk (bubble (arrOf st'') (lo+k) (lo+k-(lo+l))) j;rw[Qq hks ¢,Qq hks ¢,show lo+k-(lo+k-(lo+l))=lo+l by w]
   repeat' split
   all_goals first
    | (exfalso; w)
    | !Int.le_refl _
    | !hlo _ ¢ ¢
    | !Int.le_of_lt (hhi _ ¢ ¢)
    | !up' _ _ ¢ ¢ ¢
variable{rk:Keyed->Int}{prog:Program}{w:World}{A:Around}{E:Value->Shared->Prop}{s:Shared}{G:Keyed->Prop}{κ:SortKind}{a₀:Array Keyed}
def Cu:Bool->Keyed->Array Keyed->Nat->Nat->Nat->StateT SortSt Sem (Option Nat):=sortPriv% PySem.Builtin.gallop
def Ef(left:Bool)(key:Keyed)(arr:Array Keyed)(base i:Nat):StateT SortSt Sem (Option Bool):=do
  let x <- elem' arr (base+i)
  if left then lt' x key else return (<- lt' key x).map (!·)
theorem Uc(left:Bool)(key:Keyed)(arr:Array Keyed)(base n hint:Nat):Cu left key arr base n hint=(do
 let mut lastofs:=0
 let mut ofs:=1
 let mut lo:=0
 let mut hi:=0
 let some right <- Ef left key arr base hint | return none
 if right then
  let maxofs:=n-hint
  for _ in [0:n] do
   if ofs >= maxofs then break
   let some more <- Ef left key arr base (hint+ofs) | return none
   if !more then break
   lastofs:=ofs
   ofs:=2*ofs+1
  lo:=hint+lastofs+1
  hi:=hint+min ofs maxofs
 else
  let maxofs:=hint+1
  for _ in [0:n] do
   if ofs >= maxofs then break
   let some found <- Ef left key arr base (hint-ofs) | return none
   if found then break
   lastofs:=ofs
   ofs:=2*ofs+1
  lo:=hint+1-min ofs maxofs
  hi:=hint-lastofs
 for _ in [0:n] do
  if lo >= hi then break
  let m:=lo+(hi-lo) / 2
  let some more <- Ef left key arr base m | return none
  if more then lo:=m+1 else hi:=m
 return some hi):=rfl
def bey(rk:Keyed->Int)(left:Bool)(key:Keyed)(arr:Array Keyed)(base i:Nat):Bool:=if left then decide (N rk arr (base+i)<rk key) else !decide (rk key<N rk arr (base+i))
theorem Uo(C:Cmp prog w A E s κ G rk){left:Bool}{key:Keyed}{arr:Array Keyed}{base i:Nat}{st:SortSt}{Q:Option Bool->SortSt->Prop}(hk:G key)(al:Al G arr)(kd:kindOf st=κ)(hi:base+i<arr.size)(h:Q (some (bey rk left key arr base i)) st) :
  wpS ① A E s (Ef left key arr base i) Q st:=by
 unfold Ef;r wpS_bind (Bj hi ?_);unfold bey at h;rw[Fb hi] at h;cases left with
 | true =>
  rw[if_pos rfl] at h ⊢;!C _ _ (al.at hi) hk st _ kd h
 | false =>
  rw[if_neg ¤] at h ⊢;r wpS_bind (C _ _ hk (al.at hi) st _ kd (wpS_pure ?_));!h
def Mono(p:Nat->Bool)(n:Nat):Prop:=∀ i j,i<=j->j<n->p j=true->p i=true
theorem Ew{left:Bool}{key:Keyed}{arr:Array Keyed}{base n:Nat}(up:Up rk arr base (base+n)):Mono (bey rk left key arr base) n:=fun i j ij jn h=>by
 have:=up (base+i) (base+j) ¢ ¢ ¢;unfold bey at h ⊢;cases left with
 | true =>
  rw[if_pos rfl] at h ⊢;have:=of_decide_eq_true h;!decide_eq_true ¢
 | false =>
  rw[if_neg ¤] at h ⊢;h h':¬ rk key<N rk arr (base+j):=fun z=>by rw[decide_eq_true z] at h; cases h
  rw[decide_eq_false ¢];rfl
theorem DW(C:Cmp prog w A E s κ G rk){left:Bool}{key:Keyed}{arr:Array Keyed}{base n hint:Nat}{st:SortSt}{Q:Option Nat->SortSt->Prop}(hk:G key)(al:Al G arr)(kd:kindOf st=κ)(hn:base+n<=arr.size)(hh:hint<n)(mo:Mono (bey rk left key arr base) n)
  (h:∀ k,k<=n->(∀ i,i<k->bey rk left key arr base i=true)->(∀ i,k<=i->i<n->bey rk left key arr base i=false)->Q (some k) st):wpS ① A E s (Cu left key arr base n hint) Q st:=by
 rw[Uc];generalize hp:bey rk left key arr base=p at mo h;h ask:∀{i:Nat}{Q:Option Bool->SortSt->Prop},i<n->Q (some (p i)) st->wpS ① A E s (Ef left key arr base i) Q st:=fun {i Q} hi q=>Uo C hk al kd ¢ (by rw[hp]; !q);h down:∀{k:Nat},(k<n->p k=false)->∀ i,k<=i->i<n->p i=false:=fun {k} hk i ki il=>by
  cases e:p i with
  | false=>rfl
  | true =>
   have:=mo k i ki il e;rw[hk ¢] at this;cases this
 h fin:∀{lo hi:Nat},lo<=hi->hi<=n->(∀ i,i<lo->p i=true)->(∀ i,hi<=i->i<n->p i=false) ->
   ∀{Q':(Option (Option Nat)×Nat×Nat)->SortSt->Prop},(∀ l,l<=n->(∀ i,i<l->p i=true)->(∀ i,l<=i->i<n->p i=false)->Q' (none,l,l) st) ->
   wpS ① A E s (forIn [0:n] ((none,lo,hi):Option (Option Nat)×Nat×Nat) fun _ r =>
     if r.snd.fst >= r.snd.snd then pure (ForInStep.done (none,r.snd.fst,r.snd.snd))
     else do
      let x <- Ef left key arr base (r.snd.fst+(r.snd.snd-r.snd.fst) / 2)
      match x with
      | some more =>
       if more=true then pure (ForInStep.yield (none,r.snd.fst+(r.snd.snd-r.snd.fst) / 2+1,r.snd.snd))
       else pure (ForInStep.yield (none,r.snd.fst,r.snd.fst+(r.snd.snd-r.snd.fst) / 2))
      | _=>pure (ForInStep.done (some none,r.snd.fst,r.snd.snd))) Q' st:=fun {lo hi} lh hn' ht hf {Q'} h'=>by
  r wpS_mono (wpS_forRange (I:=fun x c st'=>st'=st/\∃ l r,c=(none,l,r)/\l<=r/\r<=n/\r-l<=n-x/\(∀ i,i<l->p i=true)/\(∀ i,r<=i->i<n->p i=false))
   (Q:=fun c st'=>st'=st/\∃ l,c=(none,l,l)/\l<=n/\(∀ i,i<l->p i=true)/\(∀ i,l<=i->i<n->p i=false)) ?_ ?_ ⟨rfl,lo,hi,rfl,lh,hn',by w,ht,hf⟩) ?_
  ·rintro x c st' _ xn ⟨rfl,l,r,rfl,lr,rn,sz,tr,fa⟩
   dsimp only;by_cases c1:l >= r
   ·rw[if_pos c1]
    have:l=r:=by w
    subst this;!wpS_pure ⟨rfl,l,rfl,rn,tr,fa⟩
   ·rw[if_neg c1]
    r wpS_bind (ask ¢ ?_);cases e:p (l+(r-l) / 2) with
    | true =>
     dsimp only;rw[if_pos rfl];!wpS_pure ⟨rfl,_,r,rfl,by w,rn,by w,fun i hi=>mo i _ ¢ ¢ e,fa⟩
    | false =>
     dsimp only;rw[if_neg ¤];!wpS_pure ⟨rfl,l,_,rfl,by w,by w,by w,tr,down fun _=>e⟩
  ·rintro c st' ⟨rfl,l,r,rfl,lr,rn,sz,tr,fa⟩
   have:l=r:=by w
   subst this;!⟨rfl,l,rfl,rn,tr,fa⟩
  ·rintro c st' ⟨rfl,l,rfl,ln,tr,fa⟩
   !h' l ln tr fa
 r wpS_bind (ask hh ?_);cases ph:p hint with
 | true =>
  dsimp only;rw[if_pos rfl];r wpS_bind (wpS_mono (wpS_forRange (I:=fun x c st'=>st'=st/\∃ l o,c=(none,l,o)/\l<o/\x+1<=o/\hint+l<n/\p (hint+l)=true)
   (Q:=fun c st'=>st'=st/\∃ l o,c=(none,l,o)/\l<o/\hint+l<n/\p (hint+l)=true/\(o<n-hint->p (hint+o)=false)) ?_ ?_ ⟨rfl,0,1,rfl,by w,by w,by w,ph⟩) ?_)
  ·rintro x c st' _ xn ⟨rfl,l,o,rfl,lo,xo,ln,pl⟩
   dsimp only;by_cases c1:o >= n-hint
   ·rw[if_pos c1]
    !wpS_pure ⟨rfl,l,o,rfl,lo,ln,pl,fun z=>absurd z ¢⟩
   ·rw[if_neg c1]
    r wpS_bind (ask ¢ ?_);cases e:p (hint+o) with
    | true =>
     dsimp only;rw[if_neg ¤];!wpS_pure ⟨rfl,o,_,rfl,by w,by w,by w,e⟩
    | false =>
     dsimp only;rw[if_pos ¤];!wpS_pure ⟨rfl,l,o,rfl,lo,ln,pl,fun _=>e⟩
  ·rintro c st' ⟨rfl,l,o,rfl,lo,xo,ln,pl⟩
   !⟨rfl,l,o,rfl,lo,ln,pl,fun z=>absurd z ¢⟩
  ·rintro c st' ⟨rfl,l,o,rfl,lo,ln,pl,pf⟩
   dsimp only;r wpS_bind (fin (lo:=hint+l+1) (hi:=hint+min o (n-hint)) ¢ ¢ (fun i hi=>mo i (hint+l) ¢ ln pl) ?_ fun k kn kt kf=>wpS_pure (h k kn kt kf));by_cases c1:o<n-hint
   ·rw[show hint+min o (n-hint)=hint+o by w]
    !down fun _=>pf c1
   ·rw[show hint+min o (n-hint)=n by w]
    !fun i a b=>absurd a ¢
 | false =>
  dsimp only;rw[if_neg ¤];r wpS_bind (wpS_mono (wpS_forRange (I:=fun x c st'=>st'=st/\∃ l o,c=(none,l,o)/\l<o/\x+1<=o/\l<=hint/\p (hint-l)=false)
   (Q:=fun c st'=>st'=st/\∃ l o,c=(none,l,o)/\l<o/\l<=hint/\p (hint-l)=false/\(o<hint+1->p (hint-o)=true)) ?_ ?_ ⟨rfl,0,1,rfl,by w,by w,by w,ph⟩) ?_)
  ·rintro x c st' _ xn ⟨rfl,l,o,rfl,lo,xo,ln,pl⟩
   dsimp only;by_cases c1:o >= hint+1
   ·rw[if_pos c1]
    !wpS_pure ⟨rfl,l,o,rfl,lo,ln,pl,fun z=>absurd z ¢⟩
   ·rw[if_neg c1]
    r wpS_bind (ask ¢ ?_);cases e:p (hint-o) with
    | true =>
     dsimp only;rw[if_pos rfl];!wpS_pure ⟨rfl,l,o,rfl,lo,ln,pl,fun _=>e⟩
    | false =>
     dsimp only;rw[if_neg ¤];!wpS_pure ⟨rfl,o,_,rfl,by w,by w,by w,e⟩
  ·rintro c st' ⟨rfl,l,o,rfl,lo,xo,ln,pl⟩
   !⟨rfl,l,o,rfl,lo,ln,pl,fun z=>absurd z ¢⟩
  ·rintro c st' ⟨rfl,l,o,rfl,lo,ln,pl,pt⟩
   dsimp only;r wpS_bind (fin (lo:=hint+1-min o (hint+1)) (hi:=hint-l) ¢ ¢ ?_ (down fun _=>pl) fun k kn kt kf=>wpS_pure (h k kn kt kf));by_cases c1:o<hint+1
   ·rw[show hint+1-min o (hint+1)=hint+1-o by w]
    !fun i hi=>mo i (hint-o) ¢ ¢ (pt c1)
   ·rw[show hint+1-min o (hint+1)=0 by w]
    !fun i hi=>absurd hi ¢
variable{rk:Keyed->Int}{prog:Program}{w:World}{A:Around}{E:Value->Shared->Prop}{s:Shared}{G:Keyed->Prop}{κ:SortKind}{a₀:Array Keyed}
def Srt(rk:Keyed->Int)(l:List Keyed):Prop:=l.Pairwise fun x y=>rk x<=rk y
structure MI(rk:Keyed->Int)(a b out:List Keyed)(ia ib:Nat):Prop where
 perm:(out++(a.drop ia++b.drop ib)).Perm (a++b)
 srt:Srt rk out
 oa:∀ x∈out,∀ y∈a.drop ia,rk x<=rk y
 ob:∀ x∈out,∀ y∈b.drop ib,rk x<=rk y
theorem Qh{α:Type}(l:List α)(i k:Nat):l.drop i=(l.drop i).take k++l.drop (i+k):=by rw[<- List.drop_drop]; !(List.take_append_drop k (l.drop i)).symm
theorem MI.takeA{a b out:List Keyed}{ia ib:Nat}(m:MI rk a b out ia ib)(sa:Srt rk a)(k:Nat)(h:∀ y∈(a.drop ia).take k,∀ z∈b.drop ib,rk y<=rk z):MI rk a b (out++(a.drop ia).take k) (ia+k) ib:=by
 h e:=Qh a ia k;h sd:Srt rk (a.drop ia):=sa.sublist (List.drop_sublist ..);r⟨?_,?_,?_,?_⟩
 ·r List.Perm.trans ?_ m.perm
  rw[List.append_assoc];r List.Perm.append_left _ ?_;rw[<- List.append_assoc,<- e]
 ·r List.pairwise_append.mpr ⟨m.srt,sd.sublist (List.take_sublist ..),fun x hx y hy=>m.oa x hx y (List.mem_of_mem_take hy)⟩
 ·intro x hx y hy
  rcases List.mem_append.mp hx with hx | hx
  ·!m.oa x hx y (by rw[e]; !List.mem_append_right _ hy)
  ·unfold Srt at sd
   rw[e] at sd;!(List.pairwise_append.mp sd).2.2 x hx y hy
 ·intro x hx y hy
  rcases List.mem_append.mp hx with hx | hx
  ·!m.ob x hx y hy
  ·!h x hx y hy
theorem MI.takeB{a b out:List Keyed}{ia ib:Nat}(m:MI rk a b out ia ib)(sb:Srt rk b)(k:Nat)(h:∀ y∈(b.drop ib).take k,∀ z∈a.drop ia,rk y<=rk z):MI rk a b (out++(b.drop ib).take k) ia (ib+k):=by
 h e:=Qh b ib k;h sd:Srt rk (b.drop ib):=sb.sublist (List.drop_sublist ..);r⟨?_,?_,?_,?_⟩
 ·r List.Perm.trans ?_ m.perm
  rw[List.append_assoc];r List.Perm.append_left _ ?_;rw[<- List.append_assoc];r(List.Perm.append_right _ (List.perm_append_comm)).trans ?_;rw[List.append_assoc,<- e]
 ·r List.pairwise_append.mpr ⟨m.srt,sd.sublist (List.take_sublist ..),fun x hx y hy=>m.ob x hx y (List.mem_of_mem_take hy)⟩
 ·intro x hx y hy
  rcases List.mem_append.mp hx with hx | hx
  ·!m.oa x hx y hy
  ·!h x hx y hy
 ·intro x hx y hy
  rcases List.mem_append.mp hx with hx | hx
  ·!m.ob x hx y (by rw[e]; !List.mem_append_right _ hy)
  ·unfold Srt at sd
   rw[e] at sd;!(List.pairwise_append.mp sd).2.2 x hx y hy
def Mg(rk:Keyed->Int)(a b r:List Keyed):Prop:=r.Perm (a++b)/\Srt rk r
theorem MI.doneB{a b out:List Keyed}{ia ib:Nat}(m:MI rk a b out ia ib)(sa:Srt rk a)(h:b.length<=ib):Mg rk a b (out++a.drop ia++b.drop ib):=by
 rw[List.drop_eq_nil_of_le h,List.append_nil];h p:=m.perm;rw[List.drop_eq_nil_of_le h,List.append_nil] at p;!⟨p,List.pairwise_append.mpr ⟨m.srt,sa.sublist (List.drop_sublist ..),m.oa⟩⟩
theorem MI.doneA{a b out:List Keyed}{ia ib:Nat}(m:MI rk a b out ia ib)(sb:Srt rk b)(h:a.length<=ia):Mg rk a b (out++a.drop ia++b.drop ib):=by
 rw[List.drop_eq_nil_of_le h,List.append_nil];h p:=m.perm;rw[List.drop_eq_nil_of_le h,List.nil_append] at p;!⟨p,List.pairwise_append.mpr ⟨m.srt,sb.sublist (List.drop_sublist ..),m.ob⟩⟩
theorem MI.last{a b out:List Keyed}{ia ib:Nat}(m:MI rk a b out ia ib)(sb:Srt rk b)(h:ia+1=a.length)(hl:∀ y∈b,∀ z∈a.drop ia,rk y<=rk z):Mg rk a b (out++b.drop ib++a.drop ia):=by
 r⟨?_,?_⟩
 ·r List.Perm.trans ?_ m.perm
  rw[List.append_assoc];!List.Perm.append_left _ List.perm_append_comm
 ·h one:Srt rk (a.drop ia):=by
   h l1:(a.drop ia).length=1:=by rw[List.length_drop]; w
   o⟨x,ex⟩:=List.length_eq_one_iff.mp l1;rw[ex];!List.pairwise_singleton ..
  r List.pairwise_append.mpr ⟨List.pairwise_append.mpr ⟨m.srt,sb.sublist (List.drop_sublist ..),m.ob⟩,one,fun x hx y hy=>?_⟩;rcases List.mem_append.mp hx with hx | hx
  ·!m.oa x hx y hy
  ·!hl x (List.mem_of_mem_drop hx) y hy
variable{rk:Keyed->Int}{prog:Program}{w:World}{A:Around}{E:Value->Shared->Prop}{s:Shared}{G:Keyed->Prop}{κ:SortKind}{a₀:Array Keyed}
theorem ifc{c:Prop}{α:Type}{i j:Decidable c}{x y u v:α}(h1:x=u)(h2:y=v):(@ite α c i x y)=(@ite α c j u v):=by rw[h1,h2]; congr
def DY:Nat->StateT SortSt Sem Unit:=sortPriv% PySem.Builtin.setMinGallop
theorem UL(g:Nat):DY g=modify fun s=>SortSt.mk' (kindOf s) (arrOf s) (pendingOf s) g (failedOf s):=rfl
abbrev loDone(a b out:Array Keyed)(ia ib:Nat):Array Keyed:=out++a.extract ia a.size++b.extract ib b.size
abbrev loLast(a b out:Array Keyed)(ia ib:Nat):Array Keyed:=out++b.extract ib b.size++a.extract ia a.size
abbrev S1:=Option (Array Keyed)×Array Keyed×Nat×Nat×Nat×Nat
abbrev S2:=Option (Array Keyed)×Array Keyed×Nat×Nat×Nat×Nat×Nat
abbrev S0:=Option (Array Keyed)×Array Keyed×Nat×Nat×Nat
def loOne(a b:Array Keyed)(mg:Nat)(r:S1):StateT SortSt Sem (ForInStep S1):=do
 let y <- elem' b r.snd.snd.snd.fst
 let x <- elem' a r.snd.snd.fst
 let c <- lt' y x
 match c with
 | some bWins =>
  if bWins=true then do
   let y <- elem' b r.snd.snd.snd.fst
   if (r.snd.snd.snd.fst+1==b.size)=true then
    pure (ForInStep.done (some (loDone a b (r.snd.fst.push y) r.snd.snd.fst (r.snd.snd.snd.fst+1)),r.snd.fst.push y,r.snd.snd.fst,r.snd.snd.snd.fst+1,0,r.snd.snd.snd.snd.snd+1))
   else if r.snd.snd.snd.snd.snd+1 >= mg then
    pure (ForInStep.done (none,r.snd.fst.push y,r.snd.snd.fst,r.snd.snd.snd.fst+1,0,r.snd.snd.snd.snd.snd+1))
   else pure (ForInStep.yield (none,r.snd.fst.push y,r.snd.snd.fst,r.snd.snd.snd.fst+1,0,r.snd.snd.snd.snd.snd+1))
  else do
   let x <- elem' a r.snd.snd.fst
   if (r.snd.snd.fst+1+1==a.size)=true then
    pure (ForInStep.done (some (loLast a b (r.snd.fst.push x) (r.snd.snd.fst+1) r.snd.snd.snd.fst),r.snd.fst.push x,r.snd.snd.fst+1,r.snd.snd.snd.fst,r.snd.snd.snd.snd.fst+1,0))
   else if r.snd.snd.snd.snd.fst+1 >= mg then
    pure (ForInStep.done (none,r.snd.fst.push x,r.snd.snd.fst+1,r.snd.snd.snd.fst,r.snd.snd.snd.snd.fst+1,0))
   else pure (ForInStep.yield (none,r.snd.fst.push x,r.snd.snd.fst+1,r.snd.snd.snd.fst,r.snd.snd.snd.snd.fst+1,0))
 | _=>pure (ForInStep.done (some (loDone a b r.snd.fst r.snd.snd.fst r.snd.snd.snd.fst),r.snd.fst,r.snd.snd.fst,r.snd.snd.snd.fst,r.snd.snd.snd.snd.fst,r.snd.snd.snd.snd.snd))
def loEnd(a b:Array Keyed)(mg ac bc:Nat)(out:Array Keyed)(ia ib:Nat):StateT SortSt Sem (ForInStep S2):=do
 let x <- elem' a ia
 if (ia+1+1==a.size)=true then pure (ForInStep.done (some (loLast a b (out.push x) (ia+1) ib),out.push x,ia+1,ib,mg,ac,bc))
 else if (decide (ac<7)&&decide (bc<7))=true then pure (ForInStep.done (none,out.push x,ia+1,ib,mg,ac,bc))
 else pure (ForInStep.yield (none,out.push x,ia+1,ib,mg,ac,bc))
def loMid(a b:Array Keyed)(mg k bc:Nat)(out:Array Keyed)(ia ib:Nat):StateT SortSt Sem (ForInStep S2):=do
 let y <- elem' b ib
 if (ib+1==b.size)=true then pure (ForInStep.done (some (loDone a b (out.push y) ia (ib+1)),out.push y,ia,ib+1,mg,k,bc))
 else do
  let x <- elem' a ia
  let r <- Cu true x b (ib+1) (b.size-(ib+1)) 0
  match r with
  | some k' =>
   if k'>0 then
    if (ib+1+k'==b.size)=true then pure (ForInStep.done (some (loDone a b (out.push y++b.extract (ib+1) (ib+1+k')) ia (ib+1+k')),out.push y++b.extract (ib+1) (ib+1+k'),ia,ib+1+k',mg,k,k'))
    else loEnd a b mg k k' (out.push y++b.extract (ib+1) (ib+1+k')) ia (ib+1+k')
   else loEnd a b mg k k' (out.push y) ia (ib+1)
  | _=>pure (ForInStep.done (some (loDone a b (out.push y) ia (ib+1)),out.push y,ia,ib+1,mg,k,bc))
def loGal(a b:Array Keyed)(mg ac bc:Nat)(out:Array Keyed)(ia ib:Nat):StateT SortSt Sem (ForInStep S2):=do
 DY mg
 let y <- elem' b ib
 let r <- Cu false y a ia (a.size-ia) 0
 match r with
 | some k =>
  if k>0 then
   if (ia+k+1==a.size)=true then pure (ForInStep.done (some (loLast a b (out++a.extract ia (ia+k)) (ia+k) ib),out++a.extract ia (ia+k),ia+k,ib,mg,k,bc))
   else if (ia+k==a.size)=true then pure (ForInStep.done (some (loDone a b (out++a.extract ia (ia+k)) (ia+k) ib),out++a.extract ia (ia+k),ia+k,ib,mg,k,bc))
   else loMid a b mg k bc (out++a.extract ia (ia+k)) (ia+k) ib
  else loMid a b mg k bc out ia ib
 | _=>pure (ForInStep.done (some (loDone a b out ia ib),out,ia,ib,mg,ac,bc))
def IW:Array Keyed->Array Keyed->StateT SortSt Sem (Array Keyed):=sortPriv% PySem.Builtin.mergeLo
theorem Uk(a b:Array Keyed):IW a b=(do
 rule "list.sort.merge-lo"
 let total:=a.size+b.size
 let done (out:Array Keyed) (ia ib:Nat):=out++a.extract ia a.size++b.extract ib b.size
 let lastOfA (out:Array Keyed) (ia ib:Nat):=out++b.extract ib b.size++a.extract ia a.size
 let mut out:Array Keyed:=#[<- elem' b 0]
 let mut ia:=0
 let mut ib:=1
 if ib==b.size then return done out ia ib
 if ia+1==a.size then return lastOfA out ia ib
 let mut minGallop:=gallopOf (<- get)
 for _ in [0:total] do
  let mut acount:=0
  let mut bcount:=0
  for _ in [0:total] do
   let some bWins <- lt' (<- elem' b ib) (<- elem' a ia) | return done out ia ib
   if bWins then
    out:=out.push (<- elem' b ib); ib:=ib+1; bcount:=bcount+1; acount:=0
    if ib==b.size then return done out ia ib
    if bcount >= minGallop then break
   else
    out:=out.push (<- elem' a ia); ia:=ia+1; acount:=acount+1; bcount:=0
    if ia+1==a.size then return lastOfA out ia ib
    if acount >= minGallop then break
  rule "list.sort.gallop"
  minGallop:=minGallop+1
  for _ in [0:total] do
   if minGallop>1 then minGallop:=minGallop-1
   DY minGallop
   let some k <- Cu false (<- elem' b ib) a ia (a.size-ia) 0 | return done out ia ib
   acount:=k
   if k>0 then
    out:=out++a.extract ia (ia+k); ia:=ia+k
    if ia+1==a.size then return lastOfA out ia ib
    if ia==a.size then return done out ia ib
   out:=out.push (<- elem' b ib); ib:=ib+1
   if ib==b.size then return done out ia ib
   let some k <- Cu true (<- elem' a ia) b ib (b.size-ib) 0 | return done out ia ib
   bcount:=k
   if k>0 then
    out:=out++b.extract ib (ib+k); ib:=ib+k
    if ib==b.size then return done out ia ib
   out:=out.push (<- elem' a ia); ia:=ia+1
   if ia+1==a.size then return lastOfA out ia ib
   if acount<7&&bcount<7 then break
  minGallop:=minGallop+1
  DY minGallop
 unsupported "internal:list.sort.merge-bound"):=rfl
set_option pp.proofs true in
theorem Qm(a b:Array Keyed):IW a b=(do
 liftM (rule "list.sort.merge-lo")
 let y <- elem' b 0
 if (1==b.size)=true then pure (loDone a b #[y] 0 1)
 else if (0+1==a.size)=true then pure (loLast a b #[y] 0 1)
 else do
  let g <- get
  let r <- forIn [0:a.size+b.size] ((none,#[y],0,1,gallopOf g):S0) fun _ r0=>do
   let r1 <- forIn [0:a.size+b.size] ((none,r0.snd.fst,r0.snd.snd.fst,r0.snd.snd.snd.fst,0,0):S1) fun _ r=>loOne a b r0.snd.snd.snd.snd r
   match r1.fst with
   | some x=>pure (ForInStep.done ((some x,r1.snd.fst,r1.snd.snd.fst,r1.snd.snd.snd.fst,r0.snd.snd.snd.snd):S0))
   | none=>do
    liftM (rule "list.sort.gallop")
    let r2 <- forIn [0:a.size+b.size] ((none,r1.snd.fst,r1.snd.snd.fst,r1.snd.snd.snd.fst,r0.snd.snd.snd.snd+1,r1.snd.snd.snd.snd.fst,r1.snd.snd.snd.snd.snd):S2) fun _ r =>
     if r.snd.snd.snd.snd.fst>1 then loGal a b (r.snd.snd.snd.snd.fst-1) r.snd.snd.snd.snd.snd.fst r.snd.snd.snd.snd.snd.snd r.snd.fst r.snd.snd.fst r.snd.snd.snd.fst
     else loGal a b r.snd.snd.snd.snd.fst r.snd.snd.snd.snd.snd.fst r.snd.snd.snd.snd.snd.snd r.snd.fst r.snd.snd.fst r.snd.snd.snd.fst
    match r2.fst with
    | some x=>pure (ForInStep.done ((some x,r2.snd.fst,r2.snd.snd.fst,r2.snd.snd.snd.fst,r2.snd.snd.snd.snd.fst):S0))
    | none=>do
     DY (r2.snd.snd.snd.snd.fst+1)
     pure (ForInStep.yield ((none,r2.snd.fst,r2.snd.snd.fst,r2.snd.snd.snd.fst,r2.snd.snd.snd.snd.fst+1):S0))
  match r.fst with
  | some x=>pure x
  | none=>unsupported "internal:list.sort.merge-bound"):=by
 rw[Uk];dsimp only
 congr 1
 funext _
 congr 1
 funext y
 r ifc rfl (ifc rfl ?_)
 congr 1
 funext g
 congr 1
 ·congr 1
  funext x r0
  congr 1
  funext r1
  o⟨o1,r1⟩:=r1;cases o1 with
  | some x=>rfl
  | none =>
   dsimp only
   congr 1
   funext u
   congr 1
   funext r2
   o⟨o2,r2⟩:=r2;cases o2<;>rfl
 ·funext r
  o⟨o,r⟩:=r;cases o<;>rfl
variable{rk:Keyed->Int}{prog:Program}{w:World}{A:Around}{E:Value->Shared->Prop}{s:Shared}{G:Keyed->Prop}{κ:SortKind}{a₀:Array Keyed}
structure Gx(st st':SortSt):Prop where
 arr:arrOf st'=arrOf st
 kind:kindOf st'=kindOf st
 failed:failedOf st'=failedOf st
 pend:pendingOf st'=pendingOf st
theorem Gx.refl(st:SortSt):Gx st st:=⟨rfl,rfl,rfl,rfl⟩
theorem RQ{out b:Array Keyed}{ib:Nat}(h:ib<b.size):(out.push b[ib]).toList=out.toList++(b.toList.drop ib).take 1:=by
 rw[Array.toList_push]
 congr 1
 h hl:ib<b.toList.length:=by simpa using h
 rw[List.drop_eq_getElem_cons hl,List.take_succ_cons,List.take_zero];simp
theorem WD{out a:Array Keyed}(i k:Nat):(out++a.extract i (i+k)).toList=out.toList++(a.toList.drop i).take k:=by
 rw[Array.toList_append,Array.toList_extract]
 congr 1
 simp[List.extract]
theorem Ib(a:Array Keyed)(i:Nat):(a.extract i a.size).toList=a.toList.drop i:=by
 rw[Array.toList_extract];simp[List.extract];rw[List.take_of_length_le ¥]
theorem Tp(a b out:Array Keyed)(ia ib:Nat):(loDone a b out ia ib).toList=out.toList++a.toList.drop ia++b.toList.drop ib:=by
 unfold loDone;rw[Array.toList_append,Array.toList_append,Ib,Ib]
theorem Zq(a b out:Array Keyed)(ia ib:Nat):(loLast a b out ia ib).toList=out.toList++b.toList.drop ib++a.toList.drop ia:=by
 unfold loLast;rw[Array.toList_append,Array.toList_append,Ib,Ib]
theorem Dh{a:Array Keyed}{i:Nat}{z:Keyed}(h:z∈a.toList.drop i):∃ j,i<=j/\∃ hj:j<a.size,z=a[j]:=by
 o⟨k,hk,e⟩:=List.mem_iff_getElem.mp h;rw[List.length_drop] at hk;r⟨i+k,by w,by
               have:a.toList.length=a.size:=by simp
               w,?_⟩
 rw[<- e,List.getElem_drop];simp
theorem CV{a:Array Keyed}{i k:Nat}{z:Keyed}(h:z∈(a.toList.drop i).take k):∃ j,i<=j/\j<i+k/\∃ hj:j<a.size,z=a[j]:=by
 o⟨n,hk,e⟩:=List.mem_iff_getElem.mp h;rw[List.length_take,List.length_drop] at hk;have:a.toList.length=a.size:=by simp
 r⟨i+n,by w,by w,by w,?_⟩;rw[<- e,List.getElem_take,List.getElem_drop];simp
theorem Em{a:Array Keyed}(sa:Srt rk a.toList){i j:Nat}(ij:i<=j)(hj:j<a.size):rk (a[i]'¢)<=rk a[j]:=by
 by_cases e:i=j
 ·subst e; !Int.le_refl _
 ·have:=List.pairwise_iff_getElem.mp sa i j (by simp; w) (by simpa using hj) ¢
  simpa using this
theorem PN{a:Array Keyed}(sa:Srt rk a.toList){lo hi:Nat}(h:hi<=a.size):Up rk a lo hi:=fun i j li ij jh=>by
 rw[Fb (show i<a.size by w),Fb (show j<a.size by w)];!Em sa ij ¢
section
variable{a b:Array Keyed}{st:SortSt}
def At(rk:Keyed->Int)(a b out:Array Keyed)(ia ib:Nat):Prop:=MI rk a.toList b.toList out.toList ia ib/\ia+1<a.size/\ib<b.size
structure Lo(G:Keyed->Prop)(rk:Keyed->Int)(a b:Array Keyed):Prop where
 ga:Al G a
 gb:Al G b
 sa:Srt rk a.toList
 sb:Srt rk b.toList
 hl:∀ y∈b.toList,∀ z∈a.toList.drop (a.size-1),rk y<=rk z
theorem Lo.done(L:Lo G rk a b){out:Array Keyed}{ia ib:Nat}(m:MI rk a.toList b.toList out.toList ia ib)(h:b.size<=ib):Mg rk a.toList b.toList (loDone a b out ia ib).toList:=by
 rw[Tp];!m.doneB L.sa (by simpa using h)
theorem Lo.doneA(L:Lo G rk a b){out:Array Keyed}{ia ib:Nat}(m:MI rk a.toList b.toList out.toList ia ib)(h:a.size<=ia):Mg rk a.toList b.toList (loDone a b out ia ib).toList:=by
 rw[Tp];!m.doneA L.sb (by simpa using h)
theorem Lo.last(L:Lo G rk a b){out:Array Keyed}{ia ib:Nat}(m:MI rk a.toList b.toList out.toList ia ib)(h:ia+1=a.size):Mg rk a.toList b.toList (loLast a b out ia ib).toList:=by
 rw[Zq];r m.last L.sb (by simpa using h) fun y hy z hz=>L.hl y hy z ?_;rw[show a.size-1=ia by w];!hz
theorem Lo.stepB(L:Lo G rk a b){out:Array Keyed}{ia ib:Nat}(m:MI rk a.toList b.toList out.toList ia ib)(hb:ib<b.size)(h:∀ j,ia<=j->∀ hj:j<a.size,rk b[ib]<=rk a[j]):MI rk a.toList b.toList (out.push b[ib]).toList ia (ib+1):=by
 rw[RQ hb];r m.takeB L.sb 1 fun y hy z hz=>?_;o⟨j,j1,j2,hj,rfl⟩:=CV hy;have:j=ib:=by w
 subst this;o⟨i,i1,hi,rfl⟩:=Dh hz;!h i i1 hi
theorem Lo.stepA(L:Lo G rk a b){out:Array Keyed}{ia ib:Nat}(m:MI rk a.toList b.toList out.toList ia ib)(ha:ia<a.size)(h:∀ j,ib<=j->∀ hj:j<b.size,rk a[ia]<=rk b[j]):MI rk a.toList b.toList (out.push a[ia]).toList (ia+1) ib:=by
 rw[RQ ha];r m.takeA L.sa 1 fun y hy z hz=>?_;o⟨j,j1,j2,hj,rfl⟩:=CV hy;have:j=ia:=by w
 subst this;o⟨i,i1,hi,rfl⟩:=Dh hz;!h i i1 hi
theorem Lo.manyA(L:Lo G rk a b){out:Array Keyed}{ia ib k:Nat}(m:MI rk a.toList b.toList out.toList ia ib)(h:∀ i,ia<=i->i<ia+k->∀ hi:i<a.size,∀ j,ib<=j->∀ hj:j<b.size,rk a[i]<=rk b[j]):MI rk a.toList b.toList (out++a.extract ia (ia+k)).toList (ia+k) ib:=by
 rw[WD];r m.takeA L.sa k fun y hy z hz=>?_;o⟨i,i1,i2,hi,rfl⟩:=CV hy;o⟨j,j1,hj,rfl⟩:=Dh hz;!h i i1 i2 hi j j1 hj
theorem Lo.manyB(L:Lo G rk a b){out:Array Keyed}{ia ib k:Nat}(m:MI rk a.toList b.toList out.toList ia ib)(h:∀ i,ib<=i->i<ib+k->∀ hi:i<b.size,∀ j,ia<=j->∀ hj:j<a.size,rk b[i]<=rk a[j]):MI rk a.toList b.toList (out++b.extract ib (ib+k)).toList ia (ib+k):=by
 rw[WD];r m.takeB L.sb k fun y hy z hz=>?_;o⟨i,i1,i2,hi,rfl⟩:=CV hy;o⟨j,j1,hj,rfl⟩:=Dh hz;!h i i1 i2 hi j j1 hj
theorem PB{st st':SortSt}(g:Gx st st')(m:Nat):Gx st (SortSt.mk' (kindOf st') (arrOf st') (pendingOf st') m (failedOf st')):=⟨g.arr,g.kind,g.failed,g.pend⟩
theorem setMin{st:SortSt}{g:Nat}{Q:Unit->SortSt->Prop}(h:Q () (SortSt.mk' (kindOf st) ⑥ (pendingOf st) g (failedOf st))):wpS ① A E s (DY g) Q st:=by
 rw[UL];!wpS_modify h
def E1(rk:Keyed->Int)(a b:Array Keyed)(st:SortSt)(m:Nat)(r:S1)(st':SortSt):Prop:=Gx st st'/\((∃ x y,r=(some x,y)/\Mg rk a.toList b.toList x.toList)\/∃ out ia ib ac bc,r=(none,out,ia,ib,ac,bc)/\At rk a b out ia ib/\m<=ia+ib)
def E2(rk:Keyed->Int)(a b:Array Keyed)(st:SortSt)(m:Nat)(r:S2)(st':SortSt):Prop:=Gx st st'/\((∃ x y,r=(some x,y)/\Mg rk a.toList b.toList x.toList)\/∃ out ia ib mg ac bc,r=(none,out,ia,ib,mg,ac,bc)/\At rk a b out ia ib/\m<=ia+ib)
def Y1(rk:Keyed->Int)(a b:Array Keyed)(st:SortSt)(m:Nat)(r:S1)(st':SortSt):Prop:=Gx st st'/\∃ out ia ib ac bc,r=(none,out,ia,ib,ac,bc)/\At rk a b out ia ib/\m<=ia+ib
def Y2(rk:Keyed->Int)(a b:Array Keyed)(st:SortSt)(m:Nat)(r:S2)(st':SortSt):Prop:=Gx st st'/\∃ out ia ib mg ac bc,r=(none,out,ia,ib,mg,ac,bc)/\At rk a b out ia ib/\m<=ia+ib
theorem YM(C:Cmp prog w A E s κ G rk)(L:Lo G rk a b){mg m ia ib ac bc:Nat}{out:Array Keyed}{st0:SortSt}(kd:kindOf st0=κ)(g:Gx st0 st)(at_:At rk a b out ia ib)(hm:m<=ia+ib) :
  wpS ① A E s (loOne a b mg (none,out,ia,ib,ac,bc)) (fun r st'=>match r with | .done c'=>E1 rk a b st0 (m+1) c' st' | .yield c'=>Y1 rk a b st0 (m+1) c' st') st:=by
 o⟨mi,la,lb⟩:=at_;h la':ia<a.size:=by w
 unfold loOne;dsimp only;r wpS_bind (Bj lb (wpS_bind (Bj la' (wpS_bind (C _ _ (L.gb.at lb) (L.ga.at la') st _ (g.kind.trans kd) ?_)))));by_cases c:rk b[ib]<rk a[ia]
 ·rw[decide_eq_true c]
  dsimp only;rw[if_pos rfl];r wpS_bind (Bj lb ?_);h mi':=L.stepB mi lb fun j j1 hj=>Int.le_trans (Int.le_of_lt c) (Em L.sa j1 hj);by_cases c1:ib+1=b.size
  ·rw[if_pos (by rw[c1]; !beq_self_eq_true _)]
   !wpS_pure ⟨g,.inl ⟨_,_,rfl,L.done mi' ¢⟩⟩
  ·rw[if_neg (by intro z; !c1 ⑲)]
   by_cases c2:bc+1 >= mg
   ·rw[if_pos c2]
    !wpS_pure ⟨g,.inr ⟨_,_,_,_,_,rfl,⟨mi',la,by w⟩,by w⟩⟩
   ·rw[if_neg c2]
    !wpS_pure ⟨g,_,_,_,_,_,rfl,⟨mi',la,by w⟩,by w⟩
 ·rw[decide_eq_false c]
  dsimp only;rw[if_neg ¤];r wpS_bind (Bj la' ?_);h mi':=L.stepA mi la' fun j j1 hj=>Int.le_trans (Int.not_lt.mp c) (Em L.sb j1 hj);by_cases c1:ia+1+1=a.size
  ·rw[if_pos (by rw[c1]; !beq_self_eq_true _)]
   !wpS_pure ⟨g,.inl ⟨_,_,rfl,L.last mi' ¢⟩⟩
  ·rw[if_neg (by intro z; !c1 ⑲)]
   by_cases c2:ac+1 >= mg
   ·rw[if_pos c2]
    !wpS_pure ⟨g,.inr ⟨_,_,_,_,_,rfl,⟨mi',by w,lb⟩,by w⟩⟩
   ·rw[if_neg c2]
    !wpS_pure ⟨g,_,_,_,_,_,rfl,⟨mi',by w,lb⟩,by w⟩
theorem Np(L:Lo G rk a b){mg m ia ib ac bc:Nat}{out:Array Keyed}{st0:SortSt}(g:Gx st0 st)(mi:MI rk a.toList b.toList out.toList ia ib)(la:ia+1<a.size)(lb:ib<b.size)(h:∀ j,ib<=j->∀ hj:j<b.size,rk (a[ia]'¢)<=rk b[j])(hm:m<=ia+ib) :
  wpS ① A E s (loEnd a b mg ac bc out ia ib) (fun r st'=>match r with | .done c'=>E2 rk a b st0 m c' st' | .yield c'=>Y2 rk a b st0 m c' st') st:=by
 h la':ia<a.size:=by w
 unfold loEnd;r wpS_bind (Bj la' ?_);h mi':=L.stepA mi la' h;by_cases c1:ia+1+1=a.size
 ·rw[if_pos (by rw[c1]; !beq_self_eq_true _)]
  !wpS_pure ⟨g,.inl ⟨_,_,rfl,L.last mi' ¢⟩⟩
 ·rw[if_neg (by intro z; !c1 ⑲)]
  by_cases c2:(decide (ac<7)&&decide (bc<7))=true
  ·rw[if_pos c2]
   !wpS_pure ⟨g,.inr ⟨_,_,_,_,_,_,rfl,⟨mi',by w,lb⟩,by w⟩⟩
  ·rw[if_neg c2]
   !wpS_pure ⟨g,_,_,_,_,_,_,rfl,⟨mi',by w,lb⟩,by w⟩
theorem Dz{key:Keyed}{arr:Array Keyed}{base i:Nat}(h:base+i<arr.size):bey rk false key arr base i=!decide (rk key<rk arr[base+i]):=by
 unfold bey;rw[if_neg ¤,Fb h]
theorem Ez{key:Keyed}{arr:Array Keyed}{base i:Nat}(h:base+i<arr.size):bey rk true key arr base i=decide (rk arr[base+i]<rk key):=by
 unfold bey;rw[if_pos rfl,Fb h]
theorem Nb(C:Cmp prog w A E s κ G rk)(L:Lo G rk a b){mg m k bc ia ib:Nat}{out:Array Keyed}{st0:SortSt}(kd:kindOf st0=κ)(g:Gx st0 st)(mi:MI rk a.toList b.toList out.toList ia ib)(la:ia+1<a.size)(lb:ib<b.size)(h:∀ j,ia<=j->∀ hj:j<a.size,rk b[ib]<=rk a[j])(hm:m<=ia+ib) :
  wpS ① A E s (loMid a b mg k bc out ia ib) (fun r st'=>match r with | .done c'=>E2 rk a b st0 m c' st' | .yield c'=>Y2 rk a b st0 m c' st') st:=by
 h la':ia<a.size:=by w
 unfold loMid;r wpS_bind (Bj lb ?_);h mi':=L.stepB mi lb h;by_cases c1:ib+1=b.size
 ·rw[if_pos (by rw[c1]; !beq_self_eq_true _)]
  !wpS_pure ⟨g,.inl ⟨_,_,rfl,L.done mi' ¢⟩⟩
 ·rw[if_neg (by intro z; !c1 ⑲)]
  r wpS_bind (Bj la' ?_);r wpS_bind (DW C (L.ga.at la') L.gb (g.kind.trans kd) ¢ ¢ (Ew (PN L.sb ¢)) fun k' kn kt kf=>?_);dsimp only;h t1:∀ i,ib+1<=i->i<ib+1+k'->∀ hi:i<b.size,rk b[i]<rk a[ia]:=fun i i1 i2 hi=>by
   h z:=kt (i-(ib+1)) ¢;rw[Ez ¢] at z;h e:ib+1+(i-(ib+1))=i:=by w
   simp only[e] at z;!of_decide_eq_true z
  h t2:∀ j,ib+1+k'<=j->∀ hj:j<b.size,rk a[ia]<=rk b[j]:=fun i i1 hi=>by
   h z:=kf (i-(ib+1)) ¢ ¢;rw[Ez ¢] at z;h e:ib+1+(i-(ib+1))=i:=by w
   simp only[e] at z;!Int.not_lt.mp (of_decide_eq_false z)
  by_cases c2:k'>0
  ·rw[if_pos c2]
   h mi2:=L.manyB (k:=k') mi' fun i i1 i2 hi j j1 hj=>Int.le_trans (Int.le_of_lt (t1 i i1 i2 hi)) (Em L.sa j1 hj);by_cases c3:ib+1+k'=b.size
   ·rw[if_pos (by rw[c3]; !beq_self_eq_true _)]
    !wpS_pure ⟨g,.inl ⟨_,_,rfl,L.done mi2 ¢⟩⟩
   ·rw[if_neg (by intro z; !c3 ⑲)]
    !Np L g mi2 la ¢ t2 ¢
  ·rw[if_neg c2]
   have:k'=0:=by w
   subst this;!Np L g mi' la ¢ t2 ¢
theorem Nf(C:Cmp prog w A E s κ G rk)(L:Lo G rk a b){mg m ac bc ia ib:Nat}{out:Array Keyed}{st0:SortSt}(kd:kindOf st0=κ)(g:Gx st0 st)(at_:At rk a b out ia ib)(hm:m<=ia+ib) :
  wpS ① A E s (loGal a b mg ac bc out ia ib) (fun r st'=>match r with | .done c'=>E2 rk a b st0 m c' st' | .yield c'=>Y2 rk a b st0 m c' st') st:=by
 o⟨mi,la,lb⟩:=at_;h la':ia<a.size:=by w
 unfold loGal;r wpS_bind (setMin ?_);h g':=PB g mg;generalize SortSt.mk' (kindOf st) ⑥ (pendingOf st) mg (failedOf st)=st1 at g';r wpS_bind (Bj lb ?_);r wpS_bind (DW C (L.gb.at lb) L.ga (g'.kind.trans kd) ¢ ¢ (Ew (PN L.sa ¢)) fun k kn kt kf=>?_);dsimp only;h t1:∀ i,ia<=i->i<ia+k->∀ hi:i<a.size,rk a[i]<=rk b[ib]:=fun i i1 i2 hi=>by
  h z:=kt (i-ia) ¢;rw[Dz ¢] at z;h e:ia+(i-ia)=i:=by w
  simp only[e] at z;r Int.not_lt.mp fun y=>?_;rw[decide_eq_true y] at z;cases z
 h t2:∀ j,ia+k<=j->∀ hj:j<a.size,rk b[ib]<=rk a[j]:=fun i i1 hi=>by
  h z:=kf (i-ia) ¢ ¢;rw[Dz ¢] at z;h e:ia+(i-ia)=i:=by w
  simp only[e] at z;h z':decide (rk b[ib]<rk a[i])=true:=by
   cases q:decide (rk b[ib]<rk a[i]) with
   | true=>rfl
   | false=>rw[q] at z; cases z
  !Int.le_of_lt (of_decide_eq_true z')
 by_cases c2:k>0
 ·rw[if_pos c2]
  h mi2:=L.manyA (k:=k) mi fun i i1 i2 hi j j1 hj=>Int.le_trans (t1 i i1 i2 hi) (Em L.sb j1 hj);by_cases c3:ia+k+1=a.size
  ·rw[if_pos (by rw[c3]; !beq_self_eq_true _)]
   !wpS_pure ⟨g',.inl ⟨_,_,rfl,L.last mi2 ¢⟩⟩
  ·rw[if_neg (by intro z; !c3 ⑲)]
   by_cases c4:ia+k=a.size
   ·rw[if_pos (by rw[c4]; !beq_self_eq_true _)]
    !wpS_pure ⟨g',.inl ⟨_,_,rfl,L.doneA mi2 ¢⟩⟩
   ·rw[if_neg (by intro z; !c4 ⑲)]
    !Nb C L kd g' mi2 ¢ lb t2 ¢
 ·rw[if_neg c2]
  have:k=0:=by w
  subst this;!Nb C L kd g' mi la lb t2 hm
theorem Rh(C:Cmp prog w A E s κ G rk)(L:Lo G rk a b)(kd:kindOf st=κ)(a1:1<=a.size)(b1:1<=b.size)(hf:∀ j,∀ hj:j<a.size,rk b[0]<=rk a[j]){Q:Array Keyed->SortSt->Prop}(h:∀ r st',Gx st st'->Mg rk a.toList b.toList r.toList->Q r st'):wpS ① A E s (IW a b) Q st:=by
 rw[Qm];r wpS_bind (wpS_lift (wpAny_rule ⟨rfl,?_⟩));r wpS_bind (Bj b1 ?_);h mi0:MI rk a.toList b.toList (#[]:Array Keyed).toList 0 0:=⟨List.Perm.refl _,List.Pairwise.nil,fun x hx=>(by cases hx),fun x hx=>(by cases hx)⟩;h mi:MI rk a.toList b.toList (#[b[0]]:Array Keyed).toList 0 1:=L.stepB mi0 b1 fun j _ hj=>hf j hj;by_cases c1:1=b.size
 ·rw[if_pos (by rw[<- c1]; rfl)]
  !wpS_pure (h _ _ (Gx.refl _) (L.done mi ¢))
 rw[if_neg (by intro z; !c1 ⑲)];by_cases c2:0+1=a.size
 ·rw[if_pos (by rw[<- c2]; rfl)]
  !wpS_pure (h _ _ (Gx.refl _) (L.last mi ¢))
 rw[if_neg (by intro z; !c2 ⑲)];r wpS_bind (wpS_get ?_);r wpS_bind (wpS_mono (wpS_forRange (I:=fun x c st'=>Gx st st'/\∃ out ia ib mg,c=(none,out,ia,ib,mg)/\At rk a b out ia ib/\x+1<=ia+ib)
  (Q:=fun c st'=>Gx st st'/\∃ x y,c=(some x,y)/\Mg rk a.toList b.toList x.toList) ?_ ?_ ⟨Gx.refl _,_,_,_,_,rfl,⟨mi,by w,by w⟩,by w⟩) ?_)
 ·rintro x c st' _ xn ⟨g,out,ia,ib,mg,rfl,at_,xm⟩
  dsimp only;r wpS_bind (wpS_mono (wpS_forRange (I:=fun y c st'=>Y1 rk a b st (x+1+y) c st') (Q:=E1 rk a b st (x+2)) ?_ ?_ ⟨g,_,_,_,_,_,rfl,at_,by w⟩) ?_)
  ·rintro y c st2 _ yn ⟨g2,out2,ia2,ib2,ac,bc,rfl,at2,hm⟩
   r wpS_mono (YM C L kd g2 at2 hm) fun r st3 hr=>?_;cases r with
   | done c' =>
    o⟨g3,q⟩:=hr;r⟨g3,q.imp id fun⟨o,i,j,k,l,e,a',b'⟩=>⟨o,i,j,k,l,e,a',by w⟩⟩
   | yield c'=>!hr
  ·rintro c st2 ⟨g2,out2,ia2,ib2,ac,bc,rfl,at2,hm⟩
   !⟨g2,.inr ⟨_,_,_,_,_,rfl,at2,by w⟩⟩
  ·rintro c st2 ⟨g2,⟨r,y,rfl,m⟩ | ⟨out2,ia2,ib2,ac,bc,rfl,at2,hm⟩⟩
   ·!wpS_pure ⟨g2,_,_,rfl,m⟩
   ·dsimp only
    r wpS_bind (wpS_lift (wpAny_rule ⟨rfl,?_⟩));r wpS_bind (wpS_mono (wpS_forRange (I:=fun y c st'=>Y2 rk a b st (x+2) c st') (Q:=E2 rk a b st (x+2)) ?_ ?_ ⟨g2,_,_,_,_,_,_,rfl,at2,hm⟩) ?_)
    ·rintro y c st3 _ yn ⟨g3,out3,ia3,ib3,mg3,ac3,bc3,rfl,at3,hm3⟩
     dsimp only;split
     ·!wpS_mono (Nf C L kd g3 at3 hm3) fun r st4 hr=>by cases r<;>!hr
     ·!wpS_mono (Nf C L kd g3 at3 hm3) fun r st4 hr=>by cases r<;>!hr
    ·rintro c st3 ⟨g3,out3,ia3,ib3,mg3,ac3,bc3,rfl,at3,hm3⟩
     !⟨g3,.inr ⟨_,_,_,_,_,_,rfl,at3,hm3⟩⟩
    ·rintro c st3 ⟨g3,⟨r,y,rfl,m⟩ | ⟨out3,ia3,ib3,mg3,ac3,bc3,rfl,at3,hm3⟩⟩
     ·!wpS_pure ⟨g3,_,_,rfl,m⟩
     ·r wpS_bind (setMin (wpS_pure ⟨PB g3 _,_,_,_,_,rfl,at3,by w⟩))
 ·rintro c st' ⟨g,out,ia,ib,mg,rfl,⟨_,la,lb⟩,xm⟩
  w
 ·rintro c st' ⟨g,x,y,rfl,m⟩
  !wpS_pure (h _ _ g m)
end
variable{rk:Keyed->Int}{prog:Program}{w:World}{A:Around}{E:Value->Shared->Prop}{s:Shared}{G:Keyed->Prop}{κ:SortKind}{a₀:Array Keyed}
abbrev hiDone(a b out:Array Keyed)(na nb:Nat):Array Keyed:=a.extract 0 na++b.extract 0 nb++out.reverse
abbrev Gk(a b out:Array Keyed)(na nb:Nat):Array Keyed:=b.extract 0 nb++a.extract 0 na++out.reverse
abbrev T1:=Option (Array Keyed)×Nat×Nat×Array Keyed×Nat×Nat
abbrev T2:=Option (Array Keyed)×Nat×Nat×Array Keyed×Nat×Nat×Nat
abbrev T0:=Option (Array Keyed)×Nat×Nat×Array Keyed×Nat
def hiOne(a b:Array Keyed)(mg:Nat)(r:T1):StateT SortSt Sem (ForInStep T1):=do
 let y <- elem' b (r.snd.snd.fst-1)
 let x <- elem' a (r.snd.fst-1)
 let c <- lt' y x
 match c with
 | some aWins =>
  if aWins=true then do
   let x <- elem' a (r.snd.fst-1)
   if (r.snd.fst-1==0)=true then
    pure (ForInStep.done (some (hiDone a b (r.snd.snd.snd.fst.push x) (r.snd.fst-1) r.snd.snd.fst),r.snd.fst-1,r.snd.snd.fst,r.snd.snd.snd.fst.push x,r.snd.snd.snd.snd.fst+1,0))
   else if r.snd.snd.snd.snd.fst+1 >= mg then
    pure (ForInStep.done (none,r.snd.fst-1,r.snd.snd.fst,r.snd.snd.snd.fst.push x,r.snd.snd.snd.snd.fst+1,0))
   else pure (ForInStep.yield (none,r.snd.fst-1,r.snd.snd.fst,r.snd.snd.snd.fst.push x,r.snd.snd.snd.snd.fst+1,0))
  else do
   let y <- elem' b (r.snd.snd.fst-1)
   if (r.snd.snd.fst-1==1)=true then
    pure (ForInStep.done (some (Gk a b (r.snd.snd.snd.fst.push y) r.snd.fst (r.snd.snd.fst-1)),r.snd.fst,r.snd.snd.fst-1,r.snd.snd.snd.fst.push y,0,r.snd.snd.snd.snd.snd+1))
   else if r.snd.snd.snd.snd.snd+1 >= mg then
    pure (ForInStep.done (none,r.snd.fst,r.snd.snd.fst-1,r.snd.snd.snd.fst.push y,0,r.snd.snd.snd.snd.snd+1))
   else pure (ForInStep.yield (none,r.snd.fst,r.snd.snd.fst-1,r.snd.snd.snd.fst.push y,0,r.snd.snd.snd.snd.snd+1))
 | _=>pure (ForInStep.done (some (hiDone a b r.snd.snd.snd.fst r.snd.fst r.snd.snd.fst),r.snd.fst,r.snd.snd.fst,r.snd.snd.snd.fst,r.snd.snd.snd.snd.fst,r.snd.snd.snd.snd.snd))
def hiEnd(a b:Array Keyed)(mg ac bc:Nat)(out:Array Keyed)(na nb:Nat):StateT SortSt Sem (ForInStep T2):=do
 let x <- elem' a (na-1)
 if (na-1==0)=true then pure (ForInStep.done (some (hiDone a b (out.push x) (na-1) nb),na-1,nb,out.push x,mg,ac,bc))
 else if (decide (ac<7)&&decide (bc<7))=true then pure (ForInStep.done (none,na-1,nb,out.push x,mg,ac,bc))
 else pure (ForInStep.yield (none,na-1,nb,out.push x,mg,ac,bc))
def hiMid(a b:Array Keyed)(mg k bc:Nat)(out:Array Keyed)(na nb:Nat):StateT SortSt Sem (ForInStep T2):=do
 let y <- elem' b (nb-1)
 if (nb-1==1)=true then pure (ForInStep.done (some (Gk a b (out.push y) na (nb-1)),na,nb-1,out.push y,mg,k,bc))
 else do
  let x <- elem' a (na-1)
  let r <- Cu true x b 0 (nb-1) (nb-1-1)
  match r with
  | some t =>
   if nb-1-t>0 then
    if (t==1)=true then pure (ForInStep.done (some (Gk a b (out.push y++(b.extract t (nb-1)).reverse) na t),na,t,out.push y++(b.extract t (nb-1)).reverse,mg,k,nb-1-t))
    else if (t==0)=true then pure (ForInStep.done (some (hiDone a b (out.push y++(b.extract t (nb-1)).reverse) na t),na,t,out.push y++(b.extract t (nb-1)).reverse,mg,k,nb-1-t))
    else hiEnd a b mg k (nb-1-t) (out.push y++(b.extract t (nb-1)).reverse) na t
   else hiEnd a b mg k (nb-1-t) (out.push y) na (nb-1)
  | _=>pure (ForInStep.done (some (hiDone a b (out.push y) na (nb-1)),na,nb-1,out.push y,mg,k,bc))
def hiGal(a b:Array Keyed)(mg ac bc:Nat)(out:Array Keyed)(na nb:Nat):StateT SortSt Sem (ForInStep T2):=do
 DY mg
 let y <- elem' b (nb-1)
 let r <- Cu false y a 0 na (na-1)
 match r with
 | some t =>
  if na-t>0 then
   if (t==0)=true then pure (ForInStep.done (some (hiDone a b (out++(a.extract t na).reverse) t nb),t,nb,out++(a.extract t na).reverse,mg,na-t,bc))
   else hiMid a b mg (na-t) bc (out++(a.extract t na).reverse) t nb
  else hiMid a b mg (na-t) bc out na nb
 | _=>pure (ForInStep.done (some (hiDone a b out na nb),na,nb,out,mg,ac,bc))
def Ia:Array Keyed->Array Keyed->StateT SortSt Sem (Array Keyed):=sortPriv% PySem.Builtin.mergeHi
theorem Va(a b:Array Keyed):Ia a b=(do
 rule "list.sort.merge-hi"
 let total:=a.size+b.size
 let done (out:Array Keyed) (na nb:Nat):=a.extract 0 na++b.extract 0 nb++out.reverse
 let firstOfB (out:Array Keyed) (na nb:Nat):=b.extract 0 nb++a.extract 0 na++out.reverse
 let mut na:=a.size-1
 let mut nb:=b.size
 let mut out:Array Keyed:=#[<- elem' a na]
 if na==0 then return done out na nb
 if nb==1 then return firstOfB out na nb
 let mut minGallop:=gallopOf (<- get)
 for _ in [0:total] do
  let mut acount:=0
  let mut bcount:=0
  for _ in [0:total] do
   let some aWins <- lt' (<- elem' b (nb-1)) (<- elem' a (na-1)) | return done out na nb
   if aWins then
    na:=na-1; out:=out.push (<- elem' a na); acount:=acount+1; bcount:=0
    if na==0 then return done out na nb
    if acount >= minGallop then break
   else
    nb:=nb-1; out:=out.push (<- elem' b nb); bcount:=bcount+1; acount:=0
    if nb==1 then return firstOfB out na nb
    if bcount >= minGallop then break
  rule "list.sort.gallop"
  minGallop:=minGallop+1
  for _ in [0:total] do
   if minGallop>1 then minGallop:=minGallop-1
   DY minGallop
   let some at_ <- Cu false (<- elem' b (nb-1)) a 0 na (na-1) | return done out na nb
   let k:=na-at_
   acount:=k
   if k>0 then
    out:=out++(a.extract at_ na).reverse; na:=at_
    if na==0 then return done out na nb
   nb:=nb-1; out:=out.push (<- elem' b nb)
   if nb==1 then return firstOfB out na nb
   let some at_ <- Cu true (<- elem' a (na-1)) b 0 nb (nb-1) | return done out na nb
   let k:=nb-at_
   bcount:=k
   if k>0 then
    out:=out++(b.extract at_ nb).reverse; nb:=at_
    if nb==1 then return firstOfB out na nb
    if nb==0 then return done out na nb
   na:=na-1; out:=out.push (<- elem' a na)
   if na==0 then return done out na nb
   if acount<7&&bcount<7 then break
  minGallop:=minGallop+1
  DY minGallop
 unsupported "internal:list.sort.merge-bound"):=rfl
theorem Rb(a b:Array Keyed):Ia a b=(do
 liftM (rule "list.sort.merge-hi")
 let x <- elem' a (a.size-1)
 if (a.size-1==0)=true then pure (hiDone a b #[x] (a.size-1) b.size)
 else if (b.size==1)=true then pure (Gk a b #[x] (a.size-1) b.size)
 else do
  let g <- get
  let r <- forIn [0:a.size+b.size] ((none,a.size-1,b.size,#[x],gallopOf g):T0) fun _ r0=>do
   let r1 <- forIn [0:a.size+b.size] ((none,r0.snd.fst,r0.snd.snd.fst,r0.snd.snd.snd.fst,0,0):T1) fun _ r=>hiOne a b r0.snd.snd.snd.snd r
   match r1.fst with
   | some x=>pure (ForInStep.done ((some x,r1.snd.fst,r1.snd.snd.fst,r1.snd.snd.snd.fst,r0.snd.snd.snd.snd):T0))
   | none=>do
    liftM (rule "list.sort.gallop")
    let r2 <- forIn [0:a.size+b.size] ((none,r1.snd.fst,r1.snd.snd.fst,r1.snd.snd.snd.fst,r0.snd.snd.snd.snd+1,r1.snd.snd.snd.snd.fst,r1.snd.snd.snd.snd.snd):T2) fun _ r =>
     if r.snd.snd.snd.snd.fst>1 then hiGal a b (r.snd.snd.snd.snd.fst-1) r.snd.snd.snd.snd.snd.fst r.snd.snd.snd.snd.snd.snd r.snd.snd.snd.fst r.snd.fst r.snd.snd.fst
     else hiGal a b r.snd.snd.snd.snd.fst r.snd.snd.snd.snd.snd.fst r.snd.snd.snd.snd.snd.snd r.snd.snd.snd.fst r.snd.fst r.snd.snd.fst
    match r2.fst with
    | some x=>pure (ForInStep.done ((some x,r2.snd.fst,r2.snd.snd.fst,r2.snd.snd.snd.fst,r2.snd.snd.snd.snd.fst):T0))
    | none=>do
     DY (r2.snd.snd.snd.snd.fst+1)
     pure (ForInStep.yield ((none,r2.snd.fst,r2.snd.snd.fst,r2.snd.snd.snd.fst,r2.snd.snd.snd.snd.fst+1):T0))
  match r.fst with
  | some x=>pure x
  | none=>unsupported "internal:list.sort.merge-bound"):=by
 rw[Va];dsimp only
 congr 1
 funext _
 congr 1
 funext y
 r ifc rfl (ifc rfl ?_)
 congr 1
 funext g
 congr 1
 ·congr 1
  funext x r0
  congr 1
  funext r1
  o⟨o1,r1⟩:=r1;cases o1 with
  | some x=>rfl
  | none =>
   dsimp only
   congr 1
   funext u
   congr 1
   funext r2
   o⟨o2,r2⟩:=r2;cases o2<;>rfl
 ·funext r
  o⟨o,r⟩:=r;cases o<;>rfl
variable{rk:Keyed->Int}{prog:Program}{w:World}{A:Around}{E:Value->Shared->Prop}{s:Shared}{G:Keyed->Prop}{κ:SortKind}{a₀:Array Keyed}
abbrev nk(rk:Keyed->Int):Keyed->Int:=fun x=>- rk x
theorem UG{a b l q:List Keyed}(m:Mg (nk rk) b.reverse a.reverse l)(e:q=l.reverse):Mg rk a b q:=by
 o⟨p,sr⟩:=m;subst e;r⟨(List.reverse_perm l).trans (p.trans ?_),?_⟩
 ·!(((List.reverse_perm b).append (List.reverse_perm a))).trans List.perm_append_comm
 ·!List.pairwise_reverse.mpr (sr.imp fun {x y} h=>by
   have:- rk x<=- rk y:=h;w)
theorem Dj{a:Array Keyed}{n:Nat}(h:n<=a.size):a.toList.reverse.drop (a.size-n)=(a.toList.take n).reverse:=by
 rw[List.drop_reverse]
 congr 2
 simp;w
section
variable{a b:Array Keyed}{st:SortSt}
def HAt(rk:Keyed->Int)(a b out:Array Keyed)(na nb:Nat):Prop:=MI (nk rk) b.toList.reverse a.toList.reverse out.toList (b.size-nb) (a.size-na)/\na<=a.size/\nb<=b.size
structure Hi(G:Keyed->Prop)(rk:Keyed->Int)(a b:Array Keyed):Prop where
 ga:Al G a
 gb:Al G b
 sa:Srt rk a.toList
 sb:Srt rk b.toList
 hf:∀ j,∀ hj:j<a.size,∀ h0:0<b.size,rk b[0]<=rk a[j]
theorem Fe{l:List Keyed}(h:Srt rk l):Srt (nk rk) l.reverse:=List.pairwise_reverse.mpr (h.imp fun {x y} h=>by show-rk y<=- rk x; w)
theorem FJ{a:Array Keyed}{n:Nat}{z:Keyed}(hn:n<=a.size)(h:z∈a.toList.reverse.drop (a.size-n)):∃ j,j<n/\∃ hj:j<a.size,z=a[j]:=by
 rw[Dj hn] at h;h h':=List.mem_reverse.mp h;o⟨k,hk,e⟩:=List.mem_iff_getElem.mp h';rw[List.length_take] at hk;have:a.toList.length=a.size:=by simp
 r⟨k,by w,by w,?_⟩;rw[<- e,List.getElem_take];simp
theorem rtake{a:Array Keyed}{n t:Nat}(hn:n<=a.size)(ht:t<=n):(a.toList.reverse.drop (a.size-n)).take (n-t)=((a.toList.drop t).take (n-t)).reverse:=by
 rw[Dj hn,List.take_reverse]
 congr 1
 have:a.toList.length=a.size:=by simp
 rw[List.length_take,show min n a.toList.length-(n-t)=t by w,List.drop_take]
theorem RG{out a:Array Keyed}{n t:Nat}(hn:n<=a.size)(ht:t<=n):(out++(a.extract t n).reverse).toList=out.toList++(a.toList.reverse.drop (a.size-n)).take (n-t):=by
 rw[rtake hn ht,Array.toList_append,Array.toList_reverse,Array.toList_extract]
theorem NP{out a:Array Keyed}{n:Nat}(h1:1<=n)(hn:n<=a.size):(out.push (a[n-1]'¢)).toList=out.toList++(a.toList.reverse.drop (a.size-n)).take 1:=by
 have:=rtake (a:=a) (n:=n) (t:=n-1) hn ¢;rw[show n-(n-1)=1 by w] at this;rw[this,Array.toList_push]
 congr 1
 h hl:n-1<a.toList.length:=by simp; w
 rw[List.drop_eq_getElem_cons hl,List.take_succ_cons,List.take_zero];simp
theorem Hi.stepA(L:Hi G rk a b){out:Array Keyed}{na nb:Nat}(m:HAt rk a b out na nb)(h1:1<=na)(h:∀ j,j<nb->∀ hj:j<b.size,rk b[j]<=rk (a[na-1]'(by have:=m.2.1; w))):HAt rk a b (out.push (a[na-1]'(by have:=m.2.1; w))) (na-1) nb:=by
 o⟨mi,ha,hb⟩:=m;r⟨?_,by w,hb⟩;rw[NP h1 ha,show a.size-(na-1)=a.size-na+1 by w];r mi.takeB (Fe L.sa) 1 fun y hy z hz=>?_;rw[show (1:Nat)=na-(na-1) by w,rtake ha ¢] at hy;o⟨j,j1,j2,hj,rfl⟩:=CV (List.mem_reverse.mp hy);have:j=na-1:=by w
 subst this;o⟨i,i1,hi,rfl⟩:=FJ hb hz;have:=h i i1 hi;show-_<=- _;w
theorem Hi.stepB(L:Hi G rk a b){out:Array Keyed}{na nb:Nat}(m:HAt rk a b out na nb)(h1:1<=nb)(h:∀ j,j<na->∀ hj:j<a.size,rk a[j]<=rk (b[nb-1]'(by have:=m.2.2; w))):HAt rk a b (out.push (b[nb-1]'(by have:=m.2.2; w))) na (nb-1):=by
 o⟨mi,ha,hb⟩:=m;r⟨?_,ha,by w⟩;rw[NP h1 hb,show b.size-(nb-1)=b.size-nb+1 by w];r mi.takeA (Fe L.sb) 1 fun y hy z hz=>?_;rw[show (1:Nat)=nb-(nb-1) by w,rtake hb ¢] at hy;o⟨j,j1,j2,hj,rfl⟩:=CV (List.mem_reverse.mp hy);have:j=nb-1:=by w
 subst this;o⟨i,i1,hi,rfl⟩:=FJ ha hz;have:=h i i1 hi;show-_<=- _;w
theorem Hi.manyA(L:Hi G rk a b){out:Array Keyed}{na nb t:Nat}(m:HAt rk a b out na nb)(ht:t<=na)(h:∀ i,t<=i->i<na->∀ hi:i<a.size,∀ j,j<nb->∀ hj:j<b.size,rk b[j]<=rk a[i]):HAt rk a b (out++(a.extract t na).reverse) t nb:=by
 o⟨mi,ha,hb⟩:=m;r⟨?_,by w,hb⟩;rw[RG ha ht,show a.size-t=a.size-na+(na-t) by w];r mi.takeB (Fe L.sa) _ fun y hy z hz=>?_;rw[rtake ha ht] at hy;o⟨i,i1,i2,hi,rfl⟩:=CV (List.mem_reverse.mp hy);o⟨j,j1,hj,rfl⟩:=FJ hb hz;have:=h i i1 ¢ hi j j1 hj;show-_<=- _;w
theorem Hi.manyB(L:Hi G rk a b){out:Array Keyed}{na nb t:Nat}(m:HAt rk a b out na nb)(ht:t<=nb)(h:∀ i,t<=i->i<nb->∀ hi:i<b.size,∀ j,j<na->∀ hj:j<a.size,rk a[j]<=rk b[i]):HAt rk a b (out++(b.extract t nb).reverse) na t:=by
 o⟨mi,ha,hb⟩:=m;r⟨?_,ha,by w⟩;rw[RG hb ht,show b.size-t=b.size-nb+(nb-t) by w];r mi.takeA (Fe L.sb) _ fun y hy z hz=>?_;rw[rtake hb ht] at hy;o⟨i,i1,i2,hi,rfl⟩:=CV (List.mem_reverse.mp hy);o⟨j,j1,hj,rfl⟩:=FJ ha hz;have:=h i i1 ¢ hi j j1 hj;show-_<=- _;w
theorem Gn(a:Array Keyed)(n:Nat):(a.extract 0 n).toList=a.toList.take n:=by
 rw[Array.toList_extract];simp[List.extract]
theorem Hi.doneA(L:Hi G rk a b){out:Array Keyed}{na nb:Nat}(m:HAt rk a b out na nb)(z:na=0):Mg rk a.toList b.toList (hiDone a b out na nb).toList:=by
 subst z;o⟨mi,ha,hb⟩:=m;r UG (mi.doneB (Fe L.sb) ¥) ?_;rw[Dj hb,Dj ha];unfold hiDone;rw[Array.toList_append,Array.toList_append,Array.toList_reverse,Gn,Gn,List.reverse_append,List.reverse_append,List.reverse_reverse,List.reverse_reverse,List.append_assoc]
theorem Hi.doneB(L:Hi G rk a b){out:Array Keyed}{na nb:Nat}(m:HAt rk a b out na nb)(z:nb=0):Mg rk a.toList b.toList (hiDone a b out na nb).toList:=by
 subst z;o⟨mi,ha,hb⟩:=m;r UG (mi.doneA (Fe L.sa) ¥) ?_;rw[Dj hb,Dj ha];unfold hiDone;rw[Array.toList_append,Array.toList_append,Array.toList_reverse,Gn,Gn,List.reverse_append,List.reverse_append,List.reverse_reverse,List.reverse_reverse,List.append_assoc]
theorem Hi.first(L:Hi G rk a b){out:Array Keyed}{na nb:Nat}(m:HAt rk a b out na nb)(z:nb=1):Mg rk a.toList b.toList (Gk a b out na nb).toList:=by
 subst z;o⟨mi,ha,hb⟩:=m;r UG (mi.last (Fe L.sa) (by simp; w) fun y hy z hz=>?_) ?_
 ·o⟨j,j1,hj,rfl⟩:=FJ hb hz
  have:j=0:=by w
  subst this;o⟨i,hi,rfl⟩:=List.mem_iff_getElem.mp (List.mem_reverse.mp hy);h hi':i<a.size:=by simpa using hi
  have:=L.hf i hi' hj;show-rk _<=- rk _;simp;w
 ·rw[Dj hb,Dj ha]
  unfold Gk;rw[Array.toList_append,Array.toList_append,Array.toList_reverse,Gn,Gn,List.reverse_append,List.reverse_append,List.reverse_reverse,List.reverse_reverse,List.append_assoc]
def F1(rk:Keyed->Int)(a b:Array Keyed)(st:SortSt)(m:Nat)(r:T1)(st':SortSt):Prop:=Gx st st'/\((∃ x y,r=(some x,y)/\Mg rk a.toList b.toList x.toList)\/∃ out na nb ac bc,r=(none,na,nb,out,ac,bc)/\HAt rk a b out na nb/\1<=na/\2<=nb/\na+nb+m<=a.size+b.size)
def F2(rk:Keyed->Int)(a b:Array Keyed)(st:SortSt)(m:Nat)(r:T2)(st':SortSt):Prop:=Gx st st'/\((∃ x y,r=(some x,y)/\Mg rk a.toList b.toList x.toList)\/∃ out na nb mg ac bc,r=(none,na,nb,out,mg,ac,bc)/\HAt rk a b out na nb/\1<=na/\2<=nb/\na+nb+m<=a.size+b.size)
def Z1(rk:Keyed->Int)(a b:Array Keyed)(st:SortSt)(m:Nat)(r:T1)(st':SortSt):Prop:=Gx st st'/\∃ out na nb ac bc,r=(none,na,nb,out,ac,bc)/\HAt rk a b out na nb/\1<=na/\2<=nb/\na+nb+m<=a.size+b.size
def Z2(rk:Keyed->Int)(a b:Array Keyed)(st:SortSt)(m:Nat)(r:T2)(st':SortSt):Prop:=Gx st st'/\∃ out na nb mg ac bc,r=(none,na,nb,out,mg,ac,bc)/\HAt rk a b out na nb/\1<=na/\2<=nb/\na+nb+m<=a.size+b.size
theorem XJ(C:Cmp prog w A E s κ G rk)(L:Hi G rk a b){mg m na nb ac bc:Nat}{out:Array Keyed}{st0:SortSt}(kd:kindOf st0=κ)(g:Gx st0 st)(at_:HAt rk a b out na nb)(n1:1<=na)(n2:2<=nb)(hm:na+nb+m<=a.size+b.size) :
  wpS ① A E s (hiOne a b mg (none,na,nb,out,ac,bc)) (fun r st'=>match r with | .done c'=>F1 rk a b st0 (m+1) c' st' | .yield c'=>Z1 rk a b st0 (m+1) c' st') st:=by
 o⟨_,ha,hb⟩:=id at_;h la:na-1<a.size:=by w
 h lb:nb-1<b.size:=by w
 unfold hiOne;dsimp only;r wpS_bind (Bj lb (wpS_bind (Bj la (wpS_bind (C _ _ (L.gb.at lb) (L.ga.at la) st _ (g.kind.trans kd) ?_)))));by_cases c:rk b[nb-1]<rk a[na-1]
 ·rw[decide_eq_true c]
  dsimp only;rw[if_pos rfl];r wpS_bind (Bj la ?_);h mi':=L.stepA at_ n1 fun j j1 hj=>Int.le_trans (Em L.sb (show j<=nb-1 by w) lb) (Int.le_of_lt c);by_cases c1:na-1=0
  ·rw[if_pos (by rw[c1]; rfl)]
   !wpS_pure ⟨g,.inl ⟨_,_,rfl,L.doneA mi' c1⟩⟩
  ·rw[if_neg (by intro z; !c1 ⑲)]
   by_cases c2:ac+1 >= mg
   ·rw[if_pos c2]
    !wpS_pure ⟨g,.inr ⟨_,_,_,_,_,rfl,mi',by w,n2,by w⟩⟩
   ·rw[if_neg c2]
    !wpS_pure ⟨g,_,_,_,_,_,rfl,mi',by w,n2,by w⟩
 ·rw[decide_eq_false c]
  dsimp only;rw[if_neg ¤];r wpS_bind (Bj lb ?_);h mi':=L.stepB at_ ¢ fun j j1 hj=>Int.le_trans (Em L.sa (show j<=na-1 by w) la) (Int.not_lt.mp c);by_cases c1:nb-1=1
  ·rw[if_pos (by rw[c1]; rfl)]
   !wpS_pure ⟨g,.inl ⟨_,_,rfl,L.first mi' c1⟩⟩
  ·rw[if_neg (by intro z; !c1 ⑲)]
   by_cases c2:bc+1 >= mg
   ·rw[if_pos c2]
    !wpS_pure ⟨g,.inr ⟨_,_,_,_,_,rfl,mi',n1,by w,by w⟩⟩
   ·rw[if_neg c2]
    !wpS_pure ⟨g,_,_,_,_,_,rfl,mi',n1,by w,by w⟩
theorem Nm(L:Hi G rk a b){mg m na nb ac bc:Nat}{out:Array Keyed}{st0:SortSt}(g:Gx st0 st)(at_:HAt rk a b out na nb)(n1:1<=na)(n2:2<=nb)(h:∀ j,j<nb->∀ hj:j<b.size,rk b[j]<=rk (a[na-1]'(by have:=at_.2.1; w)))(hm:na+nb+m<=a.size+b.size) :
  wpS ① A E s (hiEnd a b mg ac bc out na nb) (fun r st'=>match r with | .done c'=>F2 rk a b st0 m c' st' | .yield c'=>Z2 rk a b st0 m c' st') st:=by
 o⟨_,ha,hb⟩:=id at_;h la:na-1<a.size:=by w
 unfold hiEnd;r wpS_bind (Bj la ?_);h mi':=L.stepA at_ n1 h;by_cases c1:na-1=0
 ·rw[if_pos (by rw[c1]; rfl)]
  !wpS_pure ⟨g,.inl ⟨_,_,rfl,L.doneA mi' c1⟩⟩
 ·rw[if_neg (by intro z; !c1 ⑲)]
  by_cases c2:(decide (ac<7)&&decide (bc<7))=true
  ·rw[if_pos c2]
   !wpS_pure ⟨g,.inr ⟨_,_,_,_,_,_,rfl,mi',by w,n2,by w⟩⟩
  ·rw[if_neg c2]
   !wpS_pure ⟨g,_,_,_,_,_,_,rfl,mi',by w,n2,by w⟩
theorem Ni(C:Cmp prog w A E s κ G rk)(L:Hi G rk a b){mg m k bc na nb:Nat}{out:Array Keyed}{st0:SortSt}(kd:kindOf st0=κ)(g:Gx st0 st)(at_:HAt rk a b out na nb)(n1:1<=na)(n2:2<=nb)(h:∀ j,j<na->∀ hj:j<a.size,rk a[j]<=rk (b[nb-1]'(by have:=at_.2.2; w)))(hm:na+nb+m<=a.size+b.size) :
  wpS ① A E s (hiMid a b mg k bc out na nb) (fun r st'=>match r with | .done c'=>F2 rk a b st0 m c' st' | .yield c'=>Z2 rk a b st0 m c' st') st:=by
 o⟨_,ha,hb⟩:=id at_;h la:na-1<a.size:=by w
 h lb:nb-1<b.size:=by w
 unfold hiMid;r wpS_bind (Bj lb ?_);h mi':=L.stepB at_ ¢ h;by_cases c1:nb-1=1
 ·rw[if_pos (by rw[c1]; rfl)]
  !wpS_pure ⟨g,.inl ⟨_,_,rfl,L.first mi' c1⟩⟩
 ·rw[if_neg (by intro z; !c1 ⑲)]
  r wpS_bind (Bj la ?_);r wpS_bind (DW C (L.ga.at la) L.gb (g.kind.trans kd) ¢ ¢ (Ew (PN L.sb ¢)) fun t kn kt kf=>?_);dsimp only;h t1:∀ i,i<t->∀ hi:i<b.size,rk b[i]<rk a[na-1]:=fun i i1 hi=>by
   h z:=kt i i1;rw[Ez ¢] at z;simp only[Nat.zero_add] at z;!of_decide_eq_true z
  h t2:∀ j,t<=j->j<nb-1->∀ hj:j<b.size,rk a[na-1]<=rk b[j]:=fun i i1 i2 hi=>by
   h z:=kf i i1 i2;rw[Ez ¢] at z;simp only[Nat.zero_add] at z;!Int.not_lt.mp (of_decide_eq_false z)
  by_cases c2:nb-1-t>0
  ·rw[if_pos c2]
   h mi2:=L.manyB (t:=t) mi' ¢ fun i i1 i2 hi j j1 hj=>Int.le_trans (Em L.sa (show j<=na-1 by w) la) (t2 i i1 i2 hi);by_cases c3:t=1
   ·rw[if_pos (by rw[c3]; rfl)]
    !wpS_pure ⟨g,.inl ⟨_,_,rfl,L.first mi2 c3⟩⟩
   ·rw[if_neg (by intro z; !c3 ⑲)]
    by_cases c4:t=0
    ·rw[if_pos (by rw[c4]; rfl)]
     !wpS_pure ⟨g,.inl ⟨_,_,rfl,L.doneB mi2 c4⟩⟩
    ·rw[if_neg (by intro z; !c4 ⑲)]
     !Nm L g mi2 n1 ¢ (fun j j1 hj=>Int.le_of_lt (t1 j j1 hj)) ¢
  ·rw[if_neg c2]
   !Nm L g mi' n1 ¢ (fun j j1 hj=>Int.le_of_lt (t1 j ¢ hj)) ¢
theorem Ob(C:Cmp prog w A E s κ G rk)(L:Hi G rk a b){mg m ac bc na nb:Nat}{out:Array Keyed}{st0:SortSt}(kd:kindOf st0=κ)(g:Gx st0 st)(at_:HAt rk a b out na nb)(n1:1<=na)(n2:2<=nb)(hm:na+nb+m<=a.size+b.size) :
  wpS ① A E s (hiGal a b mg ac bc out na nb) (fun r st'=>match r with | .done c'=>F2 rk a b st0 m c' st' | .yield c'=>Z2 rk a b st0 m c' st') st:=by
 o⟨_,ha,hb⟩:=id at_;h lb:nb-1<b.size:=by w
 unfold hiGal;r wpS_bind (setMin ?_);h g':=PB g mg;generalize SortSt.mk' (kindOf st) ⑥ (pendingOf st) mg (failedOf st)=st1 at g';r wpS_bind (Bj lb ?_);r wpS_bind (DW C (L.gb.at lb) L.ga (g'.kind.trans kd) ¢ ¢ (Ew (PN L.sa ¢)) fun t kn kt kf=>?_);dsimp only;h t1:∀ i,i<t->∀ hi:i<a.size,rk a[i]<=rk b[nb-1]:=fun i i1 hi=>by
  h z:=kt i i1;rw[Dz ¢] at z;simp only[Nat.zero_add] at z;r Int.not_lt.mp fun y=>?_;rw[decide_eq_true y] at z;cases z
 h t2:∀ j,t<=j->j<na->∀ hj:j<a.size,rk b[nb-1]<=rk a[j]:=fun i i1 i2 hi=>by
  h z:=kf i i1 i2;rw[Dz ¢] at z;simp only[Nat.zero_add] at z;h z':decide (rk b[nb-1]<rk a[i])=true:=by
   cases q:decide (rk b[nb-1]<rk a[i]) with
   | true=>rfl
   | false=>rw[q] at z; cases z
  !Int.le_of_lt (of_decide_eq_true z')
 by_cases c2:na-t>0
 ·rw[if_pos c2]
  h mi2:=L.manyA (t:=t) at_ kn fun i i1 i2 hi j j1 hj=>Int.le_trans (Em L.sb (show j<=nb-1 by w) lb) (t2 i i1 i2 hi);by_cases c3:t=0
  ·rw[if_pos (by rw[c3]; rfl)]
   !wpS_pure ⟨g',.inl ⟨_,_,rfl,L.doneA mi2 c3⟩⟩
  ·rw[if_neg (by intro z; !c3 ⑲)]
   !Ni C L kd g' mi2 ¢ n2 (fun j j1 hj=>t1 j j1 hj) ¢
 ·rw[if_neg c2]
  !Ni C L kd g' at_ n1 n2 (fun j j1 hj=>t1 j ¢ hj) hm
theorem Sg(C:Cmp prog w A E s κ G rk)(L:Hi G rk a b)(kd:kindOf st=κ)(a1:1<=a.size)(b1:1<=b.size)(hl:∀ j,∀ hj:j<b.size,rk b[j]<=rk (a[a.size-1]'¢)){Q:Array Keyed->SortSt->Prop}(h:∀ r st',Gx st st'->Mg rk a.toList b.toList r.toList->Q r st'):wpS ① A E s (Ia a b) Q st:=by
 rw[Rb];r wpS_bind (wpS_lift (wpAny_rule ⟨rfl,?_⟩));r wpS_bind (Bj ¢ ?_);h mi0:HAt rk a b #[] a.size b.size:=⟨by
  rw[Nat.sub_self,Nat.sub_self];!⟨List.perm_append_comm.trans List.perm_append_comm,List.Pairwise.nil,fun x hx=>(by cases hx),fun x hx=>(by cases hx)⟩,Nat.le_refl _,Nat.le_refl _⟩
 h mi:HAt rk a b #[a[a.size-1]] (a.size-1) b.size:=L.stepA mi0 a1 fun j _ hj=>hl j hj;by_cases c1:a.size-1=0
 ·rw[if_pos (by rw[c1]; rfl)]
  !wpS_pure (h _ _ (Gx.refl _) (L.doneA mi c1))
 rw[if_neg (by intro z; !c1 ⑲)];by_cases c2:b.size=1
 ·rw[if_pos (by rw[c2]; rfl)]
  !wpS_pure (h _ _ (Gx.refl _) (L.first mi c2))
 rw[if_neg (by intro z; !c2 ⑲)];r wpS_bind (wpS_get ?_);r wpS_bind (wpS_mono (wpS_forRange (I:=fun x c st'=>Gx st st'/\∃ out na nb mg,c=(none,na,nb,out,mg)/\HAt rk a b out na nb/\1<=na/\2<=nb/\na+nb+(x+1)<=a.size+b.size)
  (Q:=fun c st'=>Gx st st'/\∃ x y,c=(some x,y)/\Mg rk a.toList b.toList x.toList) ?_ ?_ ⟨Gx.refl _,_,_,_,_,rfl,mi,by w,by w,by w⟩) ?_)
 ·rintro x c st' _ xn ⟨g,out,na,nb,mg,rfl,at_,n1,n2,xm⟩
  dsimp only;r wpS_bind (wpS_mono (wpS_forRange (I:=fun y c st'=>Z1 rk a b st (x+1+y) c st') (Q:=F1 rk a b st (x+2)) ?_ ?_ ⟨g,_,_,_,_,_,rfl,at_,n1,n2,by w⟩) ?_)
  ·rintro y c st2 _ yn ⟨g2,out2,na2,nb2,ac,bc,rfl,at2,m1,m2,hm⟩
   r wpS_mono (XJ C L kd g2 at2 m1 m2 hm) fun r st3 hr=>?_;cases r with
   | done c' =>
    o⟨g3,q⟩:=hr;r⟨g3,q.imp id fun⟨o,i,j,k,l,e,a',b',c',d'⟩=>⟨o,i,j,k,l,e,a',b',c',by w⟩⟩
   | yield c'=>!hr
  ·rintro c st2 ⟨g2,out2,na2,nb2,ac,bc,rfl,at2,m1,m2,hm⟩
   !⟨g2,.inr ⟨_,_,_,_,_,rfl,at2,m1,m2,by w⟩⟩
  ·rintro c st2 ⟨g2,⟨r,y,rfl,m⟩ | ⟨out2,na2,nb2,ac,bc,rfl,at2,m1,m2,hm⟩⟩
   ·!wpS_pure ⟨g2,_,_,rfl,m⟩
   ·dsimp only
    r wpS_bind (wpS_lift (wpAny_rule ⟨rfl,?_⟩));r wpS_bind (wpS_mono (wpS_forRange (I:=fun y c st'=>Z2 rk a b st (x+2) c st') (Q:=F2 rk a b st (x+2)) ?_ ?_ ⟨g2,_,_,_,_,_,_,rfl,at2,m1,m2,hm⟩) ?_)
    ·rintro y c st3 _ yn ⟨g3,out3,na3,nb3,mg3,ac3,bc3,rfl,at3,k1,k2,hm3⟩
     dsimp only;split
     ·!wpS_mono (Ob C L kd g3 at3 k1 k2 hm3) fun r st4 hr=>by cases r<;>!hr
     ·!wpS_mono (Ob C L kd g3 at3 k1 k2 hm3) fun r st4 hr=>by cases r<;>!hr
    ·rintro c st3 ⟨g3,out3,na3,nb3,mg3,ac3,bc3,rfl,at3,k1,k2,hm3⟩
     !⟨g3,.inr ⟨_,_,_,_,_,_,rfl,at3,k1,k2,hm3⟩⟩
    ·rintro c st3 ⟨g3,⟨r,y,rfl,m⟩ | ⟨out3,na3,nb3,mg3,ac3,bc3,rfl,at3,k1,k2,hm3⟩⟩
     ·!wpS_pure ⟨g3,_,_,rfl,m⟩
     ·r wpS_bind (setMin (wpS_pure ⟨PB g3 _,_,_,_,_,rfl,at3,k1,k2,by w⟩))
 ·rintro c st' ⟨g,out,na,nb,mg,rfl,at_,n1,n2,xm⟩
  w
 ·rintro c st' ⟨g,x,y,rfl,m⟩
  !wpS_pure (h _ _ g m)
end
variable{rk:Keyed->Int}{prog:Program}{w:World}{A:Around}{E:Value->Shared->Prop}{s:Shared}{G:Keyed->Prop}{κ:SortKind}{a₀:Array Keyed}
def lay(arr:Array Keyed)(sa:Nat)(r:Array Keyed):Array Keyed:=r.toList.zipIdx.foldl (fun a (p,j)=>a.setIfInBounds (sa+j) p) arr
theorem RM(sa:Nat):∀(l:List Keyed) (k:Nat) (arr:Array Keyed),sa+k+l.length<=arr.size->∀ q:Nat,
  ((l.zipIdx k).foldl (fun a (x:Keyed×Nat)=>a.setIfInBounds (sa+x.2) x.1) arr).size=arr.size/\((l.zipIdx k).foldl (fun a (x:Keyed×Nat)=>a.setIfInBounds (sa+x.2) x.1) arr)[q]?=if sa+k<=q/\q<sa+k+l.length then l[q-(sa+k)]? else arr[q]?
 | [],k,arr,h,q=>by
  r⟨rfl,?_⟩;rw[if_neg ¥];rfl
 | x::l,k,arr,h,q=>by
  rw[List.length_cons] at h;rw[List.zipIdx_cons,List.foldl_cons];h ih:=RM sa l (k+1) (arr.setIfInBounds (sa+k) x) (by rw[Array.size_setIfInBounds]; w) q;r⟨ih.1.trans Array.size_setIfInBounds,ih.2.trans ?_⟩;rw[List.length_cons];by_cases c:sa+k<=q/\q<sa+k+(l.length+1)
  ·rw[if_pos c]
   by_cases d:q=sa+k
   ·subst d
    rw[if_neg ¢,Array.getElem?_setIfInBounds_self_of_lt ¢];simp
   ·rw[if_pos ¢,show q-(sa+k)=(q-(sa+(k+1)))+1 by w,List.getElem?_cons_succ]
  ·rw[if_neg c,if_neg ¢,Array.getElem?_setIfInBounds_ne ¢]
theorem Oz{arr r:Array Keyed}{sa:Nat}(h:sa+r.size<=arr.size)(q:Nat):(lay arr sa r)[q]?=if sa<=q/\q<sa+r.size then r[q-sa]? else arr[q]?:=by
 have:=(RM sa r.toList 0 arr (by simpa using h) q).2;unfold lay;simpa using this
theorem ZG{arr r:Array Keyed}{lo mid hi:Nat}(lm:lo<=mid)(mh:mid<=hi)(ha:hi<=arr.size)(p:r.toList.Perm ((arr.extract lo mid).toList++(arr.extract mid hi).toList)):(lay arr lo r).Perm arr:=by
 h rl:r.size=hi-lo:=by
  have:=p.length_eq;simp at this;w
 h e:(lay arr lo r).toList=arr.toList.take lo++(r.toList++arr.toList.drop hi):=by
  apply List.ext_getElem?;intro q;rw[Array.getElem?_toList,Oz ¢];by_cases c:q<lo
  ·rw[if_neg ¢,List.getElem?_append_left (by simp; w),List.getElem?_take_of_lt c,Array.getElem?_toList]
  ·rw[List.getElem?_append_right (by simp; w)]
   h e1:(arr.toList.take lo).length=lo:=by simp; w
   rw[e1];by_cases d:q<hi
   ·rw[if_pos ¢,List.getElem?_append_left (by simp; w),Array.getElem?_toList]
   ·rw[if_neg ¢,List.getElem?_append_right (by simp; w),List.getElem?_drop,Array.length_toList,rl,Array.getElem?_toList]
    congr 1
    w
 h e2:arr.toList=arr.toList.take lo++(((arr.extract lo mid).toList++(arr.extract mid hi).toList)++arr.toList.drop hi):=by
  h x1:(arr.extract lo mid).toList=(arr.toList.drop lo).take (mid-lo):=by rw[Array.toList_extract]
  h x2:(arr.extract mid hi).toList=(arr.toList.drop mid).take (hi-mid):=by rw[Array.toList_extract]
  rw[x1,x2,List.append_assoc];h y2:(arr.toList.drop mid).take (hi-mid)++arr.toList.drop hi=arr.toList.drop mid:=by
   rw[show arr.toList.drop hi=(arr.toList.drop mid).drop (hi-mid) by rw[List.drop_drop]; congr 1; w];!List.take_append_drop ..
  rw[y2];h y1:(arr.toList.drop lo).take (mid-lo)++arr.toList.drop mid=arr.toList.drop lo:=by
   rw[show arr.toList.drop mid=(arr.toList.drop lo).drop (mid-lo) by rw[List.drop_drop]; congr 1; w];!List.take_append_drop ..
  rw[y1];!(List.take_append_drop ..).symm
 r Array.perm_iff_toList_perm.mpr ?_;rw[e,e2];h e3:(List.take lo arr.toList++(((arr.extract lo mid).toList++(arr.extract mid hi).toList)++arr.toList.drop hi)).take lo=List.take lo arr.toList:=by rw[<- e2]
 h e4:(List.take lo arr.toList++(((arr.extract lo mid).toList++(arr.extract mid hi).toList)++arr.toList.drop hi)).drop hi=arr.toList.drop hi:=by rw[<- e2]
 first
  | !List.Perm.append_left _ (List.Perm.append_right _ p)
  | (rw[e3,e4]; !List.Perm.append_left _ (List.Perm.append_right _ p))
theorem Fj{arr:Array Keyed}(h:Al G arr)(i j:Nat):Al G (arr.extract i j):=fun k x e=>by
 rw[Array.getElem?_extract] at e;split at e
 ·!h _ x e
 ·cases e
theorem srt_extract{arr:Array Keyed}{i j:Nat}(h:Up rk arr i j)(hj:j<=arr.size):Srt rk (arr.extract i j).toList:=by
 unfold Srt;rw[List.pairwise_iff_getElem];intro p q hp hq pq;simp at hp hq;have:=h (i+p) (i+q) ¢ ¢ ¢;rw[Fb ¢,Fb ¢] at this;simpa using this
theorem Za{arr:Array Keyed}{i j k:Nat}(h:k<(arr.extract i j).size):(arr.extract i j)[k]=arr[i+k]'(by simp at h; w):=by simp
def Ch(rk:Keyed->Int)(arr:Array Keyed):List (Nat×Nat×Nat)->Nat->Nat->Prop
 | [],lo,hi=>lo=hi
 | (s,n,_)::rest,lo,hi=>s=lo/\1<=n/\Up rk arr lo (lo+n)/\Ch rk arr rest (lo+n) hi
theorem Ch.le{arr:Array Keyed}:∀{l:List (Nat×Nat×Nat)}{lo hi:Nat},Ch rk arr l lo hi->lo+l.length<=hi
 | [],lo,hi,h=>by have h':lo=hi:=h; simp; w
 | (s,n,_)::rest,lo,hi,⟨_,h1,_,h⟩=>by have:=Ch.le h; simp; w
theorem Up.congr{arr arr':Array Keyed}{lo hi:Nat}(h:Up rk arr lo hi)(e:∀ i,lo<=i->i<hi->arr'[i]?=arr[i]?):Up rk arr' lo hi:=fun i j li ij jh=>by
 rw[Eh (e i li ¢),Eh (e j ¢ jh)];!h i j li ij jh
theorem Ch.congr{arr arr':Array Keyed}:∀{l:List (Nat×Nat×Nat)}{lo hi:Nat},Ch rk arr l lo hi->(∀ i,lo<=i->i<hi->arr'[i]?=arr[i]?)->Ch rk arr' l lo hi
 | [],lo,hi,h,_=>h
 | (s,n,_)::rest,lo,hi,⟨e1,h1,u,h⟩,e=>by
  h le:=Ch.le h;!⟨e1,h1,u.congr fun i li il=>e i li ¢,Ch.congr h fun i li il=>e i ¢ il⟩
theorem Ch.cut{arr:Array Keyed}:∀{l m:List (Nat×Nat×Nat)}{lo hi:Nat},Ch rk arr (l++m) lo hi↔∃ mid,Ch rk arr l lo mid/\Ch rk arr m mid hi
 | [],m,lo,hi=>⟨fun h=>⟨lo,rfl,h⟩,fun⟨mid,e,h⟩=>by have e':lo=mid:=e; rw[e']; !h⟩
 | (s,n,x)::l,m,lo,hi=>⟨fun⟨e1,h1,u,h⟩=>by
   o⟨mid,a,b⟩:=Ch.cut.mp h;!⟨mid,⟨e1,h1,u,a⟩,b⟩,fun⟨mid,⟨e1,h1,u,a⟩,b⟩=>⟨e1,h1,u,Ch.cut.mpr ⟨mid,a,b⟩⟩⟩
variable{rk:Keyed->Int}{prog:Program}{w:World}{A:Around}{E:Value->Shared->Prop}{s:Shared}{G:Keyed->Prop}{κ:SortKind}{a₀:Array Keyed}
def Gb:Nat->StateT SortSt Sem Bool:=sortPriv% PySem.Builtin.mergeAt
abbrev Du(st:SortSt)(p:Array (Nat×Nat×Nat)):SortSt:=SortSt.mk' (kindOf st) ⑥ p (gallopOf st) (failedOf st)
theorem Qs(i:Nat):Gb i=(do
 let s <- get
 let (some (sa,na,power),some (sb,nb,_)):=((pendingOf s)[i]?,(pendingOf s)[i+1]?) | unsupported "internal:list.sort.pending"
 set (Du s (((pendingOf s).setIfInBounds i (sa,na+nb,power)).eraseIdxIfInBounds (i+1)))
 let some k <- Cu false (<- elem' (arrOf s) sb) (arrOf s) sa na 0 | return false
 let (sa,na):=(sa+k,na-k)
 if na==0 then return true
 let some nb <- Cu true (<- elem' (arrOf s) (sa+na-1)) (arrOf s) sb nb (nb-1) | return false
 if nb==0 then return true
 let x:=(arrOf s).extract sa sb
 let y:=(arrOf s).extract sb (sb+nb)
 let merged <- if na<=nb then IW x y else Ia x y
 modify fun s=>setArr s (lay (arrOf s) sa merged)
 return (failedOf (<- get)).isNone):=rfl
theorem ACZ{σ:Type}{M:Model}{x:σ}{Q:PUnit->σ->Prop}{st:σ}(h:Q ⟨⟩ x):wpS M A E s (set x:StateT σ Sem PUnit) Q st:=by
 unfold wpS;rw[StateT.run_set];!wpAny_pure ⟨rfl,h⟩
theorem Sd(C:Cmp prog w A E s κ G rk){st:SortSt}(B:Ba G rk κ a₀ st){i sa na pa sb nb pb:Nat}(hp1:(pendingOf st)[i]?=some (sa,na,pa))(hp2:(pendingOf st)[i+1]?=some (sb,nb,pb))(esb:sb=sa+na)(n1:1<=na)(n2:1<=nb)(hz:sb+nb<=a₀.size)(ua:Up rk ⑥ sa (sa+na))(ub:Up rk ⑥ sb (sb+nb)){Q:Bool->SortSt->Prop}
  (h:∀ st',Ba G rk κ a₀ st'->pendingOf st'=((pendingOf st).setIfInBounds i (sa,na+nb,pa)).eraseIdxIfInBounds (i+1)->(∀ q,q<sa\/sb+nb<=q->(arrOf st')[q]?=⑥[q]?)->Up rk (arrOf st') sa (sb+nb)->Q true st'):wpS ① A E s (Gb i) Q st:=by
 h sz:=B.size;h al:=B.all.perm B.perm;rw[Qs];r wpS_bind (wpS_get ?_);rw[hp1,hp2];dsimp only;r wpS_bind (ACZ ?_);h B1:Ba G rk κ a₀ (Du st (((pendingOf st).setIfInBounds i (sa,na+nb,pa)).eraseIdxIfInBounds (i+1))):=⟨B.perm,B.kind,B.failed,B.all,B.di⟩;h hb:sb<⑥.size:=by w
 r wpS_bind (Bj hb ?_);r wpS_bind (DW C (al.at hb) al B1.kind ¢ ¢ (Ew ua) fun k kn kt kf=>?_);dsimp only;h t1:∀ q,sa<=q->q<sa+k->N rk ⑥ q<=N rk ⑥ sb:=fun q q1 q2=>by
  h z:=kt (q-sa) ¢;rw[Dz ¢] at z;h e:sa+(q-sa)=q:=by w
  simp only[e] at z;rw[Fb (show q<⑥.size by w),Fb hb];r Int.not_lt.mp fun y=>?_;rw[decide_eq_true y] at z;cases z
 h t2:∀ q,sa+k<=q->q<sa+na->N rk ⑥ sb<N rk ⑥ q:=fun q q1 q2=>by
  h z:=kf (q-sa) ¢ ¢;rw[Dz ¢] at z;h e:sa+(q-sa)=q:=by w
  simp only[e] at z;rw[Fb (show q<⑥.size by w),Fb hb];cases c:decide (rk ⑥[sb]<rk (⑥[q]'¢)) with
  | true=>!of_decide_eq_true c
  | false=>rw[c] at z; cases z
 by_cases c1:na-k=0
 ·rw[if_pos (by rw[c1]; rfl)]
  r wpS_pure (h _ B1 rfl (fun _ _=>rfl) fun p q sp pq qh=>?_);by_cases d:q<sa+na
  ·!ua p q sp pq d
  ·by_cases d':p<sa+na
   ·!Int.le_trans (t1 p sp ¢) (ub sb q ③ ¢ qh)
   ·!ub p q ¢ pq qh
 rw[if_neg (by intro z; !c1 ⑲)];h hl:sa+k+(na-k)-1<⑥.size:=by w
 r wpS_bind (Bj hl ?_);r wpS_bind (DW C (al.at hl) al B1.kind ¢ ¢ (Ew ub) fun m mn mt mf=>?_);dsimp only;h el:sa+k+(na-k)-1=sb-1:=by w
 h u1:∀ q,sb<=q->q<sb+m->N rk ⑥ q<N rk ⑥ (sb-1):=fun q q1 q2=>by
  h z:=mt (q-sb) ¢;rw[Ez ¢] at z;h e:sb+(q-sb)=q:=by w
  simp only[e,el] at z;rw[Fb (show q<⑥.size by w),Fb (show sb-1<⑥.size by w)];!of_decide_eq_true z
 h u2:∀ q,sb+m<=q->q<sb+nb->N rk ⑥ (sb-1)<=N rk ⑥ q:=fun q q1 q2=>by
  h z:=mf (q-sb) ¢ ¢;rw[Ez ¢] at z;h e:sb+(q-sb)=q:=by w
  simp only[e,el] at z;rw[Fb (show q<⑥.size by w),Fb (show sb-1<⑥.size by w)];!Int.not_lt.mp (of_decide_eq_false z)
 by_cases c2:m=0
 ·rw[if_pos (by rw[c2]; rfl)]
  r wpS_pure (h _ B1 rfl (fun _ _=>rfl) fun p q sp pq qh=>?_);by_cases d:q<sa+na
  ·!ua p q sp pq d
  ·by_cases d':p<sa+na
   ·!Int.le_trans (ua p (sb-1) sp ¢ ¢) (u2 q ¢ qh)
   ·!ub p q ¢ pq qh
 rw[if_neg (by intro z; !c2 ⑲)];h exs:(⑥.extract (sa+k) sb).size=sb-(sa+k):=by simp; w
 h eys:(⑥.extract sb (sb+m)).size=m:=by simp; w
 h sx:Srt rk (⑥.extract (sa+k) sb).toList:=srt_extract (fun p q a b c=>ua p q ¢ b ¢) ¢;h sy:Srt rk (⑥.extract sb (sb+m)).toList:=srt_extract (fun p q a b c=>ub p q a b ¢) ¢;h atx:∀ j,∀ hj:j<(⑥.extract (sa+k) sb).size,rk (⑥.extract (sa+k) sb)[j]=N rk ⑥ (sa+k+j):=fun j hj=>by
  rw[Za hj,Fb ¢]
 h aty:∀ j,∀ hj:j<(⑥.extract sb (sb+m)).size,rk (⑥.extract sb (sb+m))[j]=N rk ⑥ (sb+j):=fun j hj=>by
  rw[Za hj,Fb ¢]
 h first:∀ j,∀ hj:j<(⑥.extract (sa+k) sb).size,∀ h0:0<(⑥.extract sb (sb+m)).size,rk ((⑥.extract sb (sb+m))[0]'h0)<=rk (⑥.extract (sa+k) sb)[j]:=fun j hj h0=>by
  rw[atx j hj,aty 0 h0,Nat.add_zero];!Int.le_of_lt (t2 _ ¢ ¢)
 h lastx:∀ j,∀ hj:j<(⑥.extract sb (sb+m)).size,rk (⑥.extract sb (sb+m))[j]<=N rk ⑥ (sb-1):=fun j hj=>by
  rw[aty j hj];!Int.le_of_lt (u1 _ ¢ ¢)
 h fin:∀(r:Array Keyed) (st2:SortSt),Gx (Du st (((pendingOf st).setIfInBounds i (sa,na+nb,pa)).eraseIdxIfInBounds (i+1))) st2->Mg rk (⑥.extract (sa+k) sb).toList (⑥.extract sb (sb+m)).toList r.toList ->
   wpS ① A E s (do modify fun s=>setArr s (lay (arrOf s) (sa+k) r); let g <- get; pure (failedOf g).isNone) Q st2:=fun r st2 g ⟨pm,sr⟩=>by
  h rs:r.size=sb+m-(sa+k):=by
   have:=pm.length_eq;simp at this;w
  h ea:arrOf st2=arrOf st:=g.arr;h hs:sa+k+r.size<=⑥.size:=by w
  r wpS_bind (wpS_modify ?_);r wpS_bind (wpS_get ?_);h ef:failedOf (setArr st2 (lay (arrOf st2) (sa+k) r))=none:=g.failed.trans B.failed;rw[ef];h lp:=ZG (arr:=arrOf st) (r:=r) (lo:=sa+k) (mid:=sb) (hi:=sb+m) ¢ ¢ ¢ pm;h mem:∀ j,∀ hj:j<r.size,∃ q,sa+k<=q/\q<sb+m/\rk r[j]=N rk ⑥ q:=fun j hj=>by
   have:r[j]∈r.toList:=Array.getElem_mem_toList hj;rcases List.mem_append.mp (pm.mem_iff.mp this) with z | z
   ·o⟨q,hq,e⟩:=List.mem_iff_getElem.mp z
    h hq':q<(⑥.extract (sa+k) sb).size:=by rw[<- Array.length_toList]; !hq
    !⟨sa+k+q,by w,by w,by rw[<- e,<- atx q hq']; simp⟩
   ·o⟨q,hq,e⟩:=List.mem_iff_getElem.mp z
    h hq':q<(⑥.extract sb (sb+m)).size:=by rw[<- Array.length_toList]; !hq
    !⟨sb+q,by w,by w,by rw[<- e,<- aty q hq']; simp⟩
  h laid:∀ q,N rk (lay ⑥ (sa+k) r) q=if c:sa+k<=q/\q<sa+k+r.size then rk (r[q-(sa+k)]'¢) else N rk ⑥ q:=fun q=>by
   h e:=Oz (arr:=arrOf st) (r:=r) (sa:=sa+k) hs q;by_cases c:sa+k<=q/\q<sa+k+r.size
   ·rw[dif_pos c]
    rw[if_pos c] at e;unfold N;rw[e,Array.getElem?_eq_getElem ¢]
   ·rw[dif_neg c]
    rw[if_neg c] at e;!Eh e
  r wpS_pure (h _ ⟨?_,g.kind.trans B.kind,ef,B.all,B.di⟩ g.pend (fun q hq=>?_) ?_)
  ·show (lay (arrOf st2) (sa+k) r).Perm a₀
   rw[ea];!lp.trans B.perm
  ·show (lay (arrOf st2) (sa+k) r)[q]?=_
   rw[ea,Oz hs,if_neg ¢]
  ·show Up rk (lay (arrOf st2) (sa+k) r) sa (sb+nb)
   rw[ea];intro p q sp pq qh;rw[laid p,laid q];by_cases cp:sa+k<=p/\p<sa+k+r.size
   ·rw[dif_pos cp]
    by_cases cq:sa+k<=q/\q<sa+k+r.size
    ·rw[dif_pos cq]
     !Em sr ¢ ¢
    ·rw[dif_neg cq]
     o⟨v,v1,v2,ev⟩:=mem (p-(sa+k)) ¢;rw[ev];by_cases d:v<sb
     ·!Int.le_trans (ua v (sb-1) ¢ ¢ ¢) (u2 q ¢ qh)
     ·!ub v q ¢ ¢ qh
   ·rw[dif_neg cp]
    by_cases cq:sa+k<=q/\q<sa+k+r.size
    ·rw[dif_pos cq]
     o⟨v,v1,v2,ev⟩:=mem (q-(sa+k)) ¢;rw[ev];by_cases d:v<sb
     ·!ua p v sp ¢ ¢
     ·!Int.le_trans (t1 p sp ¢) (ub sb v ③ ¢ ¢)
    ·rw[dif_neg cq]
     by_cases d:q<sa+k
     ·!ua p q sp pq ¢
     ·by_cases d2:p<sa+k
      ·!Int.le_trans (t1 p sp d2) (ub sb q ③ ¢ qh)
      ·!ub p q ¢ pq qh
 by_cases c3:na-k<=m
 ·rw[if_pos c3]
  r wpS_bind (Rh C ⟨Fj al _ _,Fj al _ _,sx,sy,fun y hy z hz=>?_⟩ B1.kind ¢ ¢ (fun j hj=>first j hj ¢) fun r st2 g mg=>fin r st2 g mg);o⟨j,j1,hj,rfl⟩:=Dh hz;o⟨q,hq,e⟩:=List.mem_iff_getElem.mp hy;h hq':q<(⑥.extract sb (sb+m)).size:=by rw[<- Array.length_toList]; !hq
  h e':y=(⑥.extract sb (sb+m))[q]:=by rw[<- e]; simp
  rw[e',atx j hj,show sa+k+j=sb-1 by w];!lastx q hq'
 ·rw[if_neg c3]
  r wpS_bind (Sg C ⟨Fj al _ _,Fj al _ _,sx,sy,fun j hj h0=>first j hj h0⟩ B1.kind ¢ ¢ (fun j hj=>?_) fun r st2 g mg=>fin r st2 g mg);rw[atx _ ¢,show sa+k+((⑥.extract (sa+k) sb).size-1)=sb-1 by w];!lastx j hj
variable{rk:Keyed->Int}{prog:Program}{w:World}{A:Around}{E:Value->Shared->Prop}{s:Shared}{G:Keyed->Prop}{κ:SortKind}{a₀:Array Keyed}
def Ox:Nat->Nat->Nat->Nat:=sortPriv% PySem.Builtin.minRun
def powerT:Nat->Nat->Nat->Nat->Nat:=sortPriv% PySem.Builtin.power
def Mw:StateT SortSt Sem Unit:=sortPriv% PySem.Builtin.sortRuns
theorem QZ:Mw=(do
 let size:=(arrOf (<- get)).size
 let minrun:=Ox size size 0
 let mut lo:=0
 for _ in [0:size] do
  if lo >= size then break
  let some found <- JG lo (size-lo) | return
  let mut n:=found
  if n<minrun then
   rule "list.sort.binary-insertion"
   let force:=min (size-lo) minrun
   if !(<- KJ lo force n) then return
   n:=force
  if let some (s1,n1,_):=(pendingOf (<- get)).back? then
   let pw:=powerT size (2*s1+n1) (2*s1+n1+n1+n) size
   for _ in [0:size] do
    let p:=pendingOf (<- get)
    let some (_,_,older):=(if p.size>1 then p[p.size-2]? else none) | break
    if older<=pw then break
    if !(<- Gb (p.size-2)) then return
   modify fun s=>Du s ((pendingOf s).modify ((pendingOf s).size-1) fun(st,len,_)=>(st,len,pw))
  modify fun s=>Du s ((pendingOf s).push (lo,n,0))
  lo:=lo+n
 for _ in [0:size] do
  let p:=pendingOf (<- get)
  if p.size<=1 then break
  let i:=p.size-2
  let before:=if i>0 then p[i-1]?.map (·.2.1) else none
  let i:=if before.any (· < (p[i+1]?.elim 0 (·.2.1))) then i-1 else i
  if !(<- Gb i) then return):=rfl
structure Rn(G:Keyed->Prop)(rk:Keyed->Int)(κ:SortKind)(a₀:Array Keyed)(lo:Nat)(st:SortSt):Prop where
 ba:Ba G rk κ a₀ st
 ch:Ch rk ⑥ (pendingOf st).toList 0 lo
theorem Lr{α:Type}:∀{l:List α}{i:Nat}{x y:α},l[i]?=some x->l[i+1]?=some y->l=l.take i++x::y::l.drop (i+2)
 | a::b::l,0,x,y,h1,h2=>by
  simp at h1 h2;subst h1 h2;rfl
 | a::l,i+1,x,y,h1,h2=>by
  have:=Lr (l:=l) (i:=i) (x:=x) (y:=y) (by simpa using h1) (by simpa using h2);rw[List.take_succ_cons,List.cons_append]
  congr 1
theorem XD{p:Array (Nat×Nat×Nat)}{i:Nat}{x y v:Nat×Nat×Nat}(h1:p[i]?=some x)(h2:p[i+1]?=some y):((p.setIfInBounds i v).eraseIdxIfInBounds (i+1)).toList=p.toList.take i++v::p.toList.drop (i+2):=by
 h hi:i+1<p.size:=(Array.getElem?_eq_some_iff.mp h2).1;h e:=Lr (l:=p.toList) (i:=i) (x:=x) (y:=y) (by rw[Array.getElem?_toList]; !h1) (by rw[Array.getElem?_toList]; !h2);h tl:(p.toList.take i).length=i:=by simp; w
 h es:(p.setIfInBounds i v).toList=p.toList.take i++v::y::p.toList.drop (i+2):=by
  rw[Array.toList_setIfInBounds]
  conv=>lhs; rw[e]
  rw[List.set_append_right _ _ ¢,tl,Nat.sub_self];rfl
 h hz:i+1<(p.setIfInBounds i v).size:=by rw[Array.size_setIfInBounds]; !hi
 rw[Array.eraseIdxIfInBounds,dif_pos hz,Array.toList_eraseIdx,es,List.eraseIdx_append_of_length_le ¢,tl]
 congr 1
 rw[show i+1-i=1 by w];rfl
theorem QT(C:Cmp prog w A E s κ G rk){st:SortSt}{lo i:Nat}(R:Rn G rk κ a₀ lo st)(hl:lo<=a₀.size)(hi:i+1<(pendingOf st).size){Q:Bool->SortSt->Prop}
  (h:∀ st',Rn G rk κ a₀ lo st'->(pendingOf st').size+1=(pendingOf st).size->(∀ q,lo<=q->(arrOf st')[q]?=⑥[q]?)->Q true st'):wpS ① A E s (Gb i) Q st:=by
 obtain ⟨sa,na,pa,e1⟩:∃ sa na pa,(pendingOf st)[i]?=some (sa,na,pa):=⟨_,_,_,Array.getElem?_eq_getElem ¢⟩;obtain ⟨sb,nb,pb,e2⟩:∃ sb nb pb,(pendingOf st)[i+1]?=some (sb,nb,pb):=⟨_,_,_,Array.getElem?_eq_getElem hi⟩;h e:=Lr (l:=(pendingOf st).toList) (i:=i) (by rw[Array.getElem?_toList]; !e1) (by rw[Array.getElem?_toList]; !e2);h ch:=R.ch;rw[e] at ch;o⟨mid,c1,rfl,n1,ua,rfl,n2,ub,c2⟩:=Ch.cut.mp ch;h le:=c2.le;h le1:=c1.le;h z2:sa+na+nb<=lo:=by w
 r Sd C R.ba e1 e2 rfl n1 n2 ¢ ua ub fun st' B' pe low up=>?_;h pl:=XD (v:=(sa,na+nb,pa)) e1 e2;r h st' ⟨B',?_⟩ ?_ fun q hq=>low q (.inr ¢)
 ·rw[pe,pl]
  r Ch.cut.mpr ⟨sa,c1.congr fun q _ hq=>low q (.inl hq),rfl,by w,?_,?_⟩
  ·rw[show sa+(na+nb)=sa+na+nb by w]
   !up
  ·rw[show sa+(na+nb)=sa+na+nb by w]
   !c2.congr fun q hq _=>low q (.inr hq)
 ·have:=congrArg List.length pl
  rw[<- pe] at this;simp at this;w
theorem Ch.mod{arr:Array Keyed}{f:Nat×Nat×Nat->Nat×Nat×Nat}(hf:∀ x,(f x).1=x.1/\(f x).2.1=x.2.1):∀{l:List (Nat×Nat×Nat)}{lo hi:Nat} (i:Nat),Ch rk arr l lo hi->Ch rk arr (l.modify i f) lo hi
 | [],lo,hi,i,h=>by rw[List.modify_nil]; !h
 | (a,n,p)::l,lo,hi,0,⟨e1,h1,u,h⟩=>by
  rw[List.modify_zero_cons];have:=hf (a,n,p);generalize f (a,n,p)=y at this;o⟨y1,y2,y3⟩:=y;o⟨z1,z2⟩:=this;dsimp only at z1 z2;subst z1 z2;!⟨e1,h1,u,h⟩
 | (a,n,p)::l,lo,hi,i+1,⟨e1,h1,u,h⟩=>by
  rw[List.modify_succ_cons];!⟨e1,h1,u,Ch.mod hf i h⟩
theorem ACi{c:Prop}{i:Decidable c}{a b m:Nat}(h1:a<=m)(h2:b<=m):(@ite Nat c i a b)<=m:=by
 split
 ·!h1
 ·!h2
theorem Ma(C:Cmp prog w A E s κ G rk){st:SortSt}(B:Ba G rk κ a₀ st)(hp:pendingOf st=#[]){Q:Unit->SortSt->Prop}
  (h:∀ st',Ba G rk κ a₀ st'->Up rk (arrOf st') 0 a₀.size->Q () st'):wpS ① A E s Mw Q st:=by
 rw[QZ];r wpS_bind (wpS_get ?_);dsimp only;rw[B.size];r wpS_bind (wpS_mono (wpS_forRange (I:=fun x c st'=>∃ lo,c=(none,lo)/\x<=lo/\lo<=a₀.size/\Rn G rk κ a₀ lo st') (Q:=fun c st'=>c=(none,a₀.size)/\Rn G rk κ a₀ a₀.size st') ?_ ?_ ⟨0,rfl,Nat.le_refl _,Nat.zero_le _,B,by rw[hp]; rfl⟩) ?_)
 ·rintro x c st1 _ xn ⟨lo,rfl,xl,ll,R⟩
  dsimp only;by_cases c1:lo >= a₀.size
  ·rw[if_pos c1]
   have:lo=a₀.size:=by w
   subst this;!wpS_pure ⟨rfl,R⟩
  rw[if_neg c1];r wpS_bind (MF C R.ba ¢ ¢ fun n st2 n1 nn nx up=>?_);dsimp only;h R2:Rn G rk κ a₀ lo st2:=⟨R.ba.nx nx,by rw[nx.pend]; !R.ch.congr fun i _ hi=>nx.low i hi⟩;by_cases c2:n<Ox a₀.size a₀.size 0
  ·rw[if_pos c2]
   r wpS_bind (wpS_lift (wpAny_rule ⟨rfl,?_⟩));obtain ⟨f,ef⟩:∃ f,f=min (a₀.size-lo) (Ox a₀.size a₀.size 0):=⟨_,rfl⟩;rw[<- ef];r wpS_bind (Ph C R2.ba (n:=f) ¢ ¢ up fun st3 nx3 up3=>?_);h R3:Rn G rk κ a₀ lo st3:=⟨R2.ba.nx nx3,by rw[nx3.pend]; !R2.ch.congr fun i _ hi=>nx3.low i hi⟩;rw[if_neg ¤];r wpS_bind (wpS_get ?_);h put:∀{st4:SortSt},Rn G rk κ a₀ lo st4->(∀ q,lo<=q->(arrOf st4)[q]?=(arrOf st3)[q]?)->Rn G rk κ a₀ (lo+f) (Du st4 ((pendingOf st4).push (lo,f,0))):=fun {st4} R4 e4=>⟨⟨R4.ba.perm,R4.ba.kind,R4.ba.failed,R4.ba.all,R4.ba.di⟩,by
    show Ch rk (arrOf st4) ((pendingOf st4).push (lo,f,0)).toList 0 (lo+f);rw[Array.toList_push];!Ch.cut.mpr ⟨lo,R4.ch,rfl,by w,up3.congr fun q hq _=>e4 q hq,rfl⟩⟩
   cases hb:(pendingOf st3).back? with
   | none =>
    dsimp only;!wpS_bind (wpS_modify (wpS_pure ⟨lo+f,rfl,by w,by w,put R3 fun _ _=>rfl⟩))
   | some v =>
    o⟨s1,m1,q1⟩:=v;dsimp only;r wpS_bind (wpS_mono (wpS_forRange (I:=fun _ c st4=>c=(none,())/\Rn G rk κ a₀ lo st4/\∀ q,lo<=q->(arrOf st4)[q]?=(arrOf st3)[q]?) (Q:=fun c st4=>c=(none,())/\Rn G rk κ a₀ lo st4/\∀ q,lo<=q->(arrOf st4)[q]?=(arrOf st3)[q]?) ?_ (fun _ _ h=>h) ⟨rfl,R3,fun _ _=>rfl⟩) ?_)
    ·rintro y c st4 _ _ ⟨rfl,R4,e4⟩
     r wpS_bind (wpS_get ?_);by_cases d1:(pendingOf st4).size>1
     ·rw[if_pos d1,Array.getElem?_eq_getElem (show (pendingOf st4).size-2<(pendingOf st4).size by w)]
      dsimp only;split
      ·!wpS_pure ⟨rfl,R4,e4⟩
      ·r wpS_bind (QT C R4 ¢ ¢ fun st5 R5 _ e5=>?_)
       rw[if_neg ¤];!wpS_pure ⟨rfl,R5,fun q hq=>(e5 q hq).trans (e4 q hq)⟩
     ·rw[if_neg d1]
      !wpS_pure ⟨rfl,R4,e4⟩
    ·rintro c st4 ⟨rfl,R4,e4⟩
     dsimp only;r wpS_bind (wpS_modify (wpS_bind (wpS_modify (wpS_pure ⟨lo+f,rfl,by w,by w,?_⟩))));r put (st4:=Du st4 ((pendingOf st4).modify ((pendingOf st4).size-1) _)) ⟨⟨R4.ba.perm,R4.ba.kind,R4.ba.failed,R4.ba.all,R4.ba.di⟩,?_⟩ e4;show Ch rk (arrOf st4) ((pendingOf st4).modify ((pendingOf st4).size-1) _).toList 0 lo;rw[Array.toList_modify];r Ch.mod (f:=_) ?_ _ R4.ch;!fun _=>⟨rfl,rfl⟩
  ·rw[if_neg c2]
   r wpS_bind (wpS_get ?_);h put:∀{st4:SortSt},Rn G rk κ a₀ lo st4->(∀ q,lo<=q->(arrOf st4)[q]?=(arrOf st2)[q]?)->Rn G rk κ a₀ (lo+n) (Du st4 ((pendingOf st4).push (lo,n,0))):=fun {st4} R4 e4=>⟨⟨R4.ba.perm,R4.ba.kind,R4.ba.failed,R4.ba.all,R4.ba.di⟩,by
    show Ch rk (arrOf st4) ((pendingOf st4).push (lo,n,0)).toList 0 (lo+n);rw[Array.toList_push];!Ch.cut.mpr ⟨lo,R4.ch,rfl,by w,up.congr fun q hq _=>e4 q hq,rfl⟩⟩
   cases hb:(pendingOf st2).back? with
   | none =>
    dsimp only;!wpS_bind (wpS_modify (wpS_pure ⟨lo+n,rfl,by w,by w,put R2 fun _ _=>rfl⟩))
   | some v =>
    o⟨s1,m1,q1⟩:=v;dsimp only;r wpS_bind (wpS_mono (wpS_forRange (I:=fun _ c st4=>c=(none,())/\Rn G rk κ a₀ lo st4/\∀ q,lo<=q->(arrOf st4)[q]?=(arrOf st2)[q]?) (Q:=fun c st4=>c=(none,())/\Rn G rk κ a₀ lo st4/\∀ q,lo<=q->(arrOf st4)[q]?=(arrOf st2)[q]?) ?_ (fun _ _ h=>h) ⟨rfl,R2,fun _ _=>rfl⟩) ?_)
    ·rintro y c st4 _ _ ⟨rfl,R4,e4⟩
     r wpS_bind (wpS_get ?_);by_cases d1:(pendingOf st4).size>1
     ·rw[if_pos d1,Array.getElem?_eq_getElem (show (pendingOf st4).size-2<(pendingOf st4).size by w)]
      dsimp only;split
      ·!wpS_pure ⟨rfl,R4,e4⟩
      ·r wpS_bind (QT C R4 ¢ ¢ fun st5 R5 _ e5=>?_)
       rw[if_neg ¤];!wpS_pure ⟨rfl,R5,fun q hq=>(e5 q hq).trans (e4 q hq)⟩
     ·rw[if_neg d1]
      !wpS_pure ⟨rfl,R4,e4⟩
    ·rintro c st4 ⟨rfl,R4,e4⟩
     dsimp only;r wpS_bind (wpS_modify (wpS_bind (wpS_modify (wpS_pure ⟨lo+n,rfl,by w,by w,?_⟩))));r put (st4:=Du st4 ((pendingOf st4).modify ((pendingOf st4).size-1) _)) ⟨⟨R4.ba.perm,R4.ba.kind,R4.ba.failed,R4.ba.all,R4.ba.di⟩,?_⟩ e4;show Ch rk (arrOf st4) ((pendingOf st4).modify ((pendingOf st4).size-1) _).toList 0 lo;rw[Array.toList_modify];r Ch.mod (f:=_) ?_ _ R4.ch;!fun _=>⟨rfl,rfl⟩
 ·rintro c st' ⟨lo,rfl,xl,ll,R⟩
  have:lo=a₀.size:=by w
  subst this;!⟨rfl,R⟩
 ·rintro c st' ⟨rfl,R⟩
  dsimp only;r wpS_bind (wpS_mono (wpS_forRange (I:=fun x c st2=>c=(none,())/\Rn G rk κ a₀ a₀.size st2/\((pendingOf st2).size<=1\/(pendingOf st2).size+x<=a₀.size)) (Q:=fun c st2=>c=(none,())/\Rn G rk κ a₀ a₀.size st2/\(pendingOf st2).size<=1) ?_ ?_ ⟨rfl,R,.inr ?_⟩) ?_)
  ·rintro x c st2 _ xn ⟨rfl,R2,sz⟩
   r wpS_bind (wpS_get ?_);by_cases d1:(pendingOf st2).size<=1
   ·rw[if_pos d1]
    !wpS_pure ⟨rfl,R2,d1⟩
   ·rw[if_neg d1]
    r wpS_bind (QT C R2 ③ ?_ fun st3 R3 z3 _=>?_)
    ·!Nat.lt_of_le_of_lt (Nat.add_le_add_right (ACi (m:=(pendingOf st2).size-2) ¢ ¢) 1) ¢
    ·rw[if_neg ¤]
     !wpS_pure ⟨rfl,R3,by w⟩
  ·rintro c st2 ⟨rfl,R2,sz⟩
   !⟨rfl,R2,by w⟩
  ·have:=R.ch.le
   simp at this;w
  ·rintro c st2 ⟨rfl,R2,sz⟩
   r wpS_pure (h st2 R2.ba ?_);h ch:=R2.ch;cases e:(pendingOf st2).toList with
   | nil =>
    rw[e] at ch;h z:0=a₀.size:=ch;intro i j _ _ hj;w
   | cons v l =>
    rw[e] at ch;o⟨v1,v2,v3⟩:=v;h ln:l=[]:=by
     have:=congrArg List.length e;simp at this;!List.length_eq_zero_iff.mp ¢
    subst ln;o⟨_,_,u,z⟩:=ch;h z':0+v2=a₀.size:=z;rw[<- z'];!u
end TM
end
section
namespace SB
open PySem PySem.W PyProof.Rows
theorem Ui:∀{x y:List Int},HT.lexLt x y=true->HT.lexLt y x=false
 | [],[],h=>by cases h
 | [],_::_,_=>rfl
 | _::_,[],h=>by cases h
 | a::x,b::y,h=>by
  rw[HT.Br] at h ⊢;by_cases c:a=b
  ·rw[if_pos c] at h
   rw[if_pos c.symm];!Ui h
  ·rw[if_neg c] at h
   rw[if_neg (Ne.symm c)];have:=of_decide_eq_true h;!decide_eq_false ¢
theorem Ua:∀{x y:List Int},x≠y->HT.lexLt x y=false->HT.lexLt y x=true
 | [],[],n,_=>absurd rfl n
 | [],_::_,_,h=>by cases h
 | _::_,[],_,_=>rfl
 | a::x,b::y,n,h=>by
  rw[HT.Br] at h ⊢;by_cases c:a=b
  ·rw[if_pos c] at h
   rw[if_pos c.symm];!Ua (fun e=>n (by rw[c,e])) h
  ·rw[if_neg c] at h
   rw[if_neg (Ne.symm c)];have:=of_decide_eq_false h;!decide_eq_true ¢
theorem VH:∀{x y z:List Int},HT.lexLt x y=true->HT.lexLt y z=true->HT.lexLt x z=true
 | [],[],_,h,_=>by cases h
 | [],_::_,[],_,h=>by cases h
 | [],_::_,_::_,_,_=>rfl
 | _::_,[],_,h,_=>by cases h
 | _::_,_::_,[],_,h=>by cases h
 | a::x,b::y,c::z,h,k=>by
  rw[HT.Br] at h k ⊢;by_cases ab:a=b
  ·rw[if_pos ab] at h
   by_cases bc:b=c
   ·rw[if_pos bc] at k
    rw[if_pos (ab.trans bc)];!VH h k
   ·rw[if_neg bc] at k
    rw[if_neg (fun e=>bc ¢)];have:=of_decide_eq_true k;!decide_eq_true ¢
  ·rw[if_neg ab] at h
   h h':=of_decide_eq_true h;by_cases bc:b=c
   ·rw[if_pos bc] at k
    rw[if_neg ¢];!decide_eq_true ¢
   ·rw[if_neg bc] at k
    h k':=of_decide_eq_true k;rw[if_neg ¢];!decide_eq_true ¢
section
variable{prog:Program}{w:World}{A:Around}{E:Value->Shared->Prop}{s:Shared}
theorem Yy{b fin:Bool}{Q:Bool->Shared->Prop}{x y:List Int}{vs us:List Value}(hx:ItemsAre (intKind prog w) x vs):∀{y:List Int}{us:List Value} (i:Nat),ItemsAre (intKind prog w) y us->fin=decide (x.length<y.length)->Q (HT.lexLt x y) s->KatLex prog w A b fin Q (vs.zip us) i s:=by
 induction hx with
 | nil =>
  intro y us i hy hf q;cases hy with
  | nil=>rw[hf]; !q
  | cons h1 t=>rw[hf]; !q
 | @cons k v ks vs' hk ht ih =>
  intro y us i hy hf q;cases hy with
  | nil=>rw[hf]; !q
  | @cons k' v' ks' us' hk' ht' =>
   rw[HT.Br] at q;r kat_cons ((intKind prog w).eqBool hk hk' ?_);by_cases c:k=k'
   ·rw[if_pos c] at q
    rw[decide_eq_true c];r kat_yes (ih (i+1) ht' ?_ q);rw[hf];simp
   ·rw[if_neg c] at q
    rw[decide_eq_false c];r kat_no ?_;o⟨t1,rfl⟩:=Value.isInt_shape hk;o⟨t2,rfl⟩:=Value.isInt_shape hk';cases (b&&i==0) with
    | true =>
     rw[<- keyLt'_oneType];!kat_lt_int q
    | false=>!kat_one _ _ (lt_int q)
theorem ADs{b:Bool}{x y:List Int}{a c:Addr}{Q:Bool->Shared->Prop}(hx:IK prog w s.heap x a)(hy:IK prog w s.heap y c)(q:Q (HT.lexLt x y) s):wpAny ① A (keyLt' (tuples' b) (.ref a) (.ref c)) Q E s:=by
 o⟨ox,xs,n,gx,cx,dx,ix⟩:=hx;o⟨oy,ys,k,gy,cy,dy,iy⟩:=hy;r kat_lt gx dx gy dy (Yy (x:=x) (y:=y) (us:=ys.toList) ix 0 iy ?_ q);h l1:=ix.length;h l2:=iy.length;rw[l1,l2,Array.length_toList,Array.length_toList]
end
structure Row(prog:Program)(w:World)(h:Heap)(vs:List Value)(ks:List ⑬):Prop where
 vals:vs=ks.map fun x=>Value.ref x.2
 keys:∀ x∈ks,IK prog w h x.1 x.2
 full:∀ x∈ks,x.1≠[]
 nd:(ks.map (·.1)).Nodup
def ltK(ks:List ⑬)(i j:Nat):Bool:=HT.lexLt (ks.getD i ([],0)).1 (ks.getD j ([],0)).1
theorem Row.tot{prog:Program}{w:World}{h:Heap}{vs:List Value}{ks:List ⑬}(R:Row prog w h vs ks):Tot ks.length (ltK ks):=by
 h ne:∀ i j,i<ks.length->j<ks.length->i≠j->(ks.getD i ([],0)).1≠(ks.getD j ([],0)).1:=fun i j hi hj hij e=>by
  h r:=List.pairwise_iff_getElem.mp R.nd;h g1:(ks.getD i ([],0)).1=(ks.map (·.1))[i]'(by simpa using hi):=by simp[¯,hi]
  h g2:(ks.getD j ([],0)).1=(ks.map (·.1))[j]'(by simpa using hj):=by simp[¯,hj]
  rw[g1,g2] at e;rcases Nat.lt_or_gt_of_ne hij with c | c
  ·!r i j _ _ c e
  ·!r j i _ _ c e.symm
 !⟨fun i j hi hj hij e=>Ua (ne i j hi hj hij) e,fun i j _ _ e=>Ui e,fun i j k _ _ _ e1 e2=>VH e1 e2⟩
section
variable{prog:Program}{w:World}{A:Around}{E:Value->Shared->Prop}{s:Shared}{vs:List Value}{ks:List ⑬}
theorem Row.tups{h:Heap}(R:Row prog w h vs ks):∃ fs,KatTups h vs fs/\fs.length=vs.length/\∀ v∈fs,∃ n t,v=Value.int n t:=by
 o⟨e,hk,hf,hn⟩:=R;clear hn;subst e
 induction ks with
 | nil=>!⟨[],trivial,rfl,fun v hv=>by cases hv⟩
 | cons x r ih =>
  o⟨fs,t,l,q⟩:=ih (fun y hy=>hk y (¶ _ hy)) (fun y hy=>hf y (¶ _ hy));o⟨o,xs,n,gx,cx,dx,ix⟩:=hk x ´;h hx:=hf x ´;o⟨xk,xa⟩:=x;cases hxs:xs.toList with
  | nil =>
   rw[hxs] at ix;cases ix;!absurd rfl hx
  | cons f rest =>
   have hf0:xs[0]?=some f:=by rw[<- Array.getElem?_toList,hxs]; rfl
   have hi:=Qa ix f (by rw[hxs]; !´);r⟨f::fs,KatTups.cons gx cx dx hf0 t,by simp[l],fun v hv=>?_⟩;rcases List.mem_cons.mp hv with rfl | hv
   ·!hi
   ·!q v hv
theorem row_kept{h h':Heap}(R:Row prog w h vs ks)(e:∀ x∈ks,∀ o,h.get? x.2=some o->h'.get? x.2=some o):Row prog w h' vs ks:=⟨R.vals,fun x hx=>Gs (R.keys x hx) fun o=>e x hx o,R.full,R.nd⟩
theorem perm_back{α β:Type}{f:α->β}{l m:List β}(p:l.Perm m):∀ ks:List α,m=ks.map f->∃ ks':List α,ks'.Perm ks/\l=ks'.map f:=by
 induction p with
 | nil =>
  intro ks e;cases ks with
  | nil=>!⟨[],.refl _,rfl⟩
  | cons _ _=>cases e
 | @cons x l1 l2 _ ih =>
  intro ks e;cases ks with
  | nil=>cases e
  | cons k r =>
   rw[List.map_cons] at e;o⟨e1,e2⟩:=List.cons.inj e;o⟨r',p',e'⟩:=ih r e2;!⟨k::r',p'.cons k,by rw[List.map_cons,e1,e']⟩
 | swap x y l1 =>
  intro ks e
  match ks,e with
  | [],e=>cases e
  | [_],e=>simp at e
  | a::b::r,e =>
   rw[List.map_cons,List.map_cons] at e;o⟨e1,e2⟩:=List.cons.inj e;o⟨e3,e4⟩:=List.cons.inj e2;!⟨b::a::r,List.Perm.swap ..,by rw[List.map_cons,List.map_cons,e1,e3,e4]⟩
 | trans _ _ ih1 ih2 =>
  intro ks e;o⟨k2,p2,e2⟩:=ih2 ks e;o⟨k1,p1,e1⟩:=ih1 k2 e2;!⟨k1,p1.trans p2,e1⟩
theorem Nr{ks:List Int}{us:List Value}(h:ItemsAre (intKind prog w) ks us):ks=us.map numOf:=by
 induction h with
 | nil=>rfl
 | cons h1 _ ih =>
  o⟨t,e⟩:=Value.isInt_shape h1;rw[List.map_cons,<- ih,e];rfl
theorem AFL{h:Heap}{k k':List Int}{a:Addr}(x:IK prog w h k a)(y:IK prog w h k' a):k=k':=by
 o⟨o,items,n,ho,_,hd,hi⟩:=x;o⟨o',items',n',ho',_,hd',hi'⟩:=y;rw[ho] at ho';cases ho';rw[hd] at hd';cases hd';rw[Nr hi,Nr hi']
theorem Jo{α:Type}{p q:α->Bool}:∀{l:List α}{x:α},(∀ y∈l,p y=true->q y=true)->x∈l->p x=false->q x=true->(l.filter p).length<(l.filter q).length
 | [],x,_,h,_,_=>by cases h
 | a::l,x,hs,hx,px,qx=>by
  h le:∀{m:List α},(∀ y∈m,p y=true->q y=true)->(m.filter p).length<=(m.filter q).length:=fun {m}=>by
   induction m with
   | nil=>!fun _=>Nat.le_refl _
   | cons b m ih =>
    intro hm;have:=ih fun y hy=>hm y (¶ _ hy);rw[List.filter_cons,List.filter_cons];h hb:=hm b (´ ..);split
    ·rename_i pb
     rw[if_pos (hb pb)];simp; !this
    ·split
     ·simp; w
     ·!this
  h hl:=le fun y hy=>hs y (¶ _ hy);rw[List.filter_cons,List.filter_cons];rcases List.mem_cons.mp hx with rfl | hx
  ·rw[if_neg (by rw[px]; decide),if_pos qx]
   simp; w
  ·h ih:=Jo (fun y hy=>hs y (¶ _ hy)) hx px qx
   h ha:=hs a (´ ..);split
   ·rename_i pa
    rw[if_pos (ha pa)];simp; !ih
   ·split
    ·simp; w
    ·!ih
def cntK(ks:List ⑬)(k:List Int):Int:=((ks.filter fun y=>HT.lexLt y.1 k).length:Int)
open Classical in
noncomputable def rkK(ks:List ⑬)(x:Keyed):Int:=if h:∃ i,i<ks.length/\x.1=Value.ref (ks.getD i ([],0)).2 then cntK ks (ks.getD (Classical.choose h) ([],0)).1 else 0
def itK(ks:List ⑬)(i:Nat):Keyed:=(Value.ref (ks.getD i ([],0)).2,Value.ref (ks.getD i ([],0)).2)
theorem Row.key{h:Heap}(R:Row prog w h vs ks){i:Nat}(hi:i<ks.length):IK prog w h (ks.getD i ([],0)).1 (ks.getD i ([],0)).2:=by
 h e:ks.getD i ([],0)=ks[i]:=by simp[¯,hi]
 rw[e];!R.keys _ (List.getElem_mem hi)
theorem Row.rk{h:Heap}(R:Row prog w h vs ks){i:Nat}(hi:i<ks.length):rkK ks (itK ks i)=cntK ks (ks.getD i ([],0)).1:=by
 h ex:∃ j,j<ks.length/\(itK ks i).1=Value.ref (ks.getD j ([],0)).2:=⟨i,hi,rfl⟩;unfold rkK;rw[dif_pos ex];o⟨hj,ej⟩:=Classical.choose_spec ex;h ea:(ks.getD i ([],0)).2=(ks.getD (Classical.choose ex) ([],0)).2:=by
  have:Value.ref (ks.getD i ([],0)).2=Value.ref (ks.getD (Classical.choose ex) ([],0)).2:=ej;injection this
 h k1:=R.key hi;h k2:=R.key hj;rw[<- ea] at k2;rw[AFL k1 k2]
theorem Rg{a b:List Int}(ha:a∈ks.map (·.1))(h:HT.lexLt a b=true):cntK ks a<cntK ks b:=by
 o⟨x,hx,rfl⟩:=List.mem_map.mp ha;unfold cntK;have:=Jo (p:=fun y:List Int×Addr=>HT.lexLt y.1 x.1) (q:=fun y=>HT.lexLt y.1 b) (l:=ks) (x:=x) (fun y _ e=>VH e h) hx (by
  cases c:HT.lexLt x.1 x.1 with
  | false=>rfl
  | true=>have:=Ui c; rw[c] at this; cases this) h
 w
theorem Row.rk_lt{h:Heap}(R:Row prog w h vs ks){i j:Nat}(hi:i<ks.length)(hj:j<ks.length):decide (rkK ks (itK ks i)<rkK ks (itK ks j))=ltK ks i j:=by
 rw[R.rk hi,R.rk hj];h mk:∀{i:Nat},i<ks.length->(ks.getD i ([],0)).1∈ks.map (·.1):=fun {i} hi=>List.mem_map_of_mem (by
  h e:ks.getD i ([],0)=ks[i]:=by simp[¯,hi]
  rw[e];!List.getElem_mem hi)
 unfold ltK;cases c:HT.lexLt (ks.getD i ([],0)).1 (ks.getD j ([],0)).1 with
 | true=>!decide_eq_true (Rg (mk hi) c)
 | false =>
  r decide_eq_false ?_;by_cases e:(ks.getD i ([],0)).1=(ks.getD j ([],0)).1
  ·rw[e]; !Int.lt_irrefl _
  ·have:=Rg (ks:=ks) (mk hj) (Ua e c)
   w
theorem ZQ{b:Bool}(R:Row prog w s.heap vs ks) :
  wpAny ① A (sortRuns'.run (SortSt.mk' (tuples' b) ⑱ #[] 7 none)) (fun r s'=>s'=s/\∃ p:Array Nat,PP ks.length p/\Up (ltK ks) p ks.length/\arrOf r.2=p.map (kas_item ⑱)/\failedOf r.2=none) E s:=by
 h lk:ks.length=vs.length:=by rw[R.vals,List.length_map]
 h T:=R.tot;h gi:∀ i,i<ks.length->kas_item ⑱ i=itK ks i:=fun i hi=>by
  rw[kat_item rfl];unfold itK;rw[R.vals];simp[¯,hi]
 h e0:⑱.toList=(List.range ks.length).map (itK ks):=by
  have:=congrArg Array.toList (kas_range ⑱);rw[<- this,Array.toList_map,show ⑱.size=ks.length by rw[lk]; simp];!List.map_congr_left fun i hi=>gi i (List.mem_range.mp hi)
 h C:TM.Cmp prog w A E s (tuples' b) (fun x=>∃ i,i<ks.length/\x=itK ks i) (rkK ks):=fun x y ⟨i,hi,ex⟩ ⟨j,hj,ey⟩ st Q kd q=>by
  subst ex ey;rw[lt'_eq];r wpS_bind (wpS_get ?_);rw[kd];r wpS_bind (wpS_lift (wpAny_attempt (ADs (R.key hi) (R.key hj) ⟨rfl,?_⟩)));rw[R.rk_lt hi hj] at q;!wpS_pure q
 h al:TM.Al (fun x=>∃ i,i<ks.length/\x=itK ks i) ⑱:=fun i x e=>by
  rw[<- Array.getElem?_toList,e0,List.getElem?_map] at e;cases g:(List.range ks.length)[i]? with
  | none=>rw[g] at e; cases e
  | some k =>
   rw[g] at e;h hk:=List.mem_range.mp (List.mem_of_getElem? g);!⟨k,hk,(Option.some.inj e).symm⟩
 h di:TM.Di (rkK ks) ⑱:=by
  unfold TM.Di;rw[e0,List.map_map];unfold List.Nodup;rw[List.pairwise_map];r List.Pairwise.imp_of_mem (fun {i j} hi hj ij e=>?_) List.nodup_range;h hi':=List.mem_range.mp hi;h hj':=List.mem_range.mp hj;h e':rkK ks (itK ks i)=rkK ks (itK ks j):=e;h z1:=R.rk_lt hi' hj';h z2:=R.rk_lt hj' hi';rw[e',decide_eq_false (Int.lt_irrefl _)] at z1;rw[e',decide_eq_false (Int.lt_irrefl _)] at z2;have:=T.or i j hi' hj' ij z1.symm;rw[<- z2] at this;cases this
 h W:=TM.Ma C (st:=SortSt.mk' (tuples' b) ⑱ #[] 7 none) (a₀:=vs.toArray.zip vs.toArray) ⟨Array.Perm.refl _,rfl,rfl,al,di⟩ rfl
  (Q:=fun _ st'=>∃ p:Array Nat,PP ks.length p/\Up (ltK ks) p ks.length/\arrOf st'=p.map (kas_item ⑱)/\failedOf st'=none) fun st' B up=>by
  h pm:=Array.perm_iff_toList_perm.mp B.perm;rw[e0] at pm;o⟨l,pl,el⟩:=perm_back pm (List.range ks.length) rfl;h ll:l.length=ks.length:=by rw[pl.length_eq,List.length_range]
  h lt:∀{k:Nat},k<ks.length->g l.toArray k<ks.length/\l[k]?=some (g l.toArray k):=fun {k} hk=>by
   h hk':k<l.length:=by w
   h e:g l.toArray k=l[k]:=by unfold g; simp[Array.getD,hk']
   rw[e];!⟨List.mem_range.mp (pl.mem_iff.mp (List.getElem_mem hk')),± hk'⟩
  h nd:l.Nodup:=pl.nodup_iff.mpr List.nodup_range;h at_:∀{k:Nat},k<ks.length->TM.N (rkK ks) (arrOf st') k=rkK ks (itK ks (g l.toArray k)):=fun {k} hk=>by
   unfold TM.N;rw[<- Array.getElem?_toList,el,List.getElem?_map,(lt hk).2];rfl
  h sz:⑱.size=ks.length:=by rw[lk]; simp
  r⟨l.toArray,⟨by simpa using ll,fun k hk=>(lt hk).1,fun k k' hk hk' e=>?_⟩,fun x y xy hy=>?_,?_,B.failed⟩
  ·h a1:=(lt hk).2
   h a2:=(lt hk').2;rw[<- e] at a2;!(List.getElem?_inj ¢ nd).mp (a1.trans a2.symm)
  ·h hx:x<ks.length:=by w
   h u:=up x y (Nat.zero_le _) ¢ (by rw[sz]; !hy);rw[at_ hx,at_ hy] at u;cases c:ltK ks (g l.toArray x) (g l.toArray y) with
   | true=>rfl
   | false =>
    have ne:g l.toArray x≠g l.toArray y:=fun e=>by
     have a1:=(lt hx).2;have a2:=(lt hy).2;rw[<- e] at a2;have:=(List.getElem?_inj ¢ nd).mp (a1.trans a2.symm);w
    have z:=T.or _ _ (lt hx).1 (lt hy).1 ne c;rw[<- R.rk_lt (lt hy).1 (lt hx).1] at z;have:=of_decide_eq_true z;w
  ·apply Array.toList_inj.mp
   rw[el,Array.toList_map];r List.map_congr_left fun i hi=>(gi i ?_).symm;!List.mem_range.mp (pl.mem_iff.mp (by simpa using hi))
 !wpAny_mono W (fun r s' h=>h) fun _ _ e=>e
theorem YQ{a:Addr}{n:Nat}{P:PySem.Fin->Shared->Prop}(ho:s.heap.get? a=some (seqObj "list" vs.toArray n))(R:Row prog w s.heap vs ks)(hz:vs.length<=1000)
  (h:∀ p:Array Nat,PP ks.length p->Up (ltK ks) p ks.length->P (.done (.ret .none)) {s with heap:=sortedHeap s.heap a vs (List.toArray (p.toList.map fun i=>vs.getD i Value.none))}) :
  wpAny ① A (Builtin.«list.sort» ⟨[.ref a],[]⟩) P E s:=by
 h la:a<¸:=Heap.lt_size ho;h lk:ks.length=vs.length:=by rw[R.vals,List.length_map]
 rw[list_sort_plain];r wpAny_bind (listItems_at ho rfl ?_);r wpAny_bind (listUpdate_at ho rfl ?_);obtain ⟨e1,ho1⟩:∃ e1,(s.heap.update a (Obj.mapSeq fun _=>#[])).get? a=some (seqObj "list" #[] e1):=⟨_,get?_update_seq ho (fun _=>#[])⟩;r wpAny_bind (seqEpoch_at ho1 rfl ?_);r wpAny_bind (wpAny_newTuple ?_);r wpAny_bind (wpAny_newList ?_);r wpAny_holding ?_;h hoa:(((s.heap.update a (Obj.mapSeq fun _=>#[])).push (seqObj "tuple" vs.toArray 0)).push (seqObj "list" #[] 0)).get? a=some (seqObj "list" #[] e1):=° _ (° _ ho1);show wpAny ① A _ P E {s with heap:=((s.heap.update a (Obj.mapSeq fun _=>#[])).push (seqObj "tuple" vs.toArray 0)).push (seqObj "list" #[] 0)};dsimp only;h vz:vs.toArray.size=vs.length:=by simp
 by_cases h2:vs.toArray.size<2
 ·rw[if_pos h2,if_pos h2]
  r wpAny_bind (wpAny_pure ?_);rw[StateT.run_pure];r wpAny_bind (wpAny_pure ?_);dsimp only;h out:(⑱.map (·.2))=List.toArray ((List.toArray (List.range ks.length)).toList.map fun i=>vs.getD i Value.none):=by
   apply Array.toList_inj.mp;rw[Array.toList_map,Array.toList_zip,List.map_snd_zip ¥,lk];apply List.ext_getElem?;intro i;by_cases c:i<vs.length
   ·simp[c]
   ·simp[c]
  r wpAny_bind (seqEpoch_at hoa rfl ?_);r wpAny_bind (listUpdate_at hoa rfl ?_ (hsz2:=by rw[Array.size_map,Array.size_zip,vz,sizeLine_eq]; w));simp only[bne_self_eq_false,Bool.false_eq_true,if_false];r wpAny_pure ?_;rw[show (arrOf (SortSt.mk' general' ⑱ #[] 7 none)).map (·.2)=_ from out];!h _ (AAj _) fun x y hxy hy=>absurd hxy ¢
 ·rw[if_neg h2,if_neg h2]
  h R1:Row prog w (((s.heap.update a (Obj.mapSeq fun _=>#[])).push (seqObj "tuple" vs.toArray 0)).push (seqObj "list" #[] 0)) vs ks:=row_kept R fun x hx o gx=>by
   h ne:x.2≠a:=fun e=>by
    o⟨o',_,_,go',co',_⟩:=R.keys x hx;rw[e,ho] at go';cases go';h z:Value.type "list" = Value.type "tuple":=co';!absurd z ¤
   !° _ (° _ ((Heap.get?_update_other _ _ (Ne.symm ne)).trans gx))
  o⟨fs,kt,lf,hfs⟩:=R1.tups;r wpAny_bind (kat_kind (s:={s with heap:=((s.heap.update a (Obj.mapSeq fun _=>#[])).push (seqObj "tuple" vs.toArray 0)).push (seqObj "list" #[] 0)}) (T:=.type "int") kt ¢ (fun v hv=>by o⟨n,t,rfl⟩:=hfs v hv; !Looks.of_pure rfl) ¤ ?_);r wpAny_bind (wpAny_mono (ZQ (s:={s with heap:=((s.heap.update a (Obj.mapSeq fun _=>#[])).push (seqObj "tuple" vs.toArray 0)).push (seqObj "list" #[] 0)}) R1) ?_ fun _ _ e=>e)
  ·rintro⟨⟨⟩,st'⟩ s' ⟨rfl,p,P1,P2,har,hf⟩
   dsimp only;h hout:=kat_snds (ks:=vs) (vs:=vs) rfl har;rw[hout];r wpAny_bind (seqEpoch_at hoa rfl ?_);r wpAny_bind (listUpdate_at hoa rfl ?_ (hsz2:=by rw[List.size_toArray,List.length_map,Array.length_toList,P1.size,sizeLine_eq]; w));rw[hf];simp only[bne_self_eq_false,Bool.false_eq_true,if_false];!wpAny_pure (h p P1 P2)
end
theorem QV{n:Nat}{p:Array Nat}(P:PP n p):p.toList.Perm (List.range n):=by
 r SB.Gd ?_ (fun x hx=>?_) (by rw[List.length_range,Array.length_toList,P.size]; !Nat.le_refl _)
 ·r List.pairwise_iff_getElem.mpr fun i j hi hj hij e=>?_
  h hi':i<n:=by rw[<- P.size]; simpa using hi
  h hj':j<n:=by rw[<- P.size]; simpa using hj
  h hi2:i<p.size:=by simpa using hi
  h hj2:j<p.size:=by simpa using hj
  have:=P.inj i j hi' hj' (by simpa [g,Array.getD,hi2,hj2] using e);w
 ·o⟨i,hi,rfl⟩:=List.mem_iff_getElem.mp hx
  h hi2:i<p.size:=by simpa using hi
  have:=P.lt i (by rw[<- P.size]; !hi2);r List.mem_range.mpr ?_;simpa [g,Array.getD,hi2] using this
section
variable{prog:Program}{w:World}{A:Around}{E:Value->Shared->Prop}{s:Shared}{S:Addr}{es:Array (Int×Value)}{t:SetTable}{ks:List ⑬}
theorem RW{Q:List Value->Shared->Prop}{o:Obj}{ep:Nat}(hh:A.handled=none)(ho:s.heap.get? S=some o)(hex:o.ExactSet)(hd:o.data=.set es ep t)(T:Tab t)(hl:es.size=t.place.size)(hp:t.plain=true)(hled:t.led=ledOf w)(h61:es.size<=301)
  (q:∀(h':Heap) (tk:Nat) (acc:Array Value),(∀ b ob,s.heap.get? b=some ob->h'.get? b=some ob)->¸<=h'.objs.size->acc.toList.map (fun v=>v)=(ord w S ep es).toList.map (·.2)->Q acc.toList {s with heap:=h',toks:=tk}) :
  wpAny ① A (collect (.ref S)) Q E s:=by
 unfold collect;r wpAny_bind (wpAny_runValue (codeAny_builtin PySem.F.entry_proto_collect ?_));rw[Around.under_plainId PySem.F.plain_proto_collect _];show wpAny _ A.in1 (newList [] >>= fun l=>again (.builtin "list.__iadd__" ⟨[l,.ref S],[]⟩)) _ _ s;r wpAny_bind (wpAny_newObj_type ?_);r wpAny_pure ⟨plainId_quiet PySem.F.plain_list_iadd _,codeAny_builtin PySem.F.entry_list_iadd ?_⟩;rw[Around.under_plainId PySem.F.plain_list_iadd _];h gD:(s.heap.push {cls:=.type "list",data:=.seq ([]:List Value).toArray}).get? ¸=some {cls:=.type "list",data:=.seq #[] 0}:=¿ _ rfl;show wpAny _ A.in1 (Builtin.List.listExtendWith (.ref ¸) (.ref S) (.ref ¸)) _ _ _;h fin':∀(h':Heap) (tk:Nat) (acc':Array Value) (c':Nat),(∀ b ob,b≠¸->(s.heap.push {cls:=.type "list",data:=.seq ([]:List Value).toArray}).get? b=some ob->h'.get? b=some ob)->h'.get? ¸=some {cls:=.type "list",dict:=none,data:=.seq acc' c',slots:=#[]} ->
   ItemsOf (fun i v=>∃ e,(ord w S ep es)[i]?=some e/\v=e.2) acc' es.size->wpAny ① A (match Value.ref ¸ with
   | Value.ref a=>do
    match (<- load a).data with
     | Data.seq xs _=>pure xs.toList
     | _=>unsupported "internal:collect"
   | _=>unsupported "internal:collect") Q E {s with heap:=h',toks:=tk}:=fun h' tk acc' c' hk hS' hacc=>by
  show wpAny _ A (load ¸ >>= _) _ _ _;r wpAny_bind (wpAny_load hS' ?_);r wpAny_pure ?_;r q h' tk acc' (fun b ob e=>hk b ob (Nat.ne_of_lt (Heap.lt_size e)) (° _ e)) (Nat.le_of_lt (Heap.lt_size hS')) ?_;rw[List.map_id'];apply List.ext_getElem?;intro i;rw[List.getElem?_map,Array.getElem?_toList,Array.getElem?_toList];by_cases c:i<es.size
  ·h c1:i<acc'.size:=by rw[hacc.1]; !c
   o⟨e,ge,ev⟩:=hacc.2 i _ (Array.getElem?_eq_getElem c1);rw[Array.getElem?_eq_getElem c1,ge,ev];rfl
  ·rw[Array.getElem?_eq_none (by rw[hacc.1]; w),Array.getElem?_eq_none (by rw[Kq]; w)]
   rfl
 r wpAny_mono (Uq (A:=A) (R:=fun r s'=>∃ h' tk acc' c',r=.ok (.ret (.ref ¸))/\s'={s with heap:=h',toks:=tk}/\(∀ b ob,b≠¸->(s.heap.push {cls:=.type "list",data:=.seq ([]:List Value).toArray}).get? b=some ob->h'.get? b=some ob)/\h'.get? ¸=some {cls:=.type "list",dict:=none,data:=.seq acc' c',slots:=#[]}/\ItemsOf (fun i v=>∃ e,(ord w S ep es)[i]?=some e/\v=e.2) acc' es.size)
  (s:={s with heap:=s.heap.push {cls:=.type "list",data:=.seq ([]:List Value).toArray}}) hh (° _ ho) hex hd T hl hp hled h61 ¸ (.ref ¸) 0 gD fun h' tk acc' c' hk hS' hacc=>⟨h',tk,acc',c',rfl,rfl,hk,hS',hacc⟩) (fun fin s' h=>?_) (fun e s' h=>?_)
 ·cases fin with
  | done f =>
   o⟨h',tk,acc',c',e,rfl,hk,hS',hacc⟩:=h;cases e;!fin' h' tk acc' c' hk hS' hacc
  | again c'=>!⟨h.1,codeAny_mono h.2 fun r s'' hr=>by o⟨h',tk,acc',c',rfl,rfl,hk,hS',hacc⟩:=hr; !fin' h' tk acc' c' hk hS' hacc⟩
 ·o⟨_,_,_,_,e,_⟩:=h
  cases e
theorem sorted_set(hh:A.handled=none)(X:TS prog w s.heap S es t ks)(hK:∀ x∈ks,IK prog w s.heap x.1 x.2)(hf:∀ x∈ks,x.1≠[])(h61:ks.length<=301){Q:Value->Shared->Prop}
  (q:∀(h':Heap) (tk:Nat) (D:Addr) (ko:List ⑬) (e:Nat),(∀ b ob,s.heap.get? b=some ob->h'.get? b=some ob)->¸<=D->h'.get? D=some (seqObj "list" (ko.map fun x=>Value.ref x.2).toArray e)->ko.Perm ks->(ko.map (·.1)).Pairwise (fun a b=>HT.lexLt a b=true)->Q (.ref D) {s with heap:=h',toks:=tk}) :
  wpAny ① A (call (.builtin "sorted") [.ref S]) Q E s:=by
 o⟨o,ep,ho,hex,hd⟩:=X.obj;h lks:ks.length=es.size:=by
  have:=congrArg List.length X.els;rw[List.length_map,Array.length_toList] at this;!this.symm
 r Calls.call_function_entry kind_sorted plain_sorted entry_sorted (args_sorted1 _) ?_;unfold Builtin.«sorted»;r wpAny_bind (m:=checkCount "sorted" 1 1 _) (wpAny_pure ?_);r wpAny_bind (RW (A:=A.in1) (by simp[hh]) ho hex hd X.tab X.len X.pl X.ld ¢ fun h1 tk1 acc kp hsz hacc=>?_);h op:=TF w S ep es;rw[X.els] at op;o⟨k1,p1,e1⟩:=perm_back op ks rfl;rw[e1,List.map_id',List.map_map] at hacc;h hvs:acc.toList=k1.map fun x=>Value.ref x.2:=hacc;generalize hv:acc.toList=vs at hvs;h lvs:vs.length=ks.length:=by rw[hvs,List.length_map,p1.length_eq]
 r wpAny_bind (wpAny_newList ?_ (by rw[sizeLine_eq]; w));h hoL:(h1.push (seqObj "list" vs.toArray 0)).get? h1.objs.size=some (seqObj "list" vs.toArray 0):=¿ _ rfl;h kp2:∀ b ob,s.heap.get? b=some ob->(h1.push (seqObj "list" vs.toArray 0)).get? b=some ob:=fun b ob e=>° _ (kp b ob e);h R:Row prog w (h1.push (seqObj "list" vs.toArray 0)) vs k1:=⟨hvs,fun x hx=>Gs (hK x (p1.mem_iff.mp hx)) fun ob e=>kp2 _ ob e,fun x hx=>hf x (p1.mem_iff.mp hx),(List.Perm.nodup_iff (p1.map (·.1))).mpr X.nd⟩;r wpAny_bind (wpAny_holding (wpAny_call_entry slot_list_sort ⟨_,hoL,rfl⟩ entry_list_sort (YQ (s:={s with heap:=h1.push (seqObj "list" vs.toArray 0),toks:=tk1}) hoL R ¢ fun p P1 P2=>⟨_,rfl,?_⟩) (args_list_sort _)));r wpAny_pure ⟨_,rfl,?_⟩;o⟨e,he⟩:=sortedHeap_at (out:=List.toArray (p.toList.map fun i=>vs.getD i Value.none)) hoL;h lk1:k1.length=ks.length:=p1.length_eq;h eo:(p.toList.map fun i=>vs.getD i Value.none)=(p.toList.map fun i=>k1.getD i ([],0)).map fun x=>Value.ref x.2:=by
  rw[List.map_map];r List.map_congr_left fun i hi=>?_;h hi':i<k1.length:=List.mem_range.mp ((QV P1).mem_iff.mp hi);rw[hvs];simp[¯,hi']
 rw[eo] at he ⊢;h pk:(p.toList.map fun i=>k1.getD i ([],0)).Perm k1:=by
  h z:=SB.Iw (l:=k1) (QV P1);rw[SB.Hz ([],0) fun i hi=>List.mem_range.mp ((QV P1).mem_iff.mp hi)] at z;!z
 r q _ tk1 h1.objs.size _ e (fun b ob eb=>?_) hsz he (pk.trans p1) ?_
 ·h hb:=Heap.lt_size (kp b ob eb)
  rw[sortedHeap_old (Nat.ne_of_lt hb) (by rw[Heap.size_push]; !Nat.lt_succ_of_lt hb)];!kp2 b ob eb
 ·rw[List.map_map]
  r List.pairwise_iff_getElem.mpr fun i j hi hj hij=>?_;h hi':i<p.size:=by simpa using hi
  h hj':j<p.size:=by simpa using hj
  h z:=P2 i j hij (by rw[<- P1.size]; !hj');unfold ltK g at z;simpa [Array.getD,hi',hj'] using z
end
end SB
end
section
namespace SB
open PySem PySem.SetTable
section
variable{prog:Program}{w:World}{A:Around}{s:Shared}
theorem XQ{R:Result->Shared->Prop}{I:Addr}{fp wr:List Addr}{G:Array GenState->Array GenState->Prop}{n:Nat}{P:Nat->Value->Prop}{St:Nat->Shared->Prop}
  (W:WalksS prog w A.in1 I fp wr G n P St) (S:Addr) (hSf:S∉fp) (vals:Nat->List Int×Addr) (hP:∀ i v,P i v->v=.ref (vals i).2) (hn:∀ ks:List ⑬,(∀ x∈ks,∃ j,j<n/\x=vals j)->(ks.map (·.1)).Nodup->ks.length<=300) (hoff:∀ i,i<n->(vals i).2∉S::wr) (hu:A.in1.units<cLine)
  (hR:∀ s' es' t' ks',TS prog w s'.heap S es' t' ks'->Of vals n ks'->Moved (S::wr) G s s'->R (.ok (.ret .none)) s') :
  ∀(k i:Nat) (s₁:Shared) (es:Array (Int×Value)) (t:SetTable) (ks:List ⑬),n-i=k->i<=n->St i s₁->TS prog w s₁.heap S es t ks->(∀ j,j<n->IK prog w s₁.heap (vals j).1 (vals j).2)->Of vals i ks->Moved (S::wr) G s s₁ ->
   codeAny ① A (.builtin "set.update.loop" ⟨[.ref S,.ref I],[]⟩) R s₁:=by
 h nSw:S∉wr:=fun h=>hSf (W.sub _ h);h inS:∀ b∈wr,b∈S::wr:=fun b hb=>¶ _ hb;intro k
 induction k with
 | zero =>
  intro i s₁ es t ks hk hi hst X hK O mv;obtain rfl:i=n:=by w
  r codeAny_builtin PyProof.Rows.F.entry_set_update_loop ?_;rw[Around.under_plainId PyProof.Rows.F.plain_set_update_loop _];show wpAny _ A.in1 (pyNext (.ref I) >>= _) _ _ s₁;r wpAny_bind (W.done s₁ _ _ hst fun s₂ m2=>?_);show wpAny _ A.in1 (ret Value.none) _ _ s₂;!wpAny_pure (hR s₂ es t ks (Vr X fun o e=>m2.heap S o nSw e) O (Moved.trans W.gtrans mv (m2.mono inS)))
 | succ k ih =>
  intro i s₁ es t ks hk hi hst X hK O mv;h lt:i<n:=by w
  r codeAny_builtin PyProof.Rows.F.entry_set_update_loop ?_;rw[Around.under_plainId PyProof.Rows.F.plain_set_update_loop _];show wpAny _ A.in1 (pyNext (.ref I) >>= _) _ _ s₁;r wpAny_bind (W.item i s₁ _ _ lt hst fun v s₂ pv st2 m2=>?_);obtain rfl:=hP i v pv;h X2:TS prog w s₂.heap S es t ks:=Vr X fun o e=>m2.heap S o nSw e;h hK2:∀ j,j<n->IK prog w s₂.heap (vals j).1 (vals j).2:=fun j hj=>Gs (hK j hj) fun o e=>m2.heap _ o (fun z=>hoff j hj (inS _ z)) e;show wpAny _ A.in1 (holding [Value.ref (vals i).2] (setAdd S (.ref (vals i).2)) >>= _) _ _ s₂;r wpAny_bind (wpAny_holding (ADx X2 (fun x hx=>?_) (hK2 i lt) hu (hn ks (fun x hx=>let ⟨j,hj,e⟩:=O.sub x hx; ⟨j,by w,e⟩) X2.nd) fun b h' es' t' ks' sb X' ad=>?_))
  ·o⟨j,hj,rfl⟩:=O.sub x hx
   !hK2 j ¢
  ·r wpAny_pure ⟨plainId_quiet PyProof.Rows.F.plain_set_update_loop _,ih (i+1) _ es' t' ks' ¢ lt (W.frame _ s₂ _ _ st2 (Nat.le_add_right _ _) fun b hb o e=>?_) X' (fun j hj=>Gs (hK2 j hj) fun o e=>?_) (O.next ad) ?_⟩
   ·rw[sb.2 b (fun(z:b=S)=>hSf (by rw[<- z]; !hb))]
    !e
   ·rw[sb.2 _ (fun(z:(vals j).2=S)=>hoff j hj (by rw[z]; !´))]
    !e
   ·r Moved.trans W.gtrans mv ((m2.mono inS).then_heap (Nat.le_add_right _ _) fun b o hb e=>?_)
    rw[sb.2 b (fun(z:b=S)=>hb (by rw[z]; !´))];!e
end
section
variable{prog:Program}{w:World}{A:Around}{E:Value->Shared->Prop}{s:Shared}
theorem ACh{l:Addr}{items:Array Value}{vals:Nat->List Int×Addr}{Q:Value->Shared->Prop}(hh:A.handled=none)(hu:A.units+6<cLine)(hl:s.heap.IsList l items)(hv:∀(i:Nat) (v:Value),items[i]?=some v->v=Value.ref (vals i).2)
  (hK:∀ j,j<items.size->IK prog w s.heap (vals j).1 (vals j).2) (h61:∀ ks:List ⑬,(∀ x∈ks,∃ j,j<items.size/\x=vals j)->(ks.map (·.1)).Nodup->ks.length<=300)
  (q:∀ h' tk es t ks,TS prog w h' ¸ es t ks->Of vals items.size ks->(∀ b o,s.heap.get? b=some o->h'.get? b=some o)->Q (.ref ¸) {s with heap:=h',toks:=tk}) :
  wpAny ① A (call (.type "set") [.ref l]) Q E s:=by
 o⟨c,tl,hmro⟩:=F.called_set.mro;h made:=F.called_set.made;h ssub:=F.called_set.sub;h nt:=F.called_set.notType;h cc:=F.called_set.canCreate;h tc:=F.typeCall_set_1 (.ref l);r wpAny_call (codeAny_of_tree ?_);show wpAny _ _ (callAny (.type "set") _) _ _ _;r wpAny_pure ⟨Code.quiet_builtin _ £,codeAny_builtin F.entry_type_call ?_⟩;rw[Around.under_plain (weight_type_call_type "set" [.ref l] []) rfl]
 repeat (any_goals (first | assumption | wp_step))
 r codeAny_mono (Yz (.ref l) (E:=E) (Q₁:=fun obj s₁=>∃ led:Bool,led=ledOf w/\obj=.ref ¸/\s₁={s with heap:=s.heap.push {cls:=.type "set",dict:=none,data:=.set #[] 0 (.fresh 0 0 led)}}) ⟨_,rfl,rfl,rfl⟩) fun r s₁ hr=>?_;cases r with
 | error e=>!hr
 | ok fl =>
  cases fl with
  | ret obj =>
   o⟨led,hled,rfl,rfl⟩:=hr;h gS:(s.heap.push {cls:=.type "set",dict:=none,data:=.set #[] 0 (.fresh 0 0 led)}).get? ¸=some {cls:=.type "set",dict:=none,data:=.set #[] 0 (.fresh 0 0 led)}:=¿ _ rfl;h tS:Shared.TypeIs {s with heap:=s.heap.push {cls:=.type "set",dict:=none,data:=.set #[] 0 (.fresh 0 0 led)}} (.ref ¸) "set":=⟨_,gS,rfl⟩;h il:=F.called_set.init.lookup;h ib:=F.called_set.init.bind (.ref ¸)
   repeat (any_goals (first | assumption | wp_step))
   r codeAny_mono (codeAny_call_builtin (R:=wants (fun r s₂=>r=.none/\∃ h' tk es t ks,s₂={s with heap:=h',toks:=tk}/\TS prog w h' ¸ es t ks/\Of vals items.size ks/\(∀ b o,s.heap.get? b=some o->h'.get? b=some o)) E) F.called_set.init.plain F.entry_set_init (check_set_init_1 tS ?_)) fun r₂ s₂ hr₂=>?_
   ·o⟨⟨ocls,odict,odata,oslots⟩,hol,hcl,nl,hdl⟩:=id hl
    simp only at hcl hdl;subst hcl hdl;h hol2:(s.heap.push {cls:=.type "set",dict:=none,data:=.set #[] 0 (.fresh 0 0 led)}).get? l=some {cls:=.type "list",dict:=odict,data:=.seq items nl,slots:=oslots}:=° _ hol;h s1:=F.sub_list_set;h s2:=F.sub_list_frozenset;h s3:(Value.type "list" == Value.type "dict")=false:=by decide
    h hl1:(s.heap.push {cls:=.type "set",dict:=none,data:=.set #[] 0 (.fresh 0 0 led)}).IsList l items:=⟨_,hol2,rfl,nl,rfl⟩;unfold Builtin.«set.__init__» noKeywords Builtin.Frozenset.updateFrom;generalize hPI:pyIter=PI
    wp_walk
    subst hPI;r wpAny_pyIter_list hl1 ?_;r wpAny_bind (wpAny_runValue ?_);h ll:l<¸:=Heap.lt_size hol;h h3:A.in1.in1.in1.handled=none:=by simp[hh]
    h nI:l≠(s.heap.push {cls:=.type "set",dict:=none,data:=.set #[] 0 (.fresh 0 0 led)}).objs.size:=by
     rw[Heap.size_push];!Nat.ne_of_lt (Nat.lt_succ_of_lt ll)
    h nS:¸∉[(s.heap.push {cls:=.type "set",dict:=none,data:=.set #[] 0 (.fresh 0 0 led)}).objs.size,l]:=by
     rw[Heap.size_push];simp only[List.mem_cons,List.mem_singleton,List.not_mem_nil,or_false,not_or];!⟨Nat.ne_of_lt (Nat.lt_succ_self _),Nat.ne_of_gt ll⟩
    h lows:∀ j,j<items.size->(vals j).2<¸:=fun j hj=>by
     o⟨o,_,_,ho,_⟩:=hK j hj;!Heap.lt_size ho
    h old2:∀(x:Obj) b o,s.heap.get? b=some o->((s.heap.push {cls:=.type "set",dict:=none,data:=.set #[] 0 (.fresh 0 0 led)}).push x).get? b=some o:=fun x b o e=>° _ (° _ e);r XQ (s:=_) ((Walks.list h3 _ l nI items).toS) ¸ nS vals hv h61 (fun j hj z=>?_) ?_ (fun s' es' t' ks' X' O' mv=>?_) (items.size-0) 0 _ #[] (.fresh 0 0 led) [] ¢ (Nat.zero_le _)
     ⟨⟨_,¿ _ rfl,rfl,rfl⟩,(hl1.push _)⟩ (AAa hled (° _ gS)) (fun j hj=>Gs (hK j hj) fun o e=>old2 _ _ _ e) ⟨fun x hx=>(by cases hx),fun j hj=>absurd hj ¢,Nat.le_refl _⟩ (Moved.refl fun _=>rfl)
    ·have:=lows j hj
     rw[Heap.size_push] at z;simp only[List.mem_cons,List.mem_singleton,List.not_mem_nil,or_false] at z;rcases z with z | z
     ·!absurd z (Nat.ne_of_lt this)
     ·!absurd z (Nat.ne_of_lt (Nat.lt_succ_of_lt this))
    ·show A.units+1+1+1<cLine
     w
    ·o⟨h',g',d',tk',os'⟩:=s'
     h eg:g'=s.gens:=mv.gens;h ed:d'=s.drawn:=mv.drawn;h eo:os'=s.os:=mv.os;subst eg ed eo;show wpAny _ _ _ _ _ _;r wpAny_pure ?_;show wpAny _ _ (ret Value.none) _ _ _;r wpAny_pure ⟨rfl,h',tk',es',t',ks',rfl,X',O',fun b o e=>?_⟩;h hb:=Heap.lt_size e;r mv.heap b o ?_ (old2 _ b o e);rw[Heap.size_push];simp only[List.mem_cons,List.mem_singleton,List.not_mem_nil,or_false,not_or];!⟨Nat.ne_of_lt hb,Nat.ne_of_lt (Nat.lt_succ_of_lt hb)⟩
   ·cases r₂ with
    | error e=>!hr₂
    | ok fl₂ =>
     cases fl₂ with
     | ret r =>
      o⟨rfl,h',tk,es,t,ks,rfl,X',O',kp⟩:=hr₂
      repeat (any_goals (first | assumption | wp_step))
      !q _ _ _ _ _ X' O' kp
     | _=>!hr₂.elim
  | _=>!hr.elim
end
end SB
namespace L2
open PySem PySem.Spec PyProof.Rows
section
variable{X:Cx}{e:Expr}{te:TE}{p1 p2 pos pos2:Pos}
theorem ik_ofB{pins:List ⑤}{σ:St}{H:Hp}{s:Shared}(I:Inv X pins σ H s){b:Addr}{ns:List Int}(h:SqT X.K H b ⑭):SB.IK X.prog X.w s.heap ns b:=by
 o⟨its,r,⟨o,ho,hc,n,hd⟩,_⟩:=I.tuple h;!⟨o,its.toArray,n,ho,hc,hd,by simpa using SM r⟩
def YC(K:¨)(te:TE):TE:=fun σ H Q=>te σ H fun v H1=>∃ a xs rs,v=.ref a/\SqL K H1 a xs/\Paired (rPair K H1) rs xs/\(∀ ms:List ⑧,ms.Nodup->(∀ m∈ms,m∈rs)->ms.length<=300)/\(∀ r∈rs,r≠[]) /\
 ∀ l ys ms,H1 l=none->ms.Pairwise (fun a b=>HT.lexLt a b=true)->(∀ r,r∈ms↔r∈rs)->Paired (rPair K H1) ms ys->Paired (fun m y=>∃ i:Nat,rs[i]?=some m/\xs[i]?=some y) ms ys->Q (.ref l) (upd H1 l (.lst ys))
theorem TY(hc:X.calm=true)(hu:X.A.units+7<cLine)(hg:Gl X "sorted")(hm:X.mg "sorted" = none)(hg2:Gl X "set")(hm2:X.mg "set" = none)(he:PE X e te)
  (hv:bootBuiltins "sorted" = some (.builtin "sorted"):=by !PyProof.Rows.boot_sorted) (hv2:bootBuiltins "set" = some (.type "set"):=by decide +kernel)
  (s1:starEach [e] X.env=(false,eval e X.env)::starEach [] X.env:=by rfl)
  (s2:starEach [.Call (.Name "set" p2) [e] [] pos2] X.env=(false,eval (.Call (.Name "set" p2) [e] [] pos2) X.env)::starEach [] X.env:=by rfl) :
  PE X (.Call (.Name "sorted" p1) [.Call (.Name "set" p2) [e] [] pos2] [] pos) (YC X.K te):=by
 intro pins s σ H Q I h;r wpAny_Call_Name_kw (Ej I hg hm hv ?_ ¤ ¤);r PyProof.Rows.callWith_builtin1 ?_ s2 rfl;rw[s2];show wpAny _ _ (spliced ((false,eval (.Call (.Name "set" p2) [e] [] pos2) X.env)::backTo pos (starEach [] X.env))) _ _ s;r Calls.spliced_cons ?_;r wpAny_Call_Name_kw (Ej I hg2 hm2 hv2 ?_ ¤ ¤);r PyProof.Rows.callWith_type1 ?_ s1 rfl;rw[s1];show wpAny _ _ (spliced ((false,eval e X.env)::backTo pos2 (starEach [] X.env))) _ _ s;r Calls.spliced_cons (thn (he pins s σ H _ I h) fun u s1 ⟨x,H1,I1,r1,q1⟩=>?_);r Calls.spliced_nil ?_;o⟨a,xs,rs,rfl,ha,pr,h61,hne,q⟩:=q1;cases r1;o⟨its,r,pl,_⟩:=I1.list ha;h lx:=r.length;h lr:=Paired.length pr;h hl:=pl.isList;h at_:∀ i:Nat,i<its.length->∃ b ns,its[i]?=some (.ref b)/\xs[i]?=some (.ref b)/\rs[i]?=some ns/\rPair X.K H1 ns (.ref b):=fun i hi=>by
  h hx:i<xs.length:=by w
  o⟨ns,hns,rp⟩:=Paired.get pr (± hx);o⟨b,eb,hb⟩:=Cz rp;o⟨u,hu',ru⟩:=r.get (± hx);rw[eb] at ru rp;cases ru;!⟨b,ns,hu',by rw[± hx,eb],hns,rp⟩
 h pick:∃ vals:Nat->List Int×Addr,∀ i:Nat,i<its.length->its[i]?=some (.ref (vals i).2)/\rs[i]?=some (vals i).1/\rPair X.K H1 (vals i).1 (.ref (vals i).2)/\xs[i]?=some (.ref (vals i).2):=by
  r⟨fun i=>if h:i<its.length then (Classical.choose (Classical.choose_spec (at_ i h)),Classical.choose (at_ i h)) else ([],0),fun i hi=>?_⟩;h z:=Classical.choose_spec (Classical.choose_spec (at_ i hi));dsimp only;rw[dif_pos hi];!⟨z.1,z.2.2.1,z.2.2.2,z.2.1⟩
 o⟨vals,hvals⟩:=pick;h hsz:its.toArray.size=its.length:=by simp
 h few:∀ ks:List ⑬,(∀ x∈ks,∃ j,j<its.length/\x=vals j)->(ks.map (·.1)).Nodup->ks.length<=300:=fun ks hs hn=>by
  have:=h61 (ks.map (·.1)) hn fun m hm=>by
   o⟨x,hx,rfl⟩:=List.mem_map.mp hm;o⟨j,hj,rfl⟩:=hs x hx;!List.mem_of_getElem? (hvals j hj).2.1
  rwa [List.length_map] at this
 r SB.ACh (items:=its.toArray) (vals:=vals) (I1.ok.hd hc) ¢ hl (fun i v hv=>?_) (fun j hj=>?_) (by rw[hsz]; !few) fun h' tk es t ks T O kp=>?_
 ·h hi:i<its.length:=by
   have:=(Array.getElem?_eq_some_iff.mp hv).1;rw[hsz] at this;!this
  h z:=(hvals i hi).1;h hv':its[i]?=some v:=by simpa using hv
  rw[hv'] at z;!Option.some.inj z
 ·rw[hsz] at hj
  o⟨b,eb,hb⟩:=Cz (hvals j hj).2.2.1;cases eb;!ik_ofB I1 hb
 r Calls.spliced_nil ?_;rw[hsz] at O;h hK:∀ x∈ks,SB.IK X.prog X.w h' x.1 x.2:=fun x hx=>by
  o⟨j,hj,rfl⟩:=O.sub x hx;o⟨b,eb,hb⟩:=Cz (hvals j hj).2.2.1;cases eb;!SB.Gs (ik_ofB I1 hb) fun o e=>kp _ o e
 h inrs:∀ j,j<its.length->(vals j).1∈rs:=fun j hj=>List.mem_of_getElem? (hvals j hj).2.1;h hSz:s1.heap.objs.size<=h'.objs.size:=by
  o⟨o,_,ho,_⟩:=T.obj;!Nat.le_of_lt (Heap.lt_size ho)
 r SB.sorted_set (s:={s1 with heap:=h',toks:=tk}) (I1.ok.hd hc) T hK (fun x hx=>?_) (Nat.le_succ_of_le (few ks O.sub T.nd)) fun h2 tk2 D ko e kp2 hD he pk so=>?_
 ·o⟨j,hj,rfl⟩:=O.sub x hx
  !hne _ (inrs j hj)
 h hD':s1.heap.objs.size<=D:=Nat.le_trans hSz hD;h hn:H1 D=none:=I1.hok.fresh hD';h lko:ko.length<=301:=by rw[pk.length_eq]; !Nat.le_succ_of_le (few ks O.sub T.nd)
 h kov:∀ x∈ko,∃ j,j<its.length/\x=vals j:=fun x hx=>O.sub x (pk.mem_iff.mp hx);h vl:∀ l:List ⑬,Vals (l.map fun x=>V.ref x.2) (l.map fun x=>Value.ref x.2):=fun l=>by
  induction l with
  | nil=>!.nil
  | cons x r ih=>!.cons rfl ih
 h pv:∀ l:List ⑬,(∀ x∈l,∃ j,j<its.length/\x=vals j)->Paired (rPair X.K H1) (l.map (·.1)) (l.map fun x=>V.ref x.2):=fun l=>by
  induction l with
  | nil=>!fun _=>.nil
  | cons x r ih =>
   intro hh;o⟨j,hj,rfl⟩:=hh x ´;!.cons (hvals j hj).2.2.1 (ih fun y hy=>hh y (¶ _ hy))
 h pw:∀ l:List ⑬,(∀ x∈l,∃ j,j<its.length/\x=vals j)->Paired (fun m y=>∃ i:Nat,rs[i]?=some m/\xs[i]?=some y) (l.map (·.1)) (l.map fun x=>V.ref x.2):=fun l=>by
  induction l with
  | nil=>!fun _=>.nil
  | cons x r ih =>
   intro hh;o⟨j,hj,rfl⟩:=hh x ´;!.cons ⟨j,(hvals j hj).2.1,(hvals j hj).2.2.2⟩ (ih fun y hy=>hh y (¶ _ hy))
 r⟨.ref D,_,I1.laid (o:=.lst (ko.map fun x=>V.ref x.2)) (a:=D) (t':=tk2) (fun b o eb=>kp2 b o (kp b o eb)) hD' ⟨?_,ko.map (fun x=>Value.ref x.2),e,vl ko,he⟩,rfl,q D _ (ko.map (·.1)) hn so (fun rr=>?_) (pv ko kov) (pw ko kov)⟩
 ·rw[List.length_map]
  !small ¢
 ·constructor
  ·intro hr
   o⟨x,hx,rfl⟩:=List.mem_map.mp hr;o⟨j,hj,rfl⟩:=kov x hx;!inrs j hj
  ·intro hr
   o⟨j,hj⟩:=List.mem_iff_getElem?.mp hr;h hjl:j<its.length:=by
    have:=(List.getElem?_eq_some_iff.mp hj).1;w
   h z:=(hvals j hjl).2.1;rw[hj] at z;cases z;!(pk.map (·.1)).mem_iff.mpr (O.sup j hjl)
end
end L2
end
section
namespace K53s
open PySem L2 G
def Vo(K:¨)(C:Addr):Sp:=fun vs H Q _=>∃(l:Addr) (n top:Nat) (rows:List Row),vs=[.int n,.ref l,.int top]/\RowsAt K H l rows/\Ok n rows/\n<=12/\rows.length<=4100/\FewB rows top/\Knot rows top /\
 ∀(p:Addr) (nums:List Row) (hd:Nat) (H':Hp),Same H H'->SvAt K C H' p n nums hd->Canon n nums hd->(∀ s,led nums hd s=led rows top s)->(nums.length<=4000/\nums.length<=rows.length/\∀ t,(nums.filter fun r=>decide (r.1=t)).length<=300)->Q (.ref p) H'
def pl01:List (Key×V):=mergeK [] [(Sum.inl (0:Int),V.int 0),(Sum.inl (1:Int),V.int 1)]
theorem ABP:PlD pl01 fun k=>if k=0 then some 0 else if k=1 then some 1 else none:=by
 intro k;show valV (putK (putK ([]:List (Key×V)) (Sum.inl (0:Int)) (V.int 0)) (Sum.inl (1:Int)) (V.int 1)) (Sum.inl (k:Int))=_;rw[Ed,Ed];by_cases k1:k=1
 ·subst k1; rfl
 by_cases k0:k=0
 ·subst k0; rfl
 rw[if_neg (fun z=>k1 (by injection z with z; w)),if_neg (fun z=>k0 (by injection z with z; w))];dsimp only;rw[if_neg k0,if_neg k1];rfl
theorem AEW:pl01.length<=2+4100*0:=by
 show (putK (putK ([]:List (Key×V)) (Sum.inl (0:Int)) (V.int 0)) (Sum.inl (1:Int)) (V.int 1)).length<=2+4100*0;!Nat.le_trans (CT _ _ _) (Nat.succ_le_succ (CT _ _ _))
def LayR(rows:List Row)(pl:Nat->Option Nat)(H:Hp)(k:Nat)(v:V):Prop:=∃ q b,v=.ref q/\H q=some (.tup [.int k,.ref b])/\H b=some (.tup (r3 ⑫))
theorem LayR.keeps{rows:List Row}{pl:Nat->Option Nat}{H H':Hp}{k:Nat}{v:V}(e:∀ a xs,H a=some (.tup xs)->H' a=some (.tup xs))(h:LayR rows pl H k v):LayR rows pl H' k v :=
 let ⟨q,b,h1,h2,h3⟩:=h; ⟨q,b,h1,e _ _ h2,e _ _ h3⟩
def RowR(H:Hp)(r:Row)(v:V):Prop:=∃ b,v=.ref b/\H b=some (.tup (r3 r))
theorem RowR.keeps{H H':Hp}{r:Row}{v:V}(e:∀ a xs,H a=some (.tup xs)->H' a=some (.tup xs))(h:RowR H r v):RowR H' r v :=
 let ⟨b,h1,h2⟩:=h; ⟨b,h1,e _ _ h2⟩
def sel(rows:List Row)(pl:Nat->Option Nat)(ly:List Nat)(j:Nat):List Row:=((ly.take j).map (rowIn rows pl)).filter fun r=>decide (r.2.2≠0)
theorem Tf{rows:List Row}{pl:Nat->Option Nat}{ly:List Nat}{j k:Nat}(h:ly[j]?=some k):sel rows pl ly (j+1)=sel rows pl ly j++if ⑫.2.2≠0 then [rowIn rows pl k] else []:=by
 unfold sel;rw[List.take_add_one,h,List.map_append,List.filter_append];by_cases c:⑫.2.2≠0
 ·simp[c]
 ·simp[c]
theorem WQ(rows:List Row)(pl:Nat->Option Nat)(ly:List Nat)(j:Nat):(sel rows pl ly j).length<=ly.length:=by
 unfold sel;r Nat.le_trans (List.length_filter_le _ _) ?_;rw[List.length_map,List.length_take];w
theorem PJ{rows:List Row}{pl:Nat->Option Nat}{ly:List Nat}{r:Row}:r∈sel rows pl ly ly.length↔∃ k∈ly,r=rowIn rows pl k/\r.2.2≠0:=by
 unfold sel;rw[List.take_length,List.mem_filter,List.mem_map];constructor
 ·rintro⟨⟨k,hk,rfl⟩,h⟩
  !⟨k,hk,rfl,of_decide_eq_true h⟩
 ·rintro⟨k,hk,rfl,h⟩
  !⟨⟨k,hk,rfl⟩,decide_eq_true h⟩
def placeOf(rows:List Row)(pl:Nat->Option Nat)(nums:List Row)(k:Nat):Nat:=(numOf 2 nums ⑫).getD ⑫.2.1
theorem Kr{α β γ:Type}{F:β->γ->Prop}{f:α->β}:∀{l:List α}{m:List γ},Paired (fun a b=>F (f a) b) l m->Paired F (l.map f) m
 | _,_,.nil=>.nil
 | _,_,.cons h t=>.cons h (Kr t)
theorem ACf{rows new:List Row}{rc:List Nat}{pl:Nat->Option Nat}{t:Nat}(h:(new.map r3i).Pairwise (fun a b=>HT.lexLt a b=true))(hw:∀ r,r∈new->∃ k,k∈rc/\tieOf rows k=t/\r=rowIn rows pl k/\r.2.2≠0):new.Pairwise RowLt:=by
 h h2:new.Pairwise (fun a b=>HT.lexLt (r3i a) (r3i b)=true):=List.pairwise_map.mp h;h tie:∀ r∈new,r.1=t:=fun r hr=>by
  o⟨k,_,h,e,_⟩:=hw r hr;rw[e];!h
 r List.Pairwise.imp_of_mem (fun {a b} ha hb z=>?_) h2;h ea:=tie a ha;h eb:=tie b hb;o⟨a1,a2,a3⟩:=a;o⟨b1,b2,b3⟩:=b;dsimp only at ea eb;subst ea;subst eb;unfold r3i at z;dsimp only at z;rw[HT.Br,if_pos rfl,HT.Br] at z;r .inr ⟨rfl,?_⟩;dsimp only;by_cases c:(a2:Int)=b2
 ·rw[if_pos c,HT.Br] at z
  by_cases d:(a3:Int)=b3
  ·rw[if_pos d] at z
   cases z
  ·rw[if_neg d] at z
   have:=of_decide_eq_true z;!.inr ⟨by w,by w⟩
 ·rw[if_neg c] at z
  have:=of_decide_eq_true z;!.inl ¢
section
variable{P:Program}{w:World}{K:¨}{mg:Str->Option Value}{base:Heap}{f C:Addr}{fd:FuncData}
theorem Ds:FnScope ["n", "rows", "top", "reached", "numbers", "places", "tie", "layer", "row", "knot"] ["n", "rows", "top"] (Ac Fv):=¡
theorem Zv{fR fI fS:Addr}{fdR fdI fdS:FuncData}(F:Fun K "least_graph" "least_graph" Fv f fd)(T:Txt K mg C)(M:Mk K C fS)
  (GR:FnOk P w K mg base CX0 1 fR fdR ["rows", "top"] (WK K)) (bR:Binds K fdR ["rows", "top"] []) (kR:© K (.ref fR)=true) (mR:mg "reached_knots" = some (.ref fR))
  (GI:FnOk P w K mg base CX0 1 fI fdI ["places", "row"] (AEz K)) (bI:Binds K fdI ["places", "row"] []) (kI:© K (.ref fI)=true) (mI:mg "row_in_places" = some (.ref fI))
  (GS:FnOk P w K mg base CX0 1 fS fdS ["self", "n", "rows", "head"] (JW K C)) (bS:Binds K fdS ["self", "n", "rows", "head"] []) :
  FnOk P w K mg base CX0 3 f fd ["n", "rows", "top"] (Vo K C):=by
 r F.ok Ds § ¦
 ·o⟨l,n,top,rows,rfl,_⟩:=h
  rfl
 o⟨l,n,top,rows,rfl,hL,ok,n12,r72,fw,kt,q⟩:=h;h hr1:Room 1 _:=hr.mono ¤;r⟨_,Ae (Ax (i:=3) Ds.nd rfl ④ (BP GR hr1 rfl mR kR bR .nil pass0 (Aa (pv 1) (Aa (pv 2) Ad))))
  (Ae (Ax (i:=4) Ds.nd rfl ④ Zy)
  (Ae (Ax (i:=5) Ds.nd rfl (Or.inr rfl) (Wc (Lj Ah Ah (Lj Ah Ah WW)) rfl rfl (by intro z; cases z) ¤))
  (Ae (Cw PassesOwn.never rfl (NT rfl T.range (Aa (Aw DP (pv 0) Ah) (Aa (Wr Py Ah) (Aa (Wr Py Ah) Ad)))) (Am (i:=6) Ds.nd rfl (Or.inr rfl))
   (Ae (Pg (i:=7) (Ac Fv) ["knot"] ["places", "rows", "tie"] [5,1,6] Ds.nd rfl ④ rfl rfl £ ⟨⟨rfl,£⟩,⟨rfl,£⟩,⟨rfl,£⟩,trivial⟩ (Bv (pv 3))
    (fun _ _ _=>Am (i:=0) (show ((["knot"]:List Str)++(["places", "rows", "tie"]:List Str)).Nodup by decide +kernel) rfl ④)
    (fun _ _ _=>Dg (Ar Ey (Bc (Pz (K:=K) rfl) (Bc (Pz (K:=K) rfl) (pv 2) (Aw DP (pv 0) Ah) (fun _ _=>rfl)) Ah (fun _ _=>rfl)) (pv 3) ⑮))
    (fun _ _ _=>CG (Aa (pv 0) (Aa (BP GI hr1 rfl mI kI bI .nil pass0 (Aa (pv 1) (Aa (Bc (Pz (K:=K) rfl) (pv 2) (Aw DP (pv 0) Ah) (fun _ _=>rfl)) Ad))) Ad))))
   (Ae (Cw PassesOwn.never rfl (Bv (TY rfl (CW hr) rfl T.sorted rfl T.set
     (Ca (Ac Fv) ["knot", "row"] [] [] rfl rfl £ trivial (Bv (pv 7))
      (fun _ _ _=>Ft (K:=K) (n:=2) rfl rfl (Bb (Am (i:=0) (show ((["knot", "row"]:List Str)++([]:List Str)).Nodup by decide +kernel) rfl ④) (Bb (Am (i:=1) (show ((["knot", "row"]:List Str)++([]:List Str)).Nodup by decide +kernel) rfl ④) Dw)))
      (fun _ _ _=>Dg (Ar Ot (Bc (ACH (K:=K) rfl) (pv 1) Ah (fun _ _=>rfl)) Ah ⑮))
      (fun _ _ _=>pv 1)))) (Am (i:=8) Ds.nd rfl ④)
    (Aj (Jw (CW hr) (pv 4) (pv 8) (Aw Cv (BL TX rfl T.len PySem.boot_len (Aa (pv 4) Ad)) Ah) rfl)))
   (Aj (Cw PassesOwn.never rfl (Bv (pv 7)) (Ft (K:=K) (n:=2) rfl rfl (Bb (Am (i:=9) Ds.nd rfl ④) (Bb (Am (i:=8) Ds.nd rfl ④) Dw)))
    (Aj (Jw (CW hr) (pv 5) (pv 9) (AAG (CW hr) (pv 4) (pv 8) (Bc Dn (pv 8) Ah (fun _ _=>rfl)) ⟨rfl,rfl,rfl,rfl⟩) rfl)))))))
  (Aj (Av (Iv M GS hr rfl T.mgC bS .nil pass0 (Aa (pv 0) (Aa (Bk (QF rfl) rfl T.list PyProof.Rows.boot_list (Aa (pv 4) Ad)) (Aa (Qe (CW hr) (pv 5) (pv 2) (fun _ _=>rfl)) Ad))))))))),?_⟩
 r⟨_,rfl,_,rfl,l,n,top,rows,rfl,hL,ok,r72,kt,fun R rc H1 s1 nR eR cl tr rl0 par=>?_⟩;h rl:∀ t j,(lay rows t rc j).length<=4100:=fun t j=>Nat.le_trans (rl0 t j) (Nat.le_trans (List.length_filter_le ..) r72);r fun N hN=>?_;h nN:H N=none:=s1.free hN;h s2:=s1.trans (Same.new hN (.dT []));r fun D hD=>⟨Ab,[(.inl (0:Int),.int 0),(.inl (1:Int),.int 1)],rfl,(by show 2<=15; decide),?_⟩;h nD:H D=none:=s2.free hD;h RN:R≠N:=Ag eR hN;h RD:R≠D:=Ag (show (upd H1 N (.dT [])) R=some (.lst (iN rc)) by rw[Af RN]; !eR) hD;h ND:N≠D:=Ag (show (upd H1 N (.dT [])) N=some (.dT []) from Ab) hD;r⟨_,rfl,_,_,rfl,rfl,1,rfl,1,rfl,(n:Int)-1,-1,rfl,⟨by w,by w,by w,by w⟩,?_⟩;r Qj (lo:=(n:Int)-1) (n:=((n:Int)-1 - -1).toNat) (fun i σ H2=>∃(nums:List Row) (kvs:List (Key×V)) (pl:Nat->Option Nat) (o6 o7 o8 o9:Option V),σ=[some (.int n),some (.ref l),some (.int top),some (.ref R),some (.ref N),some (.ref D),o6,o7,o8,o9]/\Same H H2 /\
   H2 R=some (.lst (iN rc))/\H2 N=some (.dT (numKV 2 nums))/\H2 D=some (.dK kvs)/\PlD kvs pl/\Kept2 n (n-i) rows rc nums pl/\nums.length<=300*i/\kvs.length<=2+4100*i/\∀ t,(nums.filter fun r=>decide (r.1=t)).length<=300)
  ⟨[],_,fun k=>if k=0 then some 0 else if k=1 then some 1 else none,none,none,none,none,rfl,fun b o e=>?_,?_,?_,Ab,?_,?_,by simp,?_,fun t=>Nat.zero_le _⟩ ?_ ?_
 ·rw[Af (Ag e nD),Af (Ag e nD)]
  !s2 b o e
 ·rw[Af RD,Af RD,Af RN]
  !eR
 ·rw[Af ND,Af ND,Ab]
  rfl
 ·!ABP
 ·!Uj fun k hk=>(cl.low ok hk).1
 ·!AEW
 ·rintro i σ H2 hi ⟨nums,kvs,pl,o6,o7,o8,o9,rfl,sm,eR2,eN2,eD2,pd,kp,nl,kl,cn⟩
  obtain ⟨t,et,tn,tn',tlt⟩:∃ t:Nat,(n:Int)-1-i=t/\n-i=t+1/\n-(i+1)=t/\t<n:=⟨n-1-i,by w,by w,by w,by w⟩;rw[et];rw[tn] at kp;h hL2:=hL.same sm;r⟨_,rfl,R,rfl,⟨_,SqL.of eR2⟩,fun Y hY=>?_⟩;h nY:H Y=none:=sm.free hY;r Ck (K:=K) (a:=R) (xs:=iN rc) (fun j τ H3=>∃(kv:Option V) (ys:List V),τ=[kv,some (.ref D),some (.ref l),some (.int t)]/\Same H2 H3/\H3 Y=some (.lst ys)/\Paired (LayR rows pl H3) (lay rows t rc j) ys)
   ⟨none,[],rfl,Same.new hY _,Ab,.nil⟩ (fun j τ H3 _ ⟨_,_,_,s3,_⟩=>s3.seq (SqL.of eR2)) ?_ ?_
  ·rintro j x τ H3 hx ⟨kv,ys,rfl,s3,eY,py⟩
   obtain ⟨k,hk,rfl⟩:∃ k:Nat,rc[j]?=some k/\x=.int (k:Int):=by
    unfold iN at hx;rw[List.getElem?_map] at hx;cases g:rc[j]? with
    | none=>rw[g] at hx; cases hx
    | some k=>rw[g] at hx; cases hx; !⟨k,rfl,rfl⟩
   h km:=List.mem_of_getElem? hk;o⟨xs,p,hS,ha,hp⟩:=Pj (hL2.same s3) (cl.knot k km) (cl.two k km);r⟨_,rfl,_,rfl,_,_,rfl,rfl,ixA hS ha (ixA hp at0 ⟨_,rfl,rfl,_,rfl,?_⟩)⟩;r ite2 (fun c=>?_) (fun c=>?_)
   ·h c':tieOf rows k=t:=by
     have:=of_decide_eq_true c;injection this with this
     !Int.ofNat.inj this
    o⟨a,b,pa,pb,re,_⟩:=kp.base.row cl ok tlt km c';h hx':valV kvs (Sum.inl ((÷.2.1:Nat):Int))=some (.int (a:Int)):=by
     have:=pd (outOf rows k);rw[pa] at this;!this
    h hy':valV kvs (Sum.inl ((÷.2.2:Nat):Int))=some (.int (b:Int)):=by
     have:=pd (intoOf rows k);rw[pb] at this;!this
    r⟨_,rfl,_,rfl,_,rfl,_,rfl,_,_,rfl,rfl,ixA hS ha ⟨D,p,rows.getD (k-2) (0,0,0),a,b,kvs,rfl,s3 _ _ eD2,⟨p,rfl,hp⟩,hx',hy',fun u hu=>?_⟩⟩;r⟨(by show 2<=sizeLine; decide),fun v hv=>?_⟩;h er:[V.int (÷.1:Nat),V.int (a:Int),V.int (b:Int)]=r3 ⑫:=by
     rw[re,<- c'];rfl
    rw[er];rw[er] at hv;h su:=Same.new hu (.tup (r3 ⑫));h sv:=Same.new hv (.tup [.int (k:Int),.ref u]);h eY2:=sv _ _ (su _ _ eY);h ll:=rl t j;h ly:ys.length<=4100:=by rw[<- Paired.length py]; w
    h kt:∀ a xs,(upd (upd H3 u (.tup (r3 ⑫))) v (.tup [.int (k:Int),.ref u])) a=some (.tup xs)->(upd (upd (upd H3 u (.tup (r3 ⑫))) v (.tup [.int (k:Int),.ref u])) Y (.lst (ys++[.ref v]))) a=some (.tup xs):=fun a xs e=>by
     rw[Af (Cd e eY2 (by intro z; cases z))]; !e
    r⟨_,eY2,smallN ¢,_,_,rfl,fun b o e=>?_,Ab,?_⟩
    ·rw[Af (Ag e hY)]
     !sv _ _ (su _ _ (s3 b o e))
    ·rw[RV hk,if_pos c']
     r Paired.app (Paired.imp (fun a b r=>(r.keeps fun a xs e=>sv _ _ (su _ _ e)).keeps kt) py) (Paired.one ⟨v,u,rfl,kt _ _ Ab,kt _ _ (sv _ _ Ab)⟩)
   ·h c':¬ tieOf rows k=t:=fun e=>c (decide_eq_true (by show V.int ((tieOf rows k:Nat):Int)=V.int (t:Int); rw[e]))
    r⟨_,_,rfl,s3,eY,?_⟩;rw[RV hk,if_neg c',List.append_nil];!py
  ·rintro τ H3 ⟨kv,ys,rfl,s3,eY,py⟩
   h rcl:(iN rc).length=rc.length:=List.length_map ..;rw[rcl] at py;h ll:=rl t rc.length;h ly:ys.length<=4100:=by rw[<- Paired.length py]; w
   r⟨_,rfl,Y,rfl,⟨_,SqL.of eY⟩,fun Z hZ=>?_⟩;r Ck (K:=K) (a:=Y) (xs:=ys) (fun j τ H4=>∃(o1 o2:Option V) (zs:List V),τ=[o1,o2]/\Same H3 H4/\H4 Z=some (.lst zs)/\Paired (RowR H4) (sel rows pl (lay rows t rc rc.length) j) zs)
    ⟨none,none,[],rfl,Same.new hZ _,Ab,.nil⟩ (fun j τ H4 _ ⟨_,_,_,_,s4,_⟩=>s4.seq (SqL.of eY)) ?_ ?_
   ·rintro j x τ H4 hx ⟨o1,o2,zs,rfl,s4,eZ,pz⟩
    o⟨k,hk,u,b,rfl,hu,hb⟩:=Paired.get py hx;h hu4:=s4 _ _ hu;h hb4:=s4 _ _ hb;r⟨u,_,rfl,SqT.of hu4,rfl,_,_,rfl,_,_,rfl,rfl,?_⟩;r⟨_,rfl,b,_,_,_,rfl,rfl,SqT.of hb4,at2,rfl,_,rfl,?_⟩;h zl:zs.length<=4100:=by rw[<- Paired.length pz]; !Nat.le_trans (WQ _ _ _ _) ¢
    r ite2 (fun c=>?_) (fun c=>?_)
    ·h c':⑫.2.2≠0:=fun e=>by
      rw[e] at c;!absurd c ¤
     r⟨_,rfl,_,eZ,smallN ¢,_,_,_,rfl,fun b o e=>?_,Ab,?_⟩
     ·rw[Af (Ag e hZ)]
      !s4 b o e
     ·rw[Tf hk,if_pos c']
      h kz:∀ a xs,H4 a=some (.tup xs)->(upd H4 Z (.lst (zs++[.ref b]))) a=some (.tup xs):=fun a xs e=>by rw[Af (Cd e eZ (by intro z; cases z))]; !e
      !Paired.app (Paired.imp (fun a b r=>r.keeps kz) pz) (Paired.one ⟨b,rfl,kz _ _ hb4⟩)
    ·h c':⑫.2.2=0:=by
      rcases Nat.eq_zero_or_pos ⑫.2.2 with e | e
      ·!e
      ·!absurd (by rw[decide_eq_false (fun z=>by injection z with z; w)]; rfl) c
     r⟨_,_,_,rfl,s4,eZ,?_⟩;rw[Tf hk,if_neg (fun z=>z c'),List.append_nil];!pz
   ·rintro τ H4 ⟨o1,o2,zs,rfl,s4,eZ,pz⟩
    rw[<- Paired.length py] at pz;h zl:(sel rows pl (lay rows t rc rc.length) (lay rows t rc rc.length).length).length<=4100:=Nat.le_trans (WQ _ _ _ _) ¢;r⟨Z,zs,(sel rows pl (lay rows t rc rc.length) (lay rows t rc rc.length).length).map r3i,rfl,SqL.of eZ,Kr (Paired.imp (fun r v ⟨b,e,hb⟩=>by rw[e]; !Es (ns:=r3i r) hb) pz),fun ms nd hm=>?_,fun r hr=>?_,fun S ys' ms hS so mem pr pw=>?_⟩
    ·o⟨new,rfl⟩:=Jb ms fun m hm'=>by
      o⟨r',_,e⟩:=List.mem_map.mp (hm m hm');!⟨r',e.symm⟩
     rw[List.length_map];r fw.sel kp cl ok tlt par new ((List.pairwise_map.mp nd).imp fun h e=>h (by rw[e])) fun r hr=>?_;o⟨r',h1,h2⟩:=List.mem_map.mp (hm _ (List.mem_map_of_mem hr));rw[Jt h2] at h1;o⟨k,h1,h2,h3⟩:=PJ.mp h1;o⟨h4,h5⟩:=Ig.mp h1;!⟨k,h4,h5,h2,h3⟩
    ·o⟨r',_,rfl⟩:=List.mem_map.mp hr
     !fun z=>by cases z
    o⟨new,rfl⟩:=Jb ms fun m hm=>by
     o⟨r',_,e⟩:=List.mem_map.mp ((mem m).mp hm);!⟨r',e.symm⟩
    h nd:=Xq so;h inNew:∀ r∈new,r∈sel rows pl (lay rows t rc rc.length) (lay rows t rc rc.length).length:=fun r hr=>by
     o⟨r',h1,h2⟩:=List.mem_map.mp ((mem (r3i r)).mp (List.mem_map_of_mem hr));rw[<- Jt h2];!h1
    h hw:∀ r,r∈new->∃ k,k∈rc/\tieOf rows k=t/\r=rowIn rows pl k/\r.2.2≠0:=fun r hr=>by
     o⟨k,h1,h2,h3⟩:=PJ.mp (inNew r hr);o⟨h4,h5⟩:=Ig.mp h1;!⟨k,h4,h5,h2,h3⟩
    h hw2:∀ k∈rc,tieOf rows k=t->⑫.2.2≠0->rowIn rows pl k∈new:=fun k hk hkt w0=>by
     h h0:r3i ⑫∈new.map r3i:=(mem _).mpr (List.mem_map_of_mem (PJ.mpr ⟨k,Ig.mpr ⟨hk,hkt⟩,rfl,w0⟩));o⟨r',h1,h2⟩:=List.mem_map.mp h0;rw[<- Jt h2];!h1
    h newl:new.length<=300:=fw.sel kp cl ok tlt par new nd hw;h ly':ys'.length=new.length:=by rw[<- Paired.length pr,List.length_map]
    h sS:=Same.new hS (.lst ys');h eN4:=sS _ _ (s4 _ _ (s3 _ _ eN2));h eD4:=sS _ _ (s4 _ _ (s3 _ _ eD2));h eR4:=sS _ _ (s4 _ _ (s3 _ _ eR2));h eY4:=sS _ _ (s4 _ _ eY);h SN:S≠N:=Cd (show (upd H4 S (.lst ys')) S=some (.lst ys') from Ab) eN4 (by intro z; cases z);r⟨S,rfl,⟨_,SqL.of Ab⟩,?_⟩;r DK (K:=K) (a:=S) (xs:=ys') (fun j σ H5=>∃ o8:Option V,σ=[some (.int n),some (.ref l),some (.int top),some (.ref R),some (.ref N),some (.ref D),some (.int t),some (.ref Y),o8,o9]/\(∀ b o,b≠N->(upd H4 S (.lst ys')) b=some o->H5 b=some o) /\
      H5 N=some (.dT (numKV 2 (nums++new.take j)))) ⟨o8,rfl,fun b o _ e=>e,by rw[List.take_zero,List.append_nil]; !eN4⟩ (fun j σ H5 _ ⟨_,_,k5,_⟩=>SqL.of (k5 _ _ SN Ab)) ?_ ?_
    ·rintro j x σ H5 hx ⟨o8,rfl,k5,eN5⟩
     o⟨m,hm,i',hi1,hi2⟩:=Paired.get pw hx;obtain ⟨r,hr,rfl⟩:∃ r,new[j]?=some r/\m=r3i r:=by
      rw[List.getElem?_map] at hm;cases g:new[j]? with
      | none=>rw[g] at hm; cases hm
      | some r=>rw[g] at hm; cases hm; !⟨r,rfl,rfl⟩
     o⟨r',hr',b,rfl,hb⟩:=Paired.get pz hi2;h er:r'=r:=by
      rw[List.getElem?_map,hr'] at hi1;!Jt (Option.some.inj hi1)
     subst er;h bN:b≠N:=Cd (sS _ _ hb) eN4 (by intro z; cases z);h hb5:=k5 _ _ bN (sS _ _ hb);h rn:r'∉nums++new.take j:=fun hm=>by
      rcases List.mem_append.mp hm with hm | hm
      ·have:=kp.base.ge r' hm
       o⟨k,_,h5,h2,_⟩:=hw r' (List.mem_of_getElem? hr);rw[h2] at this;h e:⑫.1=tieOf rows k:=rfl;w
      ·o⟨j',hj'⟩:=List.mem_iff_getElem?.mp hm
       rw[List.getElem?_take] at hj';split at hj'
       ·have:=(List.getElem?_inj (List.getElem?_eq_some_iff.mp hj').1 nd).mp (hj'.trans hr.symm)
        w
       ·cases hj'
     h nl2:(nums++new.take j).length<=300*13:=by
      rw[List.length_append,List.length_take];w
     r⟨_,rfl,N,_,rfl,eN5,_,_,rfl,rfl,_,rfl,_,rfl,N,_,rfl,.inr ⟨_,ik3 r',b,eN5,rfl,hb5,by rw[JH]; !smallN ¢,rfl⟩,?_⟩;r⟨_,rfl,fun b o hb e=>by rw[Af hb]; !k5 b o hb e,?_⟩;rw[Ab,Xr rn,List.take_add_one,hr];rw[List.append_assoc];rfl
    ·rintro σ H5 ⟨o8,rfl,k5,eN5⟩
     rw[ly',List.take_length] at eN5;h DN:D≠N:=Cd eD4 eN4 (by intro z; cases z);h RN4:R≠N:=Cd eR4 eN4 (by intro z; cases z);h YN:Y≠N:=Cd eY4 eN4 (by intro z; cases z);h eD5:=k5 _ _ DN eD4;h eR5:=k5 _ _ RN4 eR4;h eY5:=k5 _ _ YN eY4;h YD:Y≠D:=Cd eY5 eD5 (by intro z; cases z);r⟨_,rfl,Y,rfl,⟨_,SqL.of eY5⟩,?_⟩;r DK (K:=K) (a:=Y) (xs:=ys) (fun j σ H6=>∃(o8 o9:Option V) (kvs':List (Key×V)),σ=[some (.int n),some (.ref l),some (.int top),some (.ref R),some (.ref N),some (.ref D),some (.int t),some (.ref Y),o8,o9]/\(∀ b o,b≠D->H5 b=some o->H6 b=some o) /\
       H6 D=some (.dK kvs')/\PlD kvs' (plOf pl (placeOf rows pl (nums++new)) ((lay rows t rc rc.length).take j))/\kvs'.length<=kvs.length+j) ⟨o8,o9,kvs,rfl,fun b o _ e=>e,eD5,?_,by w⟩ (fun j σ H6 _ ⟨_,_,_,_,k6,_⟩=>SqL.of (k6 _ _ YD eY5)) ?_ ?_
     ·intro k
      rw[pd k];unfold plOf;rw[if_neg ¥]
     ·rintro j x σ H6 hx ⟨o8,o9,kvs',rfl,k6,eD6,pd6,kl6⟩
      o⟨k,hk,u,b,rfl,hu,hb⟩:=Paired.get py hx;h up:∀ a xs,H3 a=some (.tup xs)->H6 a=some (.tup xs):=fun a xs e=>by
       h e4:=sS _ _ (s4 _ _ e);h e5:=k5 _ _ (Cd e4 eN4 (by intro z; cases z)) e4;!k6 _ _ (Cd e5 eD5 (by intro z; cases z)) e5
      h eN6:=k6 _ _ (Ne.symm DN) eN5;h jl:j<ys.length:=(List.getElem?_eq_some_iff.mp hx).1;r⟨u,_,rfl,SqT.of (up _ _ hu),rfl,_,_,rfl,_,_,rfl,rfl,?_⟩;r⟨_,rfl,N,rfl,.inr ⟨_,.inl eN6⟩,_,rfl,_,rfl,b,_,_,_,rfl,rfl,SqT.of (up _ _ hb),at1,_,DGet.t (k:=ik3 ⑫) eN6 (up _ _ hb),?_⟩;r⟨_,rfl,_,rfl,D,_,rfl,.inl ⟨kvs',Sum.inl (k:Int),eD6,rfl,smallN ¢,rfl⟩,?_⟩;h ev:(valV (numKV 2 (nums++new)) (ik3 ⑫)).getD (V.int (⑫.2.1:Nat))=V.int ((placeOf rows pl (nums++new) k:Nat):Int):=by
       rw[JM];unfold placeOf;cases numOf 2 (nums++new) ⑫<;>rfl
      rw[ev];r⟨_,_,_,rfl,fun b o hb e=>by rw[Af hb]; !k6 b o hb e,Ab,?_,by have:=CT kvs' (Sum.inl (k:Int)) (V.int ((placeOf rows pl (nums++new) k:Nat):Int)); w⟩;rw[List.take_add_one,hk];!PlD.put pd6
     ·rintro σ H6 ⟨o8,o9,kvs',rfl,k6,eD6,pd6,kl6⟩
      rw[<- Paired.length py,List.take_length] at pd6;r⟨nums++new,kvs',_,_,_,_,_,rfl,fun b o e=>?_,k6 _ _ (Cd eR5 eD5 (by intro z; cases z)) eR5,k6 _ _ (Ne.symm DN) eN5,eD6,pd6,?_,by rw[List.length_append]; w,by w,fun t1=>?_⟩
      ·h e4:=sS _ _ (s4 _ _ (s3 _ _ (sm b o e)))
       !k6 _ _ (Ag e nD) (k5 _ _ (Ag e nN) e4)
      ·rw[tn']
       r kp.step cl ok tlt hw nd hw2 (ACf so hw) (fun k hk=>?_) (fun k hk ht=>?_)
       ·unfold plOf
        rw[if_neg (fun z=>by
         o⟨z1,z2⟩:=Ig.mp z;rcases hk with hk | hk
         ·!hk z1
         ·!hk z2)]
       ·r⟨placeOf rows pl (nums++new) k,by unfold plOf; rw[if_pos (Ig.mpr ⟨hk,ht⟩)],?_⟩
        unfold placeOf;cases g:numOf 2 (nums++new) ⑫ with
        | some m =>
         o⟨j,h1,h2⟩:=Lk _ _ _ _ g;!.inl ⟨j,h1,by show m=j+2; w⟩
        | none=>!.inr ⟨Kw _ _ _ g,rfl⟩
      ·rw[List.filter_append,List.length_append]
       by_cases c:t1=t
       ·rw[List.filter_eq_nil_iff.mpr fun r hr z=>by
         have:=kp.base.ge r hr;have:=of_decide_eq_true z;w]
        have:=List.length_filter_le (fun r:Row=>decide (r.1=t1)) new;simp only[List.length_nil];w
       ·rw[List.filter_eq_nil_iff (l:=new) |>.mpr fun r hr z=>by
         o⟨k,_,h5,h2,_⟩:=hw r hr;have:=of_decide_eq_true z;rw[h2] at this;h e:⑫.1=tieOf rows k:=rfl;w]
        !cn t1
 ·rintro σ H2 ⟨nums,kvs,pl,o6,o7,o8,o9,rfl,sm,eR2,eN2,eD2,pd,kp,nl,kl,cn⟩
  h e0:n-((n:Int)-1 - -1).toNat=0:=by w
  rw[e0] at kp;h ht:∃ p:Nat,pl top=some p:=by
   rcases tr with h | h
   ·have:top=0\/top=1:=by w
    rcases this with rfl | rfl
    ·!⟨0,kp.base.z⟩
    ·!⟨1,kp.base.o⟩
   ·o⟨p,hp,_⟩:=kp.base.has top h (Nat.zero_le _)
    !⟨p,hp⟩
  o⟨hd,ehd⟩:=ht;r⟨_,rfl,_,rfl,N,_,rfl,eN2,fun A0 ys hA kL=>?_⟩;h sA:=Same.new hA (.lst ys);r⟨_,rfl,_,rfl,D,.int hd,rfl,?_,?_⟩
  ·have:=DGet.k (k:=.inl (top:Int)) (sA _ _ eD2)
   rw[pd top,ehd] at this;!this
  ·intro x dx hx hdx ne
   h hx2:(upd (upd H2 A0 (.lst ys)) dx (.own x)) x=none:=by rw[Af (Ne.symm ne)]; !hx
   h s4:=(Same.new hdx (.own x)).trans (Same.new hx2 (.ins C dx []));r⟨x,dx,A0,n,hd,ys,nums,rfl,Ab,s4.seq (SqL.of Ab),Paired.imp (fun a b r=>Bu _ _ _ _ s4.ts (Bu _ _ _ _ sA.ts r)) (Nv kL),fun H' hs sv=>⟨rfl,q x nums hd H' (fun b o e=>?_) sv (kp.canon cl ok tr ehd par).1 (kp.canon cl ok tr ehd par).2 ⟨by w,Ym kp cl,cn⟩⟩⟩;h e1:=s4 _ _ (sA _ _ (sm b o e));r hs b o e1 fun z=>?_;rw[z] at e;have:=sA _ _ (sm _ o e);rw[hx] at this;cases this
end
end K53s
end
section
namespace K53
open PySem L2 G
variable{u:Ru}
structure Gro(K:¨)(mg:Str->Option Value)(Gc:Addr):Prop where
 cl:Cls K Gc
 mgG:mg "Growth" = some (.ref Gc)
 nW:NoAttr K Gc "web"
 nU:NoAttr K Gc "rule"
 nA:NoAttr K Gc "amount"
 nB:NoAttr K Gc "behind"
 nR:NoAttr K Gc "rows"
 nK:NoAttr K Gc "known"
def gf(W r:Addr)(n:Int)(Bh R D:Addr):List (Str×V):=putF "known" (.ref D) (putF "rows" (.ref R) (putF "behind" (.ref Bh) (putF "amount" (.int n) (putF "rule" (.ref r) (putF "web" (.ref W) [])))))
section
variable (W r Bh R D:Addr)(n:Int)
theorem Kf:(gf W r n Bh R D).lookup ("known" : Str)=some (.ref D):=by unfold gf; rw[Ai,if_pos rfl]
theorem PL:(gf W r n Bh R D).lookup ("rows" : Str)=some (.ref R):=by unfold gf; rw[Ai,if_neg £,Ai,if_pos rfl]
theorem Wu:(gf W r n Bh R D).lookup ("behind" : Str)=some (.ref Bh):=by unfold gf; rw[Ai,if_neg £,Ai,if_neg £,Ai,if_pos rfl]
theorem OD:(gf W r n Bh R D).lookup ("amount" : Str)=some (.int n):=by unfold gf; rw[Ai,if_neg £,Ai,if_neg £,Ai,if_neg £,Ai,if_pos rfl]
theorem Ju:(gf W r n Bh R D).lookup ("rule" : Str)=some (.ref r):=by unfold gf; rw[Ai,if_neg £,Ai,if_neg £,Ai,if_neg £,Ai,if_neg £,Ai,if_pos rfl]
theorem Pb:(gf W r n Bh R D).lookup ("web" : Str)=some (.ref W):=by unfold gf; rw[Ai,if_neg £,Ai,if_neg £,Ai,if_neg £,Ai,if_neg £,Ai,if_neg £,Ai,if_pos rfl]
theorem Wo{m:Str}(h1:¬ m = "known")(h2:¬ m = "rows")(h3:¬ m = "behind")(h4:¬ m = "amount")(h5:¬ m = "rule")(h6:¬ m = "web"):(gf W r n Bh R D).lookup m=none:=by
 unfold gf;rw[Ai,if_neg h1,Ai,if_neg h2,Ai,if_neg h3,Ai,if_neg h4,Ai,if_neg h5,Ai,if_neg h6]
 all_goals rfl
end
structure Gr(u:Ru)(K:¨)(C Dc Gc:Addr)(g W r Bh R D:Addr)(z:Nat)(bs:List ⑧)(H:Hp):Prop where
 ins:∃ dx,H g=some (.ins Gc dx (gf W r bs.length Bh R D))
 web:WebAt K C H W z bs
 rul:∃ dx,H r=some (.ins Dc dx u.rf)
 beh:∃ ys,H Bh=some (.lst ys)/\Bh≠R/\Paired (fun t v=>∃ l,v=.ref l/\l≠R/\H l=some (.lst (nI (behP bs z t)))) (List.range (bs.length+1)) ys
section
variable{K:¨}{C Dc Gc g W r Bh R D:Addr}{z:Nat}{bs:List ⑧}{H H':Hp}{xs:List V}{φ:Heap->Prop}
theorem tsRD(e:∀ b o,b≠R->b≠D->H b=some o->H' b=some o)(hR:H R=some (.lst xs))(hD:H D=some (.ext φ)):TSm H H':=fun b u hb t=>by
 h ne:∀{x:Addr}{o:HO},H x=some o->(∀ ys,o≠.tup ys)->(∀ q ys,o≠.frz q (.tup ys))->b≠x:=fun {x o} hx h1 h2 zz=>by
  rw[zz,hx] at hb;cases hb;o⟨ys,e | ⟨q,e⟩⟩:=t
  ·!h1 ys e
  ·!h2 q ys e
 !e b u (ne hR (by intro _ z; cases z) (by intro _ _ z; cases z)) (ne hD (by intro _ z; cases z) (by intro _ _ z; cases z)) hb
theorem Gr.keep(h:Gr u K C Dc Gc g W r Bh R D z bs H)(e:∀ b o,b≠R->b≠D->H b=some o->H' b=some o)(hR:H R=some (.lst xs))(hD:H D=some (.ext φ)):Gr u K C Dc Gc g W r Bh R D z bs H':=by
 h ts:=tsRD e hR hD;h ni:∀{x c dx:Addr}{fs:List (Str×V)},H x=some (.ins c dx fs)->H' x=some (.ins c dx fs):=fun {x c dx fs} hx=>e _ _ (Cd hx hR (by intro z; cases z)) (Cd hx hD (by intro z; cases z)) hx;h nl:∀{x:Addr}{l:List V},x≠R->H x=some (.lst l)->H' x=some (.lst l):=fun {x l} hn hx=>e _ _ hn (Cd hx hD (by intro z; cases z)) hx;o⟨d1,i1⟩:=h.ins;o⟨d2,j,i2,i3⟩:=h.web;o⟨d3,i4⟩:=h.rul;o⟨ys,b1,b2,b3⟩:=h.beh;!⟨⟨d1,ni i1⟩,⟨d2,j,ni i2,Aq (Aq Az) _ _ _ _ ts i3⟩,⟨d3,ni i4⟩,⟨ys,nl b2 b1,b2,Paired.imp (fun t v ⟨l,c1,c2,c3⟩=>⟨l,c1,c2,nl c2 c3⟩) b3⟩⟩
theorem Gr.same(h:Gr u K C Dc Gc g W r Bh R D z bs H)(e:Same H H'):Gr u K C Dc Gc g W r Bh R D z bs H':=by
 o⟨d1,i1⟩:=h.ins;o⟨d3,i4⟩:=h.rul;o⟨ys,b1,b2,b3⟩:=h.beh;!⟨⟨d1,e _ _ i1⟩,h.web.same e,⟨d3,e _ _ i4⟩,⟨ys,e _ _ b1,b2,Paired.imp (fun t v ⟨l,c1,c2,c3⟩=>⟨l,c1,c2,e _ _ c3⟩) b3⟩⟩
end
theorem Ol:∀(l:List Nat) (st:Sta) (p:Nat),passT u.al st (l++[p])=(passT u.al st l).bind fun s=>if u.al (s.getD p 0)=true then some (s.set p 0) else none
 | [],st,p=>by
  show passT u.al st [p]=(some st).bind _;unfold passT;show (if _ then passT u.al _ [] else none)=_;rfl
 | q::l,st,p=>by
  show passT u.al st (q::(l++[p]))=_;unfold passT;by_cases c:u.al (st.getD q 0)=true
  ·rw[if_pos c,if_pos c,Ol l]
  ·rw[if_neg c,if_neg c]
   rfl
def VR(u:Ru)(K:¨)(C Dc Gc:Addr):Sp:=fun vs H Q _=>∃(g W r Bh R D:Addr) (z t:Nat) (bs:List ⑧) (v:V) (o:Option Sta),vs=[.ref g,.int t,v]/\Gr u K C Dc Gc g W r Bh R D z bs H/\z<=10/\t<=bs.length/\RS z H v o /\
 ∀(v':V) (H':Hp),Same H H'->RS z H' v' (o.bind fun r=>pasT u.al (Lp bs) z t r)->Q v' H'
section
variable{P:Program}{w:World}{K:¨}{mg:Str->Option Value}{base:Heap}{f C D Gc:Addr}{fd:FuncData}
theorem QG:FnScope ["self", "number", "reached", "state", "point"] ["self", "number", "reached"] (Ac Nk):=¡
theorem WY{fP:Addr}{fdP:FuncData}(F:Fun K "past_points" "Growth.past_points" Nk f fd)(U:Rul u K mg D)(O:Gro K mg Gc)(GP:FnOk P w K mg base CX0 2 fP fdP ["self", "web", "state", "point"] (Rx u D))(bP:Binds K fdP ["self", "web", "state", "point"] [])(mP:Meth K D "passed" fP) :
  FnOk P w K mg base CX0 3 f fd ["self", "number", "reached"] (VR u K C D Gc):=by
 r F.ok QG § ¦
 ·o⟨g,W,r,Bh,R,Dk,z,t,bs,v,o,rfl,_⟩:=h
  rfl
 o⟨g,W,r,Bh,R,Dk,z,t,bs,v,o,rfl,gr,z10,tb,rs,q⟩:=h;r⟨_,Ae (Ax (i:=3) QG.nd rfl ④ (pv 2))
  (Ae (Cw PassesOwn.never rfl (Bv (Bc Bl (Bt (pv 0) rfl) (pv 1) (fun _ _=>rfl))) (Am (i:=4) QG.nd rfl ④)
   (Aj (CN (KZ (ACS (pv 3))) (Aj (Ax (i:=3) QG.nd rfl ④ (CJ (Bt (pv 0) rfl) U.cl mP GP hr bP .nil pass0 (Aa (Bt (pv 0) rfl) (Aa (pv 3) (Aa (pv 4) Ad)))))) BX)))
  (Aj (Av (pv 3)))),?_⟩
 o⟨dg,hg⟩:=gr.ins;o⟨dr,hr0⟩:=gr.rul;o⟨ys,hB,_,pB⟩:=gr.beh;h lB:=Paired.length pB;rw[List.length_range] at lB;h tl:t<ys.length:=by w
 o⟨t',ht',l,el,_,hl⟩:=Paired.get pB (± tl);h et:t'=t:=by
  have:=(List.getElem?_eq_some_iff.mp ht').2;rw[List.getElem_range] at this;!this.symm
 subst et;h hat:atI ys (t':Int)=some (.ref l):=by
  rw[<- el];!Bm (± tl)
 r⟨_,rfl,?_⟩;r⟨_,rfl,g,Gc,dg,_,_,rfl,hg,O.cl,O.nB,Wu _ _ _ _ _ _,_,rfl,Bh,ys,_,_,rfl,rfl,SqL.of hB,hat,l,rfl,⟨_,SqL.of hl⟩,?_⟩;r DK (K:=K) (a:=l) (xs:=nI (behP bs z t')) (fun i σ H2=>∃(v':V) (o4:Option V),σ=[some (.ref g),some (.int t'),some v,some v',o4]/\Same H H2/\RS z H2 v' (o.bind fun r=>passT u.al r ((behP bs z t').take i)))
  ⟨v,none,rfl,Same.refl _,by
   h e:(o.bind fun r=>passT u.al r ((behP bs z t').take 0))=o:=by cases o<;>rfl
   rw[e];!rs⟩ (fun i σ H2 _ ⟨_,_,_,s2,_⟩=>s2.seq (SqL.of hl)) ?_ ?_
 ·rintro i x σ H2 hx ⟨v',o4,rfl,s2,rs2⟩
  o⟨pt,hp,rfl⟩:=ADf hx;h pz:pt<z:=List.mem_range.mp (List.mem_filter.mp (List.mem_of_getElem? hp)).1;h step:(o.bind fun r=>passT u.al r ((behP bs z t').take (i+1)))=(o.bind fun r=>passT u.al r ((behP bs z t').take i)).bind fun s=>if u.al (s.getD pt 0)=true then some (s.set pt 0) else none:=by
   cases o with
   | none=>rfl
   | some r =>
    show passT u.al r _=(passT u.al r _).bind _;rw[List.take_add_one,hp];!Ol _ _ _
  cases e:(o.bind fun r=>passT u.al r ((behP bs z t').take i)) with
  | none =>
   rw[e] at rs2 step;cases rs2;r⟨_,rfl,_,rfl,iteF ⟨.non,_,rfl,s2,?_⟩⟩;rw[step];!rfl
  | some st =>
   rw[e] at rs2 step;o⟨b,rfl,hb,sl⟩:=rs2;r⟨_,rfl,_,rfl,iteT ?_⟩;r⟨_,rfl,g,Gc,dg,_,_,rfl,s2 _ _ hg,O.cl,O.nU,Ju _ _ _ _ _ _,r,dr,_,rfl,s2 _ _ hr0,U.no £,_,rfl,g,Gc,dg,_,_,rfl,s2 _ _ hg,O.cl,O.nW,Pb _ _ _ _ _ _,_,rfl,_,rfl,.non,.ref W,b,dr,r,pt,st,rfl,s2 _ _ hr0,hb,by w,by w,fun c b' H3 s3 hb'=>?_,fun c H3 s3=>?_⟩
   ·r⟨_,_,rfl,s2.trans s3,?_⟩
    rw[step];show RS z H3 _ (if _ then _ else _);rw[if_pos c];!⟨b',rfl,hb',by rw[List.length_set]; !sl⟩
   ·r⟨_,_,rfl,s2.trans s3,?_⟩
    rw[step];show RS z H3 _ (if _ then _ else _);rw[if_neg c];!rfl
 ·rintro σ H2 ⟨v',o4,rfl,s2,rs2⟩
  rw[Zw,List.take_length] at rs2;!⟨_,rfl,q v' H2 s2 rs2⟩
end
variable{u:Ru}
abbrev semC(u:Ru)(bs:List ⑧)(z d t:Nat):Option Sta->List Nat->Bool:=semG lefC (takT u.al (onB bs)) (pasT u.al (Lp bs) z) (fun _=>true) d t
abbrev keyC(t:Nat)(st:Sta):PKey:=(.inl (t:Int),st.map Sum.inl)
theorem RP{t t':Nat}{st st':Sta}(h:keyC t st=keyC t' st'):t=t'/\st=st':=by
 h h1:=congrArg Prod.fst h;h h2:=congrArg Prod.snd h;r⟨?_,?_⟩
 ·have:(Sum.inl (t:Int):Key)=Sum.inl (t':Int):=h1
  injection this with this
  w
 ·h h2':st.map (Sum.inl:Int->Key)=st'.map Sum.inl:=h2
  clear h h1 h2
  induction st generalizing st' with
  | nil=>cases st' with
   | nil=>rfl
   | cons=>cases h2'
  | cons a st ih =>
   cases st' with
   | nil=>cases h2'
   | cons b st' =>
    rw[List.map_cons,List.map_cons] at h2';injection h2' with e1 e2
    injection e1 with e1
    rw[e1,ih e2]
def Known(u:Ru)(bs:List ⑧)(z:Nat)(rows:List Row)(kvs:List (PKey×V)):Prop:=∀(t:Nat) (st:Sta) (v:V),valV kvs (keyC t st)=some v->∃ k:Nat,v=.int k/\t<bs.length/\Lead rows t k (stepS lefC (takT u.al (onB bs)) t (semC u bs z (bs.length-1-t) (t+1)) st)
theorem Known.app{bs:List ⑧}{z:Nat}{rows more:List Row}{kvs:List (PKey×V)}(o:Ok bs.length rows)(h:Known u bs z rows kvs):Known u bs z (rows++more) kvs:=fun t st v hv=>let ⟨k,e,tl,ld⟩:=h t st v hv; ⟨k,e,tl,ld.app o⟩
theorem UJ{H:Hp}{x b:Addr}{t:Nat}{st:Sta}(hx:H x=some (.tup [.int (t:Int),.ref b]))(hb:StAt H b st):NKey H (keyC t st) x:=by
 r⟨b,hx,?_⟩;h e:(st.map (Sum.inl:Int->Key)).map kV=st.map V.int:=by rw[List.map_map]; rfl
 show H b=some (.tup ((st.map Sum.inl).map kV));rw[e];!hb
structure Rw(u:Ru)(P:Program)(w:World)(K:¨)(R D:Addr)(bs:List ⑧)(z:Nat)(H:Hp)(rows:List Row)(kvs:List (PKey×V)):Prop where
 at_:∃ xs,H R=some (.lst xs)/\Paired (K53s.rRow K H) rows xs
 dn:DN P w H D kvs
 ok:Ok bs.length rows
 kn:Known u bs z rows kvs
 len:kvs.length<=rows.length
def Old(t:Nat)(kvs kvs':List (PKey×V)):Prop:=∀(t':Nat) (st:Sta),t'<t->valV kvs' (keyC t' st)=valV kvs (keyC t' st)
theorem Zd{bs:List ⑧}{z d t:Nat}{o:Option Sta}(h:(o.bind fun r=>pasT u.al (Lp bs) z t r)=none)(s:List Nat):semC u bs z d t o s=false:=by
 cases o with
 | none=>cases d<;>rfl
 | some r =>
  have h':pasT u.al (Lp bs) z t r=none:=h;cases d with
  | zero=>show (match pasT u.al (Lp bs) z t r with | none=>false | some st=>_)=false; rw[h']
  | succ d=>show (match pasT u.al (Lp bs) z t r with | none=>false | some st=>_)=false; rw[h']
theorem ABp{bs:List ⑧}{z t:Nat}{o:Option Sta}{st:Sta}(h:(o.bind fun r=>pasT u.al (Lp bs) z t r)=some st)(s:List Nat):semC u bs z 0 t o s=decide (s=[]):=by
 cases o with
 | none=>cases h
 | some r =>
  have h':pasT u.al (Lp bs) z t r=some st:=h;show (match pasT u.al (Lp bs) z t r with | none=>false | some st=>true&&decide (s=[]))=_;rw[h'];!Bool.true_and _
theorem ZP{bs:List ⑧}{z d t:Nat}{o:Option Sta}{st:Sta}(h:(o.bind fun r=>pasT u.al (Lp bs) z t r)=some st):semC u bs z (d+1) t o=stepS lefC (takT u.al (onB bs)) t (semC u bs z d (t+1)) st:=by
 funext s
 cases o with
 | none=>cases h
 | some r =>
  have h':pasT u.al (Lp bs) z t r=some st:=h;show (match pasT u.al (Lp bs) z t r with | none=>false | some st=>stepS lefC (takT u.al (onB bs)) t (semC u bs z d (t+1)) st s)=_;rw[h']
def Ly(u:Ru)(P:Program)(w:World)(K:¨)(C Dc Gc:Addr)(d:Nat):Sp:=fun vs H Q _=>∃(g W r Bh R D:Addr) (z t:Nat) (bs:List ⑧) (v:V) (o:Option Sta) (rows:List Row) (kvs:List (PKey×V)),vs=[.ref g,.int t,v]/\t+d=bs.length/\Gr u K C Dc Gc g W r Bh R D z bs H/\1<=z/\z<=10/\bs.length<=12/\RS z H v o/\Rw u P w K R D bs z H rows kvs/\rows.length+2 ^ d<=4100 /\
 ∀(k:Nat) (more:List Row) (kvs':List (PKey×V)) (H':Hp),(∀ b o,b≠R->b≠D->H b=some o->H' b=some o)->Rw u P w K R D bs z H' (rows++more) kvs'->Lead (rows++more) t k (semC u bs z d t o)->Old t kvs kvs'->Cnt t more->more.length+1<=2 ^ d->Q (.int k) H'
section
variable{P:Program}{w:World}{K:¨}{R D:Addr}{bs:List ⑧}{z:Nat}{H H':Hp}{rows:List Row}{kvs:List (PKey×V)}
theorem Rw.same(h:Rw u P w K R D bs z H rows kvs)(e:Same H H'):Rw u P w K R D bs z H' rows kvs:=by
 o⟨xs,h1,h2⟩:=h.at_;!⟨⟨xs,e _ _ h1,Paired.imp (fun _ _ r=>K53s.Bu _ _ _ _ e.ts r) h2⟩,h.dn.keep (fun o=>e _ o) (fun b ys=>e b _),h.ok,h.kn,h.len⟩
end
section
variable{P:Program}{w:World}{K:¨}{mg:Str->Option Value}{base:Heap}{f C D Gc:Addr}{fd:FuncData}
theorem GJ:FnScope ["self", "number", "reached", "state", "without", "having"] ["self", "number", "reached"] (Ac FW):=¡
theorem Ka(d:Nat){fP fL fT fU:Addr}{fdP fdL fdT fdU:FuncData}(F:Fun K "knot_at" "Growth.knot_at" FW f fd)(T:Txt K mg C)(U:Rul u K mg D)(O:Gro K mg Gc)
  (GP:FnOk P w K mg base CX0 3 fP fdP ["self", "number", "reached"] (VR u K C D Gc)) (bP:Binds K fdP ["self", "number", "reached"] []) (mP:Meth K Gc "past_points" fP)
  (GL:FnOk P w K mg base CX0 1 fL fdL ["self", "web", "state", "number"] UW) (bL:Binds K fdL ["self", "web", "state", "number"] []) (mL:Meth K D "left" fL)
  (GT:FnOk P w K mg base CX0 2 fT fdT ["self", "web", "state", "number"] (Pu u K C D)) (bT:Binds K fdT ["self", "web", "state", "number"] []) (mT:Meth K D "taken" fT)
  (GU:FnOk P w K mg base CX0 1 fU fdU ["self", "web", "state"] Zt) (bU:Binds K fdU ["self", "web", "state"] []) (mU:Meth K D "fulfilled" fU)
  {sp:Sp} (hsp:∀ vs H Q E,d≠0->Ly u P w K C D Gc (d-1) vs H Q E->sp vs H Q E) (GK:FnOk P w K mg base CX0 (d+3) f fd ["self", "number", "reached"] sp) (bK:Binds K fd ["self", "number", "reached"] []) (mK:Meth K Gc "knot_at" f) :
  FnOk P w K mg base CX0 (d+4) f fd ["self", "number", "reached"] (Ly u P w K C D Gc d):=by
 r F.ok GJ § ¦
 ·o⟨g,W,r,Bh,R,Dk,z,t,bs,v,o,rows,kvs,rfl,_⟩:=h
  rfl
 o⟨g,W,r,Bh,R,Dk,z,t,bs,v,o,rows,kvs,rfl,td,gr,z1,z10,b8,rs,rw0,r6,q⟩:=h;h hr1:Room 1 _:=hr.mono ¢;h hr2:Room 2 _:=hr.mono ¢;h hr3:Room 3 _:=hr.mono ¢;r⟨_,Ae (Ax (i:=3) GJ.nd rfl ④ (CJ (pv 0) O.cl mP GP hr3 bP .nil pass0 (Aa (pv 1) (Aa (pv 2) Ad))))
  (Ae (CN (KZ (ADR (pv 3))) (Aj (Av Ah)) BX)
  (Ae (CN (Ar Ey (pv 1) (Bt (pv 0) rfl) ⑮) (Aj (Av (Hw (Hq (CJ (Bt (pv 0) rfl) U.cl mU GU hr1 bU .nil pass0 (Aa (Bt (pv 0) rfl) (Aa (pv 3) Ad)))) Ah Ah))) BX)
  (Vs (CN (KZ (Yj (CW hr) (CG (Aa (pv 1) (Aa (pv 3) Ad))) (Bt (pv 0) rfl)) rfl)
   (Ae (Ax (i:=4) GJ.nd rfl ④ (CJ (pv 0) O.cl mK GK hr bK .nil pass0 (Aa (Aw Cv (pv 1) Ah) (Aa (CJ (Bt (pv 0) rfl) U.cl mL GL hr1 bL .nil pass0 (Aa (Bt (pv 0) rfl) (Aa (pv 3) (Aa (pv 1) Ad)))) Ad))))
   (Ae (Ax (i:=5) GJ.nd rfl ④ (CJ (pv 0) O.cl mK GK hr bK .nil pass0 (Aa (Aw Cv (pv 1) Ah) (Aa (CJ (Bt (pv 0) rfl) U.cl mT GT hr2 bT .nil pass0 (Aa (Bt (pv 0) rfl) (Aa (pv 3) (Aa (pv 1) Ad)))) Ad))))
   (Ae (DX (Od PySem.F.plainAttrs_list PySem.F.slot_list_append PySem.F.type_list_append Cy (Bt (pv 0) rfl) (Aa (CG (Aa (pv 1) (Aa (pv 4) (Aa (pv 5) Ad)))) Ad)))
   (Aj (ACQ (CW hr) (Bt (pv 0) rfl) (CG (Aa (pv 1) (Aa (pv 3) Ad))) (Aw Cv (BL BZ rfl T.len PySem.boot_len (Aa (Bt (pv 0) rfl) Ad)) Ah) rfl))))) BX)
  (Aj (Av (ABy (CW hr) (Bt (pv 0) rfl) (CG (Aa (pv 1) (Aa (pv 3) Ad))) (fun _ _=>rfl))))))),?_⟩
 o⟨dg,hg⟩:=gr.ins;o⟨dr,hr0⟩:=gr.rul;h p2:1<=2 ^ d:=Nat.one_le_two_pow;r⟨_,rfl,g,dg,_,rfl,hg,Wo _ _ _ _ _ _ £ £ £ £ £ £,_,rfl,_,rfl,g,W,r,Bh,R,Dk,z,t,bs,v,o,rfl,gr,z10,by w,rs,fun v' H1 s1 rs1=>?_⟩;h gr1:=gr.same s1;h rw1:=rw0.same s1;h hg1:=s1 _ _ hg;h hr1':=s1 _ _ hr0;cases e:(o.bind fun r=>pasT u.al (Lp bs) z t r) with
 | none =>
  rw[e] at rs1;cases rs1;r⟨_,rfl,_,rfl,iteT ?_⟩;!q 0 [] kvs H1 (fun b o _ _ e=>s1 _ _ e) (by rw[List.append_nil]; !rw1) (Xw (Zd e)) (fun _ _ _=>rfl) cnt_nil (by simpa using p2)
 | some st =>
  rw[e] at rs1;o⟨b,rfl,hb,sl⟩:=rs1;r⟨_,rfl,_,rfl,iteF ?_⟩;r⟨_,rfl,_,rfl,g,Gc,dg,_,_,rfl,hg1,O.cl,O.nA,OD _ _ _ _ _ _,rfl,_,rfl,?_⟩;by_cases d0:d=0
  ·subst d0
   r iteP (by rw[show t=bs.length by w]) ?_;r⟨_,rfl,g,Gc,dg,_,_,rfl,hg1,O.cl,O.nU,Ju _ _ _ _ _ _,r,dr,_,rfl,hr1',U.no £,_,rfl,g,Gc,dg,_,_,rfl,hg1,O.cl,O.nW,Pb _ _ _ _ _ _,_,rfl,_,_,_,rfl,_,rfl,iteT ?_⟩;!q 1 [] kvs H1 (fun b o _ _ e=>s1 _ _ e) (by rw[List.append_nil]; !rw1) (Zg (ABp e)) (fun _ _ _=>rfl) cnt_nil (by simpa using p2)
  ·obtain ⟨d',rfl⟩:∃ d',d=d'+1:=⟨d-1,by w⟩
   h tn:t<bs.length:=by w
   r iteN (fun z=>by injection z with z; w) ?_;h pd:2 ^ (d'+1)=2 ^ d'+2 ^ d':=by rw[Nat.pow_succ]; w
   h pd1:1<=2 ^ d':=Nat.one_le_two_pow;r⟨fun σ' H'=>∃(o4 o5:Option V) (k:Nat) (more:List Row) (kvs':List (PKey×V)),σ'=[some (.ref g),some (.int t),some v,some (.ref b),o4,o5]/\(∀ b o,b≠R->b≠Dk->H b=some o->H' b=some o)/\Gr u K C D Gc g W r Bh R Dk z bs H'/\Rw u P w K R Dk bs z H' (rows++more) kvs'/\valV kvs' (keyC t st)=some (.int k)/\Lead (rows++more) t k (semC u bs z (d'+1) t o)/\Old t kvs kvs'/\Cnt t more/\more.length+1<=2 ^ (d'+1)/\StAt H' b st,?_,?_⟩
   ·r⟨_,rfl,_,rfl,(by show 2<=sizeLine; decide),fun x hx=>?_⟩
    h sx:=Same.new hx (.tup [.int (t:Int),.ref b]);h hg2:=sx _ _ hg1;h rw2:=rw1.same sx;h gr2:=gr1.same sx;h hb2:StAt (upd H1 x (.tup [.int (t:Int),.ref b])) b st:=sx _ _ hb;r⟨_,rfl,g,Gc,dg,_,_,rfl,hg2,O.cl,O.nK,Kf _ _ _ _ _ _,Dk,valV kvs (keyC t st),rfl,⟨kvs,keyC t st,x,rw2.dn,rfl,UJ Ab hb2,rfl⟩,_,rfl,?_⟩;h s2:=s1.trans sx;cases ev:valV kvs (keyC t st) with
    | some v0 =>
     o⟨k,rfl,_,ld⟩:=rw0.kn t st v0 ev;r iteF ⟨_,_,k,[],kvs,rfl,fun b o _ _ e=>s2 _ _ e,gr2,by rw[List.append_nil]; !rw2,ev,?_,fun _ _ _=>rfl,cnt_nil,by simp; w,hb2⟩;rw[List.append_nil,ZP e,show d'=bs.length-1-t by w];!ld
    | none =>
     r iteT ?_;h hr2':=sx _ _ hr1';h e1:((t:Int)+1)=((t+1:Nat):Int):=by w
     r⟨_,rfl,g,dg,_,rfl,hg2,Wo _ _ _ _ _ _ £ £ £ £ £ £,_,rfl,_,_,rfl,rfl,_,rfl,g,Gc,dg,_,_,rfl,hg2,O.cl,O.nU,Ju _ _ _ _ _ _,r,dr,_,rfl,hr2',U.no £,_,rfl,g,Gc,dg,_,_,rfl,hg2,O.cl,O.nW,Pb _ _ _ _ _ _,_,rfl,_,rfl,_,_,_,_,rfl,?_⟩;r hsp _ _ _ _ ¢ ⟨g,W,r,Bh,R,Dk,z,t+1,bs,.ref b,some st,rows,kvs,congrArg (fun i=>[V.ref g,V.int i,V.ref b]) e1,by w,gr2,z1,z10,b8,⟨b,rfl,hb2,sl⟩,rw2,by rw[Nat.add_sub_cancel]; w,fun k1 more1 kvs1 H3 kp3 rw3 ld1 old1 cnt1 ml1=>?_⟩;rw[Nat.add_sub_cancel] at ld1 ml1;o⟨xs2,eR2,_⟩:=id rw2.at_;o⟨_,_,ax2,eD2,_⟩:=id rw2.dn;h gr3:=gr2.keep kp3 eR2 eD2;h ts3:=tsRD kp3 eR2 eD2;o⟨dg3,hg3⟩:=gr3.ins;o⟨dr3,hr3'⟩:=gr3.rul;h hb3:StAt H3 b st:=ts3 _ _ hb2 ⟨_,.inl rfl⟩;r⟨_,rfl,g,dg3,_,rfl,hg3,Wo _ _ _ _ _ _ £ £ £ £ £ £,_,rfl,_,_,rfl,rfl,_,rfl,g,Gc,dg3,_,_,rfl,hg3,O.cl,O.nU,Ju _ _ _ _ _ _,r,dr3,_,rfl,hr3',U.no £,_,rfl,g,Gc,dg3,_,_,rfl,hg3,O.cl,O.nW,Pb _ _ _ _ _ _,_,rfl,_,rfl,r,W,b,dr3,t,z,bs,st,rfl,hr3',gr3.web,hb3,tn,by w,sl,fun v' H4 s4 rs'=>?_⟩;h rw4:=rw3.same s4;h gr4:=gr3.same s4;r hsp _ _ _ _ ¢ ⟨g,W,r,Bh,R,Dk,z,t+1,bs,v',takT u.al (onB bs) t st,rows++more1,kvs1,congrArg (fun i=>[V.ref g,V.int i,v']) e1,by w,gr4,z1,z10,b8,rs',rw4,by rw[Nat.add_sub_cancel,List.length_append]; w,fun k2 more2 kvs2 H5 kp5 rw5 ld2 old2 cnt2 ml2=>?_⟩;rw[Nat.add_sub_cancel] at ld2 ml2;o⟨xs4,eR4,_⟩:=id rw4.at_;o⟨_,_,ax4,eD4,_⟩:=id rw4.dn;h gr5:=gr4.keep kp5 eR4 eD4;h ts5:=tsRD kp5 eR4 eD4;o⟨dg5,hg5⟩:=gr5.ins;h hb5:StAt H5 b st:=ts5 _ _ (s4 _ _ hb3) ⟨_,.inl rfl⟩;o⟨xs5,eR5,px5⟩:=id rw5.at_;o⟨_,_,ax5,eD5,_⟩:=id rw5.dn;h lx5:=Paired.length px5;r⟨_,rfl,g,Gc,dg5,_,_,rfl,hg5,O.cl,O.nR,PL _ _ _ _ _ _,.inl ⟨rfl,_,SqL.of eR5⟩,_,rfl,_,rfl,_,rfl,(by show 3<=sizeLine; decide),fun y hy=>?_⟩;h sy:=Same.new hy (.tup [.int (t:Int),.int (k1:Int),.int (k2:Int)]);h l5:xs5.length<=4100:=by
      rw[<- lx5];simp only[List.length_append];w
     r⟨R,_,_,rfl,rfl,sy _ _ eR5,smallN ¢,?_⟩;o⟨ok6,ld6⟩:=ZS (lef:=lefC) (tak:=takT u.al (onB bs)) (g:=semC u bs z d' (t+1)) (st:=st) rw5.ok tn (ld1.app rw3.ok) ld2;h RD:R≠Dk:=Cd eR5 eD5 (by intro z; cases z);h gR:g≠R:=Cd hg5 eR5 (by intro z; cases z);h eR6y:=sy _ _ eR5;h tl6:=TSm.lst (o:=.lst (xs5++[.ref y])) eR6y;h k6:∀ c o,c≠R->H5 c=some o->(upd (upd H5 y (.tup [.int (t:Int),.int (k1:Int),.int (k2:Int)])) R (.lst (xs5++[.ref y]))) c=some o:=fun c o h e=>by rw[Af h]; !sy _ _ e
     h gr6:=gr5.keep (H':=upd (upd H5 y (.tup [.int (t:Int),.int (k1:Int),.int (k2:Int)])) R (.lst (xs5++[.ref y]))) (fun c o h _ e=>k6 c o h e) eR5 eD5;h dn6:=rw5.dn.keep (H':=upd (upd H5 y (.tup [.int (t:Int),.int (k1:Int),.int (k2:Int)])) R (.lst (xs5++[.ref y]))) (fun o=>k6 _ o (Ne.symm RD)) (fun c zs ec=>k6 c _ (Cd ec eR5 (by intro z; cases z)) ec);h hb6:StAt (upd (upd H5 y (.tup [.int (t:Int),.int (k1:Int),.int (k2:Int)])) R (.lst (xs5++[.ref y]))) b st:=k6 _ _ (Cd hb5 eR5 (by intro z; cases z)) hb5;h eR6:(upd (upd H5 y (.tup [.int (t:Int),.int (k1:Int),.int (k2:Int)])) R (.lst (xs5++[.ref y]))) R=some (.lst (xs5++[.ref y])):=Ab;h px6:Paired (K53s.rRow K (upd (upd H5 y (.tup [.int (t:Int),.int (k1:Int),.int (k2:Int)])) R (.lst (xs5++[.ref y])))) (rows++more1++more2++[(t,k1,k2)]) (xs5++[.ref y]):=by
      r Paired.app (Paired.imp (fun _ _ c=>K53s.Bu _ _ _ _ (sy.ts.trans tl6) c) px5) (Paired.one ⟨y,rfl,SqT.of ?_⟩);rw[Af (Cd (show (upd H5 y (.tup [.int (t:Int),.int (k1:Int),.int (k2:Int)])) y=some _ from Ab) eR6y (by intro z; cases z))];!Ab
     generalize upd (upd H5 y (.tup [.int (t:Int),.int (k1:Int),.int (k2:Int)])) R (.lst (xs5++[.ref y]))=H6 at k6 gr6 dn6 hb6 eR6 px6;o⟨dg6,hg6⟩:=gr6.ins;o⟨_,_,ax6,eD6,_⟩:=id dn6;h new:valV kvs2 (keyC t st)=none:=by rw[old2 t st ¢,old1 t st ¢,ev]
     h kl2:=rw5.len;r⟨_,rfl,g,Gc,dg6,_,_,rfl,hg6,O.cl,O.nR,PL _ _ _ _ _ _,R,_,rfl,.inl (SqL.of eR6),_,_,rfl,rfl,_,rfl,g,Gc,dg6,_,_,rfl,hg6,O.cl,O.nK,Kf _ _ _ _ _ _,_,rfl,_,rfl,(by show 2<=sizeLine; decide),fun u hu=>?_⟩;h su:=Same.new hu (.tup [.int (t:Int),.ref b]);r⟨Dk,kvs2,keyC t st,u,rfl,rfl,dn6.keep (fun o=>su _ o) (fun c zs=>su c _),UJ Ab (su _ _ hb6),new,smallN (by rw[lx5] at kl2; w),fun H9 oth dn9=>?_⟩;h kl:(((xs5++[V.ref y]).length:Nat):Int)+1=(((rows++more1++more2).length+2:Nat):Int):=by
      rw[List.length_append,List.length_singleton,<- lx5];w
     rw[show (fun(i j:Int)=>V.int (i+j)) (((xs5++[V.ref y]).length:Nat):Int) 1=V.int (((rows++more1++more2).length+2:Nat):Int) from congrArg V.int kl] at dn9;h k9:∀ c o,c≠Dk->H6 c=some o->H9 c=some o:=fun c o h e=>by rw[oth c h]; !su _ _ e
     h eas:rows++(more1++more2++[(t,k1,k2)])=rows++more1++more2++[(t,k1,k2)]:=by simp only[List.append_assoc]
     h ts9:TSm H6 H9:=tsRD (R:=R) (D:=Dk) (fun c o _ h e=>k9 c o h e) eR6 eD6;r⟨_,_,(rows++more1++more2).length+2,more1++more2++[(t,k1,k2)],putK kvs2 (keyC t st) (.int (((rows++more1++more2).length+2:Nat):Int)),rfl,fun c o h1 h2 e=>?_,?_,?_,?_,?_,?_,AAe cnt1 cnt2,?_,ts9 _ _ hb6 ⟨_,.inl rfl⟩⟩
     ·!k9 _ _ h2 (k6 _ _ h1 (kp5 _ _ h1 h2 (s4 _ _ (kp3 _ _ h1 h2 (s2 _ _ e)))))
     ·!gr6.keep (fun c o _ h e=>k9 c o h e) eR6 eD6
     ·rw[eas]
      r⟨⟨_,k9 _ _ RD eR6,Paired.imp (fun _ _ c=>K53s.Bu _ _ _ _ ts9 c) px6⟩,dn9,ok6,fun t' st' v' hv'=>?_,?_⟩
      ·rw[Ed] at hv'
       by_cases c:keyC t' st'=keyC t st
       ·rw[if_pos c] at hv'
        cases hv';o⟨rfl,rfl⟩:=RP c;r⟨_,rfl,tn,?_⟩;rw[show bs.length-1-t'=d' by w];!ld6
       ·rw[if_neg c] at hv'
        !(rw5.kn.app rw5.ok) t' st' v' hv'
      ·rw[Ir _ new,List.length_append,List.length_singleton,List.length_append,List.length_singleton]
       w
     ·rw[Ed,if_pos rfl]
     ·rw[eas,ZP e]
      !ld6
     ·intro t' st' lt
      rw[Ed,if_neg (fun c=>by have:=(RP c).1; w),old2 t' st' ¢,old1 t' st' ¢]
     ·simp only[List.length_append,List.length_singleton]
      w
   ·rintro σ H6 ⟨o4,o5,k,more,kvs',rfl,kp,gr6,rw6,val,ld,old,cnt,ml,hb6⟩
    o⟨dg6,hg6⟩:=gr6.ins;r⟨_,rfl,g,Gc,dg6,_,_,rfl,hg6,O.cl,O.nK,Kf _ _ _ _ _ _,_,rfl,_,rfl,(by show 2<=sizeLine; decide),fun y hy=>?_⟩;h sy:=Same.new hy (.tup [.int (t:Int),.ref b]);!⟨Dk,.int k,rfl,⟨kvs',keyC t st,y,rw6.dn.keep (fun o=>sy _ o) (fun c zs=>sy c _),rfl,UJ Ab (sy _ _ hb6),val⟩,q k more kvs' _ (fun c o h1 h2 e=>sy _ _ (kp c o h1 h2 e)) (rw6.same sy) ld old cnt ml⟩
end
variable{u:Ru}
def Vm(u:Ru)(P:Program)(w:World)(K:¨)(C Dc Gc:Addr):Sp:=fun vs H Q _=>∃(g dx W r dr:Addr) (z:Nat) (bs:List ⑧),vs=[.ref g,.ref W,.ref r]/\H g=some (.ins Gc dx [])/\W≠g/\r≠g/\WebAt K C H W z bs/\H r=some (.ins Dc dr u.rf)/\z<=10/\bs.length<=12 /\
 ∀(Bh R D:Addr) (H':Hp),(∀ b o,H b=some o->b≠g->H' b=some o)->Gr u K C Dc Gc g W r Bh R D z bs H'->Rw u P w K R D bs z H' [] []->H R=none->H D=none->Q .non H'
section
variable{P:Program}{w:World}{K:¨}{mg:Str->Option Value}{base:Heap}{f C D Gc:Addr}{fd:FuncData}
theorem ACb:FnScope ["self", "web", "rule"] ["self", "web", "rule"] (Ac Hf):=¡
theorem Zb{fB fT:Addr}{fdB fdT:FuncData}(F:Fun K "__init__" "Growth.__init__" Hf f fd)(T:Txt K mg C)(O:Gro K mg Gc)
  (GT:FnOk P w K mg base CX0 1 fT fdT ["self"] (QJ K C)) (bT:Binds K fdT ["self"] []) (mT:Meth K C "ties" fT)
  (GB:FnOk P w K mg base CX0 2 fB fdB ["web", "number"] (Yw K C)) (bB:Binds K fdB ["web", "number"] []) (kB:© K (.ref fB)=true) (mB:mg "points_behind" = some (.ref fB)) :
  FnOk P w K mg base CX0 3 f fd ["self", "web", "rule"] (Vm u P w K C D Gc):=by
 r F.ok ACb § ¦
 ·o⟨g,dx,W,r,dr,z,bs,rfl,_⟩:=h
  rfl
 o⟨g,dx,W,r,dr,z,bs,rfl,hg,Wg,rg,hW,hr0,z10,b8,q⟩:=h;h hr1:Room 1 _:=hr.mono ¤;r⟨_,Ae (Dp (pv 0) (pv 1) rfl)
  (Ae (Dp (pv 0) (pv 2) rfl)
  (Ae (Dp (pv 0) (BL BZ rfl T.len PySem.boot_len (Aa (Bo (pv 1) T.cl mT GT hr1 bT .nil pass0) Ad)) rfl)
  (Ae (Dp (pv 0) (Ca (Ac Hf) ["number"] ["web"] [1] rfl rfl £ ⟨⟨rfl,£⟩,trivial⟩ (Cm rfl T.range (Aa (Aw Cv (Bt (pv 0) rfl) Ah) Ad))
   (fun _ _ _=>Am (i:=0) (show ((["number"]:List Str)++(["web"]:List Str)).Nodup by decide +kernel) rfl ④) (fun _ _ _=>Cg)
   (fun _ _ _=>BP GB hr rfl mB kB bB .nil pass0 (Aa (pv 1) (Aa (pv 0) Ad)))) rfl)
  (Ae (Dp (pv 0) (Ci Ad) rfl)
  (Aj (Dp (pv 0) Zn rfl)))))),?_⟩
 h tsI:∀{H0:Hp}{fs gs:List (Str×V)},H0 g=some (.ins Gc dx fs)->TSm H0 (upd H0 g (.ins Gc dx gs)):=fun {H0 fs gs} hP b u hb t=>by
  rw[Af ?_]
  ·!hb
  ·rintro rfl
   rw[hP] at hb;cases hb;o⟨ys,e | ⟨o,e⟩⟩:=t
   ·cases e
   ·cases e
 r⟨_,rfl,_,rfl,g,Gc,dx,[],rfl,hg,O.cl,O.nW,(by show 0<1000; decide),?_⟩;r⟨_,rfl,_,rfl,g,Gc,dx,_,rfl,Ab,O.cl,O.nU,(by show 1<1000; decide),?_⟩;rw[ABa];h k1:∀ b o,b≠g->H b=some o->(upd H g (.ins Gc dx (putF "rule" (.ref r) (putF "web" (.ref W) [])))) b=some o:=fun b o h e=>by rw[Af h]; !e
 h ts1:=tsI (gs:=putF "rule" (.ref r) (putF "web" (.ref W) [])) hg;h g1:(upd H g (.ins Gc dx (putF "rule" (.ref r) (putF "web" (.ref W) [])))) g=some (.ins Gc dx (putF "rule" (.ref r) (putF "web" (.ref W) []))):=Ab;generalize upd H g (.ins Gc dx (putF "rule" (.ref r) (putF "web" (.ref W) [])))=H1 at k1 ts1 g1;h hW1:WebAt K C H1 W z bs:=by
  o⟨d,j,a1,a2⟩:=hW;!⟨d,j,k1 _ _ Wg a1,Aq (Aq Az) _ _ _ _ ts1 a2⟩
 o⟨dw,jw,hw1,_⟩:=id hW1;r⟨_,rfl,W,dw,_,rfl,hw1,Ei _ _ £ £,W,z,bs,rfl,hW1,fun l H2 s2 hl hL=>?_⟩;o⟨l',ts,el,hX,px⟩:=hL;cases el;h lt:ts.length=bs.length:=(Paired.length px).symm;r⟨l,_,rfl,.inl hX,_,rfl,g,Gc,dx,_,rfl,s2 _ _ g1,O.cl,O.nA,(by show 2<1000; decide),?_⟩;h g2:=s2 _ _ g1;rw[lt];h k3:∀ b o,b≠g->H b=some o->(upd H2 g (.ins Gc dx (putF "amount" (.int (bs.length:Nat)) (putF "rule" (.ref r) (putF "web" (.ref W) []))))) b=some o:=fun b o h e=>by rw[Af h]; !s2 _ _ (k1 b o h e)
 h ts3:=ts1.trans (s2.ts.trans (tsI (gs:=putF "amount" (.int (bs.length:Nat)) (putF "rule" (.ref r) (putF "web" (.ref W) []))) g2));h g3:(upd H2 g (.ins Gc dx (putF "amount" (.int (bs.length:Nat)) (putF "rule" (.ref r) (putF "web" (.ref W) []))))) g=some (.ins Gc dx (putF "amount" (.int (bs.length:Nat)) (putF "rule" (.ref r) (putF "web" (.ref W) [])))):=Ab;generalize upd H2 g (.ins Gc dx (putF "amount" (.int (bs.length:Nat)) (putF "rule" (.ref r) (putF "web" (.ref W) []))))=H3 at k3 ts3 g3;h hW3:WebAt K C H3 W z bs:=by
  o⟨d,j,a1,a2⟩:=hW;!⟨d,j,k3 _ _ Wg a1,Aq (Aq Az) _ _ _ _ ts3 a2⟩
 r⟨_,rfl,g,Gc,dx,_,_,rfl,g3,O.cl,O.nA,(by rw[Ai,if_pos rfl]),_,_,rfl,rfl,_,rfl,by w,by w,fun Bh hBh=>?_⟩;r Cj (lo:=0) (n:=(((bs.length:Nat):Int)+1).toNat) (fun j τ H4=>∃(o:Option V) (ys:List V),τ=[o,some (.ref W)]/\Same H3 H4/\H4 Bh=some (.lst ys)/\Paired (fun t v=>∃ l,v=.ref l/\l≠Bh/\H4 l=some (.lst (nI (behP bs z t)))) (List.range j) ys) ⟨none,[],rfl,Same.new hBh _,Ab,.nil⟩ ?_ ?_
 ·rintro j τ H4 hj ⟨o,ys,rfl,s4,eB,pB⟩
  h ej:(0:Int)+j=(j:Int):=by w
  rw[ej];h ly:=Paired.length pB;rw[List.length_range] at ly;r yesN ⟨_,rfl,_,rfl,W,j,z,bs,rfl,hW3.same s4,z10,by w,fun m H5 s5 hm em=>?_⟩;h mB:m≠Bh:=fun z=>by rw[z,eB] at hm; cases hm
  r⟨_,s5 _ _ eB,Ay ¢,_,_,rfl,fun b o e=>?_,Ab,?_⟩
  ·rw[Af (Ag e hBh)]
   !s5 _ _ (s4 b o e)
  ·rw[List.range_succ]
   r Paired.app (Paired.imp (fun t v ⟨l,e1,e2,e3⟩=>⟨l,e1,e2,by rw[Af e2]; !s5 _ _ e3⟩) pB) (Paired.one ⟨m,rfl,mB,by rw[Af mB]; !em⟩)
 rintro τ H4 ⟨o,ys,rfl,s4,eB,pB⟩;rw[show (((bs.length:Nat):Int)+1).toNat=bs.length+1 by w] at pB;h g4:=s4 _ _ g3;h gB:Bh≠g:=fun z=>by rw[z,g4] at eB; cases eB
 r⟨_,rfl,g,Gc,dx,_,rfl,g4,O.cl,O.nB,(by show 3<1000; decide),?_⟩;h nBH:H Bh=none:=by
  cases e:H Bh with
  | none=>rfl
  | some o=>have:=k3 _ _ gB e; rw[hBh] at this; cases this
 r⟨Nat.zero_le _,fun R hR=>?_⟩;h gR:R≠g:=fun z=>by rw[z,Ab] at hR; cases hR
 h hR4:H4 R=none:=by rw[Af gR] at hR; !hR
 h BR:Bh≠R:=Ag eB hR4;r⟨_,rfl,g,Gc,dx,_,rfl,by rw[Af (Ne.symm gR)]; !Ab,O.cl,O.nR,(by show 4<1000; decide),?_⟩;r fun Dk hD dn0=>?_;h gD:Dk≠g:=fun z=>by rw[z,Ab] at hD; cases hD
 h RD:Dk≠R:=fun z=>by rw[z,Af gR,Ab] at hD; cases hD
 h hD4:H4 Dk=none:=by rw[Af gD,Af RD,Af gD] at hD; !hD
 r⟨_,rfl,g,Gc,dx,_,rfl,by rw[Af (Ne.symm gD)]; !Ab,O.cl,O.nK,(by show 5<1000; decide),?_⟩;h fin:∀ b o,b≠g->H4 b=some o->(upd (upd (upd (upd (upd H4 g (.ins Gc dx (putF "behind" (.ref Bh) (putF "amount" (.int (bs.length:Nat)) (putF "rule" (.ref r) (putF "web" (.ref W) [])))))) R (.lst [])) g (.ins Gc dx (putF "rows" (.ref R) (putF "behind" (.ref Bh) (putF "amount" (.int (bs.length:Nat)) (putF "rule" (.ref r) (putF "web" (.ref W) []))))))) Dk (dN P w Dk [])) g (.ins Gc dx (gf W r (bs.length:Nat) Bh R Dk))) b=some o:=fun b o h e=>by
  rw[Af h,Af (Ag e hD4),Af h,Af (Ag e hR4),Af h];!e
 h fT:TSm H4 (upd (upd (upd (upd (upd H4 g (.ins Gc dx (putF "behind" (.ref Bh) (putF "amount" (.int (bs.length:Nat)) (putF "rule" (.ref r) (putF "web" (.ref W) [])))))) R (.lst [])) g (.ins Gc dx (putF "rows" (.ref R) (putF "behind" (.ref Bh) (putF "amount" (.int (bs.length:Nat)) (putF "rule" (.ref r) (putF "web" (.ref W) []))))))) Dk (dN P w Dk [])) g (.ins Gc dx (gf W r (bs.length:Nat) Bh R Dk))):=fun b u hb t=>fin b u (fun z=>by
  rw[z,g4] at hb;cases hb;o⟨ys,e | ⟨o,e⟩⟩:=t
  ·cases e
  ·cases e) hb
 h old:∀ x,x≠g->H4 x=none->H x=none:=fun x h n=>by
  cases e:H x with
  | none=>rfl
  | some o=>have:=s4 _ _ (k3 _ _ h e); rw[n] at this; cases this
 r q Bh R Dk _ (fun b o e h=>fin b o h (s4 _ _ (k3 b o h e))) ⟨⟨dx,Ab⟩,?_,⟨dr,fin _ _ rg (s4 _ _ (k3 _ _ rg hr0))⟩,⟨ys,fin _ _ gB eB,BR,Paired.imp (fun t v ⟨l,e1,e2,e3⟩=>⟨l,e1,Ag e3 hR4,fin _ _ (fun z=>by rw[z,g4] at e3; cases e3) e3⟩) pB⟩⟩ ?_ (old R gR hR4) (old Dk gD hD4)
 ·o⟨d,j,a1,a2⟩:=hW3.same s4
  !⟨d,j,fin _ _ Wg a1,Aq (Aq Az) _ _ _ _ fT a2⟩
 ·r⟨⟨[],by rw[Af gR,Af (Ne.symm RD),Af gR,Ab],.nil⟩,dn0.keep (fun o e=>by rw[Af gD]; !e) (fun b zs e=>?_),fun i r h=>(by simp at h),fun t st v hv=>(by cases hv),Nat.le_refl _⟩
  by_cases c:b=g
  ·subst c
   rw[Af (Ne.symm gD),Ab] at e;cases e
  ·rw[Af c]
   !e
end
variable{u:Ru}
section
variable{P:Program}{w:World}{K:¨}{mg:Str->Option Value}{base:Heap}{f C D Gc S:Addr}{fd:FuncData}
theorem Iz{fP fL fT fU:Addr}{fdP fdL fdT fdU:FuncData}(F:Fun K "knot_at" "Growth.knot_at" FW f fd)(T:Txt K mg C)(U:Rul u K mg D)(O:Gro K mg Gc)
  (GP:FnOk P w K mg base CX0 3 fP fdP ["self", "number", "reached"] (VR u K C D Gc)) (bP:Binds K fdP ["self", "number", "reached"] []) (mP:Meth K Gc "past_points" fP)
  (GL:FnOk P w K mg base CX0 1 fL fdL ["self", "web", "state", "number"] UW) (bL:Binds K fdL ["self", "web", "state", "number"] []) (mL:Meth K D "left" fL)
  (GT:FnOk P w K mg base CX0 2 fT fdT ["self", "web", "state", "number"] (Pu u K C D)) (bT:Binds K fdT ["self", "web", "state", "number"] []) (mT:Meth K D "taken" fT)
  (GU:FnOk P w K mg base CX0 1 fU fdU ["self", "web", "state"] Zt) (bU:Binds K fdU ["self", "web", "state"] []) (mU:Meth K D "fulfilled" fU)
  (bK:Binds K fd ["self", "number", "reached"] []) (mK:Meth K Gc "knot_at" f):∀ d,FnOk P w K mg base CX0 (d+4) f fd ["self", "number", "reached"] (Ly u P w K C D Gc d)
 | 0=>Ka 0 F T U O GP bP mP GL bL mL GT bT mT GU bU mU (sp:=fun _ _ _ _=>False) (fun _ _ _ _ h=>absurd rfl h) (F.ok GJ (fun vs H Q E h=>False.elim h) (fun cdv A outer s H vs Q E hr h=>False.elim h)) bK mK
 | d+1=>Ka (d+1) F T U O GP bP mP GL bL mL GT bT mT GU bU mU (sp:=Ly u P w K C D Gc d) (fun _ _ _ _ _ h=>h) (Iz F T U O GP bP mP GL bL mL GT bT mT GU bU mU bK mK d) bK mK
def Ih(u:Ru)(K:¨)(C Dc S:Addr):Sp:=fun vs H Q _=>∃(W r dr:Addr) (z:Nat) (bs:List ⑧),vs=[.ref W,.ref r]/\WebAt K C H W z bs/\H r=some (.ins Dc dr u.rf)/\1<=z/\z<=10/\bs.length<=12 /\
 ∀(p:Addr) (nums:List Row) (hd:Nat) (H':Hp),Same H H'->K53s.SvAt K S H' p bs.length nums hd->Canon bs.length nums hd->(∀ s,led nums hd s=semC u bs z bs.length 0 (some (List.replicate z 0)) s)->nums.length<=4000->Q (.ref p) H'
theorem Pr:FnScope ["web", "rule", "growth", "top"] ["web", "rule"] (Ac JQ):=¡
theorem Qp{fI fK fB fG:Addr}{fdI fdK fdB fdG:FuncData}(F:Fun K "grown" "grown" JQ f fd)(U:Rul u K mg D)(O:Gro K mg Gc)(M:Mk K Gc fI)
  (GI:FnOk P w K mg base CX0 3 fI fdI ["self", "web", "rule"] (Vm u P w K C D Gc)) (bI:Binds K fdI ["self", "web", "rule"] [])
  (GK:∀ d,FnOk P w K mg base CX0 (d+4) fK fdK ["self", "number", "reached"] (Ly u P w K C D Gc d)) (bK:Binds K fdK ["self", "number", "reached"] []) (mK:Meth K Gc "knot_at" fK)
  (GB:FnOk P w K mg base CX0 2 fB fdB ["self", "web"] (Wb K C D)) (bB:Binds K fdB ["self", "web"] []) (mB:Meth K D "begun" fB)
  (GG:FnOk P w K mg base CX0 3 fG fdG ["n", "rows", "top"] (K53s.Vo K S)) (bG:Binds K fdG ["n", "rows", "top"] []) (kG:© K (.ref fG)=true) (mG:mg "least_graph" = some (.ref fG)) :
  FnOk P w K mg base CX0 17 f fd ["web", "rule"] (Ih u K C D S):=by
 r F.ok Pr § ¦
 ·o⟨W,r,dr,z,bs,rfl,_⟩:=h
  rfl
 o⟨W,r,dr,z,bs,rfl,hW,hr0,z1,z10,b8,q⟩:=h;h hr2:Room 2 _:=hr.mono ¤;h hr3:Room 3 _:=hr.mono ¤;h hrM:Room (3+1) _:=hr.mono ¤;h hrK:Room (bs.length+4) _:=hr.mono ¢;r⟨_,Ae (Ax (i:=2) Pr.nd rfl ④ (Iv M GI hrM rfl O.mgG bI .nil pass0 (Aa (pv 0) (Aa (pv 1) Ad))))
  (Ae (Ax (i:=3) Pr.nd rfl ④ (CJ (pv 2) O.cl mK (GK bs.length) hrK bK .nil pass0 (Aa Ah (Aa (CJ (pv 1) U.cl mB GB hr2 bB .nil pass0 (Aa (pv 0) Ad)) Ad))))
  (Aj (Av (BP GG hr3 rfl mG kG bG .nil pass0 (Aa (Bt (pv 2) rfl) (Aa (Bt (pv 2) rfl) (Aa (pv 3) Ad))))))),?_⟩
 r⟨_,rfl,_,rfl,fun g dx hg hdx ne=>?_⟩;h hg2:(upd H dx (.own g)) g=none:=by rw[Af (Ne.symm ne)]; !hg
 h s1:=(Same.new hdx (.own g)).trans (Same.new hg2 (.ins Gc dx []));o⟨dw,jw,hw,_⟩:=id hW;r⟨g,dx,W,r,dr,z,bs,rfl,Ab,Ag hw hg,Ag hr0 hg,hW.same s1,s1 _ _ hr0,z10,b8,fun Bh R Dk H2 k2 gr rw0 nR0 nD0=>⟨rfl,?_⟩⟩;h s2:Same H H2:=fun b o e=>k2 _ _ (s1 _ _ e) (Ag e hg);o⟨dg,hg2'⟩:=gr.ins;r⟨_,rfl,g,dg,_,rfl,hg2',Wo _ _ _ _ _ _ £ £ £ £ £ £,_,rfl,r,dr,_,rfl,s2 _ _ hr0,U.no £,_,rfl,r,W,z,bs,rfl,gr.web,z1,z10,fun b H3 s3 hb=>?_⟩;h rw3:=rw0.same s3;h gr3:=gr.same s3;h p2:2 ^ bs.length<=2 ^ 12:=Nat.pow_le_pow_right ¤ b8;r⟨g,W,r,Bh,R,Dk,z,0,bs,.ref b,some (List.replicate z 0),[],[],rfl,by w,gr3,z1,z10,b8,⟨b,rfl,hb,List.length_replicate⟩,rw3,by show 0+_<=_; w,fun k more kvs' H4 kp rw4 ld _ cnt ml=>?_⟩;rw[List.nil_append] at rw4 ld;o⟨xs3,eR3,_⟩:=id rw3.at_;o⟨_,_,ax3,eD3,_⟩:=id rw3.dn;h gr4:=gr3.keep kp eR3 eD3;o⟨dg4,hg4⟩:=gr4.ins;o⟨xs4,eR4,px4⟩:=id rw4.at_;r⟨_,rfl,g,Gc,dg4,_,_,rfl,hg4,O.cl,O.nA,OD _ _ _ _ _ _,_,rfl,g,Gc,dg4,_,_,rfl,hg4,O.cl,O.nR,PL _ _ _ _ _ _,_,rfl,R,bs.length,k,more,rfl,K53s.RowsAt.of ⟨R,xs4,rfl,SqL.of eR4,px4⟩,rw4.ok,by w,by w,VJ rw4.ok b8 cnt k,ld.kn,fun p nums hd H' s' h1 h2 h3 h4=>?_⟩;h none_back:∀{x:Addr},(upd (upd H dx (.own g)) g (.ins Gc dx [])) x=none->H x=none:=fun {x} n=>by
  cases e:H x with
  | none=>rfl
  | some o=>have:=s1 _ _ e; rw[n] at this; cases this
 r q p nums hd H' (fun b o e=>s' _ _ (kp _ _ (Ag e (none_back nR0)) (Ag e (none_back nD0)) (s3 _ _ (s2 _ _ e)))) h1 h2 (fun s=>?_) h4.1;rw[h3 s,ld.eq s]
end
end K53
end
section
namespace HT
open PySem PyProof.Rows
def RcLtAt(A:Around)(s:Shared)(y x:Value)(b:Bool):Prop :=
 ∀(prog:Program) (w:World) (E:Value->Shared->Prop) (Q:Value->Shared->Prop),Q (.bool b) s->wpAny ① A (richCompare .Lt y x) Q E s
inductive LtAt (A:Around) (s:Shared):List (Value×Value)->Bool->Prop
 | nil:LtAt A s [] false
 | same {y x:Value}{rest:List (Value×Value)}{b:Bool}:SeqAt.EqAt A s y x true->LtAt A s rest b->LtAt A s ((y,x)::rest) b
 | apart {y x:Value}{rest:List (Value×Value)}{b:Bool}:SeqAt.EqAt A s y x false->RcLtAt A s y x b->LtAt A s ((y,x)::rest) b
section
open PySem.SeqAt
open PySem.AutoSeq1 (wpAny_loadPart')
open PySem.MeetsSeq PySem.MeetsSeq2 PySem.MeetsSeq3
theorem Qt(l b:Addr)(items items2:Array Value)(n n2:Nat)(dd dd2:Option Addr)(sl sl2:Array ⑦)(hsz:items.size=items2.size)(r:Bool) :
  Meets (Builtin.«tuple.__lt__» ⟨[.ref l,.ref b],[]⟩)
   (fun A R s=>s.heap.get? l=some {cls:=.type "tuple",dict:=dd,data:=.seq items n,slots:=sl}/\s.heap.get? b=some {cls:=.type "tuple",dict:=dd2,data:=.seq items2 n2,slots:=sl2} /\
    LtAt A.in1 s (items.toList.zip items2.toList) r/\R (.ok (.ret (.bool r))) s) :=
 .of_wp fun prog w A R s h=>by
  o⟨hp,g,d,tk,os⟩:=s; o⟨hl,hb,ht,h⟩:=h;h f2:=AutoSeq1.sub_tuple_tuple
  wp_walk using wpAny_loadPart' hl,wpAny_loadPart' hb,wpAny_forIn_list _ (fun rest b s'=>b.1=none/\s'=⟨hp,g,d,tk,os⟩/\LtAt A.in1 ⟨hp,g,d,tk,os⟩ rest r) _
  case turn =>
   rintro⟨y,x⟩ rest b s' ⟨hb',rfl,ha⟩;cases ha with
   | same he hr =>
    r wpAny_bind (he prog w _ _ ?_)
    wp_walk
    !⟨rfl,rfl,hr⟩
   | apart he hc =>
    r wpAny_bind (he prog w _ _ ?_);h hri:=hc prog w
    wp_walk using hri
    !⟨_,rfl,by simpa using h⟩
  case fin =>
   rintro⟨b1,b2⟩ s' ⟨hb',rfl,ha⟩;simp only at hb';subst hb';cases ha
   wp_walk
   !⟨_,rfl,by simpa [Builtin.Tuple.tupleCompareSizes,hsz] using h⟩
  case h =>
   !⟨rfl,rfl,ht⟩
end
section
variable{prog:Program}{w:World}{A:Around}{E:Value->Shared->Prop}{s:Shared}
theorem ZX{l b:Addr}{items items2:Array Value}{r:Bool}{Q:Value->Shared->Prop}(hl:IsTup s.heap l items)(hb:IsTup s.heap b items2)(hsz:items.size=items2.size)(ht:LtAt A.in1 s (items.toList.zip items2.toList) r)
  (hu:A.units<cLine) (h:Q (.bool r) s):wpAny ① A (compareOp .Lt (.ref l) (.ref b)) Q E s:=by
 o⟨⟨cls,dd,data,sl⟩,ho,hc,n,hd⟩:=id hl;o⟨⟨cls2,dd2,data2,sl2⟩,ho2,hc2,n2,hd2⟩:=id hb;simp only at hc hd hc2 hd2;subst hc hd hc2 hd2;!richCompare_meets_room (op:=.Lt) ⟨_,ho,rfl⟩ ⟨_,ho2,rfl⟩ PySem.F.slot_tuple_lt PySem.F.entry_tuple_lt (PySem.F.args_tuple_lt_2 _ _) (Qt l b items items2 n n2 dd dd2 sl sl2 hsz r)
  ⟨ho,ho2,ht,show Value.bool r≠Value.notImplemented/\Q (.bool r) s from⟨(fun x=>nomatch x),h⟩⟩ hu
end
end HT
namespace L2
open PySem PySem.Spec PyProof.Rows
def rIT(K:¨)(H:Hp)(d:Int×List Int)(x:V):Prop:=∃(p q:Addr),x=.ref p/\SqT K H p [.int d.1,.ref q]/\SqT K H q (d.2.map V.int)
def ltIT(a b:Int×List Int):Bool:=if a.1=b.1 then HT.lexLt a.2 b.2 else decide (a.1<b.1)
def rLtIT(K:¨):R2:=fun x y H Q=>∃ a b,rIT K H a x/\rIT K H b y/\Q (.bl (ltIT a b)) H
section
variable{X:Cx}
theorem Eu{H:Hp}:∀ ns:List Int,Paired (rInt H) ns ⑭
 | []=>.nil
 | n::ns=>.cons rfl (Eu ns)
theorem Oi{K:¨}{H:Hp}{q:Addr}{ns:List Int}(h:SqT K H q ⑭):rTup K rInt H ns (.ref q):=⟨q,_,rfl,h,Eu ns⟩
theorem Xd{prog:Program}{w:World}{A:Around}{s:Shared}{l b:Addr}{items items2:Array Value}{ns ms:List Int}(hl:IsTup s.heap l items)(hb:IsTup s.heap b items2)(hi:IntsAre items.toList ns)(hj:IntsAre items2.toList ms)
  (hu:A.units<cLine):HT.RcLtAt A s (.ref l) (.ref b) (HT.lexLt ns ms):=fun prog w E Q h=>(HT.Ve hl hb hi hj hu h:wpAny ① A (compareOp .Lt (.ref l) (.ref b)) Q E s)
theorem ABf(hu:X.A.units+3<cLine):OpR X (compareOp .Lt) (rLtIT X.K):=by
 intro pins s σ H x y v u Q I rx ry h;o⟨⟨a,ns⟩,⟨c,ms⟩,⟨p,q,rfl,hp,hq⟩,⟨p2,q2,rfl,hp2,hq2⟩,h⟩:=h;cases rx; cases ry;o⟨its,ra,ta,_⟩:=I.tuple hp;o⟨jts,rb,tb,_⟩:=I.tuple hp2;o⟨ins,r1,t1,_⟩:=I.tuple hq;o⟨jns,r2,t2,_⟩:=I.tuple hq2;h i1:IntsAre ins.toArray.toList ns:=intsAre_of r1;h i2:IntsAre jns.toArray.toList ms:=intsAre_of r2;cases ra with
 | cons x1 ra =>
  cases ra with
  | cons x2 ra =>
   cases ra;cases rb with
   | cons y1 rb =>
    cases rb with
    | cons y2 rb =>
     cases rb;cases x2; cases y2;o⟨tk1,rfl⟩:=x1;o⟨tk2,rfl⟩:=y1;r HT.ZX (r:=ltIT (a,ns) (c,ms)) ta tb rfl ?_ ¢ ⟨.bl _,H,I,rfl,h⟩;show HT.LtAt _ _ [(Value.int a tk1,Value.int c tk2),(Value.ref q,Value.ref q2)] _;o⟨e,he,hiff⟩:=HT.Qi X.A.in1 s a tk1 c tk2;by_cases ac:a=c
     ·h e1:e=true:=hiff.mpr ac
      subst e1;r .same he ?_;h ev:ltIT (a,ns) (c,ms)=HT.lexLt ns ms:=if_pos ac;rw[ev];h eq2:=(Gp DG).eq pins s σ H X.A.in1 ns ms _ _ _ _ I (by show X.A.units+1+1<cLine; w) (Oi hq) (Oi hq2) rfl rfl;by_cases nm:ns=ms
      ·rw[decide_eq_true nm] at eq2
       subst nm;rw[ST.Ko];!.same eq2 .nil
      ·rw[decide_eq_false nm] at eq2
       !.apart eq2 (Xd (prog:=X.prog) (w:=X.w) t1 t2 i1 i2 (by show X.A.units+1<cLine; w))
     ·h e1:e=false:=by
       cases e with
       | false=>rfl
       | true=>!absurd (hiff.mp rfl) ac
      subst e1;h ev:ltIT (a,ns) (c,ms)=decide (a<c):=if_neg ac;rw[ev];!.apart he fun prog w E Q hq=>HT.Te _ _ _ _ _ _ prog w E Q hq
end
end L2
end
section
namespace HT
open PySem PyProof.Rows
section
open PySem.SeqAt
open PySem.AutoSeq1 (wpAny_loadPart')
open PySem.MeetsSeq PySem.MeetsSeq2 PySem.MeetsSeq3
theorem Li(r:Addr)(hi x:Int)(t u v k:Tok) :
  Meets (Builtin.«range.__contains__» ⟨[.ref r,.int x k],[]⟩)
   (fun _ R s=>s.heap.get? r=some {cls:=.type "range",data:=.fields #[.int 0 t,.int hi u,.int 1 v]}/\R (.ok (.ret (.bool (decide (0<=x/\x<hi))))) s) :=
 .of_wp fun prog w A R s h=>by
  o⟨hp,g,d,tk,os⟩:=s; o⟨hr,h⟩:=h;h e:(Builtin.Range.rangePlace? 0 hi 1 x).isSome=decide (0<=x/\x<hi):=by
   unfold Builtin.Range.rangePlace?;rw[if_pos (show (1:Int)>0 by decide)];by_cases c:0<=x/\x<hi
   ·h e1:(decide (0<=x)&&decide (x<hi))=true:=by rw[decide_eq_true c.1,decide_eq_true c.2]; rfl
    h e2:((x-0)%1==0)=true:=by rw[Int.emod_one]; rfl
    rw[e1,e2,decide_eq_true c];rfl
   ·h e1:(decide (0<=x)&&decide (x<hi))=false:=by
     cases e:(decide (0<=x)&&decide (x<hi)) with
     | false=>rfl
     | true =>
      rw[Bool.and_eq_true] at e;!absurd ⟨of_decide_eq_true e.1,of_decide_eq_true e.2⟩ c
    rw[e1,decide_eq_false c];rfl
  wp_walk
  !⟨_,rfl,by rw[e]; !h⟩
end
end HT
namespace L2
open PySem PySem.Spec PyProof.Rows
section
variable{X:Cx}{i a:Expr}{ti:TE}{ta:TA}{p pos:Pos}
def ADn(ti:TE)(ta:TA):TE:=fun σ H Q=>ti σ H fun x H1=>∃ k:Int,x=.int k/\ta σ H1 fun vs H2=>∃ j:Int,vs=[.int j]/\Q (.bl (decide (0<=k/\k<j))) H2
theorem Zk(hi:PE X i ti)(hg:Gl X "range")(hm:X.mg "range" = none)(ha:PA X [a] ta)(hs:starEach [a] X.env=[(false,eval a X.env)]:=by rfl):PC X .In i (.Call (.Name "range" p) [a] [] pos) (ADn ti ta):=by
 intro pins s σ H Q I h;r thn (hi pins s σ H _ I h) fun iv s1 ⟨x,H1,I1,rx,k,ex,q1⟩=>?_;subst ex;o⟨tk,rfl⟩:=rx;r Call_ (Ej I1 hg hm boot_range (PyProof.Rows.callWith_type1 (thn (ha pos pins s1 σ H1 _ I1 q1) fun us s2 ⟨vs,H2,I2,r2,q2⟩=>?_) hs rfl));o⟨j,e,q⟩:=q2;subst e;cases r2 with
 | cons r rr =>
  cases rr;o⟨t,rfl⟩:=r;r call_range_1 ?_;r PySem.SeqRoads2.in_meets (T:="range") ⟨_,¿ _ rfl,rfl⟩ PySem.F.slot_range_contains PySem.F.entry_range_contains (PySem.F.args_range_contains_2 _ _) (HT.Li _ j k _ _ _ tk) ⟨¿ _ rfl,_,rfl,?_⟩;!⟨.bl _,H2,I2.kept fun b o e=>° _ e,rfl,q⟩
end
end L2
end
section
namespace K53
open PySem L2 G
abbrev uv(s:List Nat):List V:=(up s).map V.int
theorem ADZ(s:List Nat):(uv s).length=s.length:=by unfold uv up; rw[List.length_map,List.length_map]
theorem ADQ(s u:List Nat):uv (s++u)=uv s++uv u:=by unfold uv up; rw[List.map_append,List.map_append]
def Zr:Sp:=fun vs H Q _=>∃(c:Int) (n:Nat),vs=[.int c,.int n]/\n<=12/\∀(t:Addr) (s:List Nat) (H':Hp),Same H H'->H' t=some (.tup (uv s))->s.Pairwise (· < ·)->(∀ x∈s,x<n)->Q (.ref t) H'
def ACz(K:¨):Sp:=fun vs H Q _=>∃(l t:Addr) (n k:Nat) (s:List Nat) (rows:List Row),vs=[.ref l,.int k,.ref t]/\rLst K (K53s.rRow K) H rows (.ref l)/\SqT K H t (uv s)/\Ok n rows/\Knot rows k/\∀ H',Same H H'->Q (.bl (led rows k s)) H'
section
variable{P:Program}{w:World}{K:¨}{mg:Str->Option Value}{base:Heap}{f C:Addr}{fd:FuncData}
theorem Pk:FnScope ["_law_cell_here", "_law_n", "_law_found", "_law_k"] ["_law_cell_here", "_law_n"] (Ac Nt):=¡
theorem ABe(F:Fun K "_law_some" "_law_some" Nt f fd)(T:Txt K mg C):FnOk P w K mg base CX0 1 f fd ["_law_cell_here", "_law_n"] Zr:=by
 r F.ok Pk § ¦
 ·o⟨c,n,rfl,_⟩:=h
  rfl
 o⟨c,n,rfl,n12,q⟩:=h;r⟨_,Ae (Ax (i:=2) Pk.nd rfl ④ (Ci Ad))
  (Ae (Cw PassesOwn.never rfl (Cm rfl T.range (Aa (pv 1) Ad)) (Am (i:=3) Pk.nd rfl ④)
   (Ae (CN (Ar Ey (Aw Dm (pv 0) Ah) Ah ⑮)
    (Aj (DX (Od PySem.F.plainAttrs_list PySem.F.slot_list_append PySem.F.type_list_append Cy (pv 2) (Aa (pv 3) Ad)))) BX)
   (Aj (Ax (i:=0) Pk.nd rfl ④ (Aw Fo (pv 0) Ah)))))
  (Aj (Av (Bk Ce rfl T.tuple PyProof.Rows.boot_tuple (Aa (pv 2) Ad))))),?_⟩
 r⟨Nat.zero_le _,fun l hl=>?_⟩;r⟨_,rfl,(n:Int),rfl,by w,by w,?_⟩;r Jd (lo:=0) (n:=(n:Int).toNat) (fun i σ H2=>∃(ms:List Nat) (c':Int) (kv:Option V),σ=[some (.int c'),some (.int n),some (.ref l),kv]/\Same H H2/\H2 l=some (.lst (uv ms))/\ms.length<=i/\ms.Pairwise (· < ·)/\∀ m∈ms,m<i)
  ⟨[],c,none,rfl,Same.new hl _,Ab,Nat.le_refl _,.nil,fun m hm=>by cases hm⟩ ?_ ?_
 ·rintro i σ H2 hi ⟨ms,c',kv,rfl,sm,hL,hn,pw,hb⟩
  rw[show (0:Int)+(i:Int)=(i:Int) by w];r⟨_,rfl,_,_,rfl,rfl,(by show (0:Int)<2; decide),rfl,_,rfl,?_⟩;r ite2 (fun _=>?_) (fun _=>?_)
  ·r⟨_,rfl,.inl ⟨rfl,_,SqL.of hL⟩,_,rfl,l,_,_,rfl,rfl,hL,by rw[ADZ]; !Ay ¢,?_⟩
   r⟨_,rfl,_,_,rfl,rfl,⟨by decide,by decide⟩,?_⟩;r⟨ms++[i],_,_,rfl,fun b o e=>by rw[Af (Ag e hl)]; !sm b o e,by rw[Ab,ADQ]; rfl,by simp; w,?_,fun m hm=>?_⟩
   ·rw[List.pairwise_append]
    r⟨pw,by simp,fun a ha b hb'=>?_⟩;have:=hb a ha;h e:b=i:=by simpa using hb'
    w
   ·rcases List.mem_append.mp hm with hm | hm
    ·have:=hb m hm
     w
    ·h e:m=i:=by simpa using hm
     w
  ·r⟨_,rfl,_,_,rfl,rfl,⟨by decide,by decide⟩,?_⟩
   !⟨ms,_,_,rfl,sm,hL,by w,pw,fun m hm=>by have:=hb m hm; w⟩
 ·rintro σ H2 ⟨ms,c',kv,rfl,sm,hL,hn,pw,hb⟩
  r⟨_,rfl,l,_,rfl,.inl ⟨SqL.of hL,fun t ht=>?_⟩⟩;r q t ms _ (sm.trans (Same.new ht _)) Ab pw (fun k hk=>?_);have:=hb k hk;w
theorem Iu:FnScope ["_law_knots", "_law_top", "_law_some_here", "_law_here", "_law_left", "_law_tie", "_law_without", "_law_having"] ["_law_knots", "_law_top", "_law_some_here"] (Ac Yh):=¡
theorem ADh(F:Fun K "_law_led" "_law_led" Yh f fd)(T:Txt K mg C):FnOk P w K mg base CX0 1 f fd ["_law_knots", "_law_top", "_law_some_here"] (ACz K):=by
 r F.ok Iu § ¦
 ·o⟨l,t,n,k,s,rows,rfl,_⟩:=h
  rfl
 o⟨l,t,n,k,s,rows,rfl,hL,hT,ok,kn,q⟩:=h;r⟨_,Ae (Ax (i:=3) Iu.nd rfl ④ (pv 1))
  (Ae (Ax (i:=4) Iu.nd rfl ④ (Bk Fl rfl T.list PyProof.Rows.boot_list (Aa (pv 2) Ad)))
  (Ae (Yx PassesOwn.never (Ar Mz (pv 3) Ah ⑮)
   (Ae (Pa (Bc Bl (pv 0) (Aw DP (pv 3) Ah) (fun _ _=>rfl)) (Ft (K:=K) (n:=3) rfl rfl (Bb (Am (i:=5) Iu.nd rfl ④) (Bb (Am (i:=6) Iu.nd rfl ④) (Bb (Am (i:=7) Iu.nd rfl ④) Dw)))))
   (Ae (CN (PW.pt (LC (Ar (QC DG (CW hr)) (pv 4) (Ci Ad) ⑮) (Ie (Ar Lq (Bc Bl (pv 4) Ah (fun _ _=>rfl)) (pv 5) ⑮)))) (Aj (Av Ec)) BX)
   (Ae (Ax (i:=3) Iu.nd rfl ④ (pv 6))
   (Aj (CN (PW.pt (LC (Ar (QC DG (CW hr)) (pv 4) (Ci Ad) ⑮) (Ie (Ar Ey (Bc Bl (pv 4) Ah (fun _ _=>rfl)) (pv 5) ⑮))))
    (Ae (Ax (i:=4) Iu.nd rfl ④ (Fy KH (pv 4) (Gy Ah) Jv)) (Aj (Ax (i:=3) Iu.nd rfl ④ (pv 7)))) BX))))))
  (Aj (Av (Vb (Cp Ey (pv 3) Ah ⑮) (QX (Cp (Qf DG (CW hr)) (pv 4) (Ci Ad) ⑮))))))),?_⟩
 r⟨_,rfl,_,rfl,t,_,rfl,.inr hT,fun lf hlf=>?_⟩;r⟨fun m σ H2=>∃(k':Nat) (lf:Addr) (s':List Nat) (o5 o6 o7:Option V),m=k'/\Same H H2/\σ=[some (.ref l),some (.int k),some (.ref t),some (.int k'),some (.ref lf),o5,o6,o7]/\H2 lf=some (.lst (uv s'))/\Knot rows k'/\led rows k s=led rows k' s',⟨k,k,lf,s,none,none,none,rfl,Same.new hlf _,rfl,Ab,kn,rfl⟩,?_⟩;rintro m σ H2 ⟨k',lf,s',o5,o6,o7,rfl,sm,rfl,elf,kn',e⟩;r⟨_,rfl,_,_,rfl,rfl,_,rfl,?_⟩;h isl:∀{H':Hp},H' lf=some (.lst (uv s'))->rLst K rInt H' (up s') (.ref lf):=fun h=>⟨lf,_,rfl,SqL.of h,Eu _⟩;r ite2 (fun c=>?_) (fun c=>?_)
 ·h m2:2<=m:=by have:=of_decide_eq_true c; w
  o⟨xs,p,hS,ha,hp⟩:=K53s.ZW hL kn' m2;o⟨t1,z1,z2,r1,r2,n1,n2⟩:=ok.low (Bg kn' m2);r⟨fun σ' H'=>∃ m',m'<m/\_,fun σ' H' h=>h,?_⟩;r⟨_,rfl,_,rfl,_,_,rfl,rfl,l,xs,_,_,rfl,rfl,sm.seq hS,ha,p,_,rfl,sm.ts.seq hp,rfl,_,_,rfl,_,_,rfl,_,_,rfl,rfl,?_⟩;r⟨_,rfl,Nat.zero_le _,fun e0 he0=>⟨up s',[],isl (Same.new he0 _ _ _ elf),⟨e0,[],rfl,SqL.of Ab,.nil⟩,_,rfl,?_⟩⟩;h s3:=Same.new he0 (.lst []);h elf3:=s3 _ _ elf;generalize upd H2 e0 (.lst [])=H3 at s3 elf3;h sm3:=sm.trans s3;cases s' with
  | nil =>
   r iteF (iteF ?_);r⟨_,rfl,?_⟩;r⟨_,rfl,Nat.zero_le _,fun e1 he1=>⟨up [],[],⟨lf,_,rfl,SqL.of (Same.new he1 _ _ _ elf3),Eu _⟩,⟨e1,[],rfl,SqL.of Ab,.nil⟩,_,rfl,?_⟩⟩;h s4:=Same.new he1 (.lst []);r iteF (iteF ?_);rw[Dq ok kn' m2] at e;!⟨_,¢,_,lf,[],_,_,_,rfl,sm3.trans s4,rfl,s4 _ _ elf3,n1,e⟩
  | cons x xs' =>
   have ec:=Bx (x:=x) (xs:=xs') ok kn' m2;have a0:atI (uv (x::xs')) 0=some (V.int ((x:Nat):Int)):=Bm (show (uv (x::xs'))[0]?=some (V.int ((x:Nat):Int)) from rfl);r iteT ?_;r⟨_,rfl,lf,_,_,_,rfl,rfl,SqL.of elf3,a0,_,rfl,_,_,rfl,rfl,_,rfl,?_⟩;by_cases c2:x<(rows.getD (m-2) (0,0,0)).1
   ·r iteP ¢ ?_
    rw[if_pos c2] at ec;have q':=q _ sm3;rw[e,ec] at q';!q'
   ·r iteN ¢ ?_
    rw[if_neg c2] at ec;r⟨_,rfl,?_⟩;r⟨_,rfl,Nat.zero_le _,fun e1 he1=>⟨up (x::xs'),[],⟨lf,_,rfl,SqL.of (Same.new he1 _ _ _ elf3),Eu _⟩,⟨e1,[],rfl,SqL.of Ab,.nil⟩,_,rfl,?_⟩⟩;have s4:=Same.new he1 (.lst []);have elf4:=s4 _ _ elf3;generalize upd H3 e1 (.lst [])=H4 at s4 elf4;have sm4:=sm3.trans s4;r iteT ?_;r⟨_,rfl,lf,_,_,_,rfl,rfl,SqL.of elf4,a0,_,rfl,rfl,_,rfl,?_⟩;by_cases c3:x=(rows.getD (m-2) (0,0,0)).1
    ·r iteP (by rw[c3]) ?_
     rw[if_pos c3] at ec;r⟨_,rfl,_,rfl,lf,_,rfl,SqL.of elf4,fun l2 hl2=>?_⟩;rw[show cutV (uv (x::xs')) (some 1) none=uv xs' by
      unfold cutV;rw[HT.Ti,show (1:Int)=((1:Nat):Int) from rfl,HT.Wa];show ((uv (x::xs')).drop (min 1 ((uv xs').length+1))).take ((uv xs').length+1-min 1 ((uv xs').length+1))=uv xs';rw[show min 1 ((uv xs').length+1)=1 by w,Nat.add_sub_cancel];!List.take_of_length_le ③]
     !⟨_,rfl,_,¢,_,l2,xs',_,_,_,rfl,sm4.trans (Same.new hl2 _),rfl,Ab,n2,by rw[e,ec]⟩
    ·r iteN (fun z=>c3 (by injection z with z; w)) ?_
     rw[if_neg c3] at ec;!⟨_,¢,_,lf,x::xs',_,_,_,rfl,sm4,rfl,elf4,n1,by rw[e,ec]⟩
 ·h m1:m<2:=by
   have:¬ (1:Int)<m:=fun z=>c (decide_eq_true z);w
  r⟨_,rfl,rfl,_,rfl,?_⟩;by_cases c1:m=1
  ·subst c1
   r iteP rfl ?_;r⟨_,rfl,Nat.zero_le _,fun e0 he0=>⟨up s',[],isl (Same.new he0 _ _ _ elf),⟨e0,[],rfl,SqL.of Ab,.nil⟩,?_⟩⟩;rw[e,Dy] at q;h eb:decide (up s'=[])=decide (s'=[]):=by cases s'<;>rfl
   rw[eb];!q _ (sm.trans (Same.new he0 _))
  ·h m0:m=0:=by w
   subst m0;r iteN (fun z=>by injection z with z; w) ?_;rw[e,Cr] at q;!q _ sm
end
theorem lexN{a b c d:Nat}(h:a<c\/(a=c/\b<d)):HT.lexLt [(a:Int),(b:Int)] [(c:Int),(d:Int)]=true:=by
 rw[HT.Br];rcases h with h | ⟨h1,h⟩
 ·rw[if_neg ¢]
  !decide_eq_true ¢
 rw[if_pos ¢,HT.Br,if_neg ¢];!decide_eq_true ¢
theorem AEQ{a b:Row}(h:RowLt a b):ltIT (0-(a.1:Int),[(a.2.1:Int),(a.2.2:Int)]) (0-(b.1:Int),[(b.2.1:Int),(b.2.2:Int)])=true:=by
 unfold ltIT;rcases h with h | ⟨h1,h⟩
 ·rw[if_neg (by show ¬ (0-(a.1:Int)=0-(b.1:Int)); w)]
  !decide_eq_true (by show 0-(a.1:Int)<0-(b.1:Int); w)
 ·rw[if_pos (by show 0-(a.1:Int)=0-(b.1:Int); w)]
  !lexN h
def Tc(K:¨):Sp:=fun vs H Q _=>∃(l:Addr) (i n:Nat) (rows:List Row),vs=[.ref l,.int i,.int n]/\rLst K (K53s.rRow K) H rows (.ref l)/\Least n rows/\rows.Pairwise RowLt/\i<rows.length/\∀(H':Hp),Same H H'->Q (.bl true) H'
def Mt(K:¨):Sp:=fun vs H Q _=>∃(l:Addr) (n hd:Nat) (rows:List Row),vs=[.ref l,.int hd,.int n]/\rLst K (K53s.rRow K) H rows (.ref l)/\Canon n rows hd/\rows.length<=4000/\∀(H':Hp),Same H H'->Q (.bl true) H'
section
variable{P:Program}{w:World}{K:¨}{mg:Str->Option Value}{base:Heap}{f C:Addr}{fd:FuncData}
theorem FQ:FnScope ["_law_knots", "_law_k", "_law_n", "_law_tie", "_law_without", "_law_having", "_law_lower", "_law_before"] ["_law_knots", "_law_k", "_law_n"] (Ac Gz):=¡
theorem Yu(F:Fun K "_law_is_knot" "_law_is_knot" Gz f fd)(T:Txt K mg C):FnOk P w K mg base CX0 1 f fd ["_law_knots", "_law_k", "_law_n"] (Tc K):=by
 r F.ok FQ § ¦
 ·o⟨l,i,n,rows,rfl,_⟩:=h
  rfl
 o⟨l,i,n,rows,rfl,hL,L,srt,il,q⟩:=h;r⟨_,Ae (Pa (Bc Bl (pv 0) (pv 1) (fun _ _=>rfl)) (Ft (K:=K) (n:=3) rfl rfl (Bb (Am (i:=3) FQ.nd rfl ④) (Bb (Am (i:=4) FQ.nd rfl ④) (Bb (Am (i:=5) FQ.nd rfl ④) Dw)))))
  (Ae (CN (PW.pt (HN (Ar Lq (pv 3) Ah ⑮) (HN (Ar Tg (pv 3) (pv 2) ⑮) (Ho (Ar Ey (pv 5) Ah ⑮))))) (Aj (Av Ec)) BX)
  (Ae (Cw PassesOwn.never rfl (AAl (CG (Aa (pv 4) (Aa (pv 5) Ad)))) (Am (i:=6) FQ.nd rfl ④)
   (Ae (CN (PW.pt (HN (Ar Lq (pv 6) Ah ⑮) (Ho (Ar Tg (pv 6) (Aw Cv (pv 1) Ah) ⑮)))) (Aj (Av Ec)) BX)
   (Aj (CN (PW.pt (LC (Ar Mz (pv 6) Ah ⑮) (Ie (Ar AEe (Bc Dn (Bc Bl (pv 0) (Aw DP (pv 6) Ah) (fun _ _=>rfl)) Ah (fun _ _=>rfl)) (pv 3) ⑮)))) (Aj (Av Ec)) BX))))
  (Ae (CN (Ar Ey (pv 1) Ah ⑮) (Aj (Av Ec)) BX)
  (Ae (Ax (i:=7) FQ.nd rfl ④ (Bc Bl (pv 0) (Aw DP (pv 1) Ah) (fun _ _=>rfl)))
  (Aj (Av (Cp (ABf (CW hr)) (CG (Aa (Aw DP Ah (Bc Dn (pv 7) Ah (fun _ _=>rfl))) (Aa (Fy (ACl (K:=K) rfl) (pv 7) (Gy Ah) Jv) Ad)))
   (CG (Aa (Aw DP Ah (pv 3)) (Aa (CG (Aa (pv 4) (Aa (pv 5) Ad))) Ad))) ⑮))))))),?_⟩
 o⟨l',xs,el,hS,px⟩:=id hL;cases el;h hri:rows[i]?=some rows[i]:=± il;o⟨v,hv,b,rfl,hb⟩:=Paired.getL px hri;o⟨t1,lo1,lo2⟩:=L.ok i _ hri;h pos:=L.pos i _ hri;generalize hrr:rows[i]=r at hri hb t1 lo1 lo2 pos hv;r⟨_,rfl,_,rfl,l,_,_,_,rfl,rfl,hS,Bm hv,b,_,rfl,hb,rfl,_,_,rfl,_,_,rfl,_,_,rfl,rfl,?_⟩;r⟨_,rfl,_,_,rfl,rfl,_,rfl,iteN ¢ ?_⟩;r⟨_,rfl,_,rfl,_,_,rfl,rfl,_,rfl,iteN ¢ ?_⟩;r⟨_,rfl,rfl,_,rfl,iteN (fun z=>by injection z with z; w) ?_⟩;r⟨_,rfl,_,rfl,(by show 2<=sizeLine; decide),fun Y hY=>?_⟩;h s3:=Same.new hY (.tup [.int (r.2.1:Int),.int (r.2.2:Int)]);r⟨Y,rfl,⟨_,SqT.of Ab⟩,?_⟩;r ACU (K:=K) (a:=Y) (xs:=[.int (r.2.1:Int),.int (r.2.2:Int)]) (fun j σ H3=>∃ o:Option V,σ=[some (.ref l),some (.int i),some (.int n),some (.int r.1),some (.int r.2.1),some (.int r.2.2),o,none]/\H3=upd H Y (.tup [.int (r.2.1:Int),.int (r.2.2:Int)])) ⟨none,rfl,rfl⟩ (fun j σ H3 _ ⟨_,_,e⟩=>by rw[e]; !SqT.of Ab) ?_ ?_
 ·rintro j x σ H3 hx ⟨o,rfl,rfl⟩
  obtain ⟨c,rfl,lo⟩:∃ c:Nat,x=.int (c:Int)/\Low rows r.1 (i+2) c:=by
   match j,hx with
   | 0,hx=>!⟨_,by simpa using hx.symm,lo1⟩
   | 1,hx=>!⟨_,by simpa using hx.symm,lo2⟩
  o⟨cl,c'⟩:=lo;r⟨_,rfl,_,_,rfl,rfl,_,rfl,iteN ¢ ?_⟩;r⟨_,rfl,_,rfl,_,_,rfl,rfl,_,_,rfl,rfl,_,rfl,iteN ¢ ?_⟩;r⟨_,rfl,_,_,rfl,rfl,_,rfl,?_⟩;by_cases c1:(1:Int)<c
  ·r iteP c1 ?_
   o⟨r',hr',lt⟩:=c'.resolve_left ¢;o⟨v',hv',b',rfl,hb'⟩:=Paired.getL px hr';r⟨_,rfl,_,rfl,_,_,rfl,rfl,l,_,_,_,rfl,rfl,s3.seq hS,(by rw[show (c:Int)-2=((c-2:Nat):Int) by w]; !Bm hv'),b',_,_,_,rfl,rfl,s3.ts.seq hb',rfl,_,rfl,_,_,rfl,rfl,_,rfl,iteN ¢ ⟨_,rfl,rfl⟩⟩
  ·!iteN c1 (iteF ⟨_,rfl,rfl⟩)
 rintro σ H3 ⟨o,rfl,rfl⟩;r⟨_,rfl,rfl,_,rfl,?_⟩;by_cases c0:i=0
 ·r iteP (by rw[c0]; rfl) ?_
  !q _ s3
 r iteN (fun z=>c0 (by injection z with z; w)) ?_;h il1:i-1<rows.length:=by w
 h hr1:rows[i-1]?=some rows[i-1]:=± il1;o⟨v',hv',b',rfl,hb'⟩:=Paired.getL px hr1;h lt:RowLt rows[i-1] r:=by
  rw[<- hrr];!List.pairwise_iff_getElem.mp srt (i-1) i il1 il ¢
 generalize rows[i-1]=r' at hb' lt;h hb3:=s3.ts.seq hb';r⟨_,rfl,_,rfl,_,_,rfl,rfl,l,_,_,_,rfl,rfl,s3.seq hS,(by rw[show (i:Int)-1=((i-1:Nat):Int) by w]; !Bm hv'),?_⟩;generalize upd H Y (.tup [.int (r.2.1:Int),.int (r.2.2:Int)])=H3 at s3 hb3;r⟨_,rfl,b',_,_,_,rfl,rfl,hb3,rfl,_,_,rfl,rfl,_,rfl,_,rfl,b',_,rfl,hb3,(by intro z; !absurd z.1 (show ¬ HT.sIx 3 0 (some 1)=0 by decide)),fun T1 hT1=>?_⟩;rw[show cutV [V.int (r'.1:Int),.int (r'.2.1:Int),.int (r'.2.2:Int)] (some 1) none=[.int (r'.2.1:Int),.int (r'.2.2:Int)] from rfl];r⟨(by show 2<=sizeLine; decide),fun T2 hT2=>?_⟩;h s4:=Same.new hT1 (.tup [.int (r'.2.1:Int),.int (r'.2.2:Int)]);h e1:(upd H3 T1 (.tup [.int (r'.2.1:Int),.int (r'.2.2:Int)])) T1=some (.tup [.int (r'.2.1:Int),.int (r'.2.2:Int)]):=Ab;generalize upd H3 T1 (.tup [.int (r'.2.1:Int),.int (r'.2.2:Int)])=H4 at s4 e1 hT2 ⊢;r⟨_,rfl,_,_,rfl,rfl,_,rfl,_,rfl,(by show 2<=sizeLine; decide),fun T3 hT3=>⟨(by show 2<=sizeLine; decide),fun T4 hT4=>?_⟩⟩;h s5:=Same.new hT2 (.tup [.int (0-(r'.1:Int)),.ref T1]);h s6:=Same.new hT3 (.tup [.int (r.2.1:Int),.int (r.2.2:Int)]);h s7:=Same.new hT4 (.tup [.int (0-(r.1:Int)),.ref T3]);h q':=q _ (s3.trans (s4.trans (s5.trans (s6.trans s7))));rw[<- AEQ lt] at q';!⟨(0-(r'.1:Int),[(r'.2.1:Int),(r'.2.2:Int)]),(0-(r.1:Int),[(r.2.1:Int),(r.2.2:Int)]),⟨T2,T1,rfl,SqT.of (s7 _ _ (s6 _ _ Ab)),SqT.of (s7 _ _ (s6 _ _ (s5 _ _ e1)))⟩,⟨T4,T3,rfl,SqT.of Ab,SqT.of (s7 _ _ Ab)⟩,q'⟩
theorem Gu:FnScope ["_law_knots", "_law_top", "_law_n", "_law_reached", "_law_k"] ["_law_knots", "_law_top", "_law_n"] (Ac Eb):=¡
theorem Ur{fG:Addr}{fdG:FuncData}(F:Fun K "_law_is_least" "_law_is_least" Eb f fd)(T:Txt K mg C)
  (GG:FnOk P w K mg base CX0 1 fG fdG ["_law_knots", "_law_k", "_law_n"] (Tc K)) (bG:Binds K fdG ["_law_knots", "_law_k", "_law_n"] []) (kG:© K (.ref fG)=true) (mG:mg "_law_is_knot" = some (.ref fG)) :
  FnOk P w K mg base CX0 2 f fd ["_law_knots", "_law_top", "_law_n"] (Mt K):=by
 r F.ok Gu § ¦
 ·o⟨l,n,hd,rows,rfl,_⟩:=h
  rfl
 o⟨l,n,hd,rows,rfl,hL,cn,r4,q⟩:=h;h hr1:Room 1 _:=hr.mono ¤;r⟨_,Ae (Ax (i:=3) Gu.nd rfl (Or.inr rfl) (Ci (Aa (pv 1) Ad)))
  (Ae (Cw PassesOwn.never rfl (Cm rfl T.range (Aa (BL BZ rfl T.len PySem.boot_len (Aa (pv 0) Ad)) Ad)) (Am (i:=4) Gu.nd rfl ④)
   (Ae (CN (PW.pt (HN (Kl (Hq (BL Yd rfl T.isi PyProof.Rows.boot_isinstance (Aa (Bc Bl (pv 0) (pv 4) (fun _ _=>rfl)) (Aa (ACW (v:=.ty "tuple") rfl T.tuple PyProof.Rows.boot_tuple rfl) Ad)))))
     (HN (Ar Ot (BL BZ rfl T.len PySem.boot_len (Aa (Bc Bl (pv 0) (pv 4) (fun _ _=>rfl)) Ad)) Ah ⑮)
     (Ho (Kl (Hq (BP GG hr1 rfl mG kG bG .nil pass0 (Aa (pv 0) (Aa (pv 4) (Aa (pv 2) Ad)))))))))) (Aj (Av Ec)) BX)
   (Aj (Ax (i:=3) Gu.nd rfl (Or.inr rfl) (Aw Ul (pv 3) (Ci (Aa (Bc Dn (Bc Bl (pv 0) (pv 4) (fun _ _=>rfl)) Ah (fun _ _=>rfl)) (Aa (Bc Dn (Bc Bl (pv 0) (pv 4) (fun _ _=>rfl)) Ah (fun _ _=>rfl)) Ad))))))))
  (Aj (Av (Vb (ADN (Zk (pv 1) rfl T.range (Aa (Aw Cv (BL BZ rfl T.len PySem.boot_len (Aa (pv 0) Ad)) Ah) Ad)) rfl)
   (QX (Cp (Qf DG (CW hr)) (Ca (Ac Eb) ["_law_k"] ["_law_reached"] [3] rfl rfl £ ⟨⟨rfl,£⟩,trivial⟩ (Cm rfl T.range (Aa (BL BZ rfl T.len PySem.boot_len (Aa (pv 0) Ad)) Ad))
    (fun _ _ _=>Am (i:=0) (show ((["_law_k"]:List Str)++(["_law_reached"]:List Str)).Nodup by decide +kernel) rfl ④)
    (fun _ _ _=>Dg (Ar (Mh (K:=K) rfl) (Aw Cv (pv 0) Ah) (pv 1) rfl))
    (fun _ _ _=>pv 0)) (Ci Ad) ⑮)))))),?_⟩
 o⟨l',xs,el,hS,px⟩:=id hL;cases el;h lx:=Paired.length px;r⟨_,rfl,(by show 1<=sizeLine; decide),fun R0 hR0=>?_⟩;h sR:=Same.new hR0 (.lst [.int (hd:Int)]);r⟨_,rfl,l,_,rfl,.inl (sR.seq hS),_,rfl,by w,by w,?_⟩;r Jd (lo:=0) (n:=((xs.length:Nat):Int).toNat) (fun i σ H3=>∃(R:Addr) (rs:List Int) (o:Option V),σ=[some (.ref l),some (.int hd),some (.int n),some (.ref R),o]/\Same H H3/\H3 R=some (.lst (rs.map V.int))/\rs.length=1+2*i/\(hd:Int)∈rs/\∀(j:Nat) (r:Row),j<i->rows[j]?=some r->(r.2.1:Int)∈rs/\(r.2.2:Int)∈rs)
  ⟨R0,[(hd:Int)],none,rfl,sR,Ab,rfl,List.mem_singleton.mpr rfl,fun j r h=>absurd h (Nat.not_lt_zero _)⟩ ?_ ?_
 ·rintro i σ H3 hi ⟨R,rs,o,rfl,s3,eR,rl,hm,hh⟩
  rw[show (0:Int)+(i:Int)=(i:Int) by w];h il:i<rows.length:=by w
  h hri:rows[i]?=some rows[i]:=± il;o⟨v,hv,b,rfl,hb⟩:=Paired.getL px hri;h hb3:=s3.ts.seq hb;h hS3:=s3.seq hS;r⟨_,rfl,_,rfl,l,_,_,_,rfl,rfl,hS3,Bm hv,b,_,rfl,hb3,true,rfl,iteF ?_⟩;r⟨_,rfl,_,rfl,l,_,_,_,rfl,rfl,hS3,Bm hv,b,_,rfl,.inr hb3,rfl,_,rfl,iteF ?_⟩;r⟨_,rfl,_,rfl,_,rfl,l,i,n,rows,rfl,⟨l,xs,rfl,hS3,Paired.imp (fun a b=>K53s.Bu _ _ a b s3.ts) px⟩,cn.least,cn.srt,il,fun H4 s4=>⟨true,rfl,iteF ?_⟩⟩;h s34:=s3.trans s4;h hb4:=s34.ts.seq hb;h hS4:=s34.seq hS;h eR4:=s4 _ _ eR;generalize rows[i]=r at hri hb hb3 hb4;r⟨_,rfl,_,rfl,_,rfl,l,_,_,_,rfl,rfl,hS4,Bm hv,b,_,_,_,rfl,rfl,hb4,rfl,_,rfl,_,rfl,l,_,_,_,rfl,rfl,hS4,Bm hv,b,_,_,_,rfl,rfl,hb4,rfl,(by show 2<=sizeLine; decide),fun Y hY=>?_⟩;h s5:=Same.new hY (.lst [.int (r.2.1:Int),.int (r.2.2:Int)]);r⟨R,Y,_,_,rfl,rfl,s5 _ _ eR4,Ab,?_,fun R2 hR2=>?_⟩
  ·rw[List.length_map]
   !Nat.le_of_lt (smallN (show rs.length+2<=100000 by w))
  h s6:=Same.new hR2 (.lst (rs.map V.int++[.int (r.2.1:Int),.int (r.2.2:Int)]));r⟨R2,rs++[(r.2.1:Int),(r.2.2:Int)],_,rfl,s34.trans (s5.trans s6),by rw[Ab,List.map_append]; rfl,?_,List.mem_append_left _ hm,fun j r' hj hr'=>?_⟩
  ·rw[List.length_append]
   show rs.length+2=_;w
  ·by_cases ej:j=i
   ·subst ej
    rw[hri] at hr';cases hr';!⟨List.mem_append_right _ ´,List.mem_append_right _ (¶ _ ´)⟩
   ·o⟨y1,y2⟩:=hh j r' ¢ hr'
    !⟨List.mem_append_left _ y1,List.mem_append_left _ y2⟩
 ·rintro σ H3 ⟨R,rs,o,rfl,s3,eR,rl,hm,hh⟩
  h kn:hd<rows.length+2:=cn.knot;h hS3:=s3.seq hS;r⟨_,rfl,(hd:Int),rfl,_,rfl,l,_,rfl,.inl hS3,_,_,rfl,rfl,_,rfl,_,rfl,?_⟩;r iteP ⟨by w,by show (hd:Int)<(xs.length:Int)+2; w⟩ ?_;r⟨_,rfl,l,_,rfl,.inl hS3,_,rfl,by w,by w,fun L hL=>?_⟩;r Cj (lo:=0) (n:=((xs.length:Nat):Int).toNat) (fun j τ H5=>∃ o:Option V,τ=[o,some (.ref R)]/\Same H3 H5/\H5 L=some (.lst [])) ⟨none,rfl,Same.new hL _,Ab⟩ ?_ ?_
  ·rintro j τ H5 hj ⟨o,rfl,s5,eL⟩
   rw[show (0:Int)+(j:Int)=(j:Int) by w];r⟨_,rfl,_,_,rfl,rfl,_,rfl,R,_,rfl,.inl (SqL.of (s5 _ _ eR)),rfl,JZ rs,_,rfl,?_⟩;rw[if_pos rfl,EY];h mem:(j:Int)+2∈rs:=by
    rcases cn.led (j+2) ¢ (by show j+2<rows.length+2; w) with e | ⟨r,hr,e⟩
    ·rw[show (j:Int)+2=(hd:Int) by w]
     !hm
    ·o⟨i,hi,rfl⟩:=List.getElem_of_mem hr
     h z:=hh i rows[i] ¢ (± hi);rcases e with e | e
     ·rw[show (j:Int)+2=(rows[i].2.1:Int) by w]
      !z.1
     ·rw[show (j:Int)+2=(rows[i].2.2:Int) by w]
      !z.2
   !iteNP mem ⟨_,rfl,s5,eL⟩
  ·rintro τ H5 ⟨o,rfl,s5,eL⟩
   r⟨Nat.zero_le _,fun e0 he0=>⟨[],[],⟨L,[],rfl,SqL.of (Same.new he0 _ _ _ eL),.nil⟩,⟨e0,[],rfl,SqL.of Ab,.nil⟩,?_⟩⟩;!q _ (s3.trans (s5.trans (Same.new he0 _)))
end
end K53
end
section
namespace L2
open PySem PySem.Spec PyProof.Rows
def rBl:Rep Bool:=fun _ b v=>v=.bl b
theorem Hj{H:Hp}:∀ bs:List Bool,Paired (rBl H) bs (bs.map V.bl)
 | []=>.nil
 | _::r=>.cons rfl (Hj r)
section
variable{X:Cx}{K:¨}{tg l:Expr}{tl:TE}
theorem ADt:Dat X 0 rBl where
 eq:=fun pins s σ H A a b x y u v I hu ha hb ru rv=>by
  cases ha; cases hb;cases ru;cases rv;h e:=SeqAt.EqAt.bool_bool (A:=A) (s:=s) a b;rw[Bool.beq_eq_decide_eq] at e;!e
 fn:=fun pins s σ H a b x I ha hb=>by
  cases ha;!(V.bl.inj hb)
end
structure FunD(K:¨)(x qual:Str)(st:Stmt)(f:Addr)(fd:FuncData)(dt:Addr)(items:Array Value):Prop where
 ex:∃(oc:Value) (od:Option Addr) (kV doc pm:Value) (an:Option Addr) (cdv ct:Value) (osl:Array ⑦),
  fd=PySem.W.fnOf x qual (Ao st) (Ak st) (Ac st) (.ref dt) kV doc pm an cdv ct/\K.lookup f=some ⟨oc,od,.func fd,osl⟩/\PySem.W.codeIn K cdv qual=true
 tup:∃(oc:Value) (od:Option Addr) (n:Nat) (osl:Array ⑦),K.lookup dt=some ⟨oc,od,.seq items n,osl⟩
section
variable{P:Program}{w:World}{K:¨}{mg:Str->Option Value}{base:Heap}
theorem FunD.ok{x qual:Str}{st:Stmt}{f dt:Addr}{items:Array Value}{fd:FuncData}{N ps:List Str}{k:Nat}{sp:Sp}(F:FunD K x qual st f fd dt items)(S:FnScope N ps (Ac st))(len:∀ vs H Q E,sp vs H Q E->vs.length=ps.length)
  (hbody:∀(cdv:Value) (A:Around) (outer:List Env) (s:Shared) (H:Hp) (vs:List V) (Q:VK) (E:XK),Room k (A.deeper (envOfC qual (Ac st) ¸ f cdv))->sp vs H Q E ->
   ∃ t,PSs (cxOf CX0 P w K mg base N qual (Ac st) f cdv A outer s H E).nox (Ak st) t/\t {nx:=fun _ H'=>Q .non H',rt:=Q} (start N vs) H):FnOk P w K mg base CX0 (k+1) f fd ps sp:=by
 o⟨oc,od,kV,doc,pm,an,cdv,ct,osl,rfl,lk,hcd⟩:=F.ex;r ACw lk hcd S len fun A outer s H vs Q E hr hsp=>?_;o⟨t,h,q⟩:=hbody cdv A outer s H vs Q E hr hsp;!⟨t,h.nox,q⟩
theorem FunD.binds{x qual:Str}{st:Stmt}{f dt:Addr}{items:Array Value}{fd:FuncData}{ps:List Str}{ds:List Value}(F:FunD K x qual st f fd dt items)
  (h:∀(kV doc pm:Value) (an:Option Addr) (cdv ct:Value) (us:List Value),(us++ds).length=ps.length->∃ k:Option (Array Value)->Sem (List (Str×Value)),bindArgs (PySem.W.fnOf x qual (Ao st) (Ak st) (Ac st) (.ref dt) kV doc pm an cdv ct) ⟨us,[]⟩=seqItems? (.ref dt) >>= k/\k (some items)=pure (ps.zip (us++ds))):Binds K fd ps ds:=by
 o⟨oc,od,kV,doc,pm,an,cdv,ct,osl,rfl,lk,hcd⟩:=F.ex;o⟨oc',od',n,osl',lt⟩:=F.tup;intro s us hK hl;o⟨k,h1,h2⟩:=h kV doc pm an cdv ct us hl;!BindsTo.of_defaults (T:=dt) rfl (hK _ _ lt) rfl h1 h2
end
end L2
end
section
namespace K53
open PySem L2 G
def uC:Ru:=⟨[],fun c=>decide (1<=c)⟩
theorem AEy{m:Str}(h:¬ m = "full"):uC.rf.lookup m=none:=rfl
def relab(o sc:Scope):Scope:={sc with names:=sc.names.map fun(n,k)=>if (k==NameKind.free&&o.kind == .function&&o.names.lookup n==some .cell) then (n,NameKind.cell) else (n,k)}
def Wy(st:Stmt):Scope:=match st with
 | .Assign _ (.ListComp _ _ sc _) _=>sc
 | _=>Ac st
def cntL(as:List ⑧)(ms:List Int)(p:Nat):Int:=((ms.filter fun k=>(as.getD k.toNat []).contains (p:Int)).length:Nat)
def cntsL(as:List ⑧)(ms:List Int)(m:Nat):List Int:=(List.range m).map (cntL as ms)
theorem Uw(as:List ⑧)(ms:List Int)(m:Nat):cntsL as ms (m+1)=cntsL as ms m++[cntL as ms m]:=by unfold cntsL; rw[List.range_succ,List.map_append]; rfl
theorem JB(as:List ⑧)(ms:List Int)(m:Nat):(cntsL as ms m).length=m:=by unfold cntsL; rw[List.length_map,List.length_range]
section
variable{X:Cx}{tg elt iter:Expr}{ifs:List Expr}{scope:Scope}{pos:Pos}{g:TG}{tc:TT}{te:TE}{wi:TI}
theorem AAR{i:Nat}{x:Str}{pos' spos:Pos}(osc:Scope)(own fr:List Str)(ix:List Nat)(hN:X.N.Nodup)(hx:X.N[i]?=some x)(hl:Loc X.env.scope x)(hc:X.calm=true)(ho:X.env.scope=osc)(hok:Jr osc scope=true)(hfr:FreeAt X scope fr ix)(hit:PI X tg iter wi)
  (hg:∀ fp s H,PG ⑩ tg g) (hi:∀ fp s H,PIfs ⑩ ifs tc) (he:∀ fp s H,PE ⑩ elt te)
  (hsw:swapsWith (.ListComp elt [⟨tg,iter,ifs,0⟩] scope pos) (some (.Name x pos')) spos.line X.env=pure true:=by rfl) (hs:∀ x,foldedSetIterable iter X.env x=pure x:=by intro _; rfl)
  (hf:X.fn x=true\/X.env.scope.names.lookup x=some .local:=by first | !.inl rfl | !.inr rfl | assumption) :
  PS X (.Assign [.Name x pos'] (.ListComp elt [⟨tg,iter,ifs,0⟩] scope pos) spos) (AAx (Wj own ix wi g tc te) (gName i)) :=
 AAk own fr ix hN hx hl hc (ho ▸ hok) hfr hit hg hi he hsw hs hf
end
theorem ABQ(k:Nat)(x:Int):(List.replicate k [V.int x]).flatten=(List.replicate k x).map V.int:=by
 induction k with
 | zero=>rfl
 | succ k ih=>rw[List.replicate_succ,List.flatten_cons,ih,List.replicate_succ,List.map_cons]; rfl
def fitB(u:Ru)(as:List ⑧)(z:Nat)(s:List Nat):Bool:=(cntsL as (up s) z).all fun c=>u.al (min c 2)
theorem Ku(as:List ⑧)(ms:List Int)(z:Nat):∀ c∈cntsL as ms z,0<=c:=fun c hc=>by
 unfold cntsL at hc;o⟨p',_,rfl⟩:=List.mem_map.mp hc;unfold cntL;w
theorem QD(fu:Bool){c:Int}(h:0<=c):alP fu (min c 2)=alP fu c:=by
 unfold alP;h e1:(min c 2=1)↔c=1:=by w
 h e0:(min c 2=0)↔c=0:=by w
 rw[decide_eq_decide.mpr e1,decide_eq_decide.mpr e0]
theorem YK{as:List ⑧}{z:Nat}{s:List Nat}{m:Int}(hm:m∈cntsL as (up s) z)(hg:∀ c∈cntsL as (up s) z,c<=m):fitB (uP false) as z s=decide (m<2):=by
 unfold fitB;rw[Bool.eq_iff_iff,List.all_eq_true,decide_eq_true_iff];constructor
 ·intro h
  h h0:=Ku as (up s) z m hm;have:=h m hm;rw[show (uP false).al (min m 2)=alP false m from QD false h0] at this;unfold alP at this;simp at this;w
 ·intro h c hc
  h h0:=Ku as (up s) z c hc;have:=hg c hc;rw[show (uP false).al (min c 2)=alP false c from QD false h0];unfold alP;simp;w
theorem ABR{as:List ⑧}{z:Nat}{s:List Nat}:fitB (uP true) as z s=decide (cntsL as (up s) z=List.replicate z 1):=by
 unfold fitB;rw[Bool.eq_iff_iff,List.all_eq_true,decide_eq_true_iff,List.eq_replicate_iff];constructor
 ·intro h
  r⟨JB _ _ _,fun c hc=>?_⟩;h h0:=Ku as (up s) z c hc;have:=h c hc;rw[show (uP true).al (min c 2)=alP true c from QD true h0] at this;unfold alP at this;simpa using this
 ·rintro⟨_,h⟩ c hc
  rw[h c hc];rfl
theorem ABc{as:List ⑧}{z:Nat}{s:List Nat}{m:Int}(hm:m∈cntsL as (up s) z)(hg:∀ c∈cntsL as (up s) z,m<=c):fitB uC as z s=decide (0<m):=by
 unfold fitB;rw[Bool.eq_iff_iff,List.all_eq_true,decide_eq_true_iff];constructor
 ·intro h
  have:1<=min m 2:=of_decide_eq_true (h m hm);w
 ·intro h c hc
  have:=hg c hc;!decide_eq_true (by show 1<=min c 2; w)
theorem Vu{u:Ru}{as:List ⑧}{z:Nat}{s:List Nat}{b:Bool}(pw:s.Pairwise (· < ·))(hs:∀ x∈s,x<as.length)
  (h:b=semC u (as.map srt) z (as.map srt).length 0 (some (List.replicate z 0)) s):b=fitB u as z s:=by
 h bl:(as.map srt).length=as.length:=List.length_map ..;h e0:∀ p,(List.replicate z (0:Int)).getD p 0=0:=fun p=>by
  rw[¯,List.getElem?_replicate];split<;>rfl
 h sm:Sml u.al (List.replicate z 0):=⟨fun p=>by rw[e0]; decide,fun _ p=>by rw[e0]; decide⟩;rw[bl] at h;h T:=ZJ (al:=u.al) (z:=z) (on:=onB (as.map srt)) (L:=Lp (as.map srt)) (n:=as.length) (fun p x _ xl h=>AFH (by rw[bl]; !xl) h) (fun p _=>by have:=AEw (bs:=as.map srt) (p:=p); rw[bl] at this; !this) as.length 0 _ s ¢ List.length_replicate sm;h cn:∀ p:Nat,((cntS (onB (as.map srt)) p s:Nat):Int)=cntL as (up s) p:=fun p=>by
  unfold cntS cntL up;rw[List.filter_map,List.length_map]
  congr 2
  r List.filter_congr fun x _=>?_;unfold onB;show decide ((p:Int)∈(as.map srt).getD x [])=(as.getD (Int.toNat (x:Int)) []).contains (p:Int);rw[Int.toNat_natCast,Bool.eq_iff_iff,decide_eq_true_iff,List.contains_iff_mem,¯,¯,List.getElem?_map];cases as[x]? with
  | none=>!Iff.rfl
  | some t=>!ACV
 rw[h,Bool.eq_iff_iff];r Iff.trans T ?_;unfold fitB;rw[List.all_eq_true];constructor
 ·rintro⟨_,_,f⟩ c hc
  unfold cntsL at hc;o⟨p,hp,rfl⟩:=List.mem_map.mp hc;have:=f p (List.mem_range.mp hp) (Nat.zero_le _);rw[e0,Int.zero_add,cn] at this;!this
 ·intro f
  r⟨pw,fun x hx=>⟨Nat.zero_le _,hs x hx⟩,fun p hp _=>?_⟩;rw[e0,Int.zero_add,cn];!f _ (List.mem_map.mpr ⟨p,List.mem_range.mpr hp,rfl⟩)
def Lw(u:Ru)(K:¨)(C D:Addr):Sp:=fun vs H Q _=>∃(r p s dx:Addr) (z:Int) (as:List ⑧) (ms:List Int),vs=[.ref r,.ref p,.ref s]/\H r=some (.ins D dx u.rf)/\WebAt K C H p z as/\rRow K H s ms/\1<=z/\z<=10/\as.length<=12 /\
 ∀(b:Bool) (H':Hp),Same H H'->Q (.bl b) H'
def WX(K:¨):Sp:=fun vs H Q _=>∃(l t:Addr) (z:Nat) (as:List ⑧) (s:List Nat),vs=[.int z,.ref l,.ref t]/\rLst K (rPair K) H as (.ref l)/\SqT K H t (uv s)/\s.length<=12/\(∀ x∈s,x<as.length)/\1<=z/\z<=10 /\
 ∀(L:Addr) (H':Hp),Same H H'->H' L=some (.lst ([fitB (uP false) as z s,fitB (uP true) as z s,fitB uC as z s].map V.bl))->Q (.ref L) H'
section
variable{P:Program}{w:World}{K:¨}{mg:Str->Option Value}{base:Heap}{f C D:Addr}{fd:FuncData}
theorem Xb:FnScope ["self", "count"] ["self", "count"] (Ac FN):=¡
theorem Ut(F:Fun K "allows" "Covers.allows" FN f fd):FnOk P w K mg base CX0 1 f fd ["self", "count"] (Gh uC D):=by
 r F.ok Xb § ¦
 ·o⟨p,dx,c,rfl,_⟩:=h
  rfl
 o⟨p,dx,c,rfl,hp,q⟩:=h;r⟨_,Aj (Av (Cp Tg (pv 1) Ah ⑮)),?_⟩;!⟨_,rfl,_,_,rfl,rfl,q⟩
theorem ADu:FnScope ["self", "web", "some"] ["self", "web", "some"] (Ac Kp):=¡
theorem Vt{u:Ru}{fA fC:Addr}{fdA fdC:FuncData}(F:Fun K "fits" "TiedPoints.fits" Kp f fd)(U:Rul u K mg D)(hall:mg "all" = none)
  (GA:FnOk P w K mg base CX0 1 fA fdA ["self", "count"] (Gh u D)) (bA:Binds K fdA ["self", "count"] []) (mA:Meth K D "allows" fA)
  (GC:FnOk P w K mg base CX0 2 fC fdC ["web", "some"] (Qo K C)) (bC:Binds K fdC ["web", "some"] []) (kC:© K (.ref fC)=true) (mC:mg "tie_counts" = some (.ref fC)) :
  FnOk P w K mg base CX0 3 f fd ["self", "web", "some"] (Lw u K C D):=by
 r F.ok ADu § ¦
 ·o⟨r,p,so,dx,z,as,ms,rfl,_⟩:=h
  rfl
 o⟨r,p,so,dx,z,as,ms,rfl,hr0,hW,hso,z1,z10,h12,q⟩:=h;h hr1:Room 1 _:=hr.mono ¤;r⟨_,Aj (Av (BL (Ld rfl) rfl hall PyProof.Rows.boot_all (Aa (Ca (Ac Kp) ["count"] ["self"] [0] rfl rfl £ ⟨⟨rfl,£⟩,trivial⟩ (Bv (BP GC hr rfl mC kC bC .nil pass0 (Aa (pv 1) (Aa (pv 2) Ad))))
   (fun _ _ _=>Am (i:=0) (show ((["count"]:List Str)++(["self"]:List Str)).Nodup by decide +kernel) rfl ④) (fun _ _ _=>Cg)
   (fun _ _ _=>CJ (pv 1) U.cl mA GA hr1 bA .nil pass0 (Aa (pv 0) Ad))) Ad))),?_⟩
 r⟨_,rfl,_,rfl,p,so,z,as,ms,rfl,hW,hso,z1,z10,h12,fun L H1 s1 hL eL=>?_⟩;h lc:=Ks as ms z.toNat;r⟨L,rfl,⟨_,SqL.of eL⟩,fun Y hY=>?_⟩;r Ck (K:=K) (a:=L) (xs:=(cnts as ms z.toNat).map V.int) (fun j τ H2=>∃ o:Option V,τ=[o,some (.ref r)]/\Same H1 H2/\H2 Y=some (.lst ((((cnts as ms z.toNat).take j).map u.al).map V.bl))) ⟨none,rfl,Same.new hY _,Ab⟩ (fun j τ H2 _ ⟨_,_,s2,_⟩=>s2.seq (SqL.of eL)) ?_ ?_
 ·rintro j y τ H2 hy ⟨o,rfl,s2,eY⟩
  o⟨c,hc,rfl⟩:=int_at hy;h jl:=(List.getElem?_eq_some_iff.mp hc).1;h hr2:=s2 _ _ (s1 _ _ hr0);r yesN ?_;r⟨_,rfl,r,dx,_,rfl,hr2,U.no £,_,rfl,r,dx,c,rfl,hr2,?_⟩;r⟨_,eY,Ay (by rw[List.length_map,List.length_map,List.length_take]; w),_,rfl,fun b o e=>?_,?_⟩
  ·rw[Af (Ag e hY)]
   !s2 b o e
  ·rw[Ab,take_snoc hc,List.map_append,List.map_append]
   rfl
 ·rintro τ H2 ⟨o,rfl,s2,eY⟩
  rw[List.length_map,List.take_length] at eY;r⟨Y,_,rfl,SqL.of eY,?_⟩;!q _ _ (s1.trans s2)
theorem Vp:FnScope ["_law_points", "_law_ties", "_law_some_here", "_law_counts"] ["_law_points", "_law_ties", "_law_some_here"] (Ac El):=¡
theorem AAr(F:Fun K "_law_fits" "_law_fits" El f fd)(T:Txt K mg C):FnOk P w K mg base CX0 1 f fd ["_law_points", "_law_ties", "_law_some_here"] (WX K):=by
 r F.ok Vp § ¦
 ·o⟨l,t,z,as,s,rfl,_⟩:=h
  rfl
 o⟨l,so,z,as,st,rfl,hl,hrow,m12,rng,z1,z10,q⟩:=h;r⟨_,Ae (AAR (i:=3) (Ac El) ["_law_point"] ["_law_some_here", "_law_ties"] [2,1] Vp.nd rfl ④ rfl rfl £ ⟨⟨rfl,£⟩,⟨rfl,£⟩,trivial⟩ (Cm rfl T.range (Aa (pv 0) Ad))
   (fun _ _ _=>Am (i:=0) (show ((["_law_point"]:List Str)++(["_law_some_here", "_law_ties"]:List Str)).Nodup by decide +kernel) rfl (Or.inr rfl)) (fun _ _ _=>Cg)
   (fun _ _ _=>BL (HF (K:=K) rfl) rfl T.len PySem.boot_len (Aa (Ca (relab (Ac El) (Wy ((Ak El).getD 0 El))) ["_law_k"] ["_law_point", "_law_ties"] [0,2] rfl rfl £ ⟨⟨rfl,£⟩,⟨rfl,£⟩,trivial⟩ (ABd (K:=K) rfl (pv 1))
    (fun _ _ _=>Am (i:=0) (show ((["_law_k"]:List Str)++(["_law_point", "_law_ties"]:List Str)).Nodup by decide +kernel) rfl ④)
    (fun _ _ _=>Dg (Ar (Fg (K:=K) rfl) (pv 1) (Bc (AAy (K:=K) rfl) (pv 2) (pv 0) (fun _ _=>rfl)) rfl)) (fun _ _ _=>pv 0)) Ad)))
  (Aj (Av (Ci (Aa (Cp Lq (BL (max_list rfl) rfl T.max PyProof.Rows.boot_max (Aa (pv 3) Ad)) Ah ⑮) (Aa (Cp (Qf DG (CW hr)) (pv 3) (Aw ADW (Ci (Aa Ah Ad)) (pv 0)) ⑮) (Aa (Cp Mz (BL (min_list rfl) rfl T.min PyProof.Rows.boot_min (Aa (pv 3) Ad)) Ah ⑮) Ad)))))),?_⟩
 o⟨l',xs,el,hX,px⟩:=id hl;cases el;r⟨_,rfl,(z:Int),rfl,by w,by w,fun N hN=>?_⟩;r Cj (lo:=0) (n:=(z:Int).toNat) (fun i τ H2=>∃ o:Option V,τ=[o,some (.ref so),some (.ref l)]/\Same H H2/\H2 N=some (.lst ((cntsL as (up st) i).map V.int))) ⟨none,rfl,Same.new hN _,Ab⟩ ?_ ?_
 ·rintro i τ H2 hi ⟨o,rfl,s2,eN⟩
  h ei:(0:Int)+i=(i:Int):=by w
  rw[ei];r yesN ?_;h row2:=s2.ts.seq hrow;r⟨_,rfl,so,rfl,⟨_,row2⟩,fun Y hY=>?_⟩;r YF (K:=K) (a:=so) (xs:=uv st) (fun j τ H3=>∃ o:Option V,τ=[o,some (.int i),some (.ref l)]/\Same H2 H3/\H3 Y=some (.lst ((((up st).take j).filter fun k=>(as.getD k.toNat []).contains (i:Int)).map V.int))) ⟨none,rfl,Same.new hY _,Ab⟩ (fun j τ H3 _ ⟨_,_,s3,_⟩=>s3.ts.seq row2) ?_ ?_
  ·rintro j y τ H3 hy ⟨o,rfl,s3,eY⟩
   o⟨k,hk,rfl⟩:=int_at hy;h jl:=(List.getElem?_eq_some_iff.mp hk).1;obtain ⟨k0,k1⟩:0<=k/\k<(as.length:Int):=by
    have:=List.mem_of_getElem? hk;unfold up at this;o⟨x,hx,rfl⟩:=List.mem_map.mp this;have:=rng x hx;w
   h ul:(up st).length=st.length:=by unfold up; rw[List.length_map]
   h kl:k.toNat<as.length:=by w
   o⟨v,hv,rt⟩:=Paired.getL px (± kl);o⟨b,rfl,hb⟩:=Cz rt;h s23:=s2.trans s3;h av:atI xs k=some (.ref b):=by
    have:=Bm hv;rw[show ((k.toNat:Nat):Int)=k by w] at this;!this
   r⟨_,rfl,_,rfl,_,rfl,l,xs,_,_,rfl,rfl,s23.seq hX,av,b,_,rfl,.inr (s23.ts.seq hb),rfl,JZ _,_,rfl,?_⟩;rw[if_neg (show ¬ (false=true) by decide),EY];h eg:as.getD k.toNat []=as[k.toNat]:=by rw[¯,± kl]; rfl
   h ef:((up st).take (j+1)).filter (fun k=>(as.getD k.toNat []).contains (i:Int))=((up st).take j).filter (fun k=>(as.getD k.toNat []).contains (i:Int))++(if (i:Int)∈as[k.toNat] then [k] else []):=by
    rw[take_snoc hk,List.filter_append]
    congr 1
    by_cases c:(i:Int)∈as[k.toNat]
    ·rw[if_pos c,List.filter_cons,eg,if_pos (List.contains_iff_mem.mpr c)]; rfl
    ·rw[if_neg c,List.filter_cons,eg,if_neg (fun z=>c (List.contains_iff_mem.mp z))]; rfl
   show putD Y _ _ _ (decide ((i:Int)∈as[k.toNat])) _;by_cases c:(i:Int)∈as[k.toNat]
   ·r iteP c ⟨_,rfl,_,eY,?_,_,rfl,fun b o e=>?_,?_⟩
    ·have:=List.length_filter_le (fun k:Int=>(as.getD k.toNat []).contains (i:Int)) ((up st).take j)
     rw[List.length_take] at this;rw[List.length_map];!Ay ¢
    ·rw[Af (Ag e hY)]
     !s3 b o e
    ·rw[Ab,ef,if_pos c,List.map_append]
     rfl
   ·r iteN c ⟨_,rfl,s3,?_⟩
    rw[eY,ef,if_neg c,List.append_nil]
  ·rintro τ H3 ⟨o,rfl,s3,eY⟩
   rw[List.length_map,List.take_length] at eY;r⟨Y,_,rfl,.inl (SqL.of eY),_,s3 _ _ eN,Ay (by rw[List.length_map,JB]; w),_,rfl,fun b o e=>?_,?_⟩
   ·rw[Af (Ag e hN)]
    !s3 _ _ (s2 b o e)
   ·rw[Ab,Uw,List.map_append,List.length_map]
    rfl
 rintro τ H2 ⟨o,rfl,s2,eN⟩;rw[Int.toNat_natCast] at eN;h lc:=JB as (up st) z;r⟨_,rfl,N,cntsL as (up st) z,rfl,SqL.of eN,by w,fun m hm hg=>⟨_,_,rfl,rfl,?_⟩⟩;r⟨_,rfl,(by show 1<=sizeLine; decide),fun B1 hB1=>?_⟩;h sB1:=Same.new hB1 (.lst [V.int 1]);h eB1:(upd H2 B1 (.lst [V.int 1])) B1=some (.lst [V.int 1]):=Ab;generalize upd H2 B1 (.lst [V.int 1])=H7 at sB1 eB1 ⊢;r⟨_,rfl,B1,(z:Int),_,rfl,rfl,eB1,by w,by w,Nat.le_of_lt (Ay (by show 1*(z:Int).toNat<=1000; w)),fun B2 hB2=>?_⟩;rw[ABQ,Int.toNat_natCast];h sB2:=Same.new hB2 (.lst ((List.replicate z (1:Int)).map V.int));h eB2:(upd H7 B2 (.lst ((List.replicate z (1:Int)).map V.int))) B2=some (.lst ((List.replicate z (1:Int)).map V.int)):=Ab;generalize upd H7 B2 (.lst ((List.replicate z (1:Int)).map V.int))=H8 at sB2 eB2 ⊢;h s28:=sB1.trans sB2;r⟨_,_,⟨N,_,rfl,SqL.of (s28 _ _ eN),paired_ints _⟩,⟨B2,_,rfl,SqL.of eB2,paired_ints _⟩,?_⟩;r⟨_,rfl,N,cntsL as (up st) z,rfl,SqL.of (s28 _ _ eN),by w,fun m2 hm2 hg2=>⟨_,_,rfl,rfl,(by show 3<=sizeLine; decide),fun L hL=>?_⟩⟩;r q L _ (s2.trans (s28.trans (Same.new hL _))) ?_;rw[Ab,YK hm hg,ABR,ABc hm2 hg2];rfl
end
end K53
end
section
namespace L2
open PySem PySem.Spec PyProof.Rows
section
variable{X:Cx}{CX:CXT}{k:Nat}{f C:Addr}{fd:FuncData}{ps ks:List Str}{sp:Sp}{E:XK}{x m:Str}{p pos:Pos}{kws:List Keyword}{tk:TA}{g:List Value->List Value->List Value}{gV:List V->List V->List V}
theorem Wx{pins:List ⑤}{σ:St}{H:Hp}{s:Shared}{Q:VK}{us ws:List Value}{vs zs:List V}(M:Mk X.K C f)(F:FnOk X.prog X.w X.K X.mg X.base CX k f fd ps sp)(hr:Room (k+1) X.A)(hb:KBinds X.K fd ps ks g gV)
  (hx:Passes CX X E) (I:Inv X pins σ H s) (r:Vals vs us) (rz:Vals zs ws)
  (h:∀ x dx,H x=none->H dx=none->dx≠x->sp (gV (.ref x::vs) zs) (upd (upd H dx (.own x)) x (.ins C dx [])) (fun v H2=>v=.non/\Q (.ref x) H2) E) :
  wpAny ② X.A (call (.ref C) us (ks.zip ws)) (EP X pins σ Q) X.xe s:=by
 h hq:=h (¸+1) ¸ (I.hok.fresh (Nat.le_succ _)) (I.hok.fresh ③) (Nat.ne_of_lt (Nat.lt_succ_self _));h I2:=Inv.made (C:=C) I;h r1:Vals (V.ref (¸+1)::vs) (Value.ref (¸+1)::us):=.cons rfl r;h r2:=hb.rel r1 rz;h hl:(g (Value.ref (¸+1)::us) ws).length=ps.length:=by rw[<- r2.length]; !F.len _ _ _ _ hq
 r wpAny_call (Rv (f:=f) I.kIn M.makes M.init (beq_iff_eq.mp M.fn) (codeAny_mono (F.run _ X.stack _ _ ⟨Value.ref (¸+1)::us,ks.zip ws⟩ (g (Value.ref (¸+1)::us) ws) _ _ E (hr.make C us (ks.zip ws))
  (I2.env0.make C us (ks.zip ws)) (hb.to _ _ _ I2.kIn hl) r2 hq) fun r s' hq'=>?_))
 cases r with
 | error e=>!hx pins σ _ _ e s' I2 hq'
 | ok fl =>
  cases fl with
  | ret u =>
   o⟨v,H',I3,rv,ev,q3⟩:=I2.after hq';subst ev;!⟨rv,⟨V.ref (¸+1),H',I3,rfl,q3⟩⟩
  | next=>!False.elim hq'
  | brk=>!False.elim hq'
  | cont=>!False.elim hq'
def ADe(C:Addr)(sp:Sp)(gV:List V->List V->List V)(E:XK)(tk:TA):TE:=fun σ H Q=>tk σ H fun zs H1=>∀ x dx,H1 x=none->H1 dx=none->dx≠x->sp (gV [.ref x] zs) (upd (upd H1 dx (.own x)) x (.ins C dx [])) (fun v H2=>v=.non/\Q (.ref x) H2) E
theorem ABJ(M:Mk X.K C f)(F:FnOk X.prog X.w X.K X.mg X.base CX k f fd ps sp)(hr:Room (k+1) X.A)(hg:Gl X x)(hm:X.mg x=some (.ref C))(hb:KBinds X.K fd ps ks g gV)(hx:Passes CX X E)
  (hkw:PK X kws tk) (hall:(backToKw pos (keywordEach kws X.env)).all (·.1.isSome)=true:=by rfl) (hks:(backToKw pos (keywordEach kws X.env)).filterMap (·.1)=ks:=by rfl)
  (hdb:(x==("__debug__" : Str))=false:=by decide)
  (hpl:((backTo pos (starEach [] X.env)).any (·.1)||(backToKw pos (keywordEach kws X.env)).any (·.1.isNone))=false:=by rfl) :
  PE X (.Call (.Name x p) [] kws pos) (ADe C sp gV E tk):=by
 intro pins s σ H Q I h;r wpAny_Call_Name_kw (Gj I hg hm ?_ hdb);r PySem.W.callWith_KW0 (h₀:=X.base) I.ok.mod.kin M.kp hall (thn (hkw pos pins s σ H _ I h) fun ws s2 ⟨zs,H2,I2,rz,q2⟩=>⟨I2.kIn,?_⟩) hpl;rw[hks];!Wx (us:=[]) M F hr hb hx I2 .nil rz q2
end
def g11{α:Type}(us ws:List α):List α:=match us,ws with
 | [a],[b]=>[a,b]
 | _,_=>[]
theorem ACY{α:Type}{us ws:List α}(h:(g11 us ws).length=2):∃ a b,us=[a]/\ws=[b]:=by
 unfold g11 at h;split at h
 ·!⟨_,_,rfl,rfl⟩
 ·cases h
theorem g11_rel{vs zs:List V}{us ws:List Value}(r:Vals vs us)(rz:Vals zs ws):Vals (g11 vs zs) (g11 us ws):=by
 cases r with
 | nil=>!.nil
 | cons a r =>
  cases r with
  | cons b r=>!.nil
  | nil =>
   cases rz with
   | nil=>!.nil
   | cons c rz =>
    cases rz with
    | cons d rz=>!.nil
    | nil=>!.cons a (.cons c .nil)
theorem FunD.kbinds{K:¨}{x qual s1 s2:Str}{st:Stmt}{f dt:Addr}{items:Array Value}{fd:FuncData}(F:FunD K x qual st f fd dt items)
  (h:∀(kV doc pm:Value) (an:Option Addr) (cdv ct:Value) (a b:Value),∃ k:Option (Array Value)->Sem (List (Str×Value)),bindArgs (PySem.W.fnOf x qual (Ao st) (Ak st) (Ac st) (.ref dt) kV doc pm an cdv ct) ⟨[a],[(s2,b)]⟩=seqItems? (.ref dt) >>= k/\k (some items)=pure [(s1,a),(s2,b)]):KBinds K fd [s1,s2] [s2] g11 g11:=by
 o⟨oc,od,kV,doc,pm,an,cdv,ct,osl,rfl,lk,hcd⟩:=F.ex;o⟨oc',od',n,osl',lt⟩:=F.tup;r⟨fun s us ws hK hl=>?_,g11_rel⟩;o⟨a,b,rfl,rfl⟩:=ACY hl;o⟨k,h1,h2⟩:=h kV doc pm an cdv ct a b;!BindsTo.of_defaults (T:=dt) rfl (hK _ _ lt) rfl h1 h2
end L2
end
section
namespace L2
open PySem PySem.Spec PyProof.Rows
end L2
end
section
namespace L2
open PySem PySem.Spec PyProof.Rows
end L2
end
section
namespace K53
open PySem L2 G
theorem RJ{X:Cx}{ι:Type}{e:Expr}{t:ι->TE}(h:∀ i,PE X e (t i)):PE X e (fun σ H Q=>∃ i,t i σ H Q):=fun pins s σ H Q I ⟨i,q⟩=>h i pins s σ H Q I q
theorem JX{α β:Type}{F:α->β->Prop}:∀{l:List α}{m:List β},Paired F l m->∀ k,Paired F (l.take k) (m.take k)
 | _,_,.nil,k=>by rw[List.take_nil,List.take_nil]; !.nil
 | _,_,.cons h t,0=>.nil
 | _,_,.cons h t,k+1=>.cons h (JX t k)
theorem AAo(xs:List V)(k:Nat):cutV xs none (some (k:Int))=xs.take k:=by
 unfold cutV;rw[HT.Ti,HT.Wa,List.drop_zero,Nat.sub_zero];rcases Nat.lt_or_ge k xs.length with c | c
 ·rw[show min k xs.length=k by w]
 ·rw[show min k xs.length=xs.length by w,List.take_of_length_le ③,List.take_of_length_le c]
theorem AAQ(ns:List Int)(lo hi:Option Int):∃ cs:List Int,cutV ⑭ lo hi=cs.map V.int/\cs.length<=ns.length:=by
 unfold cutV;r⟨(ns.drop (HT.sIx ⑭.length 0 lo)).take (HT.sIx ⑭.length ⑭.length hi-HT.sIx ⑭.length 0 lo),by rw[List.map_take,List.map_drop],?_⟩;rw[List.length_take,List.length_drop];w
theorem Ub(a b:Int):srt [a,b]=[if b<a then b else a,if b>a then b else a]:=by
 rw[Et];split
 ·rw[if_neg ¢]
 ·by_cases e:b>a
  ·rw[if_pos e]
  ·rw[if_neg e]
   have:b=a:=by w
   rw[this]
theorem AAS{m:Int}{as bs:List ⑧}(h:OkTies m as)(s:bs.Sublist as):OkTies m bs:=⟨fun t ht=>h.ok t (s.subset ht),h.nd.sublist (s.map srt)⟩
theorem Sw:∀{s:List Nat}{lo n:Nat},s.Pairwise (· < ·)->(∀ x∈s,lo<=x/\x<n)->s.length<=n-lo
 | [],_,_,_,_=>Nat.zero_le _
 | x::t,lo,n,pw,h=>by
  o⟨h1,h2⟩:=List.pairwise_cons.mp pw;o⟨h3,h4⟩:=h x ´;have:=Sw (lo:=x+1) (n:=n) h2 fun y hy=>⟨h1 y hy,(h y (¶ _ hy)).2⟩;rw[List.length_cons];w
def ru:Nat->Ru
 | 0=>uP false
 | 1=>uP true
 | _=>uC
def rc(D Dc:Addr):Nat->Addr
 | 0=>D
 | 1=>D
 | _=>Dc
theorem ADK(i:Nat){m:Str}(h:¬ m = "full"):(ru i).rf.lookup m=none:=match i with
 | 0=>AAZ h
 | 1=>AAZ h
 | _+2=>rfl
def RuAt(D Dc:Addr)(H:Hp)(v:V)(i:Nat):Prop:=∃ r dx,v=.ref r/\H r=some (.ins (rc D Dc i) dx (ru i).rf)
theorem RuAt.same{D Dc:Addr}{H H':Hp}{v:V}{i:Nat}(h:RuAt D Dc H v i)(e:Same H H'):RuAt D Dc H' v i:=let ⟨r,dx,a,b⟩:=h; ⟨r,dx,a,e _ _ b⟩
def SvR(K:¨)(S:Addr)(as:List ⑧)(z:Nat)(H:Hp)(v:V)(i:Nat):Prop:=∃(p:Addr) (nums:List Row) (hd:Nat),v=.ref p/\K53s.SvAt K S H p as.length nums hd/\Canon as.length nums hd/\(∀ s,led nums hd s=semC (ru i) (as.map srt) z (as.map srt).length 0 (some (List.replicate z 0)) s)/\nums.length<=4000
theorem SvR.same{K:¨}{S:Addr}{as:List ⑧}{z:Nat}{H H':Hp}{v:V}{i:Nat}(h:SvR K S as z H v i)(e:Same H H'):SvR K S as z H' v i:=let ⟨p,n,hd,a,b,c⟩:=h; ⟨p,n,hd,a,b.same e,c⟩
theorem AEr(z:Int)(j:Addr)(h:Int){m:Str}(h1:¬ m = "head")(h2:¬ m = "rows")(h3:¬ m = "amount"):(K53s.flds z j h).lookup m=none:=by
 unfold K53s.flds;rw[Ai,if_neg h1,Ai,if_neg h2,Ai,if_neg h3];rfl
def SetR(K:¨)(n:Nat)(H:Hp)(v:V):Prop:=∃(t:Addr) (s:List Nat),v=.ref t/\SqT K H t (uv s)/\s.Pairwise (· < ·)/\∀ x∈s,x<n
theorem SetR.same{K:¨}{n:Nat}{H H':Hp}{v:V}(h:SetR K n H v)(e:Same H H'):SetR K n H' v:=let ⟨t,s,a,b,c⟩:=h; ⟨t,s,a,e.ts.seq b,c⟩
theorem SetR.nil{K:¨}{n:Nat}{H:Hp}{t:Addr}(h:H t=some (.tup [])):SetR K n H (.ref t):=⟨t,[],rfl,SqT.of h,.nil,fun x hx=>by cases hx⟩
theorem SetR.all{K:¨}{n:Nat}{H:Hp}{t:Addr}(h:H t=some (.tup ((below ((n:Nat):Int).toNat).map V.int))):SetR K n H (.ref t):=by
 rw[Int.toNat_natCast] at h;!⟨t,List.range n,rfl,SqT.of h,List.pairwise_lt_range,fun x hx=>List.mem_range.mp hx⟩
theorem Lf{K:¨}{H:Hp}:∀{rows:List Row}{xs:List V},Paired (K53s.rRow K H) rows xs->Paired (rPair K H) (rows.map K53s.r3i) xs
 | _,_,.nil=>.nil
 | _,_,.cons ⟨p,e,h⟩ t=>.cons ⟨p,_,e,h,paired_ints (K53s.r3i _)⟩ (Lf t)
theorem tsX{H H':Hp}{S:Addr}{xs:List V}(e:∀ b o,b≠S->H b=some o->H' b=some o)(hS:H S=some (.lst xs)):TSm H H':=fun b u hb t=>e b u (fun z=>by
 rw[z,hS] at hb;cases hb;o⟨ys,q | ⟨o,q⟩⟩:=t
 ·cases q
 ·cases q) hb
theorem SvR.keep{K:¨}{S X:Addr}{as:List ⑧}{z:Nat}{H H':Hp}{v:V}{i:Nat}{xs:List V}(e:∀ b o,b≠X->H b=some o->H' b=some o)(hX:H X=some (.lst xs))(h:SvR K S as z H v i):SvR K S as z H' v i:=by
 o⟨p,n,hd,a,⟨dx,j,hp,hj⟩,c⟩:=h;r⟨p,n,hd,a,⟨dx,j,e _ _ (fun z=>?_) hp,Aq K53s.Bu _ _ _ _ (tsX e hX) hj⟩,c⟩;rw[z,hX] at hp;cases hp
theorem SetR.ts{K:¨}{n:Nat}{H H':Hp}{v:V}(h:SetR K n H v)(e:TSm H H'):SetR K n H' v:=let ⟨t,s,a,b,c⟩:=h; ⟨t,s,a,e.seq b,c⟩
theorem at3{x0 x1 x2:V}{P:V->Nat->Prop}(h0:P x0 0)(h1:P x1 1)(h2:P x2 2){i:Nat}{x:V}(h:[x0,x1,x2][i]?=some x):P x i:=by
 match i,h with
 | 0,h=>cases h; !h0
 | 1,h=>cases h; !h1
 | 2,h=>cases h; !h2
structure Dt where
 a:Addr
 ns:List Int
 l2:Addr
 W:Addr
 RL:Addr
 l4:Addr
 z:Nat
 y:Nat
 as:List ⑧
 bs:List ⑧
 ts:List V
 us:List V
 rs:List V
structure Bs(K:¨)(C D Dc:Addr)(d:Dt)(H:Hp):Prop where
 sc:SqL K H d.a (d.ns.map V.int)
 n63:d.ns.length<=63
 tl:H d.l2=some (.lst d.ts)
 tp:Paired (rPair K H) d.as d.ts
 wb:WebAt K C H d.W d.z (d.as.map srt)
 rl:H d.RL=some (.lst d.rs)
 r3:d.rs.length=3
 ru:∀{i:Nat}{x:V},d.rs[i]?=some x->RuAt D Dc H x i
 fl:H d.l4=some (.lst d.us)
 fp:Paired (rPair K H) d.bs d.us
 ok:OkTies (d.z:Int) d.as
 okb:OkTies (d.y:Int) d.bs
 num:d.as.length<=12/\1<=d.z/\d.z<=10/\d.bs.length<=12/\1<=d.y/\d.y<=10
theorem Bs.same{K:¨}{C D Dc:Addr}{d:Dt}{H H':Hp}(b:Bs K C D Dc d H)(e:Same H H'):Bs K C D Dc d H' :=
 ⟨e.seq b.sc,b.n63,e _ _ b.tl,Paired.imp (fun _ _ r=>Aq Az _ _ _ _ e.ts r) b.tp,b.wb.same e,e _ _ b.rl,b.r3,fun h=>(b.ru h).same e,e _ _ b.fl,Paired.imp (fun _ _ r=>Aq Az _ _ _ _ e.ts r) b.fp,b.ok,b.okb,b.num⟩
structure Ss(K:¨)(S SV:Addr)(vs:List V)(d:Dt)(H:Hp):Prop where
 sv:H SV=some (.lst vs)
 v3:vs.length=3
 at_:∀{i:Nat}{x:V},vs[i]?=some x->SvR K S d.as d.z H x i
theorem Ss.same{K:¨}{S SV:Addr}{vs:List V}{d:Dt}{H H':Hp}(b:Ss K S SV vs d H)(e:Same H H'):Ss K S SV vs d H':=⟨e _ _ b.sv,b.v3,fun h=>(b.at_ h).same e⟩
abbrev stL(d:Dt)(o8 o9 o10 o11 o12 o13 o14:Option V):St:=[some (.ref d.a),some (.int d.z),some (.ref d.l2),some (.int d.as.length),some (.ref d.W),some (.ref d.RL),some (.int d.y),some (.ref d.l4),o8,o9,o10,o11,o12,o13,o14]
theorem slen{n:Nat}{s':List Nat}(n12:n<=12)(pw:s'.Pairwise (· < ·))(lt:∀ x∈s',x<n):s'.length<=12:=by
 have:=Sw (lo:=0) (n:=n) pw fun x hx=>⟨Nat.zero_le _,lt x hx⟩;w
theorem mkw{K:¨}{C D Dc:Addr}{d:Dt}{HA:Hp}(b:Bs K C D Dc d HA){p dx:Addr}(np:HA p=none)(ndx:HA dx=none){Q':VK}{E':XK}(q':∀(H':Hp),Same HA H'->WebAt K C H' p (d.y:Int) (d.bs.map srt)->Q' .non H'):JW K C [.ref p,.int d.y,.ref d.l4] (upd (upd HA dx (.own p)) p (.ins C dx [])) Q' E':=by
 h sp:Same HA (upd (upd HA dx (.own p)) p (.ins C dx [])):=fun b o e=>by
  rw[Af (Ag e np),Af (Ag e ndx)];!e
 o⟨_,_,_,b12,y1,y10⟩:=b.num;!⟨p,dx,d.l4,(d.y:Int),d.us,d.bs,rfl,Ab,sp.seq (SqL.of b.fl),Paired.imp (fun t x h=>.inr (Aq Az _ _ _ _ sp.ts h)) b.fp,b.okb,b12,by w,by w,fun H' k' hW'=>q' H' (fun b o e=>k' b o (sp b o e) (Ag e np)) hW'⟩
theorem no{n:Int}{jj:Addr}{hd:Int}{m:Str}(h1:¬ m = "head")(h2:¬ m = "rows")(h3:¬ m = "amount"):(K53s.flds n jj hd).lookup m=none:=AEr _ _ _ h1 h2 h3
theorem noK{n:Int}{jj:Addr}{hd:Int}:(K53s.flds n jj hd).lookup ("knots" : Str)=none:=no £ £ £
theorem noT{n:Int}{jj:Addr}{hd:Int}:(K53s.flds n jj hd).lookup ("top" : Str)=none:=no £ £ £
theorem noM{n:Int}{jj:Addr}{hd:Int}:(K53s.flds n jj hd).lookup ("many" : Str)=none:=no £ £ £
abbrev lawN:List Str:=["_law_script", "_law_points", "_law_ties", "_law_n", "_law_web_here", "_law_rules", "_law_more", "_law_far", "_law_rule", "_law_sieves", "_law_sieve", "_law_some_sets", "_law_some_here", "_law_k", "_law_other"]
section
variable{P:Program}{w:World}{K:¨}{mg:Str->Option Value}{base:Heap}{f C D Dc S:Addr}{fd:FuncData}
theorem DQ:FnScope lawN ["_law_script"] (Ac Fq):=¡
theorem AEZ{fI fP fF fG fK fT fM fC fW fO fE fL fB fY:Addr}{fdI fdP fdF fdG fdK fdT fdM fdC fdW fdO fdE fdL fdB fdY:FuncData}(F:Fun K "law" "law" Fq f fd)(T:Txt K mg C)(T2:K53s.Txt K mg S)(O:Own K S)
  (M:Mk K C fI) (MP:Mk K D fP) (mgP:mg "Pairs" = some (.ref D)) (mkC:PySem.W.makesIn K Dc=true) (hiC:® K (.ref Dc) "__init__" = some (some (.builtin "object.__init__"))) (kpC:© K (.ref Dc)=true) (mgC:mg "Covers" = some (.ref Dc))
  (cls:∀ i,Cls K (rc D Dc i)) (mF:∀ i,Meth K (rc D Dc i) "fits" fF)
  (GI:FnOk P w K mg base CX0 3 fI fdI ["self", "many", "ties"] (JW K C)) (bI:Binds K fdI ["self", "many", "ties"] [])
  (GP:FnOk P w K mg base CX0 1 fP fdP ["self", "full"] (Wm D)) (bP0:Binds K fdP ["self", "full"] [.bool false]) (kP:KBinds K fdP ["self", "full"] ["full"] g11 g11)
  (GF:∀ i,FnOk P w K mg base CX0 3 fF fdF ["self", "web", "some"] (Lw (ru i) K C (rc D Dc i))) (bF:Binds K fdF ["self", "web", "some"] [])
  (GG:∀ i,FnOk P w K mg base CX0 17 fG fdG ["web", "rule"] (Ih (ru i) K C (rc D Dc i) S)) (bG:Binds K fdG ["web", "rule"] []) (kG:© K (.ref fG)=true) (mG:mg "grown" = some (.ref fG))
  (GK:FnOk P w K mg base CX0 1 fK fdK ["self"] (K53s.Vk K S)) (bK:Binds K fdK ["self"] []) (mK:Meth K S "knots" fK)
  (GT:FnOk P w K mg base CX0 1 fT fdT ["self"] (K53s.ACp K S)) (bT:Binds K fdT ["self"] []) (mT:Meth K S "top" fT)
  (GM:FnOk P w K mg base CX0 1 fM fdM ["self"] (K53s.Zo K S)) (bM:Binds K fdM ["self"] []) (mM:Meth K S "many" fM)
  (GC:FnOk P w K mg base CX0 1 fC fdC ["_law_script", "_law_k"] (Uz K)) (bC:Binds K fdC ["_law_script", "_law_k"] []) (kC:© K (.ref fC)=true) (mC:mg "_law_cell" = some (.ref fC))
  (GW:FnOk P w K mg base CX0 3 fW fdW ["_law_script", "_law_at"] (ADH K)) (bW:Binds K fdW ["_law_script", "_law_at"] []) (kW:© K (.ref fW)=true) (mW:mg "_law_web" = some (.ref fW))
  (GO:FnOk P w K mg base CX0 1 fO fdO ["_law_cell_here", "_law_n"] Zr) (bO:Binds K fdO ["_law_cell_here", "_law_n"] []) (kO:© K (.ref fO)=true) (mO:mg "_law_some" = some (.ref fO))
  (GE:FnOk P w K mg base CX0 1 fE fdE ["_law_knots", "_law_top", "_law_some_here"] (ACz K)) (bE:Binds K fdE ["_law_knots", "_law_top", "_law_some_here"] []) (kE:© K (.ref fE)=true) (mE:mg "_law_led" = some (.ref fE))
  (GL:FnOk P w K mg base CX0 2 fL fdL ["_law_knots", "_law_top", "_law_n"] (Mt K)) (bL:Binds K fdL ["_law_knots", "_law_top", "_law_n"] []) (kL:© K (.ref fL)=true) (mL:mg "_law_is_least" = some (.ref fL))
  (GB:FnOk P w K mg base CX0 1 fB fdB ["_law_points", "_law_ties", "_law_some_here"] (WX K)) (bB:Binds K fdB ["_law_points", "_law_ties", "_law_some_here"] []) (kB:© K (.ref fB)=true) (mB:mg "_law_fits" = some (.ref fB))
  (GY:FnOk P w K mg base CX0 1 fY fdY ["self"] (QJ K C)) (bY:Binds K fdY ["self"] []) (mY:Meth K C "ties" fY) :
  FnOk P w K mg base CX0 18 f fd ["_law_script"] (Rp K):=by
 r F.ok DQ § ¦
 ·o⟨a,ns,rfl,_⟩:=h
  rfl
 o⟨a,ns,rfl,hS,n63,q⟩:=h;h hr1:Room 1 _:=hr.mono ¤;h hr2:Room (1+1) _:=hr.mono ¤;h hr3:Room 3 _:=hr.mono ¤;h hr4:Room (3+1) _:=hr.mono ¤;obtain ⟨t5,h5,q5⟩:∃ t,PSs (cxOf CX0 P w K mg base lawN "law" (Ac Fq) f cdv A outer s H E).nox ((Ak Fq).drop 16) t/\∀(σ:St) (H0:Hp),(∃(d:Dt) (SV:Addr) (vs:List V) (k:Nat) (o8 o10 o11 o12 o14:Option V),σ=stL d o8 (some (.ref SV)) o10 o11 o12 (some (.int k)) o14/\Bs K C D Dc d H0/\Ss K S SV vs d H0/\k<3)->t {nx:=fun _ H'=>Q .non H',rt:=Q} σ H0:=by
  r⟨_,Ae (Ax (i:=14) DQ.nd rfl ④ (RJ fun i=>BP (GG i) hr rfl mG kG bG .nil pass0 (Aa (pv 4) (Aa (Bc Bl (pv 5) (pv 13) (fun _ _=>rfl)) Ad))))
   (Ae (CN (PW.pt (HN (Ar (QC (Gp DG) (CW hr)) (Bo (pv 14) T2.cl mK GK hr1 bK .nil pass0) (Bo (Bc Bl (pv 9) (pv 13) (fun _ _=>rfl)) T2.cl mK GK hr1 bK .nil pass0) ⑮)
    (Ho (Ar Ot (Bo (pv 14) T2.cl mT GT hr1 bT .nil pass0) (Bo (Bc Bl (pv 9) (pv 13) (fun _ _=>rfl)) T2.cl mT GT hr1 bT .nil pass0) ⑮)))) (Aj (Av Ec)) BX)
   (Aj (Av (Cp (Qf (Gp DG) (CW hr)) (Bo (pv 4) T.cl mY GY hr1 bY .nil pass0)
   (Ca (Ac Fq) ["_law_tie"] [] [] rfl rfl £ trivial (Bv (pv 2)) (fun _ _ _=>Am (i:=0) (show ((["_law_tie"]:List Str)++([]:List Str)).Nodup by decide +kernel) rfl ④) (fun _ _ _=>Cg)
    (fun _ _ _=>CG (Aa (BL (YX (K:=K) rfl rfl) rfl T.min PyProof.Rows.boot_min (Aa (pv 0) Ad)) (Aa (BL (Xi (K:=K) rfl rfl) rfl T.max PyProof.Rows.boot_max (Aa (pv 0) Ad)) Ad)))) ⑮)))),?_⟩
  rintro σ H29 ⟨d,SV,vs,k,o8,o10,o11,o12,o14,rfl,B,SS,k3⟩;o⟨a12,z1,z10,_⟩:=B.num;h bl:(d.as.map srt).length=d.as.length:=List.length_map ..;obtain ⟨x,hk⟩:∃ x,d.rs[k]?=some x:=⟨_,± (by rw[B.r3]; !k3)⟩;o⟨r,dx,rfl,er⟩:=B.ru hk;r⟨k,_,rfl,_,rfl,_,rfl,d.RL,_,_,_,rfl,rfl,SqL.of B.rl,Bm hk,d.W,r,dx,d.z,d.as.map srt,rfl,B.wb,er,z1,z10,by rw[bl]; !a12,fun g2 n2 h2 H30 s30 gV2 gC2 gL2 gR2=>?_⟩;rw[bl] at gV2 gC2;obtain ⟨xv,hkv⟩:∃ x,vs[k]?=some x:=⟨_,± (show k<vs.length by rw[SS.v3]; !k3)⟩;o⟨p3,n3,h3,rfl,hV3,cA3,lA3,rA3⟩:=(SS.at_ hkv).same s30;o⟨rfl,rfl⟩:=Canon.unique gC2 cA3 fun s=>(gL2 s).trans (lA3 s).symm;o⟨dg2,jj2,hp2,_⟩:=id gV2;o⟨dg3,jj3,hp3,_⟩:=id hV3;r⟨_,rfl,g2,dg2,_,rfl,hp2,noK,g2,_,h2,n2,rfl,gV2,fun lk ks H31 s31 hlk elk px=>?_⟩;r⟨_,rfl,_,rfl,SV,_,_,_,rfl,rfl,SqL.of (s31 _ _ (s30 _ _ SS.sv)),Bm hkv,p3,dg3,_,rfl,s31 _ _ hp3,noK,p3,_,h2,n2,rfl,hV3.same s31,fun lk2 ks2 H32 s32 hlk2 elk2 px2=>?_⟩;r⟨_,_,⟨lk,ks,rfl,SqL.of (s32 _ _ elk),Lf (Paired.imp (fun a b=>K53s.Bu _ _ a b s32.ts) px)⟩,⟨lk2,ks2,rfl,SqL.of elk2,Lf px2⟩,_,rfl,iteNP rfl ?_⟩;h s3032:=s31.trans s32;r⟨_,rfl,g2,dg2,_,rfl,s3032 _ _ hp2,noT,g2,_,h2,n2,rfl,gV2.same s3032,?_⟩;r⟨_,rfl,_,rfl,SV,_,_,_,rfl,rfl,SqL.of (s3032 _ _ (s30 _ _ SS.sv)),Bm hkv,p3,dg3,_,rfl,s3032 _ _ hp3,noT,p3,_,h2,n2,rfl,hV3.same s3032,rfl,_,rfl,iteNP rfl ?_⟩;h s932:=s30.trans s3032;o⟨dw,jw,hw,_⟩:=id (B.wb.same s932);r⟨_,rfl,d.W,dw,_,rfl,hw,Ei _ _ £ £,d.W,_,_,rfl,B.wb.same s932,fun lt H33 s33 hlt hLt=>?_⟩;h B33:=B.same (s932.trans s33);r⟨_,rfl,d.l2,rfl,⟨_,SqL.of B33.tl⟩,fun Y hY=>?_⟩;h lx:=Paired.length B33.tp;r Ck (K:=K) (a:=d.l2) (xs:=d.ts) (fun j τ HA=>∃(o:Option V) (ys:List V),τ=[o]/\Same H33 HA/\HA Y=some (.lst ys)/\ys.length=j/\Paired (rPair K HA) ((d.as.take j).map srt) ys) ⟨none,[],rfl,Same.new hY _,Ab,rfl,.nil⟩ (fun j τ HA _ ⟨_,_,_,sm,_⟩=>SqL.of (sm _ _ B33.tl)) ?_ ?_
  ·rintro j v τ HA hv ⟨o,ys,rfl,sA,eY,yl,py⟩
   o⟨t',ht',rt'⟩:=Paired.get B33.tp hv;o⟨x,y',rfl,_⟩:=B.ok.ok t' (List.mem_of_getElem? ht');o⟨tq,rfl,htq⟩:=Cz rt';h jl:=(List.getElem?_eq_some_iff.mp ht').1;h htA:=sA.ts.seq htq;r yesN ⟨_,rfl,tq,x,y',rfl,htA,_,rfl,tq,x,y',rfl,htA,(by show 2<=sizeLine; decide),fun u hu=>?_⟩;h sB:=Same.new hu (.tup [V.int (if y'<x then y' else x),V.int (if y'>x then y' else x)]);h eY2:=sB _ _ eY;r⟨ys,eY2,Ay ¢,_,ys++[.ref u],rfl,fun b o e=>?_,Ab,by rw[List.length_append,yl]; rfl,?_⟩
   ·rw[Af (Ag e hY)]
    !sB _ _ (sA b o e)
   ·rw[take_snoc ht',List.map_append]
    h ts':TSm _ (upd _ Y (.lst (ys++[.ref u]))):=TSm.lst eY2;r Paired.app (Paired.imp (fun _ _ h=>Aq Az _ _ _ _ (sB.ts.trans ts') h) py) (Paired.one (Aq Az _ _ _ _ ts' ?_));rw[Ub];!Es Ab
  rintro τ H34 ⟨_,ys,rfl,s34,eY,yl,py⟩;rw[<- lx,List.take_length] at py;o⟨l5,xs5,e5,hS5,px5⟩:=hLt;cases e5;r⟨d.as.map srt,d.as.map srt,⟨lt,xs5,rfl,s34.seq hS5,Paired.imp (fun _ _ r=>Aq Az _ _ _ _ s34.ts r) px5⟩,⟨Y,ys,rfl,SqL.of eY,py⟩,?_⟩;rw[decide_eq_true rfl];!q _
 obtain ⟨t4,h4,q4⟩:∃ t,PSs (cxOf CX0 P w K mg base lawN "law" (Ac Fq) f cdv A outer s H E).nox ((Ak Fq).drop 12) t/\∀(σ:St) (H0:Hp),(∃(d:Dt) (SV:Addr) (vs:List V) (o8 o10 o11 o12:Option V),σ=stL d o8 (some (.ref SV)) o10 o11 o12 none none/\Bs K C D Dc d H0/\Ss K S SV vs d H0)->t {nx:=fun _ H'=>Q .non H',rt:=Q} σ H0:=by
  r⟨_,Ae (Ax (i:=13) DQ.nd rfl ④ (Aw Dm (Aw Fo (BP GC hr1 rfl mC kC bC .nil pass0 (Aa (pv 0) (Aa Ah Ad))) Ah) Ah))
   (Ae (DX (RJ fun i=>CJ (Bc Bl (pv 5) (pv 13) (fun _ _=>rfl)) (cls i) (mF i) (GF i) hr3 bF .nil pass0 (Aa (pv 4) (Aa (CG Ad) Ad))))
   (Ae (Ax (i:=14) DQ.nd rfl ④ (RJ fun i=>BP (GG i) hr rfl mG kG bG .nil pass0 (Aa (Iv M GI hr4 rfl T.mgC bI .nil pass0 (Aa (pv 6) (Aa (pv 7) Ad))) (Aa (Bc Bl (pv 5) (pv 13) (fun _ _=>rfl)) Ad))))
   (Ae (Cw PassesOwn.never rfl (Bv (Ci (Aa (CG Ad) (Aa (Bk (Fz rfl) rfl T.tuple PyProof.Rows.boot_tuple (Aa (Bk Jh rfl T.range PyProof.Rows.boot_range (Aa (BL BZ rfl T.len PySem.boot_len (Aa (pv 7) Ad)) Ad)) Ad))
    (Aa (BP GO hr1 rfl mO kO bO .nil pass0 (Aa (BP GC hr1 rfl mC kC bC .nil pass0 (Aa (pv 0) (Aa Ah Ad))) (Aa (BL BZ rfl T.len PySem.boot_len (Aa (pv 7) Ad)) Ad))) Ad))))) (Am (i:=12) DQ.nd rfl (Or.inr rfl))
   (Aj (CN (Ar Ot (BP GE hr1 rfl mE kE bE .nil pass0 (Aa (Bo (pv 14) T2.cl mK GK hr1 bK .nil pass0) (Aa (Bo (pv 14) T2.cl mT GT hr1 bT .nil pass0) (Aa (pv 12) Ad))))
    (Bc Bl (BP GB hr1 rfl mB kB bB .nil pass0 (Aa (pv 6) (Aa (pv 7) (Aa (pv 12) Ad)))) (pv 13) (fun _ _=>rfl)) ⑮) (Aj (Av Ec)) BX)))
   h5))),?_⟩
  rintro σ H21 ⟨d,SV,vs,o8,o10,o11,o12,rfl,B,SS⟩;o⟨a12,z1,z10,b12,y1,y10⟩:=B.num;h n63:=B.n63;h bl:(d.as.map srt).length=d.as.length:=List.length_map ..;h bb:(d.bs.map srt).length=d.bs.length:=List.length_map ..;r⟨_,rfl,d.a,d.ns,0,rfl,B.sc,by w,fun c0=>⟨_,_,rfl,rfl,⟨by decide,by decide⟩,_,_,rfl,rfl,(by show (0:Int)<3; decide),?_⟩⟩;obtain ⟨k,ek,k3⟩:∃ k:Nat,c0 / 1040%3=(k:Int)/\k<3:=by
   h h1:=Int.emod_nonneg (c0 / 1040) (show (3:Int)≠0 by decide);h h2:=Int.emod_lt_of_pos (c0 / 1040) (show (0:Int)<3 by decide);!⟨(c0 / 1040%3).toNat,by w,by w⟩
  show gName 13 (V.int (c0 / 1040%3)) _ _ _;rw[ek];obtain ⟨x,hk⟩:∃ x,d.rs[k]?=some x:=⟨_,± (by rw[B.r3]; !k3)⟩;o⟨r,dx,rfl,er⟩:=B.ru hk;r⟨k,_,rfl,_,rfl,d.RL,_,_,_,rfl,rfl,SqL.of B.rl,Bm hk,r,dx,_,rfl,er,ADK k £,_,rfl,Nat.zero_le _,fun e he=>?_⟩;h sd:=Same.new he (.tup []);r⟨r,d.W,e,dx,(d.z:Int),d.as.map srt,[],rfl,sd _ _ er,B.wb.same sd,.inr (SqT.of Ab),by w,by w,by rw[bl]; !a12,fun b H22 s22=>?_⟩;h s2122:=sd.trans s22;h B22:=B.same s2122;r⟨k,_,rfl,_,rfl,fun p dp np ndp npd=>mkw B22 np ndp fun H23 s23 hV=>⟨rfl,?_⟩⟩;h B23:=B22.same s23;h s23':=s2122.trans s23;r⟨_,rfl,_,rfl,d.RL,_,_,_,rfl,rfl,SqL.of B23.rl,Bm hk,p,r,dx,d.y,d.bs.map srt,rfl,hV,s23' _ _ er,y1,y10,by rw[bb]; !b12,fun g gn gh H24 s24 gV gC gL gR=>?_⟩;rw[bb] at gV gC;h B24:=B23.same s24;h S24:=SS.same (s23'.trans s24);h ux:=Paired.length B24.fp;clear B22 B23 s23' s2122 s22 s23 s24 hV B SS er sd;r⟨Nat.zero_le _,fun t0 ht0=>?_⟩;h sa:=Same.new ht0 (.tup []);h et0:(upd H24 t0 (.tup [])) t0=some (.tup []):=Ab;generalize upd H24 t0 (.tup [])=H25 at sa et0 ⊢;r⟨_,rfl,d.l4,_,rfl,.inl (SqL.of (sa _ _ B24.fl)),?_⟩;rw[<- ux];r⟨(d.bs.length:Int),rfl,fun R hR=>⟨R,(d.bs.length:Int),rfl,Ab,by w,by w,fun t1 ht1=>?_⟩⟩;h sb:=(Same.new hR (.rng 0 (d.bs.length:Int))).trans (Same.new ht1 (.tup ((below ((d.bs.length:Nat):Int).toNat).map V.int)));h et1:(upd (upd H25 R (.rng 0 (d.bs.length:Int))) t1 (.tup ((below ((d.bs.length:Nat):Int).toNat).map V.int))) t1=some (.tup ((below ((d.bs.length:Nat):Int).toNat).map V.int)):=Ab;generalize upd (upd H25 R (.rng 0 (d.bs.length:Int))) t1 (.tup ((below ((d.bs.length:Nat):Int).toNat).map V.int))=H26 at sb et1 ⊢;h s26:=sa.trans sb;r⟨_,rfl,d.a,d.ns,4,rfl,s26.seq B24.sc,by w,fun c4=>⟨_,rfl,d.l4,_,rfl,.inl (SqL.of (s26 _ _ B24.fl)),?_⟩⟩;rw[<- ux];r⟨c4,d.bs.length,rfl,b12,fun t2 s2' H27 sc et2 pw2 lt2=>?_⟩;r⟨(by show 3<=sizeLine; decide),fun L3 hL3=>?_⟩;h sd:=Same.new hL3 (.lst [.ref t0,.ref t1,.ref t2]);h eL3:(upd H27 L3 (.lst [.ref t0,.ref t1,.ref t2])) L3=some (.lst [.ref t0,.ref t1,.ref t2]):=Ab;h in3:∀ v∈[V.ref t0,V.ref t1,V.ref t2],SetR K d.bs.length (upd H27 L3 (.lst [.ref t0,.ref t1,.ref t2])) v:=fun v hv=>by
   rcases List.mem_cons.mp hv with rfl | hv
   ·!SetR.nil (sd _ _ (sc _ _ (sb _ _ et0)))
   ·rcases List.mem_cons.mp hv with rfl | hv
    ·!SetR.all (sd _ _ (sc _ _ et1))
    ·rw[List.mem_singleton] at hv
     subst hv;!⟨t2,s2',rfl,SqT.of (sd _ _ et2),pw2,lt2⟩
  h s28:Same H24 (upd H27 L3 (.lst [.ref t0,.ref t1,.ref t2])):=s26.trans (sc.trans sd);generalize upd H27 L3 (.lst [.ref t0,.ref t1,.ref t2])=H28 at sd eL3 in3 s28 ⊢;r⟨L3,rfl,⟨_,SqL.of eL3⟩,?_⟩;r DK (K:=K) (a:=L3) (xs:=[.ref t0,.ref t1,.ref t2]) (fun i σ HA=>∃(o12:Option V),σ=stL d o8 (some (.ref SV)) o10 o11 o12 (some (.int k)) (some (.ref g))/\Same H28 HA) ⟨o12,rfl,Same.refl _⟩ (fun i σ HA _ ⟨_,_,sm⟩=>SqL.of (sm _ _ eL3)) ?_ ?_
  ·rintro i x σ HA hx ⟨o12,rfl,sA⟩
   o⟨t,s',rfl,hT,pw,lt⟩:=(in3 x (List.mem_of_getElem? hx)).same sA;h gV':=gV.same (s28.trans sA);o⟨dg,jj,hp,_⟩:=id gV';r⟨_,rfl,g,dg,_,rfl,hp,noK,g,_,gh,gn,rfl,gV',fun lk ks HC sC hlk elk px=>?_⟩;r⟨_,rfl,g,dg,_,rfl,sC _ _ hp,noT,g,_,gh,gn,rfl,gV'.same sC,_,rfl,lk,t,d.bs.length,gh,s',gn,rfl,⟨lk,ks,rfl,SqL.of elk,px⟩,sC.ts.seq hT,gC.least.ok,gC.knot,fun HD sD=>?_⟩;rw[Vu pw lt (gL s')];h sAD:=sA.trans (sC.trans sD);h BD:=B24.same (s28.trans sAD);r⟨_,rfl,_,rfl,_,rfl,d.l4,t,d.y,d.bs,s',rfl,⟨d.l4,d.us,rfl,SqL.of BD.fl,BD.fp⟩,(sC.trans sD).ts.seq hT,slen b12 pw lt,lt,y1,y10,fun L HE sE eL=>?_⟩;h hf:([fitB (uP false) d.bs d.y s',fitB (uP true) d.bs d.y s',fitB uC d.bs d.y s'].map V.bl)[k]?=some (.bl (fitB (ru k) d.bs d.y s')):=by
    match k,k3 with
    | 0,_=>rfl
    | 1,_=>rfl
    | 2,_=>rfl
   r⟨_,rfl,L,_,_,_,rfl,rfl,SqL.of eL,Bm hf,rfl,_,rfl,iteNP rfl ⟨_,rfl,sAD.trans sE⟩⟩
  rintro σ H29 ⟨o12',rfl,s29⟩;!q5 _ _ ⟨d,SV,vs,k,_,_,_,_,_,rfl,B24.same (s28.trans s29),S24.same (s28.trans s29),k3⟩
 obtain ⟨t3,h3,q3⟩:∃ t,PSs (cxOf CX0 P w K mg base lawN "law" (Ac Fq) f cdv A outer s H E).nox ((Ak Fq).drop 10) t/\∀(σ:St) (H0:Hp),(∃(d:Dt) (SV:Addr) (vs:List V) (o8 o10:Option V),σ=stL d o8 (some (.ref SV)) o10 none none none none/\Bs K C D Dc d H0/\Ss K S SV vs d H0)->t {nx:=fun _ H'=>Q .non H',rt:=Q} σ H0:=by
  r⟨_,Ae (Ax (i:=11) DQ.nd rfl ④ (Aw Ul (Aw Ul (Ci (Aa (CG Ad) (Aa (Bk (Fz rfl) rfl T.tuple PyProof.Rows.boot_tuple (Aa (Bk Jh rfl T.range PyProof.Rows.boot_range (Aa (pv 3) Ad)) Ad)) Ad)))
    (Ca (Ac Fq) ["_law_k"] [] [] rfl rfl £ trivial (Cm rfl T.range (Aa (pv 3) Ad)) (fun _ _ _=>Am (i:=0) (show ((["_law_k"]:List Str)++([]:List Str)).Nodup by decide +kernel) rfl ④) (fun _ _ _=>Cg) (fun _ _ _=>CG (Aa (pv 0) Ad))))
    (Ca (Ac Fq) ["_law_cell_here"] ["_law_n"] [3] rfl rfl £ ⟨⟨rfl,£⟩,trivial⟩ (Bv (Fy KH (pv 0) (Gy Ah) (Gy Ah))) (fun _ _ _=>Am (i:=0) (show ((["_law_cell_here"]:List Str)++(["_law_n"]:List Str)).Nodup by decide +kernel) rfl ④) (fun _ _ _=>Cg)
     (fun _ _ _=>BP GO hr1 rfl mO kO bO .nil pass0 (Aa (pv 0) (Aa (pv 1) Ad))))))
   (Ae (Cw PassesOwn.never rfl (Bv (pv 11)) (Am (i:=12) DQ.nd rfl (Or.inr rfl))
   (Aj (CN (Ar (QC ADt (CW hr)) (Ca (Ac Fq) ["_law_sieve"] ["_law_some_here"] [12] rfl rfl £ ⟨⟨rfl,£⟩,trivial⟩ (Bv (pv 9)) (fun _ _ _=>Am (i:=0) (show ((["_law_sieve"]:List Str)++(["_law_some_here"]:List Str)).Nodup by decide +kernel) rfl ④) (fun _ _ _=>Cg)
     (fun _ _ _=>BP GE hr1 rfl mE kE bE .nil pass0 (Aa (Bo (pv 0) T2.cl mK GK hr1 bK .nil pass0) (Aa (Bo (pv 0) T2.cl mT GT hr1 bT .nil pass0) (Aa (pv 1) Ad)))))
    (BP GB hr1 rfl mB kB bB .nil pass0 (Aa (pv 1) (Aa (pv 2) (Aa (pv 12) Ad)))) ⑮) (Aj (Av Ec)) BX)))
   h4),?_⟩
  rintro σ H12 ⟨d,SV,vs,o8,o10,rfl,B,SS⟩;o⟨a12,z1,z10,b12,y1,y10⟩:=B.num;h n63:=B.n63;r⟨Nat.zero_le _,fun t0 ht0=>?_⟩;h sa:=Same.new ht0 (.tup []);h et0:(upd H12 t0 (.tup [])) t0=some (.tup []):=Ab;generalize upd H12 t0 (.tup [])=H13 at sa et0 ⊢;r⟨_,rfl,(d.as.length:Int),rfl,fun R hR=>⟨R,(d.as.length:Int),rfl,Ab,by w,by w,fun t1 ht1=>?_⟩⟩;h sb:=(Same.new hR (.rng 0 (d.as.length:Int))).trans (Same.new ht1 (.tup ((below ((d.as.length:Nat):Int).toNat).map V.int)));h et1:(upd (upd H13 R (.rng 0 (d.as.length:Int))) t1 (.tup ((below ((d.as.length:Nat):Int).toNat).map V.int))) t1=some (.tup ((below ((d.as.length:Nat):Int).toNat).map V.int)):=Ab;generalize upd (upd H13 R (.rng 0 (d.as.length:Int))) t1 (.tup ((below ((d.as.length:Nat):Int).toNat).map V.int))=H14 at sb et1 ⊢;r⟨(by show 2<=sizeLine; decide),fun L0 hL0=>?_⟩;h sc:=Same.new hL0 (.lst [.ref t0,.ref t1]);h eL0:(upd H14 L0 (.lst [.ref t0,.ref t1])) L0=some (.lst [.ref t0,.ref t1]):=Ab;h in0:∀ v∈[V.ref t0,V.ref t1],SetR K d.as.length (upd H14 L0 (.lst [.ref t0,.ref t1])) v:=fun v hv=>by
   rcases List.mem_cons.mp hv with rfl | hv
   ·!SetR.nil (sc _ _ (sb _ _ et0))
   ·rw[List.mem_singleton] at hv
    subst hv;!SetR.all (sc _ _ et1)
  generalize upd H14 L0 (.lst [.ref t0,.ref t1])=H15 at sc eL0 in0 ⊢;h s15:=sa.trans (sb.trans sc);r⟨_,rfl,(d.as.length:Int),rfl,by w,by w,fun B0 hB=>?_⟩;r Cj (lo:=0) (n:=((d.as.length:Nat):Int).toNat) (fun j τ HA=>∃(o:Option V) (ys:List V),τ=[o]/\Same H15 HA/\HA B0=some (.lst ys)/\ys.length=j/\∀ v∈ys,SetR K d.as.length HA v) ⟨none,[],rfl,Same.new hB _,Ab,rfl,fun v h=>by cases h⟩ ?_ ?_
  ·rintro j τ HA hj ⟨o,ys,rfl,sA,eB,yl,hy⟩
   rw[show (0:Int)+(j:Int)=(j:Int) by w];r yesN ⟨_,rfl,(by show 1<=sizeLine; decide),fun t ht=>?_⟩;h sB:=Same.new ht (.tup [V.int (j:Int)]);h eB2:=sB _ _ eB;r⟨ys,eB2,Ay ¢,_,ys++[.ref t],rfl,fun b o e=>?_,Ab,by rw[List.length_append,yl]; rfl,fun v hv=>?_⟩
   ·rw[Af (Ag e hB)]
    !sB _ _ (sA b o e)
   ·r SetR.ts ?_ (TSm.lst eB2)
    rcases List.mem_append.mp hv with hv | hv
    ·!(hy v hv).same sB
    ·rw[List.mem_singleton] at hv
     subst hv;!⟨t,[j],rfl,SqT.of Ab,List.pairwise_singleton ..,fun x hx=>by rw[List.mem_singleton] at hx; w⟩
  rintro τ H16 ⟨_,xb,rfl,s16,eB,xl2,hxb⟩;r⟨L0,B0,_,_,rfl,rfl,s16 _ _ eL0,eB,Nat.le_of_lt (Ay (by show 2+xb.length<=1000; w)),fun L1 hL1=>?_⟩;h s17:=Same.new hL1 (.lst ([V.ref t0,V.ref t1]++xb));h eL1:(upd H16 L1 (.lst ([V.ref t0,V.ref t1]++xb))) L1=some (.lst ([V.ref t0,V.ref t1]++xb)):=Ab;h in1:∀ v∈[V.ref t0,V.ref t1]++xb,SetR K d.as.length (upd H16 L1 (.lst ([V.ref t0,V.ref t1]++xb))) v:=fun v hv=>by
   rcases List.mem_append.mp hv with hv | hv
   ·!((in0 v hv).same s16).same s17
   ·!(hxb v hv).same s17
  h l1l:([V.ref t0,V.ref t1]++xb).length<=20:=by rw[List.length_append,xl2]; show 2+((d.as.length:Nat):Int).toNat<=20; w
  generalize upd H16 L1 (.lst ([V.ref t0,V.ref t1]++xb))=H17 at s17 eL1 in1 ⊢;generalize [V.ref t0,V.ref t1]++xb=x1 at eL1 in1 l1l ⊢;h s917:=s15.trans (s16.trans s17);r⟨_,rfl,_,rfl,_,rfl,d.a,_,rfl,s917.seq B.sc,fun cl hcl=>?_⟩;o⟨cs,ec,cl63⟩:=AAQ d.ns (some 2) (some 32);rw[ec];h s18:=Same.new hcl (.lst (cs.map V.int));h ecl:(upd H17 cl (.lst (cs.map V.int))) cl=some (.lst (cs.map V.int)):=Ab;generalize upd H17 cl (.lst (cs.map V.int))=H18 at s18 ecl ⊢;r⟨cl,rfl,⟨_,SqL.of ecl⟩,fun B2 hB2=>?_⟩;r Ck (K:=K) (a:=cl) (xs:=cs.map V.int) (fun j τ HA=>∃(o:Option V) (ys:List V),τ=[o,some (.int d.as.length)]/\Same H18 HA/\HA B2=some (.lst ys)/\ys.length=j/\∀ v∈ys,SetR K d.as.length HA v) ⟨none,[],rfl,Same.new hB2 _,Ab,rfl,fun v h=>by cases h⟩ (fun j τ HA _ ⟨_,_,_,sm,_⟩=>SqL.of (sm _ _ ecl)) ?_ ?_
  ·rintro j x τ HA hx ⟨o,ys,rfl,sA,eB2,yl,hy⟩
   o⟨c,hc,rfl⟩:=int_at hx;h jl:=(List.getElem?_eq_some_iff.mp hc).1;r yesN ⟨_,rfl,_,rfl,c,d.as.length,rfl,a12,fun t s' HB sB et pw lt=>?_⟩;h eB3:=sB _ _ eB2;r⟨ys,eB3,Ay ¢,_,ys++[.ref t],rfl,fun b o e=>?_,Ab,by rw[List.length_append,yl]; rfl,fun v hv=>?_⟩
   ·rw[Af (Ag e hB2)]
    !sB _ _ (sA b o e)
   ·r SetR.ts ?_ (TSm.lst eB3)
    rcases List.mem_append.mp hv with hv | hv
    ·!(hy v hv).same sB
    ·rw[List.mem_singleton] at hv
     subst hv;!⟨t,s',rfl,SqT.of et,pw,lt⟩
  rintro τ H19 ⟨_,xc,rfl,s19,eB2,xl3,hxc⟩;rw[List.length_map] at xl3;r⟨L1,B2,_,_,rfl,rfl,s19 _ _ (s18 _ _ eL1),eB2,Nat.le_of_lt (Ay ¢),fun L2 hL2=>?_⟩;h s20:=Same.new hL2 (.lst (x1++xc));h eL2:(upd H19 L2 (.lst (x1++xc))) L2=some (.lst (x1++xc)):=Ab;h in2:∀ v∈x1++xc,SetR K d.as.length (upd H19 L2 (.lst (x1++xc))) v:=fun v hv=>by
   rcases List.mem_append.mp hv with hv | hv
   ·!(((in1 v hv).same s18).same s19).same s20
   ·!(hxc v hv).same s20
  h sZ:Same H12 (upd H19 L2 (.lst (x1++xc))):=s917.trans (s18.trans (s19.trans s20));generalize upd H19 L2 (.lst (x1++xc))=H20 at s20 eL2 in2 sZ ⊢;generalize x1++xc=x2 at eL2 in2 ⊢;h B20:=B.same sZ;h S20:=SS.same sZ;clear sa et0 sb et1 sc eL0 in0 s15 s16 eB hxb s17 eL1 in1 s917 s18 ecl s19 eB2 hxc s20 sZ B SS;r⟨_,rfl,L2,rfl,⟨_,SqL.of eL2⟩,?_⟩;r DK (K:=K) (a:=L2) (xs:=x2) (fun i σ HA=>∃(o12:Option V),σ=stL d o8 (some (.ref SV)) o10 (some (.ref L2)) o12 none none/\Same H20 HA) ⟨none,rfl,Same.refl _⟩ (fun i σ HA _ ⟨_,_,sm⟩=>SqL.of (sm _ _ eL2)) ?_ ?_
  ·rintro i x σ HA hx ⟨o12,rfl,sA⟩
   o⟨t,s',rfl,hT,pw,lt⟩:=(in2 x (List.mem_of_getElem? hx)).same sA;h SA:=S20.same sA;r⟨_,rfl,SV,rfl,⟨_,SqL.of SA.sv⟩,fun Z hZ=>?_⟩;r Ck (K:=K) (a:=SV) (xs:=vs) (fun j τ HB=>∃(o:Option V),τ=[o,some (.ref t)]/\Same HA HB/\HB Z=some (.lst (((List.range j).map fun i=>fitB (ru i) d.as d.z s').map V.bl))) ⟨none,rfl,Same.new hZ _,Ab⟩ (fun j τ HB _ ⟨_,_,sm,_⟩=>SqL.of (sm _ _ SA.sv)) ?_ ?_
   ·rintro j x τ HB hx ⟨o,rfl,sB,eZ⟩
    o⟨p,nums,hd,rfl,hV,cA,lA,rA⟩:=(SA.at_ hx).same sB;o⟨dx,jj,hp,_⟩:=id hV;h v3:=SA.v3;h j3:j<vs.length:=(List.getElem?_eq_some_iff.mp hx).1;r yesN ⟨_,rfl,p,dx,_,rfl,hp,noK,p,_,hd,nums,rfl,hV,fun lk ks HC sC hlk elk px=>?_⟩;r⟨_,rfl,p,dx,_,rfl,sC _ _ hp,noT,p,_,hd,nums,rfl,hV.same sC,_,rfl,lk,t,d.as.length,hd,s',nums,rfl,⟨lk,ks,rfl,SqL.of elk,px⟩,(sB.trans sC).ts.seq hT,cA.least.ok,cA.knot,fun HD sD=>?_⟩;rw[Vu pw lt (lA s')];h sCD:=sC.trans sD;r⟨_,sCD _ _ eZ,Ay (by rw[List.length_map,List.length_map,List.length_range]; w),_,rfl,fun b o e=>?_,?_⟩
    ·rw[Af (Ag e hZ)]
     !sCD _ _ (sB b o e)
    ·rw[Ab,List.range_succ,List.map_append,List.map_append]
     rfl
   rintro τ HB ⟨_,rfl,sB,eZ⟩;h BB:=B20.same (sA.trans sB);r⟨_,rfl,_,rfl,_,rfl,d.l2,t,d.z,d.as,s',rfl,⟨d.l2,d.ts,rfl,SqL.of BB.tl,BB.tp⟩,sB.ts.seq hT,slen a12 pw lt,lt,z1,z10,fun L HC sC eL=>?_⟩;r⟨_,_,⟨Z,_,rfl,SqL.of (sC _ _ eZ),Hj _⟩,⟨L,_,rfl,SqL.of eL,Hj _⟩,_,rfl,iteNP ?_ ⟨_,rfl,sA.trans (sB.trans sC)⟩⟩;rw[SA.v3];rfl
  rintro σ H21 ⟨o12,rfl,s21⟩;!q4 _ _ ⟨d,SV,vs,_,_,_,_,rfl,B20.same s21,S20.same s21⟩
 obtain ⟨t2,h2,q2⟩:∃ t,PSs (cxOf CX0 P w K mg base lawN "law" (Ac Fq) f cdv A outer s H E).nox ((Ak Fq).drop 7) t/\∀(σ:St) (H0:Hp),(∃(d:Dt),σ=stL d none none none none none none none/\Bs K C D Dc d H0)->t {nx:=fun _ H'=>Q .non H',rt:=Q} σ H0:=by
  r⟨_,Ae (Cw PassesOwn.never rfl (Bv (pv 5)) (Am (i:=8) DQ.nd rfl ④)
   (Aj (DX (RJ fun i=>CJ (pv 8) (cls i) (mF i) (GF i) hr3 bF .nil pass0 (Aa (Iv M GI hr4 rfl T.mgC bI .nil pass0 (Aa (pv 6) (Aa (pv 7) Ad))) (Aa (CG Ad) Ad))))))
   (Ae (Pg (i:=9) (Ac Fq) ["_law_rule"] ["_law_web_here"] [4] DQ.nd rfl ④ rfl rfl £ ⟨⟨rfl,£⟩,trivial⟩ (Bv (pv 5))
   (fun _ _ _=>Am (i:=0) (show ((["_law_rule"]:List Str)++(["_law_web_here"]:List Str)).Nodup by decide +kernel) rfl ④) (fun _ _ _=>Cg)
   (fun _ _ _=>RJ fun i=>BP (GG i) hr rfl mG kG bG .nil pass0 (Aa (pv 1) (Aa (pv 0) Ad))))
   (Ae (Cw PassesOwn.never rfl (Bv (pv 9)) (Am (i:=10) DQ.nd rfl ④)
   (Aj (CN (PW.pt (HN (Kl (Hq (BL (ABY T2.cl O) rfl T.isi PyProof.Rows.boot_isinstance (Aa (pv 10) (Aa (Gv (v:=.ref S) rfl T2.mgC rfl) Ad)))))
    (HN (Ar Ot (Bo (pv 10) T2.cl mM GM hr1 bM .nil pass0) (pv 3) ⑮)
    (Ho (Kl (Hq (BP GL hr2 rfl mL kL bL .nil pass0 (Aa (Bo (pv 10) T2.cl mK GK hr1 bK .nil pass0) (Aa (Bo (pv 10) T2.cl mT GT hr1 bT .nil pass0) (Aa (pv 3) Ad)))))))))) (Aj (Av Ec)) BX)))
   h3)),?_⟩
  rintro σ H9 ⟨d,rfl,B⟩;o⟨a12,z1,z10,b12,y1,y10⟩:=B.num;h bl:(d.as.map srt).length=d.as.length:=List.length_map ..;h bb:(d.bs.map srt).length=d.bs.length:=List.length_map ..;r⟨_,rfl,d.RL,rfl,⟨_,SqL.of B.rl⟩,?_⟩;r DK (K:=K) (a:=d.RL) (xs:=d.rs) (fun i σ HA=>∃(o8:Option V),σ=stL d o8 none none none none none none/\Same H9 HA) ⟨none,rfl,Same.refl _⟩ (fun i σ HA _ ⟨_,_,sm⟩=>SqL.of (sm _ _ B.rl)) ?_ ?_
  ·rintro i x σ HA hx ⟨o8,rfl,sA⟩
   h BA:=B.same sA;o⟨r,dx,rfl,er⟩:=BA.ru hx;r⟨i,_,rfl,r,dx,_,rfl,er,ADK i £,_,rfl,_,rfl,fun p dp np ndp npd=>?_⟩;r mkw BA np ndp fun HB sB hV=>⟨rfl,?_⟩;r⟨Nat.zero_le _,fun e he=>?_⟩;h sC:=Same.new he (.tup []);r⟨r,p,e,dx,(d.y:Int),d.bs.map srt,[],rfl,sC _ _ (sB _ _ er),hV.same sC,.inr (SqT.of Ab),by w,by w,by rw[bb]; !b12,fun b HD sD=>?_⟩;!⟨_,rfl,sA.trans (sB.trans (sC.trans sD))⟩
  rintro σ H10 ⟨o8,rfl,s10⟩;h B10:=B.same s10;clear B s10;r⟨_,rfl,d.RL,rfl,⟨_,SqL.of B10.rl⟩,fun SV hSV=>?_⟩;h r3:=B10.r3;r Ck (K:=K) (a:=d.RL) (xs:=d.rs) (fun i τ HA=>∃(o:Option V) (ys:List V),τ=[o,some (.ref d.W)]/\Same H10 HA/\HA SV=some (.lst ys)/\ys.length=i/\∀(j:Nat) (v:V),ys[j]?=some v->SvR K S d.as d.z HA v j) ⟨none,[],rfl,Same.new hSV _,Ab,rfl,fun j v h=>by cases h⟩ (fun i τ HA _ ⟨_,_,_,sm,_⟩=>SqL.of (sm _ _ B10.rl)) ?_ ?_
  ·rintro i x τ HA hx ⟨o,ys,rfl,sA,eS,yl,hy⟩
   h i3:=(List.getElem?_eq_some_iff.mp hx).1;h BA:=B10.same sA;o⟨r,dx,rfl,er⟩:=BA.ru hx;r yesN ⟨i,_,rfl,_,rfl,d.W,r,dx,d.z,d.as.map srt,rfl,BA.wb,er,z1,z10,by rw[bl]; !a12,fun p nums hd HB sB hV cA lA rA=>?_⟩;h eSB:=sB _ _ eS;rw[bl] at hV cA;r⟨ys,eSB,Ay ¢,_,ys++[.ref p],rfl,fun b o e=>?_,Ab,by rw[List.length_append,yl]; rfl,fun j v hv=>?_⟩
   ·rw[Af (Ag e hSV)]
    !sB _ _ (sA b o e)
   ·h kp:∀ b o,b≠SV->HB b=some o->(upd HB SV (.lst (ys++[.ref p]))) b=some o:=fun b o ne e=>by rw[Af ne]; !e
    rcases Nat.lt_or_ge j ys.length with c | c
    ·rw[List.getElem?_append_left c] at hv
     !((hy j v hv).same sB).keep kp eSB
    ·rw[List.getElem?_append_right c] at hv
     h ej:j=i:=by
      have:=(List.getElem?_eq_some_iff.mp hv).1;rw[List.length_singleton] at this;w
     subst ej;rw[yl,Nat.sub_self] at hv;cases hv;!SvR.keep kp eSB ⟨p,nums,hd,rfl,hV,cA,lA,rA⟩
  rintro τ H11 ⟨o,vs,rfl,s11,eSV,vl,hv⟩;h B11:=B10.same s11;h S11:Ss K S SV vs d H11:=⟨eSV,vl.trans r3,fun {i x} h=>hv i x h⟩;r⟨_,rfl,SV,rfl,⟨_,SqL.of eSV⟩,?_⟩;r DK (K:=K) (a:=SV) (xs:=vs) (fun i σ HA=>∃(o10:Option V),σ=stL d o8 (some (.ref SV)) o10 none none none none/\Same H11 HA) ⟨none,rfl,Same.refl _⟩ (fun i σ HA _ ⟨_,_,sm⟩=>SqL.of (sm _ _ eSV)) ?_ ?_
  ·rintro i x σ HA hx ⟨o10,rfl,sA⟩
   o⟨p,nums,hd,rfl,hV,cA,lA,rA⟩:=(S11.at_ hx).same sA;o⟨dx,jj,hp,_⟩:=id hV;r⟨_,rfl,p,dx,_,rfl,hp,true,rfl,iteF ?_⟩;r⟨_,rfl,p,dx,_,rfl,hp,noM,p,_,hd,nums,rfl,hV,_,rfl,rfl,_,rfl,iteNP rfl ?_⟩;r⟨_,rfl,p,dx,_,rfl,hp,noK,p,_,hd,nums,rfl,hV,fun lk ks HB sB hlk elk px=>?_⟩;r⟨_,rfl,p,dx,_,rfl,sB _ _ hp,noT,p,_,hd,nums,rfl,hV.same sB,_,rfl,lk,d.as.length,hd,nums,rfl,⟨lk,ks,rfl,SqL.of elk,px⟩,cA,rA,fun HC sC=>⟨true,rfl,iteF ?_⟩⟩;!⟨_,rfl,sA.trans (sB.trans sC)⟩
  rintro σ H12 ⟨o10,rfl,s12⟩;!q3 _ _ ⟨d,SV,vs,_,_,rfl,B11.same s12,S11.same s12⟩
 r⟨_,Ae (Pa (BP GW hr3 rfl mW kW bW .nil pass0 (Aa (pv 0) (Aa Ah Ad))) (Vg rfl (Bb (Am (i:=1) DQ.nd rfl ④) (Bb (Am (i:=2) DQ.nd rfl ④) Dw))))
   (Vs (CN (Ar Ot (Aw Dm (Aw Fo (BP GC hr1 rfl mC kC bC .nil pass0 (Aa (pv 0) (Aa Ah Ad))) Ah) Ah) Ah ⑮) (Aj (Ax (i:=2) DQ.nd rfl ④ (Fy KH (pv 2) Jv (Gy Ah)))) BX)
   (Ae (Ax (i:=3) DQ.nd rfl (Or.inr rfl) (BL BZ rfl T.len PySem.boot_len (Aa (pv 2) Ad)))
   (Ae (Ax (i:=4) DQ.nd rfl (Or.inr rfl) (Iv M GI hr4 rfl T.mgC bI .nil pass0 (Aa (pv 1) (Aa (pv 2) Ad))))
   (Ae (Ax (i:=5) DQ.nd rfl ④ (Ci (Aa (AAH MP GP hr2 rfl mgP bP0 (show Vals [V.bl false] [Value.bool false] from .cons rfl .nil) pass0) (Aa (ABJ MP GP hr2 rfl mgP kP pass0 (ABX Ec ADk)) (Aa (ACP mkC hiC kpC rfl mgC) Ad)))))
   (Ae (Pa (BP GW hr3 rfl mW kW bW .nil pass0 (Aa (pv 0) (Aa Ah Ad))) (Vg rfl (Bb (Am (i:=6) DQ.nd rfl ④) (Bb (Am (i:=7) DQ.nd rfl ④) Dw))))
   (Ae (Ax (i:=7) DQ.nd rfl ④ (Fy KH (pv 7) Jv (Gy Ah)))
   h2)))))),?_⟩
 r⟨_,rfl,a,ns,0,rfl,hS,by w,fun t l m xl as0 H1 s1 et el nl pl m1 m10 h12 ok0=>?_⟩;r⟨t,_,rfl,SqT.of et,rfl,_,_,rfl,_,_,rfl,rfl,?_⟩;obtain ⟨z,rfl⟩:∃ z:Nat,m=(z:Int):=⟨m.toNat,by w⟩;h hS1:=s1.seq hS;r⟨fun σ HA=>∃(l2:Addr) (ts:List V) (as:List ⑧),σ=[some (.ref a),some (.int z),some (.ref l2),none,none,none,none,none,none,none,none,none,none,none,none]/\SqL K HA a ⑭/\HA l2=some (.lst ts)/\Paired (rPair K HA) as ts/\OkTies (z:Int) as/\as.length<=12,?_,?_⟩
 ·r⟨_,rfl,a,ns,0,rfl,hS1,by w,fun c0=>⟨_,_,rfl,rfl,⟨by decide,by decide⟩,_,_,rfl,rfl,(by show (0:Int)<8; decide),rfl,_,rfl,?_⟩⟩
  r ite2 (fun _=>?_) (fun _=>⟨l,xl,as0,rfl,hS1,el,pl,ok0,h12⟩);r⟨_,rfl,_,rfl,l,xl,rfl,SqL.of el,fun l2 hl2=>?_⟩;rw[show cutV xl none (some 6)=xl.take 6 from AAo xl 6];h s2:=Same.new hl2 (.lst (xl.take 6));!⟨l2,xl.take 6,as0.take 6,rfl,s2.seq hS1,Ab,Paired.imp (fun _ _ r=>Aq Az _ _ _ _ s2.ts r) (JX pl 6),AAS ok0 (List.take_sublist ..),by rw[List.length_take]; w⟩
 rintro σ H2 ⟨l2,ts,as,rfl,hS2,el2,pl2,ok,a12⟩;h lx:=Paired.length pl2;h z1:1<=z:=by w
 h z10:z<=10:=by w
 h bl:(as.map srt).length=as.length:=List.length_map ..;h lift:∀{H':Hp},Same H2 H'->Paired (rPair K H') as ts:=fun s=>Paired.imp (fun _ _ r=>Aq Az _ _ _ _ s.ts r) pl2;r⟨_,rfl,l2,_,rfl,.inl (SqL.of el2),?_⟩;rw[<- lx];r⟨_,rfl,_,rfl,fun W dW nW ndW nWd=>?_⟩;h sp:Same H2 (upd (upd H2 dW (.own W)) W (.ins C dW [])):=fun b o e=>by
  rw[Af (Ag e nW),Af (Ag e ndW)];!e
 r⟨W,dW,l2,(z:Int),ts,as,rfl,Ab,sp.seq (SqL.of el2),Paired.imp (fun t x h=>.inr (Aq Az _ _ _ _ sp.ts h)) pl2,ok,a12,by w,by w,fun H3 k3 hW=>⟨rfl,?_⟩⟩;h s3:Same H2 H3:=fun b o e=>k3 b o (sp b o e) (Ag e nW);r fun r0 d0 hr0 hd0 n0=>⟨r0,d0,false,rfl,Ab,rfl,?_⟩;h s4:Same H3 (upd (upd (upd H3 d0 (.own r0)) r0 (.ins D d0 [])) r0 (.ins D d0 (pf false))):=fun b o e=>by
  rw[Af (Ag e hr0),Af (Ag e hr0),Af (Ag e hd0)];!e
 h e0:(upd (upd (upd H3 d0 (.own r0)) r0 (.ins D d0 [])) r0 (.ins D d0 (pf false))) r0=some (.ins D d0 (pf false)):=Ab;generalize upd (upd (upd H3 d0 (.own r0)) r0 (.ins D d0 [])) r0 (.ins D d0 (pf false))=H4 at s4 e0 ⊢;r fun r1 d1 hr1' hd1 n1=>⟨r1,d1,true,rfl,Ab,rfl,?_⟩;h s5:Same H4 (upd (upd (upd H4 d1 (.own r1)) r1 (.ins D d1 [])) r1 (.ins D d1 (pf true))):=fun b o e=>by
  rw[Af (Ag e hr1'),Af (Ag e hr1'),Af (Ag e hd1)];!e
 h e1:(upd (upd (upd H4 d1 (.own r1)) r1 (.ins D d1 [])) r1 (.ins D d1 (pf true))) r1=some (.ins D d1 (pf true)):=Ab;generalize upd (upd (upd H4 d1 (.own r1)) r1 (.ins D d1 [])) r1 (.ins D d1 (pf true))=H5 at s5 e1 ⊢;r fun r2 d2 hr2' hd2 n2=>?_;h s6:Same H5 (upd (upd H5 d2 (.own r2)) r2 (.ins Dc d2 [])):=fun b o e=>by
  rw[Af (Ag e hr2'),Af (Ag e hd2)];!e
 h e2:(upd (upd H5 d2 (.own r2)) r2 (.ins Dc d2 [])) r2=some (.ins Dc d2 []):=Ab;generalize upd (upd H5 d2 (.own r2)) r2 (.ins Dc d2 [])=H6 at s6 e2 ⊢;r⟨(by show 3<=sizeLine; decide),fun RL hRL=>?_⟩;h s7:=Same.new hRL (.lst [.ref r0,.ref r1,.ref r2]);h eRL:(upd H6 RL (.lst [.ref r0,.ref r1,.ref r2])) RL=some (.lst [.ref r0,.ref r1,.ref r2]):=Ab;generalize upd H6 RL (.lst [.ref r0,.ref r1,.ref r2])=H7 at s7 eRL ⊢;h s47:=s4.trans (s5.trans (s6.trans s7));h rall:∀{i:Nat}{x:V},[V.ref r0,V.ref r1,V.ref r2][i]?=some x->RuAt D Dc H7 x i:=fun h=>at3 (P:=fun x i=>RuAt D Dc H7 x i) ⟨r0,d0,rfl,s7 _ _ (s6 _ _ (s5 _ _ e0))⟩ ⟨r1,d1,rfl,s7 _ _ (s6 _ _ e1)⟩ ⟨r2,d2,rfl,s7 _ _ e2⟩ h;h s37:=s3.trans s47;h hW7:=hW.same s47;h hS7:=s37.seq hS2;h el7:=s37 _ _ el2;h pl7:=lift s37;r⟨_,rfl,a,ns,2,rfl,hS7,by w,fun t' l3 m' xl' bs0 H8 s8 et' el' nl' pl' m1' m10' h12' ok0'=>?_⟩;r⟨t',_,rfl,SqT.of et',rfl,_,_,rfl,_,_,rfl,rfl,?_⟩;obtain ⟨y,rfl⟩:∃ y:Nat,m'=(y:Int):=⟨m'.toNat,by w⟩;r⟨_,rfl,_,rfl,l3,xl',rfl,SqL.of el',fun l4 hl4=>?_⟩;rw[show cutV xl' none (some 6)=xl'.take 6 from AAo xl' 6];h s9:=Same.new hl4 (.lst (xl'.take 6));h el9:(upd H8 l4 (.lst (xl'.take 6))) l4=some (.lst (xl'.take 6)):=Ab;h pl9:=Paired.imp (fun _ _ r=>Aq Az _ _ _ _ s9.ts r) (JX pl' 6);h okb:=AAS ok0' (List.take_sublist 6 bs0);h b12:(bs0.take 6).length<=12:=by rw[List.length_take]; w
 generalize upd H8 l4 (.lst (xl'.take 6))=H9 at s9 el9 pl9 ⊢;generalize xl'.take 6=us at el9 pl9 ⊢;generalize bs0.take 6=bs at pl9 okb b12;h ux:=Paired.length pl9;h bb:(bs.map srt).length=bs.length:=List.length_map ..;h y1:1<=y:=by w
 h y10:y<=10:=by w
 h s79:=s8.trans s9;h rall9:∀{i:Nat}{x:V},[V.ref r0,V.ref r1,V.ref r2][i]?=some x->RuAt D Dc H9 x i:=fun h=>(rall h).same s79;h hW9:=hW7.same s79;h hS9:=s79.seq hS7;h eL9:=s79 _ _ el7;h pL9:Paired (rPair K H9) as ts:=Paired.imp (fun _ _ r=>Aq Az _ _ _ _ s79.ts r) pl7;h eR9:=s79 _ _ eRL;!q2 _ _ ⟨⟨a,ns,l2,W,RL,l4,z,y,as,bs,ts,us,[.ref r0,.ref r1,.ref r2]⟩,rfl,hS9,n63,eL9,pL9,hW9,eR9,rfl,fun h=>rall9 h,el9,pl9,ok,okb,a12,z1,z10,b12,y1,y10⟩
end
theorem Yv{P:Program}{w:World}{K:¨}{mg:Str->Option Value}{base:Heap}{f D dt:Addr}{fd:FuncData}{items:Array Value}(F:FunD K "__init__" "Pairs.__init__" JC f fd dt items)(cl:Cls K D)(nF:NoAttr K D "full"):FnOk P w K mg base CX0 1 f fd ["self", "full"] (Wm D):=by
 r F.ok ABW § ¦
 ·o⟨r,dx,fu,rfl,_⟩:=h
  rfl
 o⟨r,dx,fu,rfl,h0,q⟩:=h;r⟨_,Aj (Dp (pv 0) (pv 1) rfl),?_⟩;!⟨_,rfl,_,rfl,r,D,dx,[],rfl,h0,cl,nF,(by show 0<1000; decide),q⟩
theorem fits3{P:Program}{w:World}{K:¨}{mg:Str->Option Value}{base:Heap}{f C D Dc:Addr}{fd:FuncData}{k:Nat}{ps:List Str}(h0:∀ fu,FnOk P w K mg base CX0 k f fd ps (Lw (uP fu) K C D))(h2:FnOk P w K mg base CX0 k f fd ps (Lw uC K C Dc)):∀ i,FnOk P w K mg base CX0 k f fd ps (Lw (ru i) K C (rc D Dc i))
 | 0=>h0 false
 | 1=>h0 true
 | _+2=>h2
theorem grown3{P:Program}{w:World}{K:¨}{mg:Str->Option Value}{base:Heap}{f C D Dc S:Addr}{fd:FuncData}{k:Nat}{ps:List Str}(h0:∀ fu,FnOk P w K mg base CX0 k f fd ps (Ih (uP fu) K C D S))(h2:FnOk P w K mg base CX0 k f fd ps (Ih uC K C Dc S)):∀ i,FnOk P w K mg base CX0 k f fd ps (Ih (ru i) K C (rc D Dc i) S)
 | 0=>h0 false
 | 1=>h0 true
 | _+2=>h2
end K53
end
section
namespace L2
open PySem PySem.Spec PyProof.Rows
section
variable{B:Value->Value->Value->Option Addr->Value->Value->List Value->Sem (List (Str×Value))}{p q r s:Str}
theorem bn1(h:∀ kV doc pm an cdv ct a,B kV doc pm an cdv ct [a]=pure [(p,a)])(kV doc pm:Value)(an:Option Addr)(cdv ct:Value)(us:List Value)(hl:us.length=([p]:List Str).length):B kV doc pm an cdv ct us=pure (([p]:List Str).zip us):=by
 match us,hl with
 | [a],_=>!h ..
theorem bn2(h:∀ kV doc pm an cdv ct a b,B kV doc pm an cdv ct [a,b]=pure [(p,a),(q,b)])(kV doc pm:Value)(an:Option Addr)(cdv ct:Value)(us:List Value)(hl:us.length=([p,q]:List Str).length):B kV doc pm an cdv ct us=pure (([p,q]:List Str).zip us):=by
 match us,hl with
 | [a,b],_=>!h ..
theorem bn3(h:∀ kV doc pm an cdv ct a b c,B kV doc pm an cdv ct [a,b,c]=pure [(p,a),(q,b),(r,c)])(kV doc pm:Value)(an:Option Addr)(cdv ct:Value)(us:List Value)(hl:us.length=([p,q,r]:List Str).length):B kV doc pm an cdv ct us=pure (([p,q,r]:List Str).zip us):=by
 match us,hl with
 | [a,b,c],_=>!h ..
theorem bn4(h:∀ kV doc pm an cdv ct a b c d,B kV doc pm an cdv ct [a,b,c,d]=pure [(p,a),(q,b),(r,c),(s,d)])(kV doc pm:Value)(an:Option Addr)(cdv ct:Value)(us:List Value)(hl:us.length=([p,q,r,s]:List Str).length):B kV doc pm an cdv ct us=pure (([p,q,r,s]:List Str).zip us):=by
 match us,hl with
 | [a,b,c,d],_=>!h ..
end
end L2
end
namespace PySem.W.Fast
def tw10028170532033555480:=()
def tw1005795761970007997:=()
def tw10064737663502395452:=()
def tw10125581041246864471:=()
def tw10163270453566140140:=()
def tw10185373011314951147:=()
def tw10192319046485959114:=()
def tw10216888100417557888:=()
def tw10226012482917279563:=()
def tw10235085080562569415:=()
def tw10242998428049678879:=()
def tw10332969279545674169:=()
def tw10350066375514509319:=()
def tw10370529411563999341:=()
def tw10370647240821772815:=()
def tw10424694293180165325:=()
def tw10458449898215626080:=()
def tw10471373470818198974:=()
def tw10479790678882379891:=()
def tw10481327387764852830:=()
def tw10515866596247924705:=()
def tw10613484642858718101:=()
def tw10653165656735350207:=()
def tw10667890873721311887:=()
def tw10736309402260368476:=()
def tw1075324426953664117:=()
def tw1086096943345001224:=()
def tw10871358661692651181:=()
def tw10888054809142955638:=()
def tw10933225027958993206:=()
def tw10967828841566954448:=()
def tw10977248040473149820:=()
def tw11007508907543316212:=()
def tw11149150520260840289:=()
def tw11161010792475484868:=()
def tw11216011723957683916:=()
def tw11218214169396823483:=()
def tw11269832475512243368:=()
def tw11348564917241371758:=()
def tw11379190973700764214:=()
def tw11403491902244649369:=()
def tw11403599012849337206:=()
def tw1147695725478813923:=()
def tw11485188778441103143:=()
def tw1152400772304569174:=()
def tw11594653438752782988:=()
def tw11635992325683388428:=()
def tw11662187482463419085:=()
def tw11684851856733147143:=()
def tw11871315032788208259:=()
def tw11898112219720534022:=()
def tw11915330101343909835:=()
def tw11992271863454906209:=()
def tw12019656527808246382:=()
def tw12079393003497802986:=()
def tw12241833142478865672:=()
def tw12334207529111132838:=()
def tw12340708789686699699:=()
def tw12347156452303255585:=()
def tw12383895750346031719:=()
def tw12384917187470949095:=()
def tw12389192643035903425:=()
def tw12407756139251715951:=()
def tw1241637496220515081:=()
def tw12447243929757710214:=()
def tw12520298166570315753:=()
def tw12586298208711055951:=()
def tw12631564324709293249:=()
def tw12710226449979201108:=()
def tw12733018566005324500:=()
def tw12801549097880150226:=()
def tw12911655973509615640:=()
def tw12945540088081648340:=()
def tw12952922993908931226:=()
def tw12966338716589340384:=()
def tw12987113276725035101:=()
def tw13057311252754073821:=()
def tw13063351236550471714:=()
def tw13155234327211291167:=()
def tw13155790880538526284:=()
def tw13184304255289022654:=()
def tw1329500395025446147:=()
def tw13333420893752579230:=()
def tw13335315491848572444:=()
def tw13368918073338852356:=()
def tw13418131301955718813:=()
def tw13552513886172420200:=()
def tw13557889221363298598:=()
def tw13574331104714335889:=()
def tw13592884107227541251:=()
def tw1361484980533244137:=()
def tw13626800646332954716:=()
def tw13632909069531005239:=()
def tw13709116656254634999:=()
def tw13712636442526549703:=()
def tw13720508082304470750:=()
def tw13755568778896284669:=()
def tw13804198648569771728:=()
def tw13844620394218020505:=()
def tw13857875313008712041:=()
def tw13865924222975000586:=()
def tw13871749202691708727:=()
def tw13914096713114237630:=()
def tw13935424402471412695:=()
def tw1393580611374709300:=()
def tw13936221661395879410:=()
def tw13957888616470733012:=()
def tw14006995770010525208:=()
def tw14012178802111846145:=()
def tw14066024405756403637:=()
def tw14172418655420210127:=()
def tw14250152603939231806:=()
def tw14340829137067820098:=()
def tw14360993618122302071:=()
def tw14393426004743148674:=()
def tw14525312790281083448:=()
def tw14566191315960363181:=()
def tw14572111041325280622:=()
def tw14580010950054069402:=()
def tw14610283957135660427:=()
def tw14611451370949913511:=()
def tw14652406197151356657:=()
def tw14678091991182276613:=()
def tw14686990217389751196:=()
def tw14708743985360010886:=()
def tw14712198850053788073:=()
def tw14734964267033744355:=()
def tw14736228448651839611:=()
def tw14754425996353014760:=()
def tw14869518348712557632:=()
def tw14954346442639996550:=()
def tw14970758605117062865:=()
def tw14988172002085778212:=()
def tw15062044871859132955:=()
def tw15107362549998362776:=()
def tw15185245050515077715:=()
def tw15193058437636316554:=()
def tw1527025982674346938:=()
def tw15297017243283833474:=()
def tw15323738642662873782:=()
def tw15327881893163887805:=()
def tw15345339402188558672:=()
def tw15379459944201510578:=()
def tw15380752135349933700:=()
def tw15395116396843267279:=()
def tw15406213839641907951:=()
def tw15451540726391511451:=()
def tw15490282709406804175:=()
def tw15490816696647330403:=()
def tw155272436311791224:=()
def tw15592541413344577575:=()
def tw15597473712651562027:=()
def tw15616913731818483895:=()
def tw15618027274495049812:=()
def tw15682744226774596618:=()
def tw15686471787266923654:=()
def tw15815636018978898529:=()
def tw15834850405664846116:=()
def tw15835921736714311303:=()
def tw15844000212821145042:=()
def tw15855022683232320164:=()
def tw1588330378795662109:=()
def tw15886406874160831728:=()
def tw15912601089535532506:=()
def tw15918809200647323990:=()
def tw159401724924565094:=()
def tw15967022079539983556:=()
def tw15980782056465306851:=()
def tw15983533549752609305:=()
def tw16078793257002287122:=()
def tw16091464604269158920:=()
def tw16252461987892659306:=()
def tw16279585486780626519:=()
def tw16368586821722744879:=()
def tw16428903324998680043:=()
def tw16717918725880071257:=()
def tw1672008018032670984:=()
def tw16731277554762856828:=()
def tw16798936182576793914:=()
def tw16812308201513833040:=()
def tw16812580165287975290:=()
def tw16888066247140589686:=()
def tw16942123979520147765:=()
def tw17056148781279758626:=()
def tw17060854907502199336:=()
def tw17083418536000475758:=()
def tw17090533985911501384:=()
def tw17132957205311907731:=()
def tw17145466448998015691:=()
def tw17148634484322796417:=()
def tw17230460327621765024:=()
def tw17241893654282134689:=()
def tw17317718351707134075:=()
def tw17332834378670439481:=()
def tw1740720009686708431:=()
def tw17423476883320717613:=()
def tw1753091510646775707:=()
def tw17572318167554475941:=()
def tw17581240546482135279:=()
def tw17584910309481437929:=()
def tw17621037059339194888:=()
def tw1762425704979373757:=()
def tw17663338459215914321:=()
def tw17763721882328102257:=()
def tw1779263413737526424:=()
def tw17837885808335589455:=()
def tw17911625480546404473:=()
def tw17936874575632829342:=()
def tw17963246572405702776:=()
def tw17993837898692709548:=()
def tw18091435272049902990:=()
def tw18134740194108379697:=()
def tw18165192398998102004:=()
def tw18299035635768892354:=()
def tw18334612439874342830:=()
def tw1850196354917020558:=()
def tw1883044798552113335:=()
def tw1983422712125616415:=()
def tw2059447631299724127:=()
def tw2108569623266590454:=()
def tw2160378467727213699:=()
def tw2178736318055068836:=()
def tw223553667990497559:=()
def tw2244309193069739994:=()
def tw230716070967694754:=()
def tw2362993081097542016:=()
def tw2383996584835169534:=()
def tw2427058366724943377:=()
def tw2500123745522372758:=()
def tw2538819687564241093:=()
def tw2540106388846008839:=()
def tw255674948117483446:=()
def tw257553886131015163:=()
def tw2644094244122054354:=()
def tw2655960509915735388:=()
def tw268259170006155434:=()
def tw271948903800996253:=()
def tw2750773298381909871:=()
def tw2863833447727195049:=()
def tw2913887798837514845:=()
def tw2927333593441454202:=()
def tw2936264246759886228:=()
def tw2973113984992404719:=()
def tw2981782537493990521:=()
def tw3015689508075474568:=()
def tw3076388568909748670:=()
def tw3151616835756102401:=()
def tw3155517389907713390:=()
def tw3196905999648572166:=()
def tw3211662909146863473:=()
def tw3278629348908251352:=()
def tw3285818299362453962:=()
def tw3287311812719119093:=()
def tw338242681220389327:=()
def tw3412282927093656256:=()
def tw3432424710031634649:=()
def tw3484911180551348934:=()
def tw3539657986487454897:=()
def tw3580933139877618462:=()
def tw3695170910439611692:=()
def tw3775957265274581668:=()
def tw3802494118264083465:=()
def tw3810859500632821320:=()
def tw3861315224707377106:=()
def tw3882689944737174037:=()
def tw3937725268474003182:=()
def tw39822639133232248:=()
def tw3991357568766872112:=()
def tw4062329825348419125:=()
def tw4084614341471014447:=()
def tw4153736710012755024:=()
def tw4187574212754269270:=()
def tw4198873683245665886:=()
def tw4208549824261610311:=()
def tw423244434220598207:=()
def tw4279924300308857383:=()
def tw4350472665121369933:=()
def tw4368245950671803217:=()
def tw4433850965022193875:=()
def tw4500471081186105866:=()
def tw4519315605444911305:=()
def tw4519843625771719049:=()
def tw4552297850161670181:=()
def tw456957293250024915:=()
def tw457452330495954696:=()
def tw4577645544053492073:=()
def tw4617843639224380896:=()
def tw4651659167779119949:=()
def tw4654638641072659703:=()
def tw4758951388047372031:=()
def tw4763488550158033365:=()
def tw4804205661179806226:=()
def tw4812145470741977856:=()
def tw4955105132060422339:=()
def tw5002847277714892664:=()
def tw5002878202489997234:=()
def tw5007296920594235972:=()
def tw5072630878657631658:=()
def tw5073875946516028858:=()
def tw5126932095526764454:=()
def tw5178015874174319877:=()
def tw5286675924999883828:=()
def tw5301779349722927496:=()
def tw5341572602322261847:=()
def tw5383965544899909847:=()
def tw5404781324848735081:=()
def tw5412715075727775002:=()
def tw5427017245670681874:=()
def tw5453097321862607090:=()
def tw5503585043312348290:=()
def tw554381135114206345:=()
def tw5549646958661197761:=()
def tw5557609327654724454:=()
def tw5578334377526541924:=()
def tw5584191204063843887:=()
def tw5610682642373262371:=()
def tw5620892944337787315:=()
def tw5624409967034105312:=()
def tw5707352546183058106:=()
def tw5709898844436239854:=()
def tw578719647386625821:=()
def tw5911097388488779994:=()
def tw5973388533164899830:=()
def tw5989527622289362968:=()
def tw6040737883424902883:=()
def tw6085081226423428870:=()
def tw6134432674182108452:=()
def tw6152837546938383661:=()
def tw6258174598571865093:=()
def tw6263835276300889426:=()
def tw6270196319155900374:=()
def tw6271062674066247098:=()
def tw6289703404213291391:=()
def tw6311057920701124051:=()
def tw6325153197409408287:=()
def tw6345644601743493743:=()
def tw6379633732606797289:=()
def tw6393427302649916726:=()
def tw640084954674686088:=()
def tw6422914591611311172:=()
def tw6428959015422136570:=()
def tw6433510462434602776:=()
def tw6517213704782170071:=()
def tw6559532278306096928:=()
def tw6561763808220970599:=()
def tw6566310218117635842:=()
def tw6597318884581431527:=()
def tw6618290628218826852:=()
def tw6631050807065547997:=()
def tw6639676590035853128:=()
def tw6661716289571887628:=()
def tw6721438196850718034:=()
def tw6727424541237413398:=()
def tw6803656881680857280:=()
def tw6820577352447440871:=()
def tw6837239180667971173:=()
def tw6866509437375033379:=()
def tw6877198767318540930:=()
def tw6887394810924990316:=()
def tw6968370127049903551:=()
def tw6969115424433396510:=()
def tw6980362972281937444:=()
def tw7016564742891077932:=()
def tw7036016958022824772:=()
def tw7078413716446914425:=()
def tw7086863261742083902:=()
def tw7108452174340147248:=()
def tw7112124110450879399:=()
def tw716108304087740284:=()
def tw7208649778837093435:=()
def tw7220375196068991821:=()
def tw7221653145129502990:=()
def tw7246678283735966982:=()
def tw7278011526378386493:=()
def tw7318457702615791548:=()
def tw7334119882740909788:=()
def tw7426655491282262219:=()
def tw744790869087447386:=()
def tw7551753237523792991:=()
def tw7583602613084118566:=()
def tw7623670711322775761:=()
def tw7638904338266762979:=()
def tw7660058004625241792:=()
def tw7661370801507542569:=()
def tw766402894588866515:=()
def tw7728164582596056218:=()
def tw7732048979546336258:=()
def tw7831672882186678559:=()
def tw7843702134559268630:=()
def tw7855708283078024495:=()
def tw7884089387076810137:=()
def tw7897691949995522421:=()
def tw7953038253792647354:=()
def tw7956356241032605609:=()
def tw8044624433043039342:=()
def tw8104146328489972813:=()
def tw8237556529737157400:=()
def tw8389410857642696878:=()
def tw8437125121315083420:=()
def tw8460297198613768930:=()
def tw8486203793444786985:=()
def tw8541422069607659840:=()
def tw8542894727549580905:=()
def tw8558779928771771146:=()
def tw8603340000933902334:=()
def tw8632129756708851693:=()
def tw8685972848032546618:=()
def tw8742566962837912593:=()
def tw8744884707883184101:=()
def tw8763848825862811290:=()
def tw8836703740047042829:=()
def tw8858891926279839818:=()
def tw8867125102794127395:=()
def tw887246669682901155:=()
def tw8958042572077451739:=()
def tw8975776101719074282:=()
def tw904428180199770340:=()
def tw9093146396088874056:=()
def tw9177264677253172242:=()
def tw9191648535405354791:=()
def tw9199403558714845201:=()
def tw9200637485122927888:=()
def tw9206756141677645027:=()
def tw9228452800684411956:=()
def tw9248618056331272361:=()
def tw9261032730737879876:=()
def tw9263731370296227342:=()
def tw9305589473019089633:=()
def tw9305998211713014122:=()
def tw9354081446111881857:=()
def tw9406739252430736394:=()
def tw9407529571749411299:=()
def tw9459936711069698804:=()
def tw952662602110579818:=()
def tw9531183311129417131:=()
def tw9575765223187275236:=()
def tw9655112025111292969:=()
def tw9667887362621219796:=()
def tw9668129597932840986:=()
def tw9668376139684282853:=()
def tw967091956966989327:=()
def tw9728937339337495271:=()
def tw9733689744991040847:=()
def tw9744521868715240218:=()
def tw977303310564336420:=()
def tw9776332452613844475:=()
def tw9782879473919536139:=()
def tw9805655351392891031:=()
def tw9932048967988817087:=()
def tw9934505864156270879:=()
end PySem.W.Fast
namespace K53
open PySem L2 G
theorem all_mk{l:PySem.W.OpenLaw}{w:World}{K:¨}{h:Heap}{mg:Str->Option Value}{fa C:Addr}(X:K.In h)(G:h.Ns mainGlobals mg)(hfa:mg "law" = some (.ref fa))
  {f1:Addr}{abP abQ:Option Addr}{abR:Array ⑦}{abS abT abU abV yM abW:Value}
  {f2:Addr}{abX abY:Option Addr}{sl2:Array ⑦}{abZ ab0 ab1 ab2 yN ab3:Value}
  {f3:Addr}{ab4 ab5:Option Addr}{ab6:Array ⑦}{ab7 ab8 ab9 acd yO ace:Value}
  {f4:Addr}{acf acg:Option Addr}{ach:Array ⑦}{aci acj acn aco yP acp:Value}
  {f5:Addr}{acq acr:Option Addr}{acs:Array ⑦}{acu acv acw acy yQ acz:Value}
  {f6:Addr}{acA acB:Option Addr}{acC:Array ⑦}{acD acE acF acG yR acH:Value}
  {f7:Addr}{acI acJ:Option Addr}{acK:Array ⑦}{acL acM acN acO yS acP:Value}
  {f8:Addr}{acQ acR:Option Addr}{acS:Array ⑦}{acT acU acV acW yU acX:Value}
  {f9:Addr}{acY acZ:Option Addr}{ac0:Array ⑦}{ac1 ac2 ac4 ac5 yV ac6:Value}
  {f10:Addr}{yX yZ:Option Addr}{za:Array ⑦}{zc zf zj zm vA zp:Value}
  {f11:Addr}{zq zu:Option Addr}{zx:Array ⑦}{zy zA zB zE vB zF:Value}
  {f12:Addr}{zG zH:Option Addr}{zJ:Array ⑦}{zK zL zM zN vC zO:Value}
  {f13:Addr}{zP zQ:Option Addr}{zR:Array ⑦}{zT zU zV zW vD zX:Value}
  {f14:Addr}{zY zZ:Option Addr}{aac:Array ⑦}{aad aae aaf aag vG aah:Value}
  {f15:Addr}{aai aaj:Option Addr}{aak:Array ⑦}{aal aam aan aao vH aap:Value}
  {f16:Addr}{aaq aar:Option Addr}{aas:Array ⑦}{aat aau aav aaw vI aax:Value}
  {f17:Addr}{aay aaz:Option Addr}{aaA:Array ⑦}{aaB aaC aaD aaE vJ aaF:Value}
  {f18:Addr}{aaG aaH:Option Addr}{aaI:Array ⑦}{aaJ aaK aaL aaM vK aaN:Value}
  {f19:Addr}{aaO aaP:Option Addr}{aaQ:Array ⑦}{aaR aaS aaT aaU vL aaV:Value}
  {f20:Addr}{aaW aaX:Option Addr}{aaY:Array ⑦}{aaZ aa0 aa1 aa2 vM aa3:Value}
  {f21:Addr}{aa4 aa5:Option Addr}{aa6:Array ⑦}{aa7 aa8 aa9 abb vN abd:Value}
  {f22:Addr}{abe abf:Option Addr}{abg:Array ⑦}{abh abj abk abl vO abm:Value}
  {f23:Addr}{abn abo:Option Addr}{abp:Array ⑦}{abq abr abt abu vP abv:Value}
  {f24:Addr}{abw abx:Option Addr}{aby:Array ⑦}{abz abA abB abC vQ abD:Value}
  (aC:PySem.W.nsIn K mainGlobals "Web" = some (some (.ref C)))
  (a1:® K (.ref C) "__init__" = some (some (.ref f1))) (i1:PySem.W.isFn K (.ref f1)=true) (l1:K.lookup f1=some ⟨abS,abP,.func (PySem.W.fnOf "__init__" "Web.__init__" (Ao FP) (Ak FP) (Ac FP) .none abT abU abV abQ yM abW),abR⟩) (c1:PySem.W.codeIn K yM "Web.__init__" = true) (k1:© K (.ref f1)=true)
  (a2:® K (.ref C) "size" = some (some (.ref f2))) (i2:PySem.W.isFn K (.ref f2)=true) (l2:K.lookup f2=some ⟨abZ,abX,.func (PySem.W.fnOf "size" "Web.size" (Ao Ng) (Ak Ng) (Ac Ng) .none ab0 ab1 ab2 abY yN ab3),sl2⟩) (c2:PySem.W.codeIn K yN "Web.size" = true) (k2:© K (.ref f2)=true)
  (a3:® K (.ref C) "ties" = some (some (.ref f3))) (i3:PySem.W.isFn K (.ref f3)=true) (l3:K.lookup f3=some ⟨ab7,ab4,.func (PySem.W.fnOf "ties" "Web.ties" (Ao Mu) (Ak Mu) (Ac Mu) .none ab8 ab9 acd ab5 yO ace),ab6⟩) (c3:PySem.W.codeIn K yO "Web.ties" = true) (k3:© K (.ref f3)=true)
  (a4:® K (.ref C) "at" = some (some (.ref f4))) (i4:PySem.W.isFn K (.ref f4)=true) (l4:K.lookup f4=some ⟨aci,acf,.func (PySem.W.fnOf "at" "Web.at" (Ao sAt) (Ak sAt) (Ac sAt) .none acj acn aco acg yP acp),ach⟩) (c4:PySem.W.codeIn K yP "Web.at" = true) (k4:© K (.ref f4)=true)
  (a5:PySem.W.nsIn K mainGlobals "refuse_amounts" = some (some (.ref f5))) (l5:K.lookup f5=some ⟨acu,acq,.func (PySem.W.fnOf "refuse_amounts" "refuse_amounts" (Ao XC) (Ak XC) (Ac XC) .none acv acw acy acr yQ acz),acs⟩) (c5:PySem.W.codeIn K yQ "refuse_amounts" = true) (k5:© K (.ref f5)=true)
  (a6:PySem.W.nsIn K mainGlobals "checked_ties" = some (some (.ref f6))) (l6:K.lookup f6=some ⟨acD,acA,.func (PySem.W.fnOf "checked_ties" "checked_ties" (Ao XM) (Ak XM) (Ac XM) .none acE acF acG acB yR acH),acC⟩) (c6:PySem.W.codeIn K yR "checked_ties" = true) (k6:© K (.ref f6)=true)
  (a7:PySem.W.nsIn K mainGlobals "refuse_points" = some (some (.ref f7))) (l7:K.lookup f7=some ⟨acL,acI,.func (PySem.W.fnOf "refuse_points" "refuse_points" (Ao Xu) (Ak Xu) (Ac Xu) .none acM acN acO acJ yS acP),acK⟩) (c7:PySem.W.codeIn K yS "refuse_points" = true) (k7:© K (.ref f7)=true)
  (a8:PySem.W.nsIn K mainGlobals "tie_counts" = some (some (.ref f8))) (l8:K.lookup f8=some ⟨acT,acQ,.func (PySem.W.fnOf "tie_counts" "tie_counts" (Ao Fi) (Ak Fi) (Ac Fi) .none acU acV acW acR yU acX),acS⟩) (c8:PySem.W.codeIn K yU "tie_counts" = true) (k8:© K (.ref f8)=true)
  (a9:PySem.W.nsIn K mainGlobals "ties_within" = some (some (.ref f9))) (l9:K.lookup f9=some ⟨ac1,acY,.func (PySem.W.fnOf "ties_within" "ties_within" (Ao Fd) (Ak Fd) (Ac Fd) .none ac2 ac4 ac5 acZ yV ac6),ac0⟩) (c9:PySem.W.codeIn K yV "ties_within" = true) (k9:© K (.ref f9)=true)
  (a10:PySem.W.nsIn K mainGlobals "_law_cell" = some (some (.ref f10))) (l10:K.lookup f10=some ⟨zc,yX,.func (PySem.W.fnOf "_law_cell" "_law_cell" (Ao Oq) (Ak Oq) (Ac Oq) .none zf zj zm yZ vA zp),za⟩) (c10:PySem.W.codeIn K vA "_law_cell" = true) (k10:© K (.ref f10)=true)
  (a11:PySem.W.nsIn K mainGlobals "_law_mixed" = some (some (.ref f11))) (l11:K.lookup f11=some ⟨zy,zq,.func (PySem.W.fnOf "_law_mixed" "_law_mixed" (Ao Xf) (Ak Xf) (Ac Xf) .none zA zB zE zu vB zF),zx⟩) (c11:PySem.W.codeIn K vB "_law_mixed" = true) (k11:© K (.ref f11)=true)
  (a12:PySem.W.nsIn K mainGlobals "_law_web" = some (some (.ref f12))) (l12:K.lookup f12=some ⟨zK,zG,.func (PySem.W.fnOf "_law_web" "_law_web" (Ao Yi) (Ak Yi) (Ac Yi) .none zL zM zN zH vC zO),zJ⟩) (c12:PySem.W.codeIn K vC "_law_web" = true) (k12:© K (.ref f12)=true)
  (a13:PySem.W.nsIn K mainGlobals "_law_some" = some (some (.ref f13))) (l13:K.lookup f13=some ⟨zT,zP,.func (PySem.W.fnOf "_law_some" "_law_some" (Ao Nt) (Ak Nt) (Ac Nt) .none zU zV zW zQ vD zX),zR⟩) (c13:PySem.W.codeIn K vD "_law_some" = true) (k13:© K (.ref f13)=true)
  (a14:PySem.W.nsIn K mainGlobals "_law_draws" = some (some (.ref f14))) (l14:K.lookup f14=some ⟨aad,zY,.func (PySem.W.fnOf "_law_draws" "_law_draws" (Ao Mv) (Ak Mv) (Ac Mv) .none aae aaf aag zZ vG aah),aac⟩) (c14:PySem.W.codeIn K vG "_law_draws" = true) (k14:© K (.ref f14)=true)
  (a15:PySem.W.nsIn K mainGlobals "least_graph" = some (some (.ref f15))) (l15:K.lookup f15=some ⟨aal,aai,.func (PySem.W.fnOf "least_graph" "least_graph" (Ao K53s.Fv) (Ak K53s.Fv) (Ac K53s.Fv) .none aam aan aao aaj vH aap),aak⟩) (c15:PySem.W.codeIn K vH "least_graph" = true) (k15:© K (.ref f15)=true)
  (a16:PySem.W.nsIn K mainGlobals "reached_knots" = some (some (.ref f16))) (l16:K.lookup f16=some ⟨aat,aaq,.func (PySem.W.fnOf "reached_knots" "reached_knots" (Ao K53s.Hg) (Ak K53s.Hg) (Ac K53s.Hg) .none aau aav aaw aar vI aax),aas⟩) (c16:PySem.W.codeIn K vI "reached_knots" = true) (k16:© K (.ref f16)=true)
  (a17:PySem.W.nsIn K mainGlobals "row_in_places" = some (some (.ref f17))) (l17:K.lookup f17=some ⟨aaB,aay,.func (PySem.W.fnOf "row_in_places" "row_in_places" (Ao K53s.sIn) (Ak K53s.sIn) (Ac K53s.sIn) .none aaC aaD aaE aaz vJ aaF),aaA⟩) (c17:PySem.W.codeIn K vJ "row_in_places" = true) (k17:© K (.ref f17)=true)
  (a18:PySem.W.nsIn K mainGlobals "grown" = some (some (.ref f18))) (l18:K.lookup f18=some ⟨aaJ,aaG,.func (PySem.W.fnOf "grown" "grown" (Ao JQ) (Ak JQ) (Ac JQ) .none aaK aaL aaM aaH vK aaN),aaI⟩) (c18:PySem.W.codeIn K vK "grown" = true) (k18:© K (.ref f18)=true)
  (a19:PySem.W.nsIn K mainGlobals "points_behind" = some (some (.ref f19))) (l19:K.lookup f19=some ⟨aaR,aaO,.func (PySem.W.fnOf "points_behind" "points_behind" (Ao Fp) (Ak Fp) (Ac Fp) .none aaS aaT aaU aaP vL aaV),aaQ⟩) (c19:PySem.W.codeIn K vL "points_behind" = true) (k19:© K (.ref f19)=true)
  (a20:PySem.W.nsIn K mainGlobals "_law_led" = some (some (.ref f20))) (l20:K.lookup f20=some ⟨aaZ,aaW,.func (PySem.W.fnOf "_law_led" "_law_led" (Ao Yh) (Ak Yh) (Ac Yh) .none aa0 aa1 aa2 aaX vM aa3),aaY⟩) (c20:PySem.W.codeIn K vM "_law_led" = true) (k20:© K (.ref f20)=true)
  (a21:PySem.W.nsIn K mainGlobals "_law_is_knot" = some (some (.ref f21))) (l21:K.lookup f21=some ⟨aa7,aa4,.func (PySem.W.fnOf "_law_is_knot" "_law_is_knot" (Ao Gz) (Ak Gz) (Ac Gz) .none aa8 aa9 abb aa5 vN abd),aa6⟩) (c21:PySem.W.codeIn K vN "_law_is_knot" = true) (k21:© K (.ref f21)=true)
  (a22:PySem.W.nsIn K mainGlobals "_law_is_least" = some (some (.ref f22))) (l22:K.lookup f22=some ⟨abh,abe,.func (PySem.W.fnOf "_law_is_least" "_law_is_least" (Ao Eb) (Ak Eb) (Ac Eb) .none abj abk abl abf vO abm),abg⟩) (c22:PySem.W.codeIn K vO "_law_is_least" = true) (k22:© K (.ref f22)=true)
  (a23:PySem.W.nsIn K mainGlobals "_law_fits" = some (some (.ref f23))) (l23:K.lookup f23=some ⟨abq,abn,.func (PySem.W.fnOf "_law_fits" "_law_fits" (Ao El) (Ak El) (Ac El) .none abr abt abu abo vP abv),abp⟩) (c23:PySem.W.codeIn K vP "_law_fits" = true) (k23:© K (.ref f23)=true)
  (a24:PySem.W.nsIn K mainGlobals "law" = some (some (.ref f24))) (l24:K.lookup f24=some ⟨abz,abw,.func (PySem.W.fnOf "law" "law" (Ao Fq) (Ak Fq) (Ac Fq) .none abA abB abC abx vQ abD),aby⟩) (c24:PySem.W.codeIn K vQ "law" = true) (k24:© K (.ref f24)=true)
  (pg:PySem.W.plainGet K C Str.empty=true) (hd:PySem.W.hasDictIn K C=true) (po:PySem.W.plainOver K C=true) (sa:® K (.ref C) "__setattr__" = some (some (.builtin "object.__setattr__"))) (mk:PySem.W.makesIn K C=true) (kc:© K (.ref C)=true)
  (n0:® K (.ref C) "amount" = some none)
  (n1:® K (.ref C) "joints" = some none)
  {t0:Tok} (v0:PySem.W.nsIn K mainGlobals "MOST_POINTS" = some (some (.int 10 t0)))
  {t1:Tok} (v1:PySem.W.nsIn K mainGlobals "MOST_TIES" = some (some (.int 12 t1)))
  {t2:Tok} (v2:PySem.W.nsIn K mainGlobals "SEVERAL" = some (some (.int 2 t2)))
  (z0:PySem.W.nsIn K mainGlobals "len" = some none)
  (z1:PySem.W.nsIn K mainGlobals "range" = some none)
  (z2:PySem.W.nsIn K mainGlobals "int" = some none)
  (z3:PySem.W.nsIn K mainGlobals "max" = some none)
  (z4:PySem.W.nsIn K mainGlobals "min" = some none)
  (z5:PySem.W.nsIn K mainGlobals "sorted" = some none)
  (z6:PySem.W.nsIn K mainGlobals "tuple" = some none)
  (z7:PySem.W.nsIn K mainGlobals "list" = some none)
  (z8:PySem.W.nsIn K mainGlobals "bool" = some none)
  (z9:PySem.W.nsIn K mainGlobals "enumerate" = some none)
  (z10:PySem.W.nsIn K mainGlobals "isinstance" = some none)
  {D:Addr} (vR:PySem.W.nsIn K mainGlobals "Pairs" = some (some (.ref D)))
  (cI:PySem.W.plainGet K D Str.empty=true)
  (cJ:PySem.W.hasDictIn K D=true)
  (cL:PySem.W.plainOver K D=true)
  (cM:® K (.ref D) "__setattr__" = some (some (.builtin "object.__setattr__")))
  (oY:PySem.W.makesIn K D=true)
  (oZ:© K (.ref D)=true)
  (vU:® K (.ref D) "__class__" = some (some (.builtin "object.__class__")))
  (vV:PySem.W.specialIn K (.builtin "object.__class__") "__get__" = some (some (.builtin "getset_descriptor.__get__")))
  (vW:PySem.W.takesIn K (.builtin "object.__class__")=some true)
  (vX:PySem.W.mroIn K D (.type "object")=some true)
  (vY:PySem.W.kitOne K (.ref D) (.ref D)=some true)
  {Dc:Addr} (pA:PySem.W.nsIn K mainGlobals "Covers" = some (some (.ref Dc)))
  (gJ:PySem.W.plainGet K Dc Str.empty=true)
  (gK:PySem.W.hasDictIn K Dc=true)
  (gM:PySem.W.plainOver K Dc=true)
  (gO:® K (.ref Dc) "__setattr__" = some (some (.builtin "object.__setattr__")))
  (jU:PySem.W.makesIn K Dc=true)
  (jV:© K (.ref Dc)=true)
  (rO:® K (.ref Dc) "__class__" = some (some (.builtin "object.__class__")))
  (rP:PySem.W.specialIn K (.builtin "object.__class__") "__get__" = some (some (.builtin "getset_descriptor.__get__")))
  (rQ:PySem.W.takesIn K (.builtin "object.__class__")=some true)
  (rR:PySem.W.mroIn K Dc (.type "object")=some true)
  (rT:PySem.W.kitOne K (.ref Dc) (.ref Dc)=some true)
  {Sv:Addr} (pC:PySem.W.nsIn K mainGlobals "Sieve" = some (some (.ref Sv)))
  (jW:PySem.W.plainGet K Sv Str.empty=true)
  (jX:PySem.W.hasDictIn K Sv=true)
  (jY:PySem.W.plainOver K Sv=true)
  (jZ:® K (.ref Sv) "__setattr__" = some (some (.builtin "object.__setattr__")))
  (j4:PySem.W.makesIn K Sv=true)
  (j5:© K (.ref Sv)=true)
  (j6:® K (.ref Sv) "__class__" = some (some (.builtin "object.__class__")))
  (j7:PySem.W.specialIn K (.builtin "object.__class__") "__get__" = some (some (.builtin "getset_descriptor.__get__")))
  (j8:PySem.W.takesIn K (.builtin "object.__class__")=some true)
  (j9:PySem.W.mroIn K Sv (.type "object")=some true)
  (kh:PySem.W.kitOne K (.ref Sv) (.ref Sv)=some true)
  {Gw:Addr} (pD:PySem.W.nsIn K mainGlobals "Growth" = some (some (.ref Gw)))
  (kj:PySem.W.plainGet K Gw Str.empty=true)
  (kJ:PySem.W.hasDictIn K Gw=true)
  (kY:PySem.W.plainOver K Gw=true)
  (kZ:® K (.ref Gw) "__setattr__" = some (some (.builtin "object.__setattr__")))
  (gP:PySem.W.makesIn K Gw=true)
  (gQ:© K (.ref Gw)=true)
  (rW:® K (.ref Gw) "__class__" = some (some (.builtin "object.__class__")))
  (rY:PySem.W.specialIn K (.builtin "object.__class__") "__get__" = some (some (.builtin "getset_descriptor.__get__")))
  (rZ:PySem.W.takesIn K (.builtin "object.__class__")=some true)
  (sG:PySem.W.mroIn K Gw (.type "object")=some true)
  (sI:PySem.W.kitOne K (.ref Gw) (.ref Gw)=some true)
  (nF_D:® K (.ref D) "full" = some none)
  (lg:® K (.ref Dc) "__init__" = some (some (.builtin "object.__init__")))
  (gU:PySem.W.nsIn K mainGlobals "all" = some none)
  (lq:PySem.W.nsIn K mainGlobals "set" = some none)
  (aQ:PySem.W.nsIn K mainGlobals "reversed" = some none)
  (cN:® K (.ref Sv) "amount" = some none)
  (gZ:® K (.ref Sv) "rows" = some none)
  (g8:® K (.ref Sv) "head" = some none)
  (lu:® K (.ref Gw) "web" = some none)
  (iu:® K (.ref Gw) "rule" = some none)
  (cO:® K (.ref Gw) "amount" = some none)
  (cP:® K (.ref Gw) "behind" = some none)
  (iw:® K (.ref Gw) "rows" = some none)
  (dY:® K (.ref Gw) "known" = some none)
  {lC dt:Addr}{xG xH xJ:Option Addr}{xK xM:Array ⑦}{xO xP xQ xR sJ xT xU:Value}{n_dt:Nat} (pF:® K (.ref D) "__init__" = some (some (.ref lC)))
  (pG:PySem.W.isFn K (.ref lC)=true)
  (pH:K.lookup lC=some ⟨xO,xG,.func (PySem.W.fnOf "__init__" "Pairs.__init__" (Ao JC) (Ak JC) (Ac JC) (.ref dt) xP xQ xR xH sJ xT),xK⟩)
  (pI:PySem.W.codeIn K sJ "Pairs.__init__" = true)
  (d_ip:K.lookup dt=some ⟨xU,xJ,.seq #[.bool false] n_dt,xM⟩)
  {aA:Addr}{lU lV:Option Addr}{lW:Array ⑦}{lX lY lZ mj gw mq:Value} (cQ:® K (.ref D) "allows" = some (some (.ref aA)))
  (cR:PySem.W.isFn K (.ref aA)=true)
  (cT:K.lookup aA=some ⟨lX,lU,.func (PySem.W.fnOf "allows" "Pairs.allows" (Ao Gq) (Ak Gq) (Ac Gq) .none lY lZ mj lV gw mq),lW⟩)
  (cU:PySem.W.codeIn K gw "Pairs.allows" = true)
  (aR:© K (.ref aA)=true)
  {aq:Addr}{lD lE:Option Addr}{lF:Array ⑦}{lG lH lJ lK dH lM:Value} (aZ:® K (.ref Dc) "allows" = some (some (.ref aq)))
  (bf:PySem.W.isFn K (.ref aq)=true)
  (bw:K.lookup aq=some ⟨lG,lD,.func (PySem.W.fnOf "allows" "Covers.allows" (Ao FN) (Ak FN) (Ac FN) .none lH lJ lK lE dH lM),lF⟩)
  (bx:PySem.W.codeIn K dH "Covers.allows" = true)
  (aG:© K (.ref aq)=true)
  {au:Addr}{tK tL:Option Addr}{tM:Array ⑦}{tO tQ tR tU jz tV:Value} (iz:® K (.ref D) "fits" = some (some (.ref au)))
  (dI:PySem.W.isFn K (.ref au)=true)
  (iC:K.lookup au=some ⟨tO,tK,.func (PySem.W.fnOf "fits" "TiedPoints.fits" (Ao Kp) (Ak Kp) (Ac Kp) .none tQ tR tU tL jz tV),tM⟩)
  (iD:PySem.W.codeIn K jz "TiedPoints.fits" = true)
  (bH:© K (.ref au)=true)
  (a2_fits:® K (.ref Dc) "fits" = some (some (.ref au)))
  {ak:Addr}{pJ pK:Option Addr}{pL:Array ⑦}{pN pO pP pQ iG pR:Value} (dZ:® K (.ref D) "begun" = some (some (.ref ak)))
  (cj:PySem.W.isFn K (.ref ak)=true)
  (d7:K.lookup ak=some ⟨pN,pJ,.func (PySem.W.fnOf "begun" "TiedPoints.begun" (Ao JV) (Ak JV) (Ac JV) .none pO pP pQ pK iG pR),pL⟩)
  (d8:PySem.W.codeIn K iG "TiedPoints.begun" = true)
  (aH:© K (.ref ak)=true)
  (a2_begun:® K (.ref Dc) "begun" = some (some (.ref ak)))
  {ao:Addr}{pU pW:Option Addr}{pX:Array ⑦}{pY pZ p7 p8 iH qd:Value} (d9:® K (.ref D) "taken" = some (some (.ref ao)))
  (cu:PySem.W.isFn K (.ref ao)=true)
  (eE:K.lookup ao=some ⟨pY,pU,.func (PySem.W.fnOf "taken" "TiedPoints.taken" (Ao HX) (Ak HX) (Ac HX) .none pZ p7 p8 pW iH qd),pX⟩)
  (eF:PySem.W.codeIn K iH "TiedPoints.taken" = true)
  (aJ:© K (.ref ao)=true)
  (a2_taken:® K (.ref Dc) "taken" = some (some (.ref ao)))
  {aj:Addr}{mz mH:Option Addr}{mJ:Array ⑦}{mQ mV mX mZ gA m5:Value} (cV:® K (.ref D) "passed" = some (some (.ref aj)))
  (aU:PySem.W.isFn K (.ref aj)=true)
  (cW:K.lookup aj=some ⟨mQ,mz,.func (PySem.W.fnOf "passed" "TiedPoints.passed" (Ao FZ) (Ak FZ) (Ac FZ) .none mV mX mZ mH gA m5),mJ⟩)
  (cX:PySem.W.codeIn K gA "TiedPoints.passed" = true)
  (aB:© K (.ref aj)=true)
  (a2_passed:® K (.ref Dc) "passed" = some (some (.ref aj)))
  {aV:Addr}{vZ v7:Option Addr}{v8:Array ⑦}{v9 wg wj wk m7 wu:Value} (lN:® K (.ref D) "fulfilled" = some (some (.ref aV)))
  (gW:PySem.W.isFn K (.ref aV)=true)
  (lO:K.lookup aV=some ⟨v9,vZ,.func (PySem.W.fnOf "fulfilled" "TiedPoints.fulfilled" (Ao YT) (Ak YT) (Ac YT) .none wg wj wk v7 m7 wu),v8⟩)
  (lQ:PySem.W.codeIn K m7 "TiedPoints.fulfilled" = true)
  (dJ:© K (.ref aV)=true)
  (a2_ful:® K (.ref Dc) "fulfilled" = some (some (.ref aV)))
  {aD:Addr}{tW tX:Option Addr}{tY:Array ⑦}{tZ uc ud uf jA ug:Value} (iI:® K (.ref D) "left" = some (some (.ref aD)))
  (dM:PySem.W.isFn K (.ref aD)=true)
  (iJ:K.lookup aD=some ⟨tZ,tW,.func (PySem.W.fnOf "left" "Rule.left" (Ao Nu) (Ak Nu) (Ac Nu) .none uc ud uf tX jA ug),tY⟩)
  (iK:PySem.W.codeIn K jA "Rule.left" = true)
  (bJ:© K (.ref aD)=true)
  (a2_left:® K (.ref Dc) "left" = some (some (.ref aD)))
  {aK:Addr}{qe qg:Option Addr}{qj:Array ⑦}{qm qp qt qu iM qw:Value} (cB:® K (.ref Sv) "__init__" = some (some (.ref aK)))
  (cC:PySem.W.isFn K (.ref aK)=true)
  (eG:K.lookup aK=some ⟨qm,qe,.func (PySem.W.fnOf "__init__" "Sieve.__init__" (Ao K53s.FP) (Ak K53s.FP) (Ac K53s.FP) .none qp qt qu qg iM qw),qj⟩)
  (eO:PySem.W.codeIn K iM "Sieve.__init__" = true)
  (cD:© K (.ref aK)=true)
  {aL:Addr}{qy qz:Option Addr}{qC:Array ⑦}{qD qF qG qH iQ qI:Value} (eU:® K (.ref Sv) "knots" = some (some (.ref aL)))
  (eV:PySem.W.isFn K (.ref aL)=true)
  (eX:K.lookup aL=some ⟨qD,qy,.func (PySem.W.fnOf "knots" "Sieve.knots" (Ao K53s.JD) (Ak K53s.JD) (Ac K53s.JD) .none qF qG qH qz iQ qI),qC⟩)
  (fj:PySem.W.codeIn K iQ "Sieve.knots" = true)
  (cF:© K (.ref aL)=true)
  {bQ:Addr}{uh uo:Option Addr}{uq:Array ⑦}{ur uw uy uz jB uD:Value} (iR:® K (.ref Sv) "top" = some (some (.ref bQ)))
  (iT:PySem.W.isFn K (.ref bQ)=true)
  (iU:K.lookup bQ=some ⟨ur,uh,.func (PySem.W.fnOf "top" "Sieve.top" (Ao K53s.Xx) (Ak K53s.Xx) (Ac K53s.Xx) .none uw uy uz uo jB uD),uq⟩)
  (iV:PySem.W.codeIn K jB "Sieve.top" = true)
  (dO:© K (.ref bQ)=true)
  {aM:Addr}{qJ qK:Option Addr}{qL:Array ⑦}{qM qN qO qP iW qQ:Value} (fH:® K (.ref Sv) "many" = some (some (.ref aM)))
  (fJ:PySem.W.isFn K (.ref aM)=true)
  (fQ:K.lookup aM=some ⟨qM,qJ,.func (PySem.W.fnOf "many" "Sieve.many" (Ao K53s.Ms) (Ak K53s.Ms) (Ac K53s.Ms) .none qN qO qP qK iW qQ),qL⟩)
  (fV:PySem.W.codeIn K iW "Sieve.many" = true)
  (cG:© K (.ref aM)=true)
  {aN:Addr}{qR qT:Option Addr}{qU:Array ⑦}{qW qX qY qZ iY rm:Value} (aO:® K (.ref Gw) "__init__" = some (some (.ref aN)))
  (aP:PySem.W.isFn K (.ref aN)=true)
  (fX:K.lookup aN=some ⟨qW,qR,.func (PySem.W.fnOf "__init__" "Growth.__init__" (Ao Hf) (Ak Hf) (Ac Hf) .none qX qY qZ qT iY rm),qU⟩)
  (fZ:PySem.W.codeIn K iY "Growth.__init__" = true)
  (cH:© K (.ref aN)=true)
  {aF:Addr}{m8 m9:Option Addr}{nq:Array ⑦}{nu nC nG nM gF nO:Value} (cY:® K (.ref Gw) "knot_at" = some (some (.ref aF)))
  (cZ:PySem.W.isFn K (.ref aF)=true)
  (dh:K.lookup aF=some ⟨nu,m8,.func (PySem.W.fnOf "knot_at" "Growth.knot_at" (Ao FW) (Ak FW) (Ac FW) .none nC nG nM m9 gF nO),nq⟩)
  (dj:PySem.W.codeIn K gF "Growth.knot_at" = true)
  (aW:© K (.ref aF)=true)
  {bV:Addr}{uE uF:Option Addr}{uG:Array ⑦}{uH uI uJ uK jC uL:Value} (iZ:® K (.ref Gw) "past_points" = some (some (.ref bV)))
  (jc:PySem.W.isFn K (.ref bV)=true)
  (jd:K.lookup bV=some ⟨uH,uE,.func (PySem.W.fnOf "past_points" "Growth.past_points" (Ao Nk) (Ak Nk) (Ac Nk) .none uI uJ uK uF jC uL),uG⟩)
  (je:PySem.W.codeIn K jC "Growth.past_points" = true)
  (dR:© K (.ref bV)=true) :
  ∃ fd:FuncData,(∀(s:Shared) (v:Value),BindsTo s fd ⟨[v],[]⟩ [("_law_script",v)])/\∀ base:Heap,K.In base->base.Ns mainGlobals mg->FnOk l.prog w K mg base CX0 18 fa fd ["_law_script"] (Rp K):=by
 h e:=hfa.symm.trans (PySem.W.mg_of X G a24);cases e;h nP:=BJ (st:=FP) l1 c1 k1;h wz:=nP.binds (ps:=["self", "many", "ties"]) (bn3 fun _ _ _ _ _ _ _ _ _=>rfl);h ac7:Meth K C "__init__" f1:=⟨a1,i1,k1⟩;h ac8:=k1;h nQ:=BJ (st:=Ng) l2 c2 k2;h jf:=nQ.binds (ps:=["self"]) (bn1 fun _ _ _ _ _ _ _=>rfl);h m_size:Meth K C "size" f2:=⟨a2,i2,k2⟩;h k_size:=k2;h nT:=BJ (st:=Mu) l3 c3 k3;h dU:=nT.binds (ps:=["self"]) (bn1 fun _ _ _ _ _ _ _=>rfl);h dX:Meth K C "ties" f3:=⟨a3,i3,k3⟩;h ac9:=k3;h wA:=BJ (st:=sAt) l4 c4 k4;h wB:=wA.binds (ps:=["self", "point"]) (bn2 fun _ _ _ _ _ _ _ _=>rfl);h wC:Meth K C "at" f4:=⟨a4,i4,k4⟩;h adh:=k4;h sO:=BJ (st:=XC) l5 c5 k5;h xV:=sO.binds (ps:=["points", "ties"]) (bn2 fun _ _ _ _ _ _ _ _=>rfl);h xW:=PySem.W.mg_of X G a5;h xX:=k5;h sU:=BJ (st:=XM) l6 c6 k6;h xY:=sU.binds (ps:=["many", "ties"]) (bn2 fun _ _ _ _ _ _ _ _=>rfl);h xZ:=PySem.W.mg_of X G a6;h yc:=k6;h sV:=BJ (st:=Xu) l7 c7 k7;h yd:=sV.binds (ps:=["many", "tie"]) (bn2 fun _ _ _ _ _ _ _ _=>rfl);h yg:=PySem.W.mg_of X G a7;h yh:=k7;h jg:=BJ (st:=Fi) l8 c8 k8;h ji:=jg.binds (ps:=["web", "some"]) (bn2 fun _ _ _ _ _ _ _ _=>rfl);h jk:=PySem.W.mg_of X G a8;h jo:=k8;h jq:=BJ (st:=Fd) l9 c9 k9;h rB:=jq.binds (ps:=["numbers", "some"]) (bn2 fun _ _ _ _ _ _ _ _=>rfl);h rC:=PySem.W.mg_of X G a9;h rD:=k9;h nZ:=BJ (st:=Oq) l10 c10 k10;h n6:=nZ.binds (ps:=["_law_script", "_law_k"]) (bn2 fun _ _ _ _ _ _ _ _=>rfl);h oh:=PySem.W.mg_of X G a10;h ou:=k10;h sW:=BJ (st:=Xf) l11 c11 k11;h yj:=sW.binds (ps:=["_law_cell_here", "_law_k"]) (bn2 fun _ _ _ _ _ _ _ _=>rfl);h yp:=PySem.W.mg_of X G a11;h yq:=k11;h sX:=BJ (st:=Yi) l12 c12 k12;h yr:=sX.binds (ps:=["_law_script", "_law_at"]) (bn2 fun _ _ _ _ _ _ _ _=>rfl);h yt:=PySem.W.mg_of X G a12;h yu:=k12;h oA:=BJ (st:=Nt) l13 c13 k13;h wD:=oA.binds (ps:=["_law_cell_here", "_law_n"]) (bn2 fun _ _ _ _ _ _ _ _=>rfl);h wF:=PySem.W.mg_of X G a13;h wG:=k13;h oE:=BJ (st:=Mv) l14 c14 k14;h wH:=oE.binds (ps:=["_law_cell_here", "_law_many", "_law_most"]) (bn3 fun _ _ _ _ _ _ _ _ _=>rfl);h wI:=PySem.W.mg_of X G a14;h wJ:=k14;h jD:=BJ (st:=K53s.Fv) l15 c15 k15;h jE:=jD.binds (ps:=["n", "rows", "top"]) (bn3 fun _ _ _ _ _ _ _ _ _=>rfl);h jF:=PySem.W.mg_of X G a15;h jG:=k15;h jH:=BJ (st:=K53s.Hg) l16 c16 k16;h uM:=jH.binds (ps:=["rows", "top"]) (bn2 fun _ _ _ _ _ _ _ _=>rfl);h uN:=PySem.W.mg_of X G a16;h uO:=k16;h wK:=BJ (st:=K53s.sIn) l17 c17 k17;h abE:=wK.binds (ps:=["places", "row"]) (bn2 fun _ _ _ _ _ _ _ _=>rfl);h abF:=PySem.W.mg_of X G a17;h k_in:=k17;h gj:=BJ (st:=JQ) l18 c18 k18;h uQ:=gj.binds (ps:=["web", "rule"]) (bn2 fun _ _ _ _ _ _ _ _=>rfl);h uR:=PySem.W.mg_of X G a18;h uT:=k18;h oF:=BJ (st:=Fp) l19 c19 k19;h wL:=oF.binds (ps:=["web", "number"]) (bn2 fun _ _ _ _ _ _ _ _=>rfl);h wM:=PySem.W.mg_of X G a19;h wN:=k19;h sY:=BJ (st:=Yh) l20 c20 k20;h yw:=sY.binds (ps:=["_law_knots", "_law_top", "_law_some_here"]) (bn3 fun _ _ _ _ _ _ _ _ _=>rfl);h yx:=PySem.W.mg_of X G a20;h yC:=k20;h jr:=BJ (st:=Gz) l21 c21 k21;h rE:=jr.binds (ps:=["_law_knots", "_law_k", "_law_n"]) (bn3 fun _ _ _ _ _ _ _ _ _=>rfl);h rF:=PySem.W.mg_of X G a21;h rG:=k21;h gG:=BJ (st:=Eb) l22 c22 k22;h oG:=gG.binds (ps:=["_law_knots", "_law_top", "_law_n"]) (bn3 fun _ _ _ _ _ _ _ _ _=>rfl);h oH:=PySem.W.mg_of X G a22;h oJ:=k22;h jJ:=BJ (st:=El) l23 c23 k23;h uU:=jJ.binds (ps:=["_law_points", "_law_ties", "_law_some_here"]) (bn3 fun _ _ _ _ _ _ _ _ _=>rfl);h uV:=PySem.W.mg_of X G a23;h uW:=k23;h tu:=BJ (st:=Fq) l24 c24 k24;h ade:=tu.binds (ps:=["_law_script"]) (bn1 fun _ _ _ _ _ _ _=>rfl);h adf:=PySem.W.mg_of X G a24;h adg:=k24;h law_all:∀ base:Heap,FnOk l.prog w K mg base CX0 18 _ _ ["_law_script"] (Rp K):=fun base=>by
  h T:Txt K mg C:=⟨⟨pg,hd,po,sa⟩,n0,n1,PySem.W.mg_of X G aC,⟨_,PySem.W.mg_of X G v0⟩,⟨_,PySem.W.mg_of X G v1⟩,PySem.W.mg_none_of X G z0,PySem.W.mg_none_of X G z1,PySem.W.mg_none_of X G z2,PySem.W.mg_none_of X G z3,PySem.W.mg_none_of X G z4,PySem.W.mg_none_of X G z5,PySem.W.mg_none_of X G z6,PySem.W.mg_none_of X G z7,PySem.W.mg_none_of X G z8,PySem.W.mg_none_of X G z9,PySem.W.mg_none_of X G z10⟩;h tD:=ABh (P:=l.prog) (w:=w) (base:=base) nZ T;h abG:=ADa (P:=l.prog) (w:=w) (mg:=mg) (base:=base) sW;h yD:=ABZ oE T abG yj yq yp;h abH:=AEM sX T tD n6 ou oh yD wH wJ wI;h abI:=ADo (P:=l.prog) (w:=w) (base:=base) sO T;h abJ:=ADl (P:=l.prog) (w:=w) (mg:=mg) (base:=base) sV;h abK:=AEI sU T abJ yd yh yg;h yE:=Hr nP T abI xV xX xW abK xY yc xZ;h lR:=ACk (P:=l.prog) (w:=w) (base:=base) nQ T;h gY:=ABl (P:=l.prog) (w:=w) (base:=base) nT T;h yW:=AEn (P:=l.prog) (w:=w) (base:=base) wA T;h uX:=Yk (P:=l.prog) (w:=w) (mg:=mg) (base:=base) jq;h jK:=Wt jg T lR jf m_size yW wB wC uX rB rD rC;h yF:=ABe (P:=l.prog) (w:=w) (base:=base) oA T;h rH:FunD K "__init__" "Pairs.__init__" JC lC _ dt #[.bool false]:=⟨⟨_,_,_,_,_,_,_,_,_,rfl,pH,pI⟩,⟨_,_,_,_,d_ip⟩⟩;h yG:Binds K _ ["self", "full"] [.bool false]:=rH.binds fun _ _ _ _ _ _ us hl=>match us,hl with | [_],_=>⟨_,rfl,rfl⟩ | [],h=>by simp at h | _::_::_,h=>by simp at h
  h abL:KBinds K _ ["self", "full"] ["full"] g11 g11:=rH.kbinds fun _ _ _ _ _ _ _ _=>⟨_,rfl,rfl⟩;h jt:=BJ (st:=Gq) cT cU aR;h dz:=jt.binds (ps:=["self", "count"]) (bn2 fun _ _ _ _ _ _ _ _=>rfl);h dB:Meth K D "allows" aA:=⟨cQ,cR,aR⟩;h gH:=BJ (st:=FN) bw bx aG;h bZ:=gH.binds (ps:=["self", "count"]) (bn2 fun _ _ _ _ _ _ _ _=>rfl);h cg:Meth K Dc "allows" aq:=⟨aZ,bf,aG⟩;h ju:=BJ (st:=Kp) iC iD bH;h wO:=ju.binds (ps:=["self", "web", "some"]) (bn3 fun _ _ _ _ _ _ _ _ _=>rfl);h oK:Meth K D "fits" au:=⟨iz,dI,bH⟩;h n_fits:Meth K Dc "fits" au:=⟨a2_fits,dI,bH⟩;h jL:=BJ (st:=JV) d7 d8 aH;h jM:=jL.binds (ps:=["self", "web"]) (bn2 fun _ _ _ _ _ _ _ _=>rfl);h uY:Meth K D "begun" ak:=⟨dZ,cj,aH⟩;h n_begun:Meth K Dc "begun" ak:=⟨a2_begun,cj,aH⟩;h gk:=BJ (st:=HX) eE eF aJ;h jN:=gk.binds (ps:=["self", "web", "state", "number"]) (bn4 fun _ _ _ _ _ _ _ _ _ _=>rfl);h uZ:Meth K D "taken" ao:=⟨d9,cu,aJ⟩;h n_taken:Meth K Dc "taken" ao:=⟨a2_taken,cu,aJ⟩;h dD:=BJ (st:=FZ) cW cX aB;h jx:=dD.binds (ps:=["self", "web", "state", "point"]) (bn4 fun _ _ _ _ _ _ _ _ _ _=>rfl);h rJ:Meth K D "passed" aj:=⟨cV,aU,aB⟩;h n_passed:Meth K Dc "passed" aj:=⟨a2_passed,aU,aB⟩;h tE:=BJ (st:=YT) lO lQ dJ;h tG:=tE.binds (ps:=["self", "web", "state"]) (bn3 fun _ _ _ _ _ _ _ _ _=>rfl);h yH:Meth K D "fulfilled" aV:=⟨lN,gW,dJ⟩;h n_ful:Meth K Dc "fulfilled" aV:=⟨a2_ful,gW,dJ⟩;h oM:=BJ (st:=Nu) iJ iK bJ;h oN:=oM.binds (ps:=["self", "web", "state", "number"]) (bn4 fun _ _ _ _ _ _ _ _ _ _=>rfl);h wQ:Meth K D "left" aD:=⟨iI,dM,bJ⟩;h n_left:Meth K Dc "left" aD:=⟨a2_left,dM,bJ⟩;h jO:=BJ (st:=K53s.FP) eG eO cD;h u5:=jO.binds (ps:=["self", "n", "rows", "head"]) (bn4 fun _ _ _ _ _ _ _ _ _ _=>rfl);h abN:Meth K Sv "__init__" aK:=⟨cB,cC,cD⟩;h jP:=BJ (st:=K53s.JD) eX fj cF;h u6:=jP.binds (ps:=["self"]) (bn1 fun _ _ _ _ _ _ _=>rfl);h u9:Meth K Sv "knots" aL:=⟨eU,eV,cF⟩;h oO:=BJ (st:=K53s.Xx) iU iV dO;h wR:=oO.binds (ps:=["self"]) (bn1 fun _ _ _ _ _ _ _=>rfl);h wU:Meth K Sv "top" bQ:=⟨iR,iT,dO⟩;h jQ:=BJ (st:=K53s.Ms) fQ fV cG;h vd:=jQ.binds (ps:=["self"]) (bn1 fun _ _ _ _ _ _ _=>rfl);h vf:Meth K Sv "many" aM:=⟨fH,fJ,cG⟩;h jR:=BJ (st:=Hf) fX fZ cH;h jT:=jR.binds (ps:=["self", "web", "rule"]) (bn3 fun _ _ _ _ _ _ _ _ _=>rfl);h abO:Meth K Gw "__init__" aN:=⟨aO,aP,cH⟩;h dF:=BJ (st:=FW) dh dj aW;h aX:=dF.binds (ps:=["self", "number", "reached"]) (bn3 fun _ _ _ _ _ _ _ _ _=>rfl);h aY:Meth K Gw "knot_at" aF:=⟨cY,cZ,aW⟩;h jy:=BJ (st:=Nk) jd je dR;h oR:=jy.binds (ps:=["self", "number", "reached"]) (bn3 fun _ _ _ _ _ _ _ _ _=>rfl);h oU:Meth K Gw "past_points" bV:=⟨iZ,jc,dR⟩;h TS:K53s.Txt K mg Sv:=⟨⟨jW,jX,jY,jZ⟩,cN,gZ,g8,PySem.W.mg_of X G pC,⟨_,PySem.W.mg_of X G v1⟩,PySem.W.mg_none_of X G z0,PySem.W.mg_none_of X G z1,PySem.W.mg_none_of X G z2,PySem.W.mg_none_of X G z5,PySem.W.mg_none_of X G lq,PySem.W.mg_none_of X G z6,PySem.W.mg_none_of X G z7,PySem.W.mg_none_of X G z8,PySem.W.mg_none_of X G z9,PySem.W.mg_none_of X G gU,PySem.W.mg_none_of X G z10,PySem.W.mg_none_of X G z4,PySem.W.mg_none_of X G aQ⟩;h U:∀ fu,Rul (uP fu) K mg D:=fun fu=>⟨⟨cI,cJ,cL,cM⟩,AAZ,⟨_,PySem.W.mg_of X G v2⟩⟩;h UC:Rul uC K mg Dc:=⟨⟨gJ,gK,gM,gO⟩,AEy,⟨_,PySem.W.mg_of X G v2⟩⟩;h O:Gro K mg Gw:=⟨⟨kj,kJ,kY,kZ⟩,PySem.W.mg_of X G pD,lu,iu,cO,cP,iw,dY⟩;h ada:=Yv (P:=l.prog) (w:=w) (mg:=mg) (base:=base) rH ⟨cI,cJ,cL,cM⟩ nF_D;h gq:=fun fu=>Wv (fu:=fu) (P:=l.prog) (w:=w) (mg:=mg) (base:=base) (D:=D) jt ⟨cI,cJ,cL,cM⟩ nF_D;h dG:=Ut (P:=l.prog) (w:=w) (mg:=mg) (base:=base) (D:=Dc) gH;h hall:=PySem.W.mg_none_of X G gU;h yI:=fun fu=>Vt ju (U fu) hall (gq fu) dz dB jK ji jo jk;h wV:=Vt ju UC hall dG bZ cg jK ji jo jk;h oV:=fun D=>ABH (D:=D) jL T lR jf m_size;h wW:=fun fu=>Qy gk T (U fu) (gq fu) dz dB gY dU dX;h vg:=Qy gk T UC dG bZ cg gY dU dX;h vh:=fun fu=>Nz dD T (U fu) (gq fu) dz dB;h rK:=Nz dD T UC dG bZ cg;h wX:=AEP (P:=l.prog) (w:=w) (mg:=mg) (base:=base) tE;h tH:=ACX (P:=l.prog) (w:=w) (mg:=mg) (base:=base) oM;h wY:=K53s.Hr (P:=l.prog) (w:=w) (base:=base) jO TS;h wZ:=K53s.ZL (P:=l.prog) (w:=w) (base:=base) jP TS;h yJ:=K53s.ADY (P:=l.prog) (w:=w) (base:=base) oO TS;h w6:=K53s.ACJ (P:=l.prog) (w:=w) (base:=base) jQ TS;h adb:=K53s.AEk (P:=l.prog) (w:=w) (mg:=mg) (base:=base) wK;h xg:=K53s.AAw (P:=l.prog) (w:=w) (base:=base) jH TS;h oW:=K53s.Zv jD TS ⟨j4,cB,cC,j5⟩ xg uM uO uN adb abE k_in abF wY u5;h yK:=ACj oF T lR jf m_size yW wB wC;h oX:=fun u D=>Zb (u:=u) (D:=D) jR T O gY dU dX yK wL wN wM;h yL:=fun fu=>WY (C:=C) jy (U fu) O (vh fu) jx rJ;h xq:=WY (C:=C) jy UC O rK jx n_passed;h vo:=fun fu=>Iz dF T (U fu) O (yL fu) oR oU tH oN wQ (wW fu) jN uZ wX tG yH aX aY;h rM:=Iz dF T UC O xq oR oU tH oN n_left vg jN n_taken wX tG n_ful aX aY;h xr:=fun fu=>Qp gj (U fu) O ⟨gP,aO,aP,gQ⟩ (oX (uP fu) D) jT (vo fu) aX aY (oV D) jM uY oW jE jG jF;h vp:=Qp gj UC O ⟨gP,aO,aP,gQ⟩ (oX uC Dc) jT rM aX aY (oV Dc) jM n_begun oW jE jG jF;h abM:=ADh (P:=l.prog) (w:=w) (base:=base) sY T;h vq:=Yu (P:=l.prog) (w:=w) (base:=base) jr T;h rN:=Ur gG T vq rE rG rF;h xu:=AAr (P:=l.prog) (w:=w) (base:=base) jJ T;h cls:∀ i,Cls K (rc D Dc i):=fun i=>match i with | 0=>⟨cI,cJ,cL,cM⟩ | 1=>⟨cI,cJ,cL,cM⟩ | _+2=>⟨gJ,gK,gM,gO⟩
  h mF:∀ i,Meth K (rc D Dc i) "fits" au:=fun i=>match i with | 0=>oK | 1=>oK | _+2=>n_fits
  h GF:=fits3 yI wV;h GG:=grown3 xr vp;!AEZ tu T TS ⟨j6,j7,j8,j9,kh⟩ ⟨mk,a1,i1,kc⟩ ⟨oY,pF,pG,oZ⟩ (PySem.W.mg_of X G vR) jU lg jV (PySem.W.mg_of X G pA) cls mF yE wz ada yG abL GF wO GG uQ uT uR wZ u6 u9 yJ wR wU w6 vd vf tD n6 ou oh abH yr yu yt yF wD wG wF abM yw yC yx rN oG oJ oH xu uU uW uV gY dU dX
 !⟨_,fun s v=>.of_eq rfl,fun base _ _=>law_all base⟩
theorem walk{l:PySem.W.OpenLaw}{q:Program}{loose:List Str}{XP:(Str->Option Value)->Heap->Prop}{YP:World->Heap->Prop}{d:DefRec}{K:Params->¨}(hn:l.most=some 63)(hdf:d.params.defaults=[])
  (hY:∀(w:World) (h:Heap),YP w h->(K w.params).In h)
  (F:∀(w:World) (mg:Str->Option Value) (fa:Addr) (h:Heap),(K w.params).In h->h.Ns mainGlobals mg->mg d.name=some (.ref fa) ->
   ∃ fd:FuncData,(∀(s:Shared) (u:Value),BindsTo s fd ⟨[u],[]⟩ [("_law_script",u)])/\∀ base:Heap,(K w.params).In base->base.Ns mainGlobals mg->FnOk l.prog w (K w.params) mg base CX0 18 fa fd ["_law_script"] (Rp (K w.params))) :
  PySem.W.WalkO q loose XP YP l.row.toRowW d [] (fun f vs=>PySem.call f vs) :=
 L2.ABs (n:=63) (k:=18) (x:="_law_script") (CX:=fun _=>CX0) (sp:=fun w=>Rp (K w.params)) hn ¤ hdf ⟨rfl,by decide,by decide,rfl⟩ hY F (fun _ _ a ns hl _ hS=>⟨a,ns,rfl,hS,hl,fun _=>rfl⟩) fun _ _ _ _ _ z=>z
end K53
open PySem PySem.W PyProof.Rows
set_option maxRecDepth 100000 in
set_option maxHeartbeats 0 in
theorem PySem.Challenge.cw_frontways_k53_whole_grown_of_pairs_holds : PySem.Challenge.rw_frontways_k53_whole_grown_of_pairs.Holds := by
 w_on; o_law; k_head; (case hw=>w_witness2)
 k_fill
 r K53.walk (l:=PySem.Challenge.rw_frontways_k53_whole_grown_of_pairs) rfl rfl (fun w h Y=>PySem.W.kIn_of Y) ?F
 case F =>
  intro w mg fa h KX G hmg
  refine' K53.all_mk KX G hmg ?aC ?a1 ?i1 ?l1 ?c1 ?k1 ?a2 ?i2 ?l2 ?c2 ?k2 ?a3 ?i3 ?l3 ?c3 ?k3 ?a4 ?i4 ?l4 ?c4 ?k4 ?a5 ?l5 ?c5 ?k5 ?a6 ?l6 ?c6 ?k6 ?a7 ?l7 ?c7 ?k7 ?a8 ?l8 ?c8 ?k8 ?a9 ?l9 ?c9 ?k9 ?a10 ?l10 ?c10 ?k10 ?a11 ?l11 ?c11 ?k11 ?a12 ?l12 ?c12 ?k12 ?a13 ?l13 ?c13 ?k13 ?a14 ?l14 ?c14 ?k14 ?a15 ?l15 ?c15 ?k15 ?a16 ?l16 ?c16 ?k16 ?a17 ?l17 ?c17 ?k17 ?a18 ?l18 ?c18 ?k18 ?a19 ?l19 ?c19 ?k19 ?a20 ?l20 ?c20 ?k20 ?a21 ?l21 ?c21 ?k21 ?a22 ?l22 ?c22 ?k22 ?a23 ?l23 ?c23 ?k23 ?a24 ?l24 ?c24 ?k24 ?pg ?hd ?po ?sa ?mk ?kc ?n0 ?n1 ?v0 ?v1 ?v2 ?z0 ?z1 ?z2 ?z3 ?z4 ?z5 ?z6 ?z7 ?z8 ?z9 ?z10 ?vR ?cI ?cJ ?cL ?cM ?oY ?oZ ?vU ?vV ?vW ?vX ?vY ?pA ?gJ ?gK ?gM ?gO ?jU ?jV ?rO ?rP ?rQ ?rR ?rT ?pC ?jW ?jX ?jY ?jZ ?j4 ?j5 ?j6 ?j7 ?j8 ?j9 ?kh ?pD ?kj ?kJ ?kY ?kZ ?gP ?gQ ?rW ?rY ?rZ ?sG ?sI ?nF_D ?lg ?gU ?lq ?aQ ?cN ?gZ ?g8 ?lu ?iu ?cO ?cP ?iw ?dY ?pF ?pG ?pH ?pI ?d_ip ?cQ ?cR ?cT ?cU ?aR ?aZ ?bf ?bw ?bx ?aG ?iz ?dI ?iC ?iD ?bH ?a2_fits ?dZ ?cj ?d7 ?d8 ?aH ?a2_begun ?d9 ?cu ?eE ?eF ?aJ ?a2_taken ?cV ?aU ?cW ?cX ?aB ?a2_passed ?lN ?gW ?lO ?lQ ?dJ ?a2_ful ?iI ?dM ?iJ ?iK ?bJ ?a2_left ?cB ?cC ?eG ?eO ?cD ?eU ?eV ?eX ?fj ?cF ?iR ?iT ?iU ?iV ?dO ?fH ?fJ ?fQ ?fV ?cG ?aO ?aP ?fX ?fZ ?cH ?cY ?cZ ?dh ?dj ?aW ?iZ ?jc ?jd ?je ?dR
  (case aC=>k_is)
  (case a1=>k_is)
  (case i1=>k_is)
  (case l1=>k_is)
  (case c1=>k_is)
  (case k1=>k_is)
  (case a2=>k_is)
  (case i2=>k_is)
  (case l2=>k_is)
  (case c2=>k_is)
  (case k2=>k_is)
  (case a3=>k_is)
  (case i3=>k_is)
  (case l3=>k_is)
  (case c3=>k_is)
  (case k3=>k_is)
  (case a4=>k_is)
  (case i4=>k_is)
  (case l4=>k_is)
  (case c4=>k_is)
  (case k4=>k_is)
  (case a5=>k_is)
  (case l5=>k_is)
  (case c5=>k_is)
  (case k5=>k_is)
  (case a6=>k_is)
  (case l6=>k_is)
  (case c6=>k_is)
  (case k6=>k_is)
  (case a7=>k_is)
  (case l7=>k_is)
  (case c7=>k_is)
  (case k7=>k_is)
  (case a8=>k_is)
  (case l8=>k_is)
  (case c8=>k_is)
  (case k8=>k_is)
  (case a9=>k_is)
  (case l9=>k_is)
  (case c9=>k_is)
  (case k9=>k_is)
  (case a10=>k_is)
  (case l10=>k_is)
  (case c10=>k_is)
  (case k10=>k_is)
  (case a11=>k_is)
  (case l11=>k_is)
  (case c11=>k_is)
  (case k11=>k_is)
  (case a12=>k_is)
  (case l12=>k_is)
  (case c12=>k_is)
  (case k12=>k_is)
  (case a13=>k_is)
  (case l13=>k_is)
  (case c13=>k_is)
  (case k13=>k_is)
  (case a14=>k_is)
  (case l14=>k_is)
  (case c14=>k_is)
  (case k14=>k_is)
  (case a15=>k_is)
  (case l15=>k_is)
  (case c15=>k_is)
  (case k15=>k_is)
  (case a16=>k_is)
  (case l16=>k_is)
  (case c16=>k_is)
  (case k16=>k_is)
  (case a17=>k_is)
  (case l17=>k_is)
  (case c17=>k_is)
  (case k17=>k_is)
  (case a18=>k_is)
  (case l18=>k_is)
  (case c18=>k_is)
  (case k18=>k_is)
  (case a19=>k_is)
  (case l19=>k_is)
  (case c19=>k_is)
  (case k19=>k_is)
  (case a20=>k_is)
  (case l20=>k_is)
  (case c20=>k_is)
  (case k20=>k_is)
  (case a21=>k_is)
  (case l21=>k_is)
  (case c21=>k_is)
  (case k21=>k_is)
  (case a22=>k_is)
  (case l22=>k_is)
  (case c22=>k_is)
  (case k22=>k_is)
  (case a23=>k_is)
  (case l23=>k_is)
  (case c23=>k_is)
  (case k23=>k_is)
  (case a24=>k_is)
  (case l24=>k_is)
  (case c24=>k_is)
  (case k24=>k_is)
  (case pg=>k_is)
  (case hd=>k_is)
  (case po=>k_is)
  (case sa=>k_is)
  (case mk=>k_is)
  (case kc=>k_is)
  (case n0=>k_is)
  (case n1=>k_is)
  (case v0=>k_is)
  (case v1=>k_is)
  (case v2=>k_is)
  (case z0=>k_is)
  (case z1=>k_is)
  (case z2=>k_is)
  (case z3=>k_is)
  (case z4=>k_is)
  (case z5=>k_is)
  (case z6=>k_is)
  (case z7=>k_is)
  (case z8=>k_is)
  (case z9=>k_is)
  (case z10=>k_is)
  (case vR=>k_is)
  (case cI=>k_is)
  (case cJ=>k_is)
  (case cL=>k_is)
  (case cM=>k_is)
  (case oY=>k_is)
  (case oZ=>k_is)
  (case vU=>k_is)
  (case vV=>k_is)
  (case vW=>k_is)
  (case vX=>k_is)
  (case vY=>kit_is)
  (case pA=>k_is)
  (case gJ=>k_is)
  (case gK=>k_is)
  (case gM=>k_is)
  (case gO=>k_is)
  (case jU=>k_is)
  (case jV=>k_is)
  (case rO=>k_is)
  (case rP=>k_is)
  (case rQ=>k_is)
  (case rR=>k_is)
  (case rT=>kit_is)
  (case pC=>k_is)
  (case jW=>k_is)
  (case jX=>k_is)
  (case jY=>k_is)
  (case jZ=>k_is)
  (case j4=>k_is)
  (case j5=>k_is)
  (case j6=>k_is)
  (case j7=>k_is)
  (case j8=>k_is)
  (case j9=>k_is)
  (case kh=>kit_is)
  (case pD=>k_is)
  (case kj=>k_is)
  (case kJ=>k_is)
  (case kY=>k_is)
  (case kZ=>k_is)
  (case gP=>k_is)
  (case gQ=>k_is)
  (case rW=>k_is)
  (case rY=>k_is)
  (case rZ=>k_is)
  (case sG=>k_is)
  (case sI=>kit_is)
  (case nF_D=>k_is)
  (case lg=>k_is)
  (case gU=>k_is)
  (case lq=>k_is)
  (case aQ=>k_is)
  (case cN=>k_is)
  (case gZ=>k_is)
  (case g8=>k_is)
  (case lu=>k_is)
  (case iu=>k_is)
  (case cO=>k_is)
  (case cP=>k_is)
  (case iw=>k_is)
  (case dY=>k_is)
  (case pF=>k_is)
  (case pG=>k_is)
  (case pH=>k_is)
  (case pI=>k_is)
  (case d_ip=>k_is)
  (case cQ=>k_is)
  (case cR=>k_is)
  (case cT=>k_is)
  (case cU=>k_is)
  (case aR=>k_is)
  (case aZ=>k_is)
  (case bf=>k_is)
  (case bw=>k_is)
  (case bx=>k_is)
  (case aG=>k_is)
  (case iz=>k_is)
  (case dI=>k_is)
  (case iC=>k_is)
  (case iD=>k_is)
  (case bH=>k_is)
  (case a2_fits=>k_is)
  (case dZ=>k_is)
  (case cj=>k_is)
  (case d7=>k_is)
  (case d8=>k_is)
  (case aH=>k_is)
  (case a2_begun=>k_is)
  (case d9=>k_is)
  (case cu=>k_is)
  (case eE=>k_is)
  (case eF=>k_is)
  (case aJ=>k_is)
  (case a2_taken=>k_is)
  (case cV=>k_is)
  (case aU=>k_is)
  (case cW=>k_is)
  (case cX=>k_is)
  (case aB=>k_is)
  (case a2_passed=>k_is)
  (case lN=>k_is)
  (case gW=>k_is)
  (case lO=>k_is)
  (case lQ=>k_is)
  (case dJ=>k_is)
  (case a2_ful=>k_is)
  (case iI=>k_is)
  (case dM=>k_is)
  (case iJ=>k_is)
  (case iK=>k_is)
  (case bJ=>k_is)
  (case a2_left=>k_is)
  (case cB=>k_is)
  (case cC=>k_is)
  (case eG=>k_is)
  (case eO=>k_is)
  (case cD=>k_is)
  (case eU=>k_is)
  (case eV=>k_is)
  (case eX=>k_is)
  (case fj=>k_is)
  (case cF=>k_is)
  (case iR=>k_is)
  (case iT=>k_is)
  (case iU=>k_is)
  (case iV=>k_is)
  (case dO=>k_is)
  (case fH=>k_is)
  (case fJ=>k_is)
  (case fQ=>k_is)
  (case fV=>k_is)
  (case cG=>k_is)
  (case aO=>k_is)
  (case aP=>k_is)
  (case fX=>k_is)
  (case fZ=>k_is)
  (case cH=>k_is)
  (case cY=>k_is)
  (case cZ=>k_is)
  (case dh=>k_is)
  (case dj=>k_is)
  (case aW=>k_is)
  (case iZ=>k_is)
  (case jc=>k_is)
  (case jd=>k_is)
  (case je=>k_is)
  (case dR=>k_is)
