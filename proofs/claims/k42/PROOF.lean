import PyProof.Rows.All
import Wide.All
import OpenK.AllK
import Wide.FinOn
import PyProof.EqAt
import PyProof.EqKinds
import PyProof.NeKinds
import PyProof.TupleCall
import KE.KIsAll
import KE.KIsNot
import KE.RegKIsAll
import OpenK.KOwn
import PyProof.NsDelKeeps
import PyProof.ReprRoads
import PyProof.ExcArgsOwn
import PyProof.IsiH_list
import Lean
import PyProof.StationsW
import PyProof.Rows.Catch
import OpenK.KMake
import PyProof.DictIter
import KE.KDictList
import PyProof.DictItems
import PyProof.DictWalks
import PyProof.TupleOfSeq
import PySem.SetTable
import PyProof.SetKind
import PyProof.IsRules
import PyProof.Rows.SetFrom
import PyProof.FactsAll.set
import KE.KSortTup
import PyProof.Meets
import PyProof.AutoListH
import PyProof.ListMulRoad
import PyProof.FactsAll.tuple_2
import Wide.Seal
import PyProof.Rows.Range3
import PyProof.CallType
import PyProof.EnumMake
import PyProof.Rows.CallKwBuiltin
import KE.LcSums
import KE.KRevIter
import PyProof.Rows.SortLt
import PyProof.SetRoads
import PySem.Challenge.RW_frontways_k42_whole_woods_grown
set_option hygiene false
macro"b"t:term:tactic=>`(tactic|refine wpAny_bind $t)
macro"u"t:term:tactic=>`(tactic|simpa using $t)
macro"─":term=>`(List.length_map)
macro"━":term=>`(List.getElem?_eq_some_iff.mp)
macro"│":term=>`(List.length_append)
macro"┃":term=>`(List.mem_cons.mp)
macro"┄":term=>`(Array.length_toList)
macro"┅":term=>`(Paired.length)
macro"┆":term=>`(List.getElem?_append_left)
macro"┇":term=>`(PySem.W.codeIn)
macro"┈":term=>`(List.mem_of_getElem?)
macro"┉":term=>`(List.getElem?_map)
macro"┊":term=>`(Same.new)
macro"┋":term=>`(Array.getElem?_eq_getElem)
macro"┌":term=>`(List.size_toArray)
set_option hygiene true
macro"w":tactic=>`(tactic|first|lia|omega)
open Lean Parser.Tactic in
macro"!"t:term:tactic=>`(tactic|exact $t)
open Lean Parser.Tactic in
macro"r"t:term:tactic=>`(tactic|refine $t)
open Lean Parser.Tactic in
macro"o"p:rcasesPatMed":="t:term:tactic=>`(tactic|obtain $p:rcasesPatMed:=$t)
open Lean Parser Term in
macro"h"d:letDecl:tactic=>`(tactic|have $d:letDecl)
set_option hygiene false
macro"¡":term=>`(⟨rfl,rfl,rfl,by decide +kernel,rfl,by decide +kernel,by decide +kernel⟩)
macro"¢":term=>`((by w))
macro"£":term=>`((by decide +kernel))
macro"¤":term=>`((by decide))
macro"¥":term=>`((by simp))
macro"¦":term=>`((fun cdv A outer s H vs Q E hr h=>?_))
macro"§":term=>`((fun vs H Q E h=>?_))
macro"¨":term=>`(PySem.W.Frag)
macro"©":term=>`(PySem.W.keepIn)
macro"®":term=>`(PySem.W.findIn)
macro"¯":term=>`(List.getD_eq_getElem?_getD)
macro"°":term=>`(Heap.get?_push_of_some)
macro"±":term=>`(List.getElem?_eq_getElem)
macro"´":term=>`(List.mem_cons_self)
macro"¶":term=>`(List.mem_cons_of_mem)
macro"¸":term=>`(s.heap.objs.size)
macro"¿":term=>`(Heap.get?_push_size)
macro"÷":term=>`((rows.getD (k-2) (0,0,0)))
macro"①":term=>`((model prog w))
macro"②":term=>`((Nat.le_refl _))
macro"③":term=>`((model X.prog X.w))
macro"④":term=>`((Or.inl rfl))
macro"⑤":term=>`((List Int))
macro"⑥":term=>`((Addr×Obj))
macro"⑦":term=>`((arrOf st))
macro"⑧":term=>`((cxComp X (own++fr) scope fp s H))
macro"⑨":term=>`((Option Value))
macro"⑩":term=>`((t.probeStart (hsh prog w k)))
macro"⑪":term=>`((rowIn rows pl k))
macro"⑫":term=>`((List Int×Addr))
macro"⑬":term=>`((ns.map V.int))
macro"⑭":term=>`((BJ Aw rfl T.len PySem.boot_len (Aa (pv 2) Ad)))
macro"⑮":term=>`((pairs owner (List.range (M+1))))
macro"⑯":term=>`((nomark _))
macro"⑰":term=>`((vs.toArray.zip vs.toArray))
macro"⑱":term=>`((beq_iff_eq.mp z))
macro"⑲":term=>`((Bu (pv 0) rfl))
set_option hygiene true
set_option Elab.async false
set_option linter.all false
set_option maxRecDepth 100000
set_option maxHeartbeats 4000000
set_option maxHeartbeats 8000000
namespace L2
open PySem PySem.Spec PyProof.Rows
abbrev Key:=Sum Int Str
def keyIs:Key->Value->Bool
 | .inl k,v=>Value.isInt k v
 | .inr x,v=>Value.isStrOf x v
def keyH(w:World):Key->Int
 | .inl k=>hashInt k
 | .inr x=>hashStr w x
theorem CJ:∀{k:Key}{v:Value},keyIs k v=true->(∃ i t,k=Sum.inl i/\v=Value.int i t)\/(∃ x t,k=Sum.inr x/\v=Value.str x t)
 | .inl i,v,h=>by
  o⟨t,e⟩:=Value.isInt_shape (k:=i) (v:=v) h;!.inl ⟨i,t,rfl,e⟩
 | .inr x,v,h=>by
  o⟨t,e⟩:=Value.isStrOf_shape (x:=x) (v:=v) h;!.inr ⟨x,t,rfl,e⟩
theorem Yc(i:Int)(t:Tok):keyIs (.inl i) (.int i t)=true:=by simp[keyIs,Value.isInt]
theorem Yv(x:Str)(t:Tok):keyIs (.inr x) (.str x t)=true:=by simp[keyIs,Value.isStrOf]
theorem AFM(a b:Int):decide ((Sum.inl a:Key)=Sum.inl b)=(a==b):=by
 by_cases e:a=b
 ·subst e;simp
 ·h h:¬ (Sum.inl a:Key)=Sum.inl b:=fun q=>e (Sum.inl.inj q)
  rw[decide_eq_false h];!(beq_eq_false_iff_ne.mpr e).symm
theorem AFP(a b:Str):decide ((Sum.inr a:Key)=Sum.inr b)=decide (a=b):=by
 by_cases e:a=b
 ·subst e;simp
 ·h h:¬ (Sum.inr a:Key)=Sum.inr b:=fun q=>e (Sum.inr.inj q)
  rw[decide_eq_false h,decide_eq_false e]
theorem AFV(a:Int)(b:Str):decide ((Sum.inl a:Key)=Sum.inr b)=false:=decide_eq_false (fun q=>nomatch q)
theorem AEW(a:Str)(b:Int):decide ((Sum.inr a:Key)=Sum.inl b)=false:=decide_eq_false (fun q=>nomatch q)
def CG(prog:Program)(w:World):PySem.KeyKind prog w Key where
 is:=keyIs
 hash:=keyH w
 inj:=fun v a b ha hb=>by
  rcases CJ ha with⟨i,t,rfl,rfl⟩ | ⟨x,t,rfl,rfl⟩
  ·rcases CJ hb with⟨j,u,rfl,e⟩ | ⟨y,u,rfl,e⟩
   ·injection e with e1 _;rw[e1]
   ·!nomatch e
  ·rcases CJ hb with⟨j,u,rfl,e⟩ | ⟨y,u,rfl,e⟩
   ·!nomatch e
   ·injection e with e1 _;rw[e1]
 byValue:=fun k v h=>by
  rcases CJ h with⟨i,t,rfl,rfl⟩ | ⟨x,t,rfl,rfl⟩<;>rfl
 pyHash:=fun hv h=>by
  rcases CJ hv with⟨i,t,rfl,rfl⟩ | ⟨x,t,rfl,rfl⟩
  ·!wpAny_pyHash_int h
  ·!wpAny_pyHash_str h
 eqBool:=fun hu hv h=>by
  rcases CJ hu with⟨i,t,rfl,rfl⟩ | ⟨x,t,rfl,rfl⟩
  ·rcases CJ hv with⟨j,u,rfl,rfl⟩ | ⟨y,u,rfl,rfl⟩
   ·rw[AFM] at h;!wpAny_eqBool_int h
   ·rw[AFV] at h;!SeqAt.EqAt.int_str i t y u _ _ _ _ h
  ·rcases CJ hv with⟨j,u,rfl,rfl⟩ | ⟨y,u,rfl,rfl⟩
   ·rw[AEW] at h;!SeqAt.EqAt.str_int x t j u _ _ _ _ h
   ·rw[AFP] at h;!wpAny_eqBool_str h
 «strs»:=fun k x t v h=>by
  rcases CJ h with⟨i,u,rfl,e⟩ | ⟨y,u,rfl,e⟩
  ·!nomatch e
  ·injection e with e1 _
   subst e1;cases v<;>rfl
theorem Ss(prog:Program)(w:World)(i:Int)(t:Tok):(CG prog w).is (.inl i) (.int i t)=true:=Yc i t
theorem Rg(prog:Program)(w:World)(x:Str)(t:Tok):(CG prog w).is (.inr x) (.str x t)=true:=Yv x t
inductive V where
 | non | bl (b:Bool) | int (i:Int) | str (x:Str) | byt (b:Array UInt8) | flt (b:UInt64) | ref (a:Addr) | ty (n:String)
 deriving DecidableEq
def RelV:V->Value->Prop
 | .non,u=>u=Value.none
 | .bl b,u=>u=Value.bool b
 | .int i,u=>∃ t,u=Value.int i t
 | .str x,u=>∃ t,u=Value.str x t
 | .byt b,u=>∃ t,u=Value.bytes b t
 | .flt b,u=>∃ t,u=Value.float b t
 | .ref a,u=>u=Value.ref a
 | .ty n,u=>u=Value.type n
abbrev Vals:List V->List Value->Prop:=Paired RelV
theorem Vals.length{xs:List V}{us:List Value}(r:Vals xs us):xs.length=us.length:=┅ r
theorem Vals.get:∀{xs:List V}{us:List Value}{i:Nat}{x:V},Vals xs us->xs[i]?=some x->∃ u,us[i]?=some u/\RelV x u
 | _,_,_,_,.nil,e=>by simp at e
 | _,_,0,_,.cons r _,e=>by simp at e;subst e;!⟨_,rfl,r⟩
 | _,_,i+1,x,.cons _ t,e=>by
  o⟨u,h1,h2⟩:=Vals.get (i:=i) (x:=x) t (by u e);!⟨u,by u h1,h2⟩
theorem Vals.set{x:V}{u:Value}(r:RelV x u):∀{xs:List V}{us:List Value} (i:Nat),Vals xs us->Vals (xs.set i x) (us.set i u)
 | _,_,_,.nil=>.nil
 | _,_,0,.cons _ t=>.cons r t
 | _,_,i+1,.cons q t=>.cons q (Vals.set r i t)
theorem Vals.append:∀{xs ys:List V}{us ws:List Value},Vals xs us->Vals ys ws->Vals (xs++ys) (us++ws)
 | _,_,_,_,.nil,s=>s
 | _,_,_,_,.cons r t,s=>.cons r (Vals.append t s)
theorem Vals.take:∀{xs:List V}{us:List Value} (n:Nat),Vals xs us->Vals (xs.take n) (us.take n)
 | _,_,0,_=>.nil
 | _,_,_+1,.nil=>.nil
 | _,_,n+1,.cons r t=>.cons r (Vals.take n t)
theorem Vals.drop:∀{xs:List V}{us:List Value} (n:Nat),Vals xs us->Vals (xs.drop n) (us.drop n)
 | _,_,0,r=>r
 | _,_,_+1,.nil=>.nil
 | _,_,n+1,.cons _ t=>Vals.drop n t
def RelO:Option V->Option Value->Prop
 | some v,some u=>RelV v u
 | none,none=>True
 | _,_=>False
def KV{κ:Type}:List (κ×V)->List (κ×Value)->Prop:=Paired fun(p:κ×V) (q:κ×Value)=>p.1=q.1/\RelV p.2 q.2
def kV:Key->V
 | .inl i=>.int i
 | .inr x=>.str x
inductive HO where
 | lst (xs:List V)
 | tup (xs:List V)
 | dK (kvs:List (Key×V)) | dT (kvs:List (List Key×V))
 | set (S:Int->Bool) (n:Nat)
 | ins (C dx:Addr) (fs:List (Str×V))
 | own (x:Addr)
 | xd (fs:List (Str×V))
 | met (f x:Addr)
 | rng (lo hi:Int)
 | frz (o:Obj) (u:HO)
 | tbl (ps:Array Value)
 | ext (φ:Heap->Prop)
abbrev Hp:=Addr->Option HO
def upd(H:Hp)(a:Addr)(o:HO):Hp:=fun b=>if b=a then some o else H b
theorem Ab{H:Hp}{a:Addr}{o:HO}:upd H a o a=some o:=by unfold upd;rw[if_pos rfl]
theorem Ag{H:Hp}{a b:Addr}{o:HO}(h:b≠a):upd H a o b=H b:=by unfold upd;rw[if_neg h]
theorem ACm{H:Hp}{a:Addr}{o u:HO}:upd (upd H a o) a u=upd H a u:=by
 funext b;unfold upd;split<;>rfl
theorem Cq{H:Hp}{a b:Addr}{o u:HO}(h:H a=some o)(h':H b=some u)(d:o≠u):a≠b:=by
 intro e;subst e;rw[h] at h';!d (Option.some.inj h')
theorem Ae{H:Hp}{a b:Addr}{o:HO}(h:H a=some o)(h':H b=none):a≠b:=by
 intro e;subst e;rw[h] at h';cases h'
section
variable (P:Program)(w:World)
def ObjOk(H:Hp)(h:Heap)(a:Addr):HO->Prop
 | .lst xs=>xs.length<=sizeLine/\∃(its:List Value) (n:Nat),Vals xs its/\h.get? a=some {cls:=.type "list",data:=.seq its.toArray n}
 | .tup xs=>xs.length<=sizeLine/\∃ its:List Value,Vals xs its/\IsTup h a its.toArray
 | .dK kvs=>kvs.length<=sizeLine/\(a==sysModules)=false/\∃ vs,KV kvs vs/\h.DictOf (CG P w) a vs
 | .dT kvs=>kvs.length<=sizeLine/\(a==sysModules)=false/\∃ xs:List (List Key×Addr×Value),
   Paired (fun(p:List Key×V) (q:List Key×Addr×Value)=>p.1=q.1/\H q.2.1=some (.tup (p.1.map kV))/\RelV p.2 q.2.2) kvs xs /\
   ∃ o es ep,h.get? a=some o/\o.ExactDict/\o.data=.dict es ep/\es.toList=xs.map (entryOfKey (tupleKind (CG P w)))/\(xs.map (·.1)).Nodup
 | .set S n=>h.SetOf (intKind P w) a S n
 | .ins C dx fs=>H dx=some (.own a)/\fs.length<=1000/\dx≠a/\h.get? a=some (PySem.W.instObj C dx) /\
   ∃ mA,h.Ns1 dx mA/\(∀ f,RelO (fs.lookup f) (mA f))/\PySem.Within mA (fs.map (·.1))
 | .own _=>∃ o,h.get? a=some o
 | .xd fs=>∃ mA,h.Ns1 a mA/\∀ f,RelO (fs.lookup f) (mA f)
 | .rng lo hi=>∃ t u v,h.get? a=some {cls:=.type "range",data:=.fields #[.int lo t,.int hi u,.int 1 v]}
 | .frz o u=>h.get? a=some o/\ObjOk H h a u
 | .tbl ps=>h.get? a=some {cls:=.none,data:=.fields ps}
 | .met f x=>h.get? a=some (PySem.W.methodObj (.ref f) (.ref x))
 | .ext φ=>φ h/\(∃ o,h.get? a=some o)/\∀ h1 h2:Heap,φ h1->(∀ o,h1.get? a=some o->h2.get? a=some o)->φ h2
def HOk(H:Hp)(h:Heap):Prop:=∀ a o,H a=some o->ObjOk P w H h a o
end
section
variable{P:Program}{w:World}{H H':Hp}{h h':Heap}{a:Addr}{o:HO}
theorem ObjOk.lt(x:ObjOk P w H h a o):a<h.objs.size:=by
 cases o with
 | lst xs=>o⟨_,_,_,_,e⟩:=x;!Heap.lt_size e
 | tup xs=>o⟨_,_,_,p⟩:=x;!p.lt
 | dK kvs=>o⟨_,_,_,_,o,_,_,e,_⟩:=x;!Heap.lt_size e
 | dT kvs=>o⟨_,_,_,_,o,_,_,e,_⟩:=x;!Heap.lt_size e
 | set S n=>o⟨o,_,_,_,e,_⟩:=x;!Heap.lt_size e
 | ins C dx fs=>o⟨_,_,_,e,_⟩:=x;!Heap.lt_size e
 | own y=>o⟨_,e⟩:=x;!Heap.lt_size e
 | xd fs=>o⟨_,⟨_,_,_,e,_⟩,_⟩:=x;!Heap.lt_size e
 | rng lo hi=>o⟨_,_,_,e⟩:=x;!Heap.lt_size e
 | frz ob u=>o⟨e,_⟩:=x;!Heap.lt_size e
 | tbl ps=>!Heap.lt_size (show h.get? a=some _ from x)
 | met f y=>!Heap.lt_size (show h.get? a=some _ from x)
 | ext φ=>o⟨_,⟨_,e⟩,_⟩:=x;!Heap.lt_size e
theorem Paired.mapP{α β:Type}{F G:α->β->Prop}:∀{l₁:List α}{l₂:List β},Paired F l₁ l₂->(∀ a b,F a b->G a b)->Paired G l₁ l₂
 | _,_,.nil,_=>.nil
 | _,_,.cons r t,f=>.cons (f _ _ r) (Paired.mapP t f)
theorem ObjOk.stay(x:ObjOk P w H h a o)(k:∀ b u,(b=a\/H b=some (.own a))->h.get? b=some u->h'.get? b=some u)
  (ho:∀ b,H b=some (.own a)->H' b=some (.own a)) (ht:∀ b xs,H b=some (.tup xs)->H' b=some (.tup xs)):ObjOk P w H' h' a o:=by
 induction o with
 | lst xs=>o⟨z,its,n,r,e⟩:=x;!⟨z,its,n,r,k _ _ (.inl rfl) e⟩
 | tup xs=>o⟨z,its,r,ob,e,c⟩:=x;!⟨z,its,r,ob,k _ _ (.inl rfl) e,c⟩
 | dK kvs=>o⟨z,y,vs,r,ob,es,ep,e,c⟩:=x;!⟨z,y,vs,r,ob,es,ep,k _ _ (.inl rfl) e,c⟩
 | dT kvs =>
  o⟨z,y,xs,r,ob,es,ep,e,c⟩:=x;!⟨z,y,xs,Paired.mapP r fun p q z=>⟨z.1,ht _ _ z.2.1,z.2.2⟩,ob,es,ep,k _ _ (.inl rfl) e,c⟩
 | set S n=>o⟨ob,es,ep,t,e,c⟩:=x;!⟨ob,es,ep,t,k _ _ (.inl rfl) e,c⟩
 | ins C dx fs =>
  o⟨d,z,ne,e,mA,⟨od,es,ep,e2,c⟩,r⟩:=x;!⟨ho _ d,z,ne,k _ _ (.inl rfl) e,mA,⟨od,es,ep,k _ _ (.inr d) e2,c⟩,r⟩
 | own y=>o⟨ob,e⟩:=x;!⟨ob,k _ _ (.inl rfl) e⟩
 | xd fs=>o⟨mA,⟨od,es,ep,e,c⟩,r⟩:=x;!⟨mA,⟨od,es,ep,k _ _ (.inl rfl) e,c⟩,r⟩
 | rng lo hi=>o⟨t,u,v,e⟩:=x;!⟨t,u,v,k _ _ (.inl rfl) e⟩
 | frz ob u ih=>o⟨e,q⟩:=x;!⟨k _ _ (.inl rfl) e,ih q⟩
 | tbl ps =>
  have e:h.get? a=some {cls:=.none,data:=.fields ps}:=x;show h'.get? a=some {cls:=.none,data:=.fields ps};!k a _ (.inl rfl) e
 | met f y =>
  have e:h.get? a=some (PySem.W.methodObj (.ref f) (.ref y)):=x;show h'.get? a=some (PySem.W.methodObj (.ref f) (.ref y));!k a _ (.inl rfl) e
 | ext φ=>o⟨p,⟨o,e⟩,st⟩:=x;!⟨st _ _ p fun o q=>k _ _ (.inl rfl) q,⟨o,k _ _ (.inl rfl) e⟩,st⟩
theorem HOk.lt(x:HOk P w H h)(e:H a=some o):a<h.objs.size:=(x a o e).lt
theorem HOk.fresh(x:HOk P w H h)(e:h.objs.size<=a):H a=none:=by
 cases q:H a with
 | none=>rfl
 | some u=>!absurd (Nat.lt_of_lt_of_le (x.lt q) e) (Nat.lt_irrefl _)
theorem HOk.kept(x:HOk P w H h)(k:∀ b u,h.get? b=some u->h'.get? b=some u):HOk P w H h':=fun a o e =>
 (x a o e).stay (fun b u _ q=>k b u q) (fun _ q=>q) fun _ _ q=>q
theorem HOk.laid(x:HOk P w H h)(k:∀ b u,h.get? b=some u->h'.get? b=some u)(hp:h.objs.size<=a)(new:ObjOk P w (upd H a o) h' a o):HOk P w (upd H a o) h':=fun b u e=>by
 h hn:=x.fresh hp;by_cases hb:b=a
 ·subst hb;rw[Ab] at e;cases e;!new
 ·rw[Ag hb] at e
  !(x b u e).stay (fun c v _ q=>k c v q) (fun c q=>by rw[Ag (Ae q hn)];!q) fun c xs q=>by rw[Ag (Ae q hn)];!q
end
def Rd(H:Hp)(a:Addr)(u:HO):Prop:=H a=some u\/∃ o,H a=some (.frz o u)
theorem Rd.ok{P:Program}{w:World}{H:Hp}{h:Heap}{a:Addr}{u:HO}(r:Rd H a u)(x:HOk P w H h):ObjOk P w H h a u:=by
 rcases r with r | ⟨o,r⟩
 ·!x a u r
 ·o⟨_,q⟩:=x a _ r
  !q
def Mut:Option HO->Prop
 | some (.lst _)=>True
 | some (.dK _)=>True
 | some (.dT _)=>True
 | some (.set _ _)=>True
 | some (.ins _ _ _)=>True
 | some (.ext _)=>True
 | _=>False
section
variable{P:Program}{w:World}{H:Hp}{h h':Heap}{x e:Addr}{o':HO}
theorem HOk.write(ok:HOk P w H h)(mu:Mut (H x))(he:e=x\/H e=some (.own x))(k:∀ b u,b≠e->h.get? b=some u->h'.get? b=some u)(heo:∃ u,h'.get? e=some u)
  (new:ObjOk P w (upd H x o') h' x o'):HOk P w (upd H x o') h':=fun b u q=>by
 h nown:∀ c y,H c=some (.own y)->c≠x:=fun c y r z=>by subst z;rw[r] at mu;!mu
 h ntup:∀ c xs,H c=some (.tup xs)->c≠x:=fun c xs r z=>by subst z;rw[r] at mu;!mu
 by_cases hb:b=x
 ·subst hb;rw[Ab] at q;cases q;!new
 ·rw[Ag hb] at q
  by_cases hbe:b=e
  ·h q':H b=some (.own x):=by
    rcases he with z | z
    ·!absurd (hbe.trans z) hb
    ·rw[hbe];!z
   rw[q] at q';cases q';o⟨v,hv⟩:=heo;!⟨v,by rw[hbe];!hv⟩
  ·r(ok b u q).stay (fun c v hc r=>k c v ?_ r) (fun c r=>by rw[Ag (nown c b r)];!r) fun c xs r=>by rw[Ag (ntup c xs r)];!r
   rcases hc with rfl | hc
   ·!hbe
   ·rintro rfl
    rcases he with z | z
    ·!nown c b hc z
    ·rw[hc] at z;cases z;!hb rfl
end
structure Un(fs ex:List Addr)(H H':Hp)(h h':Heap):Prop where
 keep:∀ b o,h.get? b=some o->H b=none->b∉fs->b∉ex->h'.get? b=some o
 slot:∀ b o,h.get? b=some o->H b=none->b∈fs->b∉ex->∃ sl,h'.get? b=some {o with slots:=sl}
 free:∀ b o,h.get? b=some o->H b=none->b∉ex->H' b=none
 there:∀ b o,h.get? b=some o->b∉ex->∃ o',h'.get? b=some o'
 tups:∀ b xs,H b=some (.tup xs)->H' b=some (.tup xs)
 frzs:∀ b o u,H b=some (.frz o u)->H' b=some (.frz o u)
 tbls:∀ b ps,H b=some (.tbl ps)->∃ more,H' b=some (.tbl (ps++more))
section
variable{fs fs' ex ex':List Addr}{H H1 H2:Hp}{h h1 h2 h':Heap}{a x e:Addr}{o:HO}
theorem Un.any(u:Un fs ex H H1 h h1){b:Addr}{ob:Obj}(q:h.get? b=some ob)(n:H b=none)(hx:b∉ex):∃ sl,h1.get? b=some {ob with slots:=sl}:=by
 by_cases hb:b∈fs
 ·!u.slot b ob q n hb hx
 ·!⟨ob.slots,u.keep b ob q n hb hx⟩
theorem Un.kept(k:∀ b u,h.get? b=some u->h'.get? b=some u):Un fs ex H H h h' :=
 ⟨fun b ob q _ _ _=>k b ob q,fun b ob q _ _ _=>⟨ob.slots,k b ob q⟩,fun _ _ _ n _=>n,fun b ob q _=>⟨ob,k b ob q⟩,fun _ _ q=>q,fun _ _ _ q=>q,fun _ ps q=>⟨#[],by rw[q];simp⟩⟩
theorem Un.refl:Un fs ex H H h h:=Un.kept fun _ _ q=>q
theorem Un.laid(k:∀ b u,h.get? b=some u->h'.get? b=some u)(hp:h.objs.size<=a)(hn:H a=none):Un fs ex H (upd H a o) h h' where
 keep:=fun b u q _ _ _=>k b u q
 slot:=fun b u q _ _ _=>⟨u.slots,k b u q⟩
 free:=fun b u q n _=>by rw[Ag (Nat.ne_of_lt (Nat.lt_of_lt_of_le (Heap.lt_size q) hp))];!n
 there:=fun b u q _=>⟨u,k b u q⟩
 tups:=fun b xs q=>by rw[Ag (Ae q hn)];!q
 frzs:=fun b u xs q=>by rw[Ag (Ae q hn)];!q
 tbls:=fun b ps q=>⟨#[],by rw[Ag (Ae q hn),q];simp⟩
theorem Un.write(mu:Mut (H x))(he:e=x\/H e=some (.own x))(k:∀ b u,b≠e->h.get? b=some u->h'.get? b=some u)(heo:∃ u,h'.get? e=some u):Un fs ex H (upd H x o) h h':=by
 h hx:∀ b,H b=none->b≠x:=fun b n z=>by subst z;rw[n] at mu;!mu
 h hb:∀ b,H b=none->b≠e:=fun b n z=>by
  subst z;rcases he with r | r
  ·!hx b n r
  ·rw[n] at r;cases r
 h hm:∀ b u,H b=some u->¬ Mut (some u)->b≠x:=fun b u q nm z=>by subst z;rw[q] at mu;!nm mu
 r⟨fun b u q n _ _=>k b u (hb b n) q,fun b u q n _ _=>⟨u.slots,k b u (hb b n) q⟩,fun b u q n _=>by rw[Ag (hx b n)];!n,fun b u q _=>?_,
  fun b xs q=>by rw[Ag (hm b _ q fun z=>z)];!q,fun b u xs q=>by rw[Ag (hm b _ q fun z=>z)];!q,fun b ps q=>⟨#[],by rw[Ag (hm b _ q fun z=>z),q];simp⟩⟩
 by_cases hbe:b=e
 ·subst hbe;!heo
 ·!⟨u,k b u hbe q⟩
end
def trk(h:Heap)(H:Hp):List Addr:=(List.range h.objs.size).filter fun a=>(H a).isSome
def hidT(h:Heap)(H:Hp):Heap:=PySem.W.hideAll h (trk h H)
theorem Xm(h:Heap)(H:Hp):(hidT h H).objs.size=h.objs.size:=PySem.W.hideAll_size _ _
theorem ABQ{h:Heap}{H:Hp}{b:Addr}{o:Obj}(e:h.get? b=some o)(n:H b=none):(hidT h H).get? b=some o :=
 PySem.W.hideAll_get _ e fun hm=>by
  h q:(H b).isSome=true:=(List.mem_filter.mp hm).2;rw[n] at q;simp at q
theorem ACu{h:Heap}{H:Hp}{b:Addr}{o:Obj}(e:(hidT h H).get? b=some o):h.get? b=some o/\H b=none:=by
 h e':h.get? b=some o:=PySem.W.of_hideAll (trk h H) e;r⟨e',?_⟩;cases q:H b with
 | none=>rfl
 | some x =>
  have hm:b∈trk h H:=List.mem_filter.mpr ⟨List.mem_range.mpr (Heap.lt_size e'),by simp[q]⟩;have z:(hidT h H).get? b=none:=PySem.W.hideAll_none (trk h H) hm;rw[z] at e;cases e
structure Mod(K:¨)(mg:Str->Option Value)(base:Heap):Prop where
 kin:K.In base
 glob:base.Ns mainGlobals mg
 blt:∃ mb,base.Ns builtinsNs mb/\∀ x:Str,x≠"__name__"->mb x=bootBuiltins x
 nolimit:base.NoLimit
structure Cx where
 prog:Program
 w:World
 K:¨
 mg:Str->Option Value
 base:Heap
 A:Around
 N:List Str
 s₀:Shared
 H₀:Hp
 env:Env
 outer:List Env
 stack:List Env
 ex:List Addr
 fn:Str->Bool
 calm:Bool
 pn:List ⑥
 xe:Value->Shared->Prop
def frs(l:List Env):List Addr:=l.filterMap (·.frame)
abbrev Cx.fs(X:Cx):List Addr:=frs X.outer
def Vis(sc:Scope)(x:Str):Prop:=sc.names.lookup x=some .local\/sc.names.lookup x=some .cell\/sc.names.lookup x=some .free
def Loc(sc:Scope)(x:Str):Prop:=sc.names.lookup x=some .local\/sc.names.lookup x=some .cell
def Look(env:Env)(h:Heap)(m:Str->Option Value)(x:Str)(u:Value):Prop :=
 (env.kindOf x=some .local/\m x=some u)\/((env.kindOf x=some .cell\/env.kindOf x=some .free)/\∃ c,env.cells.lookup x=some c/\h.IsCell c (some u))
structure Cx.Ok(X:Cx):Prop where
 mod:Mod X.K X.mg X.base
 kind:X.env.scope.kind=.function
 glob:X.env.globals=mainGlobals
 blt:X.env.builtins=builtinsNs
 above:X.s₀.heap.objs.size<=X.env.locals
 inj:∀ x y c,X.env.cells.lookup x=some c->X.env.cells.lookup y=some c->x=y
 has:∀ x,(X.env.kindOf x=some .cell\/X.env.kindOf x=some .free)->∃ c,X.env.cells.lookup x=some c
 cab:∀ x c,X.fn x=true->X.env.cells.lookup x=some c->X.s₀.heap.objs.size<=c
 hd:X.calm=true->X.A.handled=none
 frames:X.A.frames=some X.stack
 stk:X.stack=X.outer\/(X.stack=X.env::X.outer/\X.env.frame=some X.env.locals)
 exf:∀ b∈X.ex,b≠X.env.locals/\∀ x c,X.env.cells.lookup x=some c->c≠b
 bs:∀ b o,X.base.get? b=some o->X.s₀.heap.get? b=some o/\X.H₀ b=none
 bsz:X.base.objs.size<=X.s₀.heap.objs.size
 noex:∀ b o,X.base.get? b=some o->b∉X.ex
 exfs:∀ b∈X.ex,b∉X.fs
 funs:X.s₀.heap.FunFrames X.base X.outer
 frf:∀ b∈X.fs,X.H₀ b=none
structure Inv(X:Cx)(pins:List ⑥)(σ:List (Option V))(H:Hp)(s:Shared):Prop where
 ok:X.Ok
 os:s.os=X.s₀.os
 bare:AllBare s.gens
 base:Un X.fs X.ex X.H₀ H X.s₀.heap s.heap
 loc:∃ m,s.heap.Ns X.env.locals m/\∀(i:Nat) (x:Str) (v:V),X.N[i]?=some x->σ[i]?=some (some v)->Vis X.env.scope x->∃ u,RelV v u/\Look X.env s.heap m x u
 cell:∀ x c,X.env.cells.lookup x=some c->∃ v,s.heap.IsCell c v
 free:H X.env.locals=none
 freeC:∀ x c,X.env.cells.lookup x=some c->H c=none
 pin:∀ p∈X.pn++pins,s.heap.get? p.1=some p.2/\H p.1=none/\p.1≠X.env.locals/\p.1∉X.fs/\∀ v,p.2.data≠.cell v
 hok:HOk X.prog X.w H s.heap
 len:σ.length=X.N.length
section
variable{X:Cx}{pins:List ⑥}{σ:List (Option V)}{H H':Hp}{s:Shared}{h':Heap}
theorem Cx.Ok.nofr(ok:X.Ok){b:Addr}{o:Obj}(e:X.base.get? b=some o):b∉X.fs:=fun hb=>by
 have:=(ok.funs.mem hb).1;rw[e] at this;cases this
theorem Inv.bs(I:Inv X pins σ H s):∀ b o,X.base.get? b=some o->s.heap.get? b=some o/\H b=none:=fun b o e =>
 ⟨I.base.keep b o (I.ok.bs b o e).1 (I.ok.bs b o e).2 (I.ok.nofr e) (I.ok.noex b o e),I.base.free b o (I.ok.bs b o e).1 (I.ok.bs b o e).2 (I.ok.noex b o e)⟩
theorem Inv.bk(I:Inv X pins σ H s):∀ b o,X.base.get? b=some o->s.heap.get? b=some o:=fun b o e=>(I.bs b o e).1
theorem Inv.mod(I:Inv X pins σ H s):Mod X.K X.mg X.base:=I.ok.mod
theorem Inv.kIn(I:Inv X pins σ H s):X.K.In s.heap:=I.ok.mod.kin.keeps I.bk
theorem Inv.lt(I:Inv X pins σ H s):X.env.locals<¸:=let ⟨_,hn,_⟩:=I.loc;hn.lt
theorem Inv.sz(I:Inv X pins σ H s):X.s₀.heap.objs.size<=¸:=Nat.le_trans I.ok.above (Nat.le_of_lt I.lt)
theorem Inv.nofs(I:Inv X pins σ H s){a:Addr}(h:¸<=a):a∉X.fs:=fun hb=>by
 o⟨_,o,ho,_⟩:=I.ok.funs.mem hb;!absurd (Nat.lt_of_lt_of_le (Heap.lt_size ho) (Nat.le_trans I.sz h)) (Nat.lt_irrefl _)
theorem Inv.cne(I:Inv X pins σ H s):∀ x c,X.env.cells.lookup x=some c->c≠X.env.locals:=fun x c e z=>by
 o⟨v,o,ho,hd⟩:=I.cell x c e;o⟨m,⟨o',es,ep,ho',hd',_⟩,_⟩:=I.loc;rw[z,ho'] at ho;cases ho;rw[hd'] at hd;cases hd
theorem Inv.funs(I:Inv X pins σ H s):s.heap.FunFrames X.base X.outer:=by
 h all:∀(l:List Env),(∀ b∈frs l,b∈X.fs)->X.s₀.heap.FunFrames X.base l->s.heap.FunFrames X.base l:=by
  intro l
  induction l with
  | nil=>intro _ _;trivial
  | cons env r ih =>
   intro hs hl;o⟨hk,⟨L,o,hf,hn,ho,hd⟩,hr⟩:=hl;h hL:L∈X.fs:=hs L (by unfold frs;rw[List.filterMap_cons,hf];!´);o⟨sl,e⟩:=I.base.slot L o ho (I.ok.frf L hL) hL fun z=>I.ok.exfs L z hL;!⟨hk,⟨L,_,hf,hn,e,hd⟩,ih (fun b hb=>hs b (by unfold frs;rw[List.filterMap_cons,hf];!¶ _ hb)) hr⟩
 !all X.outer (fun _ hb=>hb) I.ok.funs
theorem Inv.stack(I:Inv X pins σ H s):s.heap.FunFrames X.base X.stack:=by
 rcases I.ok.stk with e | ⟨e,hf⟩
 ·rw[e];!I.funs
 ·rw[e]
  o⟨m,hn,_⟩:=I.loc;r .cons (by rw[I.ok.kind];decide) hf hn ?_ I.funs;!Heap.get?_none_of_le (Nat.le_trans I.ok.bsz I.ok.above)
theorem Inv.stkSub(I:Inv X pins σ H s):∀ b∈frs X.stack,b∈X.env.locals::X.fs:=fun b hb=>by
 rcases I.ok.stk with e | ⟨e,hf⟩
 ·rw[e] at hb;!¶ _ hb
 ·rw[e] at hb
  unfold frs at hb;rw[List.filterMap_cons,hf] at hb;!hb
theorem Inv.stkFree(I:Inv X pins σ H s):∀ b∈frs X.stack,H b=none:=fun b hb=>by
 rcases ┃ (I.stkSub b hb) with e | hb
 ·rw[e];!I.free
 ·o⟨_,o,ho,_⟩:=I.ok.funs.mem hb
  !I.base.free b o ho (I.ok.frf b hb) fun z=>I.ok.exfs b z hb
theorem Inv.step{g':Array GenState}{t':Nat}{d':Drawn}{ch:List Addr}(I:Inv X pins σ H s)
  (hch:∀ b∈ch,(b∈X.ex\/X.s₀.heap.objs.size<=b)/\b≠X.env.locals/\(∀ x c,X.env.cells.lookup x=some c->c≠b)/\∀ p∈X.pn++pins,p.1≠b)
  (keep:∀ b o,b≠X.env.locals->b∉X.fs->b∉ch->s.heap.get? b=some o->H b=none->h'.get? b=some o)
  (slot:∀ b o,b≠X.env.locals->b∈X.fs->b∉ch->s.heap.get? b=some o->H b=none->∃ sl,h'.get? b=some {o with slots:=sl}) (free:∀ b o,b∉ch->s.heap.get? b=some o->H b=none->H' b=none)
  (there:∀ b o,b∉ch->s.heap.get? b=some o->∃ o',h'.get? b=some o')
  (tups:∀ b xs,H b=some (.tup xs)->H' b=some (.tup xs)) (frzs:∀ b o u,H b=some (.frz o u)->H' b=some (.frz o u)) (tbls:∀ b ps,H b=some (.tbl ps)->∃ more,H' b=some (.tbl (ps++more)))
  (ns:∀ m,s.heap.Ns X.env.locals m->h'.Ns X.env.locals m) (hok:HOk X.prog X.w H' h') (hg:AllBare g') :
  Inv X pins σ H' {s with heap:=h',gens:=g',drawn:=d',toks:=t'}:=by
 h neL:∀ b o,X.s₀.heap.get? b=some o->b≠X.env.locals:=fun b o e=>Nat.ne_of_lt (Nat.lt_of_lt_of_le (Heap.lt_size e) I.ok.above);h neC:∀ b o,X.s₀.heap.get? b=some o->b∉X.ex->b∉ch:=fun b o e hx hb=>by
  rcases (hch b hb).1 with z | z
  ·!hx z
  ·!absurd (Nat.lt_of_lt_of_le (Heap.lt_size e) z) (Nat.lt_irrefl _)
 h cellK:∀ x c,X.env.cells.lookup x=some c->∀ v,s.heap.IsCell c v->h'.IsCell c v:=fun x c e v ⟨o,ho,hd⟩=>by
  h nch:c∉ch:=fun z=>(hch c z).2.2.1 x c e rfl;by_cases hc:c∈X.fs
  ·o⟨sl,q⟩:=slot c o (I.cne x c e) hc nch ho (I.freeC x c e)
   !⟨_,q,hd⟩
  ·!⟨o,keep c o (I.cne x c e) hc nch ho (I.freeC x c e),hd⟩
 r⟨I.ok,I.os,hg,⟨fun b o e n hb hx=>?_,fun b o e n hb hx=>?_,fun b o e n hx=>?_,fun b o e hx=>?_,fun b xs e=>tups b xs (I.base.tups b xs e),fun b o xs e=>frzs b o xs (I.base.frzs b o xs e),fun b ps e=>?_⟩,?_,fun x c e=>?_,?_,fun x c e=>?_,fun p hp=>?_,hok,I.len⟩
 ·!keep b o (neL b o e) hb (neC b o e hx) (I.base.keep b o e n hb hx) (I.base.free b o e n hx)
 ·o⟨sl,e1⟩:=I.base.slot b o e n hb hx
  o⟨sl',e2⟩:=slot b _ (neL b o e) hb (neC b o e hx) e1 (I.base.free b o e n hx);!⟨sl',e2⟩
 ·o⟨o',e1⟩:=I.base.there b o e hx
  !free b o' (neC b o e hx) e1 (I.base.free b o e n hx)
 ·o⟨o',e1⟩:=I.base.there b o e hx
  !there b o' (neC b o e hx) e1
 ·o⟨m1,e1⟩:=I.base.tbls b ps e
  o⟨m2,e2⟩:=tbls b _ e1;!⟨m1++m2,by rw[e2,Array.append_assoc]⟩
 ·o⟨m,hn,hl⟩:=I.loc
  r⟨m,ns m hn,fun i x v e1 e2 e3=>?_⟩;o⟨u,r,l⟩:=hl i x v e1 e2 e3;r⟨u,r,?_⟩;rcases l with l | ⟨k,c,e,z⟩
  ·!.inl l
  ·!.inr ⟨k,c,e,cellK x c e _ z⟩
 ·o⟨v,z⟩:=I.cell x c e
  !⟨v,cellK x c e v z⟩
 ·o⟨m,⟨o,_,_,ho,_⟩,_⟩:=I.loc
  !free _ o (fun z=>(hch _ z).2.1 rfl) ho I.free
 ·o⟨v,o,ho,hd⟩:=I.cell x c e
  !free c o (fun z=>(hch c z).2.2.1 x c e rfl) ho (I.freeC x c e)
 ·o⟨e,n,ne,nf,d⟩:=I.pin p hp
  h nch:p.1∉ch:=fun z=>(hch p.1 z).2.2.2 p hp rfl;!⟨keep p.1 p.2 ne nf nch e n,free p.1 p.2 nch e n,ne,nf,d⟩
theorem Inv.un{t':Nat}(I:Inv X pins σ H s)(u:Un X.fs [] H H' s.heap h')(hok:HOk X.prog X.w H' h'):Inv X pins σ H' {s with heap:=h',toks:=t'}:=by
 o⟨m,⟨o,es,ep,ho,r⟩,_⟩:=id I.loc;o⟨sl,hL⟩:=u.any ho I.free ¥;!I.step (g':=s.gens) (d':=s.drawn) (ch:=[]) (fun _ z=>nomatch z) (fun b o _ hb _ e n=>u.keep b o e n hb ¥) (fun b o _ hb _ e n=>u.slot b o e n hb ¥) (fun b o _ e n=>u.free b o e n ¥) (fun b o _ e=>u.there b o e ¥) u.tups u.frzs u.tbls (fun m' hm=>by
  o⟨o',es',ep',ho',r'⟩:=hm;rw[ho] at ho';cases ho';!⟨_,es',ep',hL,r'⟩) hok I.bare
theorem Inv.call{g':Array GenState}{t':Nat}{d':Drawn}{ch:List Addr}(I:Inv X pins σ H s)(u:Un (frs X.stack) ch H H' s.heap h')(hok:HOk X.prog X.w H' h')(hg:AllBare g')
  (hch:∀ b∈ch,(b∈X.ex\/X.s₀.heap.objs.size<=b)/\b≠X.env.locals/\(∀ x c,X.env.cells.lookup x=some c->c≠b)/\∀ p∈X.pn++pins,p.1≠b) :
  Inv X pins σ H' {s with heap:=h',gens:=g',drawn:=d',toks:=t'}:=by
 o⟨m,⟨o,es,ep,ho,r⟩,_⟩:=id I.loc;o⟨sl,hL⟩:=u.any ho I.free fun z=>(hch _ z).2.1 rfl;!I.step (ch:=ch) hch (fun b o hL hb hc e n=>u.keep b o e n (fun z=>(┃ (I.stkSub b z)).elim hL hb) hc) (fun b o _ _ hc e n=>u.any e n hc) (fun b o hc e n=>u.free b o e n hc) (fun b o hc e=>u.there b o e hc) u.tups u.frzs u.tbls (fun m' hm=>by
  o⟨o',es',ep',ho',r'⟩:=hm;rw[ho] at ho';cases ho';!⟨_,es',ep',hL,r'⟩) hok hg
theorem Inv.turned{t':Nat}{it:Addr}(I:Inv X pins σ H s)(k:∀ b o,b≠it->s.heap.get? b=some o->h'.get? b=some o)(hn:H it=none)(hL:it≠X.env.locals)
  (h1:it∈X.ex\/X.s₀.heap.objs.size<=it) (h2:∀ x c,X.env.cells.lookup x=some c->c≠it) (h3:∀ p∈X.pn++pins,p.1≠it):Inv X pins σ H {s with heap:=h',toks:=t'}:=by
 h nit:∀ b u,H b=some u->b≠it:=fun b u e z=>by rw[z,hn] at e;cases e
 r I.step (g':=s.gens) (d':=s.drawn) (ch:=[it]) (fun b hb=>?_) (fun b o _ _ hc e _=>k b o (fun z=>hc (by simp[z])) e) (fun b o _ _ hc e _=>⟨o.slots,k b o (fun z=>hc (by simp[z])) e⟩) (fun _ _ _ _ n=>n)
  (fun b o hc e=>⟨o,k b o (fun z=>hc (by simp[z])) e⟩) (fun _ _ e=>e) (fun _ _ _ e=>e) (fun b ps e=>⟨#[],by rw[e];simp⟩) (fun m hm=>?_) (fun b u e=>?_) I.bare
 ·h e:b=it:=by u hb
  subst e;!⟨h1,hL,h2,h3⟩
 ·o⟨o,es,ep,ho,r⟩:=hm
  !⟨o,es,ep,k _ o (Ne.symm hL) ho,r⟩
 ·r(I.hok b u e).stay (fun c v hc q=>k c v ?_ q) (fun _ q=>q) fun _ _ q=>q
  rcases hc with z | z
  ·rw[z];!nit b u e
  ·!nit c _ z
theorem Inv.tok(I:Inv X pins σ H s)(t:Nat):Inv X pins σ H {s with toks:=t}:=I.un (h':=s.heap) (t':=t) Un.refl I.hok
theorem Inv.kept{t':Nat}(I:Inv X pins σ H s)(k:∀ b u,s.heap.get? b=some u->h'.get? b=some u):Inv X pins σ H {s with heap:=h',toks:=t'}:=I.un (Un.kept k) (I.hok.kept k)
theorem Inv.laid{a:Addr}{o:HO}{t':Nat}(I:Inv X pins σ H s)(k:∀ b u,s.heap.get? b=some u->h'.get? b=some u)(hp:¸<=a)(new:ObjOk X.prog X.w (upd H a o) h' a o) :
  Inv X pins σ (upd H a o) {s with heap:=h',toks:=t'}:=I.un (Un.laid k hp (I.hok.fresh hp)) (I.hok.laid k hp new)
theorem Inv.write{x e:Addr}{o:HO}{t':Nat}(I:Inv X pins σ H s)(mu:Mut (H x))(he:e=x\/H e=some (.own x))(k:∀ b u,b≠e->s.heap.get? b=some u->h'.get? b=some u)(heo:∃ u,h'.get? e=some u)
  (new:ObjOk X.prog X.w (upd H x o) h' x o):Inv X pins σ (upd H x o) {s with heap:=h',toks:=t'}:=I.un (Un.write mu he k heo) (I.hok.write mu he k heo new)
theorem Inv.pins_of{pins':List ⑥}(I:Inv X pins σ H s)(h:∀ p∈pins',s.heap.get? p.1=some p.2/\H p.1=none/\p.1≠X.env.locals/\p.1∉X.fs/\∀ v,p.2.data≠.cell v):Inv X pins' σ H s :=
 ⟨I.ok,I.os,I.bare,I.base,I.loc,I.cell,I.free,I.freeC,fun p hp=>(List.mem_append.mp hp).elim (fun z=>I.pin p (List.mem_append_left _ z)) (h p),I.hok,I.len⟩
theorem TX{N:List Str}(hN:N.Nodup){i j:Nat}{x:Str}(a:N[i]?=some x)(b:N[j]?=some x):i=j:=by
 o⟨h1,e1⟩:=━ a;o⟨h2,e2⟩:=━ b;!(List.getElem_inj hN).mp (e1.trans e2.symm)
theorem Oo{M:Model}{A:Around}{E:Value->Shared->Prop}{i:Nat}{x:Str}{v:V}{u:Value}{Q:Unit->Shared->Prop}(I:Inv X pins σ H s)(hN:X.N.Nodup)(hi:X.N[i]?=some x)(hx:Loc X.env.scope x)(r:RelV v u)
  (h:∀ s',Inv X pins (σ.set i (some v)) H s'->(∃ a,Heap.SameBut a s.heap s'.heap/\(a=X.env.locals\/X.env.cells.lookup x=some a))->Q () s') (hf:X.fn x=true\/X.env.scope.names.lookup x=some .local:=by first | !.inl rfl | !.inr rfl | assumption):wpAny M A (storeName X.env x u) Q E s:=by
 o⟨m,hn,hl⟩:=id I.loc;h hcls:(X.env.scope.kind == .class||(X.env.scope.kind == .module&&X.env.locals != X.env.globals))=false:=by rw[I.ok.kind];rfl
 h hiσ:i<σ.length:=by rw[I.len];!(━ hi).1
 h cne:=I.cne;h tracked:∀{a:Addr}{h':Heap},(∃ o,s.heap.get? a=some o/\H a=none)->Heap.SameBut a s.heap h'->HOk X.prog X.w H h':=fun {a h'} ha hs b ob e=>by
  o⟨_,_,hfree⟩:=ha;r(I.hok b ob e).stay (fun c w' hc q=>(hs.2 c ?_).trans q) (fun _ q=>q) fun _ _ q=>q;rintro rfl;rcases hc with rfl | hc
  ·rw[hfree] at e;cases e
  ·rw[hfree] at hc;cases hc
 rcases hx with hk | hk
 ·r wpAny_storeName_local hk hn (fun h' hn' hs=>?_) hcls
  o⟨oL,_,_,hoL,_⟩:=id hn;r h _ ⟨I.ok,I.os,I.bare,⟨fun b o e n hb hx=>?_,fun b o e n hb hx=>?_,I.base.free,fun b o e hx=>?_,I.base.tups,I.base.frzs,I.base.tbls⟩,⟨_,hn',fun j y v' e1 e2 e3=>?_⟩,fun y c e=>?_,I.free,I.freeC,fun p hp=>?_,tracked ⟨oL,hoL,I.free⟩ hs,by u I.len⟩ ⟨_,hs,.inl rfl⟩
  ·!(hs.2 b (Nat.ne_of_lt (Nat.lt_of_lt_of_le (Heap.lt_size e) I.ok.above))).trans (I.base.keep b o e n hb hx)
  ·o⟨sl,e1⟩:=I.base.slot b o e n hb hx
   !⟨sl,(hs.2 b (Nat.ne_of_lt (Nat.lt_of_lt_of_le (Heap.lt_size e) I.ok.above))).trans e1⟩
  ·o⟨o',e1⟩:=I.base.there b o e hx
   !⟨o',(hs.2 b (Nat.ne_of_lt (Nat.lt_of_lt_of_le (Heap.lt_size e) I.ok.above))).trans e1⟩
  ·by_cases hj:j=i
   ·subst hj
    rw[hi] at e1;cases e1;rw[List.getElem?_set_self hiσ] at e2;cases e2;!⟨u,r,.inl ⟨hk,by simp⟩⟩
   ·rw[List.getElem?_set_ne (Ne.symm hj)] at e2
    o⟨u',r',q⟩:=hl j y v' e1 e2 e3;r⟨u',r',?_⟩;rcases q with⟨k,e⟩ | ⟨k,c,e,z⟩
    ·r .inl ⟨k,?_⟩
     have:y≠x:=fun e=>hj (TX hN e1 (e ▸ hi));simp[this,e]
    ·!.inr ⟨k,c,e,z.sameBut hs (cne y c e)⟩
  ·o⟨w',z⟩:=I.cell y c e
   !⟨w',z.sameBut hs (cne y c e)⟩
  ·o⟨e,n,ne,nf,d⟩:=I.pin p hp
   !⟨(hs.2 p.1 ne).trans e,n,ne,nf,d⟩
 ·h hfn:X.fn x=true:=by
   rcases hf with z | z
   ·!z
   ·rw[z] at hk;cases hk
  o⟨c,hc⟩:=I.ok.has x (.inl hk);o⟨w',z⟩:=I.cell x c hc;r wpAny_storeName_cell I.ok.kind hk hc z (fun h' hc' hs=>?_);o⟨oc,hoc,hocd⟩:=id z;r h {s with heap:=h'} ⟨I.ok,I.os,I.bare,⟨fun b o e n hb hx=>?_,fun b o e n hb hx=>?_,I.base.free,fun b o e hx=>?_,I.base.tups,I.base.frzs,I.base.tbls⟩,⟨m,hn.sameBut hs (Ne.symm (cne x c hc)),fun j y v' e1 e2 e3=>?_⟩,fun y c' e=>?_,I.free,I.freeC,fun p hp=>?_,tracked ⟨oc,hoc,I.freeC x c hc⟩ hs,by u I.len⟩ ⟨c,hs,.inr hc⟩
  ·!(hs.2 b (Nat.ne_of_lt (Nat.lt_of_lt_of_le (Heap.lt_size e) (I.ok.cab x c hfn hc)))).trans (I.base.keep b o e n hb hx)
  ·o⟨sl,e1⟩:=I.base.slot b o e n hb hx
   !⟨sl,(hs.2 b (Nat.ne_of_lt (Nat.lt_of_lt_of_le (Heap.lt_size e) (I.ok.cab x c hfn hc)))).trans e1⟩
  ·o⟨o',e1⟩:=I.base.there b o e hx
   !⟨o',(hs.2 b (Nat.ne_of_lt (Nat.lt_of_lt_of_le (Heap.lt_size e) (I.ok.cab x c hfn hc)))).trans e1⟩
  ·by_cases hj:j=i
   ·subst hj
    rw[hi] at e1;cases e1;rw[List.getElem?_set_self hiσ] at e2;cases e2;!⟨u,r,.inr ⟨.inl hk,c,hc,hc'⟩⟩
   ·rw[List.getElem?_set_ne (Ne.symm hj)] at e2
    o⟨u',r',q⟩:=hl j y v' e1 e2 e3;r⟨u',r',?_⟩;rcases q with q | ⟨k,c',e,z'⟩
    ·!.inl q
    ·r .inr ⟨k,c',e,z'.sameBut hs ?_⟩
     rintro rfl;!hj (TX hN e1 (I.ok.inj _ _ _ e hc ▸ hi))
  ·by_cases hcc:c'=c
   ·subst hcc;!⟨_,hc'⟩
   ·o⟨w2,z2⟩:=I.cell y c' e
    !⟨w2,z2.sameBut hs hcc⟩
  ·o⟨e,n,ne,nf,d⟩:=I.pin p hp
   r⟨(hs.2 p.1 ?_).trans e,n,ne,nf,d⟩;intro q;rw[q,hoc] at e;h q':oc=p.2:=Option.some.inj e;!d w' (by rw[<- q'];!hocd)
theorem Rm{M:Model}{A:Around}{E:Value->Shared->Prop}{i:Nat}{x:Str}{v:V}{u:Value}{Q:Unit->Shared->Prop}(I:Inv X pins σ H s)(hN:X.N.Nodup)(hi:X.N[i]?=some x)(hx:Loc X.env.scope x)(r:RelV v u)
  (h:∀ s',Inv X pins (σ.set i (some v)) H s'->Q () s') (hf:X.fn x=true\/X.env.scope.names.lookup x=some .local:=by first | !.inl rfl | !.inr rfl | assumption):wpAny M A (storeName X.env x u) Q E s :=
 Oo I hN hi hx r (fun s' I' _=>h s' I') hf
theorem Inv.call'{s':Shared}{ch:List Addr}(I:Inv X pins σ H s)(ho:s'.os=s.os)(u:Un (frs X.stack) ch H H' s.heap s'.heap)(hok:HOk X.prog X.w H' s'.heap)(hg:AllBare s'.gens)
  (hch:∀ b∈ch,(b∈X.ex\/X.s₀.heap.objs.size<=b)/\b≠X.env.locals/\(∀ x c,X.env.cells.lookup x=some c->c≠b)/\∀ p∈X.pn++pins,p.1≠b):Inv X pins σ H' s':=by
 o⟨h',g',d',t',o'⟩:=s';h e:o'=s.os:=ho;subst e;!I.call (g':=g') (t':=t') (d':=d') u hok hg hch
end
abbrev XK:=Value->Option Addr->Hp->Prop
abbrev St:=List (Option V)
abbrev VK:=V->Hp->Prop
abbrev TE:=St->Hp->VK->Prop
abbrev TT:=St->Hp->(Bool->Hp->Prop)->Prop
abbrev TA:=St->Hp->(List V->Hp->Prop)->Prop
structure Ends where
 nx:St->Hp->Prop
 rt:VK
 bk:St->Hp->Prop:=fun _ _=>False
 ct:St->Hp->Prop:=fun _ _=>False
abbrev TS:=Ends->St->Hp->Prop
def EP(X:Cx)(pins:List ⑥)(σ:St)(Q:VK)(u:Value)(s':Shared):Prop:=∃ v H',Inv X pins σ H' s'/\RelV v u/\Q v H'
def TP(X:Cx)(pins:List ⑥)(σ:St)(Q:Bool->Hp->Prop)(b:Bool)(s':Shared):Prop:=∃ H',Inv X pins σ H' s'/\Q b H'
def AP(X:Cx)(pins:List ⑥)(σ:St)(Q:List V->Hp->Prop)(us:List Value)(s':Shared):Prop:=∃ vs H',Inv X pins σ H' s'/\Vals vs us/\Q vs H'
def SP(X:Cx)(pins:List ⑥)(D:Ends)(f:Flow)(s':Shared):Prop :=
 match f with
 | .next=>∃ σ' H',Inv X pins σ' H' s'/\D.nx σ' H'
 | .brk=>∃ σ' H',Inv X pins σ' H' s'/\D.bk σ' H'
 | .cont=>∃ σ' H',Inv X pins σ' H' s'/\D.ct σ' H'
 | .ret u=>∃ v σ' H',Inv X pins σ' H' s'/\RelV v u/\D.rt v H'
def PE(X:Cx)(e:Expr)(t:TE):Prop :=
 ∀(pins:List ⑥) (s:Shared) (σ:St) (H:Hp) (Q:VK),Inv X pins σ H s->t σ H Q->wpAny ③ X.A (eval e X.env) (EP X pins σ Q) X.xe s
def PT(X:Cx)(e:Expr)(t:TT):Prop :=
 ∀(pins:List ⑥) (s:Shared) (σ:St) (H:Hp) (Q:Bool->Hp->Prop),Inv X pins σ H s->t σ H Q->wpAny ③ X.A (isTrue e X.env (eval e X.env)) (TP X pins σ Q) X.xe s
def PW(X:Cx)(e:Expr)(t:TT):Prop :=
 ∀(whole:Sem Value) (pins:List ⑥) (s:Shared) (σ:St) (H:Hp) (Q:Bool->Hp->Prop),Inv X pins σ H s->t σ H Q->wpAny ③ X.A (isTrue e X.env whole) (TP X pins σ Q) X.xe s
theorem PW.pt{X:Cx}{e:Expr}{t:TT}(h:PW X e t):PT X e t:=h _
def PA(X:Cx)(es:List Expr)(t:TA):Prop :=
 ∀(pos:Pos) (pins:List ⑥) (s:Shared) (σ:St) (H:Hp) (Q:List V->Hp->Prop),Inv X pins σ H s->t σ H Q->wpAny ③ X.A (spliced (backTo pos (starEach es X.env))) (AP X pins σ Q) X.xe s
def PS(X:Cx)(st:Stmt)(t:TS):Prop :=
 ∀(pins:List ⑥) (s:Shared) (σ:St) (H:Hp) (D:Ends),Inv X pins σ H s->t D σ H->wpAny ③ X.A (exec st X.env) (SP X pins D) X.xe s
def PSs(X:Cx)(st:List Stmt)(t:TS):Prop :=
 ∀(pins:List ⑥) (s:Shared) (σ:St) (H:Hp) (D:Ends),Inv X pins σ H s->t D σ H->wpAny ③ X.A (execs st X.env) (SP X pins D) X.xe s
theorem thn{α:Type}{t:Sem α}{Q Q':α->Shared->Prop}{M:Model}{A:Around}{E:Value->Shared->Prop}{s:Shared}(h:wpAny M A t Q E s)(hQ:∀ a s,Q a s->Q' a s):wpAny M A t Q' E s:=wpAny_mono h hQ fun _ _ x=>x
section
variable{X:Cx}
def AFu(i:Nat):TE:=fun σ H Q=>∃ v,σ[i]?=some (some v)/\Q v H
def tC(v:V):TE:=fun _ H Q=>Q v H
theorem AEj{i:Nat}{x:Str}{pos:Pos}(hN:X.N[i]?=some x)(hv:Vis X.env.scope x)(hd:(x==("__debug__" : Str))=false:=by decide)(hcd:(x==("__classdict__" : Str))=false:=by decide):PE X (.Name x pos) (AFu i):=by
 intro pins s σ H Q I h;o⟨v,e,h⟩:=h;o⟨m,hn,hl⟩:=I.loc;o⟨u,r,l⟩:=hl i x v hN e hv;h fin:EP X pins σ Q u s:=⟨v,H,I,r,h⟩;rcases l with⟨hk,hm⟩ | ⟨hk,c,hc,hcell⟩
 ·!wpAny_Name (wpAny_loadName_local I.ok.kind hk hn hm fin) hd
 ·rcases hk with hk | hk
  ·!wpAny_Name (wpAny_loadName_cell I.ok.kind hk hc hcell fin) hd
  ·!wpAny_Name (wpAny_loadName_free I.ok.kind hk hc hcell fin hcd) hd
theorem Ah{i j pos}:PE X (.Constant (.int i) j pos) (tC (.int i)):=fun _ _ _ H _ I h=>wpAny_Constant_int ⟨.int i,H,I.tok _,⟨_,rfl⟩,h⟩
theorem KJ{b j pos}:PE X (.Constant (.bool b) j pos) (tC (.bl b)):=fun _ _ _ H _ I h=>Constant_bool ⟨.bl b,H,I,rfl,h⟩
theorem ACJ{j pos}:PE X (.Constant .none j pos) (tC .non):=fun _ _ _ H _ I h=>Constant_none ⟨.non,H,I,rfl,h⟩
def Gl(X:Cx)(x:Str):Prop:=X.env.kindOf x=some .globalImplicit
theorem Jq{E:Value->Shared->Prop}{pins:List ⑥}{s:Shared}{σ:St}{H:Hp}{x:Str}{u:Value}{pos:Pos}{Q:Value->Shared->Prop}(I:Inv X pins σ H s)(hg:Gl X x)(hm:X.mg x=some u)(h:Q u s)
  (hd:(x==("__debug__" : Str))=false:=by decide):wpAny ③ X.A (eval (.Name x pos) X.env) Q E s :=
 Calls.Name_function_global I.ok.kind hg (Calls.loadGlobal_global (by rw[I.ok.glob];!I.mod.glob.keeps I.bk) hm h) hd
theorem Eb{E:Value->Shared->Prop}{pins:List ⑥}{s:Shared}{σ:St}{H:Hp}{x:Str}{u:Value}{pos:Pos}{Q:Value->Shared->Prop}(I:Inv X pins σ H s)(hg:Gl X x)(hm:X.mg x=none)(hv:bootBuiltins x=some u)(h:Q u s)
  (hn:x≠"__name__":=by decide) (hd:(x==("__debug__" : Str))=false:=by decide):wpAny ③ X.A (eval (.Name x pos) X.env) Q E s:=by
 o⟨mb,h1,h2⟩:=I.mod.blt;!Calls.Name_function_global I.ok.kind hg (Calls.loadGlobal_builtin (by rw[I.ok.glob];!I.mod.glob.keeps I.bk) hm (by rw[I.ok.blt];!h1.keeps I.bk) ((h2 x hn).trans hv) h) hd
theorem Jp{x:Str}{v:V}{u:Value}{pos:Pos}(hg:Gl X x)(hm:X.mg x=some u)(r:RelV v u)(hd:(x==("__debug__" : Str))=false:=by decide):PE X (.Name x pos) (tC v) :=
 fun _ _ _ H _ I h=>Jq I hg hm ⟨v,H,I,r,h⟩ hd
theorem ADa{x:Str}{v:V}{u:Value}{pos:Pos}(hg:Gl X x)(hm:X.mg x=none)(hv:bootBuiltins x=some u)(r:RelV v u)(hn:x≠"__name__":=by decide)(hd:(x==("__debug__" : Str))=false:=by decide):PE X (.Name x pos) (tC v) :=
 fun _ _ _ H _ I h=>Eb I hg hm hv ⟨v,H,I,r,h⟩ hn hd
variable{a b:Expr}{ta tb:TE}{pos:Pos}
def PC(X:Cx)(op:CmpOp)(a b:Expr)(t:TE):Prop :=
 ∀(pins:List ⑥) (s:Shared) (σ:St) (H:Hp) (Q:VK),Inv X pins σ H s->t σ H Q ->
  wpAny ③ X.A (eval a X.env) (fun v s₁=>wpAny ③ X.A (eval b X.env) (fun u s₂=>wpAny ③ X.A (compareOp op v u) (EP X pins σ Q) X.xe s₂) X.xe s₁) X.xe s
theorem ABu(b:Expr){op:CmpOp}(h:op≠.In)(h2:op≠.NotIn):behindInMarks op b=false:=by
 h e1:(op==CmpOp.In)=false:=by cases op<;>first | rfl | !absurd rfl h
 h e2:(op==CmpOp.NotIn)=false:=by cases op<;>first | rfl | !absurd rfl h2
 cases b<;>simp[behindInMarks,e1,e2]
def AGK(ta:TE):TE:=fun σ H Q=>ta σ H fun x H1=>Q (.bl (decide (x=.non))) H1
def AFm(ta:TE):TE:=fun σ H Q=>ta σ H fun x H1=>Q (.bl (!decide (x=.non))) H1
theorem RelV.none_iff{x:V}{v:Value}(r:RelV x v):(v==Value.none)=decide (x=.non):=by
 cases x with
 | non=>cases r;rfl
 | bl _=>cases r;rfl
 | int _=>o⟨t,rfl⟩:=r;rfl
 | str _=>o⟨t,rfl⟩:=r;rfl
 | byt _=>o⟨t,rfl⟩:=r;rfl
 | flt _=>o⟨t,rfl⟩:=r;rfl
 | ref _=>cases r;rfl
 | ty _=>cases r;rfl
theorem AEz{j pos'}(ha:PE X a ta):PC X .Is a (.Constant .none j pos') (AGK ta):=by
 intro pins s σ H Q I h;r thn (ha pins s σ H _ I h) fun v s1 ⟨x,H1,I1,r1,q1⟩=>?_;!Constant_none (is_none_gen ⟨.bl _,H1,I1,by rw[r1.none_iff];rfl,q1⟩)
theorem ACy{j pos'}(ha:PE X a ta):PC X .IsNot a (.Constant .none j pos') (AFm ta):=by
 intro pins s σ H Q I h;r thn (ha pins s σ H _ I h) fun v s1 ⟨x,H1,I1,r1,q1⟩=>?_;!Constant_none (isnot_none_gen ⟨.bl _,H1,I1,by rw[r1.none_iff];rfl,q1⟩)
def tB(t:TE):TT:=fun σ H Q=>t σ H fun x H1=>∃ c,x=.bl c/\Q c H1
theorem Ka{op:CmpOp}{t:TE}(h:PC X op a b t)(h1:behindInMarks op b=false:=by first | !ABu _ ¤ ¤ | rfl):PT X (.Compare a [op] [b] pos) (tB t):=by
 intro pins s σ H Q I hw;r wpAny_isTrue_Compare1 (thn (h pins s σ H _ I hw) fun v s1 h1=>thn h1 fun u s2 h2=>thn h2 fun c s3 ⟨x,H1,I1,r1,q1⟩=>?_) h1;o⟨d,rfl,q⟩:=q1;cases r1;!wpAny_truthy_bool ⟨H1,I1,q⟩
theorem Lk{e:Expr}{t:TE}(h:PE X e t)(he:∀ whole,isTrue e X.env whole=(do let v <- whole;standAt e.pos;holding [v] (truthy v)):=by intro _;rfl):PT X e (tB t):=by
 intro pins s σ H Q I hw;r isTrue_plain (thn (h pins s σ H _ I hw) fun v s1 ⟨x,H1,I1,r1,q1⟩=>?_) (he _);o⟨d,rfl,q⟩:=q1;cases r1;!wpAny_truthy_bool ⟨H1,I1,q⟩
variable{tA tB':TT}{rest:List Expr}
def AGc(t u:TT):TT:=fun σ H Q=>t σ H fun c H1=>if c=true then u σ H1 Q else Q false H1
def tOr(t u:TT):TT:=fun σ H Q=>t σ H fun c H1=>if c=true then Q true H1 else u σ H1 Q
def AGd(t:TT):TT:=fun σ H Q=>t σ H fun c H1=>Q (!c) H1
theorem WR(ha:PT X a tA):PW X (.BoolOp .And [a] pos) tA:=by
 intro wh pins s σ H Q I h;r isTrue_and (thn (ha pins s σ H Q I h) fun c s1 e=>?_);cases c with
 | true=>!isTrue_and_nil e
 | false=>!e
theorem HW(ha:PT X a tA):PW X (.BoolOp .Or [a] pos) tA:=by
 intro wh pins s σ H Q I h;r isTrue_or (thn (ha pins s σ H Q I h) fun c s1 e=>?_);cases c with
 | false=>!isTrue_or_nil e
 | true=>!e
theorem ACT(ha:PT X a tA)(hb:PW X (.BoolOp .And (b::rest) pos) tB'):PW X (.BoolOp .And (a::b::rest) pos) (AGc tA tB'):=by
 intro wh pins s σ H Q I h;r isTrue_and (thn (ha pins s σ H _ I h) fun c s1 ⟨H1,I1,q1⟩=>?_);cases c with
 | true=>!hb wh pins s1 σ H1 Q I1 q1
 | false=>!⟨H1,I1,q1⟩
theorem Jf(ha:PT X a tA)(hb:PW X (.BoolOp .Or (b::rest) pos) tB'):PW X (.BoolOp .Or (a::b::rest) pos) (tOr tA tB'):=by
 intro wh pins s σ H Q I h;r isTrue_or (thn (ha pins s σ H _ I h) fun c s1 ⟨H1,I1,q1⟩=>?_);cases c with
 | true=>!⟨H1,I1,q1⟩
 | false=>!hb wh pins s1 σ H1 Q I1 q1
theorem QV(ha:PT X a tA):PT X (.UnaryOp .Not a pos) (AGd tA):=by
 intro pins s σ H Q I h;!isTrue_not (ha pins s σ H (fun c H1=>Q (!c) H1) I h)
def AFo(ta tb:TE):TE:=fun σ H Q=>ta σ H fun x H1=>∃ c,x=.bl c/\if c=true then tb σ H1 Q else Q (.bl false) H1
theorem VD{op}{t:TE}(h:PE X a t):PE X (.BoolOp op [a] pos) t:=fun pins s σ H Q I hw=>BoolOp_one (h pins s σ H Q I hw)
theorem UW(ha:PE X a ta)(hb:PE X (.BoolOp .And (b::rest) pos) tb):PE X (.BoolOp .And (a::b::rest) pos) (AFo ta tb):=by
 intro pins s σ H Q I h;r BoolOp_and (thn (ha pins s σ H _ I h) fun v s1 ⟨x,H1,I1,r1,q1⟩=>?_);o⟨c,rfl,q1⟩:=q1;cases r1;r wpAny_truthy_bool ?_;cases c with
 | true=>!hb pins s1 σ H1 Q I1 q1
 | false=>!⟨.bl false,H1,I1,rfl,q1⟩
def tIf(t:TT)(ta tb:TE):TE:=fun σ H Q=>t σ H fun c H1=>if c=true then ta σ H1 Q else tb σ H1 Q
theorem Hx{c:Expr}(hc:PT X c tA)(ha:PE X a ta)(hb:PE X b tb):PE X (.IfExp c a b pos) (tIf tA ta tb):=by
 intro pins s σ H Q I h;r wpAny_IfExp (thn (hc pins s σ H _ I h) fun d s1 ⟨H1,I1,q1⟩=>?_);cases d with
 | true=>!ha pins s1 σ H1 Q I1 q1
 | false=>!hb pins s1 σ H1 Q I1 q1
end
def SqL(K:¨)(H:Hp)(a:Addr)(xs:List V):Prop :=
 Rd H a (.lst xs) \/
  ∃(o:Obj) (its:Array Value) (n:Nat),K.lookup a=some o/\o.cls=.type "list"/\o.dict=none/\o.data=.seq its n/\its.size<=sizeLine/\Vals xs its.toList
def SqT(K:¨)(H:Hp)(a:Addr)(xs:List V):Prop :=
 Rd H a (.tup xs) \/
  ∃(o:Obj) (its:Array Value) (n:Nat),K.lookup a=some o/\o.cls=.type "tuple"/\o.data=.seq its n/\its.size<=sizeLine/\Vals xs its.toList
def absV:Value->Option V
 | .none=>some .non
 | .bool b=>some (.bl b)
 | .int i _=>some (.int i)
 | .str x _=>some (.str x)
 | .bytes b _=>some (.byt b)
 | .float b _=>some (.flt b)
 | .ref a=>some (.ref a)
 | .type n=>some (.ty n)
 | _=>none
theorem RelV.abs{x:V}{u:Value}(r:RelV x u):absV u=some x:=by
 cases x with
 | non=>cases r;rfl
 | bl _=>cases r;rfl
 | int _=>o⟨t,rfl⟩:=r;rfl
 | str _=>o⟨t,rfl⟩:=r;rfl
 | byt _=>o⟨t,rfl⟩:=r;rfl
 | flt _=>o⟨t,rfl⟩:=r;rfl
 | ref _=>cases r;rfl
 | ty _=>cases r;rfl
theorem RelV.inj{x y:V}{u:Value}(r:RelV x u)(q:RelV y u):x=y:=Option.some.inj (r.abs.symm.trans q.abs)
theorem Vals.inj:∀{xs ys:List V}{us:List Value},Vals xs us->Vals ys us->xs=ys
 | _,_,_,.nil,.nil=>rfl
 | _,_,_,.cons r t,.cons r' t'=>by rw[r.inj r',Vals.inj t t']
section
variable{X:Cx}{pins:List ⑥}{σ:St}{H:Hp}{s:Shared}{a:Addr}{xs ys:List V}
theorem SqL.of{K:¨}(h:H a=some (.lst xs)):SqL K H a xs:=.inl (.inl h)
theorem SqT.of{K:¨}(h:H a=some (.tup xs)):SqT K H a xs:=.inl (.inl h)
theorem Inv.list(I:Inv X pins σ H s)(h:SqL X.K H a xs):∃ its:List Value,Vals xs its/\PlainL s.heap a its.toArray/\xs.length<=sizeLine:=by
 rcases h with h | ⟨o,its,n,hk,hc,hd,hs,hz,r⟩
 ·o⟨z,its,n,r,e⟩:=h.ok I.hok
  !⟨its,r,⟨_,n,e,rfl,rfl,rfl⟩,z⟩
 ·r⟨its.toList,r,⟨o,n,I.kIn a o hk,hc,hd,by u hs⟩,?_⟩
  h e:=r.length;simp only[Array.length_toList] at e;w
theorem Inv.tuple(I:Inv X pins σ H s)(h:SqT X.K H a xs):∃ its:List Value,Vals xs its/\IsTup s.heap a its.toArray/\xs.length<=sizeLine:=by
 rcases h with h | ⟨o,its,n,hk,hc,hs,hz,r⟩
 ·o⟨z,its,r,p⟩:=h.ok I.hok
  !⟨its,r,p,z⟩
 ·r⟨its.toList,r,⟨o,I.kIn a o hk,hc,n,by u hs⟩,?_⟩
  h e:=r.length;simp only[Array.length_toList] at e;w
theorem Inv.list_inj(I:Inv X pins σ H s)(h:SqL X.K H a xs)(h':SqL X.K H a ys):xs=ys:=by
 o⟨its,r,⟨o,n,e,_,_,d⟩,_⟩:=I.list h;o⟨its',r',⟨o',n',e',_,_,d'⟩,_⟩:=I.list h';rw[e] at e';cases e';rw[d] at d';injection d' with d1 _
 have:its=its':=by u congrArg Array.toList d1
 subst this;!r.inj r'
theorem Inv.tuple_inj(I:Inv X pins σ H s)(h:SqT X.K H a xs)(h':SqT X.K H a ys):xs=ys:=by
 o⟨its,r,⟨o,e,_,n,d⟩,_⟩:=I.tuple h;o⟨its',r',⟨o',e',_,n',d'⟩,_⟩:=I.tuple h';rw[e] at e';cases e';rw[d] at d';injection d' with d1 _
 have:its=its':=by u congrArg Array.toList d1
 subst this;!r.inj r'
end
abbrev Cx.wish(X:Cx)(E:Value->Shared->Prop):Cx:={X with xe:=E}
abbrev Cx.nox(X:Cx):Cx:=X.wish fun _ _=>False
theorem Cx.Ok.wish{X:Cx}(ok:X.Ok)(E:Value->Shared->Prop):(X.wish E).Ok :=
 ⟨ok.mod,ok.kind,ok.glob,ok.blt,ok.above,ok.inj,ok.has,ok.cab,ok.hd,ok.frames,ok.stk,ok.exf,ok.bs,ok.bsz,ok.noex,ok.exfs,ok.funs,ok.frf⟩
theorem Cx.Ok.unwish{X:Cx}{E:Value->Shared->Prop}(ok:(X.wish E).Ok):X.Ok :=
 ⟨ok.mod,ok.kind,ok.glob,ok.blt,ok.above,ok.inj,ok.has,ok.cab,ok.hd,ok.frames,ok.stk,ok.exf,ok.bs,ok.bsz,ok.noex,ok.exfs,ok.funs,ok.frf⟩
section
variable{X:Cx}{pins:List ⑥}{σ:St}{H:Hp}{s:Shared}{E:Value->Shared->Prop}
theorem Inv.wish(I:Inv X pins σ H s)(E:Value->Shared->Prop):Inv (X.wish E) pins σ H s:=⟨I.ok.wish E,I.os,I.bare,I.base,I.loc,I.cell,I.free,I.freeC,I.pin,I.hok,I.len⟩
theorem Inv.unwish(I:Inv (X.wish E) pins σ H s):Inv X pins σ H s:=⟨I.ok.unwish,I.os,I.bare,I.base,I.loc,I.cell,I.free,I.freeC,I.pin,I.hok,I.len⟩
theorem SP.unwish{D:Ends}{f:Flow}{s':Shared}(h:SP (X.wish E) pins D f s'):SP X pins D f s':=by
 cases f with
 | next=>o⟨σ',H',I,q⟩:=h;!⟨σ',H',I.unwish,q⟩
 | brk=>o⟨σ',H',I,q⟩:=h;!⟨σ',H',I.unwish,q⟩
 | cont=>o⟨σ',H',I,q⟩:=h;!⟨σ',H',I.unwish,q⟩
 | ret u=>o⟨v,σ',H',I,r,q⟩:=h;!⟨v,σ',H',I.unwish,r,q⟩
theorem PSs.nox{st:List Stmt}{t:TS}(h:PSs X.nox st t):PSs X st t:=fun pins s σ H D I hw =>
 wpAny_mono (h pins s σ H D (I.wish _) hw) (fun _ _ q=>q.unwish) fun _ _ z=>False.elim z
end
section
variable{X:Cx}{st:Stmt}{rest:List Stmt}{t u:TS}{e:Expr}{te:TE}{pos:Pos}
def AFf:TS:=fun D σ H=>D.nx σ H
def AGR(t u:TS):TS:=fun D σ H=>t {D with nx:=u D} σ H
theorem Bd:PSs X [] AFf:=fun _ _ σ H _ I h=>wpAny_execs_nil ⟨σ,H,I,h⟩
theorem Af(h1:PS X st t)(h2:PSs X rest u):PSs X (st::rest) (AGR t u):=by
 intro pins s σ H D I h;r wpAny_execs_cons (thn (h1 pins s σ H {D with nx:=u D} I h) fun f s1 q=>?_);cases f with
 | next =>
  o⟨σ',H',I',q⟩:=q;!h2 pins s1 σ' H' D I' q
 | ret v=>!q
 | brk=>!q
 | cont=>!q
theorem Aj(h1:PS X st t):PSs X [st] t:=by
 intro pins s σ H D I h;r wpAny_execs_cons (thn (h1 pins s σ H D I h) fun f s1 q=>?_);cases f with
 | next=>!wpAny_execs_nil q
 | ret v=>!q
 | brk=>!q
 | cont=>!q
theorem Inv.quiet{pins:List ⑥}{σ:St}{H:Hp}{s:Shared}(I:Inv X pins σ H s):interactive X.env=false:=by simp[interactive,I.ok.kind]
def AFv(te:TE):TS:=fun D σ H=>te σ H fun _ H1=>D.nx σ H1
theorem DP(he:PE X e te)(hs:swapsWith e none pos.line X.env=pure false:=by rfl):PS X (.Expr e pos) (AFv te):=by
 intro pins s σ H D I h;!wpAny_Expr_any (thn (he pins s σ H _ I h) fun v s1 ⟨x,H1,I1,r1,q1⟩=>⟨σ,H1,I1,q1⟩) I.quiet hs
def AGU(te:TE):TS:=fun D σ H=>te σ H D.rt
theorem Az(he:PE X e te):PS X (.Return (some e) pos) (AGU te):=by
 intro pins s σ H D I h;!wpAny_Return_some (thn (he pins s σ H _ I h) fun v s1 ⟨x,H1,I1,r1,q1⟩=>⟨x,σ,H1,I1,r1,q1⟩)
def AGP(c:TT)(t u:TS):TS:=fun D σ H=>c σ H fun b H1=>if b=true then t D σ H1 else u D σ H1
theorem CZ{c:Expr}{a b:List Stmt}{tc:TT}(hc:PT X c tc)(ha:PSs X a t)(hb:PSs X b u):PS X (.If c a b pos) (AGP tc t u):=by
 intro pins s σ H D I h;r wpAny_If (thn (hc pins s σ H _ I h) fun d s1 ⟨H1,I1,q1⟩=>?_);cases d with
 | true=>!ha pins s1 σ H1 D I1 q1
 | false=>!hb pins s1 σ H1 D I1 q1
def AEx:TS:=fun _ _ _=>False
theorem Dj{sts:List Stmt}:PSs X sts AEx:=fun _ _ _ _ _ _ h=>h.elim
end
abbrev TG:=V->St->Hp->(St->Hp->Prop)->Prop
abbrev TGs:=List V->St->Hp->(St->Hp->Prop)->Prop
def PG(X:Cx)(target:Expr)(t:TG):Prop :=
 ∀(pins:List ⑥) (s:Shared) (σ:St) (H:Hp) (v:V) (u:Value) (Q:St->Hp->Prop),Inv X pins σ H s->RelV v u->t v σ H Q ->
  wpAny ③ X.A (assign target X.env u) (fun _ s'=>∃ σ' H',Inv X pins σ' H' s'/\Q σ' H') X.xe s
def PGs(X:Cx)(ts:List Expr)(t:TGs):Prop :=
 ∀(pins:List ⑥) (s:Shared) (σ:St) (H:Hp) (vs:List V) (us:List Value) (Q:St->Hp->Prop),Inv X pins σ H s->Vals vs us->t vs σ H Q ->
  wpAny ③ X.A (assignInOrder ((assignEach ts X.env).map (·.2)) us) (fun _ s'=>∃ σ' H',Inv X pins σ' H' s'/\Q σ' H') X.xe s
abbrev TSet:=V->V->V->Hp->(Hp->Prop)->Prop
def PSet(X:Cx)(t:TSet):Prop :=
 ∀(pins:List ⑥) (s:Shared) (σ:St) (H:Hp) (o i v:V) (ov iv u:Value) (Q:Hp->Prop),Inv X pins σ H s->RelV o ov->RelV i iv->RelV v u->t o i v H Q ->
  wpAny ③ X.A (setItem ov iv u) (fun _ s'=>∃ H',Inv X pins σ H' s'/\Q H') X.xe s
section
variable{X:Cx}{pos:Pos}
def gName(i:Nat):TG:=fun v σ H Q=>Q (σ.set i (some v)) H
theorem Av{i:Nat}{x:Str}(hN:X.N.Nodup)(hi:X.N[i]?=some x)(hx:Loc X.env.scope x)(hf:X.fn x=true\/X.env.scope.names.lookup x=some .local:=by first | !.inl rfl | !.inr rfl | assumption):PG X (.Name x pos) (gName i):=by
 intro pins s σ H v u Q I r h;!wpAny_assign_Name (Rm I hN hi hx r (fun s' I'=>⟨_,H,I',h⟩) hf)
def gNil:TGs:=fun vs σ H Q=>vs=[]/\Q σ H
def gCons(t:TG)(u:TGs):TGs:=fun vs σ H Q=>∃ v r,vs=v::r/\t v σ H fun σ' H'=>u r σ' H' Q
theorem Gi:PGs X [] gNil:=by
 intro pins s σ H vs us Q I r h;o⟨e,h⟩:=h;subst e;cases r;!assignInOrder_nil ⟨σ,H,I,h⟩
theorem Cd{e:Expr}{es:List Expr}{t:TG}{u:TGs}(h1:PG X e t)(h2:PGs X es u)
  (hs:(assignEach (e::es) X.env).map (·.2)=assign e X.env::(assignEach es X.env).map (·.2):=by rfl):PGs X (e::es) (gCons t u):=by
 intro pins s σ H vs us Q I r h;o⟨v,vr,e1,h⟩:=h;subst e1;cases r with
 | cons r rr =>
  rw[hs];r assignInOrder_cons (thn (h1 pins s σ H _ _ _ I r h) fun _ s1 ⟨σ1,H1,I1,q1⟩=>?_);!h2 pins s1 σ1 H1 _ _ Q I1 rr q1
def gTup(K:¨)(n:Nat)(t:TGs):TG:=fun v σ H Q=>∃ a xs,v=.ref a/\SqT K H a xs/\xs.length=n/\t xs σ H Q
theorem AFU{es:List Expr}{k:Nat}{t:TGs}{n:Nat}(hc:X.calm=true)(h:PGs X es t)
  (hn:(assignEach es X.env).length=n:=by rfl) (hst:(assignEach es X.env).findIdx? (·.1)=none:=by rfl):PG X (.Tuple es k pos) (gTup X.K n t):=by
 intro pins s σ H v u Q I r hw;o⟨a,xs,e1,hq,hl,hw⟩:=hw;subst e1;cases r;o⟨its,rv,ht,hz⟩:=I.tuple hq;r assign_Tuple_tuple (I.ok.hd hc) ht (by simp[hn,<- hl,rv.length]) hst fun h' hx=>?_;h I1:Inv X pins σ H {s with heap:=h'}:=I.kept (t':=s.toks) fun b o e=>hx b o (Nat.ne_of_lt (Heap.lt_size e)) e;!h pins _ σ H xs _ Q I1 (by u rv) hw
def gSub(to ti:TE)(t:TSet):TG:=fun v σ H Q=>to σ H fun o H1=>ti σ H1 fun i H2=>t o i v H2 fun H3=>Q σ H3
theorem AEe{o i:Expr}{to ti:TE}{t:TSet}(ho:PE X o to)(hi:PE X i ti)(hs:PSet X t)
  (ha:∀ v,assign (.Subscript o i pos) X.env v=(do
   let ov <- holding [v] (eval o X.env)
   let iv <- holding [v,ov] (eval i X.env)
   standAt pos
   holding [v,ov,iv] (setItem ov iv v)
   release [v,ov,iv] []):=by intro _;rfl):PG X (.Subscript o i pos) (gSub to ti t):=by
 intro pins s σ H v u Q I r h;rw[ha];b(wpAny_holding (thn (ho pins s σ H _ I h) fun ov s1 ⟨x,H1,I1,r1,q1⟩=>?_));b(wpAny_holding (thn (hi pins s1 σ H1 _ I1 q1) fun iv s2 ⟨y,H2,I2,r2,q2⟩=>?_));b(wpAny_standAt (wpAny_bind (wpAny_holding (thn (hs pins s2 σ H2 x y v ov iv u _ I2 r1 r2 r q2) fun _ s3 ⟨H3,I3,q3⟩=>?_))));!wpAny_release ⟨σ,H3,I3,q3⟩
def AFH(te:TE)(g:TG):TS:=fun D σ H=>te σ H fun x H1=>g x σ H1 D.nx
theorem ACO{tg e:Expr}{te:TE}{g:TG}(he:PE X e te)(hg:PG X tg g)(hs:swapsWithSole [tg] e pos.line X.env=pure false:=by rfl)(hw:swappedStores [tg] e X.env=pure none:=by rfl)
  (h1:(assignEach [tg] X.env).map (·.2)=[assign tg X.env]:=by rfl):PS X (.Assign [tg] e pos) (AFH te g):=by
 intro pins s σ H D I h;r wpAny_Assign_stores (thn (he pins s σ H _ I h) fun v s1 ⟨x,H1,I1,r1,q1⟩=>?_) hs hw;rw[h1];!thn (hg pins s1 σ H1 x v _ I1 r1 q1) fun _ s2 q=>q
theorem Ay{i:Nat}{x:Str}{e:Expr}{te:TE}{pos':Pos}(hN:X.N.Nodup)(hi:X.N[i]?=some x)(hx:Loc X.env.scope x)(he:PE X e te)(hs:swapsWith e (some (.Name x pos')) pos.line X.env=pure false:=by rfl)(hf:X.fn x=true\/X.env.scope.names.lookup x=some .local:=by first | !.inl rfl | !.inr rfl | assumption) :
  PS X (.Assign [.Name x pos'] e pos) (AFH te (gName i)):=by
 intro pins s σ H D I h;r wpAny_Assign_Name (thn (he pins s σ H _ I h) fun v s1 ⟨y,H1,I1,r1,q1⟩=>?_) hs;!Rm I1 hN hi hx r1 (fun s2 I2=>⟨_,H1,I2,q1⟩) hf
def AEs(c:TT)(tb:TS):TS:=fun D σ H=>∃ W:Nat->St->Hp->Prop,(∃ m,W m σ H)/\∀ m σ H,W m σ H ->
 c σ H fun b H1=>if b=true then ∃ N:St->Hp->Prop,(∀ σ' H',N σ' H'->∃ m',m'<m/\W m' σ' H')/\tb {D with nx:=N,ct:=N,bk:=D.nx} σ H1 else D.nx σ H1
theorem ACR{c:Expr}{body:List Stmt}{tc:TT}{tb:TS}(hp:PassesOwn ③ X.A X.env X.xe)(hc:PT X c tc)(hb:PSs X body tb):PS X (.While c body [] pos) (AEs tc tb):=by
 intro pins s σ H D I h;o⟨W,⟨m0,w0⟩,turn⟩:=h;r wpAny_While (codeAny_whileLoop (fun n s'=>∃ σ' H',Inv X pins σ' H' s'/\W n σ' H') ?_ m0 ⟨σ,H,I,w0⟩);rintro n s1 ⟨σ1,H1,I1,w1⟩;r wpAny_passesOwn hp (thn (hc pins s1 σ1 H1 _ I1 (turn n σ1 H1 w1)) fun b s2 ⟨H2,I2,q2⟩=>?_);cases b with
 | true =>
  o⟨N,hN,q2⟩:=q2;rw[if_pos rfl];r wpAny_passesOwn hp (thn (hb pins s2 σ1 H2 _ I2 q2) fun f s3 q3=>?_);cases f with
  | next =>
   o⟨σ3,H3,I3,n3⟩:=q3;o⟨m',hm,w3⟩:=hN σ3 H3 n3;!⟨m',hm,σ3,H3,I3,w3⟩
  | cont =>
   o⟨σ3,H3,I3,n3⟩:=q3;o⟨m',hm,w3⟩:=hN σ3 H3 n3;!⟨m',hm,σ3,H3,I3,w3⟩
  | brk=>!q3
  | ret v=>!q3
 | false =>
  rw[if_neg Bool.false_ne_true];!wpAny_execs_nil ⟨σ1,H2,I2,q2⟩
end
structure It where
 go:Nat->Hp->Prop
 yld:Nat->Hp->V->Hp->Prop
 stop:Nat->Hp->Prop
def FpOk(X:Cx)(pins:List ⑥)(H:Hp)(b:Addr):Prop :=
 H b=none/\b≠X.env.locals/\b∉X.fs/\(b∈X.ex\/X.s₀.heap.objs.size<=b)/\(∀ x c,X.env.cells.lookup x=some c->c≠b)/\∀ p∈X.pn++pins,p.1≠b
theorem Inv.fpOk{X:Cx}{pins:List ⑥}{σ:St}{H H':Hp}{s:Shared}{b:Addr}(I:Inv X pins σ H s)(hb:¸<=b)(hn:H' b=none):FpOk X pins H' b:=by
 r⟨hn,Nat.ne_of_gt (Nat.lt_of_lt_of_le I.lt hb),I.nofs hb,.inr (Nat.le_trans I.sz hb),fun x c e z=>?_,fun p hp z=>?_⟩
 ·o⟨v,q⟩:=I.cell x c e
  !absurd (Nat.lt_of_lt_of_le q.lt (by rw[z];!hb)) (Nat.lt_irrefl _)
 ·!absurd (Nat.lt_of_lt_of_le (Heap.lt_size (I.pin p hp).1) (by rw[z];!hb)) (Nat.lt_irrefl _)
structure Turn(P:Program)(w:World)(K:¨)(tg:Expr)(J:It)(fp:List Addr)(it:Addr)(tn:Nat->Heap->Prop):Prop where
 mem:it∈fp
 obj:∀ i h,tn i h->∀ b∈fp,∃ o,h.get? b=some o/\∀ v,o.data≠.cell v
 keep:∀ i h h',tn i h->(∀ b∈fp,∀ o,h.get? b=some o->h'.get? b=some o)->tn i h'
 item:∀(X:Cx),X.prog=P->X.w=w->X.K=K->X.calm=true->∀(i:Nat) (pins:List ⑥) (s:Shared) (σ:St) (H:Hp) (E:Value->Shared->Prop),Inv X pins σ H s->(∀ b∈fp,FpOk X pins H b)->tn i s.heap->J.go i H ->
  wpAny (model P w) X.A (pyNext (.ref it)) (fun r s1=>∃ u,r=some u /\
   wpAny (model P w) X.A (letOwnedTupleGo tg (.ref it) u) (fun _ s2=>∃ x H',Inv X pins σ H' s2/\RelV x u/\J.yld i H x H'/\tn (i+1) s2.heap/\∀ b∈fp,H' b=none) E s1) E s
 done:∀(X:Cx),X.prog=P->X.w=w->X.K=K->X.calm=true->∀(i:Nat) (pins:List ⑥) (s:Shared) (σ:St) (H:Hp) (E:Value->Shared->Prop),Inv X pins σ H s->(∀ b∈fp,FpOk X pins H b)->tn i s.heap->J.stop i H ->
  wpAny (model P w) X.A (pyNext (.ref it)) (fun r s1=>r=none/\Inv X pins σ H s1) E s
 self:∀(A:Around) (i:Nat) (s:Shared) (Q:Value->Shared->Prop) (E:Value->Shared->Prop),tn i s.heap->Q (.ref it) s->wpAny (model P w) A (pyIter (.ref it)) Q E s
abbrev TI:=St->Hp->(It->Hp->Prop)->Prop
def PIE(X:Cx)(pins:List ⑥)(σ:St)(tg:Expr)(R:It->Hp->Prop)(itv:Value)(s2:Shared):Prop :=
 ∃(it:Addr) (fp:List Addr) (tn:Nat->Heap->Prop) (J:It) (H':Hp),itv=.ref it/\Inv X pins σ H' s2/\Turn X.prog X.w X.K tg J fp it tn/\tn 0 s2.heap/\(∀ b∈fp,FpOk X pins H' b)/\R J H'
def PI(X:Cx)(tg iter:Expr)(wi:TI):Prop :=
 ∀(pins:List ⑥) (s:Shared) (σ:St) (H:Hp) (R:It->Hp->Prop),Inv X pins σ H s->wi σ H R ->
  wpAny ③ X.A (eval iter X.env) (fun v s1=>wpAny ③ X.A (pyIter v) (PIE X pins σ tg R) X.xe s1) X.xe s
theorem Wj{M:Model}{A:Around}{E:Value->Shared->Prop}{s:Shared}{tg:Expr}{it:Addr}{u:Value}{o:Obj}{n:String}{vs:Array Value}{Q:Unit->Shared->Prop}(ho:s.heap.get? it=some o)(hc:o.cls=.type n)(hd:o.data=.fields vs)
  (hn:["enumerate","zip","dict_itemiterator","dict_reverseitemiterator","odict_iterator","itertools.zip_longest","itertools.pairwise"].contains n=false) (hQ:Q () s):wpAny M A (letOwnedTupleGo tg (.ref it) u) Q E s:=by
 unfold letOwnedTupleGo;cases tg<;>first
  | !wpAny_pure hQ
  | (cases u<;>first
    | !wpAny_pure hQ
    | (
      b(wpAny_load ho ?_);rw[hc,hd];show wpAny M A (if (["enumerate","zip","dict_itemiterator","dict_reverseitemiterator","odict_iterator","itertools.zip_longest","itertools.pairwise"].contains n&&vs[0]? == some (rawInt _))=true then _ else _) Q E s;rw[if_neg (by intro h;rw[hn,Bool.false_and] at h;cases h)];!wpAny_pure hQ))
def Itl(K:¨)(a:Addr):It :=
 ⟨fun i H=>∃ xs x,SqL K H a xs/\xs[i]?=some x,fun i H x H'=>H'=H/\∀ xs,SqL K H a xs->xs[i]?=some x,fun i H=>∃ xs,SqL K H a xs/\xs.length<=i⟩
def Itt(K:¨)(a:Addr):It :=
 ⟨fun i H=>∃ xs x,SqT K H a xs/\xs[i]?=some x,fun i H x H'=>H'=H/\∀ xs,SqT K H a xs->xs[i]?=some x,fun i H=>∃ xs,SqT K H a xs/\xs.length<=i⟩
def Itr(lo:Int)(n:Nat):It:=⟨fun i _=>i<n,fun i H x H'=>H'=H/\x=.int (lo+i),fun i _=>n<=i⟩
theorem Nh{P:Program}{w:World}{K:¨}{tg:Expr}(a it:Addr):Turn P w K tg (Itl K a) [it] it (fun i h=>h.IsListIter it a i) where
 mem:=by simp
 obj:=fun i h st b hb=>by
  h e:b=it:=by u hb
  subst e;o⟨o,e,c,d⟩:=st;!⟨o,e,fun v z=>by rw[d] at z;cases z⟩
 keep:=fun i h h' st k=>st.at fun o e=>k it ¥ o e
 item:=by
  intro X hP hw hK hc i pins s σ H E I hf st hg;subst hP hw hK;o⟨xs,x,hq,hx⟩:=hg;o⟨its,rv,p,hz⟩:=I.list hq;o⟨u,hu,ru⟩:=rv.get hx;o⟨f0,f1,f2,f3,f4,f5⟩:=hf it ¥;r wpAny_pyNext_list_item st p.isList (x:=u) (by u hu) fun h' st' sb=>?_;h I1:Inv X pins σ H {s with heap:=h'}:=I.turned (t':=s.toks) (fun b o hb e=>(sb.2 b hb).trans e) f0 f1 f3 f4 f5;o⟨o,e,c,d⟩:=id st';!⟨u,rfl,Wj (s:={s with heap:=h'}) e c d ¤ ⟨x,H,I1,ru,⟨rfl,fun ys hy=>by rw[I.list_inj hy hq];!hx⟩,st',fun b hb=>(hf b hb).1⟩⟩
 done:=by
  intro X hP hw hK hc i pins s σ H E I hf st hg;subst hP hw hK;o⟨xs,hq,hx⟩:=hg;o⟨its,rv,p,hz⟩:=I.list hq;o⟨f0,f1,f2,f3,f4,f5⟩:=hf it ¥;h hl:=rv.length;!wpAny_pyNext_list_end (I.ok.hd hc) st p.isList (by simp;w) fun h' eb=>⟨rfl,I.turned (t':=s.toks) (fun b o hb e=>eb b o hb e) f0 f1 f3 f4 f5⟩
 self:=fun _ _ _ _ _ st h=>wpAny_pyIter_listiter st h
theorem Jw{P:Program}{w:World}{K:¨}{tg:Expr}(a it:Addr):Turn P w K tg (Itt K a) [it] it (fun i h=>h.IsTupleIter it a i) where
 mem:=by simp
 obj:=fun i h st b hb=>by
  h e:b=it:=by u hb
  subst e;o⟨o,e,c,d⟩:=st;!⟨o,e,fun v z=>by rw[d] at z;cases z⟩
 keep:=fun i h h' st k=>st.at fun o e=>k it ¥ o e
 item:=by
  intro X hP hw hK hc i pins s σ H E I hf st hg;subst hP hw hK;o⟨xs,x,hq,hx⟩:=hg;o⟨its,rv,p,hz⟩:=I.tuple hq;o⟨u,hu,ru⟩:=rv.get hx;o⟨f0,f1,f2,f3,f4,f5⟩:=hf it ¥;r wpAny_pyNext_tuple_item st (show s.heap.IsTuple a its.toArray from p) (x:=u) (by u hu) fun h' st' sb=>?_;h I1:Inv X pins σ H {s with heap:=h'}:=I.turned (t':=s.toks) (fun b o hb e=>(sb.2 b hb).trans e) f0 f1 f3 f4 f5;o⟨o,e,c,d⟩:=id st';!⟨u,rfl,Wj (s:={s with heap:=h'}) e c d ¤ ⟨x,H,I1,ru,⟨rfl,fun ys hy=>by rw[I.tuple_inj hy hq];!hx⟩,st',fun b hb=>(hf b hb).1⟩⟩
 done:=by
  intro X hP hw hK hc i pins s σ H E I hf st hg;subst hP hw hK;o⟨xs,hq,hx⟩:=hg;o⟨its,rv,p,hz⟩:=I.tuple hq;o⟨f0,f1,f2,f3,f4,f5⟩:=hf it ¥;h hl:=rv.length;!wpAny_pyNext_tuple_end (I.ok.hd hc) st (show s.heap.IsTuple a its.toArray from p) (by simp;w) fun h' eb=>⟨rfl,I.turned (t':=s.toks) (fun b o hb e=>eb b o hb e) f0 f1 f3 f4 f5⟩
 self:=fun _ _ _ _ _ st h=>wpAny_pyIter_tupleiter st h
theorem VF{P:Program}{w:World}{K:¨}{tg:Expr}(it:Addr)(lo:Int)(n:Nat):Turn P w K tg (Itr lo n) [it] it (fun i h=>IsRangeIter h it (lo+(i:Nat)*1) ((n:Int)-(i:Nat)) 1) where
 mem:=by simp
 obj:=fun i h st b hb=>by
  h e:b=it:=by u hb
  subst e;!⟨_,st,fun v z=>by
   h z':Data.fields _=Data.cell v:=z;cases z'⟩
 keep:=fun i h h' st k=>k it ¥ _ st
 item:=by
  intro X hP hw hK hc i pins s σ H E I hf st hg;subst hP hw hK;o⟨f0,f1,f2,f3,f4,f5⟩:=hf it ¥;h W:=Walks.range (prog:=X.prog) (w:=X.w) (I.ok.hd hc) it lo 1 n;r W.item i s _ _ hg st fun v h' tk hv st' kk=>?_;o⟨t,rfl⟩:=hv;h I1:Inv X pins σ H {s with heap:=h',toks:=tk}:=I.turned (fun b o hb e=>kk b o (by u hb) e) f0 f1 f3 f4 f5;r⟨_,rfl,Wj (s:={s with heap:=h',toks:=tk}) (n:="range_iterator") st' rfl rfl ¤ ⟨.int (lo+i),H,I1,⟨t,?_⟩,⟨rfl,rfl⟩,st',fun b hb=>(hf b hb).1⟩⟩;rw[Int.mul_one]
 done:=by
  intro X hP hw hK hc i pins s σ H E I hf st hg;subst hP hw hK;o⟨f0,f1,f2,f3,f4,f5⟩:=hf it ¥;!wpAny_pyNext_range_end (I.ok.hd hc) st (by have:n<=i:=hg;w) fun h' eb=>⟨rfl,I.turned (t':=s.toks) (fun b o hb e=>eb b o hb e) f0 f1 f3 f4 f5⟩
 self:=fun _ _ _ _ _ st h=>wpAny_pyIter_rangeiter st h
section
variable{X:Cx}{tg:Expr}
def AGA(K:¨)(tl:TE):TI:=fun σ H R=>tl σ H fun x H1=>∃ a,x=.ref a/\(∃ xs,SqL K H1 a xs)/\R (Itl K a) H1
def AGL(K:¨)(tl:TE):TI:=fun σ H R=>tl σ H fun x H1=>∃ a,x=.ref a/\(∃ xs,SqT K H1 a xs)/\R (Itt K a) H1
theorem CK{l:Expr}{tl:TE}(hl:PE X l tl):PI X tg l (AGA X.K tl):=by
 intro pins s σ H R I h;r thn (hl pins s σ H _ I h) fun v s1 ⟨x,H1,I1,r1,q1⟩=>?_;o⟨a,e,⟨xs,hq⟩,q⟩:=q1;subst e;cases r1;o⟨its,rv,p,hz⟩:=I1.list hq;r wpAny_pyIter_list p.isList ?_;r⟨s1.heap.objs.size,[s1.heap.objs.size],_,_,H1,rfl,I1.kept (t':=s1.toks) fun b o e=>° _ e,Nh a _,⟨_,¿ _ rfl,rfl,rfl⟩,fun b hb=>?_,q⟩;h e:b=s1.heap.objs.size:=by u hb
 subst e;!I1.fpOk ② (I1.hok.fresh ②)
theorem AFR{l:Expr}{tl:TE}(hl:PE X l tl):PI X tg l (AGL X.K tl):=by
 intro pins s σ H R I h;r thn (hl pins s σ H _ I h) fun v s1 ⟨x,H1,I1,r1,q1⟩=>?_;o⟨a,e,⟨xs,hq⟩,q⟩:=q1;subst e;cases r1;o⟨its,rv,p,hz⟩:=I1.tuple hq;r wpAny_pyIter_tuple (show s1.heap.IsTuple a its.toArray from p) ?_;r⟨s1.heap.objs.size,[s1.heap.objs.size],_,_,H1,rfl,I1.kept (t':=s1.toks) fun b o e=>° _ e,Jw a _,⟨_,¿ _ rfl,rfl,rfl⟩,fun b hb=>?_,q⟩;h e:b=s1.heap.objs.size:=by u hb
 subst e;!I1.fpOk ② (I1.hok.fresh ②)
theorem SM{pins:List ⑥}{σ:St}{H:Hp}{s:Shared}{R:It->Hp->Prop}{E:Value->Shared->Prop}{lo hi:Int}{t u v:Tok}{tk:Nat}(I:Inv X pins σ H s)(h1:-(2 ^ 62)<=lo)(h2:lo<2 ^ 62)(h3:-(2 ^ 62)<=hi)(h4:hi<2 ^ 62)
  (q:R (Itr lo (hi-lo).toNat) H):wpAny ③ X.A (pyIter (.ref ¸)) (PIE X pins σ tg R) E {s with heap:=s.heap.push {cls:=.type "range",data:=.fields #[.int lo t,.int hi u,.int 1 v]},toks:=tk}:=by
 r wpAny_pyIter_range (IsRange.new ..) (small_one h1 h2 h3 h4) ?_;h I1:Inv X pins σ H {s with heap:=s.heap.push {cls:=.type "range",data:=.fields #[.int lo t,.int hi u,.int 1 v]},toks:=tk}:=I.kept fun b o e=>° _ e;r⟨(s.heap.push {cls:=.type "range",data:=.fields #[.int lo t,.int hi u,.int 1 v]}).objs.size,[(s.heap.push {cls:=.type "range",data:=.fields #[.int lo t,.int hi u,.int 1 v]}).objs.size],_,_,H,rfl,
  I1.kept (t':=tk) fun b o e=>° _ e,VF _ lo (hi-lo).toNat,?_,fun b hb=>?_,q⟩
 ·h e1:lo+((0:Nat):Int)*1=lo:=by simp
  h e2:(((hi-lo).toNat:Nat):Int)-((0:Nat):Int)=Builtin.Range.rangeSize lo hi 1:=by rw[rangeSize_one];split<;>w
  show IsRangeIter _ _ (lo+((0:Nat):Int)*1) ((((hi-lo).toNat:Nat):Int)-((0:Nat):Int)) 1;rw[e1,e2];!¿ _ rfl
 ·h e:b=(s.heap.push {cls:=.type "range",data:=.fields #[.int lo t,.int hi u,.int 1 v]}).objs.size:=by u hb
  subst e;!I1.fpOk ② (I1.hok.fresh ②)
def AFx(ta:TA):TI:=fun σ H R=>ta σ H fun vs H1=>∃ j:Int,vs=[.int j]/\-(2 ^ 62)<=j/\j<2 ^ 62/\R (Itr 0 j.toNat) H1
def AFg(ta:TA):TI:=fun σ H R=>ta σ H fun vs H1=>∃ i j:Int,vs=[.int i,.int j]/\(-(2 ^ 62)<=i/\i<2 ^ 62/\-(2 ^ 62)<=j/\j<2 ^ 62)/\R (Itr i (j-i).toNat) H1
theorem Cj{a:Expr}{ta:TA}{p pos:Pos}(hg:Gl X "range")(hm:X.mg "range" = none)(ha:PA X [a] ta)(hs:starEach [a] X.env=[(false,eval a X.env)]:=by rfl):PI X tg (.Call (.Name "range" p) [a] [] pos) (AFx ta):=by
 intro pins s σ H R I h;r Call_ (Eb I hg hm boot_range (PyProof.Rows.callWith_type1 (thn (ha pos pins s σ H _ I h) fun us s1 ⟨vs,H1,I1,r1,q1⟩=>?_) hs rfl));o⟨j,e,q1,q2,q⟩:=q1;subst e;cases r1 with
 | cons r rr =>
  cases rr;o⟨t,rfl⟩:=r;!call_range_1 (SM I1 ¢ ¢ q1 q2 (by u q))
theorem Yx{a b:Expr}{ta:TA}{p pos:Pos}(hg:Gl X "range")(hm:X.mg "range" = none)(ha:PA X [a,b] ta)(hs:starEach [a,b] X.env=[(false,eval a X.env),(false,eval b X.env)]:=by rfl)(hs2:starEach [b] X.env=[(false,eval b X.env)]:=by rfl) :
  PI X tg (.Call (.Name "range" p) [a,b] [] pos) (AFg ta):=by
 intro pins s σ H R I h;r Call_ (Eb I hg hm boot_range (PyProof.Rows.callWith_type1 (thn (ha pos pins s σ H _ I h) fun us s1 ⟨vs,H1,I1,r1,q1⟩=>?_) (by rw[hs,hs2]) (by rw[hs2];rfl)));o⟨i,j,e,⟨q1,q2,q3,q4⟩,q⟩:=q1;subst e;cases r1 with
 | cons r rr =>
  cases rr with
  | cons r' rr =>
   cases rr;o⟨t,rfl⟩:=r;o⟨t',rfl⟩:=r';!call_range_2 (SM I1 q1 q2 q3 q4 q)
def AGW(wi:TI)(g:TG)(tb:TS):TS:=fun D σ H=>wi σ H fun J H1=>∃ W:Nat->Nat->St->Hp->Prop,(∃ m,W 0 m σ H1)/\∀ i m σ H,W i m σ H ->
 (J.stop i H/\D.nx σ H)\/(J.go i H/\∃ N:St->Hp->Prop,(∀ σ' H',N σ' H'->∃ m',m'<m/\W (i+1) m' σ' H')/\∀ x H',J.yld i H x H'->g x σ H' fun σ2 H2=>tb {D with nx:=N,ct:=N,bk:=D.nx} σ2 H2)
def pinsAt(fp:List Addr)(h:Heap):List ⑥:=fp.filterMap fun b=>(h.get? b).map fun o=>(b,o)
theorem Fj{fp:List Addr}{h:Heap}{b:Addr}{o:Obj}(hb:b∈fp)(e:h.get? b=some o):(b,o)∈pinsAt fp h:=List.mem_filterMap.mpr ⟨b,hb,by rw[e];rfl⟩
theorem Yh{fp:List Addr}{h:Heap}{p:Addr×Obj}(hp:p∈pinsAt fp h):p.1∈fp/\h.get? p.1=some p.2:=by
 o⟨b,hb,e⟩:=List.mem_filterMap.mp hp;cases q:h.get? b with
 | none=>rw[q] at e;cases e
 | some o =>
  rw[q] at e;h e':(b,o)=p:=Option.some.inj e;subst e';!⟨hb,q⟩
theorem Inv.pinned{pins:List ⑥}{σ:St}{H:Hp}{s:Shared}{fp:List Addr}(I:Inv X pins σ H s)(hf:∀ b∈fp,FpOk X pins H b)(ho:∀ b∈fp,∃ o,s.heap.get? b=some o/\∀ v,o.data≠.cell v):Inv X (pins++pinsAt fp s.heap) σ H s :=
 I.pins_of fun p hp=>(List.mem_append.mp hp).elim (fun z=>I.pin p (List.mem_append_right _ z)) fun z=>by
  o⟨hb,e⟩:=Yh z;o⟨f0,f1,f2,_⟩:=hf p.1 hb;o⟨o,e',d⟩:=ho p.1 hb;rw[e] at e';cases e';!⟨e,f0,f1,f2,d⟩
theorem Inv.unpinned{pins pl:List ⑥}{σ:St}{H:Hp}{s:Shared}(I:Inv X (pins++pl) σ H s):Inv X pins σ H s:=I.pins_of fun p hp=>I.pin p (List.mem_append_right _ (List.mem_append_left _ hp))
theorem DW{iter:Expr}{body:List Stmt}{wi:TI}{g:TG}{tb:TS}{pos:Pos}(hp:PassesOwn ③ X.A X.env X.xe)(hc:X.calm=true)(hi:PI X tg iter wi)(hg:PG X tg g)(hb:PSs X body tb)
  (hs:∀ x,foldedSetIterable iter X.env x=pure x:=by intro _;rfl):PS X (.For tg iter body [] pos) (AGW wi g tb):=by
 intro pins s σ H D I h;r wpAny_For (thn (hi pins s σ H _ I h) fun v s1 h1=>thn h1 fun itv s2 h2=>?_) hs;o⟨it,fp,tn,J,H2,e,I2,T,st2,f2,W,⟨m0,w0⟩,turn⟩:=h2;subst e;h stat:∀{H':Hp},(∀ b∈fp,H' b=none)->∀ b∈fp,FpOk X pins H' b:=fun hn b hb=>⟨hn b hb,(f2 b hb).2⟩;r codeAny_forLoop_any (fun n s'=>∃ i σ' H',Inv X pins σ' H' s'/\tn i s'.heap/\(∀ b∈fp,H' b=none)/\W i n σ' H') ?_ m0 ⟨0,σ,H2,I2,st2,fun b hb=>(f2 b hb).1,w0⟩;rintro n s3 ⟨i,σ3,H3,I3,st3,fr3,w3⟩;rcases turn i n σ3 H3 w3 with⟨stop,qn⟩ | ⟨go,N,hN,step⟩
 ·r wpAny_passesOwn hp (thn (T.done X rfl rfl rfl hc i pins s3 σ3 H3 X.xe I3 (stat fr3) st3 stop) fun r s4 ⟨hr,I4⟩=>?_)
  subst hr;!wpAny_execs_nil ⟨σ3,H3,I4,qn⟩
 ·r wpAny_passesOwn hp (thn (T.item X rfl rfl rfl hc i pins s3 σ3 H3 X.xe I3 (stat fr3) st3 go) fun r s4 ⟨u,hr,h4⟩=>?_)
  subst hr;r wpAny_passesOwn hp (thn h4 fun _ s5 ⟨x,H5,I5,r5,y5,st5,fr5⟩=>?_);h I5':=I5.pinned (stat fr5) (T.obj _ _ st5);r wpAny_passesOwn hp (thn (hg _ s5 σ3 H5 x u _ I5' r5 (step x H5 y5)) fun _ s6 ⟨σ6,H6,I6,q6⟩=>?_);r wpAny_passesOwn hp (thn (hb _ s6 σ6 H6 _ I6 q6) fun f s7 q7=>?_);h again:∀{σ7:St}{H7:Hp},Inv X (pins++pinsAt fp s5.heap) σ7 H7 s7->N σ7 H7->∃ m,m<n/\∃ i σ' H',Inv X pins σ' H' s7/\tn i s7.heap/\(∀ b∈fp,H' b=none)/\W i m σ' H':=fun {σ7 H7} I7 n7=>by
   o⟨m',hm,w7⟩:=hN σ7 H7 n7;r⟨m',hm,i+1,σ7,H7,I7.unpinned,T.keep _ _ _ st5 fun b hb o e=>(I7.pin (b,o) (List.mem_append_right _ (List.mem_append_right _ (Fj hb e)))).1,fun b hb=>?_,w7⟩;o⟨o,e,d⟩:=T.obj _ _ st5 b hb;!(I7.pin (b,o) (List.mem_append_right _ (List.mem_append_right _ (Fj hb e)))).2.1
  cases f with
  | next=>o⟨σ7,H7,I7,n7⟩:=q7;!again I7 n7
  | cont=>o⟨σ7,H7,I7,n7⟩:=q7;!again I7 n7
  | brk=>o⟨σ7,H7,I7,q7⟩:=q7;!⟨σ7,H7,I7.unpinned,q7⟩
  | ret v=>o⟨x7,σ7,H7,I7,r7,q7⟩:=q7;!⟨x7,σ7,H7,I7.unpinned,r7,q7⟩
end
theorem Ed{K:¨}{a:Addr}{xs:List V}{g:TG}{tb:TS}{D:Ends}{σ:St}{H:Hp}(Pv:Nat->St->Hp->Prop)(h0:Pv 0 σ H)(hl:∀ i σ H,i<=xs.length->Pv i σ H->SqL K H a xs)
  (hs:∀ i x σ H,xs[i]?=some x->Pv i σ H->g x σ H fun σ2 H2=>tb {D with nx:=Pv (i+1),ct:=Pv (i+1),bk:=D.nx} σ2 H2) (hd:∀ σ H,Pv xs.length σ H->D.nx σ H) :
  ∃ W:Nat->Nat->St->Hp->Prop,(∃ m,W 0 m σ H)/\∀ i m σ H,W i m σ H ->
   ((Itl K a).stop i H/\D.nx σ H)\/((Itl K a).go i H/\∃ N:St->Hp->Prop,(∀ σ' H',N σ' H'->∃ m',m'<m/\W (i+1) m' σ' H')/\∀ x H',(Itl K a).yld i H x H'->g x σ H' fun σ2 H2=>tb {D with nx:=N,ct:=N,bk:=D.nx} σ2 H2):=by
 r⟨fun i m σ H=>m=xs.length-i/\i<=xs.length/\Pv i σ H,⟨xs.length,by simp,Nat.zero_le _,h0⟩,?_⟩;rintro i m σ H ⟨rfl,hi,p⟩;h q:=hl i σ H hi p;by_cases hlt:i<xs.length
 ·r .inr ⟨⟨xs,xs[i],q,by simp[hlt]⟩,Pv (i+1),fun σ' H' p'=>⟨xs.length-(i+1),by w,rfl,hlt,p'⟩,fun x H' y=>?_⟩
  o⟨e,y⟩:=y;subst e;!hs i x σ _ (y xs q) p
 ·h e:i=xs.length:=by w
  subst e;!.inl ⟨⟨xs,q,Nat.le_refl _⟩,hd σ H p⟩
theorem ADV{K:¨}{a:Addr}{xs:List V}{g:TG}{tb:TS}{D:Ends}{σ:St}{H:Hp}(Pv:Nat->St->Hp->Prop)(h0:Pv 0 σ H)(hl:∀ i σ H,i<=xs.length->Pv i σ H->SqT K H a xs)
  (hs:∀ i x σ H,xs[i]?=some x->Pv i σ H->g x σ H fun σ2 H2=>tb {D with nx:=Pv (i+1),ct:=Pv (i+1),bk:=D.nx} σ2 H2) (hd:∀ σ H,Pv xs.length σ H->D.nx σ H) :
  ∃ W:Nat->Nat->St->Hp->Prop,(∃ m,W 0 m σ H)/\∀ i m σ H,W i m σ H ->
   ((Itt K a).stop i H/\D.nx σ H)\/((Itt K a).go i H/\∃ N:St->Hp->Prop,(∀ σ' H',N σ' H'->∃ m',m'<m/\W (i+1) m' σ' H')/\∀ x H',(Itt K a).yld i H x H'->g x σ H' fun σ2 H2=>tb {D with nx:=N,ct:=N,bk:=D.nx} σ2 H2):=by
 r⟨fun i m σ H=>m=xs.length-i/\i<=xs.length/\Pv i σ H,⟨xs.length,by simp,Nat.zero_le _,h0⟩,?_⟩;rintro i m σ H ⟨rfl,hi,p⟩;h q:=hl i σ H hi p;by_cases hlt:i<xs.length
 ·r .inr ⟨⟨xs,xs[i],q,by simp[hlt]⟩,Pv (i+1),fun σ' H' p'=>⟨xs.length-(i+1),by w,rfl,hlt,p'⟩,fun x H' y=>?_⟩
  o⟨e,y⟩:=y;subst e;!hs i x σ _ (y xs q) p
 ·h e:i=xs.length:=by w
  subst e;!.inl ⟨⟨xs,q,Nat.le_refl _⟩,hd σ H p⟩
theorem Gg{lo:Int}{n:Nat}{g:TG}{tb:TS}{D:Ends}{σ:St}{H:Hp}(Pv:Nat->St->Hp->Prop)(h0:Pv 0 σ H)
  (hs:∀ i σ H,i<n->Pv i σ H->g (.int (lo+i)) σ H fun σ2 H2=>tb {D with nx:=Pv (i+1),ct:=Pv (i+1),bk:=D.nx} σ2 H2) (hd:∀ σ H,Pv n σ H->D.nx σ H) :
  ∃ W:Nat->Nat->St->Hp->Prop,(∃ m,W 0 m σ H)/\∀ i m σ H,W i m σ H ->
   ((Itr lo n).stop i H/\D.nx σ H)\/((Itr lo n).go i H/\∃ N:St->Hp->Prop,(∀ σ' H',N σ' H'->∃ m',m'<m/\W (i+1) m' σ' H')/\∀ x H',(Itr lo n).yld i H x H'->g x σ H' fun σ2 H2=>tb {D with nx:=N,ct:=N,bk:=D.nx} σ2 H2):=by
 r⟨fun i m σ H=>m=n-i/\i<=n/\Pv i σ H,⟨n,by simp,Nat.zero_le _,h0⟩,?_⟩;rintro i m σ H ⟨rfl,hi,p⟩;by_cases hlt:i<n
 ·r .inr ⟨hlt,Pv (i+1),fun σ' H' p'=>⟨n-(i+1),by w,rfl,hlt,p'⟩,fun x H' y=>?_⟩
  o⟨e,y⟩:=y;subst e y;!hs i σ _ hlt p
 ·h e:i=n:=by w
  subst e;!.inl ⟨Nat.le_refl _,hd σ H p⟩
abbrev R2:=V->V->Hp->VK->Prop
def OpR(X:Cx)(f:Value->Value->Sem Value)(r:R2):Prop :=
 ∀(pins:List ⑥) (s:Shared) (σ:St) (H:Hp) (x y:V) (v u:Value) (Q:VK),Inv X pins σ H s->RelV x v->RelV y u->r x y H Q ->
  wpAny ③ X.A (f v u) (EP X pins σ Q) X.xe s
def UnR(X:Cx)(f:Value->Sem Value)(r:V->Hp->VK->Prop):Prop :=
 ∀(pins:List ⑥) (s:Shared) (σ:St) (H:Hp) (x:V) (v:Value) (Q:VK),Inv X pins σ H s->RelV x v->r x H Q ->
  wpAny ③ X.A (f v) (EP X pins σ Q) X.xe s
def CallR(X:Cx)(f:Value)(r:List V->Hp->VK->Prop):Prop :=
 ∀(pins:List ⑥) (s:Shared) (σ:St) (H:Hp) (xs:List V) (us:List Value) (Q:VK),Inv X pins σ H s->Vals xs us->r xs H Q ->
  wpAny ③ X.A (call f us) (EP X pins σ Q) X.xe s
def tOp(r:R2)(ta tb:TE):TE:=fun σ H Q=>ta σ H fun x H1=>tb σ H1 fun y H2=>r x y H2 Q
def tUn(r:V->Hp->VK->Prop)(ta:TE):TE:=fun σ H Q=>ta σ H fun x H1=>r x H1 Q
def rI(C:Int->Int->Prop)(g:Int->Int->V):R2:=fun x y H Q=>∃ i j,x=.int i/\y=.int j/\C i j/\Q (g i j) H
def rI0(g:Int->Int->V):R2:=fun x y H Q=>∃ i j,x=.int i/\y=.int j/\Q (g i j) H
def rU(g:Int->V):V->Hp->VK->Prop:=fun x H Q=>∃ i,x=.int i/\Q (g i) H
section
variable{X:Cx}{a b c:Expr}{ta tb tc:TE}{pos:Pos}
theorem binT(ha:PE X a ta)(hb:PE X b tb){pins:List ⑥}{s:Shared}{σ:St}{H:Hp}{R:V->V->Hp->Prop}(I:Inv X pins σ H s)
  (h:ta σ H fun x H1=>tb σ H1 fun y H2=>R x y H2) {Q:Value->Shared->Prop}{f:Value->Value->Sem Value}
  (hf:∀ v u s2 x y H2,Inv X pins σ H2 s2->RelV x v->RelV y u->R x y H2->wpAny ③ X.A (f v u) Q X.xe s2) :
  wpAny ③ X.A (eval a X.env) (fun v s₁=>wpAny ③ X.A (eval b X.env) (fun u s₂=>wpAny ③ X.A (f v u) Q X.xe s₂) X.xe s₁) X.xe s:=by
 r thn (ha pins s σ H _ I h) fun v s1 ⟨x,H1,I1,r1,q1⟩=>?_;r thn (hb pins s1 σ H1 _ I1 q1) fun u s2 ⟨y,H2,I2,r2,q2⟩=>?_;!hf v u s2 x y H2 I2 r1 r2 q2
theorem BW{op:Operator}{r:R2}(ho:OpR X (binaryOp op) r)(ha:PE X a ta)(hb:PE X b tb):PE X (.BinOp a op b pos) (tOp r ta tb):=by
 intro pins s σ H Q I h;!wpAny_BinOp (binT ha hb I h fun v u s2 x y H2 I2 rx ry q=>ho pins s2 σ H2 x y v u Q I2 rx ry q)
theorem XS{op:UnaryOp}{r:V->Hp->VK->Prop}(ho:UnR X (unaryOp op) r)(ha:PE X a ta):PE X (.UnaryOp op a pos) (tUn r ta):=by
 intro pins s σ H Q I h;!UnaryOp_ (thn (ha pins s σ H _ I h) fun v s1 ⟨x,H1,I1,r1,q1⟩=>ho pins s1 σ H1 x v Q I1 r1 q1)
theorem opI{f:Value->Value->Sem Value}{C:Int->Int->Prop}{g:Int->Int->Int}
  (rule:∀(i j:Int) (t u:Tok) (s:Shared) (Q:Value->Shared->Prop) (E:Value->Shared->Prop),C i j->Q (.int (g i j) s.toks) {s with toks:=s.toks+1}->wpAny ③ X.A (f (.int i t) (.int j u)) Q E s) :
  OpR X f (rI C fun i j=>.int (g i j)):=by
 intro pins s σ H x y v u Q I rx ry h;o⟨i,j,rfl,rfl,hc,q⟩:=h;o⟨t,rfl⟩:=rx;o⟨t',rfl⟩:=ry;!rule i j t t' s _ _ hc ⟨.int (g i j),H,I.tok _,⟨_,rfl⟩,q⟩
theorem opI0{f:Value->Value->Sem Value}{g:Int->Int->Int}
  (rule:∀(i j:Int) (t u:Tok) (s:Shared) (Q:Value->Shared->Prop) (E:Value->Shared->Prop),Q (.int (g i j) s.toks) {s with toks:=s.toks+1}->wpAny ③ X.A (f (.int i t) (.int j u)) Q E s) :
  OpR X f (rI0 fun i j=>.int (g i j)):=by
 intro pins s σ H x y v u Q I rx ry h;o⟨i,j,rfl,rfl,q⟩:=h;o⟨t,rfl⟩:=rx;o⟨t',rfl⟩:=ry;!rule i j t t' s _ _ ⟨.int (g i j),H,I.tok _,⟨_,rfl⟩,q⟩
theorem opB0{f:Value->Value->Sem Value}{g:Int->Int->Bool}
  (rule:∀(i j:Int) (t u:Tok) (s:Shared) (Q:Value->Shared->Prop) (E:Value->Shared->Prop),Q (.bool (g i j)) s->wpAny ③ X.A (f (.int i t) (.int j u)) Q E s) :
  OpR X f (rI0 fun i j=>.bl (g i j)):=by
 intro pins s σ H x y v u Q I rx ry h;o⟨i,j,rfl,rfl,q⟩:=h;o⟨t,rfl⟩:=rx;o⟨t',rfl⟩:=ry;!rule i j t t' s _ _ ⟨.bl (g i j),H,I,rfl,q⟩
def CDiv(i j:Int):Prop:=0<j/\j<1073741824
def CMul(i j:Int):Prop:=(-(2 ^ 64)<i/\i<2 ^ 64)\/(-(2 ^ 64)<j/\j<2 ^ 64)
theorem CMul.ok{i j:Int}(h:CMul i j):IntMulOk i j:=by
 rcases h with⟨h1,h2⟩ | ⟨h1,h2⟩
 ·!.of_left (intBits_le_64 h1 h2)
 ·!.of_right (intBits_le_64 h1 h2)
theorem Vp(k:Nat):(0:Int)<=2 ^ k:=by
 rw[two_pow_cast];!Int.natCast_nonneg _
theorem Cw:OpR X (binaryOp .Add) (rI0 fun i j=>.int (i+j)):=opI0 fun _ _ _ _ _ _ _ q=>add_int q
theorem Fp:OpR X (binaryOp .Sub) (rI0 fun i j=>.int (i-j)):=opI0 fun _ _ _ _ _ _ _ q=>sub_int q
theorem Vh:OpR X (binaryOp .Mult) (rI CMul fun i j=>.int (i*j)):=opI fun _ _ _ _ _ _ _ hc q=>mul_int q hc.ok
theorem En:OpR X (binaryOp .FloorDiv) (rI CDiv fun i j=>.int (i / j)):=opI fun i j _ _ _ _ _ hc q=>by
 h h1:(0:Int)<j:=hc.1;h h2:j<1073741824:=hc.2;!floordiv_int ¢ (by rw[Int.fdiv_eq_ediv_of_nonneg i ¢];!q) (.inl (PyProof.noPylong_small ¢))
theorem Dh:OpR X (binaryOp .Mod) (rI (fun _ j=>0<j) fun i j=>.int (i%j)):=opI fun i j _ _ _ _ _ hc q=>by
 h h1:(0:Int)<j:=hc;!mod_int' ¢ (by rw[Int.fmod_eq_emod_of_nonneg i ¢];!q)
theorem ABm:OpR X (binaryOp .RShift) (rI (fun _ j=>0<=j) fun i j=>.int (i / 2 ^ j.toNat)):=opI fun i j _ _ _ _ _ hc q =>
 rshift_int hc (by rw[Int.fdiv_eq_ediv_of_nonneg i (Vp _)];!q)
theorem AAf:OpR X (binaryOp .BitAnd) (rI0 fun i j=>.int (Builtin.bitAnd i j)):=opI0 fun _ _ _ _ _ _ _ q=>and_int q
theorem unI{f:Value->Sem Value}{g:Int->Int}
  (rule:∀(i:Int) (t:Tok) (s:Shared) (Q:Value->Shared->Prop) (E:Value->Shared->Prop),Q (.int (g i) s.toks) {s with toks:=s.toks+1}->wpAny ③ X.A (f (.int i t)) Q E s) :
  UnR X f (rU fun i=>.int (g i)):=by
 intro pins s σ H x v Q I rx h;o⟨i,rfl,q⟩:=h;o⟨t,rfl⟩:=rx;!rule i t s _ _ ⟨.int (g i),H,I.tok _,⟨_,rfl⟩,q⟩
theorem Qj:UnR X (unaryOp .USub) (rU fun i=>.int (-i)):=unI fun _ _ _ _ _ q=>neg_int q
end
def scal:V->V->Bool
 | .non,.non=>true | .non,.int _=>true | .int _,.non=>true | .non,.bl _=>true | .bl _,.non=>true | .non,.str _=>true | .str _,.non=>true
 | .int _,.int _=>true | .bl _,.bl _=>true | .str _,.str _=>true | .byt _,.byt _=>true
 | .int _,.str _=>true | .str _,.int _=>true | .bl _,.str _=>true | .str _,.bl _=>true
 | _,_=>false
def rEq:R2:=fun x y H Q=>scal x y=true/\Q (.bl (decide (x=y))) H
def rNe:R2:=fun x y H Q=>scal x y=true/\Q (.bl (!decide (x=y))) H
theorem Wt{i j:Int}:decide (V.int i=V.int j)=(i==j):=by
 rw[Bool.eq_iff_iff];simp
theorem ABW{i j:Bool}:decide (V.bl i=V.bl j)=(i==j):=by
 rw[Bool.eq_iff_iff];simp
theorem Wh{i j:Str}:decide (V.str i=V.str j)=(i==j):=by
 rw[Bool.eq_iff_iff];simp
theorem Wd{i j:Array UInt8}:decide (V.byt i=V.byt j)=(i.toList==j.toList):=by
 rw[Bool.eq_iff_iff];cases i;cases j;simp
section
variable{X:Cx}{a b c:Expr}{ta tb tc:TE}{pos:Pos}
theorem Bf{pins:List ⑥}{σ:St}{H:Hp}{s:Shared}{Q:VK}{k k':Bool}(I:Inv X pins σ H s)(q:Q (.bl k) H)(e:k=k'):EP X pins σ Q (.bool k') s:=by
 subst e;!⟨.bl k,H,I,rfl,q⟩
theorem Cy:OpR X (compareOp .Eq) rEq:=by
 intro pins s σ H x y v u Q I rx ry h;o⟨hs,q⟩:=h;cases x with
 | non =>
  cases rx;cases y with
  | non=>cases ry;!PySem.EqNone.eq_none_none (Bf I q ¥)
  | bl j=>cases ry;!PySem.EqNone.eq_none_bool (Bf I q ¥)
  | int j=>o⟨t',rfl⟩:=ry;!PySem.EqNone.eq_none_int (Bf I q ¥)
  | str j=>o⟨t',rfl⟩:=ry;!PySem.EqNone.eq_none_str (Bf I q ¥)
  | _=>!absurd (show false=true from hs) Bool.false_ne_true
 | bl i =>
  cases rx;cases y with
  | non=>cases ry;!PySem.EqNone.eq_bool_none (Bf I q ¥)
  | bl j=>cases ry;!eq_bool (Bf I q ABW)
  | str j=>o⟨t',rfl⟩:=ry;!PySem.EqMixed.eq_bool_str (Bf I q ¥)
  | _=>!absurd (show false=true from hs) Bool.false_ne_true
 | int i =>
  o⟨t,rfl⟩:=rx;cases y with
  | non=>cases ry;!PySem.EqNone.eq_int_none (Bf I q ¥)
  | int j=>o⟨t',rfl⟩:=ry;!eq_int (Bf I q Wt)
  | str j=>o⟨t',rfl⟩:=ry;!PySem.EqMixed.eq_int_str (Bf I q ¥)
  | _=>!absurd (show false=true from hs) Bool.false_ne_true
 | str i =>
  o⟨t,rfl⟩:=rx;cases y with
  | non=>cases ry;!PySem.EqNone.eq_str_none (Bf I q ¥)
  | bl j=>cases ry;!PySem.EqMixed.eq_str_bool (Bf I q ¥)
  | int j=>o⟨t',rfl⟩:=ry;!PySem.EqMixed.eq_str_int (Bf I q ¥)
  | str j=>o⟨t',rfl⟩:=ry;!eq_str (Bf I q Wh)
  | _=>!absurd (show false=true from hs) Bool.false_ne_true
 | byt i =>
  o⟨t,rfl⟩:=rx;cases y with
  | byt j=>o⟨t',rfl⟩:=ry;!PySem.W.eq_bytes (Bf I q Wd)
  | _=>!absurd (show false=true from hs) Bool.false_ne_true
 | _=>cases y<;>!absurd (show false=true from hs) Bool.false_ne_true
theorem Oi:OpR X (compareOp .NotEq) rNe:=by
 intro pins s σ H x y v u Q I rx ry h;o⟨hs,q⟩:=h;cases x with
 | non =>
  cases rx;cases y with
  | non=>cases ry;!PySem.EqNone.ne_none_none (Bf I q ¥)
  | bl j=>cases ry;!PySem.EqNone.ne_none_bool (Bf I q ¥)
  | int j=>o⟨t',rfl⟩:=ry;!PySem.EqNone.ne_none_int (Bf I q ¥)
  | str j=>o⟨t',rfl⟩:=ry;!PySem.EqNone.ne_none_str (Bf I q ¥)
  | _=>!absurd (show false=true from hs) Bool.false_ne_true
 | bl i =>
  cases rx;cases y with
  | non=>cases ry;!PySem.EqNone.ne_bool_none (Bf I q ¥)
  | bl j=>cases ry;!ne_bool (Bf I q (congrArg not ABW))
  | str j=>o⟨t',rfl⟩:=ry;!PySem.EqMixed.ne_bool_str (Bf I q ¥)
  | _=>!absurd (show false=true from hs) Bool.false_ne_true
 | int i =>
  o⟨t,rfl⟩:=rx;cases y with
  | non=>cases ry;!PySem.EqNone.ne_int_none (Bf I q ¥)
  | int j=>o⟨t',rfl⟩:=ry;!ne_int (Bf I q (congrArg not Wt))
  | str j=>o⟨t',rfl⟩:=ry;!PySem.EqMixed.ne_int_str (Bf I q ¥)
  | _=>!absurd (show false=true from hs) Bool.false_ne_true
 | str i =>
  o⟨t,rfl⟩:=rx;cases y with
  | non=>cases ry;!PySem.EqNone.ne_str_none (Bf I q ¥)
  | bl j=>cases ry;!PySem.EqMixed.ne_str_bool (Bf I q ¥)
  | int j=>o⟨t',rfl⟩:=ry;!PySem.EqMixed.ne_str_int (Bf I q ¥)
  | str j=>o⟨t',rfl⟩:=ry;!ne_str (Bf I q (congrArg not Wh))
  | _=>!absurd (show false=true from hs) Bool.false_ne_true
 | byt i =>
  o⟨t,rfl⟩:=rx;cases y with
  | byt j=>o⟨t',rfl⟩:=ry;!PySem.W.ne_bytes (Bf I q (congrArg not Wd))
  | _=>!absurd (show false=true from hs) Bool.false_ne_true
 | _=>cases y<;>!absurd (show false=true from hs) Bool.false_ne_true
theorem RM:OpR X (compareOp .Lt) (rI0 fun i j=>.bl (decide (i<j))):=opB0 fun _ _ _ _ _ _ _ q=>lt_int q
theorem Nj:OpR X (compareOp .Gt) (rI0 fun i j=>.bl (decide (j<i))):=opB0 fun _ _ _ _ _ _ _ q=>gt_int q
theorem AGF:OpR X (compareOp .GtE) (rI0 fun i j=>.bl (decide (j<=i))):=opB0 fun _ _ _ _ _ _ _ q=>ge_int q
theorem nomark(b:Expr){op:CmpOp}(h:op≠.In:=by decide)(h2:op≠.NotIn:=by decide):behindInMarks op b=false:=by
 h e1:(op==CmpOp.In)=false:=by cases op<;>first | rfl | !absurd rfl h
 h e2:(op==CmpOp.NotIn)=false:=by cases op<;>first | rfl | !absurd rfl h2
 cases b<;>simp[behindInMarks,e1,e2]
theorem Ek{op:CmpOp}{r:R2}(ho:OpR X (compareOp op) r)(ha:PE X a ta)(hb:PE X b tb)(hm:behindInMarks op b=false):PE X (.Compare a [op] [b] pos) (tOp r ta tb):=by
 intro pins s σ H Q I h;!wpAny_Compare1 (binT ha hb I h fun v u s2 x y H2 I2 rx ry q=>ho pins s2 σ H2 x y v u Q I2 rx ry q) hm
def AFp(t:TE):TT:=fun σ H Q=>t σ H fun x H'=>∃ k,x=.bl k/\Q k H'
theorem Ar{op:CmpOp}{r:R2}(ho:OpR X (compareOp op) r)(ha:PE X a ta)(hb:PE X b tb)(hm:behindInMarks op b=false):PT X (.Compare a [op] [b] pos) (AFp (tOp r ta tb)):=by
 intro pins s σ H Q I h;r wpAny_isTrue_Compare1 (thn (ha pins s σ H _ I h) fun v s1 ⟨x,H1,I1,r1,q1⟩=>thn (hb pins s1 σ H1 _ I1 q1) fun u s2 ⟨y,H2,I2,r2,q2⟩ =>
  thn (ho pins s2 σ H2 x y v u _ I2 r1 r2 q2) fun c s3 ⟨z,H3,I3,r3,k,e,q3⟩=>?_) hm
 subst e;cases r3;!wpAny_truthy_bool ⟨H3,I3,q3⟩
theorem line63:(sizeLine:Nat)<2 ^ 63:=by rw[sizeLine_eq];decide
theorem vals1{x:V}{us:List Value}(r:Vals [x] us):∃ u,us=[u]/\RelV x u:=by
 cases r with
 | cons r1 r2=>cases r2;!⟨_,rfl,r1⟩
theorem vals2{x y:V}{us:List Value}(r:Vals [x,y] us):∃ u w',us=[u,w']/\RelV x u/\RelV y w':=by
 cases r with
 | cons r1 r2 =>
  cases r2 with
  | cons r3 r4=>cases r4;!⟨_,_,rfl,r1,r3⟩
theorem Yt(hc:X.calm=true):CallR X (.builtin "max") (fun xs H Q=>∃ i j,xs=[.int i,.int j]/\Q (.int (if j>i then j else i)) H):=by
 intro pins s σ H xs us Q I r h;o⟨i,j,rfl,q⟩:=h;o⟨u,w',rfl,⟨t,rfl⟩,⟨t',rfl⟩⟩:=vals2 r;r max_two_ints (I.ok.hd hc) fun h' tk k=>⟨_,H,I.kept k,?_,q⟩;by_cases hj:j>i
 ·rw[if_pos hj,if_pos hj];!⟨_,rfl⟩
 ·rw[if_neg hj,if_neg hj];!⟨_,rfl⟩
theorem JT(hc:X.calm=true):CallR X (.builtin "min") (fun xs H Q=>∃ i j,xs=[.int i,.int j]/\Q (.int (if j<i then j else i)) H):=by
 intro pins s σ H xs us Q I r h;o⟨i,j,rfl,q⟩:=h;o⟨u,w',rfl,⟨t,rfl⟩,⟨t',rfl⟩⟩:=vals2 r;r min_two_ints (I.ok.hd hc) fun h' tk k=>⟨_,H,I.kept k,?_,q⟩;by_cases hj:j<i
 ·rw[if_pos hj,if_pos hj];!⟨_,rfl⟩
 ·rw[if_neg hj,if_neg hj];!⟨_,rfl⟩
end
structure ObjM(h:Heap)(x dx C:Addr)(mA:Str->Option Value):Prop where
 obj:h.get? x=some (PySem.W.instObj C dx)
 ns:h.Ns1 dx mA
 ne:dx≠x
theorem Xx{h:Heap}{dx:Addr}{mA:Str->Option Value}(n:h.Ns1 dx mA):∃ od,h.get? dx=some od/\∀ name,PySem.W.lookIn name od=some (mA name):=by
 o⟨o,es,ep,ho,hd,hk,_,hm⟩:=n;r⟨o,ho,fun name=>?_⟩;h e:=hm name;unfold nsFind findBy at e;rw[<- Array.find?_toList] at e;unfold PySem.W.lookIn;rw[hd];dsimp only;split
 ·rename_i y q
  rw[q] at e;!congrArg some e
 ·rename_i q
  rw[q] at e;h a:es.toList.any (·.refKey)=false:=by
   rw[List.any_eq_false];intro y hy;o⟨z,t,hkey⟩:=hk y (Array.mem_toList_iff.mp hy);simp[DictEntry.refKey,hkey]
  h a':¬ es.toList.any (·.refKey)=true:=by rw[a];!Bool.false_ne_true
  rw[if_neg a'];!congrArg some e
theorem ObjM.look{h:Heap}{x dx C:Addr}{mA:Str->Option Value}(I:ObjM h x dx C mA):∃ od,PySem.W.InstAt h x (PySem.W.instObj C dx) C (some od)/\∀ name,PySem.W.lookIn name od=some (mA name) :=
 let ⟨od,ho,hl⟩:=Xx I.ns
 ⟨od,⟨I.obj,rfl,rfl,ho⟩,hl⟩
section
variable{prog:Program}{w:World}{A:Around}{E:Value->Shared->Prop}{s:Shared}{K:¨}{x dx C f:Addr}{mA:Str->Option Value}{name:Str}{v:Value}
theorem get_map{expr:Bool}{Q:Value->Shared->Prop}(X:K.In s.heap)(I:ObjM s.heap x dx C mA)(hg:PySem.W.plainGet K C name=true)(hh:PySem.W.hasDictIn K C=true)
  (ha:® K (.ref C) name=some none) (hv:mA name=some v) (hv':PySem.W.handedIn v=true) (h:Q v {s with toks:=s.toks+1}) :
  wpAny ① A (getAttr (.ref x) name expr) Q E s:=by
 o⟨od,J,hl⟩:=I.look;!PySem.W.get_value X J (PySem.W.plainGet_of hg).1 (PySem.W.findObj_own hh ha rfl (by rw[hl,hv])) hv' h
theorem Zw{pl:Sem Bool}{Q:Value×List Value->Shared->Prop}(X:K.In s.heap)(I:ObjM s.heap x dx C mA)(hg:PySem.W.plainGet K C name=true)
  (hf:® K (.ref C) name=some (some (.ref f))) (ht:PySem.W.isFn K (.ref f)=true) (hv:mA name=none) (h:Q (.ref f,[.ref x]) s) :
  wpAny ① A (getMethod (.ref x) name pl) Q E s:=by
 o⟨od,J,hl⟩:=I.look;!PySem.W.method_fn X J (PySem.W.plainGet_of hg).1 (PySem.W.plainGet_of hg).2 hf (beq_iff_eq.mp ht) (by show (PySem.W.lookIn name od).map (·.isSome)=some false;rw[hl,hv];rfl) h
theorem ADT{ns:List Str}{Q:Unit->Shared->Prop}(X:K.In s.heap)(I:ObjM s.heap x dx C mA)
  (hs:® K (.ref C) "__setattr__" = some (some (.builtin "object.__setattr__"))) (hp:PySem.W.plainOver K C=true) (ht:PySem.W.takerIn K C name=some none) (hh:PySem.W.hasDictIn K C=true)
  (hw:PySem.Within mA ns) (hsz:ns.length<=sizeLine)
  (h:∀ h',ObjM h' x dx C (fun y=>if y=name then some v else mA y)->Heap.SameBut dx s.heap h'->Q () {s with heap:=h',toks:=s.toks+2}) :
  wpAny ① A (setAttr (.ref x) name v) Q E s:=by
 o⟨od,J,hl⟩:=I.look;r PySem.W.set_plain X J hs (PySem.W.osa_open (s:={s with toks:=s.toks+1}) (r:=none) X J hp ht fun b=>?_);o⟨cd,hc,hd'⟩:=PySem.W.any_some hh;h hx:s.heap.get? x=some ⟨.ref C,some dx,.plain,#[]⟩:=I.obj;b(wpAny_pure (wpAny_bind (wpAny_bind (wpAny_loadPart hx (wpAny_bind (PySem.W.Looks.here (s:={s with toks:=s.toks+1}) (PySem.W.looks_clsIn X hc) ?_))))));rw[hd'];r wpAny_pure (a:=some dx) (wpAny_bind (wpAny_pure (wpAny_bind ?_)));r wpAny_nsSet1 (s:={s with toks:=s.toks+1}) I.ns fun h' hn2 hs2=>?_;o⟨oD,esD,epD,hoD,hdD,hcD⟩:=hn2.count (PySem.Within.cons name v hw);b(wpAny_lookBehind hoD (by rw[hdD];!pastItsLine_dict (Nat.le_trans hcD (by rw[List.length_cons];w))) ?_);!wpAny_pure (h _ ⟨(hs2.2 _ (Ne.symm I.ne)).trans I.obj,hn2,I.ne⟩ hs2)
theorem ABr{R:Result->Shared->Prop}{vs:List Value}{kw:List (Str×Value)}(X:K.In s.heap)(hm:PySem.W.makesIn K C=true)
  (hi:® K (.ref C) "__init__" = some (some (.ref f))) (hf:PySem.W.typeIn K (.ref f)=some (.type "function"))
  (h:codeAny ① (A.under (.builtin "type.__call__" ⟨.ref C::vs,kw⟩)) (.call (.ref f) ⟨.ref (¸+1)::vs,kw⟩) (PySem.W.InitBack (¸+1) R)
   {s with heap:=(s.heap.push PySem.W.emptyDict).push (PySem.W.instObj C ¸)}) :
  codeAny ① A (.call (.ref C) ⟨vs,kw⟩) R s:=by
 o⟨hh,g,d,t,os⟩:=s;!PySem.W.make_core (PySem.W.makes_of X hm) (PySem.W.looks_findIn X hi) (fun self=>PySem.W.bind_fn X self hf) (.inl rfl) h
theorem ZJ{R:Result->Shared->Prop}(X:K.In s.heap)(hm:PySem.W.makesIn K C=true)
  (hi:® K (.ref C) "__init__" = some (some (.builtin "object.__init__")))
  (hb:∀ self,PySem.W.Looks ① s.heap (bindSpecial (.builtin "object.__init__") self) (.builtin "object.__init__",[self]))
  (h:codeAny ① (A.under (.builtin "type.__call__" ⟨[.ref C],[]⟩)) (.call (.builtin "object.__init__") ⟨[.ref (¸+1)],[]⟩) (PySem.W.InitBack (¸+1) R)
   {s with heap:=(s.heap.push PySem.W.emptyDict).push (PySem.W.instObj C ¸)}) :
  codeAny ① A (.call (.ref C) ⟨[],[]⟩) R s:=by
 o⟨hh,g,d,t,os⟩:=s;!PySem.W.make_core (PySem.W.makes_of X hm) (PySem.W.looks_findIn X hi) hb (.inr ⟨rfl,rfl⟩) h
end
def putF(f:Str)(v:V):List (Str×V)->List (Str×V)
 | []=>[(f,v)]
 | (g,x)::r=>if g=f then (g,v)::r else (g,x)::putF f v r
theorem Ai(f g:Str)(v:V):∀ fs:List (Str×V),(putF f v fs).lookup g=if g=f then some v else fs.lookup g
 | []=>by
  show List.lookup g [(f,v)]=_;by_cases h:g=f
  ·h hb:(g==f)=true:=beq_iff_eq.mpr h
   simp only[List.lookup,hb,if_pos h]
  ·h hb:(g==f)=false:=beq_eq_false_iff_ne.mpr h
   simp only[List.lookup,hb,if_neg h]
 | (k,x)::r=>by
  h ih:=Ai f g v r;rw[show putF f v ((k,x)::r)=(if k=f then (k,v)::r else (k,x)::putF f v r) from rfl];by_cases hk:k=f
  ·rw[if_pos hk]
   by_cases h:g=k
   ·h hb:(g==k)=true:=beq_iff_eq.mpr h
    simp only[List.lookup,hb,if_pos (h.trans hk)]
   ·h hb:(g==k)=false:=beq_eq_false_iff_ne.mpr h
    simp only[List.lookup,hb,if_neg (fun e:g=f=>h (e.trans hk.symm))]
  ·rw[if_neg hk]
   by_cases h:g=k
   ·h hb:(g==k)=true:=beq_iff_eq.mpr h
    simp only[List.lookup,hb,if_neg (fun e:g=f=>hk (h.symm.trans e))]
   ·h hb:(g==k)=false:=beq_eq_false_iff_ne.mpr h
    simp only[List.lookup,hb];!ih
theorem JN(f:Str)(v:V):∀ fs:List (Str×V),f∈(putF f v fs).map (·.1)/\∀ g,g∈fs.map (·.1)->g∈(putF f v fs).map (·.1)
 | []=>⟨by simp[putF],fun g h=>by simp at h⟩
 | (k,x)::r=>by
  o⟨i1,i2⟩:=JN f v r;rw[show putF f v ((k,x)::r)=(if k=f then (k,v)::r else (k,x)::putF f v r) from rfl];by_cases hk:k=f
  ·rw[if_pos hk]
   subst hk;!⟨by simp,fun g h=>by u h⟩
  ·rw[if_neg hk]
   r⟨?_,fun g h=>?_⟩
   ·rw[List.map_cons]
    !¶ _ i1
   ·rw[List.map_cons] at h ⊢
    rcases ┃ h with e | e
    ·!List.mem_cons.mpr (.inl e)
    ·!¶ _ (i2 g e)
theorem Jc(f:Str)(v:V):∀ fs:List (Str×V),(putF f v fs).length<=fs.length+1
 | []=>by simp[putF]
 | (k,x)::r=>by
  h ih:=Jc f v r;rw[show putF f v ((k,x)::r)=(if k=f then (k,v)::r else (k,x)::putF f v r) from rfl];by_cases hk:k=f
  ·rw[if_pos hk,List.length_cons,List.length_cons];w
  ·rw[if_neg hk,List.length_cons,List.length_cons];w
theorem RelO.some_of{v:V}{o:Option Value}(r:RelO (some v) o):∃ u,o=some u/\RelV v u:=by
 cases o with
 | none=>!(show False from r).elim
 | some u=>!⟨u,rfl,r⟩
theorem RelO.none_of{o:Option Value}(r:RelO none o):o=none:=by
 cases o with
 | none=>rfl
 | some u=>!(show False from r).elim
theorem Yn{v:V}{u:Value}(r:RelV v u):PySem.W.handedIn u=true:=by
 cases v with
 | non=>cases (show u=Value.none from r);rfl
 | bl b=>cases (show u=Value.bool b from r);rfl
 | int i=>o⟨t,e⟩:=(show ∃ t,u=Value.int i t from r);cases e;rfl
 | str x=>o⟨t,e⟩:=(show ∃ t,u=Value.str x t from r);cases e;rfl
 | byt b=>o⟨t,e⟩:=(show ∃ t,u=Value.bytes b t from r);cases e;rfl
 | flt b=>o⟨t,e⟩:=(show ∃ t,u=Value.float b t from r);cases e;rfl
 | ref a=>cases (show u=Value.ref a from r);rfl
 | ty n=>cases (show u=Value.type n from r);rfl
section
variable{P:Program}{w:World}{H H':Hp}{h h':Heap}{a C dx:Addr}{fs fs':List (Str×V)}
theorem Jl(hok:HOk P w H h)(e:H a=some (.ins C dx fs)):∃ mA,ObjM h a dx C mA/\(∀ f,RelO (fs.lookup f) (mA f))/\PySem.Within mA (fs.map (·.1))/\fs.length<=1000/\H dx=some (.own a):=by
 o⟨d,z,ne,ob,mA,n,r,q⟩:=(show ObjOk P w H h a (.ins C dx fs) from hok a _ e);!⟨mA,⟨ob,n,ne⟩,r,q,z,d⟩
end
structure Cls(K:¨)(C:Addr):Prop where
 pg:PySem.W.plainGet K C Str.empty=true
 hd:PySem.W.hasDictIn K C=true
 po:PySem.W.plainOver K C=true
 sa:® K (.ref C) "__setattr__" = some (some (.builtin "object.__setattr__"))
theorem Cls.get{K:¨}{C:Addr}(c:Cls K C)(f:Str):PySem.W.plainGet K C f=true:=c.pg
def NoAttr(K:¨)(C:Addr)(f:Str):Prop:=® K (.ref C) f=some none
theorem NoAttr.taker{K:¨}{C:Addr}{f:Str}(n:NoAttr K C f):PySem.W.takerIn K C f=some none:=by
 unfold PySem.W.takerIn;rw[show ® K (.ref C) f=some none from n];rfl
structure Con(K:¨)(C:Addr)(f:Str)(v:V)(u:Value):Prop where
 at_:® K (.ref C) f=some (some u)
 rel:RelV v u
 get:PySem.W.specialIn K u "__get__" = some none
 cp:PySem.W.copiedNames.contains f=false
structure Meth(K:¨)(C:Addr)(m:Str)(f:Addr):Prop where
 at_:® K (.ref C) m=some (some (.ref f))
 fn:PySem.W.isFn K (.ref f)=true
 kp:© K (.ref f)=true
section
variable{X:Cx}{pins:List ⑥}{σ:St}{H:Hp}{s:Shared}{a C dx:Addr}{fs:List (Str×V)}{f:Str}{v:V}{A:Around}{E:Value->Shared->Prop}
theorem Vc{b:Bool}{Q:Value->Shared->Prop}(I:Inv X pins σ H s)(e:H a=some (.ins C dx fs))(c:Cls X.K C)(n:NoAttr X.K C f)(l:fs.lookup f=some v)
  (h:∀ u s',Inv X pins σ H s'->RelV v u->Q u s'):wpAny ③ A (getAttr (.ref a) f b) Q E s:=by
 o⟨mA,O,r,_,_,_⟩:=Jl I.hok e;o⟨u,hu,ru⟩:=RelO.some_of (v:=v) (o:=mA f) (by rw[<- l];!r f);!get_map I.kIn O (c.get f) c.hd n hu (Yn ru) (h u _ (I.tok _) ru)
theorem Jx{m:Str}{g:Addr}{pl:Sem Bool}{Q:Value×List Value->Shared->Prop}(I:Inv X pins σ H s)(e:H a=some (.ins C dx fs))(c:Cls X.K C)(k:Meth X.K C m g)(l:fs.lookup m=none)
  (h:Q (.ref g,[.ref a]) s):wpAny ③ A (getMethod (.ref a) m pl) Q E s:=by
 o⟨mA,O,r,_,_,_⟩:=Jl I.hok e;h hn:mA m=none:=RelO.none_of (by rw[<- l];!r m);!Zw I.kIn O (c.get m) k.at_ k.fn hn h
theorem Ut{y:V}{u:Value}{Q:Unit->Shared->Prop}(I:Inv X pins σ H s)(e:H a=some (.ins C dx fs))(c:Cls X.K C)(n:NoAttr X.K C f)(hl:fs.length<1000)(ry:RelV y u)
  (h:∀ s',Inv X pins σ (upd H a (.ins C dx (putF f y fs))) s'->Q () s'):wpAny ③ A (setAttr (.ref a) f u) Q E s:=by
 o⟨mA,O,r,wi,_,ho⟩:=Jl I.hok e;h hz:(fs.map (·.1)).length<=sizeLine:=by rw[─,sizeLine_eq];w
 r ADT I.kIn O c.sa c.po n.taker c.hd wi hz fun h' O' sb=>h _ ?_;h hd:∃ o,h'.get? dx=some o:=let ⟨o,_,_,e',_⟩:=O'.ns;⟨o,e'⟩
 r I.write (x:=a) (e:=dx) (by rw[e];!True.intro) (.inr ho) (fun b q hb z=>(sb.2 b hb).trans z) hd ?_;r⟨by rw[Ag O.ne];!ho,?_,O.ne,O'.obj,_,O'.ns,fun g=>?_,fun g hg=>?_⟩
 ·have:=Jc f y fs;w
 ·show RelO ((putF f y fs).lookup g) (if g=f then some u else mA g)
  rw[Ai];by_cases q:g=f
  ·rw[if_pos q,if_pos q];!ry
  ·rw[if_neg q,if_neg q];!r g
 ·by_cases q:g=f
  ·rw[q];!(JN f y fs).1
  ·r(JN f y fs).2 g (wi g fun z=>hg ?_)
   show (if g=f then some u else mA g)=none;rw[if_neg q];!z
theorem Inv.made(I:Inv X pins σ H s):Inv X pins σ (upd (upd H ¸ (.own (¸+1))) (¸+1) (.ins C ¸ []))
  {s with heap:=(s.heap.push PySem.W.emptyDict).push (PySem.W.instObj C ¸)}:=by
 h e1:(s.heap.push PySem.W.emptyDict).get? ¸=some PySem.W.emptyDict:=¿ s.heap rfl;h e2:((s.heap.push PySem.W.emptyDict).push (PySem.W.instObj C ¸)).get? (¸+1)=some (PySem.W.instObj C ¸):=by
  have:=¿ (s.heap.push PySem.W.emptyDict) (o:=PySem.W.instObj C ¸) rfl
  rwa [Heap.size_push] at this
 h e3:(s.heap.push PySem.W.emptyDict).Ns ¸ (fun _=>none):=⟨PySem.W.emptyDict,#[],_,e1,rfl,(fun e he=>absurd he ¥),fun _=>rfl⟩;h I1:=I.laid (a:=¸) (o:=.own (¸+1)) (h':=s.heap.push PySem.W.emptyDict) (t':=s.toks) (fun b u q=>° _ q) ② ⟨_,e1⟩;r I1.laid (a:=¸+1) (o:=.ins C ¸ []) (t':=s.toks) (fun b u q=>° _ q) (Nat.le_of_eq (Heap.size_push _ _)) ?_;h ne:¸≠¸+1:=Nat.ne_of_lt (Nat.lt_succ_self _);r⟨by rw[Ag ne,Ab],Nat.zero_le _,ne,e2,fun _=>none,(Heap.Ns1.of_empty e3).at fun o q=>° _ q,fun _=>True.intro,fun y hy=>absurd rfl hy⟩
theorem ADY{prog:Program}{w:World}{env:Env}{e:Expr}{f:Str}{pos:Pos}{s:Shared}{Q:Value->Shared->Prop}(hb:attributeBase e f env (eval e env)=eval e env)
  (h:wpAny ① A (eval e env) (fun o s₁=>wpAny ① A (getAttr o f true) Q E s₁) E s):wpAny ① A (eval (.Attribute e f pos) env) Q E s :=
 Attribute_any_ h (by rw[arm_eval_Attribute,hb])
end
def AGa(K:¨)(ta:TE)(f:Str):TE:=fun σ H Q=>ta σ H fun x H1=>∃ a C dx fs v,x=.ref a/\H1 a=some (.ins C dx fs)/\Cls K C/\NoAttr K C f/\fs.lookup f=some v/\Q v H1
def AGO(K:¨)(ta tv:TE)(f:Str):TS:=fun D σ H=>tv σ H fun y H1=>ta σ H1 fun x H2=>∃ a C dx fs,x=.ref a/\H2 a=some (.ins C dx fs)/\Cls K C/\NoAttr K C f/\fs.length<1000 /\
 D.nx σ (upd H2 a (.ins C dx (putF f y fs)))
section
variable{X:Cx}{o e value:Expr}{f:Str}{pos pos' tpos:Pos}{ta tv:TE}
theorem Bu(he:PE X e ta)(hb:attributeBase e f X.env (eval e X.env)=eval e X.env):PE X (.Attribute e f pos) (AGa X.K ta f):=by
 intro pins s σ H Q I h;r ADY hb (thn (he pins s σ H _ I h) fun u s1 ⟨x,H1,I1,rx,a,C,dx,fs,v,ex,ea,c,n,l,q⟩=>?_);subst ex;obtain rfl:u=Value.ref a:=rx;!Vc I1 ea c n l fun u' s2 I2 ru=>⟨v,H1,I2,ru,q⟩
theorem Eh(ha:PE X o ta)(hv:PE X value tv)(hs:swapsWith value (some (.Attribute o f pos')) pos.line X.env=pure false):PS X (.Assign [.Attribute o f pos'] value pos) (AGO X.K ta tv f):=by
 intro pins s σ H D I h;r plainObj_wpAny_Assign_Attribute (thn (hv pins s σ H _ I h) fun u s1 ⟨y,H1,I1,ry,q⟩=>thn (ha pins s1 σ H1 _ I1 q) fun ov s2 ⟨x,H2,I2,rx,a,C,dx,fs,ex,ea,c,n,l,q2⟩=>?_) hs;subst ex;obtain rfl:ov=Value.ref a:=rx;!Ut I2 ea c n l ry fun s3 I3=>⟨σ,_,I3,q2⟩
end
section
variable{X:Cx}{pins:List ⑥}{σ:St}{H:Hp}{s:Shared}{A:Around}{E:Value->Shared->Prop}{Q:Value->Shared->Prop}{c:Value}{b:Bool}
inductive TyOf (K:¨) (H:Hp):V->Value->Prop where
 | non:TyOf K H .non (.type "NoneType")
 | bl (x:Bool):TyOf K H (.bl x) (.type "bool")
 | int (i:Int):TyOf K H (.int i) (.type "int")
 | str (x:Str):TyOf K H (.str x) (.type "str")
 | flt (x:UInt64):TyOf K H (.flt x) (.type "float")
 | lst {a:Addr}{xs:List V} (e:H a=some (.lst xs)):TyOf K H (.ref a) (.type "list")
 | frz {a:Addr}{o:Obj}{xs:List V} (e:H a=some (.frz o (.lst xs))):TyOf K H (.ref a) (.type "list")
 | tup {a:Addr}{xs:List V} (e:H a=some (.tup xs)):TyOf K H (.ref a) (.type "tuple")
 | dK {a:Addr}{kvs:List (Key×V)} (e:H a=some (.dK kvs)):TyOf K H (.ref a) (.type "dict")
 | dT {a:Addr}{kvs:List (List Key×V)} (e:H a=some (.dT kvs)):TyOf K H (.ref a) (.type "dict")
 | ins {a C dx:Addr}{fs:List (Str×V)} (e:H a=some (.ins C dx fs)) (cl:Cls K C) (ha:® K (.ref C) "__class__" = some (some (.builtin "object.__class__")))
   (hn:PySem.W.specialIn K (.builtin "object.__class__") "__get__" = some (some (.builtin "getset_descriptor.__get__"))) (htk:PySem.W.takesIn K (.builtin "object.__class__")=some true)
   (hm:PySem.W.mroIn K C (.type "object")=some true):TyOf K H (.ref a) (.ref C)
end
structure Room(k:Nat)(A:Around):Prop where
 hd:A.handled=none
 dp:A.depth+3*k+5<recursionLimit
 un:A.units+16*k+200<cLine
 gd:A.guards=some []
theorem Room.mono{j k:Nat}{A:Around}(r:Room k A)(h:j<=k):Room j A:=⟨r.hd,by have:=r.dp;w,by have:=r.un;w,r.gd⟩
theorem Room.deeper{k:Nat}{A:Around}(r:Room (k+1) A)(env:Env):Room k (A.deeper env) :=
 ⟨r.hd,by have:=r.dp;show A.depth+1+3*k+5<_;w,by have:=r.un;show A.units+3+16*k+200<_;w,r.gd⟩
theorem VG{A:Around}{C:Addr}{us:List Value}{kw:List (Str×Value)}:(A.under (.builtin "type.__call__" ⟨.ref C::us,kw⟩)).depth=A.depth+1:=by
 first | rfl | simp[Around.under,Code.weight,Code.isCreation,Code.isGuard,Code.isCaller,Code.frames,Code.isFrame,guardIds]
theorem UJ{A:Around}{C:Addr}{us:List Value}{kw:List (Str×Value)}:(A.under (.builtin "type.__call__" ⟨.ref C::us,kw⟩)).units=A.units+1:=by
 first | rfl | simp[Around.under,Code.cUnits,Code.frames,Code.isFrame]
theorem Qy{A:Around}{C:Addr}{us:List Value}{kw:List (Str×Value)}(hg:A.guards=some []):(A.under (.builtin "type.__call__" ⟨.ref C::us,kw⟩)).guards=some []:=by
 h h:(Code.builtin "type.__call__" ⟨.ref C::us,kw⟩).isGuard=false:=by
  show guardIds.contains "type.__call__" = false;decide +kernel
 simp[Around.under,Code.guards,h,pushGuards,hg]
theorem Room.make{k:Nat}{A:Around}(r:Room (k+1) A)(C:Addr)(us:List Value)(kw:List (Str×Value)):Room k (A.under (.builtin "type.__call__" ⟨.ref C::us,kw⟩)) :=
 ⟨r.hd,by have:=r.dp;rw[VG];w,by have:=r.un;rw[UJ];w,Qy r.gd⟩
theorem Room.depth{k:Nat}{A:Around}(r:Room k A):A.depth<recursionLimit:=by have:=r.dp;w
theorem Room.units{k:Nat}{A:Around}(r:Room k A):A.units+64<cLine:=by have:=r.un;w
def AGJ:TA:=fun _ H Q=>Q [] H
def AFt(ta:TE)(tr:TA):TA:=fun σ H Q=>ta σ H fun x H1=>tr σ H1 fun xs H2=>Q (x::xs) H2
section
variable{X:Cx}{e:Expr}{es:List Expr}{te:TE}{t:TA}{pos:Pos}
theorem Ad:PA X [] AGJ:=fun _ _ _ _ H Q I h=>Calls.spliced_nil ⟨[],H,I,.nil,h⟩
theorem Aa(ha:PE X e te)(hr:PA X es t)(hs:starEach (e::es) X.env=(false,eval e X.env)::starEach es X.env:=by rfl):PA X (e::es) (AFt te t):=by
 intro pos pins s σ H Q I h;rw[hs];show wpAny _ _ (spliced ((false,eval e X.env)::backTo pos (starEach es X.env))) _ _ s;r Calls.spliced_cons (thn (ha pins s σ H _ I h) fun u s1 ⟨x,H1,I1,r1,q1⟩=>?_);!thn (hr pos pins s1 σ H1 _ I1 q1) fun us s2 ⟨xs,H2,I2,r2,q2⟩=>⟨x::xs,H2,I2,.cons r1 r2,q2⟩
def AGV(t:TA):TE:=fun σ H Q=>t σ H fun xs H1=>xs.length<=sizeLine/\∀ p,H1 p=none->Q (.ref p) (upd H1 p (.tup xs))
def AGQ(t:TA):TE:=fun σ H Q=>t σ H fun xs H1=>xs.length<=sizeLine/\∀ p,H1 p=none->Q (.ref p) (upd H1 p (.lst xs))
theorem Ce{x1}(h:PA X es t):PE X (.Tuple es x1 pos) (AGV t):=by
 intro pins s σ H Q I hq;r wpAny_Tuple_spliced (thn (h pos pins s σ H _ I hq) fun us s1 ⟨xs,H1,I1,r,z,q⟩=>⟨by rw[<- r.length];!z,?_⟩);h hf:H1 s1.heap.objs.size=none:=I1.hok.fresh ②;r⟨.ref s1.heap.objs.size,upd H1 s1.heap.objs.size (.tup xs),I1.laid (t':=s1.toks) (fun b u e=>° _ e) ② ?_,rfl,q _ hf⟩;!⟨z,us,r,⟨_,¿ _ rfl,rfl,_,rfl⟩⟩
theorem Cv(h:PA X es t):PE X (.List es pos) (AGQ t):=by
 intro pins s σ H Q I hq;r wpAny_List_spliced (thn (h pos pins s σ H _ I hq) fun us s1 ⟨xs,H1,I1,r,z,q⟩=>⟨by rw[<- r.length];!z,?_⟩);h hf:H1 s1.heap.objs.size=none:=I1.hok.fresh ②;r⟨.ref s1.heap.objs.size,upd H1 s1.heap.objs.size (.lst xs),I1.laid (t':=s1.toks) (fun b u e=>° _ e) ② ?_,rfl,q _ hf⟩;!⟨z,us,0,r,¿ _ rfl⟩
end
abbrev Sp:=List V->Hp->VK->XK->Prop
abbrev CXT:=List Env->Hp->Shared->XK->Value->Shared->Prop
structure Env0(P:Program)(w:World)(K:¨)(mg:Str->Option Value)(base:Heap)(A:Around)(outer:List Env)(s:Shared)(H:Hp):Prop where
 frames:A.frames=some outer
 mod:Mod K mg base
 bs:∀ b o,base.get? b=some o->s.heap.get? b=some o/\H b=none
 bsz:base.objs.size<=¸
 funs:s.heap.FunFrames base outer
 frf:∀ b∈frs outer,H b=none
 hok:HOk P w H s.heap
 bare:AllBare s.gens
def CE(outer:List Env)(P:Program)(w:World)(H:Hp)(s:Shared)(Q:VK)(u:Value)(s':Shared):Prop :=
 ∃ v H',s'.os=s.os/\AllBare s'.gens/\Un (frs outer) [] H H' s.heap s'.heap/\HOk P w H' s'.heap/\RelV v u/\Q v H'
def CR(CX:CXT)(outer:List Env)(P:Program)(w:World)(H:Hp)(s:Shared)(Q:VK)(E:XK)(r:Result)(s':Shared):Prop :=
 match r with
 | .ok (.ret u)=>CE outer P w H s Q u s'
 | .ok _=>False
 | .error e=>CX outer H s E e s'
structure FnOk(P:Program)(w:World)(K:¨)(mg:Str->Option Value)(base:Heap)(CX:CXT)(k:Nat)(f:Addr)(fd:FuncData)(ps:List Str)(sp:Sp):Prop where
 len:∀ vs H Q E,sp vs H Q E->vs.length=ps.length
 run:∀(A:Around) (outer:List Env) (s:Shared) (H:Hp) (args:Args) (us:List Value) (vs:List V) (Q:VK) (E:XK),Room k A->Env0 P w K mg base A outer s H->BindsTo s fd args (ps.zip us)->Vals vs us->sp vs H Q E ->
  codeAny (model P w) A (.call (.ref f) args) (CR CX outer P w H s Q E) s
theorem Env0.make{P:Program}{w:World}{K:¨}{mg:Str->Option Value}{base:Heap}{A:Around}{outer:List Env}{s:Shared}{H:Hp}(e:Env0 P w K mg base A outer s H)(C:Addr)(us:List Value)(kw:List (Str×Value)) :
  Env0 P w K mg base (A.under (.builtin "type.__call__" ⟨.ref C::us,kw⟩)) outer s H:=⟨by first | !e.frames | (simpa [Around.under,Code.envs,Code.isFrame,pushEnvs] using e.frames),e.mod,e.bs,e.bsz,e.funs,e.frf,e.hok,e.bare⟩
section
variable{X:Cx}{pins:List ⑥}{σ:St}{H:Hp}{s s':Shared}
theorem Inv.env0(I:Inv X pins σ H s):Env0 X.prog X.w X.K X.mg X.base X.A X.stack s H :=
 ⟨I.ok.frames,I.ok.mod,I.bs,Nat.le_trans I.ok.bsz I.sz,I.stack,I.stkFree,I.hok,I.bare⟩
theorem Inv.after{Q:VK}{u:Value}(I:Inv X pins σ H s)(h:CE X.stack X.prog X.w H s Q u s'):EP X pins σ Q u s':=by
 o⟨v,H',os,bare,un,hok,r,q⟩:=h;o⟨hh,g,d,t,os'⟩:=s';obtain rfl:os'=s.os:=os;!⟨v,H',I.call (h':=hh) (g':=g) (d':=d) (t':=t) (ch:=[]) un hok bare (fun b z=>absurd z ¥),r,q⟩
end
def AFa(sp:Sp)(dvs:List V)(E:XK)(t:TA):TE:=fun σ H Q=>t σ H fun vs H1=>sp (vs++dvs) H1 Q E
def ADx(C:Addr)(m:Str)(sp:Sp)(dvs:List V)(E:XK)(ta:TE)(t:TA):TE:=fun σ H Q=>ta σ H fun x H1=>∃ a dx fs,x=.ref a/\H1 a=some (.ins C dx fs)/\fs.lookup m=none /\
 t σ H1 fun vs H2=>sp (x::(vs++dvs)) H2 Q E
def AGC(C:Addr)(sp:Sp)(dvs:List V)(E:XK)(t:TA):TE:=fun σ H Q=>t σ H fun vs H1=>∀ x dx,H1 x=none->H1 dx=none->dx≠x ->
 sp (.ref x::(vs++dvs)) (upd (upd H1 dx (.own x)) x (.ins C dx [])) (fun v H2=>v=.non/\Q (.ref x) H2) E
def Binds(K:¨)(fd:FuncData)(ps:List Str)(ds:List Value):Prop :=
 ∀(s:Shared) (us:List Value),K.In s.heap->(us++ds).length=ps.length->BindsTo s fd ⟨us,[]⟩ (ps.zip (us++ds))
theorem Binds.all{K:¨}{fd:FuncData}{ps:List Str}(h:∀ us:List Value,us.length=ps.length->bindArgs fd ⟨us,[]⟩=pure (ps.zip us)):Binds K fd ps []:=fun s us _ hl=>by
 rw[List.append_nil] at hl ⊢;!.of_eq (h us hl)
def Passes(CX:CXT)(X:Cx)(E:XK):Prop:=∀(pins:List ⑥) (σ:St) (H:Hp) (s:Shared) (e:Value) (s':Shared),Inv X pins σ H s->CX X.stack H s E e s'->X.xe e s'
section
variable{X:Cx}{CX:CXT}{k:Nat}{f C:Addr}{fd:FuncData}{ps:List Str}{sp:Sp}{dvs:List V}{ds:List Value}{E:XK}{x m:Str}{p pos apos:Pos}{e o:Expr}{es:List Expr}{ta:TE}{t:TA}
theorem Ui{pins:List ⑥}{σ:St}{H:Hp}{s:Shared}{Q:VK}{us:List Value}{vs:List V}(F:FnOk X.prog X.w X.K X.mg X.base CX k f fd ps sp)(hr:Room k X.A)(hb:Binds X.K fd ps ds)(hd:Vals dvs ds)(hx:Passes CX X E)
  (I:Inv X pins σ H s) (r:Vals vs us) (h:sp (vs++dvs) H Q E):wpAny ③ X.A (call (.ref f) us) (EP X pins σ Q) X.xe s:=by
 h r2:Vals (vs++dvs) (us++ds):=r.append hd;h hl:(us++ds).length=ps.length:=by rw[<- r2.length];!F.len _ _ _ _ h
 r wpAny_call (codeAny_mono (F.run X.A X.stack s H ⟨us,[]⟩ (us++ds) (vs++dvs) Q E hr I.env0 (hb s us I.kIn hl) r2 h) fun r s' hq=>?_);cases r with
 | error e=>!hx pins σ H s e s' I hq
 | ok fl =>
  cases fl with
  | ret u=>!I.after hq
  | next=>!False.elim hq
  | brk=>!False.elim hq
  | cont=>!False.elim hq
theorem BP(F:FnOk X.prog X.w X.K X.mg X.base CX k f fd ps sp)(hr:Room k X.A)(hg:Gl X x)(hm:X.mg x=some (.ref f))(hk:© X.K (.ref f)=true)(hb:Binds X.K fd ps ds)(hd:Vals dvs ds)(hx:Passes CX X E)
  (ha:PA X (e::es) t) (hdb:(x==("__debug__" : Str))=false:=by decide) (he:starEach (e::es) X.env=(false,eval e X.env)::starEach es X.env:=by rfl) (hpl:(backTo pos (starEach es X.env)).any (·.1)=false:=by rfl) :
  PE X (.Call (.Name x p) (e::es) [] pos) (AFa sp dvs E t):=by
 intro pins s σ H Q I h;r wpAny_Call_Name_kw (Jq I hg hm ?_ hdb);r PySem.W.callWith_K (h₀:=X.base) I.ok.mod.kin hk (thn (ha pos pins s σ H _ I h) fun us s1 ⟨vs,H1,I1,r,q⟩=>⟨I1.kIn,?_⟩) he hpl;!Ui F hr hb hd hx I1 r q
theorem Dl{pl:Sem Bool}(he:PE X o ta)(c:Cls X.K C)(hm:Meth X.K C m f)(F:FnOk X.prog X.w X.K X.mg X.base CX k f fd ps sp)(hr:Room k X.A)(hb:Binds X.K fd ps ds)(hd:Vals dvs ds)(hx:Passes CX X E)(ha:PA X (e::es) t)
  (hst:starEach (e::es) X.env=(false,eval e X.env)::starEach es X.env:=by rfl) (hpl:(backTo pos (starEach es X.env)).any (·.1)=false:=by rfl)
  (ht:eval (.Call (.Attribute o m apos) (e::es) [] pos) X.env=(do
   let ov <- eval o X.env
   standAt apos.atName
   let (f,first) <- holding [ov] (getMethod ov m pl)
   callWith pos f first (backTo pos (starEach (e::es) X.env)) (backToKw pos (keywordEach [] X.env))):=by rfl) :
  PE X (.Call (.Attribute o m apos) (e::es) [] pos) (ADx C m sp dvs E ta t):=by
 intro pins s σ H Q I h;r PySem.W.methodCall_KW (pl:=pl) (thn (he pins s σ H _ I h) fun u s1 ⟨x,H1,I1,rx,a,dx,fs,ex,ea,l,q⟩=>?_) ht;subst ex;obtain rfl:u=Value.ref a:=rx;r Jx I1 ea c hm l ?_;r PySem.W.callWith_K (first:=[.ref a]) (h₀:=X.base) I.ok.mod.kin hm.kp (thn (ha pos pins s1 σ H1 _ I1 q) fun us s2 ⟨vs,H2,I2,r,q2⟩=>⟨I2.kIn,?_⟩) hst hpl;!Ui (us:=.ref a::us) (vs:=.ref a::vs) F hr hb hd hx I2 (.cons rfl r) q2
theorem Bt{pl:Sem Bool}(he:PE X o ta)(c:Cls X.K C)(hm:Meth X.K C m f)(F:FnOk X.prog X.w X.K X.mg X.base CX k f fd ps sp)(hr:Room k X.A)(hb:Binds X.K fd ps ds)(hd:Vals dvs ds)(hx:Passes CX X E)
  (ht:eval (.Call (.Attribute o m apos) [] [] pos) X.env=(do
   let ov <- eval o X.env
   standAt apos.atName
   let (f,first) <- holding [ov] (getMethod ov m pl)
   callWith pos f first (backTo pos (starEach [] X.env)) (backToKw pos (keywordEach [] X.env))):=by rfl) :
  PE X (.Call (.Attribute o m apos) [] [] pos) (ADx C m sp dvs E ta AGJ):=by
 intro pins s σ H Q I h;r PySem.W.methodCall_KW (pl:=pl) (thn (he pins s σ H _ I h) fun u s1 ⟨x,H1,I1,rx,a,dx,fs,ex,ea,l,q⟩=>?_) ht;subst ex;obtain rfl:u=Value.ref a:=rx;r Jx I1 ea c hm l ?_;!PySem.W.callWith_K0 (first:=[.ref a]) I1.kIn hm.kp (Ui (us:=[.ref a]) (vs:=[.ref a]) F hr hb hd hx I1 (.cons rfl .nil) q)
structure Mk(K:¨)(C f:Addr):Prop where
 makes:PySem.W.makesIn K C=true
 init:® K (.ref C) "__init__" = some (some (.ref f))
 fn:PySem.W.isFn K (.ref f)=true
 kp:© K (.ref C)=true
theorem AAs{pins:List ⑥}{σ:St}{H:Hp}{s:Shared}{Q:VK}{us:List Value}{vs:List V}(M:Mk X.K C f)(F:FnOk X.prog X.w X.K X.mg X.base CX k f fd ps sp)(hr:Room (k+1) X.A)(hb:Binds X.K fd ps ds)(hd:Vals dvs ds)
  (hx:Passes CX X E) (I:Inv X pins σ H s) (r:Vals vs us)
  (h:∀ x dx,H x=none->H dx=none->dx≠x->sp (.ref x::(vs++dvs)) (upd (upd H dx (.own x)) x (.ins C dx [])) (fun v H2=>v=.non/\Q (.ref x) H2) E) :
  wpAny ③ X.A (call (.ref C) us) (EP X pins σ Q) X.xe s:=by
 h hq:=h (¸+1) ¸ (I.hok.fresh (Nat.le_succ _)) (I.hok.fresh ②) (Nat.ne_of_lt (Nat.lt_succ_self _));h I2:=Inv.made (C:=C) I;h r2:Vals (V.ref (¸+1)::(vs++dvs)) (Value.ref (¸+1)::(us++ds)):=.cons rfl (r.append hd);h hl:(Value.ref (¸+1)::us++ds).length=ps.length:=by
  h e:=r2.length;rw[F.len _ _ _ _ hq] at e;!e.symm
 r wpAny_call (ABr (f:=f) I.kIn M.makes M.init (beq_iff_eq.mp M.fn) (codeAny_mono (F.run _ X.stack _ _ ⟨Value.ref (¸+1)::us,[]⟩ (Value.ref (¸+1)::(us++ds)) _ _ E (hr.make C us [])
  (I2.env0.make C us []) (hb _ (Value.ref (¸+1)::us) I2.kIn hl) r2 hq) fun r s' hq'=>?_))
 cases r with
 | error e=>!hx pins σ _ _ e s' I2 hq'
 | ok fl =>
  cases fl with
  | ret u =>
   o⟨v,H',I3,rv,ev,q3⟩:=I2.after hq';subst ev;!⟨rv,⟨V.ref (¸+1),H',I3,rfl,q3⟩⟩
  | next=>!False.elim hq'
  | brk=>!False.elim hq'
  | cont=>!False.elim hq'
theorem QF(M:Mk X.K C f)(F:FnOk X.prog X.w X.K X.mg X.base CX k f fd ps sp)(hr:Room (k+1) X.A)(hg:Gl X x)(hm:X.mg x=some (.ref C))(hb:Binds X.K fd ps ds)(hd:Vals dvs ds)(hx:Passes CX X E)
  (ha:PA X (e::es) t) (hdb:(x==("__debug__" : Str))=false:=by decide) (he:starEach (e::es) X.env=(false,eval e X.env)::starEach es X.env:=by rfl) (hpl:(backTo pos (starEach es X.env)).any (·.1)=false:=by rfl) :
  PE X (.Call (.Name x p) (e::es) [] pos) (AGC C sp dvs E t):=by
 intro pins s σ H Q I h;r wpAny_Call_Name_kw (Jq I hg hm ?_ hdb);r PySem.W.callWith_K (h₀:=X.base) I.ok.mod.kin M.kp (thn (ha pos pins s σ H _ I h) fun us s1 ⟨vs,H1,I1,r,q⟩=>⟨I1.kIn,?_⟩) he hpl;!AAs M F hr hb hd hx I1 r q
end
section
variable{X:Cx}{CX:CXT}{k:Nat}{f C:Addr}{fd:FuncData}{ps ks:List Str}{sp:Sp}{E:XK}{x m:Str}{p pos apos kpos:Pos}{e o:Expr}{es:List Expr}{kws:List Keyword}{te ta:TE}{t tk:TA}{nm:Option Str}
structure KBinds(K:¨)(fd:FuncData)(ps ks:List Str)(g:List Value->List Value->List Value)(gV:List V->List V->List V):Prop where
 to:∀(s:Shared) (us ws:List Value),K.In s.heap->(g us ws).length=ps.length->BindsTo s fd ⟨us,ks.zip ws⟩ (ps.zip (g us ws))
 rel:∀{vs:List V}{us:List Value}{zs:List V}{ws:List Value},Vals vs us->Vals zs ws->Vals (gV vs zs) (g us ws)
variable{g:List Value->List Value->List Value}{gV:List V->List V->List V}
end
structure FnScope(N P:List Str)(sc:Scope):Prop where
 kind:sc.kind=.function
 co:sc.isCoroutine=false
 gen:sc.isGenerator=false
 nd:N.Nodup
 pre:N.take P.length=P
 par:∀ x∈P,sc.names.lookup x=some .local\/sc.names.lookup x=some .cell
 nofree:∀ y∈sc.names,y.2≠.free
theorem Nr{kindOf:Str->Option NameKind}{x:Str}:∀{binds:List (Str×Value)}{m:Str->Option Value},(∀ v,(x,v)∉binds)->bindL kindOf binds m x=m x
 | [],_,_=>rfl
 | (n,v)::r,m,h=>by
  unfold bindL;rw[Nr fun w hw=>h w (¶ _ hw)];split
  ·have:x≠n:=by rintro rfl;!h v ´
   simp[this]
  ·rfl
theorem Ml{kindOf:Str->Option NameKind}{x:Str}:∀{binds:List (Str×Value)}{m:Str->Option Value},(∀ v,(x,v)∉binds)->bindC kindOf binds m x=m x
 | [],_,_=>rfl
 | (n,v)::r,m,h=>by
  unfold bindC;rw[Ml fun w hw=>h w (¶ _ hw)];split
  ·rfl
  ·have:x≠n:=by rintro rfl;!h v ´
   simp[this]
theorem Ox{kindOf:Str->Option NameKind}{x:Str}{v:Value}:∀{P:List Str}{vs:List Value}{i:Nat}{m:Str->Option Value},P.Nodup->P[i]?=some x->vs[i]?=some v->kindOf x=some .local ->
  bindL kindOf (P.zip vs) m x=some v
 | [],_,_,_,_,h,_,_=>by simp at h
 | _::_,[],_,_,_,_,h,_=>by simp at h
 | p::P,w::vs,0,m,nd,h1,h2,hk=>by
  simp at h1 h2;subst h1;subst h2;show bindL kindOf ((p,w)::P.zip vs) m p=_;unfold bindL;rw[Nr fun v hv=>(List.nodup_cons.mp nd).1 (List.of_mem_zip hv).1,if_pos hk];simp
 | p::P,w::vs,i+1,m,nd,h1,h2,hk=>by
  show bindL kindOf ((p,w)::P.zip vs) m x=_;unfold bindL;!Ox (i:=i) (List.nodup_cons.mp nd).2 (by u h1) (by u h2) hk
theorem Mq{kindOf:Str->Option NameKind}{x:Str}{v:Value}:∀{P:List Str}{vs:List Value}{i:Nat}{m:Str->Option Value},P.Nodup->P[i]?=some x->vs[i]?=some v->kindOf x≠some .local ->
  bindC kindOf (P.zip vs) m x=some v
 | [],_,_,_,_,h,_,_=>by simp at h
 | _::_,[],_,_,_,_,h,_=>by simp at h
 | p::P,w::vs,0,m,nd,h1,h2,hk=>by
  simp at h1 h2;subst h1;subst h2;show bindC kindOf ((p,w)::P.zip vs) m p=_;unfold bindC;rw[Ml fun v hv=>(List.nodup_cons.mp nd).1 (List.of_mem_zip hv).1,if_neg hk];simp
 | p::P,w::vs,i+1,m,nd,h1,h2,hk=>by
  show bindC kindOf ((p,w)::P.zip vs) m x=_;unfold bindC;!Mq (i:=i) (List.nodup_cons.mp nd).2 (by u h1) (by u h2) hk
def start(N:List Str)(vs:List V):St:=vs.map some++List.replicate (N.length-vs.length) none
def cxOf(CX:CXT)(P:Program)(w:World)(K:¨)(mg:Str->Option Value)(base:Heap)(N:List Str)(qual:Str)(scope:Scope)(f:Addr)(cd:Value)(A:Around)(outer:List Env)(s:Shared)(H:Hp)(E:XK):Cx where
 prog:=P
 w:=w
 K:=K
 mg:=mg
 base:=base
 A:=A.deeper (envOfC qual scope ¸ f cd)
 N:=N
 s₀:=s
 H₀:=H
 env:=envOfC qual scope ¸ f cd
 outer:=outer
 stack:=envOfC qual scope ¸ f cd::outer
 ex:=[]
 calm:=true
 fn:=fun _=>true
 pn:=[]
 xe:=fun e s'=>wpAny (model P w) (A.deeper (envOfC qual scope ¸ f cd)) (leaving (envOfC qual scope ¸ f cd) e) (fun _ s''=>CX outer H s E e s'') (fun e' s''=>CX outer H s E e' s'') s'
theorem TY{sc:Scope}{n:Nat}{x:Str}(h:sc.names.lookup x=some .cell):∃ c,(cellsFrom n sc.names []).lookup x=some c:=by
 h q:=PySem.W.cellsFrom_some sc.names n [] (.inl h);!Option.isSome_iff_exists.mp q
theorem ZD{CX:CXT}{P:Program}{w:World}{K:¨}{mg:Str->Option Value}{base:Heap}{N ps:List Str}{qual:Str}{scope:Scope}{f:Addr}{cd:Value}{A:Around}{outer:List Env}{s s1:Shared}{H:Hp}{E:XK}{us:List Value}{vs:List V}
  (S:FnScope N ps scope) (hd:A.handled=none) (e0:Env0 P w K mg base A outer s H) (hl:vs.length=ps.length) (r:Vals vs us)
  (x:InCallC s ¸ (bindL (envOfC qual scope ¸ f cd).kindOf (ps.zip us) fun _=>none) (cellsFrom (¸+1) scope.names []) (bindC (envOfC qual scope ¸ f cd).kindOf (ps.zip us) fun _=>none) s1) :
  Inv (cxOf CX P w K mg base N qual scope f cd A outer s H E) [] (start N vs) H s1:=by
 h hpl:ps.length<=N.length:=by have:=congrArg List.length S.pre;rw[List.length_take] at this;w
 o⟨h1,tk,rfl,hk⟩:=x.done;h noA:∀ b:Addr,b∉(cxOf CX P w K mg base N qual scope f cd A outer s H E).ex:=fun b z=>absurd (show b∈([]:List Addr) from z) ¥;r⟨⟨e0.mod,S.kind,rfl,rfl,Nat.le_refl _,fun y z c h1 h2=>?_,fun y hy=>?_,fun y c _ h=>?_,fun _=>hd,Around.frames_deeper e0.frames,.inr ⟨rfl,rfl⟩,fun b z=>absurd z (noA b),e0.bs,e0.bsz,fun b _ _=>noA b,fun b z=>absurd z (noA b),e0.funs,e0.frf⟩,
  rfl,e0.bare,Un.kept hk,⟨_,x.toInCall.ns,fun i y v h1 h2 h3=>?_⟩,fun y c h=>⟨_,x.cell y c h⟩,e0.hok.fresh ②,fun y c h=>?_,fun p hp=>absurd (show p∈([]:List ⑥) from hp) ¥,e0.hok.kept hk,?_⟩
 ·!name_of_addr x.apart (PySem.mem_of_lookup h1) (PySem.mem_of_lookup h2)
 ·h hy:scope.names.lookup y=some .cell\/scope.names.lookup y=some .free:=hy
  rcases hy with hy | hy
  ·!TY hy
  ·!absurd rfl (S.nofree _ (PySem.mem_of_lookup hy))
 ·!Nat.le_of_lt (x.above y c (PySem.mem_of_lookup h))
 ·h hi:i<vs.length:=by
   unfold start at h2;by_cases hi:i<vs.length
   ·!hi
   ·rw[List.getElem?_append_right (by u hi)] at h2
    rw[List.getElem?_replicate] at h2;split at h2<;>cases h2
  h ha:vs[i]?=some v:=by
   unfold start at h2;rw[┆ (by u hi),┉] at h2;cases e:vs[i]? with
   | none=>rw[e] at h2;cases h2
   | some a=>rw[e] at h2;cases h2;rfl
  o⟨u,hu,rv⟩:=r.get ha;h hp:ps[i]?=some y:=by
   rw[<- S.pre,List.getElem?_take_of_lt ¢];!h1
  h ndP:ps.Nodup:=by rw[<- S.pre];!S.nd.sublist (List.take_sublist _ _)
  r⟨u,rv,?_⟩;rcases S.par y (┈ hp) with k | k
  ·!.inl ⟨k,Ox ndP hp hu k⟩
  ·o⟨c,e⟩:=TY (n:=¸+1) k
   r .inr ⟨.inl k,c,e,?_⟩;h q:=x.cell y c e;rw[Mq ndP hp hu (by show scope.names.lookup y≠_;rw[k];decide)] at q;!q
 ·!e0.hok.fresh (Nat.le_of_lt (x.above y c (PySem.mem_of_lookup h)))
 ·unfold start
  show _=N.length;rw[│,─,List.length_replicate];w
theorem AFi{CX:CXT}{P:Program}{w:World}{K:¨}{mg:Str->Option Value}{base:Heap}{k:Nat}{f:Addr}{name qual:Str}{params:Arguments}{body:List Stmt}{scope:Scope}{dV kV doc pm cdv ct oc:Value}{an od:Option Addr}
  {osl:Array ⑨}{N ps:List Str}{sp:Sp} (lk:K.lookup f=some ⟨oc,od,.func (PySem.W.fnOf name qual params body scope dV kV doc pm an cdv ct),osl⟩) (hcd:┇ K cdv qual=true) (S:FnScope N ps scope)
  (len:∀ vs H Q E,sp vs H Q E->vs.length=ps.length)
  (hbody:∀(A:Around) (outer:List Env) (s:Shared) (H:Hp) (vs:List V) (Q:VK) (E:XK),Room k (A.deeper (envOfC qual scope ¸ f cdv))->sp vs H Q E ->
   ∃ t,PSs (cxOf CX P w K mg base N qual scope f cdv A outer s H E) body t/\t {nx:=fun _ H'=>Q .non H',rt:=Q} (start N vs) H) :
  FnOk P w K mg base CX (k+1) f (PySem.W.fnOf name qual params body scope dV kV doc pm an cdv ct) ps sp:=by
 r⟨len,fun A outer s H args us vs Q E hr e0 hb r hsp=>?_⟩;h hl:=len _ _ _ _ hsp;h KX:K.In s.heap:=e0.mod.kin.keeps fun b o e=>(e0.bs b o e).1;h lim:s.heap.NoLimit:=e0.mod.nolimit.keeps fun b o e=>(e0.bs b o e).1;h hkind:∀ y∈ps.zip us,scope.names.lookup y.1=some .local\/(scope.names.lookup y.1=some .cell/\((cellsFrom (¸+1) scope.names []).lookup y.1).isSome=true):=fun⟨n,v⟩ hy=>by
  rcases S.par n (List.of_mem_zip hy).1 with q | q
  ·!.inl q
  ·!.inr ⟨q,PySem.W.cellsFrom_some _ _ _ (.inl q)⟩
 r codeAny_call_function hr.depth (KX _ _ lk) rfl S.co S.gen rfl (PySem.W.codeRec_of KX hcd) (hb _ _ _ _ ?_);r wpAny_newFunctionEnv_cells S.kind hkind fun env he s1 x=>?_;subst he;r⟨lim.keeps x.toInCall.keep,codeAny_func ?_⟩;o⟨t,ht,hq⟩:=hbody A outer s H vs Q E (hr.deeper _) hsp;h I:Inv (cxOf CX P w K mg base N qual scope f cdv A outer s H E) [] (start N vs) H s1:=ZD S hr.hd e0 hl r x;r wpAny_mono (ht [] s1 (start N vs) H _ I hq) (fun fl s' hs=>?_) fun e s' hs=>hs;h fin:∀{σ':St}{H':Hp}{v:V}{u:Value},Inv (cxOf CX P w K mg base N qual scope f cdv A outer s H E) [] σ' H' s'->RelV v u->Q v H'->CE outer P w H s Q u s' :=
  fun {σ' H' v u} J rv q=>⟨v,H',J.os,J.bare,J.base,J.hok,rv,q⟩
 cases fl with
 | ret u =>
  o⟨v,σ',H',J,rv,q⟩:=hs;!fin J rv q
 | next =>
  o⟨σ',H',J,q⟩:=hs;!fin (v:=V.non) (u:=Value.none) J rfl q
 | brk =>
  o⟨_,_,_,q⟩:=hs;!False.elim q
 | cont =>
  o⟨_,_,_,q⟩:=hs;!False.elim q
section
variable{X:Cx}{x:Str}{p pos:Pos}{e:Expr}{es:List Expr}{t:TA}{id T:String}{r:List V->Hp->VK->Prop}
def tCB(r:List V->Hp->VK->Prop)(t:TA):TE:=fun σ H Q=>t σ H fun vs H1=>r vs H1 Q
theorem BJ(hc:CallR X (.builtin id) r)(hg:Gl X x)(hm:X.mg x=none)(hv:bootBuiltins x=some (.builtin id))(ha:PA X (e::es) t)(hn:x≠"__name__":=by decide)(hdb:(x==("__debug__" : Str))=false:=by decide)
  (he:starEach (e::es) X.env=(false,eval e X.env)::starEach es X.env:=by rfl) (hpl:(backTo pos (starEach es X.env)).any (·.1)=false:=by rfl):PE X (.Call (.Name x p) (e::es) [] pos) (tCB r t):=by
 intro pins s σ H Q I h;r wpAny_Call_Name_kw (Eb I hg hm hv ?_ hn hdb);!PyProof.Rows.callWith_builtin1 (thn (ha pos pins s σ H _ I h) fun us s1 ⟨vs,H1,I1,r1,q1⟩=>hc pins s1 σ H1 vs us Q I1 r1 q1) he hpl
theorem Bb(hc:CallR X (.type T) r)(hg:Gl X x)(hm:X.mg x=none)(hv:bootBuiltins x=some (.type T))(ha:PA X (e::es) t)(hn:x≠"__name__":=by decide)(hdb:(x==("__debug__" : Str))=false:=by decide)
  (he:starEach (e::es) X.env=(false,eval e X.env)::starEach es X.env:=by rfl) (hpl:(backTo pos (starEach es X.env)).any (·.1)=false:=by rfl):PE X (.Call (.Name x p) (e::es) [] pos) (tCB r t):=by
 intro pins s σ H Q I h;r wpAny_Call_Name_kw (Eb I hg hm hv ?_ hn hdb);!PyProof.Rows.callWith_type1 (thn (ha pos pins s σ H _ I h) fun us s1 ⟨vs,H1,I1,r1,q1⟩=>hc pins s1 σ H1 vs us Q I1 r1 q1) he hpl
end
end L2
namespace HT
open PySem PyProof.Rows
def lexLt:List Int->List Int->Bool
 | [],[]=>false
 | [],_::_=>true
 | _::_,[]=>false
 | x::xs,y::ys=>if x=y then lexLt xs ys else decide (x<y)
theorem Ca(x y:Int)(xs ys:List Int):lexLt (x::xs) (y::ys)=if x=y then lexLt xs ys else decide (x<y):=rfl
theorem Lx:lexLt [] []=false:=rfl
theorem KQ(y:Int)(ys:List Int):lexLt [] (y::ys)=true:=rfl
theorem Lh(x:Int)(xs:List Int):lexLt (x::xs) []=false:=rfl
theorem AAc(A:Around)(s:Shared)(a:Int)(t:Tok)(c:Int)(u:Tok):∃ e,SeqAt.EqAt A s (.int a t) (.int c u) e/\(e=true↔a=c) :=
 ⟨(a==c),SeqAt.EqAt.int_int a t c u,by simp⟩
theorem AAb(A:Around)(s:Shared)(a:Int)(t:Tok)(c:Int)(u:Tok)(prog:Program)(w:World)(E:Value->Shared->Prop)(Q:Value->Shared->Prop)(h:Q (.bool (decide (a<c))) s) :
  wpAny ① A (richCompare .Lt (.int a t) (.int c u)) Q E s :=
 (PyProof.Rows.lt_int h:wpAny ① A (compareOp .Lt (.int a t) (.int c u)) Q E s)
section
open PySem.SeqAt
open PySem.AutoSeq1 (wpAny_loadPart')
open PySem.MeetsSeq PySem.MeetsSeq2 PySem.MeetsSeq3
theorem Gy(l b:Addr)(items items2:Array Value)(n n2:Nat)(dd dd2:Option Addr)(sl sl2:Array ⑨)(ns ms:List Int)(hi:IntsAre items.toList ns)(hj:IntsAre items2.toList ms) :
  Meets (Builtin.«tuple.__lt__» ⟨[.ref l,.ref b],[]⟩)
   (fun _ R s=>s.heap.get? l=some {cls:=.type "tuple",dict:=dd,data:=.seq items n,slots:=sl}/\s.heap.get? b=some {cls:=.type "tuple",dict:=dd2,data:=.seq items2 n2,slots:=sl2} /\
    R (.ok (.ret (.bool (lexLt ns ms)))) s) :=
 .of_wp fun prog w A R s h=>by
  o⟨hp,g,d,tk,os⟩:=s;o⟨hl,hb,h⟩:=h;h f2:=AutoSeq1.sub_tuple_tuple;h z1:items.size=ns.length:=by rw[<- hi.length];simp
  h z2:items2.size=ms.length:=by rw[<- hj.length];simp
  wp_walk using wpAny_loadPart' hl,wpAny_loadPart' hb,wpAny_forIn_list _ (fun rest b s'=>b.1=none/\s'=⟨hp,g,d,tk,os⟩/\∃(vs ws:List Value) (ns' ms':List Int),rest=vs.zip ws /\
   IntsAre vs ns'/\IntsAre ws ms'/\ns'.length+items2.size=ms'.length+items.size/\R (.ok (.ret (.bool (lexLt ns' ms')))) ⟨hp,g,d,tk,os⟩) _
  case turn =>
   rintro⟨y,x⟩ rest b s' ⟨hb',rfl,vs,ws,ns',ms',hz,hvi,hwi,hlen,hR⟩;cases hvi with
   | nil=>rw[List.zip_nil_left] at hz;cases hz
   | cons a t hvi' =>
    cases hwi with
    | nil=>rw[List.zip_nil_right] at hz;cases hz
    | cons c u hwi' =>
     rw[List.zip_cons_cons] at hz;injection hz with hyx hrest
     injection hyx with hy hx
     subst hy hx;rw[Ca] at hR;simp only[List.length_cons] at hlen;o⟨e,he,hiff⟩:=AAc A.in1 ⟨hp,g,d,tk,os⟩ a t c u;b(he prog w _ _ ?_);cases e with
     | true =>
      rw[if_pos (hiff.mp rfl)] at hR
      wp_walk
      !⟨rfl,rfl,_,_,_,_,hrest,hvi',hwi',by w,hR⟩
     | false =>
      rw[if_neg (fun q=>absurd (hiff.mpr q) Bool.false_ne_true)] at hR;h hri:=AAb A.in1 ⟨hp,g,d,tk,os⟩ a t c u prog w
      wp_walk using hri
      !⟨_,rfl,by u hR⟩
  case fin =>
   rintro⟨b1,b2⟩ s' ⟨hb',rfl,vs,ws,ns',ms',hz,hvi,hwi,hlen,hR⟩;simp only at hb';subst hb';h hv:lexLt ns' ms'=decide (items.size<items2.size):=by
    cases hvi with
    | nil =>
     cases hwi with
     | nil =>
      simp only[List.length_nil] at hlen;rw[Lx];!(decide_eq_false ¢).symm
     | cons c u hw =>
      simp only[List.length_nil,List.length_cons] at hlen;rw[KQ];!(decide_eq_true ¢).symm
    | cons a t hv =>
     cases hwi with
     | nil =>
      simp only[List.length_nil,List.length_cons] at hlen;rw[Lh];!(decide_eq_false ¢).symm
     | cons c u hw =>
      rw[List.zip_cons_cons] at hz;cases hz
   rw[hv] at hR
   wp_walk
   !⟨_,rfl,by simpa [Builtin.Tuple.tupleCompareSizes] using hR⟩
  case h =>
   !⟨rfl,rfl,items.toList,items2.toList,ns,ms,rfl,hi,hj,by w,h⟩
end
section
variable{prog:Program}{w:World}{A:Around}{E:Value->Shared->Prop}{s:Shared}
theorem Tw{l b:Addr}{items items2:Array Value}{ns ms:List Int}{Q:Value->Shared->Prop}(hl:IsTup s.heap l items)(hb:IsTup s.heap b items2)(hi:IntsAre items.toList ns)(hj:IntsAre items2.toList ms)
  (hu:A.units<cLine) (h:Q (.bool (lexLt ns ms)) s):wpAny ① A (compareOp .Lt (.ref l) (.ref b)) Q E s:=by
 o⟨⟨cls,dd,data,sl⟩,ho,hc,n,hd⟩:=id hl;o⟨⟨cls2,dd2,data2,sl2⟩,ho2,hc2,n2,hd2⟩:=id hb;simp only at hc hd hc2 hd2;subst hc hd hc2 hd2;!richCompare_meets_room (op:=.Lt) ⟨_,ho,rfl⟩ ⟨_,ho2,rfl⟩ PySem.F.slot_tuple_lt PySem.F.entry_tuple_lt (PySem.F.args_tuple_lt_2 _ _) (Gy l b items items2 n n2 dd dd2 sl sl2 ns ms hi hj)
  ⟨ho,ho2,show Value.bool (lexLt ns ms)≠Value.notImplemented/\Q (.bool (lexLt ns ms)) s from⟨(fun x=>nomatch x),h⟩⟩ hu
theorem ADK{t b:Addr}{vs ws:List Value}{Q:Value->Shared->Prop}(ht:IsTup s.heap t vs.toArray)(hb:IsTup s.heap b ws.toArray)(hv:vs≠[])
  (h1:ws=[]->Q (.ref t) s) (h2:ws≠[]->Q (.ref ¸) {s with heap:=s.heap.push {cls:=.type "tuple",data:=.seq (vs++ws).toArray}})
  (hsz:vs.length+ws.length<=sizeLine):wpAny ① A (binaryOp .Add (.ref t) (.ref b)) Q E s:=by
 o⟨⟨cls,dd,data,sl⟩,ho,hc,n,hd⟩:=id ht;o⟨⟨cls2,dd2,data2,sl2⟩,ho2,hc2,n2,hd2⟩:=id hb;simp only at hc hd hc2 hd2;subst hc hd hc2 hd2;h e:vs.toArray++ws.toArray=(vs++ws).toArray:=by simp
 by_cases hw:ws=[]
 ·!concat_meets ⟨_,ho,rfl⟩ ⟨_,ho2,rfl⟩ noFill_tuple_add seq_tuple_add PySem.F.slot_tuple_add PySem.F.entry_tuple_add (PySem.F.args_tuple_add_2 _ _)
   (tuple_addW1 t b vs.toArray ws.toArray n n2 dd dd2 sl sl2 (by u hv) (by simp[hw])) ⟨ho,ho2,h1 hw⟩
 ·r concat_meets ⟨_,ho,rfl⟩ ⟨_,ho2,rfl⟩ noFill_tuple_add seq_tuple_add PySem.F.slot_tuple_add PySem.F.entry_tuple_add (PySem.F.args_tuple_add_2 _ _)
   (tuple_addW2 t b vs.toArray ws.toArray n n2 dd dd2 sl sl2 (by u hv) (by u hw) (by rw[┌,┌];!hsz)) ⟨ho,ho2,?_⟩
  rw[e];!h2 hw
def sIx(n d:Nat):Option Int->Nat
 | none=>d
 | some v=>if v<0 then (v+(n:Int)).toNat else min v.toNat n
theorem AFS(n d:Nat)(hd:d<=n)(o:Option Int):sIx n d o<=n:=by
 cases o with
 | none=>!hd
 | some v =>
  show (if v<0 then (v+(n:Int)).toNat else min v.toNat n)<=n;by_cases hv:v<0
  ·rw[if_pos hv];w
  ·rw[if_neg hv];!Nat.min_le_right _ _
theorem Ww(v:Int)(n d:Nat):(if v<0 then max (v+(n:Int)) 0 else min v (n:Int))=((sIx n d (some v):Nat):Int):=by
 show (if v<0 then max (v+(n:Int)) 0 else min v (n:Int))=(((if v<0 then (v+(n:Int)).toNat else min v.toNat n):Nat):Int);by_cases hv:v<0
 ·simp only[if_pos hv];w
 ·simp only[if_neg hv];w
theorem Vg(lo hi:Option Int)(n:Nat):Builtin.Slice.sliceAdjust lo hi 1 (n:Int)=(((sIx n 0 lo:Nat):Int),((sIx n n hi:Nat):Int)):=by
 h h1:¬ ((1:Int)<0):=by w
 unfold Builtin.Slice.sliceAdjust;simp only[h1,if_false];r Prod.ext ?_ ?_
 ·cases lo with
  | none=>rfl
  | some v=>!Ww v n 0
 ·cases hi with
  | none=>rfl
  | some v=>!Ww v n n
theorem Tr(i j:Nat):Builtin.Slice.slicePlaces (i:Int) (j:Int) 1=j-i:=by
 unfold Builtin.Slice.slicePlaces;h h1:(1:Int)>0:=by w
 simp only[h1,if_true,Int.ediv_one];split<;>w
theorem LQ{v:Value}{o:Option Int}{Q:Option Int->Shared->Prop}(p:IsPart v o)(h:Q o s):wpAny ① A (Builtin.Slice.slicePartIndex v) Q E s:=by
 cases p with
 | none=>!slicePart_none h
 | int i t=>!slicePart_int h
theorem JL{sl:Addr}{vl vu:Value}{lo hi:Option Int}{n:Nat}{Q:Int×Int×Nat->Shared->Prop}(hs:s.heap.IsSliceOf sl vl vu .none)(pl:IsPart vl lo)(pu:IsPart vu hi)
  (h:Q (((sIx n 0 lo:Nat):Int),1,sIx n n hi-sIx n 0 lo) s):wpAny ① A (Builtin.Slice.sliceApplied (.ref sl) (pure (n:Int))) Q E s:=by
 o⟨os,hos,hcs,hds⟩:=id hs;unfold Builtin.Slice.sliceApplied Builtin.Slice.sliceFields;b(wpAny_bind (wpAny_field hos hds (x:=vl) rfl (wpAny_bind (wpAny_field hos hds (x:=vu) rfl (wpAny_bind (wpAny_field hos hds (x:=.none) rfl (wpAny_pure ?_)))))));b(slicePart_none ?_);show wpAny _ _ (if ((1:Int)==0)=true then _ else _) _ _ s;rw[if_neg ¤];b(LQ pl (wpAny_bind (LQ pu (wpAny_bind (wpAny_pure ?_)))));show wpAny _ _ (match Builtin.Slice.sliceAdjust lo hi 1 (n:Int) with | (lo,hi)=>pure (lo,(1:Int),Builtin.Slice.slicePlaces lo hi 1)) _ _ s;rw[Vg lo hi n];show wpAny _ _ (pure (((sIx n 0 lo:Nat):Int),(1:Int),Builtin.Slice.slicePlaces ((sIx n 0 lo:Nat):Int) ((sIx n n hi:Nat):Int) 1)) _ _ s;rw[Tr];!wpAny_pure h
theorem AAQ(xs:Array Value)(i k:Nat):((List.range k).filterMap fun(m:Nat)=>xs[((i:Int)+(m:Int)*1).toNat]?).toArray=((xs.toList.drop i).take k).toArray:=by
 h e:(fun(m:Nat)=>xs[((i:Int)+(m:Int)*1).toNat]?)=fun m=>xs[i+m]?:=by
  funext m
  have:((i:Int)+(m:Int)*1).toNat=i+m:=by w
  rw[this]
 rw[e];have:=pick_run xs i k;rw[List.filterMap_map] at this;h e2:((fun x=>xs[x]?) ∘ fun x=>i+x)=fun m=>xs[i+m]?:=rfl;rw[e2] at this;rw[this]
theorem Hy{t sl:Addr}{items:Array Value}{vl vu:Value}{lo hi:Option Int}{Q:Value->Shared->Prop}(ht:IsTup s.heap t items)(hs:s.heap.IsSliceOf sl vl vu .none)(pl:IsPart vl lo)(pu:IsPart vu hi)
  (hw:¬ (sIx items.size 0 lo=0/\sIx items.size items.size hi=items.size))
  (h:Q (.ref ¸) {s with heap:=s.heap.push {cls:=.type "tuple",data:=.seq ((items.toList.drop (sIx items.size 0 lo)).take (sIx items.size items.size hi-sIx items.size 0 lo)).toArray}})
  (hsz:items.size<=sizeLine):wpAny ① A (getItem (.ref t) (.ref sl)) Q E s:=by
 h htake:sizeOk (.seq ((items.toList.drop (sIx items.size 0 lo)).take (sIx items.size items.size hi-sIx items.size 0 lo)).toArray):=by
  show ((items.toList.drop (sIx items.size 0 lo)).take (sIx items.size items.size hi-sIx items.size 0 lo)).toArray.size<=sizeLine;rw[┌,List.length_take,List.length_drop,┄];w
 h hj:sIx items.size items.size hi<=items.size:=AFS _ _ ② hi;o⟨os,hos,hcs,hds⟩:=id hs;h hTs:s.TypeIs (.ref sl) "slice":=⟨os,hos,hcs⟩;unfold getItem
 try with_reducible r wpAny_holding ?_
 first | r wpAny_bind (wpAny_pure ?_) | skip
 b(wpAny_sequenceKey ht.typeIs ¤ ?_);b(wpAny_callSpecial?_slot (name:=Str.ofString "__getitem__") ht.typeIs PyProof.Rows.slot_tuple_getitem
  (wpAny_call_entry PyProof.Rows.slot_tuple_getitem ht.typeIs entry_tuple_getitem ?_ (args_tuple_getitem _ _)))
 show wpAny _ _ (Builtin.Tuple.tupleItemsOf (.ref t) >>= _) _ _ s;b(tupleItemsOf_ ht ?_);b(wpAny_typeOf hTs ?_);rw[if_pos ¤];b(JL hs pl pu ?_);h hno:¬ ((((sIx items.size 0 lo:Nat):Int)==0&&(1:Int)==1&&(sIx items.size items.size hi-sIx items.size 0 lo)==items.size)=true):=by
  intro q;rw[Bool.and_eq_true,Bool.and_eq_true] at q;h q1:((sIx items.size 0 lo:Nat):Int)=0:=eq_of_beq q.1.1;h q2:sIx items.size items.size hi-sIx items.size 0 lo=items.size:=eq_of_beq q.2;!hw ⟨by w,by w⟩
 show wpAny _ _ (if (((sIx items.size 0 lo:Nat):Int)==0&&(1:Int)==1&&(sIx items.size items.size hi-sIx items.size 0 lo)==items.size)=true then _ else _) _ _ s;rw[if_neg hno,AAQ]
 first
  | !wpAny_bind (m:=Builtin.Tuple.tupleExact _) (wpAny_newObj_type (wpAny_pure ⟨_,rfl,wpAny_pure h⟩) htake)
  | !wpAny_bind (m:=Builtin.Tuple.tupleExact _) (wpAny_newObj_type (wpAny_bind (wpAny_pure (wpAny_pure ⟨_,rfl,wpAny_pure h⟩))) htake)
  | !wpAny_bind (wpAny_bind (m:=Builtin.Tuple.tupleExact _) (wpAny_newObj_type (wpAny_pure (wpAny_pure ⟨_,rfl,wpAny_pure h⟩)) htake))
  | !wpAny_bind (wpAny_bind (m:=Builtin.Tuple.tupleExact _) (wpAny_newObj_type (wpAny_pure ⟨_,rfl,wpAny_pure h⟩) htake))
end
end HT
namespace L2
open PySem PySem.Spec PyProof.Rows
abbrev TO:=St->Hp->(Option Int->Hp->Prop)->Prop
def PO(X:Cx)(e:Option Expr)(t:TO):Prop :=
 ∀(pins:List ⑥) (s:Shared) (σ:St) (H:Hp) (Q:Option Int->Hp->Prop),Inv X pins σ H s->t σ H Q ->
  wpAny ③ X.A (evalPart e X.env) (fun u s'=>∃ o H',Inv X pins σ H' s'/\IsPart u o/\Q o H') X.xe s
def ADc:TO:=fun _ H Q=>Q none H
def AGH(t:TE):TO:=fun σ H Q=>t σ H fun x H1=>∃ i,x=.int i/\Q (some i) H1
theorem intsAre_of{ns:List Int}:∀{us:List Value},Vals ⑬ us->IntsAre us ns:=by
 induction ns with
 | nil=>intro us r;rw[List.map_nil] at r;cases r;!.nil
 | cons n ns ih =>
  intro us r;rw[List.map_cons] at r;cases r with
  | cons r1 r2 =>
   o⟨t,e⟩:=r1;subst e;!.cons n t (ih r2)
section
variable{X:Cx}{e:Expr}{te:TE}{lo hi:Option Expr}{tl th:TO}{pos p2:Pos}
theorem ACs:PO X none ADc:=by
 intro pins s σ H Q I h;rw[evalPart_none];!wpAny_pure ⟨none,H,I,.none,h⟩
theorem Px(h:PE X e te):PO X (some e) (AGH te):=by
 intro pins s σ H Q I hw;rw[evalPart_some];r thn (h pins s σ H _ I hw) fun u s1 ⟨x,H1,I1,r1,q1⟩=>?_;o⟨i,rfl,q⟩:=q1;o⟨t,rfl⟩:=r1;!⟨some i,H1,I1,.int i t,q⟩
def SlR(X:Cx)(r:V->Option Int->Option Int->Hp->VK->Prop):Prop :=
 ∀(pins:List ⑥) (s:Shared) (σ:St) (H:Hp) (x:V) (v vl vu:Value) (lo hi:Option Int) (sl:Addr) (Q:VK),Inv X pins σ H s->RelV x v->s.heap.IsSliceOf sl vl vu .none->IsPart vl lo->IsPart vu hi->r x lo hi H Q ->
  ∃ T id,typeLookup (.type T) "__getitem__" = pure (some (.builtin id))/\s.TypeIs v T/\wpAny ③ X.A (getItem v (.ref sl)) (EP X pins σ Q) X.xe s
def tSl(r:V->Option Int->Option Int->Hp->VK->Prop)(te:TE)(tl th:TO):TE:=fun σ H Q=>te σ H fun x H1=>tl σ H1 fun l H2=>th σ H2 fun u H3=>r x l u H3 Q
theorem Ri{r:V->Option Int->Option Int->Hp->VK->Prop}(hr:SlR X r)(he:PE X e te)(hl:PO X lo tl)(hu:PO X hi th):PE X (.Subscript e (.Slice lo hi none p2) pos) (tSl r te tl th):=by
 intro pins s σ H Q I h;r Subscript_ (thn (he pins s σ H _ I h) fun v s1 ⟨x,H1,I1,r1,q1⟩=>?_);r wpAny_Slice (thn (hl pins s1 σ H1 _ I1 q1) fun vl s2 ⟨l,H2,I2,pl,q2⟩=>thn (hu pins s2 σ H2 _ I2 q2) fun vu s3 ⟨u,H3,I3,pu,q3⟩=>?_);rw[evalPart_none];r wpAny_pure ?_;h I4:Inv X pins σ H3 {s3 with heap:=s3.heap.push {cls:=.type "slice",data:=.fields #[vl,vu,.none]}}:=I3.kept (t':=s3.toks) fun b ob q=>° _ q;o⟨T,id,hT,ht,hg⟩:=hr pins {s3 with heap:=s3.heap.push {cls:=.type "slice",data:=.fields #[vl,vu,.none]}} σ H3 x v vl vu l u s3.heap.objs.size Q I4 r1 (Heap.IsSliceOf.new ..) pl pu q3;show wpAny ③ X.A (subscriptTail e (.Slice lo hi none p2) v (.ref s3.heap.objs.size)) (EP X pins σ Q) X.xe {s3 with heap:=s3.heap.push {cls:=.type "slice",data:=.fields #[vl,vu,.none]}};!tail_any (ops:=[.ref s3.heap.objs.size,v]) ht hT hg (by with_unfolding_all rfl)
def cutV(xs:List V)(lo hi:Option Int):List V:=(xs.drop (HT.sIx xs.length 0 lo)).take (HT.sIx xs.length xs.length hi-HT.sIx xs.length 0 lo)
theorem Jd(xs:List V)(lo hi:Option Int):(cutV xs lo hi).length<=xs.length:=by
 unfold cutV;rw[List.length_take,List.length_drop];w
def rSlT(K:¨):V->Option Int->Option Int->Hp->VK->Prop:=fun x lo hi H Q=>∃ a xs,x=.ref a/\SqT K H a xs /\
 ¬ (HT.sIx xs.length 0 lo=0/\HT.sIx xs.length xs.length hi=xs.length)/\∀ p,H p=none->Q (.ref p) (upd H p (.tup (cutV xs lo hi)))
theorem AEZ:SlR X (rSlT X.K):=by
 intro pins s σ H x v vl vu lo hi sl Q I rx hs pl pu h;o⟨a,xs,rfl,hx,hw,q⟩:=h;cases rx;o⟨its,r,ht,hz⟩:=I.tuple hx;h hlen:its.toArray.size=xs.length:=by rw[┌];!r.length.symm
 r⟨"tuple",_,PyProof.Rows.slot_tuple_getitem.lookup,ht.typeIs,?_⟩;r HT.Hy ht hs pl pu (by rw[hlen];!hw) ?_ (by rw[hlen];!hz);rw[hlen];r⟨.ref ¸,_,I.laid (t':=s.toks) (o:=.tup (cutV xs lo hi)) (fun b ob q=>° _ q) ② ?_,rfl,q _ (I.hok.fresh ②)⟩;!⟨Nat.le_trans (Jd xs lo hi) hz,_,(r.drop (HT.sIx xs.length 0 lo)).take (HT.sIx xs.length xs.length hi-HT.sIx xs.length 0 lo),IsTup.new _ _⟩
def rCatT(K:¨):R2:=fun x y H Q=>∃ a b xs ys,x=.ref a/\y=.ref b/\SqT K H a xs/\SqT K H b ys/\xs≠[]/\xs.length+ys.length<=sizeLine /\
 (ys=[]->Q (.ref a) H)/\(ys≠[]->∀ p,H p=none->Q (.ref p) (upd H p (.tup (xs++ys))))
theorem Vals.nil_iff{xs:List V}{us:List Value}(r:Vals xs us):us=[]↔xs=[]:=by
 cases r with
 | nil=>simp
 | cons _ _=>simp
theorem ACk:OpR X (binaryOp .Add) (rCatT X.K):=by
 intro pins s σ H x y v u Q I rx ry h;o⟨a,b,xs,ys,rfl,rfl,ha,hb,hx,hz,q1,q2⟩:=h;cases rx;cases ry;o⟨its,r1,p1,_⟩:=I.tuple ha;o⟨its2,r2,p2,_⟩:=I.tuple hb;r HT.ADK p1 p2 (fun z=>hx (r1.nil_iff.mp z)) (fun z=>⟨.ref a,H,I,rfl,q1 (r2.nil_iff.mp z)⟩) (fun z=>?_) (by rw[<- r1.length,<- r2.length];!hz);r⟨.ref ¸,_,I.laid (t':=s.toks) (o:=.tup (xs++ys)) (fun b ob q=>° _ q) ② ?_,rfl,q2 (fun w=>z (r2.nil_iff.mpr w)) _ (I.hok.fresh ②)⟩;!⟨by rw[│];!hz,_,r1.append r2,IsTup.new _ _⟩
end
def ixN(n:Nat)(i:Int):Option Nat:=if 0<=i then (if i<n then some i.toNat else none) else if -(n:Int)<=i then some (i+n).toNat else none
def atI{α:Type}(xs:List α)(i:Int):Option α:=(ixN xs.length i).bind fun j=>xs[j]?
theorem Qg{n:Nat}{i:Int}{j:Nat}(h:ixN n i=some j):seqIndex? i n=some j/\j<n/\-(n:Int)<=i/\i<n:=by
 unfold ixN at h;by_cases h0:0<=i
 ·rw[if_pos h0] at h
  by_cases h1:i<n
  ·rw[if_pos h1] at h
   h e:i.toNat=j:=Option.some.inj h;!⟨by rw[seqIndex_of h0 h1,e],by w,by w,h1⟩
  ·rw[if_neg h1] at h;cases h
 ·rw[if_neg h0] at h
  by_cases h1:-(n:Int)<=i
  ·rw[if_pos h1] at h
   h e:(i+n).toNat=j:=Option.some.inj h;!⟨by rw[seqIndex_neg ¢ h1,e],by w,h1,by w⟩
  ·rw[if_neg h1] at h;cases h
theorem atI_get{α:Type}{xs:List α}{i:Int}{v:α}(h:atI xs i=some v):∃ j,seqIndex? i xs.length=some j/\xs[j]?=some v/\j<xs.length/\-(xs.length:Int)<=i/\i<xs.length:=by
 unfold atI at h;cases e:ixN xs.length i with
 | none=>rw[e] at h;cases h
 | some j =>
  rw[e] at h;o⟨h1,h2,h3,h4⟩:=Qg e;!⟨j,h1,h,h2,h3,h4⟩
theorem Bp{α:Type}{xs:List α}{j:Nat}{v:α}(h:xs[j]?=some v):atI xs (j:Int)=some v:=by
 h hj:j<xs.length:=(━ h).1;h e:ixN xs.length (j:Int)=some j:=by
  unfold ixN;rw[if_pos ¢,if_pos ¢];simp
 unfold atI;rw[e];!h
def ADM(b:Expr):Prop:=∀ o i,subscripted b false o i=operate [o,i] (getItem o i)
def IxR(X:Cx)(r:R2):Prop :=
 ∀(value slice:Expr) (pins:List ⑥) (s:Shared) (σ:St) (H:Hp) (x y:V) (v u:Value) (Q:VK),Inv X pins σ H s->RelV x v->RelV y u->r x y H Q ->
  subscripted slice false v u=operate [v,u] (getItem v u)->wpAny ③ X.A (subscriptTail value slice v u) (EP X pins σ Q) X.xe s
def MtR(X:Cx)(id:String)(r:V->List V->Hp->VK->Prop):Prop :=
 ∀(pins:List ⑥) (s:Shared) (σ:St) (H:Hp) (x:V) (xs:List V) (v:Value) (us:List Value) (Q:VK),Inv X pins σ H s->RelV x v->Vals xs us->r x xs H Q ->
  wpAny ③ X.A (call (.builtin id) (v::us)) (EP X pins σ Q) X.xe s
section
variable{X:Cx}{a b:Expr}{ta tb:TE}{pos:Pos}
theorem BK{r:R2}(hr:IxR X r)(ha:PE X a ta)(hb:PE X b tb)(hs:ADM b):PE X (.Subscript a b pos) (tOp r ta tb):=by
 intro pins s σ H Q I h;!Subscript_ (binT ha hb I h fun v u s2 x y H2 I2 rx ry q=>hr a b pins s2 σ H2 x y v u Q I2 rx ry q (hs _ _))
def rIxL(K:¨):R2:=fun x y H Q=>∃ p xs i v,x=.ref p/\y=.int i/\SqL K H p xs/\atI xs i=some v/\Q v H
def rIxT(K:¨):R2:=fun x y H Q=>∃ p xs i v,x=.ref p/\y=.int i/\SqT K H p xs/\atI xs i=some v/\Q v H
theorem Bl:IxR X (rIxL X.K):=by
 intro value slice pins s σ H x y v u Q I rx ry h hs;o⟨p,xs,i,z,rfl,rfl,hq,he,q⟩:=h;cases rx;o⟨t,rfl⟩:=ry;o⟨its,r,pl,hz⟩:=I.list hq;o⟨j,h1,h2,h3,h4,h5⟩:=atI_get he;o⟨w,ew,rw'⟩:=r.get h2;h hl:=r.length;h hn:=line63;h fin:EP X pins σ Q w s:=⟨z,H,I,rw',q⟩;by_cases h0:0<=i
 ·h hj:i.toNat=j:=by
   rw[seqIndex_of h0 h5] at h1;!Option.some.inj h1
  !item_listR pl.isList h0 ¢ (by rw[hj];u ew) fin hs
 ·h hj:(i+(its.toArray.size:Int)).toNat=j:=by
   rw[seqIndex_neg ¢ h4] at h1;rw[┌,<- hl];!Option.some.inj h1
  !subscriptTail_builtinR (x:=w) pl.isList.typeIs slot_list_getitem.lookup
   (wpAny_getItem_list_neg (Q:=fun r s'=>r=w/\EP X pins σ Q r s') pl.isList ¢ (by rw[┌]<;>w) ¢ (by rw[hj];u ew) ⟨rfl,fin⟩) hs
theorem Bo:IxR X (rIxT X.K):=by
 intro value slice pins s σ H x y v u Q I rx ry h hs;o⟨p,xs,i,z,rfl,rfl,hq,he,q⟩:=h;cases rx;o⟨t,rfl⟩:=ry;o⟨its,r,pl,hz⟩:=I.tuple hq;o⟨j,h1,h2,h3,h4,h5⟩:=atI_get he;o⟨w,ew,rw'⟩:=r.get h2;h hl:=r.length;h hn:=line63;h fin:EP X pins σ Q w s:=⟨z,H,I,rw',q⟩;!subscriptTail_builtinR (x:=w) pl.typeIs slot_tuple_getitem.lookup
  (getItem_tuple (j:=j) (Q:=fun r s'=>r=w/\EP X pins σ Q r s') pl ¢ ¢ (by rw[┌,<- hl];!h1) (by u ew) ⟨rfl,fin⟩) hs
theorem Va(its:List Value)(n j:Nat)(u:Value):Obj.mapSeq (·.setIfInBounds j u) {cls:=.type "list",data:=.seq its.toArray n}={cls:=.type "list",data:=.seq (its.set j u).toArray n}:=by
 simp[Obj.mapSeq]
theorem Inv.lst{pins:List ⑥}{σ:St}{H:Hp}{s:Shared}{p:Addr}{xs:List V}(I:Inv X pins σ H s)(h:H p=some (.lst xs)) :
  ∃(its:List Value) (n:Nat),Vals xs its/\s.heap.get? p=some {cls:=.type "list",data:=.seq its.toArray n}/\xs.length<=sizeLine:=by
 o⟨z,its,n,r,e⟩:=I.hok p _ h;!⟨its,n,r,e,z⟩
theorem Inv.lstUpd{pins:List ⑥}{σ:St}{H:Hp}{s:Shared}{p:Addr}{xs ys:List V}{its its':List Value}{n n':Nat}{f:Obj->Obj}(I:Inv X pins σ H s)(h:H p=some (.lst xs))
  (ho:s.heap.get? p=some {cls:=.type "list",data:=.seq its.toArray n}) (hf:f {cls:=.type "list",data:=.seq its.toArray n}={cls:=.type "list",data:=.seq its'.toArray n'}) (r:Vals ys its') (hz:ys.length<=sizeLine) (t:Nat) :
  Inv X pins σ (upd H p (.lst ys)) {s with heap:=s.heap.update p f,toks:=t}:=by
 h e:(s.heap.update p f).get? p=some {cls:=.type "list",data:=.seq its'.toArray n'}:=by
  rw[Heap.get?_update_self f ho (by rw[hf]<;>rfl),hf]
 r I.write (x:=p) (e:=p) (by rw[h];trivial) (.inl rfl) (fun b u hb q=>(Heap.get?_update_other _ _ (Ne.symm hb)).trans q) ⟨_,e⟩ ?_;!⟨hz,its',n',r,e⟩
def rSetL:V->V->V->Hp->(Hp->Prop)->Prop:=fun o i v H Q=>∃ p xs k j,o=.ref p/\i=.int k/\H p=some (.lst xs)/\ixN xs.length k=some j/\Q (upd H p (.lst (xs.set j v)))
theorem set_list:PSet X rSetL:=by
 intro pins s σ H o i v ov iv u Q I ro ri rv h;o⟨p,xs,k,j,rfl,rfl,hp,hj,q⟩:=h;cases ro;o⟨t,rfl⟩:=ri;o⟨its,n,r,ho,hz⟩:=I.lst hp;o⟨h1,h2,h3,h4⟩:=Qg hj;h hl:=r.length;h hn:=line63;h I':Inv X pins σ (upd H p (.lst (xs.set j v))) {s with heap:=s.heap.update p (Obj.mapSeq (·.setIfInBounds j u))} :=
  I.lstUpd hp ho (Va its n j u) (r.set rv j) (by rw[List.length_set];!hz) s.toks
 by_cases h0:0<=k
 ·h hk:k.toNat=j:=by
   rw[seqIndex_of h0 h4] at h1;!Option.some.inj h1
  !PySem.W.ki_setAt ho h0 ¢ (by rw[┌,<- hl];!h4) (by rw[hk];!⟨_,I',q⟩)
 ·h hk:(k+(its.toArray.size:Int)).toNat=j:=by
   rw[seqIndex_neg ¢ h3] at h1;rw[┌,<- hl];!Option.some.inj h1
  !PySem.W.ki_setBack ho ¢ (by rw[┌,<- hl];!h3) ¢ (by rw[hk];!⟨_,I',q⟩)
theorem Qn(lo hi:Option Int)(n:Nat):(sliceBounds lo hi none n).1=((HT.sIx n 0 lo:Nat):Int)/\(sliceBounds lo hi none n).2.1=((HT.sIx n n hi:Nat):Int)/\(sliceBounds lo hi none n).2.2=1:=by
 r⟨?_,?_,rfl⟩
 ·cases lo with
  | none=>simp[sliceBounds,HT.sIx]
  | some i =>
   simp only[sliceBounds,HT.sIx,Option.getD_none,show (1:Int)>0 by decide,if_true];by_cases h:i<0
   ·simp only[h,if_true]<;>w
   ·simp only[h,if_false]<;>w
 ·cases hi with
  | none=>simp[sliceBounds,HT.sIx]
  | some i =>
   simp only[sliceBounds,HT.sIx,Option.getD_none,show (1:Int)>0 by decide,if_true];by_cases h:i<0
   ·simp only[h,if_true]<;>w
   ·simp only[h,if_false]<;>w
theorem MF(its:List Value)(lo hi:Option Int):slicePick its.toArray lo hi none=((its.drop (HT.sIx its.length 0 lo)).take (HT.sIx its.length its.length hi-HT.sIx its.length 0 lo)).toArray:=by
 o⟨h1,h2,h3⟩:=Qn lo hi its.toArray.size;unfold slicePick;rw[h1,h2,h3];simp only[sliceRange_one,pick_run,List.size_toArray]<;>rfl
def rSlL(K:¨):V->Option Int->Option Int->Hp->VK->Prop:=fun x lo hi H Q=>∃ a xs,x=.ref a/\SqL K H a xs/\∀ p,H p=none->Q (.ref p) (upd H p (.lst (cutV xs lo hi)))
theorem ADS:SlR X (rSlL X.K):=by
 intro pins s σ H x v vl vu lo hi sl Q I rx hs pl pu h;o⟨a,xs,rfl,hx,q⟩:=h;cases rx;o⟨its,r,ht,hz⟩:=I.list hx;h hlen:=r.length;r⟨"list",_,slot_list_getitem.lookup,ht.isList.typeIs,?_⟩;r wpAny_getItem_list_slice ht.isList hs pl pu .none ¥ ?_ (by rw[┌]<;>w);rw[MF,<- hlen];r⟨.ref ¸,_,I.laid (t':=s.toks) (o:=.lst (cutV xs lo hi)) (fun b ob q=>° _ q) ② ?_,rfl,q _ (I.hok.fresh ②)⟩;!⟨Nat.le_trans (Jd xs lo hi) hz,_,0,(r.drop (HT.sIx xs.length 0 lo)).take (HT.sIx xs.length xs.length hi-HT.sIx xs.length 0 lo),¿ _ rfl⟩
def flatV:V->Bool
 | .non=>true
 | .bl _=>true
 | .int _=>true
 | .str _=>true
 | _=>false
def eqV:V->V->Bool
 | .non,.non=>true
 | .bl a,.bl b=>a==b
 | .bl a,.int b=>(if a then 1 else 0)==b
 | .int a,.bl b=>a==(if b then 1 else 0)
 | .int a,.int b=>a==b
 | .str a,.str b=>a==b
 | _,_=>false
theorem AEh{A:Around}{s:Shared}{y x:V}{u v:Value}(ry:RelV y u)(rx:RelV x v)(fy:flatV y=true)(fx:flatV x=true):SeqAt.EqAt A s u v (eqV y x):=by
 cases y with
 | non =>
  cases ry;cases x with
  | non=>cases rx;!SeqAt.EqAt.same _
  | bl b=>cases rx;!SeqAt.EqAt.none_bool b
  | int b=>o⟨t,rfl⟩:=rx;!SeqAt.EqAt.none_int b t
  | str b=>o⟨t,rfl⟩:=rx;!SeqAt.EqAt.none_str b t
  | _=>!absurd (show false=true from fx) Bool.false_ne_true
 | bl a =>
  cases ry;cases x with
  | non=>cases rx;!SeqAt.EqAt.bool_none a
  | bl b=>cases rx;!SeqAt.EqAt.bool_bool a b
  | int b=>o⟨t,rfl⟩:=rx;!SeqAt.EqAt.bool_int a b t
  | str b=>o⟨t,rfl⟩:=rx;!SeqAt.EqAt.bool_str a b t
  | _=>!absurd (show false=true from fx) Bool.false_ne_true
 | int a =>
  o⟨t',rfl⟩:=ry;cases x with
  | non=>cases rx;!SeqAt.EqAt.int_none a t'
  | bl b=>cases rx;!SeqAt.EqAt.int_bool a t' b
  | int b=>o⟨t,rfl⟩:=rx;!SeqAt.EqAt.int_int a t' b t
  | str b=>o⟨t,rfl⟩:=rx;!SeqAt.EqAt.int_str a t' b t
  | _=>!absurd (show false=true from fx) Bool.false_ne_true
 | str a =>
  o⟨t',rfl⟩:=ry;cases x with
  | non=>cases rx;!SeqAt.EqAt.str_none a t'
  | bl b=>cases rx;!SeqAt.EqAt.str_bool a t' b
  | int b=>o⟨t,rfl⟩:=rx;!SeqAt.EqAt.str_int a t' b t
  | str b=>o⟨t,rfl⟩:=rx;!SeqAt.EqAt.str_str a t' b t
  | _=>!absurd (show false=true from fx) Bool.false_ne_true
 | _=>!absurd (show false=true from fy) Bool.false_ne_true
def eqU(x:V)(u:Value):Bool:=match u with
 | .none=>eqV .non x
 | .bool b=>eqV (.bl b) x
 | .int i _=>eqV (.int i) x
 | .str z _=>eqV (.str z) x
 | _=>false
theorem ACS{x y:V}{u:Value}(r:RelV y u)(f:flatV y=true):eqU x u=eqV y x:=by
 cases y with
 | non=>cases r;rfl
 | bl b=>cases r;rfl
 | int i=>o⟨t,rfl⟩:=r;rfl
 | str z=>o⟨t,rfl⟩:=r;rfl
 | _=>!absurd (show false=true from f) Bool.false_ne_true
theorem Hv{x:V}:∀{xs:List V}{us:List Value},Vals xs us->xs.all flatV=true->us.any (eqU x)=xs.any fun y=>eqV y x
 | _,_,.nil,_=>rfl
 | y::xs,u::us,.cons r t,f=>by
  rw[List.all_cons,Bool.and_eq_true] at f;rw[List.any_cons,List.any_cons,ACS r f.1,Hv t f.2]
theorem GX{A:Around}{s:Shared}{x:V}{v:Value}(rx:RelV x v)(fx:flatV x=true):∀{xs:List V}{us:List Value},Vals xs us->xs.all flatV=true->∀ u∈us,SeqAt.EqAt A s u v (eqU x u)
 | _,_,.nil,_=>fun u hu=>by cases hu
 | y::xs,u::us,.cons r t,f=>fun u' hu=>by
  rw[List.all_cons,Bool.and_eq_true] at f;rcases ┃ hu with rfl | hu
  ·rw[ACS r f.1];!AEh r rx f.1 fx
  ·!GX rx fx t f.2 u' hu
def inV(x:V)(xs:List V):Bool:=xs.any fun y=>eqV y x
def rIn(K:¨)(neg:Bool):R2:=fun x y H Q=>∃ p xs,y=.ref p/\(SqL K H p xs\/SqT K H p xs)/\flatV x=true/\xs.all flatV=true/\Q (.bl (if neg then !inV x xs else inV x xs)) H
theorem Mf:OpR X (compareOp .In) (rIn X.K false):=by
 intro pins s σ H x y v u Q I rx ry h;o⟨p,xs,rfl,hq,fx,fs,q⟩:=h;cases ry;rcases hq with hq | hq
 ·o⟨its,r,pl,hz⟩:=I.list hq
  r SeqAt.in_listAt (eqU x) pl.isList (fun w hw=>GX rx fx r fs w (by u hw)) ⟨.bl _,H,I,rfl,?_⟩;rw[show its.toArray.any (eqU x)=its.any (eqU x) by simp,Hv r fs];!q
 ·o⟨its,r,pl,hz⟩:=I.tuple hq
  r SeqAt.in_tupleAt (eqU x) pl (fun w hw=>GX rx fx r fs w (by u hw)) ⟨.bl _,H,I,rfl,?_⟩;rw[show its.toArray.any (eqU x)=its.any (eqU x) by simp,Hv r fs];!q
theorem Pz:OpR X (compareOp .NotIn) (rIn X.K true):=by
 intro pins s σ H x y v u Q I rx ry h;o⟨p,xs,rfl,hq,fx,fs,q⟩:=h;cases ry;rcases hq with hq | hq
 ·o⟨its,r,pl,hz⟩:=I.list hq
  r SeqAt.notIn_listAt (eqU x) pl.isList (fun w hw=>GX rx fx r fs w (by u hw)) ⟨.bl _,H,I,rfl,?_⟩;rw[show its.toArray.any (eqU x)=its.any (eqU x) by simp,Hv r fs];!q
 ·o⟨its,r,pl,hz⟩:=I.tuple hq
  r SeqAt.notIn_tupleAt (eqU x) pl (fun w hw=>GX rx fx r fs w (by u hw)) ⟨.bl _,H,I,rfl,?_⟩;rw[show its.toArray.any (eqU x)=its.any (eqU x) by simp,Hv r fs];!q
theorem Aw:CallR X (.builtin "len") (fun xs H Q=>∃ p ys,xs=[.ref p]/\(SqL X.K H p ys\/SqT X.K H p ys)/\Q (.int ys.length) H):=by
 intro pins s σ H xs us Q I r h;o⟨p,ys,rfl,hq,q⟩:=h;o⟨u,rfl,rx⟩:=vals1 r;cases rx;h hn:=line63;rcases hq with hq | hq
 ·o⟨its,r',pl,hz⟩:=I.list hq
  h hlen:=r'.length;!Calls.call_len_list pl.isList (by simp only[List.size_toArray]<;>w) ⟨.int ys.length,H,I.tok _,⟨s.toks+1,by rw[┌,hlen]⟩,q⟩
 ·o⟨its,r',pl,hz⟩:=I.tuple hq
  h hlen:=r'.length;!len_tuple pl (by simp only[List.size_toArray]<;>w) ⟨.int ys.length,H,I.tok _,⟨s.toks+1,by rw[┌,hlen]⟩,q⟩
theorem Fl:CallR X (.type "list") (fun xs H Q=>∃ p ys,xs=[.ref p]/\(SqL X.K H p ys\/SqT X.K H p ys)/\∀ l,H l=none->Q (.ref l) (upd H l (.lst ys))):=by
 intro pins s σ H xs us Q I r h;o⟨p,ys,rfl,hq,q⟩:=h;o⟨u,rfl,rx⟩:=vals1 r;cases rx;h fin:∀(its:List Value),Vals ys its->ys.length<=sizeLine->∀(h':Heap) (c':Nat),(∀ b o',s.heap.get? b=some o'->h'.get? b=some o') ->
   h'.get? ¸=some {cls:=.type "list",dict:=none,data:=.seq its.toArray c',slots:=#[]}->EP X pins σ Q (.ref ¸) {s with heap:=h'}:=fun its r' hz h' c' kp e =>
  ⟨.ref ¸,_,I.laid (t':=s.toks) kp ② (show ObjOk X.prog X.w _ h' _ (.lst ys) from⟨hz,its,c',r',e⟩),rfl,q _ (I.hok.fresh ②)⟩
 rcases hq with hq | hq
 ·o⟨its,r',pl,hz⟩:=I.list hq
  h hlen:=r'.length;o⟨o,ho,hc,n,hd⟩:=pl.isList;!call_list_seq p (.inl rfl) ho hc hd (fun h' c' kp e=>fin its r' hz h' c' kp e) (by simp only[List.size_toArray]<;>w)
 ·o⟨its,r',pl,hz⟩:=I.tuple hq
  h hlen:=r'.length;o⟨o,ho,hc,n,hd⟩:=pl;!call_list_seq p (.inr rfl) ho hc hd (fun h' c' kp e=>fin its r' hz h' c' kp e) (by simp only[List.size_toArray]<;>w)
theorem Bg:CallR X (.type "tuple") (fun xs H Q=>∃ p ys,xs=[.ref p]/\((SqL X.K H p ys/\∀ l,H l=none->Q (.ref l) (upd H l (.tup ys)))\/(SqT X.K H p ys/\Q (.ref p) H))):=by
 intro pins s σ H xs us Q I r h;o⟨p,ys,rfl,h⟩:=h;o⟨u,rfl,rx⟩:=vals1 r;cases rx;rcases h with⟨hq,q⟩ | ⟨hq,q⟩
 ·o⟨its,r',pl,hz⟩:=I.list hq
  h hlen:=r'.length;r call_tuple_list pl.isList (fun h' kp=>?_) (by simp only[List.size_toArray]<;>w);h I1:Inv X pins σ H {s with heap:=h'}:=I.kept (t':=s.toks) kp;h I2:Inv X pins σ (upd H h'.objs.size (.tup ys)) {s with heap:=h'.push {cls:=.type "tuple",data:=.seq its.toArray}} :=
   I1.laid (t':=s.toks) (fun b o e=>° _ e) ② (show ObjOk X.prog X.w _ _ _ (.tup ys) from⟨hz,its,r',IsTup.new _ _⟩)
  !⟨.ref h'.objs.size,_,I2,rfl,q _ (I1.hok.fresh ②)⟩
 ·o⟨its,r',pl,hz⟩:=I.tuple hq
  !call_tuple_same pl ⟨.ref p,H,I,rfl,q⟩
def tyV(K:¨)(T:String)(x:V)(H:Hp):Prop:=match x with
 | .str _=>T = "str"
 | .int _=>T = "int"
 | .ref p=>(T = "list"/\∃ xs,SqL K H p xs)\/(T = "tuple"/\∃ o,K.lookup p=some o/\o.cls=.type "tuple"/\o.dict=none) \/
   (T = "dict"/\((∃ kvs,H p=some (.dK kvs))\/∃ kvs,H p=some (.dT kvs)))\/(T = "set"/\∃ S n,H p=some (.set S n))
 | _=>False
theorem ABK{pins:List ⑥}{σ:St}{H:Hp}{s:Shared}{T:String}{x:V}{v:Value}(I:Inv X pins σ H s)(r:RelV x v)(ty:tyV X.K T x H) :
  s.TypeIs v T/\∀ a,v=.ref a->∃ ob,s.heap.get? a=some ob/\ob.dict=none:=by
 cases x with
 | str z =>
  o⟨t,rfl⟩:=r;cases (show T = "str" from ty);!⟨typeIs_str s z t,fun _ e=>nomatch e⟩
 | int i =>
  o⟨t,rfl⟩:=r;cases (show T = "int" from ty);!⟨typeIs_int s i t,fun _ e=>nomatch e⟩
 | ref p =>
  cases r;rcases ty with⟨rfl,xs,hq⟩ | ⟨rfl,o,hk,hc,hd⟩ | ⟨rfl,hk⟩ | ⟨rfl,S,n,hk⟩
  ·o⟨its,_,pl,_⟩:=I.list hq
   r⟨pl.isList.typeIs,fun a e=>?_⟩;cases e;o⟨o,n,e,c,hd,_⟩:=pl;!⟨o,e,hd⟩
  ·r⟨⟨o,I.kIn p o hk,hc⟩,fun a e=>?_⟩
   cases e;!⟨o,I.kIn _ o hk,hd⟩
  ·h z:∃ o,s.heap.get? p=some o/\o.ExactDict:=by
    rcases hk with⟨kvs,hk⟩ | ⟨kvs,hk⟩
    ·o⟨_,_,_,_,o,_,_,e,ex,_⟩:=I.hok p _ hk
     !⟨o,e,ex⟩
    ·o⟨_,_,_,_,o,_,_,e,ex,_⟩:=I.hok p _ hk
     !⟨o,e,ex⟩
   o⟨o,e,ex⟩:=z;r⟨⟨o,e,ex.1⟩,fun a e2=>?_⟩;cases e2;!⟨o,e,ex.2.1⟩
  ·o⟨o,_,_,_,e,ex,_⟩:=I.hok p _ hk
   r⟨⟨o,e,ex.1⟩,fun a e2=>?_⟩;cases e2;!⟨o,e,ex.2.1⟩
 | _=>!False.elim ty
def AGN(K:¨)(T:String)(r:V->List V->Hp->VK->Prop)(to:TE):TE:=fun σ H Q=>to σ H fun x H1=>tyV K T x H1/\r x [] H1 Q
def tBM(K:¨)(T:String)(r:V->List V->Hp->VK->Prop)(to:TE)(t:TA):TE:=fun σ H Q=>to σ H fun x H1=>tyV K T x H1/\t σ H1 fun xs H2=>r x xs H2 Q
variable{o e:Expr}{es:List Expr}{to:TE}{t:TA}{name:Str}{apos cpos:Pos}{T id:String}{r:V->List V->Hp->VK->Prop}
theorem AEf(pa:PlainAttrs T)(slot:Slot T name id)(hty:typeOf (.builtin id)=pure (.type "method_descriptor"))(hm:MtR X id r)(ho:PE X o to)
  (hbase:attributeBase o name X.env (eval o X.env)=eval o X.env:=by rfl) (hline:(apos.endLine==cpos.line)=true:=by rfl):PE X (.Call (.Attribute o name apos) [] [] cpos) (AGN X.K T r to):=by
 intro pins s σ H Q I h;r wpAny_Call_method0_late hbase hline (thn (ho pins s σ H _ I h) fun v s1 ⟨x,H1,I1,r1,ty,q1⟩=>?_);o⟨h1,h2⟩:=ABK I1 r1 ty;!⟨T,id,pa,slot,hty,h1,h2,Calls.callWith_builtin rfl (PySem.evalArgs_none (hm pins s1 σ H1 x [] v [] Q I1 r1 .nil q1))⟩
theorem Ja(pa:PlainAttrs T)(slot:Slot T name id)(hty:typeOf (.builtin id)=pure (.type "method_descriptor"))(hm:MtR X id r)(ho:PE X o to)(ha:PA X (e::es) t)
  (hbase:attributeBase o name X.env (eval o X.env)=eval o X.env:=by rfl)
  (hfew:((backTo cpos (starEach (e::es) X.env)).all (fun x=>!x.1)&&(backToKw cpos (keywordEach [] X.env)).all (fun x=>x.1.isSome)
   && decide ((e::es).length+([]:List Keyword).length+(if ([]:List Keyword).isEmpty then 0 else 1)<30))=true:=by rfl)
  (hline:(apos.endLine==cpos.line)=true:=by rfl) (hs:starEach (e::es) X.env=(false,eval e X.env)::starEach es X.env:=by rfl) (hplain:(backTo cpos (starEach es X.env)).any (·.1)=false:=by rfl) :
  PE X (.Call (.Attribute o name apos) (e::es) [] cpos) (tBM X.K T r to t):=by
 intro pins s σ H Q I h;r wpAny_Call_method_late hbase hfew hline rfl (thn (ho pins s σ H _ I h) fun v s1 ⟨x,H1,I1,r1,ty,q1⟩=>?_);o⟨h1,h2⟩:=ABK I1 r1 ty;r⟨T,id,pa,slot,hty,h1,h2,?_⟩;h hA:=ha cpos pins s1 σ H1 _ I1 q1;rw[hs] at hA ⊢;r Calls.callWith_builtin (by show (false||(backTo cpos (starEach es X.env)).any (·.1))=false;rw[hplain]<;>rfl) (Calls.evalArgs_plain ?_);!thn hA fun us s2 ⟨vs,H2,I2,r2,q2⟩=>hm pins s2 σ H2 x vs v us Q I2 r1 r2 q2
end
def MtM(X:Cx)(id:String)(r:V->List V->Hp->VK->Prop):Prop :=
 ∀(pins:List ⑥) (s:Shared) (σ:St) (H:Hp) (x:V) (xs:List V) (v:Value) (us:List Value) (Q:VK),Inv X pins σ H s->RelV x v->Vals xs us->r x xs H Q ->
  wpAny ③ X.A (call (.builtin id) (v::us)) (EP X pins σ Q) X.xe s
theorem Vals.one:∀{x:V}{us:List Value},Vals [x] us->∃ u,us=[u]/\RelV x u
 | _,_,.cons r .nil=>⟨_,rfl,r⟩
theorem Vals.two:∀{x y:V}{us:List Value},Vals [x,y] us->∃ u v,us=[u,v]/\RelV x u/\RelV y v
 | _,_,_,.cons r (.cons q .nil)=>⟨_,_,rfl,r,q⟩
theorem Vals.zero:∀{us:List Value},Vals [] us->us=[]
 | _,.nil=>rfl
theorem Vals.eraseIdx:∀{xs:List V}{us:List Value} (i:Nat),Vals xs us->Vals (xs.eraseIdx i) (us.eraseIdx i)
 | _,_,_,.nil=>.nil
 | _,_,0,.cons _ t=>t
 | _,_,i+1,.cons r t=>.cons r (Vals.eraseIdx i t)
theorem Og{α:Type}:∀(l:List α) (i:Nat),(l.eraseIdx i).length<=l.length
 | [],_=>Nat.le_refl _
 | _::_,0=>Nat.le_succ _
 | _::r,i+1=>Nat.succ_le_succ (Og r i)
section
variable{X:Cx}{pins:List ⑥}{σ:St}{H:Hp}{s:Shared}{l b:Addr}{xs ys zs:List V}
theorem Inv.lset{its its':List Value}{n:Nat}{f:Array Value->Array Value}{t':Nat}(I:Inv X pins σ H s)(hH:H l=some (.lst xs))
  (e:s.heap.get? l=some {cls:=.type "list",data:=.seq its.toArray n}) (hf:f its.toArray=its'.toArray) (hv:Vals ys its') (hz:ys.length<=sizeLine) :
  Inv X pins σ (upd H l (.lst ys)) {s with heap:=s.heap.update l (Obj.mapSeq f),toks:=t'}:=by
 h q:=PySem.IsL.update e f;rw[hf] at q;r I.write (x:=l) (e:=l) (by rw[hH];!trivial) (.inl rfl) (fun b' u hb hu=>(Heap.get?_update_other s.heap (Obj.mapSeq f) (Ne.symm hb)).trans hu) ⟨_,q⟩ ?_;!⟨hz,its',_,hv,q⟩
theorem Inv.lnew{its:List Value}{t':Nat}(I:Inv X pins σ H s)(hv:Vals ys its)(hz:ys.length<=sizeLine) :
  Inv X pins σ (upd H ¸ (.lst ys)) {s with heap:=s.heap.push {cls:=.type "list",data:=.seq its.toArray},toks:=t'} :=
 I.laid (fun _ _ q=>° _ q) ② ⟨hz,its,0,hv,¿ _ rfl⟩
theorem Inv.fresh(I:Inv X pins σ H s):H ¸=none:=I.hok.fresh ②
theorem Inv.lstM(I:Inv X pins σ H s)(hH:H l=some (.lst xs)):xs.length<=sizeLine/\∃(its:List Value) (n:Nat),Vals xs its/\xs.length=its.length/\s.heap.get? l=some {cls:=.type "list",data:=.seq its.toArray n}:=by
 o⟨z,its,n,r,e⟩:=I.hok l _ hH;!⟨z,its,n,r,r.length,e⟩
end
section
variable{X:Cx}
def ACl:V->List V->Hp->VK->Prop:=fun x vs H Q=>∃ l xs y,x=.ref l/\vs=[y]/\H l=some (.lst xs)/\xs.length<sizeLine/\Q .non (upd H l (.lst (xs++[y])))
theorem Cz:MtM X "list.append" ACl:=by
 intro pins s σ H x vs v us Q I rx rv h;o⟨l,xs,y,rfl,rfl,hH,hz,q⟩:=h;cases rx;o⟨u,rfl,ru⟩:=rv.one;o⟨z,its,n,r,hl,e⟩:=I.lstM hH;r call_meets F.slot_list_append ⟨_,e,rfl⟩ F.entry_list_append (F.args_list_append_2 _ _) (PySem.list_append l its.toArray n u (by rw[┌];w)) ⟨e,?_⟩;r⟨.non,_,I.lset (its':=its++[u]) hH e ¥ (r.append (.cons ru .nil)) ?_,rfl,q⟩;rw[│,List.length_singleton];w
def rPopAt:V->List V->Hp->VK->Prop:=fun x vs H Q=>∃ l xs i k y,x=.ref l/\vs=[.int i]/\H l=some (.lst xs)/\-(2 ^ 63)<=i/\i<2 ^ 63/\seqIndex? i xs.length=some k/\xs[k]?=some y/\Q y (upd H l (.lst (xs.eraseIdx k)))
theorem AAm:MtM X "list.pop" rPopAt:=by
 intro pins s σ H x vs v us Q I rx rv h;o⟨l,xs,i,k,y,rfl,rfl,hH,h1,h2,hk,hy,q⟩:=h;cases rx;o⟨u,rfl,ru⟩:=rv.one;o⟨t,rfl⟩:=ru;o⟨z,its,n,r,hl,e⟩:=I.lstM hH;o⟨w,hw,rw'⟩:=r.get hy;r call_meets F.slot_list_pop ⟨_,e,rfl⟩ F.entry_list_pop (F.args_list_pop_2 _ _)
  (MeetsSeq.list_pop_at l its.toArray n i t k w (fitsIndex_both h1 h2) (by rw[┌,<- hl];!hk) (by rw[<- Array.getElem?_toList];!hw) (by rw[┌];w)) ⟨e,?_⟩
 r⟨y,_,I.lset (its':=its.eraseIdx k) hH e ?_ (r.eraseIdx k) ?_,rw',q⟩
 ·show its.toArray.eraseIdxIfInBounds k=(its.eraseIdx k).toArray
  rw[List.eraseIdxIfInBounds_toArray]
 ·have:=Og xs k
  w
def rClear:V->List V->Hp->VK->Prop:=fun x vs H Q=>∃ l xs,x=.ref l/\vs=[]/\H l=some (.lst xs)/\Q .non (upd H l (.lst []))
theorem ABX:MtM X "list.clear" rClear:=by
 intro pins s σ H x vs v us Q I rx rv h;o⟨l,xs,rfl,rfl,hH,q⟩:=h;cases rx;h hus:=rv.zero;subst hus;o⟨z,its,n,r,hl,e⟩:=I.lstM hH;r call_meets F.slot_list_clear ⟨_,e,rfl⟩ F.entry_list_clear (F.args_list_clear_1 _) (AutoSeq1.list_clear_list_0 l its.toArray n (by rw[┌];w)) ⟨e,?_⟩;!⟨.non,_,I.lset (its':=[]) (ys:=[]) hH e rfl .nil (Nat.zero_le _),rfl,q⟩
def rCat:R2:=fun x y H Q=>∃ l b xs zs,x=.ref l/\y=.ref b/\H l=some (.lst xs)/\H b=some (.lst zs)/\xs.length+zs.length<=sizeLine/\∀ p,H p=none->Q (.ref p) (upd H p (.lst (xs++zs)))
theorem Vq:OpR X (binaryOp .Add) rCat:=by
 intro pins s σ H x y v u Q I rx ry h;o⟨l,b,xs,zs,rfl,rfl,hH,hB,hz,q⟩:=h;cases rx;cases ry;o⟨z,its,n,r,hl,e⟩:=I.lstM hH;o⟨z2,its2,n2,r2,hl2,e2⟩:=I.lstM hB;r PySem.P.add_list e e2 ?_ (by rw[┌,┌];w);h ea:its.toArray++its2.toArray=(its++its2).toArray:=by simp
 rw[ea];!⟨.ref _,_,I.lnew (t':=s.toks) (r.append r2) (by rw[│];w),rfl,q _ I.fresh⟩
end
end L2
namespace Att
open PySem PySem.W PySem.Calls PyProof.Rows
theorem Ji{P:Params}{h:Heap}:∀(ns:List Int) (vs:List Value),WellAll P h vs (ns.map WData.int)->IntsAre vs ns:=by
 intro ns
 induction ns with
 | nil =>
  intro vs w;rw[List.map_nil] at w;cases w;!.nil
 | cons n ns ih =>
  intro vs w;rw[List.map_cons] at w;cases w with
  | cons a b =>
   cases a;!.cons _ _ (ih _ b)
theorem Zb{l:OpenLaw}{n:Nat}(hn:l.most=some n){P:Params}{h:Heap}{args:List WData}{vals:List Value}
  (hpre:l.row.toRowW.claim.pre args=true) (hwl:WellAll P h vals args) :
  ∃ a vs ns,vals=[Value.ref a]/\args=[WData.list (ns.map WData.int)]/\h.get? a=some {cls:=.type "list",data:=.seq vs.toArray}/\IntsAre vs ns/\ns.length<=n:=by
 h hsh:WShape.hasAll [] args [.list .int]=true:=(pre_splitW hpre).1;h hc:l.pre.holds [] {args:=args}=true:=(pre_splitW hpre).2;o⟨d,r,rfl,h1,h2⟩:=hasAllW_cons hsh;obtain rfl:=hasAllW_nil h2;o⟨xs,rfl,h3⟩:=hasW_list h1;o⟨ns,rfl⟩:=items_int h3;h hlen:ns.length<=n:=by
  unfold OpenLaw.pre at hc;h h4:(WTm.not (.lt (.lit (.int (n:Int))) (.len (.arg 0)))).holds [] {args:=[.list (ns.map .int)]}=true:=by
   h h4:=(holds_andW hc).1;rw[hn] at h4;!h4
  h h5:=condW_of h4 (w_not (w_lt w_lit (w_len_list (w_arg rfl))));rw[─] at h5;r Nat.le_of_not_lt fun q=>?_;h q':(n:Int)<((ns.length:Nat):Int):=by w
  first
   | (rw[decide_eq_true q'] at h5;!absurd h5 ¤)
   | (simp at h5;w)
 cases hwl with
 | cons w1 w2 =>
  cases w2;cases w1 with
  | list ho hall=>!⟨_,_,ns,rfl,rfl,ho,Ji ns _ hall,hlen⟩
theorem Xr(l:OpenLaw)(args:List WData):l.row.toRowW.claim.post args (.bool true) args=true :=
 postW_of (r:=l.row.toRowW) (X:=(true==true))
  (show WShape.has [] (.bool true) .bool=true by first | rfl | decide | simp[WShape.has,WShape.arms,WShape.armsAll])
  (show (WTm.eq .res (.lit (.bool true))).value [] {args:=args,res:=some (.bool true),after:=args}=some (.bool (true==true)) from w_eq_bool (w_res rfl) w_lit) rfl
theorem Te{l:OpenLaw}{n:Nat}{q:Program}{loose:List Str}{XP:(Str->Option Value)->Heap->Prop}{YP:World->Heap->Prop}{d:DefRec}
  (hn:l.most=some n) (hdf:d.params.defaults=[])
  (call:∀(w:World) (s₀ s₁:Shared) (mg mb:Str->Option Value) (fa:Addr) (o:Obj) (pm cd doc:Value) (a:Addr) (vs:List Value) (ns:List Int),
   Ground q loose [] XP w s₀ mg mb s₁.heap->YP w s₁.heap ->
   s₁.heap.get? fa=some o->o.data=.func (docDef d.name d.params d.body d.scope pm cd doc)->s₁.heap.CodeRec cd d.name->mg d.name=some (.ref fa) ->
   s₁.heap.get? a=some {cls:=.type "list",data:=.seq vs.toArray}->IntsAre vs ns->ns.length<=n->s₁.gens=#[] ->
   codeAny (model l.prog w) callerA (.call (.ref fa) ⟨[.ref a],[]⟩) (fun r s'=>r=.ok (.ret (.bool true))/\OldK s₁.heap s'.heap/\s'.os=s₁.os/\AllBare s'.gens) s₁) :
  WalkO q loose XP YP l.row.toRowW d [] (fun f vs=>PySem.call f vs):=by
 intro w s₀ s₁ mg mb G Y fa o pm cd doc dV kV ho hd hcd hD hmg hg args vals as hpre hlay hrd hwl hlo;obtain rfl:dV=.none:=Dflts.none hD hdf;obtain rfl:kV=.none:=Dflts.noKw hD;o⟨a,vs,ns,rfl,rfl,hobj,hints,hlen⟩:=Zb hn hpre hwl;r enter_call (codeAny_mono (call w s₀ s₁ mg mb fa o pm cd doc a vs ns G Y ho (fd_plain hd) hcd hmg hobj hints hlen hg) fun r s' hq=>?_);o⟨rfl,h2,h3,h4⟩:=hq;!⟨.inl ⟨.bool true,.bool true,[],rfl,fun _=>rfl,.bool true,Xr l _,fun _=>⟨List.Pairwise.nil,fun _ hm=>(nomatch hm)⟩⟩,h2,h3,h4⟩
end Att
namespace L2
open PySem PySem.Spec PyProof.Rows
theorem Nm:∀{vs:List Value}{ns:List Int},IntsAre vs ns->Vals ⑬ vs
 | _,_,.nil=>.nil
 | _,_,.cons n t h=>.cons ⟨t,rfl⟩ (Nm h)
def Only(H:Hp):Prop:=∀ b,H b=none\/∃ o xs,H b=some (.frz o (.lst xs))
theorem ABa{P:Program}{w:World}{K:¨}{mg mb:Str->Option Value}{CX:CXT}{k:Nat}{fa a:Addr}{fd:FuncData}{x:Str}{sp:Sp}{s₁:Shared}{vs:List Value}{ns:List Int}
  (KX:K.In s₁.heap) (hns:s₁.heap.Ns mainGlobals mg) (hb:s₁.heap.Ns builtinsNs mb) (hbb:∀ x:Str,x≠"__name__"->mb x=bootBuiltins x) (hlim:s₁.heap.NoLimit) (hg:s₁.gens=#[])
  (ha:s₁.heap.get? a=some {cls:=.type "list",data:=.seq vs.toArray}) (hi:IntsAre vs ns) (hl:ns.length<=sizeLine) (hr:Room k callerA)
  (F:∀ base:Heap,K.In base->base.Ns mainGlobals mg->FnOk P w K mg base CX k fa fd [x] sp) (hbind:∀(s:Shared) (u:Value),BindsTo s fd ⟨[u],[]⟩ [(x,u)])
  (hsp:∀ H:Hp,Only H->SqL K H a ⑬->sp [.ref a] H (fun v _=>v=.bl true) fun _ _ _=>False)
  (hCX:∀ H e s',CX [] H s₁ (fun _ _ _=>False) e s'->False) :
  codeAny (model P w) callerA (.call (.ref fa) ⟨[.ref a],[]⟩) (fun r s'=>r=.ok (.ret (.bool true))/\OldK s₁.heap s'.heap/\s'.os=s₁.os/\AllBare s'.gens) s₁:=by
 h rv:=Nm hi;h lenV:=hi.length;h core:∀ H:Hp,Only H->SqL K H a ⑬->HOk P w H s₁.heap->(∀ b,H b≠none->b=a)->(H a≠none->K.lookup a=none) ->
   codeAny (model P w) callerA (.call (.ref fa) ⟨[.ref a],[]⟩) (fun r s'=>r=.ok (.ret (.bool true))/\OldK s₁.heap s'.heap/\s'.os=s₁.os/\AllBare s'.gens) s₁:=by
  intro H hO hS hok hA hK;h base_of:∀{b:Addr}{o:Obj},s₁.heap.get? b=some o->H b=none->(hidT s₁.heap H).get? b=some o:=fun e n=>ABQ e n;h noA:∀{b:Addr}{o:Obj}{es:Array DictEntry}{ep:Nat},s₁.heap.get? b=some o->o.data=.dict es ep->H b=none:=fun {b o es ep} e d=>by
   cases q:H b with
   | none=>rfl
   | some u =>
    have e':b=a:=hA b (by rw[q];simp);subst e';rw[ha] at e;cases e;have d':Data.seq vs.toArray _=Data.dict es ep:=d;cases d'
  h nsK:∀{b:Addr}{m:Str->Option Value},s₁.heap.Ns b m->(hidT s₁.heap H).Ns b m:=fun {b m} ⟨o,es,ep,e,d,r⟩=>⟨o,es,ep,base_of e (noA e d),d,r⟩;h hKb:K.In (hidT s₁.heap H):=fun b o e=>base_of (KX b o e) (by
   cases q:H b with
   | none=>rfl
   | some u =>
    have e':b=a:=hA b (by rw[q];simp);subst e';rw[hK (by rw[q];simp)] at e;cases e)
  h hM:Mod K mg (hidT s₁.heap H):=⟨hKb,nsK hns,⟨mb,nsK hb,hbb⟩,let ⟨mc,h1,h2⟩:=hlim;⟨mc,nsK h1,h2⟩⟩;h e0:Env0 P w K mg (hidT s₁.heap H) callerA [] s₁ H:=⟨rfl,hM,fun b o e=>ACu e,Nat.le_of_eq (Xm _ _),trivial,fun b hb=>absurd (show b∈([]:List Addr) from hb) ¥,hok,.of_eq hg⟩;r codeAny_mono ((F _ hKb (nsK hns)).run callerA [] s₁ H ⟨[.ref a],[]⟩ [.ref a] [.ref a] _ _ hr e0 (hbind s₁ (.ref a)) (.cons rfl .nil) (hsp H hO hS)) fun r s' h=>?_;cases r with
  | error e=>!(hCX H e s' h).elim
  | ok fl =>
   cases fl with
   | next=>!False.elim h
   | brk=>!False.elim h
   | cont=>!False.elim h
   | ret u =>
    o⟨v,H',os,bare,un,hok',r',q⟩:=h;h q':v=.bl true:=q;subst q';obtain rfl:u=Value.bool true:=r';r⟨rfl,OldK.of_keep fun b o e=>?_,os,bare⟩;cases q:H b with
    | none=>!un.keep b o e q (by intro z;!absurd (show b∈([]:List Addr) from z) ¥) ¥
    | some u =>
     rcases hO b with z | ⟨ob,xs,z⟩
     ·rw[q] at z;cases z
     ·h z2:=un.frzs b ob _ z
      o⟨e1,_⟩:=hok b _ z;o⟨e2,_⟩:=hok' b _ z2;rw[e] at e1;cases e1;!e2
 cases hk:K.lookup a with
 | some o =>
  have e:=KX a o hk;rw[ha] at e;cases e;r core (fun _=>none) (fun _=>.inl rfl) (.inr ⟨_,vs.toArray,_,hk,rfl,rfl,rfl,by rw[┌,lenV];!hl,by u rv⟩) (fun b u z=>by have z':(none:Option HO)=some u:=z;cases z') (fun b z=>absurd rfl z) fun z=>absurd rfl z
 | none =>
  r core (fun b=>if b=a then some (.frz {cls:=.type "list",data:=.seq vs.toArray} (.lst ⑬)) else none) (fun b=>?_) (.inl (.inr ⟨{cls:=.type "list",data:=.seq vs.toArray},if_pos rfl⟩)) (fun b u z=>?_) (fun b z=>?_) fun _=>hk
  ·by_cases hb:b=a
   ·!.inr ⟨_,_,if_pos hb⟩
   ·!.inl (if_neg hb)
  ·by_cases hb:b=a
   ·h z':=(if_pos hb).symm.trans z
    cases z';subst hb;!⟨ha,by rw[─];!hl,vs,_,rv,ha⟩
   ·h z':=(if_neg hb).symm.trans z
    cases z'
  ·by_cases hb:b=a
   ·!hb
   ·!absurd (if_neg hb) z
theorem ADb{l:PySem.W.OpenLaw}{n k:Nat}{q:Program}{loose:List Str}{XP:(Str->Option Value)->Heap->Prop}{YP:World->Heap->Prop}{d:DefRec}{K:Params->¨}{CX:World->CXT}{sp:World->Sp}{x:Str}
  (hn:l.most=some n) (hn2:n<=sizeLine) (hdf:d.params.defaults=[]) (hr:Room k callerA)
  (hY:∀(w:World) (h:Heap),YP w h->(K w.params).In h)
  (F:∀(w:World) (mg:Str->Option Value) (fa:Addr) (h:Heap),(K w.params).In h->h.Ns mainGlobals mg->mg d.name=some (.ref fa) ->
   ∃ fd:FuncData,(∀(s:Shared) (u:Value),BindsTo s fd ⟨[u],[]⟩ [(x,u)]) /\
    ∀ base:Heap,(K w.params).In base->base.Ns mainGlobals mg->FnOk l.prog w (K w.params) mg base (CX w) k fa fd [x] (sp w))
  (hsp:∀(w:World) (H:Hp) (a:Addr) (ns:List Int),ns.length<=n->Only H->SqL (K w.params) H a ⑬->sp w [.ref a] H (fun v _=>v=.bl true) fun _ _ _=>False)
  (hCX:∀(w:World) (H:Hp) (s:Shared) (e:Value) (s':Shared),CX w [] H s (fun _ _ _=>False) e s'->False) :
  PySem.W.WalkO q loose XP YP l.row.toRowW d [] (fun f vs=>PySem.call f vs):=by
 r Att.Te hn hdf fun w s₀ s₁ mg mb fa o pm cd doc a vs ns G Y ho hd hcd hmg hobj hints hlen hg=>?_;h KX:=hY w _ Y;o⟨fd,hb,hF⟩:=F w mg fa _ KX G.T.g hmg;!ABa KX G.T.g G.T.b G.T.builtins G.T.nolimit hg hobj hints (Nat.le_trans hlen hn2) hr hF hb (fun H hO hS=>hsp w H a ns hlen hO hS) fun H e s'=>hCX w H s₁ e s'
def inClass(s:Stmt)(j:Nat):Stmt:=match s with
 | .ClassDef _ _ _ body _ _ _ _ _ _ _=>body.getD j (.Pass ⟨0,0,0,0⟩)
 | _=>.Pass ⟨0,0,0,0⟩
def Aq(s:Stmt):Arguments:=match s with
 | .FunctionDef _ a _ _ _ _ _ _ _ _=>a
 | _=>{posonlyargs:=[],args:=[],vararg:=none,kwonlyargs:=[],kw_defaults:=[],kwarg:=none,defaults:=[]}
def Am(s:Stmt):List Stmt:=match s with
 | .FunctionDef _ _ b _ _ _ _ _ _ _=>b
 | _=>[]
def Ac(s:Stmt):Scope:=match s with
 | .FunctionDef _ _ _ _ _ _ sc _ _ _=>sc
 | _=>{kind:=.function,names:=[],isGenerator:=false,isCoroutine:=false}
abbrev CX0:CXT:=fun _ _ _ _ _ _=>False
abbrev E0:XK:=fun _ _ _=>False
theorem pass0{X:Cx}:Passes CX0 X E0:=fun _ _ _ _ _ _ _ h=>h.elim
structure Fun(K:¨)(x qual:Str)(st:Stmt)(f:Addr)(fd:FuncData):Prop where
 ex:∃(oc:Value) (od:Option Addr) (kV doc pm:Value) (an:Option Addr) (cdv ct:Value) (osl:Array ⑨),
  fd=PySem.W.fnOf x qual (Aq st) (Am st) (Ac st) .none kV doc pm an cdv ct/\K.lookup f=some ⟨oc,od,.func fd,osl⟩/\┇ K cdv qual=true
 kp:© K (.ref f)=true
section
variable{P:Program}{w:World}{K:¨}{mg:Str->Option Value}{base:Heap}
theorem Fun.ok{x qual:Str}{st:Stmt}{f:Addr}{fd:FuncData}{N ps:List Str}{k:Nat}{sp:Sp}(F:Fun K x qual st f fd)(S:FnScope N ps (Ac st))(len:∀ vs H Q E,sp vs H Q E->vs.length=ps.length)
  (hbody:∀(cdv:Value) (A:Around) (outer:List Env) (s:Shared) (H:Hp) (vs:List V) (Q:VK) (E:XK),Room k (A.deeper (envOfC qual (Ac st) ¸ f cdv))->sp vs H Q E ->
   ∃ t,PSs (cxOf CX0 P w K mg base N qual (Ac st) f cdv A outer s H E).nox (Am st) t/\t {nx:=fun _ H'=>Q .non H',rt:=Q} (start N vs) H):FnOk P w K mg base CX0 (k+1) f fd ps sp:=by
 o⟨oc,od,kV,doc,pm,an,cdv,ct,osl,rfl,lk,hcd⟩:=F.ex;r AFi lk hcd S len fun A outer s H vs Q E hr hsp=>?_;o⟨t,h,q⟩:=hbody cdv A outer s H vs Q E hr hsp;!⟨t,h.nox,q⟩
theorem Fun.binds{x qual:Str}{st:Stmt}{f:Addr}{fd:FuncData}{ps:List Str}(F:Fun K x qual st f fd)
  (h:∀(kV doc pm:Value) (an:Option Addr) (cdv ct:Value) (us:List Value),us.length=ps.length->bindArgs (PySem.W.fnOf x qual (Aq st) (Am st) (Ac st) .none kV doc pm an cdv ct) ⟨us,[]⟩=pure (ps.zip us)):Binds K fd ps []:=by
 o⟨oc,od,kV,doc,pm,an,cdv,ct,osl,rfl,lk,hcd⟩:=F.ex;!.all (h kV doc pm an cdv ct)
theorem BL{x qual:Str}{st:Stmt}{f:Addr}{oc:Value}{od an:Option Addr}{osl:Array ⑨}{kV doc pm cdv ct:Value}(l:K.lookup f=some ⟨oc,od,.func (PySem.W.fnOf x qual (Aq st) (Am st) (Ac st) .none kV doc pm an cdv ct),osl⟩)
  (c:┇ K cdv qual=true) (k:© K (.ref f)=true):Fun K x qual st f (PySem.W.fnOf x qual (Aq st) (Am st) (Ac st) .none kV doc pm an cdv ct):=⟨⟨oc,od,kV,doc,pm,an,cdv,ct,osl,rfl,l,c⟩,k⟩
end
theorem Ax{n:Nat}(h:n<=1000):n<sizeLine:=Nat.lt_of_le_of_lt h ¤
section
variable{X:Cx}
theorem pv(i:Nat){x:Str}{pos:Pos}(hN:X.N[i]?=some x:=by rfl)(hv:Vis X.env.scope x:=by first | !Or.inl rfl | !Or.inr ④ | !Or.inr (Or.inr rfl))(hd:(x==("__debug__" : Str))=false:=by decide)
  (hcd:(x==("__classdict__" : Str))=false:=by decide):PE X (.Name x pos) (AFu i):=AEj hN hv hd hcd
end
theorem iteF{A B:Prop}(h:B):if false=true then A else B:=by
 rw[if_neg Bool.false_ne_true];!h
theorem iteT{A B:Prop}(h:A):if true=true then A else B:=by
 rw[if_pos rfl];!h
theorem ite2{c A B:Prop}[Decidable c](h1:c->A)(h2:¬ c->B):if c then A else B:=by
 by_cases h:c
 ·rw[if_pos h]
  !h1 h
 ·rw[if_neg h]
  !h2 h
def Same(H H':Hp):Prop:=∀ b o,H b=some o->H' b=some o
theorem Same.refl(H:Hp):Same H H:=fun _ _ h=>h
theorem Same.trans{H H1 H2:Hp}(a:Same H H1)(b:Same H1 H2):Same H H2:=fun c o h=>b c o (a c o h)
theorem Same.free{H H':Hp}(e:Same H H'){l:Addr}(h:H' l=Option.none):H l=Option.none:=by
 cases q:H l with
 | none=>rfl
 | some o =>
  rw[e l o q] at h;cases h
theorem Same.seq{K:¨}{H H':Hp}{a:Addr}{xs:List V}(e:Same H H')(h:SqL K H a xs):SqL K H' a xs:=by
 rcases h with (h | ⟨o,h⟩) | h
 ·!.inl (.inl (e _ _ h))
 ·!.inl (.inr ⟨o,e _ _ h⟩)
 ·!.inr h
end L2
section
namespace L2
open PySem PySem.Spec PyProof.Rows
def cloOf(cells:List (Str×Addr)):List (Str×NameKind)->List (Str×Addr)->List (Str×Addr)
 | [],cs=>cs
 | (n,k)::r,cs=>cloOf cells r (if k == .free then match cells.lookup n with | some c=>(n,c)::cs | none=>cs else cs)
theorem Nv{cells:List (Str×Addr)}:∀{names:List (Str×NameKind)}{cs:List (Str×Addr)},(∀ x c,cs.lookup x=some c->cells.lookup x=some c)->∀ x c,(cloOf cells names cs).lookup x=some c->cells.lookup x=some c
 | [],_,h=>h
 | (n,k)::r,cs,h=>by
  unfold cloOf;r Nv (names:=r) ?_;intro x c e;by_cases hk:(k==NameKind.free)=true
  ·rw[if_pos hk] at e
   cases q:cells.lookup n with
   | none=>rw[q] at e;!h x c e
   | some d =>
    rw[q] at e;rw[List.lookup_cons] at e;cases hx:x==n with
    | true =>
     rw[hx] at e;h hxn:x=n:=eq_of_beq hx;subst hxn;rw[q];!e
    | false=>rw[hx] at e;!h x c e
  ·rw[if_neg hk] at e;!h x c e
theorem cloOf_mono{cells:List (Str×Addr)}{x:Str}:∀{names:List (Str×NameKind)}{cs:List (Str×Addr)},(cs.lookup x).isSome=true->((cloOf cells names cs).lookup x).isSome=true
 | [],_,h=>h
 | (n,k)::r,cs,h=>by
  unfold cloOf;r cloOf_mono (names:=r) ?_;by_cases hk:(k==NameKind.free)=true
  ·rw[if_pos hk]
   cases q:cells.lookup n with
   | none=>!h
   | some d =>
    show (List.lookup x ((n,d)::cs)).isSome=true;rw[List.lookup_cons];cases hx:x==n with
    | true=>rfl
    | false=>!h
  ·rw[if_neg hk];!h
theorem Ms{cells:List (Str×Addr)}{x:Str}(hc:(cells.lookup x).isSome=true):∀{names:List (Str×NameKind)}{cs:List (Str×Addr)},(x,NameKind.free)∈names->((cloOf cells names cs).lookup x).isSome=true
 | [],_,h=>by cases h
 | (n,k)::r,cs,h=>by
  unfold cloOf;rcases ┃ h with e | h
  ·cases e
   r cloOf_mono ?_;rw[if_pos (show (NameKind.free==NameKind.free)=true from rfl)];o⟨d,q⟩:=Option.isSome_iff_exists.mp hc;rw[q];show (List.lookup x ((x,d)::cs)).isSome=true;rw[List.lookup_cons,beq_self_eq_true];rfl
  ·!Ms hc h
theorem Ve{env:Env}:∀(names:List (Str×NameKind)) (cs:List (Str×Addr)),(∀ y∈names,y.2=.free->(env.cells.lookup y.1).isSome=true) ->
  (forIn names cs fun(x:Str×NameKind) (r:List (Str×Addr))=>match x with
   | (name,kind)=>if (kind == .free)=true then do let c <- cellOf env name;pure (ForInStep.yield ((name,c)::r)) else pure (ForInStep.yield r):Sem (List (Str×Addr)))=pure (cloOf env.cells names cs)
 | [],cs,_=>rfl
 | (n,k)::r,cs,h=>by
  h hr:∀ y∈r,y.2=.free->(env.cells.lookup y.1).isSome=true:=fun y hy=>h y (¶ _ hy);rw[List.forIn_cons];unfold cloOf;by_cases hk:(k==NameKind.free)=true
  ·h hf:k=.free:=by u hk
   o⟨d,q⟩:=Option.isSome_iff_exists.mp (h (n,k) ´ hf);h q':env.cells.lookup n=some d:=q;h hcell:cellOf env n=pure d:=by unfold cellOf;rw[q']
   simp only[hk,if_true,hcell,pure_bind,q'];!Ve r _ hr
  ·simp only[hk,if_false,pure_bind,Bool.false_eq_true]
   !Ve r _ hr
theorem ABg{scope:Scope}{env:Env}(h:∀ y∈scope.names,y.2=.free->(env.cells.lookup y.1).isSome=true):closureFor scope env=pure (cloOf env.cells scope.names []):=by
 unfold closureFor;h e:=Ve (env:=env) scope.names [] h;simp only[bind_pure];!e
theorem Dt{env:Env}:∀{names:List (Str×NameKind)}{x:Str},names.lookup x=some .free ->
  (names.map fun(n,k)=>if (k==NameKind.free&&env.scope.kind == .function&&env.kindOf n==some .cell) then (n,NameKind.cell) else (n,k)).lookup x=some .cell \/
  (names.map fun(n,k)=>if (k==NameKind.free&&env.scope.kind == .function&&env.kindOf n==some .cell) then (n,NameKind.cell) else (n,k)).lookup x=some .free
 | [],_,h=>by simp at h
 | (n,k)::r,x,h=>by
  h ih:=@Dt env r x;rw[List.map_cons];show List.lookup x ((if (k==NameKind.free&&env.scope.kind == .function&&env.kindOf n==some .cell)=true then (n,NameKind.cell) else (n,k))::_)=_\/List.lookup x ((if (k==NameKind.free&&env.scope.kind == .function&&env.kindOf n==some .cell)=true then (n,NameKind.cell) else (n,k))::_)=_;cases hx:x==n with
  | true =>
   rw[List.lookup_cons,hx] at h;h hk:k=.free:=by u h
   by_cases hc:(k==NameKind.free&&env.scope.kind == .function&&env.kindOf n==some .cell)=true
   ·rw[if_pos hc];left;rw[List.lookup_cons,hx]
   ·rw[if_neg hc];right;rw[List.lookup_cons,hx,hk]
  | false =>
   rw[List.lookup_cons,hx] at h;by_cases hc:(k==NameKind.free&&env.scope.kind == .function&&env.kindOf n==some .cell)=true
   ·rw[if_pos hc];rw[List.lookup_cons,hx];!ih h
   ·rw[if_neg hc];rw[List.lookup_cons,hx];!ih h
theorem JX{env:Env}{x:Str}:∀{names:List (Str×NameKind)},(∀ y∈names,y.2≠.cell) ->
  (
   (names.map fun(n,k)=>if (k==NameKind.free&&env.scope.kind == .function&&env.kindOf n==some .cell) then (n,NameKind.cell) else (n,k)).lookup x=some .cell \/
   (names.map fun(n,k)=>if (k==NameKind.free&&env.scope.kind == .function&&env.kindOf n==some .cell) then (n,NameKind.cell) else (n,k)).lookup x=some .free)->(x,NameKind.free)∈names
 | [],_,h=>by simp at h
 | (n,k)::r,hc,h=>by
  h ih:=@JX env x r fun y hy=>hc y (¶ _ hy);rw[List.map_cons] at h;h h':List.lookup x ((if (k==NameKind.free&&env.scope.kind == .function&&env.kindOf n==some .cell)=true then (n,NameKind.cell) else (n,k))::_)=_\/List.lookup x ((if (k==NameKind.free&&env.scope.kind == .function&&env.kindOf n==some .cell)=true then (n,NameKind.cell) else (n,k))::_)=_:=h;by_cases hb:(k==NameKind.free&&env.scope.kind == .function&&env.kindOf n==some .cell)=true
  ·rw[if_pos hb] at h'
   h hk:k=.free:=by simp at hb;!hb.1.1
   rw[List.lookup_cons] at h';cases hx:x==n with
   | true =>
    have:x=n:=eq_of_beq hx;subst this;subst hk;!´
   | false=>rw[hx] at h';!¶ _ (ih h')
  ·rw[if_neg hb] at h'
   rw[List.lookup_cons] at h';cases hx:x==n with
   | true =>
    rw[hx] at h';have:x=n:=eq_of_beq hx;subst this;rcases h' with h' | h'
    ·!absurd (Option.some.inj h') (hc (x,k) ´)
    ·h hk:k=.free:=Option.some.inj h'
     subst hk;!´
   | false=>rw[hx] at h';!¶ _ (ih h')
def compOk(osc sc:Scope):Bool :=
 (decide (sc.kind=.function))&&sc.names.all (fun y=>decide (y.2≠.cell))&&sc.names.all (fun y=>decide (y.2=.local->sc.names.lookup y.1=some .local)) &&
  sc.names.all (fun y=>decide (y.2=.free->osc.names.lookup y.1=some .cell\/osc.names.lookup y.1=some .free))
structure CompOk(osc sc:Scope):Prop where
 kind:sc.kind=.function
 nocell:∀ y∈sc.names,y.2≠.cell
 loc:∀ y∈sc.names,y.2=.local->sc.names.lookup y.1=some .local
 free:∀ y∈sc.names,y.2=.free->osc.names.lookup y.1=some .cell\/osc.names.lookup y.1=some .free
theorem CompOk.of{osc sc:Scope}(h:compOk osc sc=true):CompOk osc sc:=by
 unfold compOk at h;rw[Bool.and_eq_true,Bool.and_eq_true,Bool.and_eq_true] at h;o⟨⟨⟨h1,h2⟩,h3⟩,h4⟩:=h;!⟨of_decide_eq_true h1,fun y hy=>of_decide_eq_true (List.all_eq_true.mp h2 y hy),fun y hy=>of_decide_eq_true (List.all_eq_true.mp h3 y hy),fun y hy=>of_decide_eq_true (List.all_eq_true.mp h4 y hy)⟩
abbrev cloX(X:Cx)(scope:Scope):List (Str×Addr):=cloOf X.env.cells scope.names []
def cxComp(X:Cx)(N':List Str)(scope:Scope)(fp:List Addr)(s:Shared)(H:Hp):Cx where
 prog:=X.prog
 w:=X.w
 K:=X.K
 mg:=X.mg
 base:=X.base
 A:=X.A
 N:=N'
 s₀:=s
 H₀:=H
 env:=compEnvC scope (cloX X scope) ¸ X.env
 outer:=X.stack
 stack:=X.stack
 ex:=fp
 fn:=fun _=>false
 calm:=X.calm
 pn:=[]
 xe:=fun _ _=>False
def FreeAt(X:Cx)(sc:Scope):List Str->List Nat->Prop
 | [],[]=>True
 | x::fr,j::ix=>(X.N[j]?=some x/\sc.names.lookup x=some .free)/\FreeAt X sc fr ix
 | _,_=>False
def start2(σ:St)(own:List Str)(ix:List Nat):St:=List.replicate own.length none++ix.map fun j=>(σ[j]?).join
theorem Vl{X:Cx}{sc:Scope}{σ:St}{own:List Str}:∀{fr:List Str}{ix:List Nat},FreeAt X sc fr ix->(start2 σ own ix).length=(own++fr).length:=by
 intro fr ix h;have:fr.length=ix.length:=by
  induction fr generalizing ix with
  | nil=>cases ix with
   | nil=>rfl
   | cons _ _=>!h.elim
  | cons x fr ihf=>cases ix with
   | nil=>!h.elim
   | cons j ix=>simp[ihf h.2]
 simp[start2,this]
theorem Ln{X:Cx}{sc:Scope}{σ:St}{x:Str}{v:V}:∀{fr:List Str}{ix:List Nat}{i:Nat},FreeAt X sc fr ix->fr[i]?=some x->(ix.map fun j=>(σ[j]?).join)[i]?=some (some v) ->
  ∃ j:Nat,X.N[j]?=some x/\σ[j]?=some (some v)/\sc.names.lookup x=some .free
 | [],_,_,_,h,_=>by simp at h
 | _::_,[],_,h,_,_=>h.elim
 | y::fr,j::ix,0,h,h1,h2=>by
  h e1:y=x:=by u h1
  subst e1;h e2:(σ[j]?).join=some v:=by u h2
  r⟨j,h.1.1,?_,h.1.2⟩;cases q:σ[j]? with
  | none=>rw[q] at e2;cases e2
  | some o=>rw[q] at e2;cases o with
   | none=>cases e2
   | some z =>
         have:z=v:=by u e2
         rw[this]
 | y::fr,j::ix,i+1,h,h1,h2=>Ln (fr:=fr) (ix:=ix) (i:=i) h.2 (by u h1) (by u h2)
theorem Vu{X:Cx}{sc:Scope}{σ:St}{own fr:List Str}{ix:List Nat}{i:Nat}{x:Str}{v:V}(h:FreeAt X sc fr ix)(h1:(own++fr)[i]?=some x)(h2:(start2 σ own ix)[i]?=some (some v)) :
  ∃ j:Nat,X.N[j]?=some x/\σ[j]?=some (some v)/\sc.names.lookup x=some .free:=by
 by_cases hi:i<own.length
 ·unfold start2 at h2
  rw[┆ (by u hi),List.getElem?_replicate,if_pos hi] at h2;cases h2
 ·unfold start2 at h2
  rw[List.getElem?_append_right (by u hi)] at h2;rw[List.getElem?_append_right (by u hi)] at h1;!Ln h h1 (by u h2)
def PIfs(X:Cx)(ifs:List Expr)(t:TT):Prop :=
 ∀(pins:List ⑥) (s:Shared) (σ:St) (H:Hp) (Q:Bool->Hp->Prop),Inv X pins σ H s->t σ H Q ->
  wpAny ③ X.A (forIn ifs true fun c r=>if r=true then do let ok <- isTrue c X.env (eval c X.env);pure (ForInStep.yield ok) else pure (ForInStep.yield r)) (TP X pins σ Q) X.xe s
def AFI:TT:=fun _ H Q=>Q true H
theorem DX{X:Cx}:PIfs X [] AFI:=fun _ _ _ H _ I h=>wpAny_tests_nil ⟨H,I,h⟩
theorem CP{X:Cx}{c:Expr}{t:TT}(h:PT X c t):PIfs X [c] t:=fun pins s σ H Q I hw=>wpAny_tests_one (h pins s σ H Q I hw)
theorem Fq{prog:Program}{w:World}{A:Around}{R:Result->Shared->Prop}{s:Shared}{elt target iter:Expr}{ifs:List Expr}{scope:Scope}{pos:Pos}{it acc:Value}{env:Env}(I:Nat->Shared->Prop)
  (turn:∀ n s,I n s->wpAny ① A (pyNext it) (fun r s₁=>match r with
   | none=>R (.ok .next) s₁
   | some v=>wpAny ① A (letOwnedTupleGo target it v) (fun _ s₁'=>wpAny ① A (assign target env v) (fun _ s₂ =>
     wpAny ① A (forIn ifs true fun c r=>if r=true then do let ok <- isTrue c env (eval c env);pure (ForInStep.yield ok) else pure (ForInStep.yield r)) (fun ok s₃ =>
      if ok=true then wpAny ① A (eval elt env) (fun x s₄ =>
       wpAny ① A (call (.builtin "list.append") [acc,x]) (fun _ s₅=>∃ m,m<n/\I m s₅) (fun _ _=>False) s₄) (fun _ _=>False) s₃
      else ∃ m,m<n/\I m s₃) (fun _ _=>False) s₂) (fun _ _=>False) s₁') (fun _ _=>False) s₁) (fun _ _=>False) s)
  (n:Nat) (h:I n s) :
  codeAny ① A (.compLoop (.ListComp elt [⟨target,iter,ifs,0⟩] scope pos) 0 it acc env) R s:=by
 r codeAny_loop rfl I (fun n s hI=>?_) n h;show wpAny _ A ((compTurn (.ListComp elt [⟨target,iter,ifs,0⟩] scope pos) 0 it acc env).onRaise (fun x=>do noteFrame x env;theTreesLotGoes x)) _ _ s;r wpAny_noted ?_;rw[compTurn_list];b(wpAny_standAt (wpAny_bind (wpAny_mono (turn n s hI) (fun r s₁ h₁=>?_) fun _ _ h'=>h'.elim)));cases r with
 | none=>!wpAny_pure h₁
 | some v =>
  b(wpAny_mono h₁ (fun _ s₁' h₁'=>?_) fun _ _ h'=>h'.elim);b(wpAny_mono h₁' (fun _ s₂ h₂=>wpAny_bind (wpAny_mono h₂ (fun ok s₃ h₃=>?_) fun _ _ h'=>h'.elim)) fun _ _ h'=>h'.elim);cases ok with
  | false=>!wpAny_pure ⟨rfl,h₃⟩
  | true =>
   !wpAny_bind (wpAny_bind (wpAny_mono h₃ (fun x s₄ h₄=>wpAny_bind (wpAny_mono h₄ (fun _ s₅ h₅=>wpAny_pure (wpAny_pure ⟨rfl,h₅⟩)) fun _ _ h'=>h'.elim)) fun _ _ h'=>h'.elim))
def Behind(X:Cx)(pins:List ⑥)(σ:St)(R:Hp->Prop)(C:Addr)(s':Shared):Prop :=
 ∃(H':Hp) (m:Str->Option Value),Inv X pins σ H' s'/\s'.heap.Ns C m/\FpOk X pins H' C/\R H'
theorem Inv.sameBut{X:Cx}{pins:List ⑥}{σ:St}{H:Hp}{s:Shared}{h':Heap}{C:Addr}(I:Inv X pins σ H s)(f:FpOk X pins H C)(sb:Heap.SameBut C s.heap h'):Inv X pins σ H {s with heap:=h'}:=by
 o⟨f0,f1,f2,f3,f4,f5⟩:=f;!I.turned (t':=s.toks) (fun b o hb e=>(sb.2 b hb).trans e) f0 f1 f3 f4 f5
def Dd(J:It)(D:Addr)(g:TG)(tc:TT)(te:TE)(R:Hp->Prop)(τ:St)(H:Hp):Prop :=
 ∃ W:Nat->Nat->St->Hp->Prop,(∃ m,W 0 m τ H)/\∀ i m τ H,W i m τ H ->
  (J.stop i H/\R H)\/(J.go i H/\∃ N:St->Hp->Prop,(∀ τ' H',N τ' H'->∃ m',m'<m/\W (i+1) m' τ' H')/\∀ x H',J.yld i H x H'->g x τ H' fun τ2 H2=>tc τ2 H2 fun b H3 =>
   if b=true then te τ2 H3 fun v H4=>∃ ys,H4 D=some (.lst ys)/\ys.length<sizeLine/\N τ2 (upd H4 D (.lst (ys++[v]))) else N τ2 H3)
section
variable{X:Cx}{pins:List ⑥}{σ:St}{H:Hp}{s:Shared}{tg elt iter:Expr}{ifs:List Expr}{scope:Scope}{pos:Pos}{own fr:List Str}{ix:List Nat}{g:TG}{tc:TT}{te:TE}{it:Addr}{fp:List Addr}
 {tn:Nat->Heap->Prop}{J:It}
theorem Uu{R:Hp->Prop}{D:Addr}{h₁:Heap}{ob:Obj}{m0:Str->Option Value}{tk:Nat}(hc:X.calm=true)(ok:CompOk X.env.scope scope)(hfr:FreeAt X scope fr ix)
  (hg:PG ⑧ tg g) (hi:PIfs ⑧ ifs tc) (he:PE ⑧ elt te)
  (I3:Inv X pins σ H s) (T:Turn X.prog X.w X.K tg J fp it tn) (st3:tn 0 s.heap) (f3:∀ b∈fp,FpOk X pins H b)
  (hns:h₁.Ns ¸ m0) (hsb:Heap.SameBut ¸ (s.heap.push ob) h₁) (hq:Dd J D g tc te R (start2 σ own ix) H) :
  codeAny ③ X.A (.compStart (.ListComp elt [⟨tg,iter,ifs,0⟩] scope pos) 0 (.ref it) (.ref D) (compEnvC scope (cloX X scope) ¸ X.env))
   (fun r s'=>r=.ok .next/\Behind X pins σ R ¸ s') {s with heap:=h₁,toks:=tk}:=by
 h old:∀ b o,s.heap.get? b=some o->h₁.get? b=some o:=fun b o e=>hsb.extBut b o (Nat.ne_of_lt (Heap.lt_size e)) (° _ e);h sub:∀ x c,(cloX X scope).lookup x=some c->X.env.cells.lookup x=some c:=Nv (fun x c e=>by simp at e);h outerK:∀ x,(x,NameKind.free)∈scope.names->X.env.kindOf x=some .cell\/X.env.kindOf x=some .free:=fun x hx=>ok.free (x,.free) hx rfl;h has:∀ x,(x,NameKind.free)∈scope.names->∃ c,(cloX X scope).lookup x=some c:=fun x hx=>by
  o⟨c,hcl⟩:=I3.ok.has x (outerK x hx);!Option.isSome_iff_exists.mp (Ms (by rw[hcl];rfl) hx)
 h lt3:∀ b∈fp,b<¸:=fun b hb=>by
  o⟨o,ho,_⟩:=T.obj 0 _ st3 b hb;!Heap.lt_size ho
 h nostk:∀ b∈fp,b∉frs X.stack:=fun b hb hs=>by
  rcases ┃ (I3.stkSub b hs) with z | z
  ·!(f3 b hb).2.1 z
  ·!(f3 b hb).2.2.1 z
 h ncell:∀ b∈fp,∀ x c,(cloX X scope).lookup x=some c->c≠b:=fun b hb x c h=>(f3 b hb).2.2.2.2.1 x c (sub x c h);h I4:Inv ⑧ [] (start2 σ own ix) H {s with heap:=h₁,toks:=tk}:=by
  r⟨⟨I3.ok.mod,ok.kind,I3.ok.glob,I3.ok.blt,Nat.le_refl _,?inj,?has,?cab,I3.ok.hd,I3.ok.frames,.inl rfl,?exf,I3.bs,Nat.le_trans I3.ok.bsz I3.sz,?noex,nostk,I3.stack,I3.stkFree⟩,
   rfl,I3.bare,Un.kept old,⟨m0,hns,?loc⟩,?cell,I3.hok.fresh ②,?freeC,?pin,I3.hok.kept old,?len⟩
  case inj=>!fun x y c h1 h2=>I3.ok.inj x y c (sub x c h1) (sub y c h2)
  case has=>!fun x hx=>has x (JX ok.nocell hx)
  case cab=>!fun x c h=>by cases h
  case exf=>!fun b hb=>⟨Nat.ne_of_lt (lt3 b hb),ncell b hb⟩
  case noex =>
   intro b o e hb;rcases (f3 b hb).2.2.2.1 with z | z
   ·!I3.ok.noex b o e z
   ·!absurd (Nat.lt_of_lt_of_le (Nat.lt_of_lt_of_le (Heap.lt_size e) I3.ok.bsz) z) (Nat.lt_irrefl _)
  case loc =>
   intro i x v e1 e2 e3;o⟨j,a1,a2,a3⟩:=Vu hfr e1 e2;h mem:(x,NameKind.free)∈scope.names:=PySem.mem_of_lookup a3;o⟨m,hn,hl⟩:=I3.loc;h ok1:=outerK x mem;o⟨u,r,l⟩:=hl j x v a1 a2 (ok1.elim (fun z=>.inr (.inl z)) fun z=>.inr (.inr z));rcases l with⟨k,_⟩ | ⟨k,c,hcl,o,ho,hd⟩
   ·rcases ok1 with z | z
    ·rw[k] at z;cases z
    ·rw[k] at z;cases z
   ·o⟨c',hc'⟩:=has x mem
    h e:=sub x c' hc';rw[hcl] at e;cases e;!⟨u,r,.inr ⟨Dt a3,c,hc',o,old _ _ ho,hd⟩⟩
  case cell =>
   intro x c h;o⟨v,o,ho,hd⟩:=I3.cell x c (sub x c h);!⟨v,o,old _ _ ho,hd⟩
  case freeC=>!fun x c h=>I3.freeC x c (sub x c h)
  case pin=>!fun p hp=>absurd (show p∈([]:List ⑥) from hp) ¥
  case len=>!Vl hfr
 h st4:tn 0 h₁:=T.keep 0 _ _ st3 fun b _ o e=>old b o e;h stat:∀{H':Hp},(∀ b∈fp,H' b=none)->∀ b∈fp,FpOk ⑧ [] H' b:=fun {H'} hn b hb =>
  ⟨hn b hb,Nat.ne_of_lt (lt3 b hb),nostk b hb,.inl hb,ncell b hb,fun p hp=>absurd (show p∈([]:List ⑥) from hp) ¥⟩
 o⟨W,⟨m1,w0⟩,turn⟩:=hq;h loop:codeAny ③ X.A (.compLoop (.ListComp elt [⟨tg,iter,ifs,0⟩] scope pos) 0 (.ref it) (.ref D) (compEnvC scope (cloX X scope) ¸ X.env))
   (fun r s'=>r=.ok .next/\Behind X pins σ R ¸ s') {s with heap:=h₁,toks:=tk}:=by
  r Fq (fun n s'=>∃ i τ H',Inv ⑧ [] τ H' s'/\tn i s'.heap/\(∀ b∈fp,H' b=none)/\W i n τ H') ?_ m1 ⟨0,_,H,I4,st4,fun b hb=>(f3 b hb).1,w0⟩;rintro n s5 ⟨i,τ5,H5,I5,st5,fr5,w5⟩;rcases turn i n τ5 H5 w5 with⟨stop,qn⟩ | ⟨go,N,hN,step⟩
  ·r thn (T.done ⑧ rfl rfl rfl hc i [] s5 τ5 H5 _ I5 (stat fr5) st5 stop) fun r s6 ⟨hr,I6⟩=>?_
   subst hr;o⟨m6,hn6,_⟩:=I6.loc;!⟨rfl,H5,m6,I3.call' (ch:=fp) I6.os I6.base I6.hok I6.bare (fun b hb=>⟨(f3 b hb).2.2.2.1,(f3 b hb).2.1,(f3 b hb).2.2.2.2.1,(f3 b hb).2.2.2.2.2⟩),hn6,I3.fpOk ② I6.free,qn⟩
  ·r thn (T.item ⑧ rfl rfl rfl hc i [] s5 τ5 H5 _ I5 (stat fr5) st5 go) fun r s6 ⟨u,hr,h6⟩=>?_
   subst hr;r thn h6 fun _ s7 ⟨x,H7,I7,r7,y7,st7,fr7⟩=>?_;h I7':=I7.pinned (stat fr7) (T.obj _ _ st7);h again:∀{τ8:St}{H8:Hp}{s8:Shared},Inv ⑧ ([]++pinsAt fp s7.heap) τ8 H8 s8->N τ8 H8 ->
     ∃ m,m<n/\∃ i τ H',Inv ⑧ [] τ H' s8/\tn i s8.heap/\(∀ b∈fp,H' b=none)/\W i m τ H':=fun {τ8 H8 s8} I8 n8=>by
    o⟨m',hm,w8⟩:=hN τ8 H8 n8;r⟨m',hm,i+1,τ8,H8,I8.unpinned,T.keep _ _ _ st7 fun b hb o e=>(I8.pin (b,o) (List.mem_append_right _ (List.mem_append_right _ (Fj hb e)))).1,fun b hb=>?_,w8⟩;o⟨o,e,d⟩:=T.obj _ _ st7 b hb;!(I8.pin (b,o) (List.mem_append_right _ (List.mem_append_right _ (Fj hb e)))).2.1
   r thn (hg _ s7 τ5 H7 x u _ I7' r7 (step x H7 y7)) fun _ s8 ⟨τ8,H8,I8,q8⟩=>?_;r thn (hi _ s8 τ8 H8 _ I8 q8) fun b s9 ⟨H9,I9,q9⟩=>?_;cases b with
   | false=>!again I9 q9
   | true =>
    r thn (he _ s9 τ8 H9 _ I9 q9) fun uv s10 ⟨v,H10,I10,r10,ys,hD,hz,q10⟩=>?_;r thn (Cz (X:=cxComp X (own++fr) scope fp s H) _ s10 τ8 H10 (.ref D) [v] (.ref D) [uv] (fun _ H'=>N τ8 H') I10 rfl (.cons r10 .nil) ⟨D,ys,v,rfl,rfl,hD,hz,q10⟩) fun _ s11 ⟨_,H11,I11,_,q11⟩=>?_;!again I11 q11
 !codeAny_compStart_list loop (T.self X.A 0 _ _ _ st4 loop)
theorem RJ{R:V->Hp->Prop}(hc:X.calm=true)(ok:CompOk X.env.scope scope)(hfr:FreeAt X scope fr ix)
  (hg:∀ fp s H,PG ⑧ tg g) (hi:∀ fp s H,PIfs ⑧ ifs tc) (he:∀ fp s H,PE ⑧ elt te)
  (I2:Inv X pins σ H s) (T:Turn X.prog X.w X.K tg J fp it tn) (st2:tn 0 s.heap) (f2:∀ b∈fp,FpOk X pins H b)
  (hq:∀ D,H D=none->Dd J D g tc te (R (.ref D)) (start2 σ own ix) (upd H D (.lst []))) {E:Value->Shared->Prop} :
  wpAny ③ X.A (newList []) (fun acc s₃=>wpAny ③ X.A (newFunctionEnv scope X.env.globals (cloX X scope) [] X.env.qual none .none (some X.env)) (fun cenv s₄ =>
   codeAny ③ X.A (.compStart (.ListComp elt [⟨tg,iter,ifs,0⟩] scope pos) 0 (.ref it) acc {cenv with scope:=relabel scope X.env})
    (fun r s'=>r=.ok .next/\∃ v,RelV v acc/\Behind X pins σ (R v) cenv.locals s') s₄) E s₃) E s:=by
 r wpAny_newObj_type (wpAny_newFunctionEnv ok.nocell (by intro y hy;simp at hy) (fun h₁ hns₁ hsb₁=>?_) ok.kind);h hD:H ¸=none:=I2.hok.fresh ②;h I3:Inv X pins σ (upd H ¸ (.lst [])) {s with heap:=s.heap.push {cls:=.type "list",dict:=none,data:=.seq ([]:List Value).toArray}} :=
  I2.laid (t':=s.toks) (fun b u e=>° _ e) ② ⟨Nat.zero_le _,[],0,.nil,¿ _ rfl⟩
 h st3:tn 0 (s.heap.push {cls:=.type "list",dict:=none,data:=.seq ([]:List Value).toArray}):=T.keep 0 _ _ st2 fun b _ o e=>° _ e;h f3:∀ b∈fp,FpOk X pins (upd H ¸ (.lst [])) b:=fun b hb=>by
  o⟨f0,fr⟩:=f2 b hb;o⟨o,ho,_⟩:=T.obj 0 _ st2 b hb;!⟨by rw[Ag (Nat.ne_of_lt (Heap.lt_size ho))];!f0,fr⟩
 r codeAny_mono (Uu (R:=R (.ref ¸)) (D:=¸) hc ok hfr (hg _ _ _) (hi _ _ _) (he _ _ _) I3 T st3 f3 hns₁ hsb₁ (hq _ hD)) fun r s' ⟨e,b⟩=>⟨e,V.ref ¸,rfl,b⟩
def ADu(own:List Str)(ix:List Nat)(wi:TI)(g:TG)(tc:TT)(te:TE):TE:=fun σ H Q=>wi σ H fun J H1=>∀ D,H1 D=none->Dd J D g tc te (Q (.ref D)) (start2 σ own ix) (upd H1 D (.lst []))
end
section
variable{X:Cx}{tg elt iter:Expr}{ifs:List Expr}{scope:Scope}{pos:Pos}{g:TG}{tc:TT}{te:TE}{wi:TI}
theorem Nt{pins:List ⑥}{σ:St}{H:Hp}{s:Shared}(I:Inv X pins σ H s)(ok:CompOk X.env.scope scope):∀ y∈scope.names,y.2=.free->(X.env.cells.lookup y.1).isSome=true:=fun y hy hf=>by
 o⟨c,h⟩:=I.ok.has y.1 (ok.free y hy hf);rw[h];rfl
theorem Bv(osc:Scope)(own fr:List Str)(ix:List Nat)(hc:X.calm=true)(ho:X.env.scope=osc)(hok:compOk osc scope=true)(hfr:FreeAt X scope fr ix)(hit:PI X tg iter wi)
  (hg:∀ fp s H,PG ⑧ tg g) (hi:∀ fp s H,PIfs ⑧ ifs tc) (he:∀ fp s H,PE ⑧ elt te)
  (hs:∀ x,foldedSetIterable iter X.env x=pure x:=by intro _;rfl):PE X (.ListComp elt [⟨tg,iter,ifs,0⟩] scope pos) (ADu own ix wi g tc te):=by
 intro pins s σ H Q I h;h ok:=CompOk.of (ho ▸ hok);rw[eval_ListComp];r wpAny_comprehension_free (use:=none) rfl hs (ABg (Nt I ok)) ok.kind ok.loc (thn (hit pins s σ H _ I h) fun xv s₁ h₁=>thn h₁ fun itv s₂ h₂=>?_);o⟨it,fp,tn,J,H2,rfl,I2,T,st2,f2,hq⟩:=h₂;r thn (RJ (R:=Q) hc ok hfr hg hi he I2 T st2 f2 hq) fun acc s₃ h₃=>thn h₃ fun cenv s₄ h₄=>codeAny_mono h₄ fun r s' ⟨hr,v,rv,H',m,I',hn,fpo,q⟩=>?_;subst hr;!⟨m,hn,fun h' sb=>⟨v,H',I'.sameBut fpo sb,rv,q⟩⟩
theorem QS{i:Nat}{x:Str}{pos' spos:Pos}(osc:Scope)(own fr:List Str)(ix:List Nat)(hN:X.N.Nodup)(hx:X.N[i]?=some x)(hl:Loc X.env.scope x)(hc:X.calm=true)(ho:X.env.scope=osc)(hok:compOk osc scope=true)(hfr:FreeAt X scope fr ix)(hit:PI X tg iter wi)
  (hg:∀ fp s H,PG ⑧ tg g) (hi:∀ fp s H,PIfs ⑧ ifs tc) (he:∀ fp s H,PE ⑧ elt te)
  (hsw:swapsWith (.ListComp elt [⟨tg,iter,ifs,0⟩] scope pos) (some (.Name x pos')) spos.line X.env=pure true:=by rfl) (hs:∀ x,foldedSetIterable iter X.env x=pure x:=by intro _;rfl)
  (hf:X.fn x=true\/X.env.scope.names.lookup x=some .local:=by first | !.inl rfl | !.inr rfl | assumption) :
  PS X (.Assign [.Name x pos'] (.ListComp elt [⟨tg,iter,ifs,0⟩] scope pos) spos) (AFH (ADu own ix wi g tc te) (gName i)):=by
 intro pins s σ H D I h;h ok:=CompOk.of (ho ▸ hok);rw[exec_Assign_Name_used _ _ _ _ hsw];b(wpAny_standAt (wpAny_bind ?_));show wpAny _ X.A (do let _ <- comprehension (.ListComp elt [⟨tg,iter,ifs,0⟩] scope pos) scope X.env _ (newList []) false (eval iter X.env) (some (assign (.Name x pos') X.env))) _ _ s;b(wpAny_mono (wpAny_comprehension_free (use:=some (assign (.Name x pos') X.env)) (Q:=fun _ s'=>SP X pins D .next s') rfl hs (ABg (Nt I ok)) ok.kind ok.loc
  (thn (hit pins s σ H _ I h) fun xv s₁ h₁=>thn h₁ fun itv s₂ h₂=>?_)) (fun _ s' hq=>wpAny_pure (wpAny_pure hq)) fun _ _ e=>e)
 o⟨it,fp,tn,J,H2,rfl,I2,T,st2,f2,hq⟩:=h₂;r thn (RJ (R:=fun v H'=>D.nx (σ.set i (some v)) H') hc ok hfr hg hi he I2 T st2 f2 hq) fun acc s₃ h₃=>thn h₃ fun cenv s₄ h₄=>codeAny_mono h₄ fun r s' ⟨hr,v,rv,H',m,I',hn,fpo,q⟩=>?_;subst hr;show wpAny _ X.A (assign (.Name x pos') X.env acc) _ _ s';r wpAny_assign_Name (Oo I' hN hx hl rv (fun s'' I'' hch=>?_) hf);o⟨a,sb,ha⟩:=hch;h hCa:cenv.locals≠a:=by
  rcases ha with z | z
  ·rw[z];!fpo.2.1
  ·!fun e=>fpo.2.2.2.2.1 x a z e.symm
 !⟨m,hn.sameBut sb hCa,fun h' sb'=>⟨_,H',I''.sameBut fpo sb',q⟩⟩
end
section
variable{prog:Program}{w:World}{A:Around}{E:Value->Shared->Prop}{s:Shared}
theorem IW{it l:Addr}{i:Nat}{items}{x:Value}{Q:Value->Shared->Prop}(hit:s.heap.IsTupleIter it l i)
  (hl:s.heap.IsTuple l items) (hx:items[i]?=some x)
  (hQ:∀ h',h'.IsTupleIter it l (i+1)->Heap.SameBut it s.heap h'->Q x {s with heap:=h'}) :
  wpAny ① A (Builtin.SmallTypes.nextOf (.ref it)) Q E s:=by
 o⟨o,ho,hc,hd⟩:=id hit;o⟨ol,hol,_,nl,hdl⟩:=hl;unfold Builtin.SmallTypes.nextOf;b(wpAny_callSpecial?_slot (name:=Str.ofString "__next__") hit.typeIs F.slot_tuple_iterator_next
  (wpAny_call_entry F.slot_tuple_iterator_next hit.typeIs F.entry_tuple_iterator_next ?_ (F.args_tuple_iterator_next_1 _)))
 show wpAny _ _ (field (.ref it) 0 >>= _) _ _ s;b(wpAny_field ho hd (x:=.ref l) rfl ?_);show wpAny _ _ (if (Value.ref l==Value.none)=true then _ else _) _ _ s;rw[if_neg (show ¬ ((Value.ref l==Value.none)=true) from Bool.false_ne_true)];show wpAny _ _ (field (.ref it) 1 >>= _) _ _ s;b(wpAny_field ho hd (x:=.int i 0) rfl ?_);show wpAny _ _ (seqItems? (.ref l) >>= _) _ _ s;b(wpAny_seqItems hol hdl ?_);simp only[Int.toNat_natCast,hx];b(wpAny_setField ho hd ¥ (wpAny_pure ⟨x,rfl,wpAny_pure (hQ _ ?_ (Heap.SameBut.update ..))⟩));!⟨_,Heap.get?_update_self _ ho (Obj.isFreed_of_fields (Obj.data_mapFields hd _)),(Obj.cls_mapFields ..).trans hc,by
  rw[Obj.data_mapFields hd];simp[rawInt]⟩
theorem JG{it l:Addr}{i:Nat}{items}{Q:Value->Shared->Prop}(hh:A.handled=none)
  (hit:s.heap.IsTupleIter it l i) (hl:s.heap.IsTuple l items) (hx:items[i]?=none)
  (hE:∀ h' e,Heap.ExtBut it s.heap h'->(∃ o,h'.get? e=some o/\o.cls=.type "StopIteration")->E (.ref e) {s with heap:=h'}) :
  wpAny ① A (Builtin.SmallTypes.nextOf (.ref it)) Q E s:=by
 o⟨o,ho,hc,hd⟩:=id hit;o⟨ol,hol,_,nl,hdl⟩:=hl;unfold Builtin.SmallTypes.nextOf;b(wpAny_callSpecial?_slot (name:=Str.ofString "__next__") hit.typeIs F.slot_tuple_iterator_next
  (wpAny_call_entry F.slot_tuple_iterator_next hit.typeIs F.entry_tuple_iterator_next ?_ (F.args_tuple_iterator_next_1 _)))
 show wpAny _ _ (field (.ref it) 0 >>= _) _ _ s;b(wpAny_field ho hd (x:=.ref l) rfl ?_);show wpAny _ _ (if (Value.ref l==Value.none)=true then _ else _) _ _ s;rw[if_neg (show ¬ ((Value.ref l==Value.none)=true) from Bool.false_ne_true)];show wpAny _ _ (field (.ref it) 1 >>= _) _ _ s;b(wpAny_field ho hd (x:=.int i 0) rfl ?_);show wpAny _ _ (seqItems? (.ref l) >>= _) _ _ s;b(wpAny_seqItems hol hdl ?_);simp only[Int.toNat_natCast,hx];b(wpAny_rule (wpAny_bind (wpAny_setField ho hd ¥ ?_)));show wpAny _ _ (newExc (.type "StopIteration") [] >>= _) _ _ _;r wpAny_bind ?_;simp only[newExc,newTuple];b(wpAny_newObj_type ?_ (by size_fits));r wpAny_bind (m:=firstArgMember _ _) (wpAny_of_eq (a:=Value.none) (by first | rfl | (simp only[firstArgMember];rfl)) ?_);r wpAny_newObj_type ?_ (by size_fits);simp only[raiseNew];b(wpAny_handled ?_)
 first | rw[show A.in1.handled=none from hh] | rw[hh]
 b(wpAny_pure (wpAny_throw ?_));!hE _ _ (((Heap.SameBut.update ..).extBut.push _).push _) ⟨_,¿ _ rfl,rfl⟩
end
theorem Sd{prog:Program}{w:World}{A:Around}(hh:A.handled=none)(it l:Addr)(hne:l≠it)(items:Array Value) :
  Draws prog w A it [it,l] items.size (fun i v=>items[i]?=some v) (fun i h=>h.IsTupleIter it l i/\h.IsTuple l items) where
 live:=fun _ _ st=>let ⟨o,ho,_⟩:=st.1;⟨o,ho⟩
 frame:=fun _ _ _ st hk=>⟨st.1.at fun o e=>hk it ¥ o e,st.2.at fun o e=>hk l ¥ o e⟩
 item:=fun i s Q E hi st hQ=>by
  r IW st.1 st.2 (x:=items[i]) (by simp[hi]) fun h' hit' hs'=>?_;!hQ _ h' s.toks (by simp[hi]) ⟨hit',st.2.extBut hs'.extBut hne⟩ hs'
 done:=fun s Q E st hE=>JG hh st.1 st.2 ¥ hE
section
open AutoSeq1 (wpAny_loadPart')
theorem GJ(l:Addr)(items:Array Value)(n:Nat)(dct:Option Addr)(sl:Array ⑨) :
  Meets (Builtin.«enumerate.__new__» ⟨[.type "enumerate",.ref l],[]⟩) (fun _ R s=>s.heap.get? l=some {cls:=.type "tuple",dict:=dct,data:=.seq items n,slots:=sl} /\
   R (.ok (.ret (.ref (s.heap.push {cls:=.type "tuple_iterator",data:=.fields #[.ref l,.int 0 0]}).objs.size)))
    {s with heap:=(s.heap.push {cls:=.type "tuple_iterator",data:=.fields #[.ref l,.int 0 0]}).push {cls:=.type "enumerate",data:=.fields #[.none,.bool false,.ref ¸,rawInt 0,.none,.none]}}) :=
 .of_wp fun prog w A R s h=>by
  o⟨hp,g,d,tk,os⟩:=s;o⟨hl,h⟩:=h;h hsub:=sub_enumerate;h hL:Heap.IsTuple (Shared.heap ⟨hp,g,d,tk,os⟩) l items:=⟨_,hl,rfl,n,rfl⟩
  wp_walk using wpAny_loadPart' hl
  r wpAny_stack_any fun st=>wpAny_pure ?_;split
  ·rename_i c _ _ _ _ _
   cases (c==Value.type "enumerate")
   ·wp_walk using wpAny_loadPart' hl,wpAny_pyIter_tuple hL
    !⟨_,rfl,h⟩
   ·wp_walk using wpAny_loadPart' hl,wpAny_pyIter_tuple hL
    !⟨_,rfl,h⟩
  ·wp_walk using wpAny_loadPart' hl,wpAny_pyIter_tuple hL
   !⟨_,rfl,h⟩
end
theorem GQ{prog:Program}{w:World}{A:Around}{E:Value->Shared->Prop}{s:Shared}{l:Addr}{items:Array Value}{Q:Value->Shared->Prop}(hL:s.heap.IsTuple l items)
  (h:∀ h',IsEnum h' (¸+1) ¸ 0 .none->h'.IsTupleIter ¸ l 0->h'.objs.size=¸+2 ->
   (∀ b o,s.heap.get? b=some o->h'.get? b=some o)->Q (.ref (¸+1)) {s with heap:=h'}) :
  wpAny ① A (call (.type "enumerate") [.ref l]) Q E s:=by
 o⟨⟨c,dct,dt,sl⟩,hl,hc,n,hd⟩:=hL
 replace hc:c=.type "tuple":=hc
 replace hd:dt=.seq items n:=hd
 subst hc hd;r callType_new F.called_enumerate ¤ (F.typeCall_enumerate_1 _) (F.newCall_enumerate_1 _) (fun obj=>F.args_object_init_2 obj _) F.entry_enumerate_new
  (GJ l items n dct sl) ⟨hl,?_⟩
 h hz:(s.heap.push {cls:=.type "tuple_iterator",data:=.fields #[.ref l,.int 0 0]}).objs.size=¸+1:=Heap.size_push ..;show _/\_;rw[hz];h he:IsEnum ((s.heap.push {cls:=.type "tuple_iterator",data:=.fields #[.ref l,.int 0 0]}).push
   {cls:=.type "enumerate",data:=.fields #[.none,.bool false,.ref ¸,rawInt 0,.none,.none]}) (¸+1) ¸ 0 .none:=by
  have:=¿ (s.heap.push {cls:=.type "tuple_iterator",data:=.fields #[.ref l,.int 0 0]})
   (o:={cls:=.type "enumerate",data:=.fields #[.none,.bool false,.ref ¸,rawInt 0,.none,.none]}) rfl
  rw[hz] at this;!this
 r⟨⟨_,he,rfl⟩,h _ he ⟨_,° _ (¿ _ rfl),rfl,rfl⟩ (by rw[Heap.size_push,hz]) fun b o x=>° _ (° _ x)⟩
section
variable{X:Cx}{pins:List ⑥}{σ:St}{H:Hp}{s:Shared}{h':Heap}
theorem Inv.walked{t':Nat}{wr:List Addr}(I:Inv X pins σ H s)(k:∀ b o,b∉wr->s.heap.get? b=some o->h'.get? b=some o)(hf:∀ b∈wr,FpOk X pins H b):Inv X pins σ H {s with heap:=h',toks:=t'}:=by
 h nit:∀ b u,H b=some u->b∉wr:=fun b u e z=>by rw[(hf b z).1] at e;cases e
 r I.step (g':=s.gens) (d':=s.drawn) (ch:=wr) (fun b hb=>?_) (fun b o _ _ hc e _=>k b o hc e) (fun b o _ _ hc e _=>⟨o.slots,k b o hc e⟩) (fun _ _ _ _ n=>n)
  (fun b o hc e=>⟨o,k b o hc e⟩) (fun _ _ e=>e) (fun _ _ _ e=>e) (fun b ps e=>⟨#[],by rw[e];simp⟩) (fun m hm=>?_) (fun b u e=>?_) I.bare
 ·o⟨f0,f1,f2,f3,f4,f5⟩:=hf b hb
  !⟨f3,f1,f4,f5⟩
 ·o⟨o,es,ep,ho,r⟩:=hm
  !⟨o,es,ep,k _ o (fun z=>(hf _ z).2.1 rfl) ho,r⟩
 ·r(I.hok b u e).stay (fun c v hc q=>k c v ?_ q) (fun _ q=>q) fun _ _ q=>q
  rcases hc with z | z
  ·rw[z];!nit b u e
  ·!nit c _ z
theorem Inv.track{a:Addr}{o:HO}(I:Inv X pins σ H s)(f:FpOk X pins H a)(new:ObjOk X.prog X.w (upd H a o) s.heap a o):Inv X pins σ (upd H a o) s:=by
 o⟨f0,f1,f2,f3,f4,f5⟩:=f;h ne:∀ b u,H b=some u->b≠a:=fun b u e z=>by rw[z,f0] at e;cases e
 o⟨hh,g,d,t,os⟩:=s;r I.step (h':=hh) (g':=g) (d':=d) (t':=t) (ch:=[a]) (fun b hb=>?_) (fun b o _ _ _ e _=>e) (fun b o _ _ _ e _=>⟨o.slots,e⟩) (fun b o hc _ n=>?_) (fun b o _ e=>⟨o,e⟩)
  (fun b xs e=>?_) (fun b u xs e=>?_) (fun b ps e=>⟨#[],?_⟩) (fun m hm=>hm) (fun b u e=>?_) I.bare
 ·h e:b=a:=by u hb
  subst e;!⟨f3,f1,f4,f5⟩
 ·rw[Ag (fun z=>hc (by simp[z]))];!n
 ·rw[Ag (ne b _ e)];!e
 ·rw[Ag (ne b _ e)];!e
 ·rw[Ag (ne b _ e),e];simp
 ·by_cases hb:b=a
  ·subst hb;rw[Ab] at e;cases e;!new
  ·rw[Ag hb] at e
   !(I.hok b u e).stay (fun _ _ _ q=>q) (fun c q=>by rw[Ag (ne c _ q)];!q) fun c xs q=>by rw[Ag (ne c _ q)];!q
end
def Ien(S:Hp->List V->Prop):It :=
 ⟨fun i H=>∃ xs x,S H xs/\xs[i]?=some x,fun i H v H'=>∃ T x,v=.ref T/\H T=none/\H'=upd H T (.tup [.int i,x])/\∀ xs,S H xs->xs[i]?=some x,fun i H=>∃ xs,S H xs/\xs.length=i⟩
theorem Zc{P:Program}{w:World}{K:¨}{elts:List Expr}{k:Nat}{tp:Pos}{S:Hp->List V->Prop}{e it l:Addr}{St0:Nat->Heap->Prop}
  (hei:e≠it)
  (obj:∀ i h,St0 i h->∃ o,h.get? it=some o/\∀ v,o.data≠.cell v)
  (keep:∀ i h h',St0 i h->(∀ o,h.get? it=some o->h'.get? it=some o)->St0 i h')
  (drw:∀(X:Cx),X.prog=P->X.w=w->X.K=K->X.calm=true->∀(i:Nat) (pins:List ⑥) (s:Shared) (σ:St) (H:Hp) (xs:List V),Inv X pins σ H s->St0 i s.heap->(∃ old,IsEnum s.heap e it i old)->S H xs ->
   ∃(its:List Value) (fp:List Addr) (St:Nat->Heap->Prop),Vals xs its/\Draws P w X.A.in1 it fp its.toArray.size (fun i v=>its.toArray[i]?=some v) St/\St i s.heap/\e∉fp/\it∈fp/\(∀ j h,St j h->St0 j h))
  (inj:∀(X:Cx),X.K=K->∀(pins:List ⑥) (s:Shared) (σ:St) (H:Hp) (xs ys:List V),Inv X pins σ H s->S H xs->S H ys->xs=ys) :
  Turn P w K (.Tuple elts k tp) (Ien S) [e,it] e (fun i h=>(∃ old,IsEnum h e it i old)/\St0 i h) where
 mem:=by simp
 obj:=fun i h st b hb=>by
  o⟨⟨old,he⟩,hs⟩:=st;rcases ┃ hb with rfl | hb
  ·!⟨_,he,fun v z=>by
    h z':Data.fields _=Data.cell v:=z;cases z'⟩
  ·h e1:b=it:=by u hb
   subst e1;!obj i h hs
 keep:=fun i h h' st k=>⟨let ⟨old,he⟩:=st.1;⟨old,k e ¥ _ he⟩,keep i h h' st.2 fun o q=>k it ¥ o q⟩
 item:=by
  intro X hP hw hK hc i pins s σ H E I hf st hg;o⟨xs,x,hq,hx⟩:=hg;o⟨its,fp,St,rv,Dr,hst,hef,hif,hback⟩:=drw X hP hw hK hc i pins s σ H xs I st.2 st.1 hq;subst hP hw;o⟨u,hu,ru⟩:=rv.get hx;h hi:i<its.toArray.size:=by rw[┌];!(━ hu).1
  h hu':its.toArray[i]?=some u:=by u hu
  h WT:=WalksT.enumerateD Dr e hei hef hif;r WT.item i s _ _ hi ⟨st.1,hst⟩ fun T vals h' tk hPt hsz hT hmid hk=>⟨.ref T,rfl,?_⟩;o⟨t,y,hy,rfl⟩:=hPt;h hTw:T∉[e,it]:=WT.apart i T _ hmid;rw[hu'] at hy;h hy':u=y:=Option.some.inj hy;subst hy';h hwr:∀ b∈[e,it],FpOk X pins H b:=hf;h I1:Inv X pins σ H {s with heap:=h',toks:=tk}:=I.walked hk hwr;h hTn:H T=none:=I.hok.fresh hsz;h I2:Inv X pins σ (upd H T (.tup [.int i,x])) {s with heap:=h',toks:=tk}:=by
   r I1.track (I.fpOk hsz hTn) ⟨by show 2<=sizeLine;decide,[.int i t,u],.cons ⟨t,rfl⟩ (.cons ru .nil),?_⟩;!hT
  h hwr2:∀ b∈[e,it],FpOk X pins (upd H T (.tup [.int i,x])) b:=fun b hb=>by
   o⟨f0,fr⟩:=hf b hb;h ne:b≠T:=fun z=>hTw (by rw[<- z];!hb);!⟨by rw[Ag ne];!f0,fr⟩
  r WT.go elts k tp i T _ _ _ hmid fun h'' hst'' hk''=>?_;r⟨.ref T,_,I2.walked (t':=tk) hk'' hwr2,rfl,⟨T,x,rfl,hTn,rfl,fun ys hy=>by rw[inj X hK pins s σ H ys xs I hy hq];!hx⟩,⟨hst''.1,hback _ _ hst''.2⟩,fun b hb=>(hwr2 b hb).1⟩
 done:=by
  intro X hP hw hK hc i pins s σ H E I hf st hg;o⟨xs,hq,hx⟩:=hg;o⟨its,fp,St,rv,Dr,hst,hef,hif,hback⟩:=drw X hP hw hK hc i pins s σ H xs I st.2 st.1 hq;subst hP hw;h hl:=rv.length;h hi:i=its.toArray.size:=by rw[┌];w
  subst hi;!(WalksT.enumerateD Dr e hei hef hif).done s _ _ ⟨st.1,hst⟩ fun h' tk hk=>⟨rfl,I.walked hk hf⟩
 self:=fun A i s Q E st h=>by
  o⟨⟨old,he⟩,_⟩:=st;!wpAny_pyIter_enum he h
theorem Zo{h:Heap}{a b:Addr}{o u:Obj}(ha:h.get? a=some o)(hb:h.get? b=some u)(hc:o.cls≠u.cls):a≠b:=fun e=>by
 subst e;rw[ha] at hb;cases hb;!hc rfl
theorem Uo{P:Program}{w:World}{K:¨}{elts:List Expr}{k:Nat}{tp:Pos}{e it a:Addr}(hei:e≠it) :
  Turn P w K (.Tuple elts k tp) (Ien fun H xs=>SqT K H a xs) [e,it] e (fun i h=>(∃ old,IsEnum h e it i old)/\h.IsTupleIter it a i):=by
 r Zc (l:=a) hei (fun i h st=>?_) (fun i h h' st k=>st.at k) (fun X hP hw hK hc i pins s σ H xs I st he hq=>?_) (fun X hK pins s σ H xs ys I h1 h2=>?_)
 ·o⟨o,e,c,d⟩:=st
  !⟨o,e,fun v z=>by rw[d] at z;cases z⟩
 ·subst hP hw hK
  o⟨its,rv,p,hz⟩:=I.tuple hq;o⟨old,he⟩:=he;o⟨ol,hol,hcl,_⟩:=id p;o⟨oi,hoi,hci,_⟩:=id st;h h1:a≠it:=Zo hol hoi (by rw[hcl,hci];decide);h h2:e≠a:=Zo he hol (by rw[hcl];show Value.type "enumerate"≠Value.type "tuple";decide);!⟨its,[it,a],_,rv,Sd (A:=X.A.in1) (I.ok.hd hc) it a h1 its.toArray,⟨st,p⟩,by simp[hei,h2],by simp,fun j h z=>z.1⟩
 ·subst hK
  !I.tuple_inj h1 h2
section
variable{X:Cx}{elts:List Expr}{k:Nat}{tp:Pos}
def AGS(K:¨)(ta:TA):TI:=fun σ H R=>ta σ H fun vs H1=>∃ a,vs=[.ref a]/\(∃ xs,SqT K H1 a xs)/\R (Ien fun H xs=>SqT K H a xs) H1
theorem KN{l:Expr}{ta:TA}{p pos:Pos}(hg:Gl X "enumerate")(hm:X.mg "enumerate" = none)(ha:PA X [l] ta)(hs:starEach [l] X.env=[(false,eval l X.env)]:=by rfl) :
  PI X (.Tuple elts k tp) (.Call (.Name "enumerate" p) [l] [] pos) (AGS X.K ta):=by
 intro pins s σ H R I h;r Call_ (Eb I hg hm boot_enumerate (PyProof.Rows.callWith_type1 (thn (ha pos pins s σ H _ I h) fun us s1 ⟨vs,H1,I1,r1,q1⟩=>?_) hs rfl));o⟨a,rfl,⟨xs,hq⟩,q⟩:=q1;o⟨u,rfl,ru⟩:=r1.one;cases ru;o⟨its,rv,pl,hz⟩:=I1.tuple hq;r GQ pl fun h' he hit hsz hk=>wpAny_pyIter_enum he ?_;h I2:Inv X pins σ H1 {s1 with heap:=h'}:=I1.kept (t':=s1.toks) hk;r⟨s1.heap.objs.size+1,[s1.heap.objs.size+1,s1.heap.objs.size],_,_,H1,rfl,I2,Uo (Nat.succ_ne_self _),⟨⟨_,he⟩,hit⟩,fun b hb=>?_,q⟩;h e:s1.heap.objs.size<=b:=by
  rcases ┃ hb with rfl | hb
  ·!Nat.le_succ _
  ·rw[List.mem_singleton.mp hb];!Nat.le_refl _
 !I1.fpOk e (I1.hok.fresh e)
end
theorem Ht{J:It}{D:Addr}{g:TG}{tc:TT}{te:TE}{R:Hp->Prop}{τ:St}{H:Hp}(n:Nat)(Pv:Nat->St->Hp->Prop)(h0:Pv 0 τ H)(hgo:∀ i τ H,i<n->Pv i τ H->J.go i H)(hstop:∀ τ H,Pv n τ H->J.stop n H)
  (hs:∀ i τ H x H',i<n->Pv i τ H->J.yld i H x H'->g x τ H' fun τ2 H2=>tc τ2 H2 fun b H3=>if b=true then te τ2 H3 fun v H4=>∃ ys,H4 D=some (.lst ys)/\ys.length<sizeLine/\Pv (i+1) τ2 (upd H4 D (.lst (ys++[v]))) else Pv (i+1) τ2 H3)
  (hd:∀ τ H,Pv n τ H->R H):Dd J D g tc te R τ H:=by
 r⟨fun i m τ H=>m=n-i/\i<=n/\Pv i τ H,⟨n,by simp,Nat.zero_le _,h0⟩,?_⟩;rintro i m τ H ⟨rfl,hi,p⟩;by_cases hlt:i<n
 ·!.inr ⟨hgo i τ H hlt p,Pv (i+1),fun τ' H' p'=>⟨n-(i+1),by w,rfl,hlt,p'⟩,fun x H' y=>hs i τ H x H' hlt p y⟩
 ·h e:i=n:=by w
  subst e;!.inl ⟨hstop τ H p,hd τ H p⟩
section
variable{prog:Program}{w:World}{A:Around}{E:Value->Shared->Prop}{s:Shared}
theorem MJ{l:Addr}{vs:List Value}{Q:List Value->Shared->Prop}(hl:s.heap.IsTuple l vs.toArray)
  (h:Q vs {s with heap:=(s.heap.push (seqObj "list" #[] 0)).update ¸ (Obj.mapSeq (·++vs.toArray))}) (hsz:vs.length<=sizeLine:=by size_fits) :
  wpAny ① A (collect (.ref l)) Q E s:=by
 o⟨o,ho,hc,n,hd⟩:=id hl;unfold collect;b(wpAny_runValue (codeAny_builtin entry_proto_collect' ?_));show wpAny _ _ (do again (.builtin "list.__iadd__" ⟨[<- newList [],.ref l],[]⟩)) _ _ s;b(wpAny_newList (wpAny_pure ⟨Code.quiet_builtin _ £,codeAny_builtin entry_list_iadd' ?_⟩));show wpAny _ _ (Builtin.List.listExtendWith (.ref ¸) (.ref l) (.ref ¸)) _ _ {s with heap:=s.heap.push (seqObj "list" #[] 0)};unfold Builtin.List.listExtendWith;h ho':(s.heap.push (seqObj "list" #[] 0)).get? l=some o:=° _ ho;b(wpAny_typeOf (T:="tuple") ⟨o,ho',hc⟩ ?_);h ht:(Value.type "tuple" == Value.type "tuple")=true:=by rfl
 rw[if_pos (by rw[ht];simp)];b(listItems_at ho' hd ?_);b(listItems_at (xs:=#[]) (n:=0) (¿ _ rfl) rfl ?_);rw[if_neg ¥];b(listUpdate_at (xs:=#[]) (n:=0) (¿ _ rfl) rfl ?_ (Nat.zero_le _) (by show (#[]++vs.toArray).size<=sizeLine+1;simp only[Array.size_append,List.size_toArray,List.length_nil];w));r wpAny_pure ?_;show wpAny ① A (do
   let o <- load ¸
   match o.data with
   | .seq xs _=>pure xs.toList
   | _=>unsupported "internal:collect") Q E {s with heap:=(s.heap.push (seqObj "list" #[] 0)).update ¸ (Obj.mapSeq (·++vs.toArray))}
 b(wpAny_load (get?_update_seq (¿ _ rfl) _) ?_);show wpAny _ _ (pure ((#[]:Array Value)++vs.toArray).toList) Q E _;rw[show ((#[]:Array Value)++vs.toArray).toList=vs by simp];!wpAny_pure h
theorem Qu{l:Addr}{vs:List Value}{ns:List Int}{Q:Value->Shared->Prop}(hl:s.heap.IsTuple l vs.toArray)(hI:IntsAre vs ns)(h64:vs.length<64)
  (h:∀(out:Array Value) (ns':List Int),IntsAre out.toList ns'->ns'.Perm ns->ns'.Pairwise (·<=·)->Q (.ref (¸+1)) {s with heap:=sortedAll s.heap vs out}) :
  wpAny ① A (call (.builtin "sorted") [.ref l]) Q E s:=by
 r Calls.call_function_entry kind_sorted plain_sorted entry_sorted (args_sorted1 _) ?_;unfold Builtin.«sorted»;r wpAny_bind (m:=checkCount "sorted" 1 1 _) (wpAny_pure ?_);b(MJ hl ?_ (by
                       have:(64:Nat)<=sizeLine:=by decide
                       w))
 b(wpAny_newList ?_);h hsz:((s.heap.push (seqObj "list" #[] 0)).update ¸ (Obj.mapSeq (·++vs.toArray))).objs.size=¸+1:=by
  rw[Heap.size_update,size_push']
 h hoL:(((s.heap.push (seqObj "list" #[] 0)).update ¸ (Obj.mapSeq (·++vs.toArray))).push (seqObj "list" vs.toArray 0)).get? (¸+1)=some (seqObj "list" vs.toArray 0):=by
  rw[<- hsz];!¿ _ rfl
 show wpAny _ _ _ _ _ {s with heap:=((s.heap.push (seqObj "list" #[] 0)).update ¸ (Obj.mapSeq (·++vs.toArray))).push (seqObj "list" vs.toArray 0)};rw[hsz];b(wpAny_holding (wpAny_call_entry slot_list_sort ⟨_,hoL,rfl⟩ entry_list_sort (list_sort_tree hoL hI h64 fun out ns' a1 a2 a3=>⟨_,rfl,?_⟩) (args_list_sort _)));!wpAny_pure ⟨_,rfl,h out ns' a1 a2 a3⟩
end
section
variable{X:Cx}
def ACx(K:¨):List V->Hp->VK->Prop:=fun xs H Q=>∃(p:Addr) (ns:List Int),xs=[.ref p]/\(SqL K H p ⑬\/SqT K H p ⑬)/\ns.length<64/\∀(l:Addr) (ms:List Int),H l=none->ms.Perm ns->ms.Pairwise (·<=·)->Q (.ref l) (upd H l (.lst (ms.map V.int)))
theorem Hz:∀{us:List Value}{ns:List Int},IntsAre us ns->Vals ⑬ us
 | _,_,.nil=>.nil
 | _,_,.cons n t r=>.cons ⟨t,rfl⟩ (Hz r)
theorem JZ:CallR X (.builtin "sorted") (ACx X.K):=by
 intro pins s σ H xs us Q I r h;o⟨p,ns,rfl,hq,h64,q⟩:=h;o⟨u,rfl,ru⟩:=r.one;cases ru;h fin:∀(its:List Value) (out:Array Value) (ms:List Int),IntsAre out.toList ms->ms.Perm ns->ms.Pairwise (·<=·)->EP X pins σ Q (.ref (¸+1)) {s with heap:=sortedAll s.heap its out}:=fun its out ms a1 a2 a3=>by
  o⟨e,he⟩:=sortedAll_at s.heap its out;h hn:H (¸+1)=none:=I.hok.fresh (Nat.le_succ _);h hv:=Hz a1;h hms:ms.length=ns.length:=a2.length_eq;r⟨.ref (¸+1),_,I.laid (a:=¸+1) (o:=.lst (ms.map V.int)) (t':=s.toks) (fun b o=>sortedAll_old) (Nat.le_succ _) ⟨?_,out.toList,e,hv,?_⟩,rfl,q _ ms hn a2 a3⟩
  ·rw[─,hms]
   !Nat.le_trans (Nat.le_of_lt h64) ¤
  ·rw[Array.toArray_toList]
   !he
 rcases hq with hq | hq
 ·o⟨its,rv,pl,hz⟩:=I.list hq
  h hl:=rv.length;rw[─] at hl;!sorted_ints pl.isList (intsAre_of rv) ¢ fun out ms a1 a2 a3=>fin its out ms a1 a2 a3
 ·o⟨its,rv,pl,hz⟩:=I.tuple hq
  h hl:=rv.length;rw[─] at hl;!Qu pl (intsAre_of rv) ¢ fun out ms a1 a2 a3=>fin its out ms a1 a2 a3
theorem ABZ(hc:X.calm=true):CallR X (.builtin "min") (fun xs H Q=>∃ p a b,xs=[.ref p]/\SqT X.K H p [.int a,.int b]/\Q (.int (if b<a then b else a)) H):=by
 intro pins s σ H xs us Q I r h;o⟨p,a,b,rfl,hq,q⟩:=h;o⟨u0,rfl,ru⟩:=r.one;cases ru;o⟨its,rv,pl,hz⟩:=I.tuple hq;o⟨u1,u2,rfl,⟨t,rfl⟩,⟨u,rfl⟩⟩:=rv.two;h hT:s.heap.IsTuple p (intItems #[(a,t),(b,u)]):=by
  h e:(intItems #[(a,t),(b,u)])=[Value.int a t,Value.int b u].toArray:=by simp[intItems]
  rw[e];!pl
 h hlt:p<¸:=by o⟨_,e,_⟩:=hT;!Heap.lt_size e
 r call_min_walk (wpAny_pyIter_tuple hT ?_);r⟨_,[_,p],[_],_,_,_,_,rfl,Walks.tuple (A:=X.A.in1) (I.ok.hd hc) _ p (Nat.ne_of_lt hlt) (intItems #[(a,t),(b,u)]),
  ⟨⟨_,¿ _ rfl,rfl,rfl⟩,hT.push _⟩,fun c hc=>?_,by simp[intItems],CmpOf.ints_lt (numAt #[(a,t),(b,u)]) (fun _ _=>intItems_at),fun v h' tk hP hk=>?_⟩
 ·show c<(s.heap.push _).objs.size
  rw[Heap.size_push];rcases ┃ hc with rfl | hc
  ·!Nat.lt_succ_self _
  ·rcases ┃ hc with rfl | hc
   ·!Nat.lt_succ_of_lt hlt
   ·cases hc
 ·h hold:∀ c o,s.heap.get? c=some o->h'.get? c=some o:=fun c o e=>by
   r hk c o (fun hm=>?_) (° _ e);rcases ┃ hm with e1 | hm
   ·have:=Heap.lt_size e;rw[e1] at this;!Nat.lt_irrefl _ this
   ·cases hm
  h hv:v=if b<a then Value.int b u else Value.int a t:=by
   h hP':(intItems #[(a,t),(b,u)])[argBest (fun i j=>decide (numAt #[(a,t),(b,u)] i<numAt #[(a,t),(b,u)] j)) 1]?=some v:=by
    h hsz2:(intItems #[(a,t),(b,u)]).size-1=1:=by simp[intItems]
    rw[<- hsz2];!hP
   by_cases hba:b<a
   ·h e:argBest (fun i j=>decide (numAt #[(a,t),(b,u)] i<numAt #[(a,t),(b,u)] j)) 1=1:=by simp[argBest,numAt,hba]
    rw[e] at hP';simpa [intItems,hba] using hP'.symm
   ·h e:argBest (fun i j=>decide (numAt #[(a,t),(b,u)] i<numAt #[(a,t),(b,u)] j)) 1=0:=by simp[argBest,numAt,hba]
    rw[e] at hP';simpa [intItems,hba] using hP'.symm
  r⟨_,H,I.kept hold,?_,q⟩;rw[hv];by_cases hj:b<a
  ·rw[if_pos hj,if_pos hj];!⟨_,rfl⟩
  ·rw[if_neg hj,if_neg hj];!⟨_,rfl⟩
theorem ACQ(hc:X.calm=true):CallR X (.builtin "max") (fun xs H Q=>∃ p a b,xs=[.ref p]/\SqT X.K H p [.int a,.int b]/\Q (.int (if b>a then b else a)) H):=by
 intro pins s σ H xs us Q I r h;o⟨p,a,b,rfl,hq,q⟩:=h;o⟨u0,rfl,ru⟩:=r.one;cases ru;o⟨its,rv,pl,hz⟩:=I.tuple hq;o⟨u1,u2,rfl,⟨t,rfl⟩,⟨u,rfl⟩⟩:=rv.two;h hT:s.heap.IsTuple p (intItems #[(a,t),(b,u)]):=by
  h e:(intItems #[(a,t),(b,u)])=[Value.int a t,Value.int b u].toArray:=by simp[intItems]
  rw[e];!pl
 h hlt:p<¸:=by o⟨_,e,_⟩:=hT;!Heap.lt_size e
 r call_max_walk (wpAny_pyIter_tuple hT ?_);r⟨_,[_,p],[_],_,_,_,_,rfl,Walks.tuple (A:=X.A.in1) (I.ok.hd hc) _ p (Nat.ne_of_lt hlt) (intItems #[(a,t),(b,u)]),
  ⟨⟨_,¿ _ rfl,rfl,rfl⟩,hT.push _⟩,fun c hc=>?_,by simp[intItems],CmpOf.ints_gt (numAt #[(a,t),(b,u)]) (fun _ _=>intItems_at),fun v h' tk hP hk=>?_⟩
 ·show c<(s.heap.push _).objs.size
  rw[Heap.size_push];rcases ┃ hc with rfl | hc
  ·!Nat.lt_succ_self _
  ·rcases ┃ hc with rfl | hc
   ·!Nat.lt_succ_of_lt hlt
   ·cases hc
 ·h hold:∀ c o,s.heap.get? c=some o->h'.get? c=some o:=fun c o e=>by
   r hk c o (fun hm=>?_) (° _ e);rcases ┃ hm with e1 | hm
   ·have:=Heap.lt_size e;rw[e1] at this;!Nat.lt_irrefl _ this
   ·cases hm
  h hv:v=if b>a then Value.int b u else Value.int a t:=by
   h hP':(intItems #[(a,t),(b,u)])[argBest (fun i j=>decide (numAt #[(a,t),(b,u)] i>numAt #[(a,t),(b,u)] j)) 1]?=some v:=by
    h hsz2:(intItems #[(a,t),(b,u)]).size-1=1:=by simp[intItems]
    rw[<- hsz2];!hP
   by_cases hba:b>a
   ·h e:argBest (fun i j=>decide (numAt #[(a,t),(b,u)] i>numAt #[(a,t),(b,u)] j)) 1=1:=by simp[argBest,numAt,hba]
    rw[e] at hP';simpa [intItems,hba] using hP'.symm
   ·h e:argBest (fun i j=>decide (numAt #[(a,t),(b,u)] i>numAt #[(a,t),(b,u)] j)) 1=0:=by simp[argBest,numAt,hba]
    rw[e] at hP';simpa [intItems,hba] using hP'.symm
  r⟨_,H,I.kept hold,?_,q⟩;rw[hv];by_cases hj:b>a
  ·rw[if_pos hj,if_pos hj];!⟨_,rfl⟩
  ·rw[if_neg hj,if_neg hj];!⟨_,rfl⟩
end
abbrev Rep(α:Type):=Hp->α->V->Prop
def rInt:Rep Int:=fun _ i v=>v=.int i
def rTup(K:¨){α:Type}(R:Rep α):Rep (List α):=fun H as v=>∃ p xs,v=.ref p/\SqT K H p xs/\Paired (R H) as xs
def rLst(K:¨){α:Type}(R:Rep α):Rep (List α):=fun H as v=>∃ p xs,v=.ref p/\SqL K H p xs/\Paired (R H) as xs
theorem Paired.get{α β:Type}{F:α->β->Prop}:∀{l₁:List α}{l₂:List β}{i:Nat}{b:β},Paired F l₁ l₂->l₂[i]?=some b->∃ a,l₁[i]?=some a/\F a b
 | _,_,_,_,.nil,e=>by simp at e
 | _,_,0,_,.cons r _,e=>by simp at e;subst e;!⟨_,rfl,r⟩
 | _,_,i+1,b,.cons _ t,e=>by
  o⟨a,h1,h2⟩:=Paired.get (i:=i) (b:=b) t (by u e);!⟨a,by u h1,h2⟩
theorem Paired.getL{α β:Type}{F:α->β->Prop}:∀{l₁:List α}{l₂:List β}{i:Nat}{a:α},Paired F l₁ l₂->l₁[i]?=some a->∃ b,l₂[i]?=some b/\F a b
 | _,_,_,_,.nil,e=>by simp at e
 | _,_,0,_,.cons r _,e=>by simp at e;subst e;!⟨_,rfl,r⟩
 | _,_,i+1,a,.cons _ t,e=>by
  o⟨b,h1,h2⟩:=Paired.getL (i:=i) (a:=a) t (by u e);!⟨b,by u h1,h2⟩
theorem Paired.app{α β:Type}{F:α->β->Prop}:∀{l₁ m₁:List α}{l₂ m₂:List β},Paired F l₁ l₂->Paired F m₁ m₂->Paired F (l₁++m₁) (l₂++m₂)
 | _,_,_,_,.nil,s=>s
 | _,_,_,_,.cons r t,s=>.cons r (Paired.app t s)
theorem Paired.one{α β:Type}{F:α->β->Prop}{a:α}{b:β}(h:F a b):Paired F [a] [b]:=.cons h .nil
theorem Paired.uniq{α β:Type}{F:α->β->Prop}(fn:∀ a a' b,F a b->F a' b->a=a'):∀{l₁ l₁':List α}{l₂:List β},Paired F l₁ l₂->Paired F l₁' l₂->l₁=l₁'
 | _,_,_,.nil,.nil=>rfl
 | _,_,_,.cons r t,.cons r' t'=>by rw[fn _ _ _ r r',Paired.uniq fn t t']
theorem paired_ints{H:Hp}:∀(ns:List Int),Paired (rInt H) ns ⑬
 | []=>.nil
 | _::r=>.cons rfl (paired_ints r)
theorem El{H:Hp}:∀{ns:List Int}{xs:List V},Paired (rInt H) ns xs->xs=ns.map V.int
 | _,_,.nil=>rfl
 | _,_,.cons r t=>by rw[List.map_cons,<- El t];!congrArg (·::_) r
structure Dat(X:Cx){α:Type}[DecidableEq α](n:Nat)(R:Rep α):Prop where
 eq:∀(pins:List ⑥) (s:Shared) (σ:St) (H:Hp) (A:Around) (a b:α) (x y:V) (u v:Value),Inv X pins σ H s->A.units+n<cLine->R H a x->R H b y->RelV x u->RelV y v->SeqAt.EqAt A s u v (decide (a=b))
 fn:∀(pins:List ⑥) (s:Shared) (σ:St) (H:Hp) (a b:α) (x:V),Inv X pins σ H s->R H a x->R H b x->a=b
section
variable{X:Cx}{α:Type}[DecidableEq α]{n:Nat}{R:Rep α}
theorem Fd:Dat X 0 rInt where
 eq:=fun pins s σ H A a b x y u v I hu ha hb ru rv=>by
  cases ha;cases hb;o⟨t,rfl⟩:=ru;o⟨t',rfl⟩:=rv;h e:=SeqAt.EqAt.int_int (A:=A) (s:=s) a t b t';rw[Bool.beq_eq_decide_eq] at e;!e
 fn:=fun pins s σ H a b x I ha hb=>by
  cases ha;!(V.int.inj hb)
theorem HJ{as bs:List α}{m k:Nat}(h1:as.length=m)(h2:bs.length=k):((List.range (min m k)).all (fun j=>decide (as[j]?=bs[j]?))&&m==k)=decide (as=bs):=by
 subst h1;subst h2;by_cases e:as=bs
 ·subst e
  simp
 ·rw[decide_eq_false e]
  cases q:((List.range (min as.length bs.length)).all (fun j=>decide (as[j]?=bs[j]?))&&as.length==bs.length) with
  | false=>rfl
  | true =>
   rw[Bool.and_eq_true] at q;o⟨q1,q2⟩:=q;h hl:as.length=bs.length:=by u q2
   r absurd (List.ext_getElem? fun j=>?_) e;by_cases hj:j<as.length
   ·!of_decide_eq_true (List.all_eq_true.mp q1 j (List.mem_range.mpr ¢))
   ·rw[List.getElem?_eq_none ¢,List.getElem?_eq_none ¢]
theorem RZ{as bs:List α}{m:Nat}(h1:as.length=m)(h2:bs.length=m):((List.range m).all (fun j=>decide (as[j]?=bs[j]?)))=decide (as=bs):=by
 h e:=HJ h1 h2;rw[Nat.min_self,beq_self_eq_true,Bool.and_true] at e;!e
theorem Dat.place(D:Dat X n R){pins:List ⑥}{s:Shared}{σ:St}{H:Hp}{A:Around}(I:Inv X pins σ H s)(hu:A.units+n<cLine){as bs:List α}{xs ys:List V}{its jts:List Value}
  (pa:Paired (R H) as xs) (pb:Paired (R H) bs ys) (ra:Vals xs its) (rb:Vals ys jts):∀(j:Nat) (h1:j<its.toArray.size) (h2:j<jts.toArray.size),SeqAt.EqAt A s its.toArray[j] jts.toArray[j] (decide (as[j]?=bs[j]?)):=by
 intro j h1 h2;rw[┌] at h1 h2;h hx:j<xs.length:=by rw[ra.length];!h1
 h hy:j<ys.length:=by rw[rb.length];!h2
 h ex:xs[j]?=some xs[j]:=± hx;h ey:ys[j]?=some ys[j]:=± hy;o⟨u,hu1,ru⟩:=ra.get ex;o⟨v,hv1,rv⟩:=rb.get ey;o⟨a,ha,qa⟩:=Paired.get pa ex;o⟨b,hb,qb⟩:=Paired.get pb ey;h e1:its.toArray[j]=u:=by
  rw[List.getElem_toArray];rw[± h1] at hu1;!Option.some.inj hu1
 h e2:jts.toArray[j]=v:=by
  rw[List.getElem_toArray];rw[± h2] at hv1;!Option.some.inj hv1
 rw[e1,e2,ha,hb];h e3:decide (some a=some b)=decide (a=b):=by simp
 rw[e3];!D.eq pins s σ H A a b _ _ u v I hu qa qb ru rv
theorem Hu(D:Dat X n R):Dat X (n+1) (rTup X.K R) where
 eq:=fun pins s σ H A as bs x y u v I hu ha hb ru rv=>by
  o⟨p,xs,rfl,hp,pa⟩:=ha;o⟨q,ys,rfl,hq,pb⟩:=hb;cases ru;cases rv;by_cases e:p=q
  ·subst e
   h exy:=I.tuple_inj hp hq;subst exy;h eab:as=bs:=Paired.uniq (fun a a' b h1 h2=>D.fn pins s σ H a a' b I h1 h2) pa pb;subst eab;rw[decide_eq_true rfl];!SeqAt.EqAt.same _
  ·o⟨its,ra,ta,_⟩:=I.tuple hp
   o⟨jts,rb,tb,_⟩:=I.tuple hq;h l1:as.length=its.toArray.size:=by rw[┌,<- ra.length];!┅ pa
   h l2:bs.length=jts.toArray.size:=by rw[┌,<- rb.length];!┅ pb
   h r:=SeqAt.RcAt.tuples (A:=A) (s:=s) (e:=fun j=>decide (as[j]?=bs[j]?)) ta tb ¢ (D.place (A:=A.in1) I (by show A.units+1+n<cLine;w) pa pb ra rb);rw[HJ l1 l2] at r;!.of_refs e r
 fn:=fun pins s σ H as bs x I ha hb=>by
  o⟨p,xs,rfl,hp,pa⟩:=ha;o⟨q,ys,e,hq,pb⟩:=hb;cases e;h exy:=I.tuple_inj hp hq;subst exy;!Paired.uniq (fun a a' b h1 h2=>D.fn pins s σ H a a' b I h1 h2) pa pb
theorem ABp(D:Dat X n R){pins:List ⑥}{s:Shared}{σ:St}{H:Hp}{A:Around}(I:Inv X pins σ H s)(hu:A.units+(n+1)<cLine){p q:Addr}{as bs:List α}{xs ys:List V}
  (hp:SqL X.K H p xs) (hq:SqL X.K H q ys) (pa:Paired (R H) as xs) (pb:Paired (R H) bs ys):SeqAt.RcAt A s (.ref p) (.ref q) (decide (as=bs))/\SeqAt.RcNeAt A s (.ref p) (.ref q) (!decide (as=bs)):=by
 o⟨its,ra,ta,_⟩:=I.list hp;o⟨jts,rb,tb,_⟩:=I.list hq;h l1:as.length=its.toArray.size:=by rw[┌,<- ra.length];!┅ pa
 h l2:bs.length=jts.toArray.size:=by rw[┌,<- rb.length];!┅ pb
 by_cases hs:its.toArray.size=jts.toArray.size
 ·h r:=SeqAt.RcAt.lists (A:=A) (s:=s) (e:=fun j=>decide (as[j]?=bs[j]?)) ta.isList tb.isList hs ¢ (D.place (A:=A.in1) I (by show A.units+1+n<cLine;w) pa pb ra rb)
  h r':=SeqAt.RcNeAt.lists (A:=A) (s:=s) (e:=fun j=>decide (as[j]?=bs[j]?)) ta.isList tb.isList hs ¢ (D.place (A:=A.in1) I (by show A.units+1+n<cLine;w) pa pb ra rb);rw[RZ l1 (l2.trans hs.symm)] at r r';!⟨r,r'⟩
 ·h hb:(its.toArray.size != jts.toArray.size)=true:=by u hs
  h e:as≠bs:=fun e=>hs (by rw[<- l1,<- l2,e]);rw[decide_eq_false e];!⟨SeqAt.RcAt.lists_lengths ta.isList tb.isList hb ¢,SeqAt.RcNeAt.lists_lengths ta.isList tb.isList hb ¢⟩
def rEqL(K:¨){α:Type}[DecidableEq α](R:Rep α):R2:=fun x y H Q=>∃ as bs,rLst K R H as x/\rLst K R H bs y/\Q (.bl (decide (as=bs))) H
theorem Kf(D:Dat X n R)(hu:X.A.units+(n+1)<cLine):OpR X (compareOp .Eq) (rEqL X.K R):=by
 intro pins s σ H x y v u Q I rx ry h;o⟨as,bs,⟨p,xs,rfl,hp,pa⟩,⟨q,ys,rfl,hq,pb⟩,h⟩:=h;cases rx;cases ry;!(ABp D I hu hp hq pa pb).1 X.prog X.w _ _ ⟨.bl _,H,I,rfl,h⟩
open Classical in
noncomputable def isDat(R:Rep α)(H:Hp)(a:α)(u:Value):Bool:=decide (∃ z,RelV z u/\R H a z)
theorem Tp(D:Dat X n R){pins:List ⑥}{s:Shared}{σ:St}{H:Hp}(I:Inv X pins σ H s){a b:α}{z:V}{u:Value}(rz:RelV z u)(hb:R H b z):isDat R H a u=decide (b=a):=by
 unfold isDat;by_cases e:b=a
 ·subst e
  rw[decide_eq_true rfl];!@decide_eq_true _ (Classical.propDecidable _) ⟨z,rz,hb⟩
 ·rw[decide_eq_false e]
  r @decide_eq_false _ (Classical.propDecidable _) ?_;rintro⟨z',rz',h'⟩;h ez:z'=z:=rz'.inj rz;subst ez;!e (D.fn pins s σ H b a z' I hb h')
theorem Qi(D:Dat X n R){pins:List ⑥}{s:Shared}{σ:St}{H:Hp}(I:Inv X pins σ H s){a:α}:∀{as:List α}{xs:List V}{its:List Value},Paired (R H) as xs->Vals xs its->its.any (isDat R H a)=decide (a∈as)
 | _,_,_,.nil,.nil=>by simp
 | _,_,_,.cons (l₁:=as) r t,.cons rv tv=>by
  rw[List.any_cons,Tp D I rv r,Qi D I t tv]
  rename_i b _ _ _ _
  by_cases e:b=a
  ·subst e;simp
  ·h e':¬ a=b:=fun z=>e z.symm
   simp[e,e']
theorem Qh(D:Dat X n R){pins:List ⑥}{s:Shared}{σ:St}{H:Hp}{A:Around}(I:Inv X pins σ H s)(hu:A.units+n<cLine){a:α}{x:V}{v:Value}(rx:RelV x v)(ha:R H a x) :
  ∀{as:List α}{xs:List V}{its:List Value},Paired (R H) as xs->Vals xs its->∀ u∈its,SeqAt.EqAt A s u v (isDat R H a u)
 | _,_,_,.nil,.nil=>fun u hm=>by cases hm
 | _,_,_,.cons r t,.cons rv tv=>fun u hm=>by
  rcases ┃ hm with rfl | hm
  ·rw[Tp D I rv r]
   !D.eq pins s σ H A _ a _ x _ v I hu r ha rv rx
  ·!Qh D I hu rx ha t tv u hm
def rInL(K:¨){α:Type}[DecidableEq α](R:Rep α)(neg:Bool):R2:=fun x y H Q=>∃ a as,R H a x/\(rLst K R H as y\/rTup K R H as y)/\Q (.bl (if neg then !decide (a∈as) else decide (a∈as))) H
theorem AEl(D:Dat X n R)(hu:X.A.units+(n+1)<cLine):OpR X (compareOp .In) (rInL X.K R false):=by
 intro pins s σ H x y v u Q I rx ry h;o⟨a,as,ha,hs,h⟩:=h;h hu1:X.A.in1.units+n<cLine:=by show X.A.units+1+n<cLine;w
 rcases hs with⟨p,xs,rfl,hp,pa⟩ | ⟨p,xs,rfl,hp,pa⟩
 ·cases ry
  o⟨its,r,pl,_⟩:=I.list hp;r SeqAt.in_listAt (isDat R H a) pl.isList (fun w hw=>Qh D I hu1 rx ha pa r w (by u hw)) ⟨.bl _,H,I,rfl,?_⟩;rw[show its.toArray.any (isDat R H a)=its.any (isDat R H a) by simp,Qi D I pa r];!h
 ·cases ry
  o⟨its,r,pl,_⟩:=I.tuple hp;r SeqAt.in_tupleAt (isDat R H a) pl (fun w hw=>Qh D I hu1 rx ha pa r w (by u hw)) ⟨.bl _,H,I,rfl,?_⟩;rw[show its.toArray.any (isDat R H a)=its.any (isDat R H a) by simp,Qi D I pa r];!h
end
def TSm(H H':Hp):Prop:=∀ b u,H b=some u->(∃ xs,u=.tup xs\/∃ o,u=.frz o (.tup xs))->H' b=some u
theorem TSm.trans{H H1 H2:Hp}(a:TSm H H1)(b:TSm H1 H2):TSm H H2:=fun c u h t=>b c u (a c u h t) t
theorem Same.ts{H H':Hp}(e:Same H H'):TSm H H':=fun b u h _=>e b u h
theorem TSm.lst{H:Hp}{l:Addr}{xs:List V}{o:HO}(h:H l=some (.lst xs)):TSm H (upd H l o):=fun b u hb t=>by
 rw[Ag ?_]
 ·!hb
 ·rintro rfl
  rw[h] at hb;cases hb;o⟨ys,e | ⟨o,e⟩⟩:=t
  ·cases e
  ·cases e
theorem TSm.new{H:Hp}{p:Addr}{o:HO}(h:H p=none):TSm H (upd H p o):=fun b u hb _=>by rw[Ag (Ae hb h)];!hb
theorem TSm.seq{K:¨}{H H':Hp}{a:Addr}{xs:List V}(e:TSm H H')(h:SqT K H a xs):SqT K H' a xs:=by
 rcases h with (h | ⟨o,h⟩) | h
 ·!.inl (.inl (e _ _ h ⟨xs,.inl rfl⟩))
 ·!.inl (.inr ⟨o,e _ _ h ⟨xs,.inr ⟨o,rfl⟩⟩⟩)
 ·!.inr h
theorem Paired.imp{α β:Type}{F G:α->β->Prop}(f:∀ a b,F a b->G a b):∀{l₁:List α}{l₂:List β},Paired F l₁ l₂->Paired G l₁ l₂
 | _,_,.nil=>.nil
 | _,_,.cons r t=>.cons (f _ _ r) (Paired.imp f t)
def TRep{α:Type}(R:Rep α):Prop:=∀ H H' a x,TSm H H'->R H a x->R H' a x
theorem Ao:TRep rInt:=fun _ _ _ _ _ h=>h
theorem Ak{K:¨}{α:Type}{R:Rep α}(t:TRep R):TRep (rTup K R):=fun H H' as x e h=>by
 o⟨p,xs,rfl,hp,pa⟩:=h;!⟨p,xs,rfl,e.seq hp,Paired.imp (fun a b=>t H H' a b e) pa⟩
theorem Gs{K:¨}{α:Type}{R:Rep α}(t:TRep R){H H':Hp}{as:List α}{x:V}(e:Same H H')(h:rLst K R H as x):rLst K R H' as x:=by
 o⟨p,xs,rfl,hp,pa⟩:=h;!⟨p,xs,rfl,e.seq hp,Paired.imp (fun a b=>t H H' a b e.ts) pa⟩
theorem Same.new{H:Hp}{p:Addr}(h:H p=none)(o:HO):Same H (upd H p o):=fun b u q=>by rw[Ag (Ae q h)];!q
abbrev rPair(K:¨):Rep ⑤:=rTup K rInt
theorem DQ{K:¨}{H:Hp}{p:Addr}{ns:List Int}(h:H p=some (.tup ⑬)):rPair K H ns (.ref p):=⟨p,_,rfl,SqT.of h,paired_ints ns⟩
theorem Bw{K:¨}{H:Hp}{ns:List Int}{x:V}(h:rPair K H ns x):∃ p,x=.ref p/\SqT K H p ⑬:=by
 o⟨p,xs,rfl,hp,pa⟩:=h;rw[El pa] at hp;!⟨p,rfl,hp⟩
def rSeq(K:¨):Rep ⑤:=fun H t x=>rLst K rInt H t x\/rPair K H t x
theorem RW{K:¨}{H:Hp}{ns:List Int}{x:V}(h:rSeq K H ns x):∃ p,x=.ref p/\(SqL K H p ⑬\/SqT K H p ⑬):=by
 rcases h with⟨p,xs,rfl,hp,pa⟩ | h
 ·rw[El pa] at hp
  !⟨p,rfl,.inl hp⟩
 ·o⟨p,e,hp⟩:=Bw h
  !⟨p,e,.inr hp⟩
section
variable{K:¨}{a D:Addr}{xs:List V}{g:TG}{tc:TT}{te:TE}{R:Hp->Prop}{τ:St}{H:Hp}
abbrev putD(D:Addr)(N:St->Hp->Prop)(te:TE)(τ2:St):Bool->Hp->Prop:=fun b H3=>if b=true then te τ2 H3 fun v H4=>∃ ys,H4 D=some (.lst ys)/\ys.length<sizeLine/\N τ2 (upd H4 D (.lst (ys++[v]))) else N τ2 H3
theorem yesD{N:St->Hp->Prop}(h:te τ H fun v H4=>∃ ys,H4 D=some (.lst ys)/\ys.length<sizeLine/\N τ (upd H4 D (.lst (ys++[v])))):AFI τ H (putD D N te τ):=by
 show putD D N te τ true H;unfold putD;rw[if_pos rfl];!h
theorem yesN{N:St->Hp->Prop}{i:Nat}{x:V}(h:te (τ.set i (some x)) H fun v H4=>∃ ys,H4 D=some (.lst ys)/\ys.length<sizeLine/\N (τ.set i (some x)) (upd H4 D (.lst (ys++[v])))):gName i x τ H fun τ2 H2=>AFI τ2 H2 (putD D N te τ2):=yesD h
theorem Br(Pv:Nat->St->Hp->Prop)(h0:Pv 0 τ H)(hl:∀ i τ H,i<=xs.length->Pv i τ H->SqL K H a xs)
  (hs:∀ i x τ H,xs[i]?=some x->Pv i τ H->g x τ H fun τ2 H2=>tc τ2 H2 (putD D (Pv (i+1)) te τ2)) (hd:∀ τ H,Pv xs.length τ H->R H):Dd (Itl K a) D g tc te R τ H:=by
 r Ht xs.length Pv h0 (fun i τ H hi p=>⟨xs,xs[i],hl i τ H (Nat.le_of_lt hi) p,by simp[hi]⟩) (fun τ H p=>⟨xs,hl _ τ H ② p,Nat.le_refl _⟩) (fun i τ H x H' hi p y=>?_) hd;o⟨e,y⟩:=y;subst e;!hs i x τ _ (y xs (hl i τ _ (Nat.le_of_lt hi) p)) p
theorem Mx(Pv:Nat->St->Hp->Prop)(h0:Pv 0 τ H)(hl:∀ i τ H,i<=xs.length->Pv i τ H->SqT K H a xs)
  (hs:∀ i x τ H,xs[i]?=some x->Pv i τ H->g x τ H fun τ2 H2=>tc τ2 H2 (putD D (Pv (i+1)) te τ2)) (hd:∀ τ H,Pv xs.length τ H->R H):Dd (Itt K a) D g tc te R τ H:=by
 r Ht xs.length Pv h0 (fun i τ H hi p=>⟨xs,xs[i],hl i τ H (Nat.le_of_lt hi) p,by simp[hi]⟩) (fun τ H p=>⟨xs,hl _ τ H ② p,Nat.le_refl _⟩) (fun i τ H x H' hi p y=>?_) hd;o⟨e,y⟩:=y;subst e;!hs i x τ _ (y xs (hl i τ _ (Nat.le_of_lt hi) p)) p
theorem DG{lo:Int}{n:Nat}(Pv:Nat->St->Hp->Prop)(h0:Pv 0 τ H)
  (hs:∀ i τ H,i<n->Pv i τ H->g (.int (lo+i)) τ H fun τ2 H2=>tc τ2 H2 (putD D (Pv (i+1)) te τ2)) (hd:∀ τ H,Pv n τ H->R H):Dd (Itr lo n) D g tc te R τ H:=by
 r Ht n Pv h0 (fun i τ H hi p=>hi) (fun τ H p=>Nat.le_refl _) (fun i τ H x H' hi p y=>?_) hd;o⟨e,y⟩:=y;subst e y;!hs i τ _ hi p
theorem HN{S:Hp->List V->Prop}(Pv:Nat->St->Hp->Prop)(h0:Pv 0 τ H)(hl:∀ i τ H,i<=xs.length->Pv i τ H->S H xs)
  (hs:∀ i x τ H T,xs[i]?=some x->H T=none->Pv i τ H->g (.ref T) τ (upd H T (.tup [.int i,x])) fun τ2 H2=>tc τ2 H2 (putD D (Pv (i+1)) te τ2)) (hd:∀ τ H,Pv xs.length τ H->R H):Dd (Ien S) D g tc te R τ H:=by
 r Ht xs.length Pv h0 (fun i τ H hi p=>⟨xs,xs[i],hl i τ H (Nat.le_of_lt hi) p,by simp[hi]⟩) (fun τ H p=>⟨xs,hl _ τ H ② p,rfl⟩) (fun i τ H x H' hi p y=>?_) hd;o⟨T,z,rfl,hT,rfl,y⟩:=y;!hs i z τ H T (y xs (hl i τ _ (Nat.le_of_lt hi) p)) hT p
end
theorem Cp{A:Around}{k n:Nat}(hr:Room k A)(h:n<=64:=by decide):A.units+n<cLine:=Nat.lt_of_le_of_lt (Nat.add_le_add_left h _) hr.units
section
variable{X:Cx}{K:¨}{pos:Pos}
theorem Gf(hK:X.K=K){es:List Expr}{k:Nat}{t:TGs}{n:Nat}(hc:X.calm=true)(h:PGs X es t)
  (hn:(assignEach es X.env).length=n:=by rfl) (hst:(assignEach es X.env).findIdx? (·.1)=none:=by rfl):PG X (.Tuple es k pos) (gTup K n t):=by subst hK;!AFU hc h hn hst
theorem Ec(hK:X.K=K):OpR X (compareOp .In) (rIn K false):=by subst hK;!Mf
theorem Ma(hK:X.K=K):OpR X (compareOp .NotIn) (rIn K true):=by subst hK;!Pz
theorem ZL(hK:X.K=K)(hc:X.calm=true):CallR X (.builtin "min") (fun xs H Q=>∃ p a b,xs=[.ref p]/\SqT K H p [.int a,.int b]/\Q (.int (if b<a then b else a)) H):=by subst hK;!ABZ hc
theorem Yi(hK:X.K=K)(hc:X.calm=true):CallR X (.builtin "max") (fun xs H Q=>∃ p a b,xs=[.ref p]/\SqT K H p [.int a,.int b]/\Q (.int (if b>a then b else a)) H):=by subst hK;!ACQ hc
theorem Zt(hK:X.K=K):IxR X (rIxL K):=by subst hK;!Bl
theorem QM(hK:X.K=K):IxR X (rIxT K):=by subst hK;!Bo
end
theorem Ej(x:Int):∀(tie:List Int),inV (.int x) (tie.map V.int)=decide (x∈tie)
 | []=>rfl
 | z::r=>by
  h ih:=Ej x r;unfold inV at ih ⊢;rw[List.map_cons,List.any_cons,ih];show ((z==x)||decide (x∈r))=decide (x∈z::r);by_cases e:z=x
  ·subst e;simp
  ·h e':¬ x=z:=fun q=>e q.symm
   simp[e,e']
theorem iteNN{c A B:Prop}{inst:Decidable c}(hc:¬ c)(h:A):if (!decide c)=true then A else B:=by
 rw[decide_eq_false hc];!iteT h
theorem iteNP{c A B:Prop}{inst:Decidable c}(hc:c)(h:B):if (!decide c)=true then A else B:=by
 rw[decide_eq_true hc];!iteF h
theorem iteN{c A B:Prop}{inst:Decidable c}(hc:¬ c)(h:B):if decide c=true then A else B:=by
 rw[decide_eq_false hc];!iteF h
theorem iteP{c A B:Prop}{inst:Decidable c}(hc:c)(h:A):if decide c=true then A else B:=by
 rw[decide_eq_true hc];!iteT h
theorem ABs{ns:List Int}{k:Int}(h0:0<=k)(h:k<(ns.length:Int)):∃ v:Int,atI ⑬ k=some (.int v):=by
 h hk:k.toNat<ns.length:=by w
 h ek:k=((k.toNat:Nat):Int):=by w
 h q:atI ⑬ ((k.toNat:Nat):Int)=some (.int ns[k.toNat]):=Bp (by rw[┉,± hk]<;>rfl);rw[<- ek] at q;!⟨_,q⟩
theorem small{n:Nat}(h:n<=1000):n<=sizeLine:=Nat.le_of_lt (Ax h)
def srt:List Int->List Int
 | [a,b]=>if b<a then [b,a] else [a,b]
 | t=>t
theorem Dq(a b:Int):srt [a,b]=if b<a then [b,a] else [a,b]:=rfl
theorem Xu{a b:Int}{ms:List Int}(h:ms.Perm [a,b])(s:ms.Pairwise (·<=·)):ms=srt [a,b]:=by
 h hl:=h.length_eq
 match ms,hl,h,s with
 | [x,y],_,h,s =>
  have hxy:x<=y:=by u s
  have hx:x∈[a,b]:=h.mem_iff.mp ¥;have hy:y∈[a,b]:=h.mem_iff.mp ¥;have ha:a∈[x,y]:=h.mem_iff.mpr ¥;have hb:b∈[x,y]:=h.mem_iff.mpr ¥;simp only[List.mem_cons,List.not_mem_nil,or_false] at hx hy ha hb;rw[Dq];split
  ·have e1:x=b:=by w
   have e2:y=a:=by w
   rw[e1,e2]
  ·have e1:x=a:=by w
   have e2:y=b:=by w
   rw[e1,e2]
def OkTie(m:Int)(t:List Int):Prop:=∃ a b,t=[a,b]/\0<=a/\a<m/\0<=b/\b<m/\a≠b
structure OkTies(m:Int)(as:List ⑤):Prop where
 ok:∀ t∈as,OkTie m t
 nd:(as.map srt).Nodup
theorem OkTies.take_new{m:Int}{as:List ⑤}{i:Nat}{t:List Int}(h:OkTies m as)(ht:as[i]?=some t):srt t∉(as.take i).map srt:=by
 intro hm;o⟨u,hu,e⟩:=List.mem_map.mp hm;o⟨j,hj,ej⟩:=List.mem_iff_getElem.mp hu;h hji:j<i:=by rw[List.length_take] at hj;w
 h hi:i<as.length:=(━ ht).1;h et:as[i]=t:=(━ ht).2;h eu:as[j]'¢=u:=by rw[<- ej,List.getElem_take]
 h hnd:=h.nd;have:=(List.getElem_inj (h₀:=by rw[─];w) (h₁:=by rw[─];w) hnd (i:=j) (j:=i)).mp (by rw[List.getElem_map,List.getElem_map,et,eu,e]);w
def BX(p:Int):Nat->List ⑤->List Int
 | _,[]=>[]
 | k,t::r=>if p∈t then (k:Int)::BX p (k+1) r else BX p (k+1) r
theorem Ov(p:Int)(t:List Int):∀(k:Nat) (as:List ⑤),BX p k (as++[t])=BX p k as++(if p∈t then [((k+as.length:Nat):Int)] else [])
 | k,[]=>by
  show (if p∈t then (k:Int)::BX p (k+1) [] else BX p (k+1) [])=_;split<;>simp[BX]
 | k,u::r=>by
  h ih:=Ov p t (k+1) r;h e:k+1+r.length=k+(u::r).length:=by simp;w
  rw[e] at ih;show (if p∈u then (k:Int)::BX p (k+1) (r++[t]) else BX p (k+1) (r++[t]))=(if p∈u then (k:Int)::BX p (k+1) r else BX p (k+1) r)++_;rw[ih];split<;>rfl
abbrev hits(p:Int)(as:List ⑤):List Int:=BX p 0 as
theorem NZ{p:Int}{as:List ⑤}{i:Nat}{t:List Int}(h:as[i]?=some t):hits p (as.take (i+1))=hits p (as.take i)++(if p∈t then [(i:Int)] else []):=by
 h hi:i<as.length:=(━ h).1;h e:as.take (i+1)=as.take i++[t]:=by rw[List.take_add_one,h];rfl
 rw[e,hits,Ov];have:0+(as.take i).length=i:=by rw[List.length_take];w
 rw[this]
theorem Ku(p:Int):∀(k:Nat) (as:List ⑤),(BX p k as).length<=as.length
 | _,[]=>Nat.le_refl _
 | k,t::r=>by
  h ih:=Ku p (k+1) r;show (if p∈t then (k:Int)::BX p (k+1) r else BX p (k+1) r).length<=r.length+1;split
  ·simp;!ih
  ·w
section
variable{X:Cx}{K:¨}
theorem max_list(hc:X.calm=true):CallR X (.builtin "max") (fun xs H Q=>∃(p:Addr) (ns:List Int),xs=[.ref p]/\SqL X.K H p ⑬/\0<ns.length/\∀ m,m∈ns->(∀ a∈ns,a<=m)->Q (.int m) H):=by
 intro pins s σ H xs us Q I r h;o⟨p,ns,rfl,hq,hne,q⟩:=h;o⟨u0,rfl,ru⟩:=r.one;cases ru;o⟨its,rv,pl,hz⟩:=I.list hq;h hi:=intsAre_of rv;h hl:=pl.isList;o⟨ys,e⟩:=hi.allInts.items;h hns:ns=ys.toList.map (·.1):=by rw[<- hi.numsOf,<- nums_intItems,<- e]
 h hsz:0<ys.size:=by
  rw[hns,─,┄] at hne;!hne
 rw[e] at hl;r max_intList (I.ok.hd hc) hl hsz fun v h' tk hv hk=>?_;o⟨t,rfl⟩:=intItems_at hv;o⟨h1,h2⟩:=argBest_gt (numAt ys) (ys.size-1);r⟨.int (numAt ys (argBest (fun i j=>decide (numAt ys i>numAt ys j)) (ys.size-1))),H,I.kept hk,⟨t,rfl⟩,q _ ?_ fun a ha=>?_⟩
 ·rw[hns,numAt_eq]
  !getD_mem (by rw[─,┄];w)
 ·rw[hns] at ha
  o⟨j,hj,rfl⟩:=mem_getD ha;rw[─,┄] at hj;rw[<- numAt_eq];!h2 j ¢
end
def upTo(n:Nat)(f:Int->Bool):List Int:=((List.range n).map fun(i:Nat)=>(i:Int)).filter f
theorem Mv(n:Nat)(f:Int->Bool):upTo (n+1) f=upTo n f++(if f n=true then [(n:Int)] else []):=by
 unfold upTo;rw[List.range_succ,List.map_append,List.filter_append,List.map_singleton]
 congr 1
 rw[List.filter_cons];split<;>rfl
theorem ABM(n:Nat)(f:Int->Bool):(upTo n f).length<=n:=by
 unfold upTo;r Nat.le_trans (List.length_filter_le _ _) ?_;simp
theorem Hs{p x:Int}:∀{k:Nat}{as:List ⑤},x∈BX p k as↔∃ i:Nat,∃ t,as[i]?=some t/\p∈t/\x=((k+i:Nat):Int)
 | k,[]=>by simp[BX]
 | k,u::r=>by
  h ih:=@Hs p x (k+1) r;h e:BX p k (u::r)=if p∈u then (k:Int)::BX p (k+1) r else BX p (k+1) r:=rfl
  rw[e];constructor
  ·intro h
   split at h
   ·rename_i hu
    rcases ┃ h with h | h
    ·!⟨0,u,rfl,hu,by u h⟩
    ·o⟨i,t,h1,h2,h3⟩:=ih.mp h
     !⟨i+1,t,by u h1,h2,by rw[h3];congr 1;w⟩
   ·o⟨i,t,h1,h2,h3⟩:=ih.mp h
    !⟨i+1,t,by u h1,h2,by rw[h3];congr 1;w⟩
  ·rintro⟨i,t,h1,h2,h3⟩
   cases i with
   | zero =>
    have:u=t:=by u h1
    subst this;rw[if_pos h2];!List.mem_cons.mpr (.inl (by u h3))
   | succ i =>
    have hm:x∈BX p (k+1) r:=ih.mpr ⟨i,t,by u h1,h2,by rw[h3];congr 1;w⟩;split
    ·!¶ _ hm
    ·!hm
theorem Io(p:Int):∀(k:Nat) (as:List ⑤),(BX p k as).Pairwise (· < ·)
 | _,[]=>List.Pairwise.nil
 | k,u::r=>by
  h ih:=Io p (k+1) r;h e:BX p k (u::r)=if p∈u then (k:Int)::BX p (k+1) r else BX p (k+1) r:=rfl
  rw[e];split
  ·r List.Pairwise.cons (fun x hx=>?_) ih
   o⟨i,t,_,_,h3⟩:=Hs.mp hx;rw[h3];w
  ·!ih
theorem Qw:∀{ns:List Int} (h:ns≠[]),ns.Pairwise (· < ·)->∀ x∈ns,x<=ns.getLast h
 | [],h,_,_,_=>absurd rfl h
 | [a],_,_,x,hx=>by
  have:x=a:=by u hx
  subst this;!Int.le_refl _
 | a::b::r,_,pw,x,hx=>by
  h h2:=List.pairwise_cons.mp pw;h e:(a::b::r).getLast ¥=(b::r).getLast ¥:=by simp
  rw[e];h l:=Qw (ns:=b::r) ¥ h2.2;rcases ┃ hx with hx | hx
  ·subst hx
   h h3:=h2.1 b ¥;h h4:=l b ¥;w
  ·!l x hx
structure CompOkC(osc sc:Scope):Prop where
 kind:sc.kind=.function
 loc:∀ y∈sc.names,y.2=.local->sc.names.lookup y.1=some .local
 free:∀ y∈sc.names,y.2=.free->osc.names.lookup y.1=some .cell\/osc.names.lookup y.1=some .free
 one:∀ y∈sc.names,y.2=.free->(y.1,NameKind.cell)∉sc.names
section
variable{X:Cx}{pins:List ⑥}{σ:St}{H:Hp}{s:Shared}{tg elt iter:Expr}{ifs:List Expr}{scope:Scope}{pos:Pos}{own fr:List Str}{ix:List Nat}{g:TG}{tc:TT}{te:TE}{it:Addr}{fp:List Addr}
 {tn:Nat->Heap->Prop}{J:It}
end
end L2
end
section
namespace L2
def Cl(S:Int->Prop)(es:List ⑤):Prop:=∀ e∈es,∀ x∈e,∀ y∈e,S x->S y
def gh(h:List Int)(p:Int):Int:=h.getD p.toNat 0
structure Heads(n:Nat)(es:List ⑤)(h:List Int):Prop where
 len:h.length=n
 le:∀ p:Int,0<=p->p<n->0<=gh h p/\gh h p<=p
 idem:∀ p:Int,0<=p->p<n->gh h (gh h p)=gh h p
 edge:∀ e∈es,∀ x∈e,∀ y∈e,gh h x=gh h y
 reach:∀ S:Int->Prop,Cl S es->∀ p q:Int,0<=p->p<n->0<=q->q<n->gh h p=gh h q->S p->S q
abbrev below(n:Nat):List Int:=(List.range n).map fun(i:Nat)=>(i:Int)
structure Spr(n:Nat)(h:List Int)(p:Int)(fs:List Int):Prop where
 has:p∈fs
 nd:fs.Nodup
 all:∀ q∈fs,(0<=q/\q<n)/\gh h q=gh h p
end L2
end
section
namespace L2
open PySem PySem.Spec PyProof.Rows
theorem Ju:∀{xs:List V}{us:List Value},xs.length=us.length->(∀(i:Nat) (x:V) (u:Value),xs[i]?=some x->us[i]?=some u->RelV x u)->Vals xs us
 | [],[],_,_=>.nil
 | [],_::_,h,_=>by simp at h
 | _::_,[],h,_=>by simp at h
 | x::xs,u::us,h,f=>.cons (f 0 x u rfl rfl) (Ju (by u h) fun i y v h1 h2=>f (i+1) y v (by u h1) (by u h2))
section
variable{X:Cx}
theorem JW:CallR X (.type "range") (fun xs H Q=>∃ j,xs=[.int j]/\∀ r,H r=none->Q (.ref r) (upd H r (.rng 0 j))):=by
 intro pins s σ H xs us Q I r h;o⟨j,rfl,q⟩:=h;o⟨u,rfl,t,rfl⟩:=r.one;r call_range_1 ?_;h hn:H ¸=none:=I.hok.fresh ②;!⟨.ref ¸,_,I.laid (a:=¸) (o:=.rng 0 j) (fun b u e=>° _ e) ② ⟨_,_,_,¿ _ rfl⟩,rfl,q _ hn⟩
theorem Ls(hc:X.calm=true):CallR X (.type "list") (fun xs H Q=>∃ r j,xs=[.ref r]/\H r=some (.rng 0 j)/\0<=j/\j<=1000/\∀ l,H l=none->Q (.ref l) (upd H l (.lst ((below j.toNat).map V.int)))):=by
 intro pins s σ H xs us Q I rr h;o⟨r,j,rfl,hr,j0,j1,q⟩:=h;o⟨u,rfl,ru⟩:=rr.one;cases ru;o⟨t1,t2,t3,e⟩:=I.hok r _ hr;h hn:H ¸=none:=I.hok.fresh ②;r call_list_range (n:=j.toNat) (I.ok.hd hc) e (small_one ¢ ¢ ¢ ¢) (by rw[rangeSize_one];split<;>w) ¢ fun h' tk acc' c' hk hS' hacc=>?_;r⟨.ref ¸,_,I.laid (a:=¸) (o:=.lst ((below j.toNat).map V.int)) hk ② ⟨?_,acc'.toList,c',?_,by u hS'⟩,rfl,q _ hn⟩
 ·rw[─,─,List.length_range]
  !small ¢
 ·r Ju (by simp[hacc.1]) fun i x u h1 h2=>?_
  h h2':acc'[i]?=some u:=by u h2
  o⟨t,rfl⟩:=hacc.2 i u h2';h hi:i<j.toNat:=by
   have:=(Array.getElem?_eq_some_iff.mp h2').1;rw[hacc.1] at this;!this
  rw[┉,┉,List.getElem?_range hi] at h1;h ex:x=.int (i:Int):=(Option.some.inj h1).symm;subst ex;!⟨t,by rw[Int.mul_one,Int.zero_add]⟩
end
end L2
end
section
namespace PySem
def Ctx0(o:Obj):Prop:=∃ vs,o.data=.fields vs/\vs[2]?=some .none
def Ctx2(h:Heap)(e:Addr):Prop:=∃ o,h.get? e=some o/\Ctx0 o
end PySem
end
section
namespace L2
open PySem PySem.Spec PyProof.Rows
structure Fly(P:Program)(w:World)(outer:List Env)(H H':Hp)(s s':Shared)(a:Addr)(cls:Value):Prop where
 os:s'.os=s.os
 bare:AllBare s'.gens
 un:Un (frs outer) [] H H' s.heap s'.heap
 new:H' a=none
 ctx:Ctx2 s'.heap a
 fly:∃ B a0,Heap.FlyingW B outer a cls a0 s'.heap/\HOk P w H' B/\∀ b o',(∃ o,s.heap.get? b=some o)->s'.heap.get? b=some o'->b∉frs outer->B.get? b=some o'
structure XSub(K:¨)(C D:Addr):Prop where
 ty:PySem.W.typeIn K (.ref D)=some (.type "type")
 cl:(PySem.W.clsIn K D).isSome=true
 ex:PySem.W.subIn K (.ref D) (.type "BaseException")=some true
 sub:PySem.W.subIn K (.ref C) (.ref D)=some true
section
variable{X:Cx}{tg:Expr}
def AGZ(K:¨)(tl:TE):TI:=fun σ H R=>tl σ H fun x H1=>∃ a,x=.ref a/\(((∃ xs,SqL K H1 a xs)/\R (Itl K a) H1)\/((∃ xs,SqT K H1 a xs)/\R (Itt K a) H1))
theorem VP{l:Expr}{tl:TE}(hl:PE X l tl):PI X tg l (AGZ X.K tl):=by
 intro pins s σ H R I h;r thn (hl pins s σ H _ I h) fun v s1 ⟨x,H1,I1,r1,q1⟩=>?_;o⟨a,e,q1⟩:=q1;subst e;cases r1;rcases q1 with⟨⟨xs,hq⟩,q⟩ | ⟨⟨xs,hq⟩,q⟩
 ·o⟨its,rv,p,hz⟩:=I1.list hq
  r wpAny_pyIter_list p.isList ?_;r⟨s1.heap.objs.size,[s1.heap.objs.size],_,_,H1,rfl,I1.kept (t':=s1.toks) fun b o e=>° _ e,Nh a _,⟨_,¿ _ rfl,rfl,rfl⟩,fun b hb=>?_,q⟩;h e:b=s1.heap.objs.size:=by u hb
  subst e;!I1.fpOk ② (I1.hok.fresh ②)
 ·o⟨its,rv,p,hz⟩:=I1.tuple hq
  r wpAny_pyIter_tuple (show s1.heap.IsTuple a its.toArray from p) ?_;r⟨s1.heap.objs.size,[s1.heap.objs.size],_,_,H1,rfl,I1.kept (t':=s1.toks) fun b o e=>° _ e,Jw a _,⟨_,¿ _ rfl,rfl,rfl⟩,fun b hb=>?_,q⟩;h e:b=s1.heap.objs.size:=by u hb
  subst e;!I1.fpOk ② (I1.hok.fresh ②)
theorem AFW{K:¨}{H:Hp}{a:Addr}{xs:List V}{R:It->Hp->Prop}(hS:SqL K H a xs\/SqT K H a xs)(h1:SqL K H a xs->R (Itl K a) H)(h2:SqT K H a xs->R (Itt K a) H) :
  ((∃ xs,SqL K H a xs)/\R (Itl K a) H)\/((∃ xs,SqT K H a xs)/\R (Itt K a) H):=hS.elim (fun z=>.inl ⟨⟨_,z⟩,h1 z⟩) fun z=>.inr ⟨⟨_,z⟩,h2 z⟩
end
end L2
end
section
namespace L2
open PySem PySem.Spec PyProof.Rows PySem.W
structure XCl(K:Frag)(C:Addr):Prop where
 ga:findIn K (.ref C) "__getattribute__" = some (some (.builtin "BaseException.__getattribute__"))
 gt:findIn K (.ref C) "__getattr__" = some none
 cl:findIn K (.ref C) "__class__" = some (some (.builtin "object.__class__"))
 ob:mroIn K C (.type "object")=some true
 be:mroIn K C (.type "BaseException")=some true
 is:(clsIn K C).isSome=true
section
variable{prog:Program}{w:World}{A:Around}{E:Value->Shared->Prop}{K:Frag}{s:Shared}{a C:Addr}{oe:Obj}{h:Heap}{g:Array GenState}{d:Drawn}{t:Nat}{os:OsState}
structure XAt(h:Heap)(a:Addr)(oe:Obj)(C:Addr):Prop where
 at_:h.get? a=some oe
 cls:oe.cls=.ref C
end
end L2
namespace L2
open PySem PySem.Spec PyProof.Rows
abbrev loopR(g:TG)(tb:TS)(D:Ends)(σ:St)(J:It)(H1:Hp):Prop:=∃ W:Nat->Nat->St->Hp->Prop,(∃ m,W 0 m σ H1)/\∀ i m σ H,W i m σ H ->
 (J.stop i H/\D.nx σ H)\/(J.go i H/\∃ N:St->Hp->Prop,(∀ σ' H',N σ' H'->∃ m',m'<m/\W (i+1) m' σ' H')/\∀ x H',J.yld i H x H'->g x σ H' fun σ2 H2=>tb {D with nx:=N,ct:=N,bk:=D.nx} σ2 H2)
theorem Xh{K:¨}{a:Addr}{xs:List V}{g:TG}{tb:TS}{D:Ends}{σ:St}{H0 H:Hp}(hS:SqL K H0 a xs\/SqT K H0 a xs)(Pv:Nat->St->Hp->Prop)(h0:Pv 0 σ H)(hl:∀ i σ H',i<=xs.length->Pv i σ H'->Same H0 H')
  (hs:∀ i x σ H,xs[i]?=some x->Pv i σ H->g x σ H fun σ2 H2=>tb {D with nx:=Pv (i+1),ct:=Pv (i+1),bk:=D.nx} σ2 H2) (hd:∀ σ H,Pv xs.length σ H->D.nx σ H) :
  ((∃ xs,SqL K H a xs)/\loopR g tb D σ (Itl K a) H)\/((∃ xs,SqT K H a xs)/\loopR g tb D σ (Itt K a) H) :=
 hS.elim (fun z=>.inl ⟨⟨_,(hl 0 σ H (Nat.zero_le _) h0).seq z⟩,Ed Pv h0 (fun i σ H2 hi p=>(hl i σ H2 hi p).seq z) hs hd⟩) fun z=>.inr ⟨⟨_,(hl 0 σ H (Nat.zero_le _) h0).ts.seq z⟩,ADV Pv h0 (fun i σ H2 hi p=>(hl i σ H2 hi p).ts.seq z) hs hd⟩
theorem Mr{K:¨}{a D:Addr}{xs:List V}{g:TG}{tc:TT}{te:TE}{R:Hp->Prop}{τ:St}{H0 H:Hp}(hS:SqL K H0 a xs\/SqT K H0 a xs)(Pv:Nat->St->Hp->Prop)(h0:Pv 0 τ H)(hl:∀ i τ H',i<=xs.length->Pv i τ H'->Same H0 H')
  (hs:∀ i x τ H,xs[i]?=some x->Pv i τ H->g x τ H fun τ2 H2=>tc τ2 H2 (putD D (Pv (i+1)) te τ2)) (hd:∀ τ H,Pv xs.length τ H->R H) :
  (SqL K H0 a xs->Dd (Itl K a) D g tc te R τ H)/\(SqT K H0 a xs->Dd (Itt K a) D g tc te R τ H) :=
 ⟨fun z=>Br Pv h0 (fun i σ H2 hi p=>(hl i σ H2 hi p).seq z) hs hd,fun z=>Mx Pv h0 (fun i σ H2 hi p=>(hl i σ H2 hi p).ts.seq z) hs hd⟩
section
variable{X:Cx}{st:Stmt}{rest:List Stmt}{t u:TS}
def AGY(t u:TS):TS:=fun D σ H=>∃ M:St->Hp->Prop,t {D with nx:=M} σ H/\∀ σ' H',M σ' H'->u D σ' H'
theorem Wx(h1:PS X st t)(h2:PSs X rest u):PSs X (st::rest) (AGY t u):=by
 intro pins s σ H D I h;o⟨M,ha,hb⟩:=h;r wpAny_execs_cons (thn (h1 pins s σ H {D with nx:=M} I ha) fun f s1 q=>?_);cases f with
 | next =>
  o⟨σ',H',I',q⟩:=q;!h2 pins s1 σ' H' D I' (hb _ _ q)
 | ret v=>!q
 | brk=>!q
 | cont=>!q
theorem Kq{K:¨}(hK:X.K=K):CallR X (.type "tuple") (fun xs H Q=>∃ p ys,xs=[.ref p]/\((SqL K H p ys/\∀ l,H l=none->Q (.ref l) (upd H l (.tup ys)))\/(SqT K H p ys/\Q (.ref p) H))):=by subst hK;!Bg
end
theorem Xz{K:¨}{a:Addr}{xs:List V}{g:TG}{tc:TT}{te:TE}{R:Addr->Hp->Prop}{τ:St}{H:Hp}(hS:SqL K H a xs\/SqT K H a xs)
  (h:∀ D,H D=none->∃ Pv:Nat->St->Hp->Prop,Pv 0 τ (upd H D (.lst []))/\(∀ i τ H',i<=xs.length->Pv i τ H'->Same H H') /\
   (∀ i x τ H,xs[i]?=some x->Pv i τ H->g x τ H fun τ2 H2=>tc τ2 H2 (putD D (Pv (i+1)) te τ2))/\(∀ τ H,Pv xs.length τ H->R D H)) :
  ((∃ xs,SqL K H a xs)/\∀ D,H D=none->Dd (Itl K a) D g tc te (R D) τ (upd H D (.lst [])))\/((∃ xs,SqT K H a xs)/\∀ D,H D=none->Dd (Itt K a) D g tc te (R D) τ (upd H D (.lst []))) :=
 AFW (R:=fun J H=>∀ D,H D=none->Dd J D g tc te (R D) τ (upd H D (.lst []))) hS
  (fun z D hD=>by o⟨Pv,a,b,c,d⟩:=h D hD;!(Mr hS Pv a b c d).1 z)
  (fun z D hD=>by o⟨Pv,a,b,c,d⟩:=h D hD;!(Mr hS Pv a b c d).2 z)
end L2
end
section
namespace L2
open PySem PySem.Spec PyProof.Rows PySem.W
section
variable{X:Cx}
theorem Vals.app{xs ys:List V}{us vs:List Value}(h:Vals xs us)(k:Vals ys vs):Vals (xs++ys) (us++vs):=by
 induction h with
 | nil=>!k
 | cons r t ih=>!.cons r ih
def rAddL(K:¨):R2:=fun x y H Q=>∃ a b xs ys,x=.ref a/\y=.ref b/\SqL K H a xs/\SqL K H b ys/\xs.length+ys.length<=sizeLine/\∀ p,H p=none->Q (.ref p) (upd H p (.lst (xs++ys)))
theorem Wq:OpR X (binaryOp .Add) (rAddL X.K):=by
 intro pins s σ H x y v u Q I rx ry h;o⟨a,b,xs,ys,rfl,rfl,ha,hb,hz,q⟩:=h;cases rx;cases ry;o⟨vs,r1,p1,_⟩:=I.list ha;o⟨ws,r2,p2,_⟩:=I.list hb;h hl:=p1.isList;h hb':=p2.isList;o⟨⟨cls,dd,data,sl⟩,ho,hc,n,hd⟩:=id hl;o⟨⟨cls2,dd2,data2,sl2⟩,ho2,hc2,n2,hd2⟩:=id hb';simp only at hc hd hc2 hd2;subst hc hd hc2 hd2;h e:vs.toArray++ws.toArray=(vs++ws).toArray:=by simp
 h l1:=r1.length;h l2:=r2.length;r concat_meets ⟨_,ho,rfl⟩ ⟨_,ho2,rfl⟩ noFill_list_add seq_list_add PySem.F.slot_list_add PySem.F.entry_list_add (PySem.F.args_list_add_2 _ _) (list_addW a b vs.toArray ws.toArray n n2 dd dd2 sl sl2 (by rw[┌,┌];w)) ⟨ho,ho2,?_⟩;rw[e];r⟨.ref ¸,_,I.laid (t':=s.toks) (o:=.lst (xs++ys)) (fun b ob q=>° _ q) ② ?_,rfl,q _ (I.hok.fresh ②)⟩;!⟨by rw[│];!hz,_,0,Vals.app r1 r2,¿ _ rfl⟩
structure Own(K:Frag)(C:Addr):Prop where
 ha:findIn K (.ref C) "__class__" = some (some (.builtin "object.__class__"))
 hn:specialIn K (.builtin "object.__class__") "__get__" = some (some (.builtin "getset_descriptor.__get__"))
 tk:takesIn K (.builtin "object.__class__")=some true
 hm:mroIn K C (.type "object")=some true
 is:kitOne K (.ref C) (.ref C)=some true
theorem ADN{C:Addr}(c:Cls X.K C)(O:Own X.K C):CallR X (.builtin "isinstance") (fun xs H Q=>∃ p dx fs,xs=[.ref p,.ref C]/\H p=some (.ins C dx fs)/\Q (.bl true) H):=by
 intro pins s σ H xs us Q I r h;o⟨p,dx,fs,rfl,hq,q⟩:=h;o⟨u,v,rfl,ru,rv⟩:=r.two;cases ru;cases rv;o⟨mA,M,_,_,_,_⟩:=Jl I.hok hq;o⟨od,J,_⟩:=M.look;h nl:(Value.ref p)≠.builtin "__main__.__loader__#opaque":=by intro z;cases z
 !kia_one (kitx_own (c.get "__class__") c.hd O.ha O.hn O.tk O.hm) I.kIn J O.is nl fun tk=>⟨.bl true,H,I.tok _,rfl,q⟩
end
end L2
end
section
namespace L2
open PySem PySem.Spec PyProof.Rows
open PySem.W
section
variable{X:Cx}{C:Addr}{x:Str}{p pos:Pos}
def AFh(C:Addr):TE:=fun _ H Q=>∀ y dx,H y=none->H dx=none->dx≠y->Q (.ref y) (upd (upd H dx (.own y)) y (.ins C dx []))
theorem ADZ(mk:makesIn X.K C=true)(hi:findIn X.K (.ref C) "__init__" = some (some (.builtin "object.__init__")))(kp:keepIn X.K (.ref C)=true)(hg:Gl X x)(hm:X.mg x=some (.ref C))
  (hdb:(x==("__debug__" : Str))=false:=by decide):PE X (.Call (.Name x p) [] [] pos) (AFh C):=by
 intro pins s σ H Q I h;r wpAny_Call_Name_kw (Jq I hg hm ?_ hdb);r PySem.W.callWith_K0 I.kIn kp (wpAny_call ?_);h hq:=h (¸+1) ¸ (I.hok.fresh (Nat.le_succ _)) (I.hok.fresh ②) (Nat.ne_of_lt (Nat.lt_succ_self _));h I2:=Inv.made (C:=C) I;r ZJ I.kIn mk hi (fun self=>Looks.of_pure (oi_bind self)) ?_;h Y:=makes_of (M:=model X.prog X.w) I.kIn mk;h e2:((s.heap.push emptyDict).push (instObj C ¸)).get? (¸+1)=some (instObj C ¸):=by
  have:=¿ (s.heap.push emptyDict) (o:=instObj C ¸) rfl
  rwa [Heap.size_push] at this
 h t1:Looks ③ ((s.heap.push emptyDict).push (instObj C ¸)) (typeOf (.ref (¸+1))) (.ref C):=(Looks.ld e2).andThen .now;h t2:Looks ③ ((s.heap.push emptyDict).push (instObj C ¸)) (isInstance (.ref (¸+1)) (.type "object")) true:=t1.andThen (Y.top.keeps fun b o e=>° _ (° _ e));r codeAny_call_builtin oi_plain entry_oi (@check_slot ③ _ _ _ "object.__init__" "object" "__init__" (.ref (¸+1)) [] [] _ oi_kind oi_split t2 (oi_args (.ref (¸+1))) ?_);rw[oi_run];!wpAny_pure (And.intro rfl ⟨.ref (¸+1),_,I2,rfl,hq⟩)
end
end L2
end
section
namespace L2
open PySem PySem.Spec PyProof.Rows
section
variable{κ:Type}[DecidableEq κ]
def valV(kvs:List (κ×V))(k:κ):Option V:=(kvs.find? fun kv=>decide (kv.1=k)).map (·.2)
def putK(kvs:List (κ×V))(k:κ)(v:V):List (κ×V) :=
 if (kvs.any fun kv=>decide (kv.1=k))=true then kvs.map (fun kv=>if kv.1=k then (kv.1,v) else kv) else kvs++[(k,v)]
theorem CT{p:κ×V}{r:List (κ×V)}{k:κ}(e:p.1=k):valV (p::r) k=some p.2:=by simp[valV,List.find?_cons,e]
theorem CQ{p:κ×V}{r:List (κ×V)}{k:κ}(e:¬ p.1=k):valV (p::r) k=valV r k:=by simp[valV,List.find?_cons,e]
theorem Gb(k:κ):∀ kvs:List (κ×V),(kvs.any fun kv=>decide (kv.1=k))=(valV kvs k).isSome
 | []=>rfl
 | p::r=>by
  rw[List.any_cons];by_cases e:p.1=k
  ·simp only[CT e,decide_eq_true e,Bool.true_or,Option.isSome_some]
  ·rw[CQ e,decide_eq_false e,Bool.false_or];!Gb k r
theorem Rx(k j:κ)(y:V):∀ kvs:List (κ×V),valV (kvs.map fun kv=>if kv.1=k then (kv.1,y) else kv) j=(valV kvs j).map fun x=>if j=k then y else x
 | []=>rfl
 | p::r=>by
  h ih:=Rx k j y r;rw[List.map_cons];by_cases h:p.1=k
  ·rw[if_pos h]
   by_cases e:p.1=j
   ·rw[CT (p:=(p.1,y)) e,CT e,Option.map_some,if_pos (e.symm.trans h)]
   ·rw[CQ (p:=(p.1,y)) e,CQ e,ih]
  ·rw[if_neg h]
   by_cases e:p.1=j
   ·rw[CT (p:=p) e,CT e,Option.map_some,if_neg (fun z=>h (e.trans z))]
   ·rw[CQ (p:=p) e,CQ e,ih]
theorem Nu(k j:κ)(y:V):∀ kvs:List (κ×V),valV kvs k=none->valV (kvs++[(k,y)]) j=if j=k then some y else valV kvs j
 | [],_=>by
  by_cases e:k=j
  ·rw[if_pos e.symm];!CT (p:=(k,y)) e
  ·rw[if_neg (fun z=>e z.symm)];!CQ (p:=(k,y)) e
 | p::r,hn=>by
  rw[List.cons_append];h hk:¬ p.1=k:=fun z=>by rw[CT z] at hn;cases hn
  rw[CQ hk] at hn;h ih:=Nu k j y r hn;by_cases e:p.1=j
  ·rw[CT e,CT e,if_neg (fun z=>hk (e.trans z))]
  ·rw[CQ e,CQ e,ih]
theorem Ea(kvs:List (κ×V))(k j:κ)(y:V):valV (putK kvs k y) j=if j=k then some y else valV kvs j:=by
 unfold putK;by_cases a:(kvs.any fun kv=>decide (kv.1=k))=true
 ·rw[if_pos a,Rx]
  rw[Gb] at a;by_cases e:j=k
  ·o⟨x,hx⟩:=Option.isSome_iff_exists.mp a
   rw[if_pos e,e,hx,Option.map_some,if_pos rfl]
  ·rw[if_neg e]
   cases valV kvs j with
   | none=>rfl
   | some x=>rw[Option.map_some,if_neg e]
 ·rw[if_neg a]
  r Nu k j y kvs ?_;rw[Gb] at a;cases q:valV kvs k with
  | none=>rfl
  | some x=>rw[q] at a;!(a rfl).elim
theorem CV(kvs:List (κ×V))(k:κ)(v:V):(putK kvs k v).length<=kvs.length+1:=by
 unfold putK;split
 ·rw[─];w
 ·rw[│,List.length_cons,List.length_nil];w
theorem Ii{kvs:List (κ×V)}{k:κ}(v:V)(h:valV kvs k=none):putK kvs k v=kvs++[(k,v)]:=by
 unfold putK;rw[Gb,h];!if_neg ¤
theorem RelO.isSome_eq{o:Option V}{u:Option Value}(r:RelO o u):o.isSome=u.isSome:=by
 cases o with
 | none=>cases u with
  | none=>rfl
  | some _=>!(show False from r).elim
 | some _=>cases u with
  | none=>!(show False from r).elim
  | some _=>rfl
theorem RelO.getD{o:Option V}{u:Option Value}{d:V}{d':Value}(r:RelO o u)(rd:RelV d d'):RelV (o.getD d) (u.getD d'):=by
 cases o with
 | none=>cases u with
  | none=>!rd
  | some _=>!(show False from r).elim
 | some _=>cases u with
  | none=>!(show False from r).elim
  | some _=>!r
theorem KV.val{kvs:List (κ×V)}{vs:List (κ×Value)}(r:KV kvs vs)(k:κ):RelO (valV kvs k) (valueAt vs k):=by
 unfold KV at r
 induction r with
 | nil=>!True.intro
 | @cons p q ps qs h t ih =>
  o⟨h1,h2⟩:=h;by_cases e:p.1=k
  ·h e':q.1=k:=h1.symm.trans e
   h b:valueAt (q::qs) k=some q.2:=by simp[valueAt,List.find?_cons,e']
   rw[CT e,b];!h2
  ·h e':¬ q.1=k:=fun z=>e (h1.trans z)
   h b:valueAt (q::qs) k=valueAt qs k:=by simp[valueAt,List.find?_cons,e']
   rw[CQ e,b];!ih
theorem KV.any{kvs:List (κ×V)}{vs:List (κ×Value)}(r:KV kvs vs)(k:κ):(kvs.any fun kv=>decide (kv.1=k))=vs.any fun kv=>decide (kv.1=k):=by
 unfold KV at r
 induction r with
 | nil=>rfl
 | cons h t ih=>rw[List.any_cons,List.any_cons,ih,h.1]
theorem KV.repl{kvs:List (κ×V)}{vs:List (κ×Value)}(r:KV kvs vs)(k:κ){y:V}{u:Value}(ry:RelV y u) :
  KV (kvs.map fun kv=>if kv.1=k then (kv.1,y) else kv) (vs.map fun kv=>if kv.1=k then (kv.1,u) else kv):=by
 unfold KV at r ⊢
 induction r with
 | nil=>!.nil
 | @cons p q ps qs h t ih =>
  rw[List.map_cons,List.map_cons];r .cons ?_ ih;o⟨h1,h2⟩:=h;by_cases e:p.1=k
  ·rw[if_pos e,if_pos (h1.symm.trans e)];!⟨h1,ry⟩
  ·rw[if_neg e,if_neg (fun z=>e (h1.trans z))];!⟨h1,h2⟩
theorem KV.put{kvs:List (κ×V)}{vs:List (κ×Value)}(r:KV kvs vs)(k:κ){y:V}{u:Value}(ry:RelV y u):KV (putK kvs k y) (stored vs k u):=by
 unfold putK stored;rw[r.any k];by_cases e:(vs.any fun kv=>decide (kv.1=k))=true
 ·rw[if_pos e,if_pos e];!r.repl k ry
 ·rw[if_neg e,if_neg e];!Paired.snoc r ⟨rfl,ry⟩
theorem KV.length{kvs:List (κ×V)}{vs:List (κ×Value)}(r:KV kvs vs):kvs.length=vs.length:=┅ r
end
theorem NQ{P:Program}{w:World}{k:Key}{u:Value}(r:RelV (kV k) u):(CG P w).is k u=true:=by
 cases k with
 | inl i=>o⟨t,e⟩:=(show ∃ t,u=Value.int i t from r);subst e;!Ss P w i t
 | inr x=>o⟨t,e⟩:=(show ∃ t,u=Value.str x t from r);subst e;!Rg P w x t
theorem Ot{P:Program}{w:World}:∀{ks:List Key}{us:List Value},Vals (ks.map kV) us->ItemsAre (CG P w) ks us
 | [],_,r=>by rw[List.map_nil] at r;cases r;!.nil
 | k::ks,_,r=>by
  rw[List.map_cons] at r;cases r with
  | cons h t=>!.cons (NQ h) (Ot t)
abbrev KT(H:Hp):List (List Key×V)->List (List Key×Addr×Value)->Prop:=Paired fun p q=>p.1=q.1/\H q.2.1=some (.tup (p.1.map kV))/\RelV p.2 q.2.2
theorem KT.val{H:Hp}{kvs:List (List Key×V)}{xs:List (List Key×Addr×Value)}(r:KT H kvs xs)(k:List Key):RelO (valV kvs k) ((atKey xs k).map (·.2)):=by
 induction r with
 | nil=>!True.intro
 | @cons p q ps qs h t ih =>
  o⟨h1,_,h2⟩:=h;by_cases e:p.1=k
  ·h e':q.1=k:=h1.symm.trans e
   h b:atKey (q::qs) k=some q.2:=by simp[atKey,List.find?_cons,e']
   rw[CT e,b];!h2
  ·h e':¬ q.1=k:=fun z=>e (h1.trans z)
   h b:atKey (q::qs) k=atKey qs k:=by simp[atKey,List.find?_cons,e']
   rw[CQ e,b];!ih
theorem KT.repl{H:Hp}{kvs:List (List Key×V)}{xs:List (List Key×Addr×Value)}(r:KT H kvs xs)(k:List Key){y:V}{u:Value}(ry:RelV y u) :
  KT H (kvs.map fun kv=>if kv.1=k then (kv.1,y) else kv) (xs.map (putAt k u)):=by
 induction r with
 | nil=>!.nil
 | @cons p q ps qs h t ih =>
  rw[List.map_cons,List.map_cons];r .cons ?_ ih;o⟨h1,h2,h3⟩:=h;unfold putAt;by_cases e:p.1=k
  ·rw[if_pos e,if_pos (h1.symm.trans e)];!⟨h1,h2,ry⟩
  ·rw[if_neg e,if_neg (fun z=>e (h1.trans z))];!⟨h1,h2,h3⟩
theorem KT.put{H:Hp}{kvs:List (List Key×V)}{xs:List (List Key×Addr×Value)}(r:KT H kvs xs)(k:List Key){b:Addr}{y:V}{u:Value}(hb:H b=some (.tup (k.map kV)))(ry:RelV y u) :
  KT H (putK kvs k y) (storedH xs k b u):=by
 h e:(kvs.any fun kv=>decide (kv.1=k))=(atKey xs k).isSome:=by
  rw[Gb,(r.val k).isSome_eq,Option.isSome_map]
 unfold putK storedH;rw[e];by_cases q:(atKey xs k).isSome=true
 ·rw[if_pos q,if_pos q];!r.repl k ry
 ·rw[if_neg q,if_neg q];!Paired.snoc r ⟨rfl,hb,ry⟩
theorem KT.keeps{H H':Hp}{kvs:List (List Key×V)}{xs:List (List Key×Addr×Value)}(r:KT H kvs xs)(ht:∀ b ys,H b=some (.tup ys)->H' b=some (.tup ys)):KT H' kvs xs :=
 Paired.mapP r fun _ _ z=>⟨z.1,ht _ _ z.2.1,z.2.2⟩
section
variable{P:Program}{w:World}{H:Hp}{h:Heap}{a:Addr}
theorem ADv{u:HO}(ok:HOk P w H h)(e:Rd H a u):ObjOk P w H h a u:=e.ok ok
theorem PL{kvs:List (Key×V)}(ok:HOk P w H h)(e:Rd H a (.dK kvs)):kvs.length<=sizeLine/\(a==sysModules)=false/\∃ vs,KV kvs vs/\h.DictOf (CG P w) a vs :=
 show ObjOk P w H h a (.dK kvs) from ADv ok e
theorem AEM{kvs:List (Key×V)}(ok:HOk P w H h)(e:H a=some (.dK kvs)):kvs.length<=sizeLine/\(a==sysModules)=false/\∃ vs,KV kvs vs/\h.DictOf (CG P w) a vs:=PL ok (.inl e)
theorem KZ{ks:List Key}(ok:HOk P w H h)(e:H a=some (.tup (ks.map kV))):(tupleKind (CG P w)).is h ks a:=by
 o⟨_,its,r,o,h1,h2,n,h3⟩:=(show ObjOk P w H h a (.tup (ks.map kV)) from ok a _ e);!⟨o,its.toArray,n,h1,h2,h3,by u Ot r⟩
theorem Ob{kvs:List (List Key×V)}(ok:HOk P w H h)(e:Rd H a (.dT kvs)):kvs.length<=sizeLine/\(a==sysModules)=false /\
  ∃ xs,KT H kvs xs/\h.DictOfH (tupleKind (CG P w)) a xs:=by
 o⟨z,y,xs,r,o,es,ep,h1,h2,h3,h4,h5⟩:=(show ObjOk P w H h a (.dT kvs) from ADv ok e);r⟨z,y,xs,r,o,es,ep,h1,h2,h3,h4,fun x hx=>?_,h5⟩;h all:∀{l:List (List Key×V)}{m:List (List Key×Addr×Value)},KT H l m->∀ x∈m,(tupleKind (CG P w)).is h x.1 x.2.1:=by
  intro l m q
  induction q with
  | nil=>intro x hx;!nomatch hx
  | @cons p q ps qs hq t ih =>
   intro x hx;rcases ┃ hx with e | hx
   ·subst e
    !KZ ok (by rw[<- hq.1];!hq.2.1)
   ·!ih x hx
 !all r x hx
theorem AFj{kvs:List (List Key×V)}(ok:HOk P w H h)(e:H a=some (.dT kvs)):kvs.length<=sizeLine/\(a==sysModules)=false /\
  ∃ xs,KT H kvs xs/\h.DictOfH (tupleKind (CG P w)) a xs:=Ob ok (.inl e)
end
def DGet(H:Hp)(a:Addr)(y:V)(r:Option V):Prop :=
 (∃ kvs k,Rd H a (.dK kvs)/\y=kV k/\r=valV kvs k)\/∃ kvs k b,Rd H a (.dT kvs)/\y=.ref b/\H b=some (.tup (k.map kV))/\r=valV kvs k
def DPut(H:Hp)(a:Addr)(y v:V)(H':Hp):Prop :=
 (∃ kvs k,H a=some (.dK kvs)/\y=kV k/\kvs.length<sizeLine/\H'=upd H a (.dK (putK kvs k v))) \/
 ∃ kvs k b,H a=some (.dT kvs)/\y=.ref b/\H b=some (.tup (k.map kV))/\kvs.length<sizeLine/\H'=upd H a (.dT (putK kvs k v))
theorem DGet.k{H:Hp}{a:Addr}{kvs:List (Key×V)}{k:Key}(e:H a=some (.dK kvs)):DGet H a (kV k) (valV kvs k):=.inl ⟨kvs,k,.inl e,rfl,rfl⟩
theorem DGet.t{H:Hp}{a b:Addr}{kvs:List (List Key×V)}{k:List Key}(e:H a=some (.dT kvs))(eb:H b=some (.tup (k.map kV))):DGet H a (.ref b) (valV kvs k):=.inr ⟨kvs,k,b,.inl e,rfl,eb,rfl⟩
section
variable{X:Cx}{pins:List ⑥}{σ:St}{H:Hp}{s:Shared}{a:Addr}{y v:V}{u r:Value}{o:Option V}{A:Around}{E:Value->Shared->Prop}
theorem Inv.big(I:Inv X pins σ H s):sysModules<¸:=by
 h h:mainGlobals<¸:=(I.mod.glob.keeps I.bk).lt;!Nat.lt_trans ¤ h
theorem Yz{Q:Value->Shared->Prop}(hu:A.units+1<cLine)(I:Inv X pins σ H s)(g:DGet H a y (some v))(ry:RelV y u)(h:∀ w' s',Inv X pins σ H s'->RelV v w'->Q w' s') :
  wpAny ③ A (getItem (.ref a) u) Q E s:=by
 rcases g with⟨kvs,k,e,ey,l⟩ | ⟨kvs,k,b,e,ey,eb,l⟩
 ·subst ey
  o⟨z,hd,vs,rel,dd⟩:=PL I.hok e;o⟨w',hw,rw'⟩:=RelO.some_of (v:=v) (o:=valueAt vs k) (by rw[l];!rel.val k);!wpAny_getItem_of (NQ ry) dd.mapOf hw (h w' _ (I.tok _) rw')
 ·subst ey
  cases (show u=Value.ref b from ry);o⟨z,hd,xs,rel,dd⟩:=Ob I.hok e;o⟨w',hw,rw'⟩:=RelO.some_of (v:=v) (o:=(atKey xs k).map (·.2)) (by rw[l];!rel.val k);o⟨p,hp,hp2⟩:=Option.map_eq_some_iff.mp hw;r wpAny_getItem_heap (tupleKind_room_in1 hu) (KZ I.hok eb) dd hp ?_;rw[hp2];!h w' _ (I.tok _) rw'
theorem AGb{Q:Value->Shared->Prop}(hu:A.units+1<cLine)(I:Inv X pins σ H s)(g:DGet H a y o)(ry:RelV y u)(h:∀ s',Inv X pins σ H s'->Q (.bool o.isSome) s') :
  wpAny ③ A (compareOp .In u (.ref a)) Q E s:=by
 rcases g with⟨kvs,k,e,ey,l⟩ | ⟨kvs,k,b,e,ey,eb,l⟩
 ·subst ey
  o⟨z,hd,vs,rel,dd⟩:=PL I.hok e;r wpAny_in_of (NQ ry) hd dd.mapOf ?_;rw[<- (rel.val k).isSome_eq,<- l];!h _ (I.tok _)
 ·subst ey
  cases (show u=Value.ref b from ry);o⟨z,hd,xs,rel,dd⟩:=Ob I.hok e;r wpAny_in_heap (tupleKind_room_in1 hu) (KZ I.hok eb) hd dd ?_;h q:=(rel.val k).isSome_eq;rw[Option.isSome_map] at q;rw[<- q,<- l];!h _ (I.tok _)
theorem Jv{h':Heap}{t':Nat}{ob:HO}(I:Inv X pins σ H s)(mu:Mut (H a))(hs:Heap.SameBut a s.heap h')(he:∃ q,h'.get? a=some q)(new:ObjOk X.prog X.w (upd H a ob) h' a ob) :
  Inv X pins σ (upd H a ob) {s with heap:=h',toks:=t'} :=
 I.write (x:=a) (e:=a) mu (.inl rfl) (fun b q hb z=>(hs.2 b hb).trans z) he new
theorem ABh{P:Program}{w:World}{H':Hp}{h':Heap}{kvs:List (Key×V)}{vs:List (Key×Value)}(z:kvs.length<=sizeLine)(hd:(a==sysModules)=false)(rel:KV kvs vs)(dd:h'.DictOf (CG P w) a vs) :
  ObjOk P w H' h' a (.dK kvs):=⟨z,hd,vs,rel,dd⟩
theorem YQ{H':Hp}{Q:Unit->Shared->Prop}(hu:A.units+1<cLine)(I:Inv X pins σ H s)(g:DPut H a y v H')(ry:RelV y u)(rv:RelV v r)(h:∀ s',Inv X pins σ H' s'->Q () s') :
  wpAny ③ A (setItem (.ref a) u r) Q E s:=by
 rcases g with⟨kvs,k,e,ey,l,eH⟩ | ⟨kvs,k,b,e,ey,eb,l,eH⟩
 ·subst ey eH
  o⟨z,hd,vs,rel,dd⟩:=AEM I.hok e;h hz:vs.length<=sizeLine:=by rw[<- rel.length];!z
  h hl:(putK kvs k v).length<=sizeLine:=by have:=CV kvs k v;w
  r wpAny_setItem_pairs (hsz:=hz) (NQ ry) dd fun h' dd' hs=>h _ ?_;h he:∃ q,h'.get? a=some q:=let ⟨q,_,_,hq,_⟩:=dd';⟨q,hq⟩
  !Jv I (by rw[e];!True.intro) hs he (ABh hl hd (rel.put k rv) dd')
 ·subst ey eH
  cases (show u=Value.ref b from ry);o⟨z,hd,xs,rel,dd⟩:=AFj I.hok e;h hz:xs.length<=sizeLine:=by rw[<- ┅ rel];!z
  h hl:(putK kvs k v).length<=sizeLine:=by have:=CV kvs k v;w
  r wpAny_setItem_heap (hsz:=hz) (tupleKind_room_in1 hu) (KZ I.hok eb) dd fun h' dd' hs=>h _ ?_;o⟨q,es,ep,hq,h2,h3,h4,_,h5⟩:=dd';r Jv I (by rw[e];!True.intro) hs ⟨q,hq⟩ ⟨hl,hd,_,(rel.put k eb rv).keeps fun c ys ec=>?_,q,es,ep,hq,h2,h3,h4,h5⟩;rw[Ag (Cq ec e (fun z=>nomatch z))];!ec
end
def NoSl(i:Expr):Prop:=∀ ov iv,subscripted i false ov iv=operate [ov,iv] (getItem ov iv)
theorem Vz{prog:Program}{w:World}{A:Around}{E:Value->Shared->Prop}{s:Shared}{env:Env}{value slice:Expr}{pos:Pos}{T id:String}{Q:Value->Shared->Prop}
  (hl:typeLookup (.type T) "__getitem__" = pure (some (.builtin id))) (hs:NoSl slice)
  (h:wpAny ① A (eval value env) (fun o s₁=>wpAny ① A (eval slice env) (fun i s₂=>s₂.TypeIs o T/\wpAny ① A (getItem o i) Q E s₂) E s₁) E s) :
  wpAny ① A (eval (.Subscript value slice pos) env) Q E s:=by
 r Subscript_ (wpAny_mono h (fun o s₁ h₁=>wpAny_mono h₁ (fun i s₂ h₂=>?_) fun _ _ x=>x) fun _ _ x=>x);o⟨hT,h₂⟩:=h₂;unfold subscriptTail;r wpAny_bind ?_;rw[getitemInPython_of_ne hT.not_modules];b(wpAny_specialOf hT hl ?_);h fin:wpAny ① A (subscripted slice false o i) (fun r s₃=>wpAny ① A (letTemporaryGo value o r >>= fun _=>pure r) Q E s₃) E s₂:=by
  rw[hs o i];!wpAny_operating (wpAny_mono h₂ (fun r s₃ h₃=>wpAny_bind (wpAny_letTemporaryGo (wpAny_pure h₃))) fun _ _ x=>x)
 first
  | !wpAny_pure (wpAny_bind fin)
  | !wpAny_bind (wpAny_pure (wpAny_bind fin))
  | !wpAny_bind fin
theorem TV{X:Cx}{pins:List ⑥}{σ:St}{H:Hp}{s:Shared}{a:Addr}{y:V}{o:Option V}(I:Inv X pins σ H s)(g:DGet H a y o):s.TypeIs (.ref a) "dict":=by
 rcases g with⟨kvs,k,e,_,_⟩ | ⟨kvs,k,b,e,_,_,_⟩
 ·o⟨_,_,vs,_,dd⟩:=PL I.hok e
  !dd.typeIs
 ·o⟨_,_,xs,_,dd⟩:=Ob I.hok e
  !dd.typeIs
def AFs(td ty:TE):TE:=fun σ H Q=>td σ H fun x H1=>ty σ H1 fun y H2=>∃ a v,x=.ref a/\DGet H2 a y (some v)/\Q v H2
def AGT(ty td:TE):TE:=fun σ H Q=>ty σ H fun y H1=>td σ H1 fun x H2=>∃ a o,x=.ref a/\DGet H2 a y o/\Q (.bl o.isSome) H2
def AFk(td ty tv:TE):TS:=fun D σ H=>tv σ H fun v H1=>td σ H1 fun x H2=>ty σ H2 fun y H3=>∃ a H4,x=.ref a/\DPut H3 a y v H4/\D.nx σ H4
section
variable{X:Cx}{o i e value:Expr}{pos pos' tpos:Pos}{td ty tv:TE}
theorem Pj(hu:X.A.units+1<cLine)(ho:PE X o td)(hi:PE X i ty)(hs:NoSl i):PE X (.Subscript o i pos) (AFs td ty):=by
 intro pins s σ H Q I h;r Vz PySem.F.slot_dict_getitem.lookup hs (thn (ho pins s σ H _ I h) fun u s1 ⟨x,H1,I1,rx,q1⟩=>thn (hi pins s1 σ H1 _ I1 q1) fun iv s2 ⟨y,H2,I2,ry,a,v,ex,g,q2⟩=>?_);subst ex;obtain rfl:u=Value.ref a:=rx;!⟨TV I2 g,Yz hu I2 g ry fun w' s3 I3 rw'=>⟨v,H2,I3,rw',q2⟩⟩
theorem ABv(hu:X.A.units+1<cLine)(hi:PE X i ty)(ho:PE X o td):PC X .In i o (AGT ty td):=by
 intro pins s σ H Q I h;r thn (hi pins s σ H _ I h) fun iv s1 ⟨y,H1,I1,ry,q1⟩=>thn (ho pins s1 σ H1 _ I1 q1) fun u s2 ⟨x,H2,I2,rx,a,ov,ex,g,q2⟩=>?_;subst ex;obtain rfl:u=Value.ref a:=rx;!AGb hu I2 g ry fun s3 I3=>⟨.bl ov.isSome,H2,I3,rfl,q2⟩
theorem Jk(hu:X.A.units+1<cLine)(ho:PE X o td)(hi:PE X i ty)(hv:PE X value tv)(hs:swapsWith value (some (.Subscript o i pos')) pos.line X.env=pure false) :
  PS X (.Assign [.Subscript o i pos'] value pos) (AFk td ty tv):=by
 intro pins s σ H D I h;r wpAny_Assign_Subscript (thn (hv pins s σ H _ I h) fun r s1 ⟨v,H1,I1,rv,q1⟩=>thn (ho pins s1 σ H1 _ I1 q1) fun u s2 ⟨x,H2,I2,rx,q2⟩=>thn (hi pins s2 σ H2 _ I2 q2) fun iv s3 ⟨y,H3,I3,ry,a,H4,ex,g,q3⟩=>?_) hs;subst ex;obtain rfl:u=Value.ref a:=rx;!YQ hu I3 g ry rv fun s4 I4=>⟨σ,H4,I4,q3⟩
end
theorem ACP{P:Program}{w:World}{H:Hp}(h:Heap)(hb:sysModules<h.objs.size):ObjOk P w H (h.push {cls:=.type "dict",data:=.dict #[]}) h.objs.size (.dK []) :=
 ⟨Nat.zero_le _,beq_eq_false_iff_ne.mpr (Ne.symm (Nat.ne_of_lt hb)),[],.nil,Heap.DictOf.new h⟩
theorem ABw{P:Program}{w:World}{H:Hp}(h:Heap)(hb:sysModules<h.objs.size):ObjOk P w H (h.push {cls:=.type "dict",data:=.dict #[]}) h.objs.size (.dT []) :=
 ⟨Nat.zero_le _,beq_eq_false_iff_ne.mpr (Ne.symm (Nat.ne_of_lt hb)),[],.nil,_,#[],0,¿ _ rfl,⟨rfl,rfl,rfl⟩,rfl,rfl,List.nodup_nil⟩
def AEk:TE:=fun _ H Q=>∀ p,H p=none->Q (.ref p) (upd H p (.dT []))
section
variable{X:Cx}{pos:Pos}
theorem ABN:PE X (.Dict [] [] pos) AEk:=fun pins s σ H Q I h =>
 wpAny_Dict_empty ⟨.ref ¸,_,I.laid (a:=¸) (o:=.dT []) (t':=s.toks) (fun _ _ q=>° _ q) ② (ABw s.heap I.big),rfl,h _ (I.hok.fresh ②)⟩
end
def VJ:List (TE×TE)->St->Hp->(List (V×V)->Hp->Prop)->Prop
 | [],_,H,Q=>Q [] H
 | (tk,tv)::r,σ,H,Q=>tk σ H fun x H1=>tv σ H1 fun y H2=>VJ r σ H2 fun ps H3=>Q ((x,y)::ps) H3
abbrev VV:List (V×V)->List (Value×Value)->Prop:=Paired fun p q=>RelV p.1 q.1/\RelV p.2 q.2
def PPs(X:Cx)(pos:Pos)(keys:List (Option Expr))(values:List Expr)(trs:List (TE×TE)):Prop :=
 ∀(pins:List ⑥) (s:Shared) (σ:St) (H:Hp) (Q:List (V×V)->Hp->Prop),Inv X pins σ H s->VJ trs σ H Q ->
  wpAny ③ X.A (evalPairs (pairTrees keys values X.env pos)) (fun vs s'=>∃ ps H',Inv X pins σ H' s'/\VV ps vs/\Q ps H') X.xe s
theorem Wv{X:Cx}{pos:Pos}:PPs X pos [] [] []:=fun pins s σ H Q I h=>pairTrees_nil_walk ⟨[],H,I,.nil,h⟩
theorem Jy{X:Cx}{pos:Pos}{k v:Expr}{ks:List (Option Expr)}{vs:List Expr}{tk tv:TE}{trs:List (TE×TE)}(hk:PE X k tk)(hv:PE X v tv)(hr:PPs X pos ks vs trs) :
  PPs X pos (some k::ks) (v::vs) ((tk,tv)::trs):=fun pins s σ H Q I h =>
 pairTrees_cons_walk (thn (hk pins s σ H _ I h) fun u s1 ⟨x,H1,I1,rx,q1⟩=>thn (hv pins s1 σ H1 _ I1 q1) fun w2 s2 ⟨y,H2,I2,ry,q2⟩ =>
  thn (hr pins s2 σ H2 _ I2 q2) fun ws s3 ⟨ps,H3,I3,rel,q3⟩=>⟨(x,y)::ps,H3,I3,.cons ⟨rx,ry⟩ rel,q3⟩)
def mergeK(kvs more:List (Key×V)):List (Key×V):=more.foldl (fun acc kv=>putK acc kv.1 kv.2) kvs
theorem KV.merge:∀{more:List (Key×V)}{rs:List (Key×Value)}{kvs:List (Key×V)}{vs:List (Key×Value)},KV more rs->KV kvs vs->KV (mergeK kvs more) (merged vs rs):=by
 intro more rs kvs vs r;unfold KV at r
 induction r generalizing kvs vs with
 | nil=>intro q;!q
 | @cons p q ps qs h t ih =>
  intro r0;h e:KV (putK kvs p.1 p.2) (stored vs q.1 q.2):=by
   have:=r0.put p.1 h.2;rw[<- h.1];!this
  !ih e
theorem Gz:∀(more kvs:List (Key×V)),(mergeK kvs more).length<=kvs.length+more.length
 | [],kvs=>by show kvs.length<=kvs.length+0;w
 | p::r,kvs=>by
  h h1:=Gz r (putK kvs p.1 p.2);h h2:=CV kvs p.1 p.2;show (mergeK (putK kvs p.1 p.2) r).length<=_;rw[List.length_cons];w
theorem Ko{P:Program}{w:World}:∀{kvs:List (Key×V)}{ws:List (Value×Value)},VV (kvs.map fun kv=>(kV kv.1,kv.2)) ws->∃ rs,Carries (CG P w) ws rs/\KV kvs rs
 | [],_,r=>by rw[List.map_nil] at r;cases r;!⟨[],True.intro,.nil⟩
 | p::kvs,_,r=>by
  rw[List.map_cons] at r;cases r with
  | @cons a b as bs h t =>
   o⟨rs,c,q⟩:=Ko (P:=P) (w:=w) t;o⟨b1,b2⟩:=b;!⟨(p.1,b2)::rs,⟨NQ h.1,rfl,c⟩,.cons ⟨rfl,h.2⟩ q⟩
def AFr(trs:List (TE×TE)):TE:=fun σ H Q=>∀ p,H p=none->VJ trs σ (upd H p (.dK [])) fun ps H2=>H2 p=some (.dK [])/\∃ kvs:List (Key×V),ps=kvs.map (fun kv=>(kV kv.1,kv.2))/\kvs.length<=15/\Q (.ref p) (upd H2 p (.dK (mergeK [] kvs)))
theorem WK{X:Cx}{pos:Pos}{keys:List (Option Expr)}{values:List Expr}{trs:List (TE×TE)}(h:PPs X pos keys values trs)(hall:keys.all (·.isSome)=true)(hl:keys.length=values.length)(h0:keys≠[])
  (h15:keys.length<=15):PE X (.Dict keys values pos) (AFr trs):=by
 intro pins s σ H Q I q;h hn:=I.hok.fresh (Nat.le_refl ¸);h I1:=I.laid (a:=¸) (o:=.dK []) (h':=s.heap.push {cls:=.type "dict",data:=.dict #[]}) (t':=s.toks) (fun _ _ q=>° _ q) ② (ACP s.heap I.big);r wpAny_Dict_walk (knd:=CG X.prog X.w) hall hl h0 h15 (thn (h pins _ σ _ _ I1 (q _ hn)) fun ws s2 ⟨ps,H2,I2,rel,e,kvs,ep,lk,q2⟩=>?_);subst ep;o⟨rs,c,rk⟩:=Ko (P:=X.prog) (w:=X.w) rel;o⟨z,hd,vs0,r0,dd⟩:=AEM I2.hok e;cases r0;r⟨rs,c,dd,fun h' dd' hs=>⟨.ref ¸,_,?_,rfl,q2⟩⟩;h hz:(mergeK [] kvs).length<=sizeLine:=by
  h h1:=Gz kvs [];rw[List.length_nil] at h1;rw[sizeLine_eq];w
 h he:∃ q,h'.get? ¸=some q:=let ⟨q,_,_,hq,_⟩:=dd';⟨q,hq⟩
 !Jv I2 (by rw[e];!True.intro) hs he (ABh hz hd (rk.merge .nil) dd')
structure M1(X:Cx)(o:Expr)(m:Str)(apos:Pos)(e:Expr)(cpos:Pos):Prop where
 base:attributeBase o m X.env (eval o X.env)=eval o X.env
 few:((backTo cpos (starEach [e] X.env)).all (fun x=>!x.1)&&(backToKw cpos (keywordEach [] X.env)).all (fun x=>x.1.isSome)
  && decide (([e]:List Expr).length+([]:List Keyword).length+(if ([]:List Keyword).isEmpty then 0 else 1)<30))=true
 line:(apos.endLine==cpos.line)=true
 trees:backTo cpos (starEach [e] X.env)=[(false,eval e X.env)]
structure M2(X:Cx)(o:Expr)(m:Str)(apos:Pos)(e f:Expr)(cpos:Pos):Prop where
 base:attributeBase o m X.env (eval o X.env)=eval o X.env
 few:((backTo cpos (starEach [e,f] X.env)).all (fun x=>!x.1)&&(backToKw cpos (keywordEach [] X.env)).all (fun x=>x.1.isSome)
  && decide (([e,f]:List Expr).length+([]:List Keyword).length+(if ([]:List Keyword).isEmpty then 0 else 1)<30))=true
 line:(apos.endLine==cpos.line)=true
 trees:backTo cpos (starEach [e,f] X.env)=[(false,eval e X.env),(false,eval f X.env)]
def IsD(H:Hp)(a:Addr):Prop:=(∃ kvs,Rd H a (.dK kvs))\/∃ kvs,Rd H a (.dT kvs)
theorem AFL{X:Cx}{pins:List ⑥}{σ:St}{H:Hp}{s:Shared}{a:Addr}(I:Inv X pins σ H s)(d:IsD H a) :
  s.TypeIs (.ref a) "dict"/\(∀ b,Value.ref a=.ref b->∃ ob,s.heap.get? b=some ob/\ob.dict=none)/\(a==sysModules)=false:=by
 rcases d with⟨kvs,e⟩ | ⟨kvs,e⟩
 ·o⟨_,hd,vs,_,dd⟩:=PL I.hok e
  r⟨dd.typeIs,fun b q=>?_,hd⟩;cases q;o⟨ob,_,_,h1,h2,_⟩:=dd;!⟨ob,h1,h2.2.1⟩
 ·o⟨_,hd,xs,_,dd⟩:=Ob I.hok e
  r⟨dd.typeIs,fun b q=>?_,hd⟩;cases q;o⟨ob,_,_,h1,h2,_⟩:=dd;!⟨ob,h1,h2.2.1⟩
section
variable{X:Cx}{pins:List ⑥}{σ:St}{H:Hp}{s:Shared}{a:Addr}{y d:V}{u r:Value}{o:Option V}{A:Around}{E:Value->Shared->Prop}
theorem AFQ{Q:Value->Shared->Prop}(hu:A.units+1<cLine)(I:Inv X pins σ H s)(g:DGet H a y o)(ry:RelV y u)(rd:RelV d r)(h:∀ w' s',Inv X pins σ H s'->RelV (o.getD d) w'->Q w' s') :
  wpAny ③ A (call (.builtin "dict.get") [.ref a,u,r]) Q E s:=by
 rcases g with⟨kvs,k,e,ey,l⟩ | ⟨kvs,k,b,e,ey,eb,l⟩
 ·subst ey
  o⟨z,hd,vs,rel,dd⟩:=PL I.hok e;r call_meetsIn PySem.F.slot_dict_get dd.typeIs PySem.F.entry_dict_get (PySem.F.args_dict_get_3 _ _ _) (meets_dict_get_default (CG X.prog X.w) a (NQ ry) hd r) ⟨_,dd.mapOf,h _ _ (I.tok _) ?_⟩;rw[l];!(rel.val k).getD rd
 ·subst ey
  cases (show u=Value.ref b from ry);o⟨z,hd,xs,rel,dd⟩:=Ob I.hok e;r call_meetsIn PySem.F.slot_dict_get dd.typeIs PySem.F.entry_dict_get (PySem.F.args_dict_get_3 _ _ _) (meetsH_dict_get_default (tupleKind (CG X.prog X.w)) a b hd r) ⟨tupleKind_room_in1 hu,k,xs,KZ I.hok eb,dd,h _ _ (I.tok _) ?_⟩;rw[l];!(rel.val k).getD rd
end
def AFG(td ty tx:TE):TE:=fun σ H Q=>td σ H fun x H1=>∃ a,x=.ref a/\IsD H1 a/\ty σ H1 fun y H2=>tx σ H2 fun z H3=>∃ o,DGet H3 a y o/\Q (o.getD z) H3
section
variable{X:Cx}{o e f:Expr}{apos cpos:Pos}{td ty tx:TE}
theorem AAa(hu:X.A.units+1<cLine)(ho:PE X o td)(he:PE X e ty)(hf:PE X f tx)(m:M2 X o "get" apos e f cpos):PE X (.Call (.Attribute o "get" apos) [e,f] [] cpos) (AFG td ty tx):=by
 intro pins s σ H Q I h;r wpAny_Call_method m.base m.few m.line PySem.F.plainAttrs_dict PySem.F.slot_dict_get PySem.F.type_dict_get (thn (ho pins s σ H _ I h) fun u s1 ⟨x,H1,I1,rx,a,ex,d,q1⟩=>?_);subst ex;obtain rfl:u=Value.ref a:=rx;o⟨t1,t2,_⟩:=AFL I1 d;r⟨t1,t2,?_⟩;rw[m.trees];r Calls.callWith_builtin rfl (Calls.evalArgs_plain (Calls.spliced_cons (thn (he pins s1 σ H1 _ I1 q1) fun iv s2 ⟨y,H2,I2,ry,q2⟩ =>
  Calls.spliced_cons (thn (hf pins s2 σ H2 _ I2 q2) fun fv s3 ⟨z,H3,I3,rz,ov,g,q3⟩=>Calls.spliced_nil ?_))))
 !AFQ hu I3 g ry rz fun w' s4 I4 rw'=>⟨_,H3,I4,rw',q3⟩
end
end L2
end
section
namespace L2
open PySem PySem.Spec PyProof.Rows
open Sem (wp)
section
variable{prog:Program}{w:World}{A:Around}{E:Value->Shared->Prop}{s:Shared}
theorem ZM{d:Addr}{o:Obj}{es:Array DictEntry}{ep:Nat}{Q:Value->Shared->Prop}(hd:(d==sysModules)=false)(hT:s.TypeIs (.ref d) "dict")(ho:s.heap.get? d=some o)(hdat:o.data=.dict es ep)
  (hQ:Q (.ref ¸) {s with heap:=s.heap.push {cls:=.type "dict_keyiterator",data:=.fields #[.ref d,.int 0 0,.int es.size 0,.int ep 0]}}) :
  wpAny ① A (pyIter (.ref d)) Q E s:=by
 r wpAny_pyIter_slot hT F.slot_dict_iter (wpAny_call_entry F.slot_dict_iter hT F.entry_dict_iter ?_ (F.args_dict_iter_1 _));unfold Builtin.«dict.__iter__»;r wpAny_bind ?_;unfold Builtin.Dict.dictSlotNone;b(wpAny_notOrdered_dict hT ?_);show wpAny _ _ (pure (Value.ref d)) _ _ s;r wpAny_pure ?_;show wpAny _ _ (Builtin.Dict.showsAll d >>= _) _ _ s;unfold Builtin.Dict.showsAll;rw[if_neg (by rw[hd];!Bool.false_ne_true)];b(wpAny_pure ?_);b(wpAny_dictEntries ho hdat ?_);b(wpAny_dictEpoch ho hdat ?_);b(wpAny_newObj_type (wpAny_pure ⟨_,rfl, "dict_keyiterator",_,⟨_,¿ _ rfl,rfl⟩,F.slot_dict_keyiterator_next.lookup,?_⟩));simpa [rawInt] using hQ
theorem AAR{it d:Addr}{i ep:Nat}{es:Array DictEntry}{od:Obj}{Q:Option Value->Shared->Prop}(hit:s.heap.IsKeyIter it d i es.size ep)
  (hod:s.heap.get? d=some od) (hdd:od.data=.dict es ep) (hlt':i<es.size)
  (hQ:∀ h',h'.IsKeyIter it d (i+1) es.size ep->Heap.SameBut it s.heap h'->Q (some es[i].key) {s with heap:=h'}) :
  wpAny ① A (pyNext (.ref it)) Q E s:=by
 o⟨o,ho,hc,hd⟩:=id hit;unfold pyNext;b(wpAny_attempt (wpAny_callSpecial?_slot (name:=Str.ofString "__next__") hit.typeIs F.slot_dict_keyiterator_next
  (wpAny_call_entry F.slot_dict_keyiterator_next hit.typeIs F.entry_dict_keyiterator_next ?_ (F.args_dict_keyiterator_next_1 _))))
 b(wpAny_pure ?_);r wpAny_bind ?_;r wpAny_bind ?_
 first | r wpAny_bind (wpAny_typeNameOfWhole_keyiter hit.typeIs (wpAny_pure ?_)) | b(wpAny_typeNameOf_keyiter hit.typeIs (wpAny_pure ?_))
 b(wpAny_fieldsOf ho hd ?_);h hown:Builtin.Dict_items.ownsTuple "dict_keyiterator" = false:=by decide
 simp only[hown,Bool.false_eq_true,if_false];show wpAny _ _ (if (Value.ref d==Value.none)=true then _ else _) _ _ s;rw[if_neg (show ¬ ((Value.ref d==Value.none)=true) from Bool.false_ne_true)];b(wpAny_pure ?_);b(wpAny_dictEntries hod hdd ?_);rw[if_neg ¥];b(wpAny_pure ?_);b(wpAny_dictEpoch hod hdd ?_);rw[if_neg ¥];r wpAny_pure ?_;simp only[show ¬ ((i:Int)<0) from by w,if_false,Int.toNat_natCast,Array.getElem?_eq_getElem hlt'];r wpAny_bind ?_
 first | r wpAny_bind (wpAny_typeNameOfWhole_keyiter hit.typeIs (wpAny_pure ?_)) | b(wpAny_typeNameOf_keyiter hit.typeIs (wpAny_pure ?_))
 b(wpAny_isOneOf_keyiter hit.typeIs ?_);show wpAny _ _ (setField (.ref it) 1 (rawInt ((i:Int)+1)) >>= _) _ _ s;b(wpAny_setField ho hd ¥ ?_);h hit':(s.heap.update it (Obj.mapFields (·.setIfInBounds 1 (rawInt ((i:Int)+1))))).IsKeyIter it d (i+1) es.size ep :=
  ⟨_,Heap.get?_update_self _ ho (Obj.isFreed_of_fields (Obj.data_mapFields hd _)),(Obj.cls_mapFields ..).trans hc,by rw[Obj.data_mapFields hd];simp[rawInt]⟩
 b(wpAny_holding ?_);b(wpAny_isOneOf_keyiter (s:={s with heap:=s.heap.update it (Obj.mapFields (·.setIfInBounds 1 (rawInt ((i:Int)+1))))}) hit'.typeIs ?_);show wpAny _ _ (pure es[i].key) _ _ _;!wpAny_pure (wpAny_pure ⟨_,rfl,wpAny_pure (hQ _ hit' (Heap.SameBut.update ..))⟩)
theorem ZS{it d:Addr}{i ep:Nat}{es:Array DictEntry}{od:Obj}{Q:Option Value->Shared->Prop}(hh:A.handled=none)(hit:s.heap.IsKeyIter it d i es.size ep)
  (hod:s.heap.get? d=some od) (hdd:od.data=.dict es ep) (hge:es.size<=i)
  (hQ:∀ h',Heap.ExtBut it s.heap h'->Q none {s with heap:=h'}):wpAny ① A (pyNext (.ref it)) Q E s:=by
 o⟨o,ho,hc,hd⟩:=id hit;unfold pyNext;b(wpAny_attempt (wpAny_callSpecial?_slot (name:=Str.ofString "__next__") hit.typeIs F.slot_dict_keyiterator_next
  (wpAny_call_entry F.slot_dict_keyiterator_next hit.typeIs F.entry_dict_keyiterator_next ?_ (F.args_dict_keyiterator_next_1 _))))
 b(wpAny_pure ?_);r wpAny_bind ?_;r wpAny_bind ?_
 first | r wpAny_bind (wpAny_typeNameOfWhole_keyiter hit.typeIs (wpAny_pure ?_)) | b(wpAny_typeNameOf_keyiter hit.typeIs (wpAny_pure ?_))
 b(wpAny_fieldsOf ho hd ?_);h hown:Builtin.Dict_items.ownsTuple "dict_keyiterator" = false:=by decide
 simp only[hown,Bool.false_eq_true,if_false];show wpAny _ _ (if (Value.ref d==Value.none)=true then _ else _) _ _ s;rw[if_neg (show ¬ ((Value.ref d==Value.none)=true) from Bool.false_ne_true)];b(wpAny_pure ?_);b(wpAny_dictEntries hod hdd ?_);rw[if_neg ¥];b(wpAny_pure ?_);b(wpAny_dictEpoch hod hdd ?_);rw[if_neg ¥];r wpAny_pure ?_;simp only[show ¬ ((i:Int)<0) from by w,if_false,Int.toNat_natCast,Array.getElem?_eq_none hge];r wpAny_bind ?_
 first | r wpAny_bind (wpAny_typeNameOfWhole_keyiter hit.typeIs (wpAny_pure ?_)) | b(wpAny_typeNameOf_keyiter hit.typeIs (wpAny_pure ?_))
 show wpAny _ _ (setField (.ref it) 0 .none >>= _) _ _ s;b(wpAny_setField ho hd ¥ ?_);show wpAny _ _ (newExc (.type "StopIteration") [] >>= _) _ _ _;r wpAny_bind ?_;simp only[newExc,newTuple];b(wpAny_newObj_type ?_ (by size_fits));r wpAny_bind (m:=firstArgMember _ _) (wpAny_of_eq (a:=Value.none) (by first | rfl | (simp only[firstArgMember];rfl)) ?_);r wpAny_newObj_type ?_ (by size_fits);simp only[raiseNew];b(wpAny_handled ?_);rw[show A.in1.handled=none from hh];b(wpAny_pure (wpAny_throw ?_));b(wpAny_isInstance (T:="StopIteration") (b:=true) ⟨_,¿ _ rfl,rfl⟩ isSubtype_stop ?_);!wpAny_pure (hQ _ (((Heap.SameBut.update ..).extBut.push _).push _))
end
end L2
end
section
namespace L2
open PySem PySem.Spec PyProof.Rows
section
variable{prog:Program}{w:World}{A:Around}{E:Value->Shared->Prop}{s:Shared}{d:Addr}{o:Obj}{es:Array DictEntry}{ep:Nat}
theorem Uk(hh:A.handled=none)(I:Addr)(hne:d≠I)(hd:o.data=.dict es ep) :
  Walks prog w A I [I,d] [I] es.size (fun i v=>∃ e,es[i]?=some e/\v=e.key) (fun i h=>h.IsKeyIter I d i es.size ep/\h.get? d=some o) where
 sub:=fun b hb=>by simp at hb;simp[hb]
 frame:=fun _ _ _ st hk=>⟨st.1.at fun o e=>hk I ¥ o e,hk d ¥ o st.2⟩
 item:=fun i s Q E hi st hQ=>by
  r AAR st.1 st.2 hd hi fun h' hit' hs'=>?_;!hQ _ h' s.toks ⟨es[i],by simp[hi],rfl⟩ ⟨hit',hs'.extBut d o hne st.2⟩ fun b o hb e=>hs'.extBut b o (fun h=>hb (by simp[h])) e
 done:=fun s Q E st hQ=>ZS hh st.1 st.2 hd ② fun h' he'=>hQ h' s.toks fun b o hb e=>he' b o (fun h=>hb (by simp[h])) e
 self:=fun _ _ _ _ st hQ=>wpAny_pyIter_keyiter st.1 hQ
theorem ABR(lo:(d==sysModules)=false)(hx:o.ExactDict)(hd:o.data=.dict es ep) :
  PySem.W.KdlSrc prog w "dict" d d es.size (fun i v=>∃ e,es[i]?=some e/\v=e.key) (fun h=>h.get? d=some o) where
 type:=fun _ hm=>⟨o,hm,hx.1⟩
 there:=fun _ hm=>⟨Heap.lt_size hm,Heap.lt_size hm⟩
 keep:=fun _ _ hm hk=>hk d (.inl rfl) o hm
 notList:=by decide
 notTuple:=by decide
 hint:=fun _ _ _ _ hm hq=>PySem.W.kdl_hint_dict ⟨o,hm,hx.1⟩ hq
 iter:=fun _ _ hh hm=>⟨_,_,(fun _ _ hq=>ZM lo ⟨o,hm,hx.1⟩ hm hd hq),Uk hh _ (Nat.ne_of_lt (Heap.lt_size hm)) hd,⟨⟨_,¿ _ rfl,rfl,rfl⟩,° _ hm⟩⟩
end
def KeyL(H:Hp):List (List Key×V)->List V->Prop:=Paired fun kv y=>∃ b,y=.ref b/\H b=some (.tup (kv.1.map kV))
section
variable{X:Cx}
theorem Wn{H:Hp}:∀{kvs:List (List Key×V)}{xs:List (List Key×Addr×Value)},KT H kvs xs->KeyL H kvs (xs.map fun x=>.ref x.2.1)
 | _,_,.nil=>.nil
 | _,_,.cons h t=>.cons ⟨_,rfl,h.2.1⟩ (Wn t)
theorem QD(hc:X.calm=true):CallR X (.type "list") (fun xs H Q=>∃ p kvs,xs=[.ref p]/\H p=some (.dT kvs)/\∀ l ys,H l=none->KeyL H kvs ys->Q (.ref l) (upd H l (.lst ys))):=by
 intro pins s σ H xs us Q I rr h;o⟨p,kvs,rfl,hp,q⟩:=h;o⟨u,rfl,ru⟩:=rr.one;cases ru;o⟨z,lo,ts,kt,o,es,ep,h1,h2,h3,h4,h5⟩:=(show ObjOk X.prog X.w H s.heap p (.dT kvs) from I.hok p _ hp);h hl:es.size=kvs.length:=by
  rw[<- ┄,h4,─];!(┅ kt).symm
 r PySem.W.kdl_call (ABR lo h2 h3) (I.ok.hd hc) h1 (by rw[hl];!z) fun h' tk acc' c' hk hS hacc=>?_;h hn:H ¸=none:=I.hok.fresh ②;r⟨.ref ¸,_,I.laid (a:=¸) (o:=.lst (ts.map fun x=>V.ref x.2.1)) (t':=tk) hk ② ⟨?_,acc'.toList,c',?_,?_⟩,rfl,q _ _ hn (Wn kt)⟩
 ·rw[─,<- ┅ kt];!z
 ·r Ju (by rw[─];!(┅ kt).symm.trans (hl.symm.trans (hacc.1.symm.trans (┄).symm))) fun i x u e1 e2=>?_
  h e2':acc'[i]?=some u:=by u e2
  o⟨e,e3,rfl⟩:=hacc.2 i u e2';rw[<- Array.getElem?_toList,h4,┉] at e3;rw[┉] at e1;cases g:ts[i]? with
  | none=>rw[g] at e1;cases e1
  | some t =>
   rw[g] at e1 e3;cases e1;cases e3;rfl
 ·u hS
end
end L2
end
section
namespace L2
open PySem PySem.Spec PyProof.Rows
open Sem (wp)
end L2
end
section
namespace L2
open PySem PySem.Spec PyProof.Rows
end L2
end
section
namespace L2
open PySem PySem.Spec PyProof.Rows
open Sem (wp)
end L2
end
section
namespace L2
open PySem PySem.Spec PyProof.Rows
theorem Hl:∀ ns:List Int,HT.lexLt ns ns=false
 | []=>rfl
 | x::xs=>by rw[HT.Ca,if_pos rfl];!Hl xs
section
variable{X:Cx}
def rAddT(K:¨):R2:=fun x y H Q=>∃ a b xs ys,x=.ref a/\y=.ref b/\SqT K H a xs/\SqT K H b ys/\xs.length+ys.length<=sizeLine /\
 (xs=[]->Q (.ref b) H)/\(xs≠[]->ys=[]->Q (.ref a) H)/\(xs≠[]->ys≠[]->∀ p,H p=none->Q (.ref p) (upd H p (.tup (xs++ys))))
theorem ADr:OpR X (binaryOp .Add) (rAddT X.K):=by
 intro pins s σ H x y v u Q I rx ry h;o⟨a,b,xs,ys,rfl,rfl,ha,hb,hz,q0,q1,q2⟩:=h;by_cases e:xs=[]
 ·cases rx;cases ry
  o⟨its,r1,p1,_⟩:=I.tuple ha;o⟨its2,r2,p2,_⟩:=I.tuple hb;subst e;cases r1;o⟨⟨cls,dd,data,sl⟩,ho,hc,n,hd⟩:=id p1;o⟨⟨cls2,dd2,data2,sl2⟩,ho2,hc2,n2,hd2⟩:=id p2;simp only at hc hd hc2 hd2;subst hc hd hc2 hd2;!concat_meets ⟨_,ho,rfl⟩ ⟨_,ho2,rfl⟩ noFill_tuple_add seq_tuple_add PySem.F.slot_tuple_add PySem.F.entry_tuple_add (PySem.F.args_tuple_add_2 _ _)
   (tuple_addW0 a b #[] its2.toArray n n2 dd dd2 sl sl2 rfl) ⟨ho,ho2,⟨.ref b,H,I,rfl,q0 rfl⟩⟩
 ·!ACk pins s σ H _ _ v u Q I rx ry ⟨a,b,xs,ys,rfl,rfl,ha,hb,e,hz,q1 e,q2 e⟩
end
end L2
end
section
namespace NW
open PySem L2
def within(ns some:List Int):List Int:=ns.filter fun n=>decide (n∈some)
def front(some ns:List Int):Bool:=decide (0<(within ns some).length)&&decide ((within ns some).length<ns.length)
def fb(pts:List ⑤)(some:List Int):Nat:=(pts.filter (front some)).length
def wOf(pts:List ⑤)(o:List Int):Int:=(List.range o.length).foldl (fun m i=>max m ((fb pts (o.take i):Nat):Int)) 0
abbrev Ent:=List Int×(Int×List Int)
structure Right(pts:List ⑤)(many s:Nat)(e:Ent):Prop where
 so:e.1.Pairwise (· < ·)
 mem:∀ n∈e.1,0<=n/\n<many
 len:e.1.length=s
 perm:e.2.2.Perm e.1
 w:e.2.1=wOf pts e.2.2
end NW
end
section
namespace L2
open PySem PySem.Spec PyProof.Rows
open AutoSeq1 (wpAny_loadPart')
section
variable{prog:Program}{w:World}{A:Around}{E:Value->Shared->Prop}{s:Shared}
theorem Lw{Q:List Value->Shared->Prop}{r:Addr}{a b c:Int}{t u v:Tok}{n:Nat}(hh:A.handled=none)(hr:IsRange s.heap r a b c t u v)(hsmall:Builtin.Range.small a b c=true)
  (hn:Builtin.Range.rangeSize a b c=n) (hlen:n<=2 ^ 24)
  (hQ:∀ h' tk acc,(∀ b o,s.heap.get? b=some o->h'.get? b=some o)->ItemsOf (fun i v=>∃ t,v=.int (a+i*c) t) acc n->Q acc.toList {s with heap:=h',toks:=tk}) :
  wpAny ① A (collect (.ref r)) Q E s:=by
 unfold collect;b(wpAny_runValue (codeAny_builtin PySem.F.entry_proto_collect ?_));rw[Around.under_plainId PySem.F.plain_proto_collect _];show wpAny _ A.in1 (newList [] >>= fun l=>again (.builtin "list.__iadd__" ⟨[l,.ref r],[]⟩)) _ _ s;b(wpAny_newObj_type ?_);r wpAny_pure ⟨plainId_quiet PySem.F.plain_list_iadd _,codeAny_builtin PySem.F.entry_list_iadd ?_⟩;rw[Around.under_plainId PySem.F.plain_list_iadd _];h hS:(s.heap.push {cls:=.type "list",data:=.seq ([]:List Value).toArray}).get? ¸=some {cls:=.type "list",data:=.seq #[] 0}:=¿ _ rfl;show wpAny _ A.in1 (Builtin.List.listExtendWith (.ref ¸) (.ref r) (.ref ¸)) _ _ _;h fin':∀(h':Heap) (tk:Nat) (acc':Array Value) (c':Nat),(∀ b o,b≠¸->(s.heap.push {cls:=.type "list",data:=.seq ([]:List Value).toArray}).get? b=some o->h'.get? b=some o)->h'.get? ¸=some {cls:=.type "list",dict:=none,data:=.seq acc' c',slots:=#[]} ->
   ItemsOf (fun i v=>∃ t,v=.int (a+i*c) t) acc' n->wpAny ① A (match Value.ref ¸ with
   | Value.ref a=>do
    match (<- load a).data with
     | Data.seq xs _=>pure xs.toList
     | _=>unsupported "internal:collect"
   | _=>unsupported "internal:collect") Q E {s with heap:=h',toks:=tk}:=fun h' tk acc' c' hk hS' hacc=>by
  show wpAny _ A (load ¸ >>= _) _ _ _;b(wpAny_load hS' ?_);r wpAny_pure ?_;!hQ h' tk acc' (fun b o e=>hk b o (Nat.ne_of_lt (Heap.lt_size e)) (° _ e)) hacc
 r wpAny_mono (wpAny_extend_range (A:=A) (R:=fun r s'=>∃ h' tk acc' c',r=.ok (.ret (.ref ¸))/\s'={s with heap:=h',toks:=tk}/\(∀ b o,b≠¸->(s.heap.push {cls:=.type "list",data:=.seq ([]:List Value).toArray}).get? b=some o->h'.get? b=some o)/\h'.get? ¸=some {cls:=.type "list",dict:=none,data:=.seq acc' c',slots:=#[]}/\ItemsOf (fun i v=>∃ t,v=.int (a+i*c) t) acc' n)
  (s:={s with heap:=s.heap.push {cls:=.type "list",data:=.seq ([]:List Value).toArray}}) hh (° _ hr) hsmall hn hlen ¸ (.ref ¸) 0 hS fun h' tk acc' c' hk hS' hacc=>⟨h',tk,acc',c',rfl,rfl,hk,hS',hacc⟩) (fun fin s' h=>?_) (fun e s' h=>?_)
 ·cases fin with
  | done f =>
   o⟨h',tk,acc',c',e,rfl,hk,hS',hacc⟩:=h;cases e;!fin' h' tk acc' c' hk hS' hacc
  | again c'=>!⟨h.1,codeAny_mono h.2 fun r s'' hr=>by o⟨h',tk,acc',c',rfl,rfl,hk,hS',hacc⟩:=hr;!fin' h' tk acc' c' hk hS' hacc⟩
 ·o⟨_,_,_,_,e,_⟩:=h
  cases e
end
theorem meets_tuple_range(r:Addr)(a b c:Int)(t u v:Tok)(n:Nat)(hsmall:Builtin.Range.small a b c=true)(hn:Builtin.Range.rangeSize a b c=n)(hlen:n<=1000) :
  Meets (Builtin.«tuple.__new__» ⟨[.type "tuple",.ref r],[]⟩)
   (fun A R s=>A.handled=none/\IsRange s.heap r a b c t u v/\∀(h':Heap) (tk:Nat) (acc:Array Value),(∀ b o',s.heap.get? b=some o'->h'.get? b=some o')->ItemsOf (fun i v=>∃ t,v=.int (a+i*c) t) acc n ->
    R (.ok (.ret (.ref h'.objs.size))) {s with heap:=h'.push {cls:=.type "tuple",data:=.seq acc},toks:=tk}) :=
 .of_wp fun prog w A R s h=>by
  o⟨hp,g,d,tk,os⟩:=s;o⟨hh,ht,h⟩:=h;h hsub:=sub_tuple_self;h hinit:=init_tuple_lookup;h hmh:=madeHere_tuple;h hT:Shared.TypeIs ⟨hp,g,d,tk,os⟩ (.ref r) "range":=⟨_,ht,rfl⟩
  wp_walk using wpAny_loadPart' ht,wpAny_typeOf hT,Lw (A:=A.in1) hh ht hsmall hn ¢
  intro h' tk' acc hk hacc;show wpAny _ _ (Builtin.Tuple.tupleExact acc.toList.toArray >>= fun v=>ret v) _ _ _;unfold Builtin.Tuple.tupleExact;b(wpAny_newObj_type ?_ (by show acc.toList.toArray.size<=sizeLine;rw[Array.toArray_toList,hacc.1];!small hlen));r wpAny_pure ⟨_,rfl,?_⟩;h e:acc.toList.toArray=acc:=by simp
  rw[e];!h h' tk' acc hk hacc
section
variable{X:Cx}
theorem Lj(hc:X.calm=true):CallR X (.type "tuple") (fun xs H Q=>∃ r j,xs=[.ref r]/\H r=some (.rng 0 j)/\0<=j/\j<=1000/\∀ l,H l=none->Q (.ref l) (upd H l (.tup ((below j.toNat).map V.int)))):=by
 intro pins s σ H xs us Q I rr h;o⟨r,j,rfl,hr,j0,j1,q⟩:=h;o⟨u,rfl,ru⟩:=rr.one;cases ru;o⟨t1,t2,t3,e⟩:=I.hok r _ hr;r callType_new PySem.F.called_tuple ¤ (PySem.F.typeCall_tuple_1 _) (PySem.F.newCall_tuple_1 _) (fun obj=>PySem.F.args_object_init_2 obj _) PySem.F.entry_tuple_new
  (meets_tuple_range r 0 j 1 t1 t2 t3 j.toNat (small_one ¢ ¢ ¢ ¢) (by rw[rangeSize_one];split<;>w) ¢) ⟨I.ok.hd hc,e,fun h' tk acc hk hacc=>⟨⟨_,¿ _ rfl,rfl⟩,?_⟩⟩
 h I1:Inv X pins σ H {s with heap:=h',toks:=tk}:=I.kept hk;h hn:H h'.objs.size=none:=I1.hok.fresh ②;r⟨.ref h'.objs.size,_,I1.laid (a:=h'.objs.size) (o:=.tup ((below j.toNat).map V.int)) (t':=tk) (fun b o e=>° _ e) ② ⟨?_,acc.toList,?_,⟨_,¿ _ rfl,rfl,0,by simp⟩⟩,rfl,q _ hn⟩
 ·rw[─,─,List.length_range]
  !small ¢
 ·r Ju (by simp[hacc.1]) fun i x u h1 h2=>?_
  h h2':acc[i]?=some u:=by u h2
  o⟨t,rfl⟩:=hacc.2 i u h2';h hi:i<j.toNat:=by
   have:=(Array.getElem?_eq_some_iff.mp h2').1;rw[hacc.1] at this;!this
  rw[┉,┉,List.getElem?_range hi] at h1;h ex:x=.int (i:Int):=(Option.some.inj h1).symm;subst ex;!⟨t,by rw[Int.mul_one,Int.zero_add]⟩
end
end L2
end
section
namespace ST
open PySem PySem.SetTable
def iter{α:Type}(f:α->α):Nat->α->α
 | 0,x=>x
 | n+1,x=>iter f n (f x)
def Mask(m:Nat):Prop:=m=7\/m=31\/m=127
def step(M:Nat)(p:Probe):Probe :=
 if p.more>0 then {p with j:=p.j+1,more:=p.more-1} else
 {p with j:=(leap M p.i p.perturb).1,more:=runEnd M (leap M p.i p.perturb).1-(leap M p.i p.perturb).1,i:=(leap M p.i p.perturb).1,perturb:=(leap M p.i p.perturb).2}
structure Fine(M:Nat)(p:Probe):Prop where
 more:p.more<=9
 i:p.i<=M
 j:p.j<=M
 jm:p.j+p.more<=M
 dummy:p.dummy=none
theorem Bx:∀{l₁ l₂:List Nat},l₁.Nodup->(∀ x∈l₁,x∈l₂)->l₁.length<=l₂.length
 | [],_,_,_=>Nat.zero_le _
 | a::t,l₂,nd,hs=>by
  o⟨n1,n2⟩:=List.nodup_cons.mp nd;h ha:a∈l₂:=hs a ´;h hl:(l₂.erase a).length=l₂.length-1:=List.length_erase_of_mem ha;h ih:=Bx (l₂:=l₂.erase a) n2 fun x hx=>(List.mem_erase_of_ne (fun(e:x=a)=>n1 (by rw[<- e];!hx))).mpr (hs x (¶ _ hx));have:0<l₂.length:=List.length_pos_of_mem ha;simp;w
structure Tab(t:SetTable):Prop where
 mask:Mask t.mask
 none:t.dummies=#[]
 size:t.place.size<=t.mask
 le:∀ j∈t.place.toList,j<=t.mask
 rise:t.place.toList.Pairwise (· < ·)
def way(t:SetTable)(p:Probe)(m:Nat):Nat:=(ST.iter (step t.mask) m p).j
def Loc(t:SetTable)(hs:List Int):Prop:=∀(idx j:Nat) (h:Int),t.place[idx]?=some j->hs[idx]?=some h->∃ m,way t (t.probeStart h) m=j/\∀ m',m'<m->way t (t.probeStart h) m'∈t.place.toList
structure Put(t:SetTable)(j:Nat):Prop where
 le:j<=t.mask
 new:j∉t.place.toList
 room:t.place.size+1<=t.mask
def Bq(M i perturb:Nat):Probe:={j:=i,more:=runEnd M i-i,i:=i,perturb:=perturb,dummy:=none}
def wayM(M:Nat)(p:Probe)(m:Nat):Nat:=(ST.iter (step M) m p).j
structure Own(M:Nat)(owner:Array (Option Nat))(hs:List Int):Prop where
 size:owner.size=M+1
 has:∀ idx,idx<hs.length->∃ j:Nat,owner[j]?=some (some idx)
 at_:∀(j idx:Nat),owner[j]?=some (some idx)->idx<hs.length/\∃ m,wayM M (Bq M (bits (hs.getD idx 0)%(M+1)) (bits (hs.getD idx 0))) m=j/\∀ m',m'<m->(owner.getD (wayM M (Bq M (bits (hs.getD idx 0)%(M+1)) (bits (hs.getD idx 0))) m') (some 0)).isSome=true
 one:∀(j j' idx:Nat),owner[j]?=some (some idx)->owner[j']?=some (some idx)->j=j'
section
variable{prog:Program}{w:World}{A:Around}{E:Value->Shared->Prop}{s:Shared}
abbrev IK(prog:Program)(w:World)(h:Heap)(ks:List Int)(a:Addr):Prop:=IsTupleKey (intKind prog w) h ks a
abbrev hsh(prog:Program)(w:World)(ks:List Int):Int:=tupleKeyHash (intKind prog w) ks
end
def ledOf(w:World):Bool:=!w.params.followText "set-order"
structure TS(prog:Program)(w:World)(h:Heap)(S:Addr)(es:Array (Int×Value))(t:SetTable)(ks:List ⑫):Prop where
 obj:∃ o ep,h.get? S=some o/\o.ExactSet/\o.data=.set es ep t
 tab:Tab t
 len:es.size=t.place.size
 loc:Loc t (es.toList.map (·.1))
 els:es.toList=ks.map fun x=>(hsh prog w x.1,Value.ref x.2)
 nd:(ks.map (·.1)).Nodup
 few:t.place.size*5<t.mask*3
 pl:t.plain=true
 ld:t.led=ledOf w
structure Of(vals:Nat->List Int×Addr)(i:Nat)(ks:List ⑫):Prop where
 sub:∀ x∈ks,∃ j,j<i/\x=vals j
 sup:∀ j,j<i->(vals j).1∈ks.map (·.1)
 len:ks.length<=i
namespace F
end F
end ST
end
section
namespace ST
open PySem PySem.W PyProof.Rows
abbrev g(p:Array Nat)(k:Nat):Nat:=p.getD k 0
structure PP(n:Nat)(p:Array Nat):Prop where
 size:p.size=n
 lt:∀ k,k<n->g p k<n
 inj:∀ k k',k<n->k'<n->g p k=g p k'->k=k'
structure Tot(n:Nat)(lt:Nat->Nat->Bool):Prop where
 or:∀ i j,i<n->j<n->i≠j->lt i j=false->lt j i=true
 as:∀ i j,i<n->j<n->lt i j=true->lt j i=false
 tr:∀ i j k,i<n->j<n->k<n->lt i j=true->lt j k=true->lt i k=true
structure Row(prog:Program)(w:World)(h:Heap)(vs:List Value)(ks:List ⑫):Prop where
 vals:vs=ks.map fun x=>Value.ref x.2
 keys:∀ x∈ks,IK prog w h x.1 x.2
 full:∀ x∈ks,x.1≠[]
 nd:(ks.map (·.1)).Nodup
end ST
end
section
namespace L2
open PySem PySem.Spec PyProof.Rows
theorem Tc{prog:Program}{w:World}:∀{ns:List Int}{us:List Value},Vals ⑬ us->ItemsAre (intKind prog w) ns us
 | [],_,.nil=>.nil
 | n::ns,_,.cons ⟨t,e⟩ r=>by
  subst e;!.cons (intKind_is prog w n t) (Tc r)
end L2
end
section
namespace ST
open PySem PySem.W PyProof.Rows
structure RowE(prog:Program)(w:World)(h:Heap)(vs:List Value)(ks:List ⑫):Prop where
 vals:vs=ks.map fun x=>Value.ref x.2
 keys:∀ x∈ks,IK prog w h x.1 x.2
 nd:(ks.map (·.1)).Nodup
end ST
end
section
namespace L2
open PySem PySem.Spec PyProof.Rows
end L2
end
section
namespace SI
open PySem PySem.SetTable ST PyProof.Rows
structure IS(prog:Program)(w:World)(h:Heap)(S:Addr)(es:Array (Int×Value))(t:SetTable)(ks:List Int):Prop where
 obj:∃ o ep,h.get? S=some o/\o.ExactSet/\o.data=.set es ep t
 tab:Tab t
 len:es.size=t.place.size
 els:ElemsOf (intKind prog w) es.toList
 int:IntsAre (es.toList.map (·.2)) ks
 nd:ks.Nodup
 few:t.place.size*5<t.mask*3
 pl:t.plain=true
 ld:t.led=ledOf w
end SI
end
section
namespace SI
open PySem PySem.SetTable ST
open PyProof.Rows (IntsAre)
end SI
end
section
namespace SI
open PySem PySem.SetTable ST PyProof.Rows
end SI
end
section
namespace L2
open PySem PySem.Spec PyProof.Rows
end L2
end
section
namespace SI
open PySem PySem.SetTable ST PyProof.Rows
end SI
end
section
namespace L2
open PySem PySem.Spec PyProof.Rows
section
variable{X:Cx}{K:¨}
theorem min_list(hc:X.calm=true):CallR X (.builtin "min") (fun xs H Q=>∃(p:Addr) (ns:List Int),xs=[.ref p]/\SqL X.K H p ⑬/\0<ns.length/\∀ m,m∈ns->(∀ a∈ns,m<=a)->Q (.int m) H):=by
 intro pins s σ H xs us Q I r h;o⟨p,ns,rfl,hq,hne,q⟩:=h;o⟨u0,rfl,ru⟩:=r.one;cases ru;o⟨its,rv,pl,hz⟩:=I.list hq;h hi:=intsAre_of rv;h hl:=pl.isList;o⟨ys,e⟩:=hi.allInts.items;h hns:ns=ys.toList.map (·.1):=by rw[<- hi.numsOf,<- nums_intItems,<- e]
 h hsz:0<ys.size:=by
  rw[hns,─,┄] at hne;!hne
 rw[e] at hl;r min_intList (I.ok.hd hc) hl hsz fun v h' tk hv hk=>?_;o⟨t,rfl⟩:=intItems_at hv;o⟨h1,h2⟩:=argBest_lt (numAt ys) (ys.size-1);r⟨.int (numAt ys (argBest (fun i j=>decide (numAt ys i<numAt ys j)) (ys.size-1))),H,I.kept hk,⟨t,rfl⟩,q _ ?_ fun a ha=>?_⟩
 ·rw[hns,numAt_eq]
  !getD_mem (by rw[─,┄];w)
 ·rw[hns] at ha
  o⟨j,hj,rfl⟩:=mem_getD ha;rw[─,┄] at hj;rw[<- numAt_eq];!h2 j ¢
def rNeT(K:¨){α:Type}[DecidableEq α](R:Rep α):R2:=fun x y H Q=>∃ as bs,rTup K R H as x/\rTup K R H bs y/\Q (.bl (!decide (as=bs))) H
theorem AEU{α:Type}[DecidableEq α]{n:Nat}{R:Rep α}(D:Dat X n R)(hu:X.A.units+(n+1)<cLine):OpR X (compareOp .NotEq) (rNeT X.K R):=by
 intro pins s σ H x y v u Q I rx ry h;o⟨as,bs,⟨p,xs,rfl,hp,pa⟩,⟨q,ys,rfl,hq,pb⟩,h⟩:=h;cases rx;cases ry;o⟨its,ra,ta,_⟩:=I.tuple hp;o⟨jts,rb,tb,_⟩:=I.tuple hq;h l1:as.length=its.toArray.size:=by rw[┌,<- ra.length];!┅ pa
 h l2:bs.length=jts.toArray.size:=by rw[┌,<- rb.length];!┅ pb
 r SeqAt.RcNeAt.tuples (e:=fun j=>decide (as[j]?=bs[j]?)) ta tb ¢ (D.place (A:=X.A.in1) I (by show X.A.units+1+n<cLine;w) pa pb ra rb) X.prog X.w _ _ ?_;rw[HJ l1 l2];!⟨.bl _,H,I,rfl,h⟩
theorem ADP{α:Type}[DecidableEq α]{n:Nat}{R:Rep α}(D:Dat X n R)(hu:X.A.units+(n+1)<cLine)(hK:X.K=K):OpR X (compareOp .NotEq) (rNeT K R):=by subst hK;!AEU D hu
theorem ACa(hK:X.K=K):SlR X (rSlT K):=by subst hK;!AEZ
theorem Ys(hK:X.K=K)(hc:X.calm=true):CallR X (.builtin "min") (fun xs H Q=>∃(p:Addr) (ns:List Int),xs=[.ref p]/\SqL K H p ⑬/\0<ns.length/\∀ m,m∈ns->(∀ a∈ns,m<=a)->Q (.int m) H):=by subst hK;!min_list hc
end
end L2
end
section
namespace HT
open PySem PyProof.Rows
end HT
end
section
namespace ST
open PySem PySem.W PyProof.Rows
def PK(h:Heap)(k:List Int)(a:Addr):Prop:=∃(l v:Addr) (its:Array Value),IsTup h a #[.ref l,.ref v]/\h.IsList l its/\IntsAre its.toList k
structure RowP(h:Heap)(vs:List Value)(ks:List ⑫)(m:Nat):Prop where
 vals:vs=ks.map fun x=>Value.ref x.2
 keys:∀ x∈ks,PK h x.1 x.2
 nd:(ks.map (·.1)).Nodup
 len:∀ x∈ks,x.1.length=m
end ST
end
section
namespace L2
open PySem PySem.Spec PyProof.Rows
end L2
end
section
namespace ST
open PySem PySem.SetTable
end ST
namespace L2
open PySem PySem.Spec PyProof.Rows
end L2
end
section
namespace NK
open PySem
section
variable{P:Program}{w:World}{κ:Type}[DecidableEq κ](kd:KeyKind P w κ)
def IsP(g:Heap)(p:κ×List κ)(x:Addr):Prop:=∃ ob its c v b,g.get? x=some ob/\ob.cls=.type "tuple"/\ob.data=.seq its c/\its.toList=[v,.ref b]/\kd.is p.1 v=true/\IsTupleKey kd g p.2 b
def hashP(p:κ×List κ):Int:=reduceHash (Builtin.Tuple.tupleHashOf [kd.hash p.1,tupleKeyHash kd p.2])
variable{kd}
theorem IsP.ty{s:Shared}{p:κ×List κ}{x:Addr}(h:IsP kd s.heap p x):s.TypeIs (.ref x) "tuple":=by
 o⟨ob,_,_,_,_,e,c,_⟩:=h;!⟨ob,e,c⟩
theorem IsP.one{g:Heap}{p q:κ×List κ}{x:Addr}(h:IsP kd g p x)(h':IsP kd g q x):p=q:=by
 o⟨ob,its,c,v,b,e,_,d,l,k,t⟩:=h;o⟨ob',its',c',v',b',e',_,d',l',k',t'⟩:=h';obtain rfl:ob=ob':=Option.some.inj (e.symm.trans e');rw[d] at d';obtain ⟨rfl,rfl⟩:its=its'/\c=c':=by cases d';!⟨rfl,rfl⟩
 rw[l] at l';injection l' with z1 z2
 injection z2 with z2 _
 injection z2 with z2
 subst z1;subst z2;!Prod.ext (kd.inj _ _ _ k k') (t.inj t')
theorem IsP.stays{g g':Heap}{p:κ×List κ}{x y:Addr}{ob:Obj}{es ep}(h:IsP kd g p x)(e:g.get? y=some ob)(d:ob.data=.dict es ep)(sb:Heap.SameBut y g g'):IsP kd g' p x:=by
 o⟨o1,its,c,v,b,e1,c1,d1,l,k,t⟩:=h;h ne:x≠y:=fun z=>by
  rw[z,e] at e1;cases e1;rw[d] at d1;cases d1
 !⟨o1,its,c,v,b,(sb.2 x ne).trans e1,c1,d1,l,k,t.keeps e d sb⟩
variable{A:Around}{E:Value->Shared->Prop}{s:Shared}
theorem Yj{p:κ×List κ}{x:Addr}{R:Int->Shared->Prop}(hu:A.units+1<cLine)(h:IsP kd s.heap p x)(q:R (hashP kd p) {s with toks:=s.toks+(p.2.length+3)}):wpAny (model P w) A (pyHash (.ref x)) R E s:=by
 h ty:=h.ty;o⟨ob,its,c,v,b,e,_,d,l,k,t⟩:=h;unfold pyHash
 first | unfold pyHashByItsType | skip
 first | r wpAny_bind (wpAny_cRoomFor_or (.inr ¢) ?_) | skip
 b(wpAny_specialOf ty PySem.F.slot_tuple_hash.lookup ?_);show wpAny _ _ (if (some (Value.builtin "tuple.__hash__")==some Value.none)=true then _ else _) _ _ _;rw[if_neg (by rw[beq_builtin_none];!Bool.false_ne_true)];b(wpAny_specialOf ty PySem.F.slot_tuple_hash.lookup ?_);show wpAny _ _ (callSpecialIfBoundUnlessNone? (.ref x) "__hash__" _ >>= _) _ _ _;b(wpAny_callSpecialIfBoundUnlessNone?_slot ty PySem.F.slot_tuple_hash (wpAny_call_entry PySem.F.slot_tuple_hash ty PySem.F.entry_tuple_hash ?_ (PySem.F.args_tuple_hash_1 _)));show wpAny _ _ (Builtin.Tuple.tupleItemsOf (.ref x) >>= _) _ _ _;b(wpAny_tupleItemsOf e d (wpAny_bind ?_));rw[<- Array.forIn_toList,l];r wpAny_forIn_list _ (fun rest (z:Array Int) s'=>(rest=[v,.ref b]/\z=#[]/\s'=s)\/(rest=[.ref b]/\z=#[kd.hash p.1]/\s'={s with toks:=s.toks+1})\/(rest=[]/\z=#[kd.hash p.1,tupleKeyHash kd p.2]/\s'={s with toks:=s.toks+1+(p.2.length+1)}))
  _ ?_ ?_ _ _ (.inl ⟨rfl,rfl,rfl⟩)
 ·rintro y rest z s' (⟨er,rfl,rfl⟩ | ⟨er,rfl,rfl⟩ | ⟨er,_⟩)
  ·cases er
   b(kd.pyHash k ?_)
   first
    | !wpAny_pure (.inr (.inl ⟨rfl,rfl,rfl⟩))
    | !wpAny_bind (wpAny_pure (wpAny_pure (.inr (.inl ⟨rfl,rfl,rfl⟩))))
  ·cases er
   b(wpAny_pyHash_tuple (by show A.units+1<cLine;!hu) t ?_)
   first
    | !wpAny_pure (.inr (.inr ⟨rfl,rfl,rfl⟩))
    | !wpAny_bind (wpAny_pure (wpAny_pure (.inr (.inr ⟨rfl,rfl,rfl⟩))))
  ·cases er
 ·rintro z s' (⟨er,_⟩ | ⟨er,_⟩ | ⟨_,rfl,rfl⟩)
  ·cases er
  ·cases er
  ·h et:{s with toks:=s.toks+1+(p.2.length+1)+1}={s with toks:=s.toks+(p.2.length+3)}:=by
    congr 1
    w
   show wpAny _ _ (retInt (Builtin.Tuple.tupleHashOf [kd.hash p.1,tupleKeyHash kd p.2])) _ _ _;r wpAny_ret_mkInt ?_;unfold hashP reduceHash at q;generalize Builtin.Tuple.tupleHashOf [kd.hash p.1,tupleKeyHash kd p.2]=hv at q;show wpAny _ _ (if (decide (-(2:Int) ^ 63<=hv)&&decide (hv<2 ^ 63))=true then _ else _) _ _ _;by_cases c0:(decide (-(2:Int) ^ 63<=hv)&&decide (hv<2 ^ 63))=true
   ·rw[if_pos c0] at q ⊢
    r wpAny_pure ?_;rw[<- et] at q;!q
   ·rw[if_neg c0] at q ⊢
    b(wpAny_rule (wpAny_pure ?_));rw[<- et] at q;!q
theorem ACd{p q:κ×List κ}{x y:Addr}{R:Fin->Shared->Prop}(hu:A.units<cLine)(h:IsP kd s.heap p x)(h':IsP kd s.heap q y)(r:R (.done (.ret (.bool (decide (p=q))))) s) :
  wpAny (model P w) A (Builtin.«tuple.__eq__» ⟨[.ref x,.ref y],[]⟩) R E s:=by
 h ty:=h'.ty;o⟨o1,i1,c1,v1,b1,e1,_,d1,l1,k1,t1⟩:=h;o⟨o2,i2,c2,v2,b2,e2,_,d2,l2,k2,t2⟩:=h';show wpAny _ _ (isInstance (.ref y) (.type "tuple") >>= _) _ _ _;b(wpAny_isInstance ty isSubtype_tuple_tuple ?_);simp only[Bool.not_true,Bool.false_eq_true,if_false];b(wpAny_tupleItemsOf e1 d1 (wpAny_bind (wpAny_tupleItemsOf e2 d2 (wpAny_bind ?_))));h sz:(i1.size==i2.size)=true:=by
  h z1:i1.size=2:=by rw[<- ┄,l1];rfl
  h z2:i2.size=2:=by rw[<- ┄,l2];rfl
  rw[z1,z2];rfl
 rw[l1,l2];r wpAny_forIn_list _ (fun rest z s'=>z.1=none/\s'=s/\(rest=[(v1,v2),(.ref b1,.ref b2)]\/(rest=[(.ref b1,.ref b2)]/\p.1=q.1)\/(rest=[]/\p=q))) _ ?_ ?_ _ _ ⟨rfl,rfl,.inl rfl⟩
 ·rintro⟨u,v⟩ rest z s' ⟨hz,rfl,er | ⟨er,pq⟩ | ⟨er,_⟩⟩
  ·cases er
   b(kd.eqBool (a:=p.1) (b:=q.1) k1 k2 ?_);by_cases c:p.1=q.1
   ·rw[decide_eq_true c]
    simp only[Bool.not_true,Bool.false_eq_true,if_false];!wpAny_pure ⟨rfl,rfl,.inr (.inl ⟨trivial,c⟩)⟩
   ·rw[decide_eq_false c]
    simp only[Bool.not_false,if_true];rw[decide_eq_false (fun z=>c (by rw[z]))] at r;!wpAny_bind (wpAny_pure (wpAny_pure (wpAny_pure r)))
  ·cases er
   b(wpAny_eqBool_tuple hu t1 t2 ?_);by_cases c:p.2=q.2
   ·rw[decide_eq_true c]
    simp only[Bool.not_true,Bool.false_eq_true,if_false];!wpAny_pure ⟨rfl,rfl,.inr (.inr ⟨trivial,Prod.ext pq c⟩)⟩
   ·rw[decide_eq_false c]
    simp only[Bool.not_false,if_true];rw[decide_eq_false (fun z=>c (by rw[z]))] at r;!wpAny_bind (wpAny_pure (wpAny_pure (wpAny_pure r)))
  ·cases er
 ·rintro⟨z1,z2⟩ s' ⟨hz,rfl,er | ⟨er,_⟩ | ⟨_,pq⟩⟩
  ·cases er
  ·cases er
  ·dsimp only at hz
   subst hz;r wpAny_pure ?_;rw[decide_eq_true pq] at r;show R (.done (.ret (.bool (i1.size==i2.size)))) s';rw[sz];!r
theorem ACw{p q:κ×List κ}{x y:Addr}{R:Bool->Shared->Prop}(hu:A.units+1<cLine)(h:IsP kd s.heap p x)(h':IsP kd s.heap q y)(r:R (decide (p=q)) s):wpAny (model P w) A (eqBool (.ref x) (.ref y)) R E s:=by
 unfold eqBool
 try with_reducible r wpAny_holding ?_
 show wpAny _ _ (if (Value.ref x==Value.ref y)=true then _ else _) _ _ _;by_cases c:(Value.ref x==Value.ref y)=true
 ·rw[if_pos c]
  obtain rfl:x=y:=by have z:=eq_of_beq c;injection z
  obtain rfl:=h.one h';rw[decide_eq_true rfl] at r;!wpAny_bind (wpAny_rule (wpAny_pure r))
 ·rw[if_neg c]
  b(wpAny_richCompare_same_room (op:=.Eq) h.ty h'.ty PySem.F.slot_tuple_eq (wpAny_call_entry PySem.F.slot_tuple_eq h.ty PySem.F.entry_tuple_eq (ACd ?_ h h' ⟨_,rfl,(fun e=>nomatch e),wpAny_truthy_bool r⟩) (PySem.F.args_tuple_eq_2 _ _)) ¢);show A.units+1<cLine;!hu
theorem Tf{ks:List κ}{x:Addr}{n:Nat}{R:Bool->Shared->Prop}(h:IsTupleKey kd s.heap ks x)(r:R true s):wpAny (model P w) A (eqIsQuiet (n+1) (.ref x)) R E s:=by
 h ty:=h.typeIs;o⟨ob,its,c,e,_,d,ia⟩:=h;unfold eqIsQuiet;b(wpAny_specialOf ty PySem.F.slot_tuple_eq.lookup ?_);show wpAny _ _ (isInstance (.ref x) (.type "tuple") >>= _) _ _ _;b(wpAny_isInstance ty isSubtype_tuple_tuple ?_);simp only[Bool.not_true,Bool.false_eq_true,if_false];b(wpAny_seqItems e d (wpAny_bind ?_));show wpAny _ _ (forIn its _ _) _ _ _;rw[<- Array.forIn_toList];r wpAny_forIn_list _ (fun rest z s'=>z.1=none/\s'=s/\∀ v∈rest,carriedByValue v=true) _ (fun v rest z s' ⟨hz,es,al⟩=>?_) (fun z s' ⟨hz,es,_⟩=>?_) _ _ ⟨rfl,rfl,ia.byValue⟩
 ·subst es
  rw[eqIsQuiet_byValue _ (al v ´)];b(wpAny_pure ?_);simp only[Bool.not_true,Bool.false_eq_true,if_false];!wpAny_pure ⟨rfl,rfl,fun u h=>al u (¶ _ h)⟩
 ·subst es
  o⟨z1,z2⟩:=z;dsimp only at hz;subst hz;!wpAny_pure r
theorem Ul{p:κ×List κ}{x:Addr}{R:Bool->Shared->Prop}(h:IsP kd s.heap p x)(r:R true s):wpAny (model P w) A (eqIsQuiet 8 (.ref x)) R E s:=by
 h ty:=h.ty;o⟨ob,its,c,v,b,e,_,d,l,k,t⟩:=h;unfold eqIsQuiet;b(wpAny_specialOf ty PySem.F.slot_tuple_eq.lookup ?_);show wpAny _ _ (isInstance (.ref x) (.type "tuple") >>= _) _ _ _;b(wpAny_isInstance ty isSubtype_tuple_tuple ?_);simp only[Bool.not_true,Bool.false_eq_true,if_false];b(wpAny_seqItems e d (wpAny_bind ?_));show wpAny _ _ (forIn its _ _) _ _ _;rw[<- Array.forIn_toList,l];r wpAny_forIn_list _ (fun rest z s'=>z.1=none/\s'=s/\(rest=[v,.ref b]\/rest=[.ref b]\/rest=[])) _ (fun u rest z s' ⟨hz,es,er⟩=>?_) (fun z s' ⟨hz,es,_⟩=>?_) _ _ ⟨rfl,rfl,.inl rfl⟩
 ·subst es
  rcases er with er | er | er
  ·cases er
   rw[eqIsQuiet_byValue _ (kd.byValue _ _ k)];b(wpAny_pure ?_);simp only[Bool.not_true,Bool.false_eq_true,if_false];!wpAny_pure ⟨rfl,rfl,.inr (.inl trivial)⟩
  ·cases er
   b(Tf t ?_);simp only[Bool.not_true,Bool.false_eq_true,if_false];!wpAny_pure ⟨rfl,rfl,.inr (.inr trivial)⟩
  ·cases er
 ·subst es
  o⟨z1,z2⟩:=z;dsimp only at hz;subst hz;!wpAny_pure r
end
def EY{P:Program}{w:World}{κ:Type}[DecidableEq κ](kd:KeyKind P w κ):HeapKind P w (κ×List κ) where
 is:=IsP kd
 hash:=hashP kd
 draws:=fun p=>p.2.length+3
 room:=fun A=>A.units+1<cLine
 inj:=fun a b=>a.one b
 keeps:=fun a b c d=>a.stays b c d
 pyHash:=fun a b c=>Yj a b c
 eqBool:=fun a b c d=>ACw a b c d
 quiet:=fun a b=>Ul a b
end NK
end
section
namespace L2
open PySem
end L2
end
section
namespace RT
open PySem
end RT
namespace L2
open PySem
end L2
end
section
namespace NK
open PySem
def oIs:Option Int->Value->Bool
 | some i,v=>Value.isInt i v
 | none,v=>match v with
  | .none=>true
  | _=>false
def oHash:Option Int->Int
 | some i=>hashInt i
 | none=>reduceHash 0xFCA86420
theorem Cm:∀{k:Option Int}{v:Value},oIs k v=true->(∃ i t,k=some i/\v=Value.int i t)\/(k=none/\v=Value.none)
 | some i,v,h=>by
  o⟨t,e⟩:=Value.isInt_shape (k:=i) (v:=v) h;!.inl ⟨i,t,rfl,e⟩
 | none,v,h=>by
  cases v<;>first | !.inr ⟨rfl,rfl⟩ | cases h
theorem hash_none{P:Program}{w:World}{A:Around}{E:Value->Shared->Prop}{s:Shared}{Q:Int->Shared->Prop}(h:Q (reduceHash 0xFCA86420) {s with toks:=s.toks+1}):wpAny (model P w) A (pyHash .none) Q E s :=
 PySem.W.pyHash_slot (T:="NoneType") rfl PySem.F.slot_NoneType_hash PySem.F.entry_NoneType_hash (PySem.F.args_NoneType_hash_1 _) (beq_builtin_none _) (.inl rfl) (wpAny_bind (wpAny_pure (wpAny_bind (wpAny_mkInt (wpAny_pure ⟨_,_,rfl,h⟩)))))
def optKind(P:Program)(w:World):KeyKind P w (Option Int) where
 is:=oIs
 hash:=oHash
 inj:=fun v a b ha hb=>by
  rcases Cm ha with⟨i,t,rfl,rfl⟩ | ⟨rfl,rfl⟩
  ·rcases Cm hb with⟨j,u,rfl,e⟩ | ⟨rfl,e⟩
   ·injection e with e1 _;rw[e1]
   ·cases e
  ·rcases Cm hb with⟨j,u,rfl,e⟩ | ⟨rfl,e⟩
   ·cases e
   ·rfl
 byValue:=fun k v h=>by
  rcases Cm h with⟨i,t,rfl,rfl⟩ | ⟨rfl,rfl⟩<;>rfl
 pyHash:=fun hv h=>by
  rcases Cm hv with⟨i,t,rfl,rfl⟩ | ⟨rfl,rfl⟩
  ·!wpAny_pyHash_int h
  ·!hash_none h
 eqBool:=fun hu hv h=>by
  rcases Cm hu with⟨i,t,rfl,rfl⟩ | ⟨rfl,rfl⟩
  ·rcases Cm hv with⟨j,u,rfl,rfl⟩ | ⟨rfl,rfl⟩
   ·h e:decide ((some i:Option Int)=some j)=(i==j):=by
     by_cases c:i=j
     ·subst c;simp
     ·rw[decide_eq_false (fun z=>c (Option.some.inj z))]
      !(beq_eq_false_iff_ne.mpr c).symm
    rw[e] at h;!wpAny_eqBool_int h
   ·!SeqAt.EqAt.int_none i t _ _ _ _ h
  ·rcases Cm hv with⟨j,u,rfl,rfl⟩ | ⟨rfl,rfl⟩
   ·!SeqAt.EqAt.none_int j u _ _ _ _ h
   ·!SeqAt.EqAt.same .none _ _ _ _ h
 «strs»:=fun k x t v h=>by
  rcases Cm h with⟨i,u,rfl,e⟩ | ⟨rfl,e⟩
  ·cases e
  ·cases e
end NK
end
section
namespace L2
open PySem
def oV:Option Int->V
 | some i=>.int i
 | none=>.non
theorem AEH{P:Program}{w:World}{k:Option Int}{u:Value}(r:RelV (oV k) u):(NK.optKind P w).is k u=true:=by
 cases k with
 | some i =>
  o⟨t,rfl⟩:=r;show Value.isInt i (.int i t)=true;simp[Value.isInt]
 | none =>
  cases r;rfl
theorem oV_items{P:Program}{w:World}:∀{ks:List (Option Int)}{us:List Value},Vals (ks.map oV) us->ItemsAre (NK.optKind P w) ks us
 | [],_,r=>by rw[List.map_nil] at r;cases r;!.nil
 | k::ks,_,r=>by
  rw[List.map_cons] at r;cases r with
  | cons h t=>!.cons (AEH h) (oV_items t)
abbrev OKey:=Option Int×List (Option Int)
def dO(P:Program)(w:World)(a:Addr)(xs:List (OKey×Addr×Value)):HO:=.ext fun g=>∃ o es ep,g.get? a=some o/\o.ExactDict/\o.data=.dict es ep/\es.toList=xs.map (entryOfKey (NK.EY (NK.optKind P w)))/\(xs.map (·.1)).Nodup
def OAt(K:¨)(H:Hp)(p:OKey)(x:Addr):Prop:=∃ b,H x=some (.tup [oV p.1,.ref b])/\SqT K H b (p.2.map oV)
theorem OAt.ts{K:¨}{H H':Hp}{p:OKey}{x:Addr}(h:OAt K H p x)(t:TSm H H'):OAt K H' p x:=let ⟨b,e1,e2⟩:=h;⟨b,t _ _ e1 ⟨_,.inl rfl⟩,t.seq e2⟩
abbrev KO(K:¨)(H:Hp):List (OKey×V)->List (OKey×Addr×Value)->Prop:=Paired fun p q=>p.1=q.1/\OAt K H p.1 q.2.1/\RelV p.2 q.2.2
def DO(K:¨)(P:Program)(w:World)(H:Hp)(a:Addr)(kvs:List (OKey×V)):Prop:=kvs.length<=sizeLine/\(a==sysModules)=false/\∃ xs,H a=some (dO P w a xs)/\KO K H kvs xs
theorem DO.keep{K:¨}{P:Program}{w:World}{H H':Hp}{a:Addr}{kvs:List (OKey×V)}(h:DO K P w H a kvs)(e:∀ o,H a=some o->H' a=some o)(t:TSm H H'):DO K P w H' a kvs:=by
 o⟨z,y,xs,e1,r⟩:=h;!⟨z,y,xs,e _ e1,Paired.imp (fun _ _ q=>⟨q.1,q.2.1.ts t,q.2.2⟩) r⟩
theorem KO.val{K:¨}{H:Hp}{kvs:List (OKey×V)}{xs:List (OKey×Addr×Value)}(r:KO K H kvs xs)(k:OKey):RelO (valV kvs k) ((atKey xs k).map (·.2)):=by
 induction r with
 | nil=>!True.intro
 | @cons p q ps qs h t ih =>
  by_cases e:p.1=k
  ·h b:atKey (q::qs) k=some q.2:=by simp[atKey,List.find?_cons,h.1.symm.trans e]
   rw[CT e,b];!h.2.2
  ·h b:atKey (q::qs) k=atKey qs k:=by simp[atKey,List.find?_cons,show ¬ q.1=k from fun z=>e (h.1.trans z)]
   rw[CQ e,b];!ih
theorem KO.put{K:¨}{H:Hp}{kvs:List (OKey×V)}{xs:List (OKey×Addr×Value)}(r:KO K H kvs xs){k:OKey}{b:Addr}{y:V}{u:Value}(hb:OAt K H k b)(ry:RelV y u)(new:valV kvs k=none):KO K H (putK kvs k y) (storedH xs k b u):=by
 h e:atKey xs k=none:=by
  h z:=(r.val k).isSome_eq;rw[new,Option.isSome_map] at z;cases g:atKey xs k with
  | none=>rfl
  | some q=>rw[g] at z;cases z
 rw[Ii y new,storedH_new e];!Paired.snoc r ⟨rfl,hb,ry⟩
section
variable{X:Cx}{pins:List ⑥}{σ:St}{H:Hp}{s:Shared}{a:Addr}
theorem Hw{p:OKey}{x:Addr}(I:Inv X pins σ H s)(e:OAt X.K H p x):(NK.EY (NK.optKind X.prog X.w)).is s.heap p x:=by
 o⟨b,e1,e2⟩:=e;o⟨_,its,r,o,h1,h2,n,h3⟩:=(show ObjOk X.prog X.w H s.heap x (.tup [oV p.1,.ref b]) from I.hok x _ e1);o⟨us,ru,⟨o2,g1,g2,n2,g3⟩,_⟩:=I.tuple e2;cases r with
 | @cons _ v _ _ r1 r =>
  cases r with
  | @cons _ v2 _ _ r2 r =>
   cases r;cases r2;!⟨o,_,n,v,b,h1,h2,h3,rfl,AEH r1,o2,us.toArray,n2,g1,g2,g3,by u oV_items ru⟩
theorem Xk{kvs:List (OKey×V)}(I:Inv X pins σ H s)(d:DO X.K X.prog X.w H a kvs):kvs.length<=sizeLine/\(a==sysModules)=false/\∃ xs,H a=some (dO X.prog X.w a xs)/\KO X.K H kvs xs/\s.heap.DictOfH (NK.EY (NK.optKind X.prog X.w)) a xs:=by
 o⟨z,y,xs,e,r⟩:=d;o⟨⟨o,es,ep,h1,h2,h3,h4,h5⟩,_⟩:=(show ObjOk X.prog X.w H s.heap a (dO X.prog X.w a xs) from I.hok a _ e);r⟨z,y,xs,e,r,o,es,ep,h1,h2,h3,h4,fun x hx=>?_,h5⟩;o⟨i,hi⟩:=List.mem_iff_getElem?.mp hx;o⟨p,_,e1,e2,_⟩:=Paired.get r hi;rw[<- e1];!Hw I e2
end
section
variable{P:Program}{w:World}{H:Hp}{h:Heap}{a:Addr}
theorem Zu{xs:List (OKey×Addr×Value)}{H':Hp}(d:h.DictOfH (NK.EY (NK.optKind P w)) a xs):ObjOk P w H' h a (dO P w a xs):=by
 o⟨o,es,ep,h1,h2,h3,h4,_,h5⟩:=d;r⟨⟨o,es,ep,h1,h2,h3,h4,h5⟩,⟨o,h1⟩,fun g1 g2 ⟨o',es',ep',z1,z2⟩ st=>⟨o',es',ep',st _ z1,z2⟩⟩
end
section
variable{X:Cx}{pins:List ⑥}{σ:St}{H:Hp}{s:Shared}{a:Addr}{A:Around}{E:Value->Shared->Prop}
def OGet(K:¨)(P:Program)(w:World)(H:Hp)(a:Addr)(y:V)(r:Option V):Prop:=∃ kvs p x,DO K P w H a kvs/\y=.ref x/\OAt K H p x/\valV kvs p=r
theorem AEv{y:V}{r:Option V}(I:Inv X pins σ H s)(g:OGet X.K X.prog X.w H a y r):s.TypeIs (.ref a) "dict":=by
 o⟨kvs,p,x,d,_⟩:=g;o⟨_,_,xs,_,_,dd⟩:=Xk I d;!dd.typeIs
theorem Yd{y v:V}{u:Value}{Q:Value->Shared->Prop}(hu:A.units+2<cLine)(I:Inv X pins σ H s)(g:OGet X.K X.prog X.w H a y (some v))(ry:RelV y u)(q:∀ w' s',Inv X pins σ H s'->RelV v w'->Q w' s'):wpAny ③ A (getItem (.ref a) u) Q E s:=by
 o⟨kvs,p,x,d,rfl,k,l⟩:=g;cases (show u=Value.ref x from ry);o⟨z,hd,xs,e,rel,dd⟩:=Xk I d;o⟨w',hw,rw'⟩:=RelO.some_of (v:=v) (o:=(atKey xs p).map (·.2)) (by rw[<- l];!rel.val p);o⟨pv,hp,hp2⟩:=Option.map_eq_some_iff.mp hw;r wpAny_getItem_heap (knd:=NK.EY (NK.optKind X.prog X.w)) (k:=p) (by show A.units+1+1<cLine;w) (Hw I k) dd hp ?_;rw[hp2];!q w' _ (I.tok _) rw'
theorem ADp{y:V}{r:Option V}{u:Value}{Q:Value->Shared->Prop}(hu:A.units+2<cLine)(I:Inv X pins σ H s)(g:OGet X.K X.prog X.w H a y r)(ry:RelV y u)(q:∀ s',Inv X pins σ H s'->Q (.bool (!r.isSome)) s'):wpAny ③ A (compareOp .NotIn u (.ref a)) Q E s:=by
 o⟨kvs,p,x,d,rfl,k,l⟩:=g;cases (show u=Value.ref x from ry);o⟨z,hd,xs,e,rel,dd⟩:=Xk I d;r PyProof.Rows.wpAny_notIn_heap (knd:=NK.EY (NK.optKind X.prog X.w)) (k:=p) (by show A.units+1+1<cLine;w) (Hw I k) hd dd ?_;h c:=(rel.val p).isSome_eq;rw[Option.isSome_map] at c;rw[<- c,l];!q _ (I.tok _)
theorem YK{y v:V}{u r:Value}{kvs:List (OKey×V)}{p:OKey}{x:Addr}{Q:Unit->Shared->Prop}(hu:A.units+2<cLine)(I:Inv X pins σ H s)(d:DO X.K X.prog X.w H a kvs)(ey:y=.ref x)(k:OAt X.K H p x)(new:valV kvs p=none)(hl:kvs.length<sizeLine)(ry:RelV y u)(rv:RelV v r)
  (q:∀(H':Hp) s',(∀ b,b≠a->H' b=H b)->DO X.K X.prog X.w H' a (putK kvs p v)->Inv X pins σ H' s'->Q () s'):wpAny ③ A (setItem (.ref a) u r) Q E s:=by
 subst ey;cases (show u=Value.ref x from ry);o⟨z,hd,xs,e,rel,dd⟩:=Xk I d;h hz:xs.length<=sizeLine:=by rw[<- ┅ rel];!z
 r wpAny_setItem_heap (hsz:=hz) (knd:=NK.EY (NK.optKind X.prog X.w)) (k:=p) (by show A.units+1+1<cLine;w) (Hw I k) dd fun h' dd' hs=>?_;h he:∃ o,h'.get? a=some o:=let ⟨o,_,_,ho,_⟩:=dd';⟨o,ho⟩
 h tE:TSm H (upd H a (dO X.prog X.w a (storedH xs p x r))):=fun b u hb t=>by
  rw[Ag (fun z=>by
   rw[z,e] at hb;cases hb;o⟨ys,e | ⟨o,e⟩⟩:=t
   ·cases e
   ·cases e)]
  !hb
 r q (upd H a (dO X.prog X.w a (storedH xs p x r))) _ (fun b hb=>Ag hb) ⟨?_,hd,_,Ab,Paired.imp (fun _ _ c=>⟨c.1,c.2.1.ts tE,c.2.2⟩) (KO.put rel k rv new)⟩ (Jv I (by rw[e];!True.intro) hs he (Zu dd'));rw[Ii v new,│,List.length_singleton];w
end
def AFJ(K:¨)(P:Program)(w:World):TE:=fun _ H Q=>∀ p,H p=none->DO K P w (upd H p (dO P w p [])) p []->Q (.ref p) (upd H p (dO P w p []))
def AFy(K:¨)(P:Program)(w:World)(td ty:TE):TE:=fun σ H Q=>td σ H fun x H1=>ty σ H1 fun y H2=>∃ a v,x=.ref a/\OGet K P w H2 a y (some v)/\Q v H2
def ACr(K:¨)(P:Program)(w:World)(ty td:TE):TE:=fun σ H Q=>ty σ H fun y H1=>td σ H1 fun x H2=>∃ a r,x=.ref a/\OGet K P w H2 a y r/\Q (.bl (!r.isSome)) H2
def AGD(K:¨)(P:Program)(w:World)(td ty tv:TE):TS:=fun D σ H=>tv σ H fun v H1=>td σ H1 fun x H2=>ty σ H2 fun y H3=>∃ a kvs p b,x=.ref a/\y=.ref b/\DO K P w H3 a kvs/\OAt K H3 p b/\valV kvs p=none/\kvs.length<sizeLine /\
 ∀ H4,(∀ c,c≠a->H4 c=H3 c)->DO K P w H4 a (putK kvs p v)->D.nx σ H4
section
variable{X:Cx}{o i e value:Expr}{pos pos' tpos:Pos}{td ty tv:TE}
theorem AAx:PE X (.Dict [] [] pos) (AFJ X.K X.prog X.w):=fun pins s σ H Q I h=>by
 h hn:=I.hok.fresh (Nat.le_refl ¸);h ns:(¸==sysModules)=false:=beq_eq_false_iff_ne.mpr (Ne.symm (Nat.ne_of_lt I.big));r wpAny_Dict_empty ⟨.ref ¸,_,I.laid (a:=¸) (o:=dO X.prog X.w ¸ []) (t':=s.toks) (fun _ _ q=>° _ q) ② (Zu (Heap.DictOfH.new _)),rfl,h _ hn ⟨Nat.zero_le _,ns,[],Ab,.nil⟩⟩
theorem ADg(hu:X.A.units+2<cLine)(ho:PE X o td)(hi:PE X i ty)(hs:NoSl i):PE X (.Subscript o i pos) (AFy X.K X.prog X.w td ty):=by
 intro pins s σ H Q I h;r Vz PySem.F.slot_dict_getitem.lookup hs (thn (ho pins s σ H _ I h) fun u s1 ⟨x,H1,I1,rx,q1⟩=>thn (hi pins s1 σ H1 _ I1 q1) fun iv s2 ⟨y,H2,I2,ry,a,v,ex,g,q2⟩=>?_);subst ex;obtain rfl:u=Value.ref a:=rx;!⟨AEv I2 g,Yd hu I2 g ry fun w' s3 I3 rw'=>⟨v,H2,I3,rw',q2⟩⟩
theorem YB(hu:X.A.units+2<cLine)(hi:PE X i ty)(ho:PE X o td):PC X .NotIn i o (ACr X.K X.prog X.w ty td):=by
 intro pins s σ H Q I h;r thn (hi pins s σ H _ I h) fun iv s1 ⟨y,H1,I1,ry,q1⟩=>thn (ho pins s1 σ H1 _ I1 q1) fun u s2 ⟨x,H2,I2,rx,a,r,ex,g,q2⟩=>?_;subst ex;obtain rfl:u=Value.ref a:=rx;!ADp hu I2 g ry fun s3 I3=>⟨.bl (!r.isSome),H2,I3,rfl,q2⟩
theorem ADq(hu:X.A.units+2<cLine)(ho:PE X o td)(hi:PE X i ty)(hv:PE X value tv)(hs:swapsWith value (some (.Subscript o i pos')) pos.line X.env=pure false):PS X (.Assign [.Subscript o i pos'] value pos) (AGD X.K X.prog X.w td ty tv):=by
 intro pins s σ H D I h;r wpAny_Assign_Subscript (thn (hv pins s σ H _ I h) fun r s1 ⟨v,H1,I1,rv,q1⟩=>thn (ho pins s1 σ H1 _ I1 q1) fun u s2 ⟨x,H2,I2,rx,q2⟩=>thn (hi pins s2 σ H2 _ I2 q2) fun iv s3 ⟨y,H3,I3,ry,a,kvs,p,b,ex,ey,d,k,new,hl,q3⟩=>?_) hs;subst ex;obtain rfl:u=Value.ref a:=rx;!YK hu I3 d ey k new hl ry rv fun H4 s4 oth d4 I4=>⟨σ,H4,I4,q3 H4 oth d4⟩
end
end L2
end
section
namespace K42
open PySem L2
def top(i:Nat):Stmt:=PySem.Challenge.pw_frontways_k42_whole_woods_grown.main.body.getD i (.Pass ⟨0,0,0,0⟩)
abbrev Et:Stmt:=inClass (top 27) 0
abbrev Nb:Stmt:=inClass (top 27) 1
abbrev Mt:Stmt:=inClass (top 27) 2
abbrev sAt:Stmt:=inClass (top 27) 3
abbrev ZR:Stmt:=top 28
abbrev Ze:Stmt:=top 29
abbrev Xp:Stmt:=top 30
abbrev Hg:Stmt:=top 33
abbrev HX:Stmt:=top 34
abbrev JM:Stmt:=top 21
abbrev FT:Stmt:=top 23
abbrev Hh:Stmt:=inClass (top 22) 0
abbrev FW:Stmt:=inClass (top 22) 1
abbrev Ou:Stmt:=inClass (top 22) 2
abbrev PJ:Stmt:=inClass (top 36) 3
abbrev Im:Stmt:=inClass (top 38) 1
abbrev Ip:Stmt:=inClass (top 38) 2
abbrev Gh:Stmt:=inClass (top 38) 3
abbrev ZX:Stmt:=inClass (top 38) 4
abbrev Fx:Stmt:=top 40
abbrev Oe:Stmt:=top 42
abbrev Yw:Stmt:=top 43
abbrev JH:Stmt:=top 44
abbrev Iw:Stmt:=top 45
abbrev UG:Stmt:=top 46
abbrev Fi:Stmt:=top 47
abbrev Fb:Stmt:=top 48
abbrev Gj:Stmt:=top 49
abbrev Es:Stmt:=top 50
abbrev JR:Stmt:=top 51
theorem ja:¬ (("amount" : Str) = "joints"):=by decide +kernel
def flds(z:Int)(j:Addr):List (Str×V):=putF "joints" (.ref j) (putF "amount" (.int z) [])
theorem GF(z:Int)(j:Addr):(flds z j).lookup ("amount" : Str)=some (.int z):=by
 unfold flds;rw[Ai,if_neg ja,Ai,if_pos rfl]
theorem JV(z:Int)(j:Addr):(flds z j).lookup ("joints" : Str)=some (.ref j):=by
 unfold flds;rw[Ai,if_pos rfl]
theorem Ck(z:Int)(j:Addr){m:Str}(h1:¬ m = "joints")(h2:¬ m = "amount"):(flds z j).lookup m=none:=by
 unfold flds;rw[Ai,if_neg h1,Ai,if_neg h2]
 all_goals rfl
structure Txt(K:¨)(mg:Str->Option Value)(C:Addr):Prop where
 cl:Cls K C
 nA:NoAttr K C "amount"
 nJ:NoAttr K C "joints"
 mgC:mg "Web" = some (.ref C)
 mp:∃ t,mg "MOST_POINTS" = some (.int 10 t)
 mt:∃ t,mg "MOST_TIES_webs" = some (.int 12 t)
 len:mg "len" = none
 range:mg "range" = none
 int:mg "int" = none
 max:mg "max" = none
 min:mg "min" = none
 sorted:mg "sorted" = none
 tuple:mg "tuple" = none
 list:mg "list" = none
 bool:mg "bool" = none
 enum:mg "enumerate" = none
 isi:mg "isinstance" = none
def WebAt(K:¨)(C:Addr)(H:Hp)(p:Addr)(z:Int)(as:List ⑤):Prop:=∃ dx j,H p=some (.ins C dx (flds z j))/\rTup K (rPair K) H as (.ref j)
theorem WebAt.same{K:¨}{C:Addr}{H H':Hp}{p:Addr}{z:Int}{as:List ⑤}(h:WebAt K C H p z as)(e:Same H H'):WebAt K C H' p z as:=by
 o⟨dx,j,h1,h2⟩:=h;!⟨dx,j,e _ _ h1,Ak (Ak Ao) _ _ _ _ e.ts h2⟩
def Ub(K:¨):Sp:=fun vs H Q _=>∃(a:Addr) (ns:List Int) (k:Int),vs=[.ref a,.int k]/\SqL K H a ⑬/\0<=k/\∀ c:Int,Q (.int c) H
def ADw:Sp:=fun vs H Q _=>∃(c k:Int),vs=[.int c,.int k]/\∀ r:Int,Q (.int r) H
def Rv:Sp:=fun vs H Q _=>∃(p t:Int),vs=[.int p,.int t]/\1<=p/\p<=10/\0<=t/\t<=12/\Q .non H
def ADs(K:¨):Sp:=fun vs H Q _=>∃(m a b:Int) (t:Addr),vs=[.int m,.ref t]/\SqT K H t [.int a,.int b]/\0<=a/\a<b/\b<m/\Q .non H
def ADt(K:¨):Sp:=fun vs H Q _=>∃(m:Int) (l:Addr) (xs:List V) (as:List ⑤),vs=[.int m,.ref l]/\SqL K H l xs/\Paired (rSeq K H) as xs/\OkTies m as/\as.length<=12 /\
 ∀(j:Addr) (H':Hp),Same H H'->rTup K (rPair K) H' (as.map srt) (.ref j)->Q (.ref j) H'
def Lb(K:¨)(C:Addr):Sp:=fun vs H Q _=>∃(p dx l:Addr) (m:Int) (xs:List V) (as:List ⑤),vs=[.ref p,.int m,.ref l]/\H p=some (.ins C dx [])/\SqL K H l xs/\Paired (rSeq K H) as xs/\OkTies m as/\as.length<=12/\1<=m/\m<=10 /\
 ∀(H':Hp),(∀ b o,H b=some o->b≠p->H' b=some o)->WebAt K C H' p m (as.map srt)->Q .non H'
def Qc(K:¨)(C:Addr):Sp:=fun vs H Q _=>∃(p:Addr) (m:Int) (as:List ⑤),vs=[.ref p]/\WebAt K C H p m as/\Q (.int m) H
def Ph(K:¨)(C:Addr):Sp:=fun vs H Q _=>∃(p:Addr) (m:Int) (as:List ⑤),vs=[.ref p]/\WebAt K C H p m as/\∀(l:Addr) (H':Hp),Same H H'->H l=none->rLst K (rPair K) H' as (.ref l)->Q (.ref l) H'
def AFq(K:¨)(C:Addr):Sp:=fun vs H Q _=>∃(p:Addr) (m x:Int) (as:List ⑤),vs=[.ref p,.int x]/\WebAt K C H p m as/\as.length<=12 /\
 ∀(l:Addr) (H':Hp),Same H H'->H l=none->H' l=some (.lst ((hits x as).map V.int))->Q (.ref l) H'
def Rb(K:¨):Sp:=fun vs H Q _=>∃(a:Addr) (ns:List Int),vs=[.ref a]/\SqL K H a ⑬/\ns.length<=63/\∀ H',Q (.bl true) H'
section
variable{P:Program}{w:World}{K:¨}{mg:Str->Option Value}{base:Heap}{f C:Addr}{fd:FuncData}
theorem AAo:FnScope ["points","ties"] ["points","ties"] (Ac ZR):=¡
theorem Tv(F:Fun K "refuse_amounts" "refuse_amounts" ZR f fd)(T:Txt K mg C):FnOk P w K mg base CX0 1 f fd ["points","ties"] Rv:=by
 r F.ok AAo § ¦
 ·o⟨p,t,rfl,_⟩:=h
  rfl
 o⟨p,t,rfl,h1,h2,h3,h4,q⟩:=h;o⟨t1,e1⟩:=T.mp;o⟨t2,e2⟩:=T.mt;r⟨_,Af (CZ (PW.pt (Jf (Ar RM (pv 0) Ah ⑯) (HW (Ar Nj (pv 0) (Jp (v:=.int 10) rfl e1 ⟨t1,rfl⟩) ⑯)))) Dj Bd)
  (Aj (CZ (Ar Nj (pv 1) (Jp (v:=.int 12) rfl e2 ⟨t2,rfl⟩) ⑯) Dj Bd)),?_⟩
 r⟨_,rfl,_,_,rfl,rfl,_,rfl,?_⟩;r iteN ¢ ?_;r⟨_,rfl,_,_,rfl,rfl,_,rfl,?_⟩;r iteN ¢ ?_;r⟨_,rfl,_,_,rfl,rfl,_,rfl,?_⟩;r iteN ¢ ?_;!q
theorem AFc:FnScope ["many","tie"] ["many","tie"] (Ac Xp):=¡
theorem at0{a b:V}:atI [a,b] 0=some a:=rfl
theorem at1{a b:V}:atI [a,b] 1=some b:=rfl
theorem AEn(F:Fun K "refuse_points" "refuse_points" Xp f fd):FnOk P w K mg base CX0 1 f fd ["many","tie"] (ADs K):=by
 r F.ok AFc § ¦
 ·o⟨m,a,b,t,rfl,_⟩:=h
  rfl
 o⟨m,a,b,t,rfl,hT,h0,h1,h2,q⟩:=h;r⟨_,Af (CZ (PW.pt (Jf (Ar RM (BK Bo (pv 1) Ah (fun _ _=>rfl)) Ah ⑯) (HW (Ar AGF (BK Bo (pv 1) Ah (fun _ _=>rfl)) (pv 0) ⑯)))) Dj Bd)
  (Aj (CZ (Ar Cy (BK Bo (pv 1) Ah (fun _ _=>rfl)) (BK Bo (pv 1) Ah (fun _ _=>rfl)) ⑯) Dj Bd)),?_⟩
 r⟨_,rfl,t,_,_,_,rfl,rfl,hT,at0,_,_,rfl,rfl,_,rfl,?_⟩;r iteN ¢ ?_;r⟨_,rfl,t,_,_,_,rfl,rfl,hT,at1,_,rfl,_,_,rfl,rfl,_,rfl,?_⟩;r iteN ¢ ?_;r⟨_,rfl,t,_,_,_,rfl,rfl,hT,at0,_,rfl,t,_,_,_,rfl,rfl,hT,at1,rfl,_,rfl,?_⟩;r iteN (fun e=>?_) q;have:=V.int.inj e;w
theorem XD:FnScope ["many","ties","checked","handed","tie"] ["many","ties"] (Ac Ze):=¡
theorem AEt{fP:Addr}{fdP:FuncData}(F:Fun K "checked_ties" "checked_ties" Ze f fd)(T:Txt K mg C)(GP:FnOk P w K mg base CX0 1 fP fdP ["many","tie"] (ADs K))(bP:Binds K fdP ["many","tie"] [])(kP:© K (.ref fP)=true)(mP:mg "refuse_points" = some (.ref fP)) :
  FnOk P w K mg base CX0 2 f fd ["many","ties"] (ADt K):=by
 r F.ok XD § ¦
 ·o⟨m,l,xs,as,rfl,_⟩:=h
  rfl
 o⟨m,l,xs,as,rfl,hS,pa,ok,h12,q⟩:=h;r⟨_,Af (Ay (i:=2) XD.nd rfl ④ (Cv Ad))
  (Af (DW PassesOwn.never rfl (CK (pv 1)) (Av (i:=3) XD.nd rfl ④)
   (Af (Ay (i:=4) XD.nd rfl ④ (Bb Bg rfl T.tuple PyProof.Rows.boot_tuple (Aa (BJ JZ rfl T.sorted PyProof.Rows.boot_sorted (Aa (pv 3) Ad)) Ad)))
   (Af (DP (BP GP hr rfl mP kP bP .nil pass0 (Aa (pv 0) (Aa (pv 4) Ad))))
   (Af (CZ (Ar (AEl (Hu Fd) (Cp hr)) (pv 4) (pv 2) rfl) Dj Bd)
   (Aj (DP (Ja PySem.F.plainAttrs_list PySem.F.slot_list_append PySem.F.type_list_append Cz (pv 2) (Aa (pv 4) Ad))))))))
  (Aj (Az (Bb Bg rfl T.tuple PyProof.Rows.boot_tuple (Aa (pv 2) Ad))))),?_⟩
 r⟨Nat.zero_le _,fun c hc=>?_⟩;h lx:as.length=xs.length:=┅ pa;r⟨_,rfl,l,rfl,⟨_,(┊ hc _).seq hS⟩,Ed (K:=K) (a:=l) (xs:=xs) (fun i σ H2=>∃(hv tv:Option V) (ys:List V),σ=[some (.int m),some (.ref l),some (.ref c),hv,tv]/\Same H H2/\H2 c=some (.lst ys)/\Paired (rPair K H2) ((as.take i).map srt) ys)
  ⟨none,none,[],rfl,┊ hc _,Ab,.nil⟩ (fun i σ H2 _ ⟨_,_,_,_,sm,_⟩=>sm.seq hS) ?_ ?_⟩
 ·rintro i x σ H2 hx ⟨hv,tv,ys,rfl,sm,hC,pc⟩
  o⟨t,ht,rt0⟩:=Paired.get pa hx;o⟨p,rfl,hp⟩:=RW rt0;o⟨a,b,rfl,a0,a1,b0,b1,nab⟩:=ok.ok t (┈ ht);h hp2:SqL K H2 p ([a,b].map V.int)\/SqT K H2 p ([a,b].map V.int):=hp.elim (fun z=>.inl (sm.seq z)) fun z=>.inr (sm.ts.seq z);r⟨_,rfl,p,[a,b],rfl,hp2,(by show 2<64;decide),fun l1 ms hl1 perm pw=>?_⟩;h em:=Xu perm pw;subst em;r⟨l1,_,rfl,.inl ⟨SqL.of Ab,fun t1 ht1=>?_⟩⟩;h hT:(upd (upd H2 l1 (.lst ((srt [a,b]).map V.int))) t1 (.tup ((srt [a,b]).map V.int))) t1=some (.tup ((srt [a,b]).map V.int)):=Ab;h s1:Same H2 (upd (upd H2 l1 (.lst ((srt [a,b]).map V.int))) t1 (.tup ((srt [a,b]).map V.int))):=(┊ hl1 _).trans (┊ ht1 _);generalize hH3:upd (upd H2 l1 (.lst ((srt [a,b]).map V.int))) t1 (.tup ((srt [a,b]).map V.int))=H3 at hT s1 ⊢;h hlen:(srt [a,b]).length=2:=by rw[Dq];split<;>rfl
  h pts:∃ u v:Int,srt [a,b]=[u,v]/\0<=u/\u<v/\v<m:=by
   rw[Dq];split
   ·!⟨b,a,rfl,b0,by w,a1⟩
   ·!⟨a,b,rfl,a0,by w,b1⟩
  o⟨u,v,euv,u0,uv,vm⟩:=pts;h hT2:SqT K H3 t1 [.int u,.int v]:=by
   h e:=SqT.of (K:=K) hT;rw[euv] at e;!e
  r⟨_,rfl,_,rfl,m,u,v,t1,rfl,hT2,u0,uv,vm,?_⟩;h hC3:H3 c=some (.lst ys):=s1 _ _ hC;h pc3:Paired (rPair K H3) ((as.take i).map srt) ys:=Paired.imp (fun a b=>Ak Ao H2 H3 a b s1.ts) pc;h rt:rPair K H3 (srt [a,b]) (.ref t1):=DQ hT;r⟨_,rfl,_,rfl,_,_,rt,.inl ⟨c,ys,rfl,SqL.of hC3,pc3⟩,_,rfl,?_⟩;r iteN (ok.take_new ht) ?_;h hys:ys.length<=12:=by
   rw[<- ┅ pc,─,List.length_take];w
  r⟨_,rfl,.inl ⟨rfl,_,SqL.of hC3⟩,_,rfl,c,ys,_,rfl,rfl,hC3,Ax ¢,?_⟩;r⟨_,_,_,rfl,fun b o e=>?_,Ab,?_⟩
  ·rw[Ag (Ae e hc)]
   !s1 _ _ (sm b o e)
  ·h e:as.take (i+1)=as.take i++[[a,b]]:=by rw[List.take_add_one,ht];rfl
   rw[e,List.map_append,List.map_singleton];h ts:TSm H3 (upd H3 c (.lst (ys++[.ref t1]))):=TSm.lst hC3;!Paired.app (Paired.imp (fun a b=>Ak Ao H3 _ a b ts) pc3) (Paired.one (Ak Ao H3 _ _ _ ts rt))
 ·rintro σ H2 ⟨hv,tv,ys,rfl,sm,hC,pc⟩
  rw[<- lx,List.take_length] at pc;r⟨_,rfl,c,_,rfl,.inl ⟨SqL.of hC,fun j hj=>?_⟩⟩;r q j _ (sm.trans (┊ hj _)) ⟨j,ys,rfl,SqT.of Ab,?_⟩;!Paired.imp (fun a b=>Ak Ao H2 _ a b (TSm.new hj)) pc
theorem Vf:FnScope ["self","many","ties"] ["self","many","ties"] (Ac Et):=¡
theorem Ij{fA fC:Addr}{fdA fdC:FuncData}(F:Fun K "__init__" "Web.__init__" Et f fd)(T:Txt K mg C)
  (GA:FnOk P w K mg base CX0 1 fA fdA ["points","ties"] Rv) (bA:Binds K fdA ["points","ties"] []) (kA:© K (.ref fA)=true) (mA:mg "refuse_amounts" = some (.ref fA))
  (GC:FnOk P w K mg base CX0 2 fC fdC ["many","ties"] (ADt K)) (bC:Binds K fdC ["many","ties"] []) (kC:© K (.ref fC)=true) (mC:mg "checked_ties" = some (.ref fC)) :
  FnOk P w K mg base CX0 3 f fd ["self","many","ties"] (Lb K C):=by
 r F.ok Vf § ¦
 ·o⟨p,dx,l,m,xs,as,rfl,_⟩:=h
  rfl
 o⟨p,dx,l,m,xs,as,rfl,hP,hS,pa,ok,h12,h1,h10,q⟩:=h;h lx:as.length=xs.length:=┅ pa;r⟨_,Af (DP (BP GA (hr.mono ¤) rfl mA kA bA .nil pass0 (Aa (pv 1) (Aa ⑭ Ad))))
  (Af (Eh (pv 0) (pv 1) rfl)
  (Aj (Eh (pv 0) (BP GC hr rfl mC kC bC .nil pass0 (Aa (pv 1) (Aa (pv 2) Ad))) rfl))),?_⟩
 r⟨_,rfl,_,rfl,l,_,rfl,.inl hS,m,_,rfl,h1,h10,by w,by w,?_⟩;r⟨_,rfl,_,rfl,p,C,dx,[],rfl,hP,T.cl,T.nA,(by show 0<1000;decide),?_⟩;h ts:TSm H (upd H p (.ins C dx (putF "amount" (.int m) []))):=fun b u hb t=>by
  rw[Ag ?_]
  ·!hb
  ·rintro rfl
   rw[hP] at hb;cases hb;o⟨ys,e | ⟨o,e⟩⟩:=t
   ·cases e
   ·cases e
 h sl:∀{a:Addr}{zs:List V},SqL K H a zs->SqL K (upd H p (.ins C dx (putF "amount" (.int m) []))) a zs:=fun {a zs} h=>by
  rcases h with (h | ⟨o,h⟩) | h
  ·!.inl (.inl (by rw[Ag (Cq h hP (by intro z;cases z))];!h))
  ·!.inl (.inr ⟨o,by rw[Ag (Cq h hP (by intro z;cases z))];!h⟩)
  ·!.inr h
 h pa':Paired (rSeq K (upd H p (.ins C dx (putF "amount" (.int m) [])))) as xs:=Paired.imp (fun t x h=>by
  rcases h with⟨q,zs,rfl,hq,pz⟩ | h
  ·!.inl ⟨q,zs,rfl,sl hq,pz⟩
  ·!.inr (Ak Ao _ _ _ _ ts h)) pa
 r⟨_,rfl,_,rfl,m,l,xs,as,rfl,sl hS,pa',ok,h12,fun j H' sm rj=>?_⟩;h hP':H' p=some (.ins C dx (putF "amount" (.int m) [])):=sm _ _ Ab;r⟨_,rfl,p,C,dx,_,rfl,hP',T.cl,T.nJ,(by show 1<1000;decide),?_⟩;r q _ (fun b o e hb=>?_) ⟨dx,j,Ab,?_⟩
 ·rw[Ag hb]
  !sm _ _ (by rw[Ag hb];!e)
 ·r Ak (Ak Ao) _ _ _ _ (fun b u hb t=>?_) rj
  rw[Ag ?_]
  ·!hb
  ·rintro rfl
   rw[hP'] at hb;cases hb;o⟨ys,e | ⟨o,e⟩⟩:=t
   ·cases e
   ·cases e
theorem scSize:FnScope ["self"] ["self"] (Ac Nb):=¡
theorem ACU(F:Fun K "size" "Web.size" Nb f fd)(T:Txt K mg C):FnOk P w K mg base CX0 1 f fd ["self"] (Qc K C):=by
 r F.ok scSize § ¦
 ·o⟨p,m,as,rfl,_⟩:=h
  rfl
 o⟨p,m,as,rfl,⟨dx,j,hP,hj⟩,q⟩:=h;r⟨_,Aj (Az ⑲),?_⟩;!⟨_,rfl,p,C,dx,_,_,rfl,hP,T.cl,T.nA,GF _ _,q⟩
theorem AFZ:FnScope ["self"] ["self"] (Ac Mt):=¡
theorem ADk(F:Fun K "ties" "Web.ties" Mt f fd)(T:Txt K mg C):FnOk P w K mg base CX0 1 f fd ["self"] (Ph K C):=by
 r F.ok AFZ § ¦
 ·o⟨p,m,as,rfl,_⟩:=h
  rfl
 o⟨p,m,as,rfl,⟨dx,j,hP,j',xs,ej,hj,pj⟩,q⟩:=h;cases ej;r⟨_,Aj (Az (Bb Fl rfl T.list PyProof.Rows.boot_list (Aa ⑲ Ad))),?_⟩;r⟨_,rfl,p,C,dx,_,_,rfl,hP,T.cl,T.nJ,JV _ _,j,xs,rfl,.inr hj,fun l hl=>?_⟩;r q l _ (┊ hl _) hl ⟨l,xs,rfl,SqL.of Ab,?_⟩;!Paired.imp (fun a b=>Ak Ao H _ a b (TSm.new hl)) pj
theorem AGX:FnScope ["self","point"] ["self","point"] (Ac sAt):=¡
theorem AFl(F:Fun K "at" "Web.at" sAt f fd)(T:Txt K mg C):FnOk P w K mg base CX0 1 f fd ["self","point"] (AFq K C):=by
 r F.ok AGX § ¦
 ·o⟨p,m,x,as,rfl,_⟩:=h
  rfl
 o⟨p,m,x,as,rfl,⟨dx,j,hP,j',xs,ej,hj,pj⟩,h12,q⟩:=h;cases ej;r⟨_,Aj (Az (Bv (Ac sAt) ["number","tie"] ["point"] [1] rfl rfl £ ⟨⟨rfl,£⟩,trivial⟩ (KN rfl T.enum (Aa ⑲ Ad))
  (fun _ _ _=>Gf (K:=K) (n:=2) rfl rfl (Cd (Av (i:=0) (show ((["number","tie"]:List Str)++(["point"]:List Str)).Nodup by decide +kernel) rfl ④) (Cd (Av (i:=1) (show ((["number","tie"]:List Str)++(["point"]:List Str)).Nodup by decide +kernel) rfl ④) Gi)))
  (fun _ _ _=>CP (Ar (Ec (K:=K) rfl) (pv 2) (pv 1) rfl))
  (fun _ _ _=>pv 0))),?_⟩
 r⟨_,rfl,p,C,dx,_,_,rfl,hP,T.cl,T.nJ,JV _ _,j,rfl,⟨_,hj⟩,fun D hD=>?_⟩;h lx:as.length=xs.length:=┅ pj;r HN (xs:=xs) (fun i τ H2=>∃ n t:Option V,τ=[n,t,some (.int x)]/\Same H H2/\H2 D=some (.lst ((hits x (as.take i)).map V.int))) ⟨none,none,rfl,┊ hD _,Ab⟩
  (fun i τ H2 _ ⟨_,_,_,sm,_⟩=>sm.ts.seq hj) ?_ ?_
 ·rintro i y τ H2 T1 hy hT1 ⟨n,t,rfl,sm,hD2⟩
  o⟨tie,ht,rt⟩:=Paired.get pj hy;o⟨q1,rfl,hq1⟩:=Bw rt;h s1:Same H2 (upd H2 T1 (.tup [.int i,.ref q1])):=┊ hT1 _;r⟨T1,_,rfl,SqT.of Ab,rfl,_,_,rfl,_,_,rfl,rfl,?_⟩;r⟨_,rfl,_,rfl,q1,_,rfl,.inr (s1.ts.seq (sm.ts.seq hq1)),rfl,?_,_,rfl,?_⟩
  ·simp[flatV]
  ·rw[if_neg ¤,Ej]
   h hD3:(upd H2 T1 (.tup [.int i,.ref q1])) D=some (.lst ((hits x (as.take i)).map V.int)):=s1 _ _ hD2;h hlt:i<as.length:=(━ ht).1;r ite2 (fun c=>?_) (fun c=>?_)
   ·h c':x∈tie:=of_decide_eq_true c
    r⟨_,rfl,_,hD3,?_,_,_,rfl,fun b o e=>?_,?_⟩
    ·have:(hits x (as.take i)).length<=(as.take i).length:=Ku x 0 (as.take i)
     rw[─];rw[List.length_take] at this;!Ax ¢
    ·rw[Ag (Ae e hD)]
     !s1 _ _ (sm b o e)
    ·rw[Ab,NZ ht,if_pos c',List.map_append]
     rfl
   ·h c':¬ x∈tie:=fun z=>c (decide_eq_true z)
    r⟨_,_,rfl,sm.trans s1,?_⟩;rw[hD3,NZ ht,if_neg c',List.append_nil]
 ·rintro τ H2 ⟨n,t,rfl,sm,hD2⟩
  rw[<- lx,List.take_length] at hD2;!q D H2 sm hD hD2
end
end K42
end
section
namespace G
abbrev Row:=Nat×Nat×Nat
def Low(rows:List Row)(t k l:Nat):Prop:=l<k/\(l<=1\/∃ r,rows[l-2]?=some r/\t<r.1)
def Ok(n:Nat)(rows:List Row):Prop:=∀(i:Nat) (r:Row),rows[i]?=some r->r.1<n/\Low rows r.1 (i+2) r.2.1/\Low rows r.1 (i+2) r.2.2
structure Least(n:Nat)(rows:List Row):Prop where
 ok:Ok n rows
 pos:∀(i:Nat) (r:Row),rows[i]?=some r->r.2.2≠0
 one:∀(i j:Nat) (r:Row),rows[i]?=some r->rows[j]?=some r->i=j
def rank(n:Nat)(rows:List Row)(k:Nat):Nat:=if k<2 then n+1-k else ÷.1
def ledF(rows:List Row):Nat->Nat->List Nat->Bool
 | 0,_,_=>false
 | f+1,k,s=>if k<=1 then decide (k=1/\s=[]) else
  let r:=rows.getD (k-2) (0,0,0)
  match s with
  | []=>ledF rows f r.2.1 []
  | x::xs=>if x<r.1 then false else if x=r.1 then ledF rows f r.2.2 xs else ledF rows f r.2.1 (x::xs)
def led(rows:List Row)(k:Nat)(s:List Nat):Bool:=ledF rows (k+1) k s
def Knot(rows:List Row)(k:Nat):Prop:=k<rows.length+2
section
variable{n:Nat}{rows:List Row}
theorem Bc{k:Nat}(h:Knot rows k)(h2:2<=k):rows[k-2]?=some ÷:=by
 have:k-2<rows.length:=by unfold Knot at h;w
 rw[± this,¯,± this];rfl
theorem Ok.low(o:Ok n rows){i:Nat}{r:Row}(h:rows[i]?=some r):r.1<n/\r.2.1<i+2/\r.2.2<i+2/\r.1<rank n rows r.2.1/\r.1<rank n rows r.2.2/\Knot rows r.2.1/\Knot rows r.2.2:=by
 o⟨h1,h2,h3⟩:=o i r h;h hi:i<rows.length:=(━ h).1;h rk:∀ l,Low rows r.1 (i+2) l->r.1<rank n rows l/\Knot rows l:=by
  intro l hl;o⟨a,b⟩:=hl;r⟨?_,by unfold Knot;w⟩;unfold rank;by_cases c:l<2
  ·rw[if_pos c];w
  ·rw[if_neg c]
   rcases b with b | ⟨r',e,z⟩
   ·w
   ·rw[¯,e];!z
 !⟨h1,h2.1,h3.1,(rk _ h2).1,(rk _ h3).1,(rk _ h2).2,(rk _ h3).2⟩
theorem Yy(o:Ok n rows):∀(f k:Nat) (s:List Nat),k<f->Knot rows k->ledF rows (f+1) k s=ledF rows f k s:=by
 intro f
 induction f with
 | zero=>intro k s h;w
 | succ f ih =>
  intro k s hk kn;unfold ledF;by_cases c:k<=1
  ·rw[if_pos c,if_pos c]
  rw[if_neg c,if_neg c];o⟨h1,h2,h3,_,_,k1,k2⟩:=o.low (Bc kn ¢);h e1:∀ s,ledF rows (f+1) ÷.2.1 s=ledF rows f ÷.2.1 s:=fun s=>ih _ _ ¢ k1;h e2:∀ s,ledF rows (f+1) ÷.2.2 s=ledF rows f ÷.2.2 s:=fun s=>ih _ _ ¢ k2;cases s with
  | nil=>!e1 _
  | cons x xs =>
   show (if _ then _ else if _ then ledF rows (f+1) _ _ else ledF rows (f+1) _ _)=_;rw[e1,e2]
theorem Jt(o:Ok n rows){k:Nat}(s:List Nat)(kn:Knot rows k):∀ d,ledF rows (k+1+d) k s=led rows k s
 | 0=>rfl
 | d+1=>by rw[show k+1+(d+1)=(k+1+d)+1 by w,Yy o _ k s ¢ kn,Jt o s kn d]
theorem DK(s:List Nat):led rows 1 s=decide (s=[]):=by
 unfold led ledF;simp
theorem Cg(s:List Nat):led rows 0 s=false:=by
 unfold led ledF;simp
theorem DY(o:Ok n rows){k:Nat}(kn:Knot rows k)(h2:2<=k):led rows k []=led rows ÷.2.1 []:=by
 o⟨h1,h2',h3,_,_,k1,k2⟩:=o.low (Bc kn h2);unfold led
 conv=>lhs;unfold ledF
 rw[if_neg ¢];have:=Jt o [] k1 (k-÷.2.1-1);rw[show ÷.2.1+1+(k-÷.2.1-1)=k by w] at this;!this
theorem Bm(o:Ok n rows){k x:Nat}{xs:List Nat}(kn:Knot rows k)(h2:2<=k):led rows k (x::xs) =
  if x<÷.1 then false else if x=÷.1 then led rows ÷.2.2 xs else led rows ÷.2.1 (x::xs):=by
 o⟨h1,h2',h3,_,_,k1,k2⟩:=o.low (Bc kn h2);unfold led
 conv=>lhs;unfold ledF
 rw[if_neg ¢];h e1:=Jt o (x::xs) k1 (k-÷.2.1-1);rw[show ÷.2.1+1+(k-÷.2.1-1)=k by w] at e1;h e2:=Jt o xs k2 (k-÷.2.2-1);rw[show ÷.2.2+1+(k-÷.2.2-1)=k by w] at e2;show (if _ then _ else if _ then ledF rows k _ _ else ledF rows k _ _)=_;rw[e1,e2];rfl
def Way(n:Nat)(rows:List Row)(k:Nat)(s:List Nat):Prop:=led rows k s=true/\s.Pairwise (· < ·)/\∀ x∈s,x<n/\rank n rows k<=x
theorem ABe(L:Least n rows){k:Nat}{s:List Nat}(kn:Knot rows k)(h2:2<=k)(w:Way n rows ÷.2.2 s):Way n rows k (÷.1::s):=by
 o⟨w1,w2,w3⟩:=w;o⟨h1,h2',h3,r1,r2,k1,k2⟩:=L.ok.low (Bc kn h2);h rk:rank n rows k=÷.1:=by unfold rank;rw[if_neg ¢]
 r⟨?_,?_,?_⟩
 ·rw[Bm L.ok kn h2,if_neg ¢,if_pos rfl];!w1
 ·!List.Pairwise.cons (fun x hx=>by have:=(w3 x hx).2;w) w2
 ·intro x hx
  rcases ┃ hx with rfl | hx
  ·!⟨h1,by w⟩
  ·have:=w3 x hx
   !⟨this.1,by w⟩
theorem ACc:Way n rows 1 []:=⟨by rw[DK];rfl,.nil,fun x hx=>nomatch hx⟩
structure Part(n:Nat)(rows:List Row)(a b:Nat)(u:Bool)(s:List Nat):Prop where
 asc:s.Pairwise (· < ·)
 lt:∀ x∈s,x<n
 ge:∀ m,m<=rank n rows a->m<=rank n rows b->∀ x∈s,m<=x
 la:led rows a s=u
 lb:led rows b s=!u
theorem off(o:Ok n rows){b x:Nat}{xs:List Nat}(kb:Knot rows b)(h:x<rank n rows b):led rows b (x::xs)=false:=by
 unfold rank at h;by_cases c:b<2
 ·h hb:b=0\/b=1:=by w
  rcases hb with rfl | rfl
  ·!Cg _
  ·rw[DK];rfl
 ·rw[if_neg c] at h
  rw[Bm o kb ¢,if_pos h]
end
section
variable{n t:Nat}{rows nums new:List Row}{rc:List Nat}{pl pl':Nat->Option Nat}
def tieOf(rows:List Row)(k:Nat):Nat:=÷.1
def outOf(rows:List Row)(k:Nat):Nat:=÷.2.1
def intoOf(rows:List Row)(k:Nat):Nat:=÷.2.2
structure Closed(rows:List Row)(rc:List Nat):Prop where
 two:∀ k∈rc,2<=k
 knot:∀ k∈rc,Knot rows k
 out:∀ k∈rc,outOf rows k<=1\/outOf rows k∈rc
 into:∀ k∈rc,intoOf rows k<=1\/intoOf rows k∈rc
structure Kept(n t:Nat)(rows:List Row)(rc:List Nat)(nums:List Row)(pl:Nat->Option Nat):Prop where
 least:Least n nums
 ge:∀ r∈nums,t<=r.1
 z:pl 0=some 0
 o:pl 1=some 1
 has:∀ k∈rc,t<=tieOf rows k->∃ p,pl k=some p/\Knot nums p/\tieOf rows k<=rank n nums p
theorem ZG(hn:∀ k∈rc,tieOf rows k<n):Kept n n rows rc [] (fun k=>if k=0 then some 0 else if k=1 then some 1 else none) :=
 ⟨⟨fun i r h=>by simp at h,fun i r h=>by simp at h,fun i j r h=>by simp at h⟩,fun r h=>(nomatch h),rfl,rfl,fun k hk h=>absurd (hn k hk) ¢⟩
theorem Kp{p:Nat}(h:Knot nums p):rank n (nums++new) p=rank n nums p:=by
 unfold rank;by_cases c:p<2
 ·rw[if_pos c,if_pos c]
 ·rw[if_neg c,if_neg c,¯,¯,┆ (by unfold Knot at h;w)]
theorem Ew{p:Nat}(h:Knot nums p):Knot (nums++new) p:=by unfold Knot at *;rw[│];w
theorem Kept.low(I:Kept n (t+1) rows rc nums pl)(o:Ok n rows)(hn:t<n){l:Nat}(h:l<=1\/l∈rc)(z:l<=1\/t<tieOf rows l):∃ p,pl l=some p/\Knot nums p/\t<rank n nums p:=by
 rcases Nat.lt_or_ge l 2 with c | c
 ·h e:l=0\/l=1:=by w
  rcases e with rfl | rfl
  ·!⟨0,I.z,by unfold Knot;w,by unfold rank;rw[if_pos ¤];w⟩
  ·!⟨1,I.o,by unfold Knot;w,by unfold rank;rw[if_pos ¤];w⟩
 ·h hr:l∈rc:=h.resolve_left ¢
  h hz:t<tieOf rows l:=z.resolve_left ¢;o⟨p,h1,h2,h3⟩:=I.has l hr hz;!⟨p,h1,h2,by w⟩
def rowIn(rows:List Row)(pl:Nat->Option Nat)(k:Nat):Row:=(tieOf rows k,(pl (outOf rows k)).getD 0,(pl (intoOf rows k)).getD 0)
theorem Closed.low(c:Closed rows rc)(o:Ok n rows){k:Nat}(h:k∈rc):tieOf rows k<n/\(outOf rows k<=1\/tieOf rows k<tieOf rows (outOf rows k))/\(intoOf rows k<=1\/tieOf rows k<tieOf rows (intoOf rows k)):=by
 o⟨h1,h2,h3⟩:=o _ _ (Bc (c.knot k h) (c.two k h));r⟨h1,h2.2.imp id fun⟨r,e,z⟩=>?_,h3.2.imp id fun⟨r,e,z⟩=>?_⟩
 ·show ÷.1<(rows.getD (÷.2.1-2) (0,0,0)).1
  rw[List.getD_eq_getElem?_getD (l:=rows) (i:=÷.2.1-2),e];!z
 ·show ÷.1<(rows.getD (÷.2.2-2) (0,0,0)).1
  rw[List.getD_eq_getElem?_getD (l:=rows) (i:=÷.2.2-2),e];!z
theorem Kept.row(I:Kept n (t+1) rows rc nums pl)(c:Closed rows rc)(o:Ok n rows)(hn:t<n){k:Nat}(h:k∈rc)(ht:tieOf rows k=t) :
  ∃ a b,pl (outOf rows k)=some a/\pl (intoOf rows k)=some b/\rowIn rows pl k=(t,a,b)/\Knot nums a/\Knot nums b/\t<rank n nums a/\t<rank n nums b:=by
 o⟨_,z1,z2⟩:=c.low o h;o⟨a,a1,a2,a3⟩:=I.low o hn (c.out k h) (by rw[<- ht];!z1);o⟨b,b1,b2,b3⟩:=I.low o hn (c.into k h) (by rw[<- ht];!z2);!⟨a,b,a1,b1,by unfold rowIn;rw[a1,b1,ht];rfl,a2,b2,a3,b3⟩
theorem AAz{p k:Nat}(h:Knot nums p)(hk:nums.length+2<=k)(z:t<rank n nums p):Low (nums++new) t k p:=by
 r⟨by unfold Knot at h;w,?_⟩;rcases Nat.lt_or_ge p 2 with c | c
 ·!.inl ¢
 ·r .inr ⟨nums.getD (p-2) (0,0,0),?_,?_⟩
  ·rw[┆ (by unfold Knot at h;w)]
   !Bc h c
  ·unfold rank at z
   rw[if_neg ¢] at z;!z
theorem Kept.step(I:Kept n (t+1) rows rc nums pl)(c:Closed rows rc)(o:Ok n rows)(hn:t<n)(hw:∀ r,r∈new->∃ k,k∈rc/\tieOf rows k=t/\r=rowIn rows pl k/\r.2.2≠0)(nd:new.Nodup)
  (h1:∀ k,k∉rc\/tieOf rows k≠t->pl' k=pl k)
  (h2:∀ k∈rc,tieOf rows k=t->∃ p,pl' k=some p/\((∃ i,(nums++new)[i]?=some ⑪/\p=i+2)\/(rowIn rows pl k∉nums++new/\p=⑪.2.1))) :
  Kept n t rows rc (nums++new) pl':=by
 h at_new:∀(i:Nat) (r:Row),nums.length<=i->(nums++new)[i]?=some r->new[i-nums.length]?=some r:=fun i r hi e=>by rw[List.getElem?_append_right hi] at e;!e
 h at_old:∀(i:Nat) (r:Row),i<nums.length->(nums++new)[i]?=some r->nums[i]?=some r:=fun i r hi e=>by rw[┆ hi] at e;!e
 h tn:∀ r∈new,∃ a b,r=(t,a,b)/\b≠0/\Knot nums a/\Knot nums b/\t<rank n nums a/\t<rank n nums b:=fun r hr=>by
  o⟨k,k1,k2,k3,k4⟩:=hw r hr;o⟨a,b,_,_,e,x1,x2,x3,x4⟩:=I.row c o hn k1 k2;rw[e] at k3;r⟨a,b,k3,?_,x1,x2,x3,x4⟩;rw[k3] at k4;!k4
 h two:∀ k∈rc,k≠0/\k≠1:=fun k hk=>by have:=c.two k hk;w
 r⟨⟨?_,?_,?_⟩,?_,?_,?_,?_⟩
 ·intro i r e
  rcases Nat.lt_or_ge i nums.length with hi | hi
  ·o⟨z1,z2,z3⟩:=I.least.ok i r (at_old i r hi e)
   r⟨z1,⟨z2.1,z2.2.imp id fun⟨q,e,z⟩=>⟨q,?_,z⟩⟩,⟨z3.1,z3.2.imp id fun⟨q,e,z⟩=>⟨q,?_,z⟩⟩⟩
   ·rw[┆ (by have:=(━ e).1;w)];!e
   ·rw[┆ (by have:=(━ e).1;w)];!e
  ·o⟨a,b,rfl,_,x1,x2,x3,x4⟩:=tn r (┈ (at_new i r hi e))
   !⟨hn,AAz x1 ¢ x3,AAz x2 ¢ x4⟩
 ·intro i r e
  rcases Nat.lt_or_ge i nums.length with hi | hi
  ·!I.least.pos i r (at_old i r hi e)
  ·o⟨a,b,rfl,x,_⟩:=tn r (┈ (at_new i r hi e))
   !x
 ·intro i j r e1 e2
  h cross:∀(i j:Nat),i<nums.length->nums.length<=j->(nums++new)[i]?=some r->(nums++new)[j]?=some r->False:=fun i j hi hj e1 e2=>by
   h g:=I.ge r (┈ (at_old i r hi e1));o⟨a,b,rfl,_⟩:=tn r (┈ (at_new j r hj e2));h g':t+1<=t:=g;w
  rcases Nat.lt_or_ge i nums.length with hi | hi
  ·rcases Nat.lt_or_ge j nums.length with hj | hj
   ·!I.least.one i j r (at_old i r hi e1) (at_old j r hj e2)
   ·!(cross i j hi hj e1 e2).elim
  ·rcases Nat.lt_or_ge j nums.length with hj | hj
   ·!(cross j i hj hi e2 e1).elim
   ·h a1:=at_new i r hi e1
    h a2:=at_new j r hj e2;have:=(List.getElem?_inj (━ a1).1 nd).mp (a1.trans a2.symm);w
 ·intro r hr
  rcases List.mem_append.mp hr with hr | hr
  ·have:=I.ge r hr;w
  ·o⟨a,b,rfl,_⟩:=tn r hr
   !Nat.le_refl t
 ·rw[h1 0 (.inl fun h=>(two 0 h).1 rfl)];!I.z
 ·rw[h1 1 (.inl fun h=>(two 1 h).2 rfl)];!I.o
 ·intro k hk hk2
  by_cases e:tieOf rows k=t
  ·o⟨p,p1,p2⟩:=h2 k hk e
   r⟨p,p1,?_⟩;o⟨a,b,_,_,re,x1,x2,x3,x4⟩:=I.row c o hn hk e;rcases p2 with⟨i,i1,rfl⟩ | ⟨i1,rfl⟩
   ·h il:=(━ i1).1
    r⟨by unfold Knot;w,?_⟩;unfold rank;rw[if_neg ¢,Nat.add_sub_cancel,¯,i1,re];show tieOf rows k<=t;w
   ·rw[re]
    r⟨Ew x1,?_⟩;rw[Kp x1,e];!Nat.le_of_lt x3
  ·o⟨p,p1,p2,p3⟩:=I.has k hk ¢
   !⟨p,by rw[h1 k (.inr e)];!p1,Ew p2,by rw[Kp p2];!p3⟩
end
structure SetsOk(n lo:Nat)(ss:List ⑤):Prop where
 nd:ss.Nodup
 asc:∀ s∈ss,s.Pairwise (· < ·)
 rng:∀ s∈ss,∀ x∈s,(lo:Int)<=x/\x<n
theorem all_nil:∀{ss:List ⑤},ss.Nodup->(∀ s∈ss,s=[])->ss=[]\/ss=[[]]
 | [],_,_=>.inl rfl
 | [s],_,h=>.inr (by rw[h s ´])
 | s::u::r,nd,h=>by
  h e1:=h s ´;h e2:=h u (¶ _ ´);have:=(List.nodup_cons.mp nd).1;rw[e1,e2] at this;!absurd ´ this
section
variable{n lo d t k1 k2 m1 m2 m:Nat}{ss:List ⑤}{rows more more1 more2:List Row}
theorem SetsOk.some(h:SetsOk n lo ss)(h0:ss≠[])(h1:ss≠[[]]):∃ s∈ss,s≠[]:=by
 rcases Classical.em (∃ s∈ss,s≠[]) with z | z
 ·!z
 ·rcases all_nil h.nd fun s hs=>Classical.byContradiction fun c=>z ⟨s,hs,c⟩ with e | e
  ·!absurd e h0
  ·!absurd e h1
def heads(ss:List ⑤):List Int:=(ss.filter fun s=>!decide (s=[])).map fun s=>s.headD 0
theorem Dy{a:Int}:a∈heads ss↔∃ r,a::r∈ss:=by
 unfold heads;rw[List.mem_map];constructor
 ·rintro⟨s,hs,rfl⟩
  o⟨h1,h2⟩:=List.mem_filter.mp hs;cases s with
  | nil=>simp at h2
  | cons x r=>!⟨r,h1⟩
 ·rintro⟨r,h⟩
  !⟨a::r,List.mem_filter.mpr ⟨h,by simp⟩,rfl⟩
theorem SetsOk.least(h:SetsOk n lo ss)(hm:(t:Int)∈heads ss):lo<=t/\t<n:=by
 o⟨r,hr⟩:=Dy.mp hm;have:=h.rng _ hr t ´;w
theorem SetsOk.out(h:SetsOk n lo ss)(hl:∀ a∈heads ss,(t:Int)<=a):SetsOk n (t+1) (ss.filter fun s=>!decide ((t:Int)∈s)):=by
 r⟨h.nd.filter _,fun s hs=>h.asc s (List.mem_filter.mp hs).1,fun s hs x hx=>?_⟩;o⟨h1,h2⟩:=List.mem_filter.mp hs;h h2':(t:Int)∉s:=by u h2
 r⟨?_,(h.rng s h1 x hx).2⟩;cases s with
 | nil=>cases hx
 | cons a r =>
  have la:=hl a (Dy.mpr ⟨r,h1⟩);have na:(t:Int)≠a:=fun e=>h2' (by rw[e];!´);rcases ┃ hx with rfl | hx
  ·w
  ·have:=(List.pairwise_cons.mp (h.asc _ h1)).1 x hx
   w
theorem SetsOk.led(h:SetsOk n lo ss)(hl:∀ a∈heads ss,(t:Int)<=a){s:List Int}(hs:s∈ss)(ht:(t:Int)∈s):s=(t:Int)::s.tail:=by
 cases s with
 | nil=>cases ht
 | cons a r =>
  have la:=hl a (Dy.mpr ⟨r,hs⟩);rcases ┃ ht with e | ht
  ·rw[e];rfl
  ·have:=(List.pairwise_cons.mp (h.asc _ hs)).1 _ ht
   w
theorem Lg{t:Int}:∀{l:List ⑤},l.Nodup->(∀ s∈l,s=t::s.tail)->(l.map List.tail).Nodup
 | [],_,_=>.nil
 | s::l,nd,h=>by
  o⟨h1,h2⟩:=List.nodup_cons.mp nd;rw[List.map_cons];r List.nodup_cons.mpr ⟨fun z=>?_,Lg h2 fun u hu=>h u (¶ _ hu)⟩;o⟨u,hu,e⟩:=List.mem_map.mp z;r h1 ?_;rw[h s ´,<- e,<- h u (¶ _ hu)];!hu
theorem SetsOk.into(h:SetsOk n lo ss)(hl:∀ a∈heads ss,(t:Int)<=a):SetsOk n (t+1) ((ss.filter fun s=>decide ((t:Int)∈s)).map List.tail):=by
 h led:∀ s∈ss.filter (fun s=>decide ((t:Int)∈s)),s∈ss/\s=(t:Int)::s.tail:=fun s hs=>by
  o⟨h1,h2⟩:=List.mem_filter.mp hs;!⟨h1,h.led hl h1 (of_decide_eq_true h2)⟩
 r⟨Lg (h.nd.filter _) fun s hs=>(led s hs).2,fun s hs=>?_,fun s hs x hx=>?_⟩
 ·o⟨u,hu,rfl⟩:=List.mem_map.mp hs
  h a:=h.asc u (led u hu).1;rw[(led u hu).2] at a;!(List.pairwise_cons.mp a).2
 ·o⟨u,hu,rfl⟩:=List.mem_map.mp hs
  h a:=h.asc u (led u hu).1;rw[(led u hu).2] at a;have:=(List.pairwise_cons.mp a).1 x hx;h z:=h.rng u (led u hu).1 x (List.mem_of_mem_tail hx);w
theorem split_len(p:List Int->Bool):∀ ss:List ⑤,(ss.filter fun s=>!p s).length+(ss.filter p).length=ss.length
 | []=>rfl
 | s::ss=>by
  have:=split_len p ss;rw[List.filter_cons,List.filter_cons];cases p s<;>simp<;>w
structure Made(n lo d:Nat)(rows more:List Row)(k m:Nat):Prop where
 ok:Ok n (rows++more)
 kn:Knot (rows++more) k
 up:k<=1\/lo<=tieOf (rows++more) k
 ge:∀ r∈more,lo<=r.1
 cnt:∀ t,(more.filter fun r=>decide (r.1=t)).length<=m
 len:more.length<=d*m
theorem Made.none(o:Ok n rows):Made n lo d rows [] 0 m:=⟨by rw[List.append_nil];!o,by unfold Knot;w,.inl ¢,fun r h=>(nomatch h),fun t=>by simp,by simp⟩
theorem Made.one(o:Ok n rows):Made n lo d rows [] 1 m:=⟨by rw[List.append_nil];!o,by unfold Knot;w,.inl ¢,fun r h=>(nomatch h),fun t=>by simp,by simp⟩
theorem Jr{l k:Nat}(h:Low rows t k l):Low (rows++more) t k l:=⟨h.1,h.2.imp id fun⟨q,e,z⟩=>⟨q,by rw[┆ (━ e).1];!e,z⟩⟩
theorem Zr(o:Ok n rows)(ht:t<n)(h1:Low rows t (rows.length+2) k1)(h2:Low rows t (rows.length+2) k2):Ok n (rows++[(t,k1,k2)]):=by
 intro j r e;rcases Nat.lt_or_ge j rows.length with c | c
 ·rw[┆ c] at e
  o⟨z1,z2,z3⟩:=o j r e;!⟨z1,Jr z2,Jr z3⟩
 ·rw[List.getElem?_append_right c] at e
  h j0:j=rows.length:=by
   have:=(━ e).1;simp at this;w
  subst j0;rw[Nat.sub_self] at e;cases e;!⟨ht,Jr h1,Jr h2⟩
theorem Ie{k:Nat}(kn:Knot rows k)(up:k<=1\/t+1<=tieOf rows k):Low rows t (rows.length+2) k:=by
 r⟨kn,?_⟩;rcases Nat.lt_or_ge k 2 with c | c
 ·!.inl ¢
 ·!.inr ⟨_,Bc kn c,by have:=up.resolve_left ¢;unfold tieOf at this;w⟩
theorem WQ{k:Nat}(kn:Knot rows k)(h2:2<=k):tieOf (rows++more) k=tieOf rows k:=by
 unfold tieOf;rw[¯,¯,┆ (by unfold Knot at kn;w)]
theorem Made.step(M1:Made n (t+1) d rows more1 k1 m1)(M2:Made n (t+1) d (rows++more1) more2 k2 m2)(em:m1+m2=m)(hm:1<=m)(ht:t<n)(hlo:lo<=t) :
  Made n lo (d+1) rows (more1++more2++[(t,k1,k2)]) ((rows++(more1++more2)).length+2) m:=by
 h e:rows++(more1++more2)=rows++more1++more2:=(List.append_assoc ..).symm;h kn1:Knot (rows++more1++more2) k1:=Ew M1.kn;h up1:k1<=1\/t+1<=tieOf (rows++more1++more2) k1:=by
  rcases Nat.lt_or_ge k1 2 with c | c
  ·!.inl ¢
  ·rw[WQ M1.kn c];!M1.up
 h oa:=Zr M2.ok ht (Ie kn1 up1) (Ie M2.kn M2.up);h er:rows++(more1++more2++[(t,k1,k2)])=rows++more1++more2++[(t,k1,k2)]:=by simp
 r⟨by rw[er];!oa,?_,.inr ?_,fun r hr=>?_,fun u=>?_,?_⟩
 ·unfold Knot
  rw[er,e,List.length_append (as:=rows++more1++more2),List.length_singleton];w
 ·rw[er,e]
  unfold tieOf;rw[Nat.add_sub_cancel,¯,List.getElem?_append_right ②,Nat.sub_self];!hlo
 ·rcases List.mem_append.mp hr with hr | hr
  ·rcases List.mem_append.mp hr with hr | hr
   ·have:=M1.ge r hr;w
   ·have:=M2.ge r hr;w
  ·rw[List.mem_singleton.mp hr];!hlo
 ·h c1:=M1.cnt u
  h c2:=M2.cnt u;rw[List.filter_append,List.filter_append,│,│];by_cases z:t=u
  ·h none:∀(l:List Row),(∀ r∈l,t+1<=r.1)->(l.filter fun r=>decide (r.1=u)).length=0:=fun l h=>by
    rw[List.length_eq_zero_iff,List.filter_eq_nil_iff];intro r hr;have:=h r hr;simp;w
   rw[none _ M1.ge,none _ M2.ge];r Nat.le_trans ?_ hm;rw[Nat.zero_add];!Nat.le_trans (List.length_filter_le _ _) ②
  ·rw[List.filter_cons,if_neg (by u z),List.filter_nil,List.length_nil]
   w
 ·h l1:=M1.len
  h l2:=M2.len;rw[│,│,List.length_singleton,Nat.add_mul,<- em,Nat.mul_add];w
end
section
variable{n t:Nat}{rows nums new more:List Row}{rc:List Nat}{pl pl':Nat->Option Nat}
theorem Zi(o:Ok n rows):∀(f k:Nat) (s:List Nat),Knot rows k->ledF (rows++more) f k s=ledF rows f k s:=by
 intro f
 induction f with
 | zero=>intro k s h;rfl
 | succ f ih =>
  intro k s kn;unfold ledF;by_cases c:k<=1
  ·rw[if_pos c,if_pos c]
  rw[if_neg c,if_neg c];h eg:(rows++more).getD (k-2) (0,0,0)=rows.getD (k-2) (0,0,0):=by
   rw[¯,¯,┆ (by unfold Knot at kn;w)]
  o⟨h1,h2,h3,_,_,k1,k2⟩:=o.low (Bc kn ¢);rw[eg];cases s with
  | nil=>!ih _ _ k1
  | cons x xs =>
   show (if _ then _ else if _ then ledF (rows++more) f _ _ else ledF (rows++more) f _ _)=_;rw[ih _ _ k1,ih _ _ k2]
theorem Cu(o:Ok n rows){k:Nat}(s:List Nat)(kn:Knot rows k):led (rows++more) k s=led rows k s:=Zi o _ _ _ kn
def RowLt(a b:Row):Prop:=b.1<a.1\/(a.1=b.1/\(a.2.1<b.2.1\/(a.2.1=b.2.1/\a.2.2<b.2.2)))
structure Kept2(n t:Nat)(rows:List Row)(rc:List Nat)(nums:List Row)(pl:Nat->Option Nat):Prop where
 base:Kept n t rows rc nums pl
 sem:∀ k∈rc,t<=tieOf rows k->∀ p,pl k=some p->∀ s,led nums p s=led rows k s
 img:∀ k∈rc,t<=tieOf rows k->∀ p,pl k=some p->(2<=p/\nums[p-2]?=some ⑪)\/(⑪.2.2=0/\p=⑪.2.1)
 sur:∀(i:Nat) (r:Row),nums[i]?=some r->∃ k∈rc,t<=tieOf rows k/\pl k=some (i+2)
 srt:nums.Pairwise RowLt
theorem Vr(hn:∀ k∈rc,tieOf rows k<n):Kept2 n n rows rc [] (fun k=>if k=0 then some 0 else if k=1 then some 1 else none) :=
 ⟨ZG hn,fun k hk h=>absurd (hn k hk) ¢,fun k hk h=>absurd (hn k hk) ¢,fun i r h=>by simp at h,.nil⟩
theorem Vk(c:Closed rows rc)(o:Ok n rows)(h1:∀ k,k∉rc\/tieOf rows k≠t->pl' k=pl k){k:Nat}(hk:k∈rc)(ht:t<=tieOf rows k):rowIn rows pl' k=rowIn rows pl k:=by
 h two:∀ k,k<=1->k∉rc:=fun k h z=>by have:=c.two k z;w
 o⟨_,z1,z2⟩:=c.low o hk;h e1:pl' (outOf rows k)=pl (outOf rows k):=by
  rcases z1 with z | z
  ·!h1 _ (.inl (two _ z))
  ·!h1 _ (.inr ¢)
 h e2:pl' (intoOf rows k)=pl (intoOf rows k):=by
  rcases z2 with z | z
  ·!h1 _ (.inl (two _ z))
  ·!h1 _ (.inr ¢)
 unfold rowIn;rw[e1,e2]
theorem Kept2.low(I:Kept2 n (t+1) rows rc nums pl){l p:Nat}(h:l<=1\/l∈rc)(z:l<=1\/t<tieOf rows l)(hp:pl l=some p)(s:List Nat):led nums p s=led rows l s:=by
 rcases Nat.lt_or_ge l 2 with c | c
 ·h e:l=0\/l=1:=by w
  rcases e with rfl | rfl
  ·rw[I.base.z] at hp
   cases hp;rw[Cg,Cg]
  ·rw[I.base.o] at hp
   cases hp;rw[DK,DK]
 ·!I.sem l (h.resolve_left ¢) (z.resolve_left ¢) p hp s
theorem Kept2.step(I:Kept2 n (t+1) rows rc nums pl)(c:Closed rows rc)(o:Ok n rows)(hn:t<n)(hw:∀ r,r∈new->∃ k,k∈rc/\tieOf rows k=t/\r=rowIn rows pl k/\r.2.2≠0)(nd:new.Nodup)
  (hw2:∀ k∈rc,tieOf rows k=t->⑪.2.2≠0->rowIn rows pl k∈new) (so:new.Pairwise RowLt)
  (h1:∀ k,k∉rc\/tieOf rows k≠t->pl' k=pl k)
  (h2:∀ k∈rc,tieOf rows k=t->∃ p,pl' k=some p/\((∃ i,(nums++new)[i]?=some ⑪/\p=i+2)\/(rowIn rows pl k∉nums++new/\p=⑪.2.1))) :
  Kept2 n t rows rc (nums++new) pl':=by
 h B:=I.base.step c o hn hw nd h1 h2;h okN:=I.base.least.ok;h at_:∀ k∈rc,tieOf rows k=t->∀ p,pl' k=some p->(∃ i,(nums++new)[i]?=some ⑪/\p=i+2)\/(⑪.2.2=0/\p=⑪.2.1):=fun k hk ht p hp=>by
  o⟨p',e,h⟩:=h2 k hk ht;rw[hp] at e;cases e;rcases h with h | ⟨nm,e⟩
  ·!.inl h
  ·r .inr ⟨?_,e⟩
   rcases Nat.eq_zero_or_pos ⑪.2.2 with z | z
   ·!z
   ·!absurd (List.mem_append_right _ (hw2 k hk ht ¢)) nm
 h old:∀ k∈rc,t+1<=tieOf rows k->∀ p,pl' k=some p->pl k=some p:=fun k hk ht p hp=>by rw[h1 k (.inr ¢)] at hp;!hp
 r⟨B,fun k hk ht p hp s=>?_,fun k hk ht p hp=>?_,fun i r e=>?_,?_⟩
 ·by_cases e:tieOf rows k=t
  ·o⟨a,b,ea,eb,re,x1,x2,x3,x4⟩:=I.base.row c o hn hk e
   o⟨_,z1,z2⟩:=c.low o hk;h la:∀ s,led nums a s=led rows (outOf rows k) s:=I.low (c.out k hk) (by rw[<- e];!z1) ea;h lb:∀ s,led nums b s=led rows (intoOf rows k) s:=I.low (c.into k hk) (by rw[<- e];!z2) eb;h kk:=c.knot k hk;h k2:=c.two k hk;h et:÷.1=t:=e;rcases at_ k hk e p hp with⟨i,hi,rfl⟩ | ⟨w0,rfl⟩
   ·h il:=(━ hi).1
    h kp:Knot (nums++new) (i+2):=by unfold Knot;w
    h eg:(nums++new).getD (i+2-2) (0,0,0)=(t,a,b):=by rw[Nat.add_sub_cancel,¯,hi,re];rfl
    cases s with
    | nil =>
     rw[DY B.least.ok kp ¢,eg,DY o kk k2];show led (nums++new) a []=_;rw[Cu okN [] x1];!la []
    | cons x xs =>
     rw[Bm B.least.ok kp ¢,eg,Bm o kk k2,et];show (if x<t then false else if x=t then led (nums++new) b xs else led (nums++new) a (x::xs))=_;rw[Cu okN _ x1,Cu okN _ x2,la,lb];rfl
   ·rw[re] at w0
    h b0:b=0:=w0;rw[re];show led (nums++new) a s=_;rw[Cu okN _ x1,la];h into0:∀ s,led rows (intoOf rows k) s=false:=fun s=>by rw[<- lb,b0,Cg]
    h offA:∀ x xs,x<=t->led rows (outOf rows k) (x::xs)=false:=fun x xs h=>by rw[<- la];!off okN x1 ¢
    cases s with
    | nil=>rw[DY o kk k2];rfl
    | cons x xs =>
     rw[Bm o kk k2,et];by_cases c1:x<t
     ·rw[if_pos c1];!offA x xs ¢
     ·rw[if_neg c1]
      by_cases c2:x=t
      ·rw[if_pos c2]
       show _=led rows (intoOf rows k) xs;rw[into0];!offA x xs ¢
      ·rw[if_neg c2];rfl
  ·h hp':=old k hk ¢ p hp
   o⟨p',e1,e2,_⟩:=I.base.has k hk ¢;rw[hp'] at e1;cases e1;rw[Cu okN s e2];!I.sem k hk ¢ p hp' s
 ·rw[Vk c o h1 hk ht]
  by_cases e:tieOf rows k=t
  ·rcases at_ k hk e p hp with⟨i,hi,rfl⟩ | h
   ·!.inl ⟨by w,hi⟩
   ·!.inr h
  ·rcases I.img k hk ¢ p (old k hk ¢ p hp) with⟨h2,h3⟩ | h
   ·r .inl ⟨h2,?_⟩
    rw[┆ (━ h3).1];!h3
   ·!.inr h
 ·rcases Nat.lt_or_ge i nums.length with hi | hi
  ·rw[┆ hi] at e
   o⟨k,hk,ht,hp⟩:=I.sur i r e;!⟨k,hk,by w,by rw[h1 k (.inr ¢)];!hp⟩
  ·h e':=e
   rw[List.getElem?_append_right hi] at e';o⟨k,hk,ht,rfl,w0⟩:=hw r (┈ e');o⟨p,hp,h⟩:=h2 k hk ht;r⟨k,hk,by w,?_⟩;rcases h with⟨j,hj,rfl⟩ | ⟨nm,_⟩
   ·rw[B.least.one i j _ e hj]
    !hp
   ·!absurd (┈ e) nm
 ·r List.pairwise_append.mpr ⟨I.srt,so,fun a ha b hb=>.inl ?_⟩
  have:=I.base.ge a ha;o⟨k,_,hk,rfl,_⟩:=hw b hb;show tieOf rows k<a.1;w
structure Canon(n:Nat)(nums:List Row)(top:Nat):Prop where
 least:Least n nums
 srt:nums.Pairwise RowLt
 knot:Knot nums top
 led:∀ p,2<=p->Knot nums p->p=top\/∃ r∈nums,r.2.1=p\/r.2.2=p
theorem Kept2.canon(I:Kept2 n 0 rows rc nums pl)(c:Closed rows rc)(o:Ok n rows){top hd:Nat}(ht:top<=1\/top∈rc)(hp:pl top=some hd)(par:∀ k∈rc,k=top\/∃ k'∈rc,k<k'/\(outOf rows k'=k\/intoOf rows k'=k)) :
  Canon n nums hd/\∀ s,led nums hd s=led rows top s:=by
 h key:∀ d k p,k∈rc->rows.length+2-k<=d->pl k=some p->2<=p->p=hd\/∃ r∈nums,r.2.1=p\/r.2.2=p:=by
  intro d
  induction d with
  | zero =>
   intro k p hk hd' _ _;have:=c.knot k hk;unfold Knot at this;w
  | succ d ih =>
   intro k p hk hd' hkp p2;rcases par k hk with rfl | ⟨k',hk',lt,ch⟩
   ·rw[hp] at hkp
    !.inl (Option.some.inj hkp).symm
   ·o⟨p',hp',_⟩:=I.base.has k' hk' (Nat.zero_le _)
    h im:=I.img k' hk' (Nat.zero_le _) p' hp';rcases ch with e | e
    ·h ep:(rowIn rows pl k').2.1=p:=by
      show (pl (outOf rows k')).getD 0=p;rw[e,hkp];rfl
     rcases im with⟨_,h3⟩ | ⟨_,h4⟩
     ·!.inr ⟨_,┈ h3,.inl ep⟩
     ·rw[ep] at h4
      subst h4;have:=c.knot k' hk';unfold Knot at this;!ih k' p' hk' ¢ hp' p2
    ·h ep:(rowIn rows pl k').2.2=p:=by
      show (pl (intoOf rows k')).getD 0=p;rw[e,hkp];rfl
     rcases im with⟨_,h3⟩ | ⟨h4,_⟩
     ·!.inr ⟨_,┈ h3,.inr ep⟩
     ·w
 r⟨⟨I.base.least,I.srt,?_,fun p p2 kp=>?_⟩,fun s=>?_⟩
 ·rcases ht with h | h
  ·have:top=0\/top=1:=by w
   rcases this with rfl | rfl
   ·rw[I.base.z] at hp;cases hp;unfold Knot;w
   ·rw[I.base.o] at hp;cases hp;unfold Knot;w
  ·o⟨p,e,kn,_⟩:=I.base.has top h (Nat.zero_le _)
   rw[hp] at e;cases e;!kn
 ·o⟨k,hk,_,hkp⟩:=I.sur (p-2) _ (Bc kp p2)
  rw[show p-2+2=p by w] at hkp;!key _ k p hk ② hkp p2
 ·rcases ht with h | h
  ·have:top=0\/top=1:=by w
   rcases this with rfl | rfl
   ·rw[I.base.z] at hp;cases hp;rw[Cg,Cg]
   ·rw[I.base.o] at hp;cases hp;rw[DK,DK]
  ·!I.sem top h (Nat.zero_le _) hd hp s
end
theorem Kd{α:Type}{R:α->α->Prop}(as:∀ a b,R a b->R b a->False):∀{l m:List α},l.Pairwise R->m.Pairwise R->(∀ x,x∈l↔x∈m)->l=m
 | [],[],_,_,_=>rfl
 | [],b::m,_,_,h=>absurd ((h b).mpr ´) (fun z=>nomatch z)
 | a::l,[],_,_,h=>absurd ((h a).mp ´) (fun z=>nomatch z)
 | a::l,b::m,hl,hm,h=>by
  o⟨l1,l2⟩:=List.pairwise_cons.mp hl;o⟨m1,m2⟩:=List.pairwise_cons.mp hm;h e:a=b:=by
   rcases ┃ ((h a).mp ´) with e | e
   ·!e
   ·rcases ┃ ((h b).mpr ´) with e' | e'
    ·!e'.symm
    ·!(as _ _ (m1 a e) (l1 b e')).elim
  subst e
  congr 1
  r Kd as l2 m2 fun x=>⟨fun hx=>?_,fun hx=>?_⟩
  ·rcases ┃ ((h x).mp (¶ _ hx)) with e | e
   ·rw[e] at hx;!(as _ _ (l1 a hx) (l1 a hx)).elim
   ·!e
  ·rcases ┃ ((h x).mpr (¶ _ hx)) with e | e
   ·rw[e] at hx;!(as _ _ (m1 a hx) (m1 a hx)).elim
   ·!e
theorem RQ(a b:Row)(h:RowLt a b)(k:RowLt b a):False:=by
 unfold RowLt at h k;w
theorem Gq(t:Nat):∀{A:List Row},A.Pairwise RowLt->A=A.filter (fun r=>decide (t<=r.1))++A.filter (fun r=>!decide (t<=r.1))
 | [],_=>rfl
 | a::l,h=>by
  o⟨h1,h2⟩:=List.pairwise_cons.mp h;by_cases c:t<=a.1
  ·rw[List.filter_cons,List.filter_cons,if_pos (by u c),if_neg (by u c),List.cons_append,<- Gq t h2]
  ·h z:∀ r∈l,¬ t<=r.1:=fun r hr=>by
    have:=h1 r hr;unfold RowLt at this;w
   h e1:l.filter (fun r=>decide (t<=r.1))=[]:=List.filter_eq_nil_iff.mpr fun r hr=>by u z r hr
   h e2:l.filter (fun r=>!decide (t<=r.1))=l:=List.filter_eq_self.mpr fun r hr=>by u z r hr
   rw[List.filter_cons,List.filter_cons,if_neg (by u c),if_pos (by u c),e1,e2];rfl
section
variable{n:Nat}{A B:List Row}{a b k k':Nat}
theorem Kg(L:Least n A):∀(f k:Nat),k<f->Knot A k->k≠0->∃ s,Way n A k s/\(2<=k->∃ xs,s=rank n A k::xs)/\(k=1->s=[])
 | 0,k,h,_,_=>by w
 | f+1,k,h,kn,k0=>by
  rcases Nat.lt_or_ge k 2 with c | c
  ·h e:k=1:=by w
   subst e;!⟨[],ACc,fun z=>by w,fun _=>rfl⟩
  ·o⟨_,_,h3,_,_,_,k2⟩:=L.ok.low (Bc kn c)
   h w0:=L.pos _ _ (Bc kn c);o⟨s,hs,_⟩:=Kg L f _ ¢ k2 w0;r⟨_,ABe L kn c hs,fun _=>⟨s,?_⟩,fun z=>by w⟩;unfold rank;rw[if_neg ¢]
structure Sim(A B:List Row)(k k':Nat):Prop where
 ka:Knot A k
 kb:Knot B k'
 eq:∀ s,led A k s=led B k' s
theorem Sim.symm(S:Sim A B k k'):Sim B A k' k:=⟨S.kb,S.ka,fun s=>(S.eq s).symm⟩
theorem Sim.no(LA:Least n A)(LB:Least n B)(S:Sim A B k k'):¬ rank n A k<rank n B k':=fun h=>by
 h k0:k≠0:=fun e=>by
  subst e;have:rank n B k'<=n+1:=by
   unfold rank;by_cases c:k'<2
   ·rw[if_pos c];w
   ·rw[if_neg c]
    have:=(LB.ok.low (Bc S.kb ¢)).1;w
  h e:rank n A 0=n+1:=by unfold rank;rw[if_pos ¤];rfl
  w
 o⟨s,⟨w1,_,_⟩,s2,s1⟩:=Kg LA _ k (Nat.lt_succ_self _) S.ka k0;rcases Nat.lt_or_ge k 2 with c | c
 ·h e:k=1:=by w
  subst e;rw[s1 rfl,S.eq] at w1;h e1:rank n A 1=n:=by unfold rank;rw[if_pos ¤];rfl
  h k1:k'=0:=by
   unfold rank at h e1;rw[e1] at h;by_cases c':k'<2
   ·rw[if_pos c'] at h;w
   ·rw[if_neg c'] at h
    have:=(LB.ok.low (Bc S.kb ¢)).1;w
  rw[k1,Cg] at w1;cases w1
 ·o⟨xs,rfl⟩:=s2 c
  rw[S.eq,off LB.ok S.kb h] at w1;cases w1
theorem Sim.rank_eq(LA:Least n A)(LB:Least n B)(S:Sim A B k k'):rank n A k=rank n B k':=by
 h h1:=S.no LA LB;h h2:=S.symm.no LB LA;w
theorem GD(L:Least n A)(kn:Knot A k):2<=k↔rank n A k<n:=by
 unfold rank;constructor
 ·intro h
  rw[if_neg ¢];!(L.ok.low (Bc kn h)).1
 ·intro h
  rcases Nat.lt_or_ge k 2 with c | c
  ·rw[if_pos c] at h;w
  ·!c
theorem Sim.small(LA:Least n A)(LB:Least n B)(S:Sim A B k k')(h:k<=1):k=k':=by
 h e:=S.rank_eq LA LB;h z:=GD LA S.ka;h z':=GD LB S.kb;have:¬ 2<=k':=fun c=>by have:=z'.mp c;rw[<- e] at this;have:=z.mpr this;w
 unfold rank at e;rw[if_pos ¢,if_pos ¢] at e;w
theorem Sim.child(LA:Least n A)(LB:Least n B)(S:Sim A B k k')(h:2<=k):2<=k'/\tieOf A k=tieOf B k'/\Sim A B (outOf A k) (outOf B k')/\Sim A B (intoOf A k) (intoOf B k'):=by
 h e:=S.rank_eq LA LB;h k2:2<=k':=(GD LB S.kb).mpr (by rw[<- e];!(GD LA S.ka).mp h);h et:tieOf A k=tieOf B k':=by
  unfold rank at e;rw[if_neg ¢,if_neg ¢] at e;!e
 o⟨_,_,_,ra,_,ka1,ka2⟩:=LA.ok.low (Bc S.ka h);o⟨_,_,_,rb,_,kb1,kb2⟩:=LB.ok.low (Bc S.kb k2);r⟨k2,et,⟨ka1,kb1,fun s=>?_⟩,⟨ka2,kb2,fun s=>?_⟩⟩
 ·cases s with
  | nil =>
   have:=S.eq [];rw[DY LA.ok S.ka h,DY LB.ok S.kb k2] at this;!this
  | cons x xs =>
   by_cases c:x<=tieOf A k
   ·rw[show led A (outOf A k) (x::xs)=false from off LA.ok ka1 (by show x<rank n A (A.getD (k-2) (0,0,0)).2.1;unfold tieOf at c;w),show led B (outOf B k') (x::xs)=false from off LB.ok kb1 (by show x<rank n B (B.getD (k'-2) (0,0,0)).2.1;unfold tieOf at c et;w)]
   ·have:=S.eq (x::xs)
    rw[Bm LA.ok S.ka h,Bm LB.ok S.kb k2] at this;unfold tieOf at c et;rw[if_neg ¢,if_neg ¢,if_neg ¢,if_neg ¢] at this;!this
 ·have:=S.eq (tieOf A k::s)
  rw[Bm LA.ok S.ka h,Bm LB.ok S.kb k2] at this;unfold tieOf at this et;rw[if_neg ¢,if_pos rfl,if_neg ¢,if_pos et] at this;!this
theorem Sim.all(CA:Canon n A a)(CB:Canon n B b)(S:Sim A B a b):∀(d k:Nat),A.length+2-k<=d->2<=k->Knot A k->∃ k',Sim A B k k'
 | 0,k,h,_,kn=>by unfold Knot at kn;w
 | d+1,k,h,k2,kn=>by
  rcases CA.led k k2 kn with rfl | ⟨r,hr,ch⟩
  ·!⟨b,S⟩
  ·o⟨i,hi⟩:=List.mem_iff_getElem?.mp hr
   h il:=(━ hi).1;o⟨_,lo,li,_⟩:=CA.least.ok.low hi;h er:A.getD (i+2-2) (0,0,0)=r:=by rw[Nat.add_sub_cancel,¯,hi];rfl
   o⟨j,SJ⟩:=Sim.all CA CB S d (i+2) (by unfold Knot at kn;rcases ch with e | e<;>w) ¢ (by unfold Knot;w);o⟨_,_,s1,s2⟩:=SJ.child CA.least CB.least ¢;unfold outOf at s1;unfold intoOf at s2;rw[er] at s1 s2;rcases ch with e | e
   ·rw[e] at s1;!⟨_,s1⟩
   ·rw[e] at s2;!⟨_,s2⟩
theorem half(CA:Canon n A a)(CB:Canon n B b)(S:Sim A B a b){t:Nat}(P:∀ k k',Sim A B k k'->t+1<=rank n A k->k=k'){r:Row}(hr:r∈A)(ht:r.1=t):r∈B:=by
 o⟨i,hi⟩:=List.mem_iff_getElem?.mp hr;h il:=(━ hi).1;h er:A.getD (i+2-2) (0,0,0)=r:=by rw[Nat.add_sub_cancel,¯,hi];rfl
 o⟨j,SJ⟩:=Sim.all CA CB S _ (i+2) ② ¢ (by unfold Knot;w);o⟨j2,et,s1,s2⟩:=SJ.child CA.least CB.least ¢;o⟨_,_,_,r1,r2,_,_⟩:=CA.least.ok.low hi;h e1:r.2.1=outOf B j:=by
  have:=P _ _ s1 (by unfold outOf;rw[er];w);unfold outOf at this ⊢;rw[er] at this;!this
 h e2:r.2.2=intoOf B j:=by
  have:=P _ _ s2 (by unfold intoOf;rw[er];w);unfold intoOf at this ⊢;rw[er] at this;!this
 h e3:r.1=tieOf B j:=by
  unfold tieOf at et ⊢;rw[er] at et;!et
 have:r=B.getD (j-2) (0,0,0):=Prod.ext e3 (Prod.ext e1 e2);rw[this];!┈ (Bc SJ.kb j2)
theorem YH(CA:Canon n A a)(CB:Canon n B b)(S:Sim A B a b):∀ d,(∀ r:Row,n<=r.1+d->(r∈A↔r∈B))/\∀ k k',Sim A B k k'->n<=rank n A k+d->k=k':=by
 intro d
 induction d with
 | zero =>
  have hA:∀ r∈A,r.1<n:=fun r hr=>by
   o⟨i,hi⟩:=List.mem_iff_getElem?.mp hr;!(CA.least.ok.low hi).1
  have hB:∀ r∈B,r.1<n:=fun r hr=>by
   o⟨i,hi⟩:=List.mem_iff_getElem?.mp hr;!(CB.least.ok.low hi).1
  r⟨fun r h=>⟨fun z=>?_,fun z=>?_⟩,fun k k' s h=>?_⟩
  ·have:=hA r z;w
  ·have:=hB r z;w
  ·r s.small CA.least CB.least ?_
   have:=GD CA.least s.ka;rcases Nat.lt_or_ge k 2 with c | c
   ·w
   ·have:=this.mp c;w
 | succ d ih =>
  o⟨M,P⟩:=ih;h M':∀ r:Row,n<=r.1+(d+1)->(r∈A↔r∈B):=fun r h=>by
   by_cases c:n<=r.1+d
   ·!M r c
   ·r⟨fun z=>half CA CB S (fun k k' s hk=>P k k' s ¢) z rfl,fun z=>half CB CA S.symm (fun k k' s hk=>?_) z rfl⟩
    h e:=s.rank_eq CB.least CA.least;!(P k' k s.symm ¢).symm
  r⟨M',fun k k' s h=>?_⟩;by_cases c:n<=rank n A k+d
  ·!P k k' s c
  rcases Nat.lt_or_ge k 2 with k2 | k2
  ·!s.small CA.least CB.least ¢
  o⟨k2',et,s1,s2⟩:=s.child CA.least CB.least k2;o⟨_,_,_,r1,r2,_,_⟩:=CA.least.ok.low (Bc s.ka k2);h rk:rank n A k=tieOf A k:=by unfold rank tieOf;rw[if_neg ¢]
  h e1:=P _ _ s1 (by unfold outOf;unfold tieOf at rk;w);h e2:=P _ _ s2 (by unfold intoOf;unfold tieOf at rk;w);h er:A.getD (k-2) (0,0,0)=B.getD (k'-2) (0,0,0):=Prod.ext et (Prod.ext e1 e2);h ef:A.filter (fun r=>decide (tieOf A k<=r.1))=B.filter (fun r=>decide (tieOf A k<=r.1)):=by
   r Kd RQ (CA.srt.filter _) (CB.srt.filter _) fun r=>?_;rw[List.mem_filter,List.mem_filter];constructor
   ·rintro⟨h1,h2⟩
    !⟨(M' r (by have:=of_decide_eq_true h2;w)).mp h1,h2⟩
   ·rintro⟨h1,h2⟩
    !⟨(M' r (by have:=of_decide_eq_true h2;w)).mpr h1,h2⟩
  h mem:A.getD (k-2) (0,0,0)∈A.filter (fun r=>decide (tieOf A k<=r.1)):=List.mem_filter.mpr ⟨┈ (Bc s.ka k2),decide_eq_true ②⟩;o⟨i,hi⟩:=List.mem_iff_getElem?.mp mem;h il:=(━ hi).1;h iA:A[i]?=some (A.getD (k-2) (0,0,0)):=by
   rw[Gq (tieOf A k) CA.srt,┆ il];rw[<- Gq (tieOf A k) CA.srt];!hi
  h iB:B[i]?=some (B.getD (k'-2) (0,0,0)):=by
   rw[<- er];rw[ef] at hi il;rw[Gq (tieOf A k) CB.srt,┆ il];!hi
  h j1:=CA.least.one _ _ _ iA (Bc s.ka k2);h j2:=CB.least.one _ _ _ iB (Bc s.kb k2');w
theorem Canon.unique(CA:Canon n A a)(CB:Canon n B b)(h:∀ s,G.led A a s=G.led B b s):A=B/\a=b:=by
 h S:Sim A B a b:=⟨CA.knot,CB.knot,h⟩;o⟨M,P⟩:=YH CA CB S n;!⟨Kd RQ CA.srt CB.srt fun r=>M r ¢,P a b S ¢⟩
end
def up(s:List Nat):List Int:=s.map fun(x:Nat)=>(x:Int)
theorem KD:∀{s u:List Nat},up s=up u->s=u
 | [],[],_=>rfl
 | [],_::_,h=>by cases h
 | _::_,[],h=>by cases h
 | x::s,y::u,h=>by
  h h':(x:Int)::up s=(y:Int)::up u:=h;injection h' with h1 h2
  rw[KD h2,Int.ofNat.inj h1]
section
variable{n lo d t k1 k2:Nat}{ss:List ⑤}{rows more more1 more2:List Row}
structure Made2(n lo d:Nat)(rows more:List Row)(k:Nat)(ss:List ⑤):Prop where
 base:Made n lo d rows more k ss.length
 sem:∀ s,led (rows++more) k s=decide (up s∈ss)
theorem Made2.none(o:Ok n rows)(e:ss=[]):Made2 n lo d rows [] 0 ss:=⟨Made.none o,fun s=>by rw[Cg,e];rfl⟩
theorem Made2.one(o:Ok n rows)(e:ss=[[]]):Made2 n lo d rows [] 1 ss:=⟨Made.one o,fun s=>by
 rw[DK,e];cases s with
 | nil=>rfl
 | cons x xs =>
  rw[decide_eq_false (fun z=>by cases z),decide_eq_false (fun z=>by
   have:=List.mem_singleton.mp z;cases this)]⟩
theorem Made2.step(so:SetsOk n lo ss)(hl:∀ a∈heads ss,(t:Int)<=a)(M1:Made2 n (t+1) d rows more1 k1 (ss.filter fun s=>!decide ((t:Int)∈s)))(M2:Made2 n (t+1) d (rows++more1) more2 k2 ((ss.filter fun s=>decide ((t:Int)∈s)).map List.tail))
  (hm:1<=ss.length) (ht:t<n) (hlo:lo<=t):Made2 n lo (d+1) rows (more1++more2++[(t,k1,k2)]) ((rows++(more1++more2)).length+2) ss:=by
 h sp:=split_len (fun s=>decide ((t:Int)∈s)) ss;h B2:=M2.base;rw[─] at B2;h M:=M1.base.step B2 sp hm ht hlo;r⟨M,fun s=>?_⟩;h er:rows++(more1++more2++[(t,k1,k2)])=rows++more1++more2++[(t,k1,k2)]:=by simp
 h er1:rows++(more1++more2++[(t,k1,k2)])=(rows++more1)++(more2++[(t,k1,k2)]):=by simp
 h ek:(rows++(more1++more2++[(t,k1,k2)])).getD ((rows++(more1++more2)).length+2-2) (0,0,0)=(t,k1,k2):=by
  rw[er,Nat.add_sub_cancel,¯,List.getElem?_append_right ¥,show (rows++(more1++more2)).length-(rows++more1++more2).length=0 by simp];rfl
 h l1:∀ s,led (rows++(more1++more2++[(t,k1,k2)])) k1 s=decide (up s∈ss.filter fun s=>!decide ((t:Int)∈s)):=fun s=>by
  rw[er1,Cu M1.base.ok s M1.base.kn];!M1.sem s
 h l2:∀ s,led (rows++(more1++more2++[(t,k1,k2)])) k2 s=decide (up s∈(ss.filter fun s=>decide ((t:Int)∈s)).map List.tail):=fun s=>by
  rw[er,Cu M2.base.ok s M2.base.kn];!M2.sem s
 cases s with
 | nil =>
  rw[DY M.ok M.kn ¢,ek];show led _ k1 []=_;rw[l1];r decide_eq_decide.mpr ?_;rw[List.mem_filter];!⟨fun h=>h.1,fun h=>⟨h,rfl⟩⟩
 | cons x xs =>
  rw[Bm M.ok M.kn ¢,ek];show (if x<t then false else if x=t then led _ k2 xs else led _ k1 (x::xs))=_;h asc:up (x::xs)∈ss->∀ y∈up xs,(x:Int)<y:=fun h=>(List.pairwise_cons.mp (so.asc _ h)).1;by_cases c1:x<t
  ·rw[if_pos c1]
   r(decide_eq_false fun h=>?_).symm;have:=hl (x:Int) (Dy.mpr ⟨up xs,h⟩);w
  ·rw[if_neg c1]
   by_cases c2:x=t
   ·rw[if_pos c2,l2]
    r decide_eq_decide.mpr ?_;subst c2;constructor
    ·intro h
     o⟨u,hu,e⟩:=List.mem_map.mp h;o⟨h1,h2⟩:=List.mem_filter.mp hu;have:=so.led hl h1 (of_decide_eq_true h2);rw[e] at this;rw[this] at h1;!h1
    ·intro h
     !List.mem_map.mpr ⟨up (x::xs),List.mem_filter.mpr ⟨h,decide_eq_true ´⟩,rfl⟩
   ·rw[if_neg c2,l1]
    r decide_eq_decide.mpr ?_;rw[List.mem_filter];r⟨fun h=>h.1,fun h=>⟨h,?_⟩⟩;have:(t:Int)∉up (x::xs):=fun z=>by
     rcases ┃ (show (t:Int)∈(x:Int)::up xs from z) with e | e
     ·w
     ·have:=asc h _ e;w
    rw[decide_eq_false this];rfl
end
theorem ZP{n:Nat}{rows nums:List Row}{rc:List Nat}{pl:Nat->Option Nat}(I:Kept2 n 0 rows rc nums pl)(c:Closed rows rc):nums.length<=rows.length:=by
 h ex:∀ i,i<nums.length->∃ k,k∈rc/\pl k=some (i+2):=fun i hi=>by
  o⟨k,hk,_,e⟩:=I.sur i _ (± hi);!⟨k,hk,e⟩
 let g:Nat->Nat:=fun i=>if h:i<nums.length then Classical.choose (ex i h) else 0
 h hg:∀ i,i<nums.length->g i∈rc/\pl (g i)=some (i+2):=fun i hi=>by
  h z:=Classical.choose_spec (ex i hi);show (if h:i<nums.length then Classical.choose (ex i h) else 0)∈rc/\pl (if h:i<nums.length then Classical.choose (ex i h) else 0)=some (i+2);rw[dif_pos hi];!z
 h nd:((List.range nums.length).map g).Nodup:=by
  unfold List.Nodup;rw[List.pairwise_map];r List.Pairwise.imp_of_mem (fun {a b} ha hb h e=>?_) (List.nodup_range (n:=nums.length));h h1:=(hg a (List.mem_range.mp ha)).2;h h2:=(hg b (List.mem_range.mp hb)).2;rw[e,h2] at h1;injection h1 with h1
  w
 h z:=ST.Bx nd (l₂:=(List.range rows.length).map (·+2)) fun x hx=>by
  o⟨i,hi,rfl⟩:=List.mem_map.mp hx;h hk:=(hg i (List.mem_range.mp hi)).1;h a:=c.two _ hk;h b:g i<rows.length+2:=c.knot _ hk;!List.mem_map.mpr ⟨g i-2,List.mem_range.mpr ¢,by w⟩
 rw[─,─,List.length_range,List.length_range] at z;!z
section
variable{n t:Nat}{A rows nums:List Row}{rc:List Nat}{pl:Nat->Option Nat}
theorem Sim.inj(L:Least n A):∀(f k k':Nat),k<f->Sim A A k k'->k=k':=by
 intro f
 induction f with
 | zero=>intro k k' h;w
 | succ f ih =>
  intro k k' hk S;rcases Nat.lt_or_ge k 2 with c | c
  ·!S.small L L ¢
  ·o⟨c',et,so,si⟩:=S.child L L c
   h ra:=Bc S.ka c;h rb:=Bc S.kb c';o⟨_,a1,a2,_⟩:=L.ok.low ra;h e1:outOf A k=outOf A k':=ih _ _ (by show (A.getD (k-2) (0,0,0)).2.1<f;w) so;h e2:intoOf A k=intoOf A k':=ih _ _ (by show (A.getD (k-2) (0,0,0)).2.2<f;w) si;h er:A.getD (k-2) (0,0,0)=A.getD (k'-2) (0,0,0):=Prod.ext et (Prod.ext e1 e2);rw[er] at ra;have:=L.one _ _ _ ra rb;w
theorem WD(L:Least n A){a b:Nat}(ka:Knot A a)(kb:Knot A b)(h:∀ s,led A a s=led A b s):a=b:=Sim.inj L (a+1) a b (Nat.lt_succ_self _) ⟨ka,kb,h⟩
theorem Zf{P:Nat->Prop}{top:Nat}(pt:P top)(ps:∀ k,P k->2<=k->Knot rows k->P (outOf rows k)/\P (intoOf rows k))(c:Closed rows rc)(par:∀ k∈rc,k=top\/∃ k'∈rc,k<k'/\(outOf rows k'=k\/intoOf rows k'=k)):∀(d k:Nat),rows.length+2-k<=d->k∈rc->P k:=by
 intro d
 induction d with
 | zero=>intro k h hk;have:k<rows.length+2:=c.knot k hk;w
 | succ d ih =>
  intro k h hk;rcases par k hk with rfl | ⟨k',hk',lt,e⟩
  ·!pt
  ·have:k<rows.length+2:=c.knot k hk
   h z:=ps k' (ih k' ¢ hk') (c.two k' hk') (c.knot k' hk');rcases e with rfl | rfl
   ·!z.1
   ·!z.2
def lowH(t:Nat):List Nat->Bool
 | []=>false
 | x::_=>decide (x<=t)
end
section
variable{n:Nat}{A rows more:List Row}{m k:Nat}
def Like(A rows:List Row)(m k:Nat):Prop:=Knot rows k/\∀ s,led rows k s=led A m s
theorem ADf(rows:List Row)(r:Row):(rows++[r]).getD (rows.length+2-2) (0,0,0)=r:=by
 rw[Nat.add_sub_cancel,¯,List.getElem?_append_right ¢,Nat.sub_self];rfl
theorem ABl(rows:List Row)(r:Row):Knot (rows++[r]) (rows.length+2):=by
 unfold Knot;rw[│,List.length_singleton];w
theorem Oz{t:Nat}(ks:List Nat)(hk:∀ k∈ks,2<=k/\Knot A k/\tieOf A k=t)(nd:ks.Nodup):ks.length<=(A.filter fun r=>decide (r.1=t)).length:=by
 h hsub:∀ i∈(ks.map (· - 2)),i<A.length/\(A.getD i (0,0,0)).1=t:=fun i hi=>by
  o⟨k,hk',rfl⟩:=List.mem_map.mp hi;o⟨k2,kn,ht⟩:=hk k hk';!⟨by unfold Knot at kn;w,ht⟩
 h nd2:(ks.map (· - 2)).Nodup:=by
  unfold List.Nodup;rw[List.pairwise_map];r List.Pairwise.imp_of_mem (fun {a b} ha hb h e=>h ?_) nd;have:=(hk a ha).1;have:=(hk b hb).1;w
 h z:=ST.Bx nd2 (l₂:=(List.range A.length).filter fun i=>decide ((A.getD i (0,0,0)).1=t)) fun i hi=>by
  o⟨h1,h2⟩:=hsub i hi;!List.mem_filter.mpr ⟨List.mem_range.mpr h1,decide_eq_true h2⟩
 rw[─] at z;r Nat.le_trans z (Nat.le_of_eq ?_);h e:A=(List.range A.length).map fun i=>A.getD i (0,0,0):=by
  apply List.ext_getElem?;intro i;rw[┉];by_cases c:i<A.length
  ·rw[List.getElem?_range c,± c]
   simp[¯,c]
  ·rw[List.getElem?_eq_none ¢,List.getElem?_eq_none (by rw[List.length_range];w)]
   rfl
 conv=>rhs;rw[e,List.filter_map,─]
 rfl
structure Stand(A rows:List Row)(m:Nat)(ks:List Nat):Prop where
 kn:Knot A m
 all:∀ k∈ks,Like A rows m k
 some:∃ k∈ks,k<=1\/(2<=m/\tieOf A m<=tieOf rows k)
 len:ks.length<=6
end
def addRow(S:List (List (List Nat)))(r:Row):List (List (List Nat)):=S++[S.getD r.2.1 []++(S.getD r.2.2 []).map (r.1::·)]
def setsUp(rows:List Row):List (List (List Nat)):=rows.foldl addRow [[],[[]]]
def setsOf(rows:List Row)(k:Nat):List (List Nat):=(setsUp rows).getD k []
theorem Fv(rows:List Row)(r:Row):setsUp (rows++[r])=addRow (setsUp rows) r:=by unfold setsUp;rw[List.foldl_append];rfl
theorem Dg:∀(rows:List Row),(setsUp rows).length=rows.length+2:=by
 intro rows
 suffices h:∀(l:List Row) (S:List (List (List Nat))),(l.foldl addRow S).length=S.length+l.length by
  unfold setsUp;rw[h];show 2+_=_;w
 intro l
 induction l with
 | nil=>intro S;simp
 | cons a l ih =>
  intro S;rw[List.foldl_cons,ih];unfold addRow;rw[│];simp;w
def num(n:Nat):List Nat->Nat
 | []=>0
 | x::xs=>2 ^ (n-1-x)+num n xs
theorem Uq{n:Nat}:∀{s:List Nat}{t:Nat},s.Pairwise (· < ·)->(∀ x∈s,t<=x/\x<n)->num n s<2 ^ (n-t)
 | [],t,_,_=>Nat.two_pow_pos _
 | x::xs,t,h,hr=>by
  o⟨h1,h2⟩:=List.pairwise_cons.mp h;o⟨x1,x2⟩:=hr x ´;h ih:=Uq (t:=x+1) h2 fun y hy=>⟨h1 y hy,(hr y (¶ _ hy)).2⟩;h e:2 ^ (n-x)=2 ^ (n-1-x)+2 ^ (n-1-x):=by
   rw[show n-x=(n-1-x)+1 by w,Nat.pow_succ];w
  h le:2 ^ (n-x)<=2 ^ (n-t):=Nat.pow_le_pow_right ¤ ¢;h e2:n-(x+1)=n-1-x:=by w
  rw[e2] at ih;show 2 ^ (n-1-x)+num n xs<_;w
section
variable{n:Nat}{rows:List Row}
structure InOrder(n:Nat)(rows:List Row)(k:Nat)(L:List (List Nat)):Prop where
 mem:∀ s,s∈L↔led rows k s=true
 ord:L.Pairwise fun s u=>num n s<num n u
 way:∀ s∈L,s.Pairwise (· < ·)/\∀ x∈s,rank n rows k<=x/\x<n
theorem ABY{α:Type}{l m:List α}{k:Nat}{d:α}(h:k<l.length):(l++m).getD k d=l.getD k d:=by
 rw[¯,¯,┆ h]
theorem Vt(o:Ok n rows)(r:Row){k:Nat}(kn:Knot rows k):setsOf (rows++[r]) k=setsOf rows k:=by
 unfold setsOf;rw[Fv];unfold addRow;!ABY (by rw[Dg];!kn)
theorem Uj(rows:List Row)(r:Row):setsOf (rows++[r]) (rows.length+2)=setsOf rows r.2.1++(setsOf rows r.2.2).map (r.1::·):=by
 unfold setsOf;rw[Fv];unfold addRow;rw[¯,List.getElem?_append_right (by rw[Dg];!Nat.le_refl _),Dg,Nat.sub_self];rfl
theorem InOrder.app(o:Ok n rows){r:Row}{k:Nat}{L:List (List Nat)}(kn:Knot rows k)(I:InOrder n rows k L):InOrder n (rows++[r]) k L :=
 ⟨fun s=>by rw[Cu o s kn];!I.mem s,I.ord,fun s hs=>by rw[Kp kn];!I.way s hs⟩
theorem Ij{r:Row}(o:Ok n (rows++[r])):Ok n rows:=fun i q e=>by
 h il:=(━ e).1;o⟨h1,h2,h3⟩:=o i q (by rw[┆ il];!e);h low:∀ l,Low (rows++[r]) q.1 (i+2) l->Low rows q.1 (i+2) l:=fun l ⟨a,b⟩=>⟨a,b.imp id fun⟨u,e,z⟩=>⟨u,by rw[┆ ¢] at e;!e,z⟩⟩;!⟨h1,low _ h2,low _ h3⟩
theorem Ik:∀(m:Nat) (rows:List Row),rows.length=m->Ok n rows->∀ k,Knot rows k->InOrder n rows k (setsOf rows k):=by
 intro m
 induction m with
 | zero =>
  intro rows h o k kn;h e:rows=[]:=List.length_eq_zero_iff.mp h;subst e;have:k=0\/k=1:=by unfold Knot at kn;simp at kn;w
  rcases this with rfl | rfl
  ·r⟨fun s=>?_,.nil,fun s hs=>by cases hs⟩
   rw[Cg];!⟨fun h=>(by cases h),fun h=>(by cases h)⟩
  ·r⟨fun s=>?_,List.pairwise_singleton _ _,fun s hs=>?_⟩
   ·rw[DK,decide_eq_true_iff]
    !List.mem_singleton
   ·rw[List.mem_singleton.mp hs]
    !⟨.nil,fun x hx=>by cases hx⟩
 | succ m ih =>
  intro rows h o k kn;h ne:rows≠[]:=fun e=>by rw[e] at h;cases h
  obtain ⟨init,r,rfl⟩:∃ init r,rows=init++[r]:=⟨rows.dropLast,rows.getLast ne,(List.dropLast_concat_getLast ne).symm⟩;h hl:init.length=m:=by u h
  h oi:=Ij o;h I:=ih init hl oi;by_cases c:k<init.length+2
  ·rw[Vt oi r c]
   !(I k c).app oi c
  ·h ek:k=init.length+2:=by unfold Knot at kn;simp at kn;w
   subst ek;h hi:(init++[r])[init.length]?=some r:=by simp
   o⟨t1,l1,l2,r1,r2,_,_⟩:=o.low hi;h kn1:Knot init r.2.1:=l1;h kn2:Knot init r.2.2:=l2;h I1:=(I _ kn1).app (r:=r) oi kn1;h I2:=(I _ kn2).app (r:=r) oi kn2;h eg:(init++[r]).getD (init.length+2-2) (0,0,0)=r:=by rw[Nat.add_sub_cancel,¯,hi];rfl
   h rk:rank n (init++[r]) (init.length+2)=r.1:=by unfold rank;rw[if_neg ¢,eg]
   rw[Uj];r⟨fun s=>?_,?_,fun s hs=>?_⟩
   ·rw[List.mem_append,List.mem_map]
    cases s with
    | nil =>
     rw[DY o kn ¢,eg,I1.mem];!⟨fun h=>h.elim id fun⟨u,_,e⟩=>(by cases e),.inl⟩
    | cons x xs =>
     rw[Bm o kn ¢,eg,I1.mem];by_cases c1:x<r.1
     ·rw[if_pos c1]
      r⟨fun h=>?_,fun h=>by cases h⟩;rcases h with h | ⟨u,_,e⟩
      ·rw[off o (Ew kn1) ¢] at h;!h
      ·injection e with e _;w
     ·rw[if_neg c1]
      by_cases c2:x=r.1
      ·rw[if_pos c2]
       subst c2;r⟨fun h=>?_,fun h=>.inr ⟨xs,(I2.mem xs).mpr h,rfl⟩⟩;rcases h with h | ⟨u,hu,e⟩
       ·rw[off o (Ew kn1) ¢] at h;cases h
       ·injection e with _ e
        rw[<- e];!(I2.mem u).mp hu
      ·rw[if_neg c2]
       r⟨fun h=>h.elim id fun⟨u,_,e⟩=>(by injection e with e _;w),.inl⟩
   ·r List.pairwise_append.mpr ⟨I1.ord,?_,fun s hs u hu=>?_⟩
    ·rw[List.pairwise_map]
     !I2.ord.imp fun {a b} h=>by show 2 ^ _+_<2 ^ _+_;w
    ·o⟨v,hv,rfl⟩:=List.mem_map.mp hu
     o⟨w1,w2⟩:=I1.way s hs;have:=Uq (n:=n) (t:=r.1+1) w1 fun x hx=>⟨by have:=(w2 x hx).1;w,(w2 x hx).2⟩;rw[show n-(r.1+1)=n-1-r.1 by w] at this;show _<2 ^ (n-1-r.1)+_;w
   ·rw[rk]
    rcases List.mem_append.mp hs with hs | hs
    ·o⟨w1,w2⟩:=I1.way s hs
     !⟨w1,fun x hx=>⟨by have:=(w2 x hx).1;w,(w2 x hx).2⟩⟩
    ·o⟨v,hv,rfl⟩:=List.mem_map.mp hs
     o⟨w1,w2⟩:=I2.way v hv;r⟨.cons (fun x hx=>by have:=(w2 x hx).1;w) w1,fun x hx=>?_⟩;rcases ┃ hx with rfl | hx
     ·!⟨Nat.le_refl _,t1⟩
     ·!⟨by have:=(w2 x hx).1;w,(w2 x hx).2⟩
def hasW(rows:List Row):Nat->Nat->List Int->Bool
 | 0,_,_=>false
 | f+1,k,s=>if k<=1 then decide (k=1/\s=[]) else
  match s with
  | []=>hasW rows f ÷.2.1 []
  | x::xs=>if x=(÷.1:Int) then hasW rows f ÷.2.2 xs else hasW rows f ÷.2.1 (x::xs)
theorem Kh(o:Ok n rows):∀(f k:Nat) (s:List Int),k<f->Knot rows k->(hasW rows f k s=true↔∃ u:List Nat,s=up u/\led rows k u=true):=by
 intro f
 induction f with
 | zero=>intro k s h;w
 | succ f ih =>
  intro k s hk kn;unfold hasW;by_cases c:k<=1
  ·rw[if_pos c,decide_eq_true_iff]
   constructor
   ·rintro⟨rfl,rfl⟩
    !⟨[],rfl,by rw[DK];rfl⟩
   ·rintro⟨u,rfl,h⟩
    have:k=0\/k=1:=by w
    rcases this with rfl | rfl
    ·rw[Cg] at h;cases h
    ·rw[DK,decide_eq_true_iff] at h
     subst h;!⟨rfl,rfl⟩
  ·rw[if_neg c]
   o⟨h1,h2,h3,r1,r2,k1,k2⟩:=o.low (Bc kn ¢);h ih1:=fun s=>ih _ s (show ÷.2.1<f by w) k1;h ih2:=fun s=>ih _ s (show ÷.2.2<f by w) k2;cases s with
   | nil =>
    rw[ih1];constructor
    ·rintro⟨u,e,h⟩
     have:u=[]:=KD e.symm;subst this;!⟨[],rfl,by rw[DY o kn ¢];!h⟩
    ·rintro⟨u,e,h⟩
     have:u=[]:=KD e.symm;subst this;rw[DY o kn ¢] at h;!⟨[],rfl,h⟩
   | cons x xs =>
    by_cases e:x=(÷.1:Int)
    ·show (if x=_ then _ else _)=true↔_
     rw[if_pos e,ih2];constructor
     ·rintro⟨u,rfl,h⟩
      r⟨÷.1::u,by rw[e];rfl,?_⟩;rw[Bm o kn ¢,if_neg ¢,if_pos rfl];!h
     ·rintro⟨u,eu,h⟩
      cases u with
      | nil=>cases eu
      | cons y ys =>
       have eu':x::xs=(y:Int)::up ys:=eu;injection eu' with e1 e2
       have ey:y=÷.1:=by w
       rw[Bm o kn ¢,if_neg ¢,if_pos ey] at h;!⟨ys,e2,h⟩
    ·show (if x=_ then _ else _)=true↔_
     rw[if_neg e,ih1];constructor
     ·rintro⟨u,eu,h⟩
      r⟨u,eu,?_⟩;cases u with
      | nil=>cases eu
      | cons y ys =>
       have eu':x::xs=(y:Int)::up ys:=eu;injection eu' with e1 e2
       have ne:y≠÷.1:=fun z=>e ¢;have ge:¬ y<÷.1:=fun z=>by
        rw[off o k1 ¢] at h;cases h
       rw[Bm o kn ¢,if_neg ge,if_neg ne];!h
     ·rintro⟨u,eu,h⟩
      r⟨u,eu,?_⟩;cases u with
      | nil=>cases eu
      | cons y ys =>
       have eu':x::xs=(y:Int)::up ys:=eu;injection eu' with e1 e2
       have ne:y≠÷.1:=fun z=>e ¢;rw[Bm o kn ¢] at h;by_cases c2:y<÷.1
       ·rw[if_pos c2] at h;cases h
       ·rw[if_neg c2,if_neg ne] at h;!h
end
abbrev Sta:=List Int
section
variable{n t k kl kr:Nat}{rows more:List Row}{f:List Nat->Bool}
structure Lead(rows:List Row)(t k:Nat)(f:List Nat->Bool):Prop where
 kn:Knot rows k
 up:k<=1\/t<=tieOf rows k
 eq:∀ s,led rows k s=f s
theorem Lead.app(o:Ok n rows)(h:Lead rows t k f):Lead (rows++more) t k f:=by
 r⟨Ew h.kn,?_,fun s=>by rw[Cu o s h.kn,h.eq]⟩;rcases Nat.lt_or_ge 1 k with c | c
 ·rw[WQ h.kn c];!h.up
 ·!.inl c
theorem OJ(h:∀ s,f s=false):Lead rows t 0 f:=⟨by unfold Knot;w,.inl ¢,fun s=>by rw[Cg,h]⟩
theorem ABO(h:∀ s,f s=decide (s=[])):Lead rows t 1 f:=⟨by unfold Knot;w,.inl ¢,fun s=>by rw[DK,h]⟩
def Cnt(t:Nat)(more:List Row):Prop:=∀ j,(more.filter fun r=>decide (r.1=j)).length<=if j<t then 0 else 2 ^ (j-t)
theorem cnt_nil:Cnt t []:=fun j=>Nat.zero_le _
theorem Zj{m1 m2:List Row}(h1:Cnt (t+1) m1)(h2:Cnt (t+1) m2):Cnt t (m1++m2++[(t,kl,kr)]):=fun j=>by
 h a:=h1 j;h b:=h2 j;rw[List.filter_append,List.filter_append,│,│];rcases Nat.lt_trichotomy j t with c | c | c
 ·rw[if_pos ¢] at a b
  rw[if_pos c,List.filter_cons_of_neg (by simp;w)];show _+_+0<=0;w
 ·subst c
  rw[if_pos ¢] at a b;rw[if_neg ¢,Nat.sub_self,List.filter_cons_of_pos ¥];show _+_+1<=1;w
 ·rw[if_neg ¢] at a b
  rw[if_neg ¢,List.filter_cons_of_neg (by simp;w)];h e:2 ^ (j-t)=2 ^ (j-(t+1))+2 ^ (j-(t+1)):=by
   rw[show j-t=(j-(t+1))+1 by w,Nat.pow_succ];w
  show _+_+0<=_;w
end
abbrev StO:=List (Option Int)
section
variable (lef tak pas:Nat->StO->Option StO)(ful:StO->Bool)
def stepO(t:Nat)(g:Option StO->List Nat->Bool)(st:StO):List Nat->Bool
 | []=>g (lef t st) []
 | x::xs=>if x<t then false else if x=t then g (tak t st) xs else g (lef t st) (x::xs)
def semO:Nat->Nat->Option StO->List Nat->Bool
 | _,_,none,_=>false
 | 0,t,some r,s=>match pas t r with
  | none=>false
  | some st=>ful st&&decide (s=[])
 | d+1,t,some r,s=>match pas t r with
  | none=>false
  | some st=>stepO lef tak t (semO d (t+1)) st s
end
theorem Xy{n t kl kr:Nat}{rows:List Row}{lef tak:Nat->StO->Option StO}{g:Option StO->List Nat->Bool}{st:StO}(o:Ok n rows)(tn:t<n)(hl:Lead rows (t+1) kl (g (lef t st)))(hr:Lead rows (t+1) kr (g (tak t st))) :
  Ok n (rows++[(t,kl,kr)])/\Lead (rows++[(t,kl,kr)]) t (rows.length+2) (stepO lef tak t g st):=by
 h o2:Ok n (rows++[(t,kl,kr)]):=Zr o tn (Ie hl.kn hl.up) (Ie hr.kn hr.up);h e:=ADf rows (t,kl,kr);h kn:=ABl rows (t,kl,kr);r⟨o2,kn,.inr ?_,fun s=>?_⟩
 ·unfold tieOf
  rw[e];!Nat.le_refl _
 ·cases s with
  | nil =>
   rw[DY o2 kn ¢,e,Cu o _ hl.kn,hl.eq];rfl
  | cons x xs =>
   rw[Bm o2 kn ¢,e,Cu o _ hl.kn,Cu o _ hr.kn,hl.eq,hr.eq];rfl
structure VldS(z:Nat)(st:StO):Prop where
 len:st=[]\/st.length=z
 pts:∀ p i,st.getD p none=some i->0<=i/\i<z
theorem Yu(l:StO)(p q:Nat)(v:Option Int)(h:q≠p):(l.set p v).getD q none=l.getD q none:=by
 rw[¯,¯,List.getElem?_set_ne (Ne.symm h)]
theorem VL(l:StO)(p:Nat)(v:Option Int):(l.set p v).getD p none=if p<l.length then v else none:=by
 rw[¯];by_cases c:p<l.length
 ·rw[List.getElem?_set_self c,if_pos c]
  rfl
 ·rw[List.getElem?_eq_none (by rw[List.length_set];w),if_neg c]
  rfl
end G
end
section
namespace K42
open PySem L2 G
def onB(bs:List ⑤)(p x:Nat):Bool:=decide ((p:Int)∈bs.getD x [])
theorem Ym{X:Cx}{K:¨}(hK:X.K=K)(hc:X.calm=true):CallR X (.builtin "max") (fun xs H Q=>∃(p:Addr) (ns:List Int),xs=[.ref p]/\SqL K H p ⑬/\0<ns.length/\∀ m,m∈ns->(∀ a∈ns,a<=m)->Q (.int m) H):=by subst hK;!max_list hc
theorem AAv{X:Cx}{K:¨}(hK:X.K=K):OpR X (binaryOp .Add) (rAddL K):=by subst hK;!Wq
def Lp(bs:List ⑤)(p:Nat):Nat:=match (hits (p:Int) bs).getLast? with
 | none=>0
 | some x=>(x+1).toNat
theorem ACp{bs:List ⑤}{p:Nat}{x:Int}(h:x∈hits (p:Int) bs):0<=x/\x<bs.length:=by
 o⟨i,t,e,_,rfl⟩:=L2.Hs.mp h;have:=(━ e).1;w
theorem AEa{bs:List ⑤}{p:Nat}{m:Int}(h1:m∈(-1:Int)::hits (p:Int) bs)(h2:∀ a∈(-1:Int)::hits (p:Int) bs,a<=m):m=(Lp bs p:Int)-1:=by
 unfold Lp;cases e:(hits (p:Int) bs).getLast? with
 | none =>
  have e':=List.getLast?_eq_none_iff.mp e;rw[e'] at h1;have:m=-1:=by u h1
  rw[this];rfl
 | some x =>
  o⟨ne,ex⟩:=List.getLast?_eq_some_iff.mp e |> fun⟨ys,h⟩=>(⟨by rw[h];simp,by simp[h]⟩:∃ ne:hits (p:Int) bs≠[],(hits (p:Int) bs).getLast ne=x)
  h xm:x∈hits (p:Int) bs:=by rw[<- ex];!List.getLast_mem ne
  h x0:=(ACp xm).1;have:=h2 x (¶ _ xm);h mx:m=x:=by
   rcases ┃ h1 with rfl | h1
   ·w
   ·have:=Qw ne (Io _ 0 bs) m h1
    w
  dsimp only;w
theorem AEO{bs:List ⑤}{p x:Nat}(xl:x<bs.length)(h:onB bs p x=true):x<Lp bs p:=by
 h hm:(p:Int)∈bs.getD x []:=of_decide_eq_true h;rw[¯,± xl] at hm;h xm:(x:Int)∈hits (p:Int) bs:=L2.Hs.mpr ⟨x,_,± xl,hm,by w⟩;unfold Lp;cases e:(hits (p:Int) bs).getLast? with
 | none=>rw[List.getLast?_eq_none_iff.mp e] at xm;cases xm
 | some y =>
  o⟨ne,ey⟩:=List.getLast?_eq_some_iff.mp e |> fun⟨ys,h⟩=>(⟨by rw[h];simp,by simp[h]⟩:∃ ne:hits (p:Int) bs≠[],(hits (p:Int) bs).getLast ne=y)
  have:=Qw ne (Io _ 0 bs) x xm;dsimp only;w
def nI(ks:List Nat):List V:=ks.map fun(k:Nat)=>V.int (k:Int)
theorem Ds(ks:List Nat):(nI ks).length=ks.length:=by unfold nI;rw[─]
theorem ABx{ks:List Nat}{j:Nat}{x:V}(h:(nI ks)[j]?=some x):∃ k:Nat,ks[j]?=some k/\x=.int (k:Int):=by
 unfold nI at h;rw[┉] at h;cases g:ks[j]? with
 | none=>rw[g] at h;cases h
 | some k=>rw[g] at h;cases h;!⟨k,rfl,rfl⟩
def behP(bs:List ⑤)(z t:Nat):List Nat:=(List.range z).filter fun p=>decide (Lp bs p=t)
def ABi(K:¨)(C:Addr):Sp:=fun vs H Q _=>∃(p:Addr) (t z:Nat) (bs:List ⑤),vs=[.ref p,.int t]/\WebAt K C H p z bs/\z<=10/\bs.length<=12/\∀(l:Addr) (H':Hp),Same H H'->H l=none->H' l=some (.lst (nI (behP bs z t)))->Q (.ref l) H'
section
variable{P:Program}{w:World}{K:¨}{mg:Str->Option Value}{base:Heap}{f C D:Addr}{fd:FuncData}
theorem AEo:FnScope ["web","number"] ["web","number"] (Ac FT):=¡
theorem ACV{fS fA:Addr}{fdS fdA:FuncData}(F:Fun K "points_behind" "points_behind" FT f fd)(T:Txt K mg C)(GS:FnOk P w K mg base CX0 1 fS fdS ["self"] (Qc K C))(bS:Binds K fdS ["self"] [])(mS:Meth K C "size" fS)
  (GA:FnOk P w K mg base CX0 1 fA fdA ["self","point"] (AFq K C)) (bA:Binds K fdA ["self","point"] []) (mA:Meth K C "at" fA):FnOk P w K mg base CX0 2 f fd ["web","number"] (ABi K C):=by
 r F.ok AEo § ¦
 ·o⟨p,t,z,bs,rfl,_⟩:=h
  rfl
 o⟨p,t,z,bs,rfl,hW,z10,b12,q⟩:=h;o⟨dx,j,hp,_⟩:=id hW;r⟨_,Aj (Az (Bv (Ac FT) ["point"] ["number","web"] [1,0] rfl rfl £ ⟨⟨rfl,£⟩,⟨rfl,£⟩,trivial⟩ (Cj rfl T.range (Aa (Bt (pv 0) T.cl mS GS hr bS .nil pass0) Ad))
   (fun _ _ _=>Av (i:=0) (show ((["point"]:List Str)++(["number","web"]:List Str)).Nodup by decide +kernel) rfl ④)
   (fun _ _ _=>CP (Ar Cy (BJ (Ym (K:=K) rfl rfl) rfl T.max PyProof.Rows.boot_max (Aa (BW (AAv (K:=K) rfl) (Cv (Aa (XS Qj Ah) Ad)) (Dl (pv 2) T.cl mA GA hr bA .nil pass0 (Aa (pv 0) Ad))) Ad)) (BW Fp (pv 1) Ah) ⑯))
   (fun _ _ _=>pv 0))),?_⟩
 r⟨_,rfl,p,dx,_,rfl,hp,Ck _ _ £ £,p,z,bs,rfl,hW,_,rfl,by w,by w,fun Z hZ=>?_⟩;r DG (lo:=0) (n:=(z:Int).toNat) (fun j τ H2=>∃ o:Option V,τ=[o,some (.int t),some (.ref p)]/\Same H H2/\H2 Z=some (.lst (nI ((List.range j).filter fun p=>decide (Lp bs p=t))))) ⟨none,rfl,┊ hZ _,Ab⟩ ?_ ?_
 ·rintro j τ H2 hj ⟨o,rfl,s2,eZ⟩
  h ej:(0:Int)+j=(j:Int):=by w
  rw[ej];r⟨1,rfl,(by show 1<=sizeLine;decide),fun M hM=>?_⟩;h s3:=s2.trans (┊ hM (.lst [.int (-1)]));r⟨_,rfl,p,dx,_,rfl,s3 _ _ hp,Ck _ _ £ £,_,rfl,p,z,j,bs,rfl,hW.same s3,b12,fun l H4 s4 hl el=>?_⟩;h hlen:(hits (j:Int) bs).length<=bs.length:=Ku _ 0 bs;h eM4:=s4 _ _ (show (upd H2 M (.lst [.int (-1)])) M=some (.lst [.int (-1)]) from Ab);r⟨M,l,_,_,rfl,rfl,SqL.of eM4,SqL.of el,Nat.le_of_lt (Ax (by rw[─];show 1+_<=1000;w)),fun N hN=>?_⟩;h s5:=┊ hN (.lst (V.int (-1)::(hits (j:Int) bs).map V.int));r⟨N,(-1:Int)::hits (j:Int) bs,rfl,SqL.of Ab,by simp,fun m hm hx=>?_⟩;h e:=AEa hm hx;h s6:=(s3.trans s4).trans s5;h eZ6:=s5 _ _ (s4 _ _ (┊ hM _ _ _ eZ));r⟨_,rfl,_,_,rfl,rfl,rfl,_,rfl,?_⟩;h lz:((List.range j).filter fun p=>decide (Lp bs p=t)).length<=j:=Nat.le_trans (List.length_filter_le ..) (by rw[List.length_range];!Nat.le_refl _);r ite2 (fun c=>?_) (fun c=>?_)
  ·h c':Lp bs j=t:=by
    have:=of_decide_eq_true c;injection this with this
    w
   r⟨_,rfl,_,eZ6,Ax (by rw[Ds];w),_,rfl,fun b o e=>?_,?_⟩
   ·rw[Ag (Ae e hZ)]
    !s6 b o e
   ·rw[Ab,List.range_succ,List.filter_append,List.filter_cons_of_pos (by u c')]
    unfold nI;rw[List.map_append];rfl
  ·h c':¬ Lp bs j=t:=fun z=>c (decide_eq_true (by rw[e,z]))
   r⟨_,rfl,s6,?_⟩;rw[List.range_succ,List.filter_append,List.filter_cons_of_neg (by u c'),List.filter_nil,List.append_nil];!eZ6
 ·rintro τ H2 ⟨o,rfl,s2,eZ⟩
  rw[Int.toNat_natCast] at eZ;!q Z H2 s2 hZ eZ
end
end K42
end
section
namespace L2
open PySem PySem.Spec PyProof.Rows
section
variable{prog:Program}{w:World}{A:Around}{E:Value->Shared->Prop}{s:Shared}{d:Addr}{o:Obj}{es:Array DictEntry}{ep:Nat}
theorem MN(d:Addr)(hd:(d==sysModules)=false) :
  MeetsIn prog w (Builtin.«dict.__len__» ⟨[.ref d],[]⟩) (fun _ R s=>∃ o es ep,s.heap.get? d=some o/\o.data=.dict es ep/\R (.ok (.ret (.int es.size s.toks))) {s with toks:=s.toks+1}) :=
 .of_wp fun A R s ⟨o,es,ep,ho,hdat,h⟩=>by
  show wpAny _ _ (dictSize d >>= _) _ _ s;unfold dictSize;b(wpAny_bind (wpAny_dictEntries ho hdat (wpAny_pure ?_)));show wpAny _ _ (Builtin.Dict.pendingCount d >>= _) _ _ s;b(wpAny_pendingCount_other hd ?_);r wpAny_ret_mkInt ?_;rw[Nat.add_zero];!h
theorem ACb{Q:Value->Shared->Prop}(hd:(d==sysModules)=false)(hT:s.TypeIs (.ref d) "dict")(ho:s.heap.get? d=some o)(hdat:o.data=.dict es ep)(hfit:(es.size:Int)<2 ^ 63)
  (h:Q (.int es.size (s.toks+1)) {s with toks:=s.toks+1+1}):wpAny ① A (call (.builtin "len") [.ref d]) Q E s:=by
 r Calls.call_function_entry kind_len plain_len entry_len (args_len1 _) ?_;unfold Builtin.«len»;r wpAny_bind (m:=oneArg "len" _) (wpAny_pure ?_);r wpAny_bind (m:=callSpecial? (.ref d) (Str.ofString "__len__")) (wpAny_callSpecial?_slot (name:=Str.ofString "__len__") hT PySem.F.slot_dict_len
  (call_meetsIn PySem.F.slot_dict_len hT PySem.F.entry_dict_len (PySem.F.args_dict_len_1 _) (MN d hd) ⟨o,es,ep,ho,hdat,?_⟩))
 show wpAny _ _ _ _ _ {s with toks:=s.toks+1};b(wpAny_holding (wpAny_pure ?_));b(wpAny_letGo ?_);show wpAny _ _ (if ((es.size:Nat):Int)<0 then _ else _) _ _ _;rw[if_neg ¢];show wpAny _ _ (if ((es.size:Nat):Int) >= 2 ^ 63 then _ else _) _ _ _;rw[if_neg ¢];!wpAny_bind (wpAny_mkInt (wpAny_pure ⟨_,rfl,h⟩))
end
section
variable{X:Cx}
theorem Qx:CallR X (.builtin "len") (fun xs H Q=>∃ p kvs,xs=[.ref p]/\H p=some (.dT kvs)/\Q (.int kvs.length) H):=by
 intro pins s σ H xs us Q I rr h;o⟨p,kvs,rfl,hp,q⟩:=h;o⟨u,rfl,ru⟩:=rr.one;cases ru;o⟨z,lo,ts,kt,o,es,ep,h1,h2,h3,h4,h5⟩:=(show ObjOk X.prog X.w H s.heap p (.dT kvs) from I.hok p _ hp);h hl:es.size=kvs.length:=by
  rw[<- ┄,h4,─];!(┅ kt).symm
 r ACb lo ⟨o,h1,h2.1⟩ h1 h3 (by rw[hl];rw[sizeLine_eq] at z;w) ?_;!⟨.int kvs.length,H,I.tok _,⟨_,by rw[hl]⟩,q⟩
end
def Itd(lo:Int)(n:Nat):It:=⟨fun i _=>i<n,fun i H x H'=>H'=H/\x=.int (lo-i),fun i _=>n<=i⟩
theorem ZV{P:Program}{w:World}{K:¨}{tg:Expr}(it:Addr)(lo:Int)(n:Nat):Turn P w K tg (Itd lo n) [it] it (fun i h=>IsRangeIter h it (lo+(i:Nat)*(-1)) ((n:Int)-(i:Nat)) (-1)) where
 mem:=by simp
 obj:=fun i h st b hb=>by
  h e:b=it:=by u hb
  subst e;!⟨_,st,fun v z=>by
   h z':Data.fields _=Data.cell v:=z;cases z'⟩
 keep:=fun i h h' st k=>k it ¥ _ st
 item:=by
  intro X hP hw hK hc i pins s σ H E I hf st hg;subst hP hw hK;o⟨f0,f1,f2,f3,f4,f5⟩:=hf it ¥;h W:=Walks.range (prog:=X.prog) (w:=X.w) (I.ok.hd hc) it lo (-1) n;r W.item i s _ _ hg st fun v h' tk hv st' kk=>?_;o⟨t,rfl⟩:=hv;h I1:Inv X pins σ H {s with heap:=h',toks:=tk}:=I.turned (fun b o hb e=>kk b o (by u hb) e) f0 f1 f3 f4 f5;r⟨_,rfl,Wj (s:={s with heap:=h',toks:=tk}) (n:="range_iterator") st' rfl rfl ¤ ⟨.int (lo-i),H,I1,⟨t,?_⟩,⟨rfl,rfl⟩,st',fun b hb=>(hf b hb).1⟩⟩
  congr 1
  w
 done:=by
  intro X hP hw hK hc i pins s σ H E I hf st hg;subst hP hw hK;o⟨f0,f1,f2,f3,f4,f5⟩:=hf it ¥;!wpAny_pyNext_range_end (I.ok.hd hc) st (by have:n<=i:=hg;w) fun h' eb=>⟨rfl,I.turned (t':=s.toks) (fun b o hb e=>eb b o hb e) f0 f1 f3 f4 f5⟩
 self:=fun _ _ _ _ _ st h=>wpAny_pyIter_rangeiter st h
theorem rangeSize_down(a b:Int):Builtin.Range.rangeSize a b (-1)=if b<a then a-b else 0:=by
 unfold Builtin.Range.rangeSize;simp only[show ¬ ((-1:Int)>0) by decide,if_false];split
 ·rw[show (- -1:Int)=1 from rfl,Int.ediv_one];w
 ·rfl
theorem small_down{a b:Int}(ha:-(2 ^ 62)<=a)(ha':a<2 ^ 62)(hb:-(2 ^ 62)<=b)(hb':b<2 ^ 62):Builtin.Range.small a b (-1)=true:=by
 unfold Builtin.Range.small;rw[rangeSize_down];simp only[Builtin.Range.rangeFitsLong,Bool.and_eq_true,Bool.or_eq_true,decide_eq_true_eq,beq_iff_eq,show ¬ ((-1:Int)>0) by decide,if_false];split<;>w
section
variable{X:Cx}{tg:Expr}
theorem YW{pins:List ⑥}{σ:St}{H:Hp}{s:Shared}{R:It->Hp->Prop}{E:Value->Shared->Prop}{lo hi:Int}{t u v:Tok}{tk:Nat}(I:Inv X pins σ H s)(h1:-(2 ^ 62)<=lo)(h2:lo<2 ^ 62)(h3:-(2 ^ 62)<=hi)(h4:hi<2 ^ 62)
  (q:R (Itd lo (lo-hi).toNat) H):wpAny ③ X.A (pyIter (.ref ¸)) (PIE X pins σ tg R) E {s with heap:=s.heap.push {cls:=.type "range",data:=.fields #[.int lo t,.int hi u,.int (-1) v]},toks:=tk}:=by
 r wpAny_pyIter_range (IsRange.new ..) (small_down h1 h2 h3 h4) ?_;h I1:Inv X pins σ H {s with heap:=s.heap.push {cls:=.type "range",data:=.fields #[.int lo t,.int hi u,.int (-1) v]},toks:=tk}:=I.kept fun b o e=>° _ e;r⟨(s.heap.push {cls:=.type "range",data:=.fields #[.int lo t,.int hi u,.int (-1) v]}).objs.size,[(s.heap.push {cls:=.type "range",data:=.fields #[.int lo t,.int hi u,.int (-1) v]}).objs.size],_,_,H,rfl,
  I1.kept (t':=tk) fun b o e=>° _ e,ZV _ lo (lo-hi).toNat,?_,fun b hb=>?_,q⟩
 ·h e1:lo+((0:Nat):Int)*(-1)=lo:=by simp
  h e2:(((lo-hi).toNat:Nat):Int)-((0:Nat):Int)=Builtin.Range.rangeSize lo hi (-1):=by rw[rangeSize_down];split<;>w
  show IsRangeIter _ _ (lo+((0:Nat):Int)*(-1)) ((((lo-hi).toNat:Nat):Int)-((0:Nat):Int)) (-1);rw[e1,e2];!¿ _ rfl
 ·h e:b=(s.heap.push {cls:=.type "range",data:=.fields #[.int lo t,.int hi u,.int (-1) v]}).objs.size:=by u hb
  subst e;!I1.fpOk ② (I1.hok.fresh ②)
def AFw(ta:TA):TI:=fun σ H R=>ta σ H fun vs H1=>∃ i j:Int,vs=[.int i,.int j,.int (-1)]/\(-(2 ^ 62)<=i/\i<2 ^ 62/\-(2 ^ 62)<=j/\j<2 ^ 62)/\R (Itd i (i-j).toNat) H1
theorem Mu{a b c:Expr}{ta:TA}{p pos:Pos}(hg:Gl X "range")(hm:X.mg "range" = none)(ha:PA X [a,b,c] ta)(hs:starEach [a,b,c] X.env=[(false,eval a X.env),(false,eval b X.env),(false,eval c X.env)]:=by rfl)(hs2:starEach [b,c] X.env=[(false,eval b X.env),(false,eval c X.env)]:=by rfl) :
  PI X tg (.Call (.Name "range" p) [a,b,c] [] pos) (AFw ta):=by
 intro pins s σ H R I h;r Call_ (Eb I hg hm boot_range (PyProof.Rows.callWith_type1 (thn (ha pos pins s σ H _ I h) fun us s1 ⟨vs,H1,I1,r1,q1⟩=>?_) (by rw[hs,hs2]) (by rw[hs2];rfl)));o⟨i,j,e,⟨q1,q2,q3,q4⟩,q⟩:=q1;subst e;cases r1 with
 | cons r rr =>
  cases rr with
  | cons r' rr =>
   cases rr with
   | cons r'' rr =>
    cases rr;o⟨t,rfl⟩:=r;o⟨t',rfl⟩:=r';o⟨t'',rfl⟩:=r'';!call_range_3 ¤ (YW I1 q1 q2 q3 q4 q) (.inl (PyProof.noPylong_small ¤))
theorem Rt{lo:Int}{n:Nat}{g:TG}{tb:TS}{D:Ends}{σ:St}{H:Hp}(Pv:Nat->St->Hp->Prop)(h0:Pv 0 σ H)
  (hs:∀ i σ H,i<n->Pv i σ H->g (.int (lo-i)) σ H fun σ2 H2=>tb {D with nx:=Pv (i+1),ct:=Pv (i+1),bk:=D.nx} σ2 H2) (hd:∀ σ H,Pv n σ H->D.nx σ H) :
  ∃ W:Nat->Nat->St->Hp->Prop,(∃ m,W 0 m σ H)/\∀ i m σ H,W i m σ H ->
   ((Itd lo n).stop i H/\D.nx σ H)\/((Itd lo n).go i H/\∃ N:St->Hp->Prop,(∀ σ' H',N σ' H'->∃ m',m'<m/\W (i+1) m' σ' H')/\∀ x H',(Itd lo n).yld i H x H'->g x σ H' fun σ2 H2=>tb {D with nx:=N,ct:=N,bk:=D.nx} σ2 H2):=by
 r⟨fun i m σ H=>m=n-i/\i<=n/\Pv i σ H,⟨n,by simp,Nat.zero_le _,h0⟩,?_⟩;rintro i m σ H ⟨rfl,hi,p⟩;by_cases hlt:i<n
 ·r .inr ⟨hlt,Pv (i+1),fun σ' H' p'=>⟨n-(i+1),by w,rfl,hlt,p'⟩,fun x H' y=>?_⟩
  o⟨e,y⟩:=y;subst e y;!hs i σ _ hlt p
 ·h e:i=n:=by w
  subst e;!.inl ⟨Nat.le_refl _,hd σ H p⟩
end
end L2
end
section
namespace L2
open PySem
open Sem (wp)
end L2
end
section
namespace L2
open PySem
open Sem (wp)
open AutoSeq1 (wpAny_loadPart')
end L2
end
section
namespace L2
open PySem PySem.Spec PyProof.Rows
end L2
end
section
namespace L2
open PySem PySem.Spec PyProof.Rows
open AutoSeq1 (wpAny_loadPart')
end L2
end
section
theorem L2.smallN{n:Nat}(h:n<=100000):n<PySem.sizeLine:=Nat.lt_of_le_of_lt h ¤
namespace K42s
open PySem L2 G
def top(i:Nat):Stmt:=PySem.Challenge.pw_frontways_k42_whole_woods_grown.main.body.getD i (.Pass ⟨0,0,0,0⟩)
abbrev Ld:Stmt:=top 9
abbrev Fz:Stmt:=top 17
abbrev Hf:Stmt:=top 18
abbrev sIn:Stmt:=top 19
abbrev Et:Stmt:=inClass (top 8) 0
abbrev NP:Stmt:=inClass (top 8) 1
abbrev JF:Stmt:=inClass (top 8) 2
abbrev YC:Stmt:=inClass (top 8) 3
abbrev Xv:Stmt:=top 10
abbrev HS:Stmt:=top 13
abbrev Od:Stmt:=top 14
abbrev Ef:Stmt:=top 15
abbrev DR:Stmt:=top 16
theorem ra:¬ (("amount" : Str) = "rows"):=by decide +kernel
theorem ha:¬ (("amount" : Str) = "head"):=by decide +kernel
theorem hr':¬ (("rows" : Str) = "head"):=by decide +kernel
def flds(z:Int)(j:Addr)(h:Int):List (Str×V):=putF "head" (.int h) (putF "rows" (.ref j) (putF "amount" (.int z) []))
theorem GF(z:Int)(j:Addr)(h:Int):(flds z j h).lookup ("amount" : Str)=some (.int z):=by
 unfold flds;rw[Ai,if_neg ha,Ai,if_neg ra,Ai,if_pos rfl]
theorem Xw(z:Int)(j:Addr)(h:Int):(flds z j h).lookup ("rows" : Str)=some (.ref j):=by
 unfold flds;rw[Ai,if_neg hr',Ai,if_pos rfl]
structure Txt(K:¨)(mg:Str->Option Value)(C:Addr):Prop where
 cl:Cls K C
 nA:NoAttr K C "amount"
 nR:NoAttr K C "rows"
 nH:NoAttr K C "head"
 mgC:mg "Sieve" = some (.ref C)
 mt:∃ t,mg "MOST_TIES_making" = some (.int 12 t)
 len:mg "len" = none
 range:mg "range" = none
 int:mg "int" = none
 sorted:mg "sorted" = none
 set:mg "set" = none
 tuple:mg "tuple" = none
 list:mg "list" = none
 bool:mg "bool" = none
 enum:mg "enumerate" = none
 all:mg "all" = none
 isi:mg "isinstance" = none
 min:mg "min" = none
 rev:mg "reversed" = none
def rRow(K:¨):Rep Row:=fun H r v=>∃ p,v=.ref p/\SqT K H p [.int r.1,.int r.2.1,.int r.2.2]
theorem Bj{K:¨}:TRep (rRow K):=fun H H' r v t ⟨p,a,b⟩=>⟨p,a,t.seq b⟩
def SvAt(K:¨)(C:Addr)(H:Hp)(p:Addr)(z:Int)(rows:List Row)(h:Int):Prop:=∃ dx j,H p=some (.ins C dx (flds z j h))/\rTup K (rRow K) H rows (.ref j)
theorem SvAt.same{K:¨}{C:Addr}{H H':Hp}{p:Addr}{z hd:Int}{rows:List Row}(h:SvAt K C H p z rows hd)(e:Same H H'):SvAt K C H' p z rows hd:=by
 o⟨dx,j,h1,h2⟩:=h;!⟨dx,j,e _ _ h1,Ak Bj _ _ _ _ e.ts h2⟩
def Lb(K:¨)(C:Addr):Sp:=fun vs H Q _=>∃(p dx l:Addr) (z h:Int) (xs:List V) (rows:List Row),vs=[.ref p,.int z,.ref l,.int h]/\H p=some (.ins C dx [])/\SqL K H l xs/\Paired (rRow K H) rows xs /\
 ∀(H':Hp),(∀ b o,H b=some o->b≠p->H' b=some o)->SvAt K C H' p z rows h->Q .non H'
def ABd(K:¨)(C:Addr):Sp:=fun vs H Q _=>∃(p:Addr) (z h:Int) (rows:List Row),vs=[.ref p]/\SvAt K C H p z rows h/\Q (.int z) H
def Wk(K:¨)(C:Addr):Sp:=fun vs H Q _=>∃(p:Addr) (z h:Int) (rows:List Row),vs=[.ref p]/\SvAt K C H p z rows h/\Q (.int h) H
def Hr(K:¨)(C:Addr):Sp:=fun vs H Q _=>∃(p:Addr) (z h:Int) (rows:List Row),vs=[.ref p]/\SvAt K C H p z rows h/\∀(l:Addr) (ys:List V) (H':Hp),Same H H'->H l=none->H' l=some (.lst ys)->Paired (rRow K H') rows ys->Q (.ref l) H'
section
variable{P:Program}{w:World}{K:¨}{mg:Str->Option Value}{base:Heap}{f C:Addr}{fd:FuncData}
theorem AEm:FnScope ["self"] ["self"] (Ac NP):=¡
theorem ADe(F:Fun K "many" "Sieve.many" NP f fd)(T:Txt K mg C):FnOk P w K mg base CX0 1 f fd ["self"] (ABd K C):=by
 r F.ok AEm § ¦
 ·o⟨p,z,hd,rows,rfl,_⟩:=h
  rfl
 o⟨p,z,hd,rows,rfl,⟨dx,j,hP,hj⟩,q⟩:=h;r⟨_,Aj (Az ⑲),?_⟩;!⟨_,rfl,p,C,dx,_,_,rfl,hP,T.cl,T.nA,GF _ _ _,q⟩
theorem ADL:FnScope ["self"] ["self"] (Ac JF):=¡
theorem ABt(F:Fun K "knots" "Sieve.knots" JF f fd)(T:Txt K mg C):FnOk P w K mg base CX0 1 f fd ["self"] (Hr K C):=by
 r F.ok ADL § ¦
 ·o⟨p,z,hd,rows,rfl,_⟩:=h
  rfl
 o⟨p,z,hd,rows,rfl,⟨dx,j,hP,j',xs,ej,hj,pj⟩,q⟩:=h;cases ej;r⟨_,Aj (Az (Bb Fl rfl T.list PyProof.Rows.boot_list (Aa ⑲ Ad))),?_⟩;r⟨_,rfl,p,C,dx,_,_,rfl,hP,T.cl,T.nR,Xw _ _ _,j,xs,rfl,.inr hj,fun l hl=>?_⟩;r q l xs _ (┊ hl _) hl Ab ?_;!Paired.imp (fun a b=>Bj H _ a b (TSm.new hl)) pj
theorem ZW(z:Int)(j:Addr)(h:Int):(flds z j h).lookup ("head" : Str)=some (.int h):=by
 unfold flds;rw[Ai,if_pos rfl]
theorem AFb:FnScope ["self"] ["self"] (Ac YC):=¡
theorem AEc(F:Fun K "top" "Sieve.top" YC f fd)(T:Txt K mg C):FnOk P w K mg base CX0 1 f fd ["self"] (Wk K C):=by
 r F.ok AFb § ¦
 ·o⟨p,z,hd,rows,rfl,_⟩:=h
  rfl
 o⟨p,z,hd,rows,rfl,⟨dx,j,hP,hj⟩,q⟩:=h;r⟨_,Aj (Az ⑲),?_⟩;!⟨_,rfl,p,C,dx,_,_,rfl,hP,T.cl,T.nH,ZW _ _ _,q⟩
theorem Vf:FnScope ["self","n","rows","head"] ["self","n","rows","head"] (Ac Et):=¡
theorem Ij(F:Fun K "__init__" "Sieve.__init__" Et f fd)(T:Txt K mg C):FnOk P w K mg base CX0 1 f fd ["self","n","rows","head"] (Lb K C):=by
 r F.ok Vf § ¦
 ·o⟨p,dx,l,z,h,xs,rows,rfl,_⟩:=h
  rfl
 o⟨p,dx,l,z,h,xs,rows,rfl,hP,hS,pa,q⟩:=h;r⟨_,Af (Eh (pv 0) (pv 1) rfl)
  (Af (Eh (pv 0) (Bb Bg rfl T.tuple PyProof.Rows.boot_tuple (Aa (pv 2) Ad)) rfl)
  (Aj (Eh (pv 0) (pv 3) rfl))),?_⟩
 h sl:∀{H:Hp}{fs gs:List (Str×V)}{a:Addr}{zs:List V},H p=some (.ins C dx fs)->SqL K H a zs->SqL K (upd H p (.ins C dx gs)) a zs:=fun {H fs gs a zs} hP h=>by
  rcases h with (h | ⟨o,h⟩) | h
  ·!.inl (.inl (by rw[Ag (Cq h hP (by intro z;cases z))];!h))
  ·!.inl (.inr ⟨o,by rw[Ag (Cq h hP (by intro z;cases z))];!h⟩)
  ·!.inr h
 h ts:∀{H:Hp}{fs gs:List (Str×V)},H p=some (.ins C dx fs)->TSm H (upd H p (.ins C dx gs)):=fun {H fs gs} hP b u hb t=>by
  rw[Ag ?_]
  ·!hb
  ·rintro rfl
   rw[hP] at hb;cases hb;o⟨ys,e | ⟨o,e⟩⟩:=t
   ·cases e
   ·cases e
 r⟨_,rfl,_,rfl,p,C,dx,[],rfl,hP,T.cl,T.nA,(by show 0<1000;decide),?_⟩;r⟨_,rfl,l,xs,rfl,.inl ⟨sl hP hS,fun j hj=>?_⟩⟩;h jp:p≠j:=fun e=>by rw[<- e,Ab] at hj;cases hj
 h hP2:(upd (upd H p (.ins C dx (putF "amount" (.int z) []))) j (.tup xs)) p=some (.ins C dx (putF "amount" (.int z) [])):=by rw[Ag jp,Ab]
 h t2:=ts (gs:=putF "rows" (.ref j) (putF "amount" (.int z) [])) hP2;r⟨_,rfl,p,C,dx,_,rfl,hP2,T.cl,T.nR,(by show 1<1000;decide),?_⟩;h t3:=ts (H:=upd (upd (upd H p (.ins C dx (putF "amount" (.int z) []))) j (.tup xs)) p (.ins C dx (putF "rows" (.ref j) (putF "amount" (.int z) [])))) (gs:=flds z j h) Ab;r⟨_,rfl,_,rfl,p,C,dx,_,rfl,Ab,T.cl,T.nH,(by show 2<1000;decide),?_⟩;r q _ (fun b o e hb=>?_) ⟨dx,j,Ab,j,xs,rfl,t3.seq (t2.seq (SqT.of Ab)),?_⟩
 ·rw[Ag hb,Ag hb,Ag ?_,Ag hb]
  ·!e
  ·rintro rfl
   rw[Ag hb,e] at hj;cases hj
 ·!Paired.imp (fun a b r=>Bj _ _ _ _ t3 (Bj _ _ _ _ t2 (Bj _ _ _ _ (TSm.new hj) (Bj _ _ _ _ (ts hP) r)))) pa
end
abbrev Sq(K:¨)(H:Hp)(l:Addr)(xs:List V):Prop:=SqL K H l xs\/SqT K H l xs
theorem Sq.same{K:¨}{H H':Hp}{l:Addr}{xs:List V}(h:Sq K H l xs)(e:Same H H'):Sq K H' l xs:=h.elim (fun z=>.inl (e.seq z)) fun z=>.inr (e.ts.seq z)
def rIxA(K:¨):R2:=fun x y H Q=>rIxL K x y H Q\/rIxT K x y H Q
theorem Fg{X:Cx}:IxR X (rIxA X.K):=by
 intro value slice pins s σ H x y v u Q I rx ry h hs;rcases h with h | h
 ·!Bl value slice pins s σ H x y v u Q I rx ry h hs
 ·!Bo value slice pins s σ H x y v u Q I rx ry h hs
theorem Qk{X:Cx}{K:¨}(hK:X.K=K):IxR X (rIxA K):=by subst hK;!Fg
theorem ixA{K:¨}{H:Hp}{p:Addr}{xs:List V}{i:Int}{v:V}{Q:VK}(h:Sq K H p xs)(e:atI xs i=some v)(q:Q v H):rIxA K (.ref p) (.int i) H Q :=
 h.elim (fun z=>.inl ⟨p,_,i,_,rfl,rfl,z,e,q⟩) fun z=>.inr ⟨p,_,i,_,rfl,rfl,z,e,q⟩
def rRowA(K:¨)(H:Hp)(r:Row)(v:V):Prop:=∃ p,v=.ref p/\Sq K H p [.int r.1,.int r.2.1,.int r.2.2]
theorem Xq{K:¨}{H H':Hp}{r:Row}{v:V}(e:Same H H')(h:rRowA K H r v):rRowA K H' r v:=let ⟨p,a,b⟩:=h;⟨p,a,b.same e⟩
def RowsAt(K:¨)(H:Hp)(l:Addr)(rows:List Row):Prop:=∃ xs,Sq K H l xs/\Paired (rRowA K H) rows xs
theorem RowsAt.same{K:¨}{H H':Hp}{l:Addr}{rows:List Row}(h:RowsAt K H l rows)(e:Same H H'):RowsAt K H' l rows:=let ⟨xs,a,b⟩:=h;⟨xs,a.same e,Paired.imp (fun _ _ r=>Xq e r) b⟩
theorem RowsAt.of{K:¨}{H:Hp}{l:Addr}{rows:List Row}(h:rLst K (rRow K) H rows (.ref l)):RowsAt K H l rows:=by
 o⟨l',xs,e,hS,pa⟩:=h;cases e;!⟨xs,.inl hS,Paired.imp (fun _ _ ⟨p,a,b⟩=>⟨p,a,.inr b⟩) pa⟩
abbrev iN(s:List Nat):List V:=s.map fun(x:Nat)=>V.int (x:Int)
theorem QJ{K:¨}{H:Hp}{rows:List Row}{l:Addr}{k:Nat}(h:RowsAt K H l rows)(kn:Knot rows k)(h2:2<=k) :
  ∃ xs p,Sq K H l xs/\atI xs ((k:Int)-2)=some (.ref p)/\Sq K H p [.int ÷.1,.int ÷.2.1,.int ÷.2.2]:=by
 o⟨xs,hS,pa⟩:=h;o⟨v,hv,p,rfl,hp⟩:=Paired.getL pa (Bc kn h2);!⟨xs,p,hS,by rw[show (k:Int)-2=((k-2:Nat):Int) by w];!Bp hv,hp⟩
theorem ABT{K:¨}{H:Hp}{rows:List Row}{l:Addr}{k:Nat}(h:rLst K (rRow K) H rows (.ref l))(kn:Knot rows k)(h2:2<=k) :
  ∃ xs p,SqL K H l xs/\atI xs ((k:Int)-2)=some (.ref p)/\SqT K H p [.int ÷.1,.int ÷.2.1,.int ÷.2.2]:=by
 o⟨l',xs,e,hS,pa⟩:=h;cases e;o⟨v,hv,p,rfl,hp⟩:=Paired.getL pa (Bc kn h2);!⟨xs,p,hS,by rw[show (k:Int)-2=((k-2:Nat):Int) by w];!Bp hv,hp⟩
theorem at0{a b c:V}:atI [a,b,c] 0=some a:=rfl
theorem at1{a b c:V}:atI [a,b,c] 1=some b:=rfl
theorem at2{a b c:V}:atI [a,b,c] 2=some c:=rfl
structure Ex(K:¨)(mg:Str->Option Value)(x:Str)(c:Addr):Prop where
 m:mg x=some (.ref c)
 ex:PySem.W.excIn K c [.type "ValueError",.type "Exception",.type "BaseException",.type "object"] "ValueError.__new__" = true
def lay(rows:List Row)(t:Nat)(rc:List Nat)(j:Nat):List Nat:=(rc.take j).filter fun k=>decide (tieOf rows k=t)
theorem RV{rows:List Row}{t:Nat}{rc:List Nat}{j k:Nat}(h:rc[j]?=some k):lay rows t rc (j+1)=lay rows t rc j++if tieOf rows k=t then [k] else []:=by
 unfold lay;rw[List.take_add_one,h,List.filter_append];by_cases c:tieOf rows k=t
 ·simp[c]
 ·simp[c]
theorem Ib{rows:List Row}{t:Nat}{rc:List Nat}{k:Nat}:k∈lay rows t rc rc.length↔k∈rc/\tieOf rows k=t:=by
 unfold lay;rw[List.take_length,List.mem_filter];simp
theorem JC{n:Nat}(h:n<=20000):n<sizeLine:=Nat.lt_of_le_of_lt h ¤
def has(kvs:List (Key×V))(k:Nat):Prop:=(valV kvs (.inl (k:Int))).isSome=true
theorem has_put{kvs:List (Key×V)}{a k:Nat}{v:V}:has (putK kvs (.inl (a:Int)) v) k↔k=a\/has kvs k:=by
 unfold has;rw[Ea];by_cases e:k=a
 ·subst e;simp
 ·rw[if_neg (fun z=>e (by injection z with z;w))]
  !⟨.inr,fun h=>h.resolve_left e⟩
def rcOf(kvs:List (Key×V))(i:Nat):List Nat:=((List.range i).map (·+2)).filter fun k=>(valV kvs (.inl (k:Int))).isSome
theorem Ni(kvs:List (Key×V))(i:Nat):rcOf kvs (i+1)=rcOf kvs i++if (valV kvs (.inl ((i+2:Nat):Int))).isSome=true then [i+2] else []:=by
 unfold rcOf;rw[List.range_succ,List.map_append,List.filter_append,List.map_singleton,List.filter_cons,List.filter_nil]
theorem Lq{kvs:List (Key×V)}{i k:Nat}:k∈rcOf kvs i↔2<=k/\k<i+2/\has kvs k:=by
 unfold rcOf has;rw[List.mem_filter,List.mem_map];constructor
 ·rintro⟨⟨a,ha,rfl⟩,h⟩
  rw[List.mem_range] at ha;!⟨by w,by w,h⟩
 ·rintro⟨h1,h2,h3⟩
  !⟨⟨k-2,List.mem_range.mpr ¢,by w⟩,h3⟩
theorem AAe(kvs:List (Key×V))(i:Nat):(rcOf kvs i).length<=i:=by
 unfold rcOf;r Nat.le_trans (List.length_filter_le _ _) ?_;rw[─,List.length_range];!Nat.le_refl _
theorem getD_map:∀(rows:List Row),(List.range rows.length).map (fun i=>rows.getD i (0,0,0))=rows:=fun rows=>by
 apply List.ext_getElem?;intro i;by_cases c:i<rows.length
 ·simp[c]
 ·simp[c]
theorem AAX{rows:List Row}{rc:List Nat}{t j m:Nat}(h:rc.Sublist ((List.range m).map (·+2)))(hm:m<=rows.length):(lay rows t rc j).length<=(rows.filter fun r=>decide (r.1=t)).length:=by
 h h1:(lay rows t rc j).Sublist (((List.range rows.length).map (·+2)).filter fun k=>decide (tieOf rows k=t)):=by
  unfold lay;!(((List.take_sublist _ _).trans h).trans ((List.range_sublist.mpr hm).map _)).filter _
 r Nat.le_trans h1.length_le ?_;h e:(rows.filter fun r=>decide (r.1=t))=(((List.range rows.length).filter fun i=>decide ((rows.getD i (0,0,0)).1=t)).map fun i=>rows.getD i (0,0,0)):=by
  conv=>lhs;rw[<- getD_map rows]
  rw[List.filter_map];rfl
 rw[e,─,List.filter_map,─];!Nat.le_refl _
theorem AEp(kvs:List (Key×V))(i:Nat):(rcOf kvs i).Sublist ((List.range i).map (·+2)):=List.filter_sublist
def AFe(K:¨):Sp:=fun vs H Q _=>∃(d p:Addr) (r:Row) (x y:Nat) (kvs:List (Key×V)),vs=[.ref d,.ref p]/\H d=some (.dK kvs)/\rRowA K H r (.ref p)/\valV kvs (.inl (r.2.1:Int))=some (.int x)/\valV kvs (.inl (r.2.2:Int))=some (.int y) /\
 ∀ t,H t=none->Q (.ref t) (upd H t (.tup [.int r.1,.int x,.int y]))
def WY(K:¨):Sp:=fun vs H Q _=>∃(l:Addr) (n top:Nat) (rows:List Row),vs=[.ref l,.int top]/\RowsAt K H l rows/\Ok n rows/\rows.length<=4100/\Knot rows top /\
 ∀(D:Addr) (rc:List Nat) (H':Hp),Same H H'->H D=none->H' D=some (.lst (iN rc))->Closed rows rc->(top<=1\/top∈rc)->(∀ t j,(lay rows t rc j).length<=(rows.filter fun r=>decide (r.1=t)).length)->(∀ k∈rc,k=top\/∃ k'∈rc,k<k'/\(outOf rows k'=k\/intoOf rows k'=k))->Q (.ref D) H'
section
variable{P:Program}{w:World}{K:¨}{mg:Str->Option Value}{base:Heap}{f C:Addr}{fd:FuncData}
theorem AGM:FnScope ["places","row"] ["places","row"] (Ac sIn):=¡
theorem AFz(F:Fun K "row_in_places" "row_in_places" sIn f fd):FnOk P w K mg base CX0 1 f fd ["places","row"] (AFe K):=by
 r F.ok AGM § ¦
 ·o⟨d,p,r,x,y,kvs,rfl,_⟩:=h
  rfl
 o⟨d,p,r,x,y,kvs,rfl,hd,⟨p',e,hp⟩,hx,hy,q⟩:=h;cases e;r⟨_,Aj (Az (Ce (Aa (BK Fg (pv 1) Ah (fun _ _=>rfl)) (Aa (Pj (Cp hr) (pv 0) (BK Fg (pv 1) Ah (fun _ _=>rfl)) (fun _ _=>rfl)) (Aa (Pj (Cp hr) (pv 0) (BK Fg (pv 1) Ah (fun _ _=>rfl)) (fun _ _=>rfl)) Ad))))),?_⟩;r⟨_,rfl,ixA hp at0 ⟨_,rfl,_,rfl,ixA hp at1 ⟨d,.int x,rfl,?_,_,rfl,_,rfl,ixA hp at2 ⟨d,.int y,rfl,?_,(by show 3<=sizeLine;decide),q⟩⟩⟩⟩
 ·have:=DGet.k (k:=.inl (r.2.1:Int)) hd
  rw[hx] at this;!this
 ·have:=DGet.k (k:=.inl (r.2.2:Int)) hd
  rw[hy] at this;!this
theorem Qd:FnScope ["rows","top","reached","knot"] ["rows","top"] (Ac Hf):=¡
theorem Zq(F:Fun K "reached_knots" "reached_knots" Hf f fd)(T:Txt K mg C):FnOk P w K mg base CX0 1 f fd ["rows","top"] (WY K):=by
 r F.ok Qd § ¦
 ·o⟨l,n,top,rows,rfl,_⟩:=h
  rfl
 o⟨l,n,top,rows,rfl,hL,ok,r60,kt,q⟩:=h;r⟨_,Af (Ay (i:=2) Qd.nd rfl (Or.inr rfl) (WK (Jy (pv 1) KJ Wv) rfl rfl (by intro z;cases z) ¤))
  (Af (DW PassesOwn.never rfl (Mu rfl T.range (Aa (pv 1) (Aa Ah (Aa (XS Qj Ah) Ad)))) (Av (i:=3) Qd.nd rfl ④)
   (Aj (CZ (Ka (ABv (Cp hr) (pv 3) (pv 2)))
    (Af (Jk (Cp hr) (pv 2) (BK Fg (BK Fg (pv 0) (BW Fp (pv 3) Ah) (fun _ _=>rfl)) Ah (fun _ _=>rfl)) KJ rfl)
    (Aj (Jk (Cp hr) (pv 2) (BK Fg (BK Fg (pv 0) (BW Fp (pv 3) Ah) (fun _ _=>rfl)) Ah (fun _ _=>rfl)) KJ rfl))) Bd)))
  (Aj (Az (Bv (Ac Hf) ["knot"] ["reached"] [2] rfl rfl £ ⟨⟨rfl,£⟩,trivial⟩ (Yx rfl T.range (Aa Ah (Aa (BW Cw (pv 1) Ah) Ad)))
   (fun _ _ _=>Av (i:=0) (show ((["knot"]:List Str)++(["reached"]:List Str)).Nodup by decide +kernel) rfl ④)
   (fun _ _ _=>CP (Ka (ABv (Cp hr) (pv 0) (pv 1)) rfl))
   (fun _ _ _=>pv 0))))),?_⟩
 r fun D hD=>⟨_,rfl,Ab,[(.inl (top:Int),.bl true)],rfl,(by show 1<=15;decide),?_⟩;h s0:Same H (upd (upd H D (.dK [])) D (.dK (mergeK [] [(.inl (top:Int),.bl true)]))):=fun b o e=>by rw[Ag (Ae e hD),Ag (Ae e hD)];!e
 r⟨_,rfl,_,rfl,(top:Int),1,rfl,⟨by w,by have:top<rows.length+2:=kt;w,by w,by w⟩,?_⟩;r Rt (lo:=(top:Int)) (n:=((top:Int)-1).toNat) (fun i σ H2=>∃(kvs:List (Key×V)) (kv:Option V),σ=[some (.ref l),some (.int top),some (.ref D),kv]/\Same H H2/\H2 D=some (.dK kvs)/\kvs.length<=1+2*i/\has kvs top /\
   (∀ k:Nat,top<k+i->k<=top->has kvs k->has kvs (outOf rows k)/\has kvs (intoOf rows k))/\(∀ k:Nat,has kvs k->k<=top)/\∀ k:Nat,2<=k->has kvs k->k=top\/∃ k',2<=k'/\has kvs k'/\k<k'/\(outOf rows k'=k\/intoOf rows k'=k))
  ⟨_,none,rfl,s0,Ab,by show 1<=1;decide,?_,fun k h1 h2=>by w,?_,?_⟩ ?_ ?_
 ·show has (putK [] (.inl (top:Int)) (.bl true)) top
  !has_put.mpr (.inl rfl)
 ·intro k hk
  rcases has_put.mp (show has (putK [] (.inl (top:Int)) (.bl true)) k from hk) with e | e
  ·w
  ·!absurd e (by intro z;cases z)
 ·intro k _ hk
  rcases has_put.mp (show has (putK [] (.inl (top:Int)) (.bl true)) k from hk) with e | e
  ·!.inl e
  ·!absurd e (by intro z;cases z)
 ·rintro i σ H2 hi ⟨kvs,kv,rfl,sm,eD,hl,ht,hc,hb,hpar⟩
  obtain ⟨k,ek,k2⟩:∃ k:Nat,(top:Int)-i=k/\2<=k:=⟨((top:Int)-i).toNat,by w,by w⟩;h kk:Knot rows k:=by unfold Knot at *;w
  rw[ek];r⟨_,rfl,_,rfl,D,_,rfl,DGet.k (k:=.inl (k:Int)) eD,_,rfl,?_⟩;r ite2 (fun c=>?_) (fun c=>?_)
  ·h hL2:=hL.same sm
   o⟨xs,p,hS,ha,hp⟩:=QJ hL2 kk k2;o⟨_,lo,li,_⟩:=ok.low (Bc kk k2);h z1:kvs.length<sizeLine:=JC (by unfold Knot at kt;w);r⟨_,rfl,_,rfl,_,rfl,_,_,rfl,rfl,ixA hS ha (ixA hp at1 ⟨D,_,rfl,.inl ⟨kvs,.inl (÷.2.1:Int),eD,rfl,z1,rfl⟩,?_⟩)⟩;h l1:=CV kvs (.inl (÷.2.1:Int)) (.bl true);h z2:(putK kvs (.inl (÷.2.1:Int)) (.bl true)).length<sizeLine:=JC (by unfold Knot at kt;w);h sm2:Same H (upd H2 D (.dK (putK kvs (.inl (÷.2.1:Int)) (.bl true)))):=fun b o e=>by rw[Ag (Ae e hD)];!sm b o e
   o⟨xs2,p2,hS2,ha2,hp2⟩:=QJ (hL.same sm2) kk k2;r⟨_,rfl,_,rfl,_,rfl,_,_,rfl,rfl,ixA hS2 ha2 (ixA hp2 at2 ⟨D,_,rfl,.inl ⟨_,.inl (÷.2.2:Int),Ab,rfl,z2,rfl⟩,?_⟩)⟩;h l2:=CV (putK kvs (.inl (÷.2.1:Int)) (.bl true)) (.inl (÷.2.2:Int)) (.bl true);h hup:∀ k',has (putK (putK kvs (.inl (÷.2.1:Int)) (.bl true)) (.inl (÷.2.2:Int)) (.bl true)) k'->k'=outOf rows k\/k'=intoOf rows k\/has kvs k':=fun k' h=>by
    rcases has_put.mp h with e | h
    ·!.inr (.inl e)
    rcases has_put.mp h with e | h
    ·!.inl e
    !.inr (.inr h)
   h hkk:has kvs k:=c;h kle:k<=top:=by w
   h lo':outOf rows k<k:=by unfold outOf;w
   h li':intoOf rows k<k:=by unfold intoOf;w
   r⟨_,_,rfl,fun b o e=>?_,Ab,by w,has_put.mpr (.inr (has_put.mpr (.inr ht))),fun k' h1 h2 h3=>?_,fun k' h=>?_,fun k' h2 h=>?_⟩
   ·rw[Ag (Ae e hD),Ag (Ae e hD)]
    !sm b o e
   ·by_cases e:k'=k
    ·subst e
     !⟨has_put.mpr (.inr (has_put.mpr (.inl rfl))),has_put.mpr (.inl rfl)⟩
    ·h h4:has kvs k':=by
      rcases has_put.mp h3 with e' | h3
      ·w
      rcases has_put.mp h3 with e' | h3
      ·w
      !h3
     o⟨y1,y2⟩:=hc k' ¢ h2 h4;!⟨has_put.mpr (.inr (has_put.mpr (.inr y1))),has_put.mpr (.inr (has_put.mpr (.inr y2)))⟩
   ·rcases hup k' h with e | e | e
    ·w
    ·w
    ·!hb k' e
   ·h keep:has (putK (putK kvs (.inl (÷.2.1:Int)) (.bl true)) (.inl (÷.2.2:Int)) (.bl true)) k:=has_put.mpr (.inr (has_put.mpr (.inr hkk)))
    rcases hup k' h with e | e | e
    ·!.inr ⟨k,k2,keep,by w,.inl e.symm⟩
    ·!.inr ⟨k,k2,keep,by w,.inr e.symm⟩
    ·rcases hpar k' h2 e with z | ⟨u,z1,z2,z3⟩
     ·!.inl z
     ·!.inr ⟨u,z1,has_put.mpr (.inr (has_put.mpr (.inr z2))),z3⟩
  ·r⟨kvs,_,rfl,sm,eD,by w,ht,fun k' h1 h2 h3=>?_,hb,hpar⟩
   by_cases e:k'=k
   ·subst e
    !absurd h3 c
   ·!hc k' ¢ h2 h3
 ·rintro σ H2 ⟨kvs,kv,rfl,sm,eD,hl,ht,hc,hb,hpar⟩
  r⟨_,rfl,_,_,rfl,rfl,2,(top:Int)+1,rfl,⟨by w,by w,by w,by unfold Knot at kt;w⟩,fun L hL0=>?_⟩;h neL:D≠L:=fun e=>by rw[<- e,eD] at hL0;cases hL0
  h nL:H L=none:=sm.free hL0;r DG (lo:=2) (n:=((top:Int)+1-2).toNat) (fun i τ H3=>∃ kv:Option V,τ=[kv,some (.ref D)]/\Same H H3/\H3 D=some (.dK kvs)/\H3 L=some (.lst (iN (rcOf kvs i)))) ⟨none,rfl,sm.trans (┊ hL0 _),by rw[Ag neL];!eD,Ab⟩ ?_ ?_
  ·rintro i τ H3 hi ⟨kv,rfl,sm3,eD3,eL3⟩
   h ei:(2:Int)+i=((i+2:Nat):Int):=by w
   rw[ei];r⟨_,rfl,_,rfl,D,_,rfl,DGet.k (k:=.inl ((i+2:Nat):Int)) eD3,_,rfl,?_⟩;h lr:=AAe kvs i;r ite2 (fun c=>?_) (fun c=>?_)
   ·r⟨_,rfl,_,eL3,JC (by rw[─];unfold Knot at kt;w),_,rfl,fun b o e=>?_,by rw[Ag neL];!eD3,?_⟩
    ·rw[Ag (Ae e nL)]
     !sm3 b o e
    ·rw[Ab,Ni,if_pos c]
     unfold iN;rw[List.map_append];rfl
   ·r⟨_,rfl,sm3,eD3,?_⟩
    rw[eL3,Ni,if_neg c,List.append_nil]
  ·rintro τ H3 ⟨kv,rfl,sm3,eD3,eL3⟩
   h all:∀ k,k∈rcOf kvs ((top:Int)+1-2).toNat->2<=k/\k<=top/\has kvs k:=fun k hk=>by
    o⟨a,b,c⟩:=Lq.mp hk;!⟨a,by w,c⟩
   h back:∀ k,k<=top->has kvs k->k<=1\/k∈rcOf kvs ((top:Int)+1-2).toNat:=fun k h1 h2=>by
    rcases Nat.lt_or_ge k 2 with c | c
    ·!.inl ¢
    ·!.inr (Lq.mpr ⟨c,by w,h2⟩)
   h kn:∀ k,k<=top->Knot rows k:=fun k h=>by unfold Knot at *;w
   r q L _ H3 sm3 nL eL3 ⟨fun k hk=>(all k hk).1,fun k hk=>kn k (all k hk).2.1,fun k hk=>?_,fun k hk=>?_⟩ (back top ② ht) (fun t j=>AAX (AEp _ _) (by unfold Knot at kt;w)) (fun k hk=>by
     o⟨a1,b1,c1⟩:=all k hk;rcases hpar k a1 c1 with z | ⟨u,u2,z1,z2⟩
     ·!.inl z
     ·!.inr ⟨u,Lq.mpr ⟨u2,by have:=hb u z1;w,z1⟩,z2⟩)
   ·o⟨a,b,c⟩:=all k hk
    o⟨_,lo,li,_⟩:=ok.low (Bc (kn k b) a);!back _ (by unfold outOf;w) (hc k ¢ b c).1
   ·o⟨a,b,c⟩:=all k hk
    o⟨_,lo,li,_⟩:=ok.low (Bc (kn k b) a);!back _ (by unfold intoOf;w) (hc k ¢ b c).2
end
def ik3(r:Row):List Key:=[.inl (r.1:Int),.inl (r.2.1:Int),.inl (r.2.2:Int)]
abbrev r3(r:Row):List V:=[.int r.1,.int r.2.1,.int r.2.2]
def r3i(r:Row):List Int:=[(r.1:Int),(r.2.1:Int),(r.2.2:Int)]
theorem ACv{a b:Row}(h:ik3 a=ik3 b):a=b:=by
 o⟨a1,a2,a3⟩:=a;o⟨b1,b2,b3⟩:=b;simp[ik3] at h;o⟨h1,h2,h3⟩:=h;injection h1 with h1
 injection h2 with h2
 injection h3 with h3
 h e1:a1=b1:=by w
 h e2:a2=b2:=by w
 h e3:a3=b3:=by w
 rw[e1,e2,e3]
theorem Jo{a b:Row}(h:r3i a=r3i b):a=b:=by
 o⟨a1,a2,a3⟩:=a;o⟨b1,b2,b3⟩:=b;simp[r3i] at h;o⟨h1,h2,h3⟩:=h;h e1:a1=b1:=by w
 h e2:a2=b2:=by w
 h e3:a3=b3:=by w
 rw[e1,e2,e3]
def numKV:Nat->List Row->List (List Key×V)
 | _,[]=>[]
 | i,r::rs=>(ik3 r,.int (i:Int))::numKV (i+1) rs
def numOf:Nat->List Row->Row->Option Nat
 | _,[],_=>none
 | i,a::rs,r=>if a=r then some i else numOf (i+1) rs r
theorem JD:∀(i:Nat) (nums:List Row),(numKV i nums).length=nums.length
 | _,[]=>rfl
 | i,_::rs=>by show (numKV (i+1) rs).length+1=rs.length+1;rw[JD]
theorem JK(r:Row):∀(i:Nat) (nums:List Row),valV (numKV i nums) (ik3 r)=(numOf i nums r).map fun(m:Nat)=>V.int (m:Int)
 | _,[]=>rfl
 | i,a::rs=>by
  by_cases e:a=r
  ·rw[numKV,CT (by show ik3 a=ik3 r;rw[e]),numOf,if_pos e];rfl
  ·rw[numKV,CQ (fun z=>e (ACv z)),numOf,if_neg e];!JK r (i+1) rs
theorem Le(r:Row):∀(i:Nat) (nums:List Row) (m:Nat),numOf i nums r=some m->∃ j,nums[j]?=some r/\m=i+j
 | _,[],_,h=>by cases h
 | i,a::rs,m,h=>by
  unfold numOf at h;by_cases e:a=r
  ·rw[if_pos e] at h
   cases h;!⟨0,by rw[e];rfl,rfl⟩
  ·rw[if_neg e] at h
   o⟨j,h1,h2⟩:=Le r (i+1) rs m h;!⟨j+1,by u h1,by w⟩
theorem LC(r:Row):∀(i:Nat) (nums:List Row),numOf i nums r=none->r∉nums
 | _,[],_=>fun h=>nomatch h
 | i,a::rs,h=>by
  unfold numOf at h;by_cases e:a=r
  ·rw[if_pos e] at h;cases h
  ·rw[if_neg e] at h
   intro hm;rcases ┃ hm with rfl | hm
   ·!e rfl
   ·!LC r (i+1) rs h hm
theorem Nq(r:Row):∀(i:Nat) (nums:List Row),r∉nums->numOf i nums r=none
 | _,[],_=>rfl
 | i,a::rs,h=>by
  unfold numOf;rw[if_neg (fun e=>h (by rw[e];!´ ..))];!Nq r (i+1) rs fun z=>h (¶ _ z)
theorem Mi:∀(i:Nat) (nums:List Row) (r:Row),numKV i (nums++[r])=numKV i nums++[(ik3 r,.int ((i+nums.length:Nat):Int))]
 | i,[],r=>rfl
 | i,a::rs,r=>by
  show (ik3 a,V.int (i:Int))::numKV (i+1) (rs++[r])=(ik3 a,V.int (i:Int))::(numKV (i+1) rs++[(ik3 r,V.int ((i+(rs.length+1):Nat):Int))]);rw[Mi (i+1) rs r];rw[show i+1+rs.length=i+(rs.length+1) by w]
theorem Yb{nums:List Row}{r:Row}(h:r∉nums):putK (numKV 2 nums) (ik3 r) (.int (((numKV 2 nums).length:Int)+2))=numKV 2 (nums++[r]):=by
 rw[Ii _ (by rw[JK,Nq r 2 nums h];rfl),Mi,JD]
 congr 4
 w
theorem Ol{K:¨}{H:Hp}:∀{i:Nat}{nums:List Row}{ys:List V},KeyL H (numKV i nums) ys->Paired (rRow K H) nums ys
 | _,[],_,.nil=>.nil
 | i,r::rs,_,.cons ⟨b,e,hb⟩ t=>.cons ⟨b,e,SqT.of hb⟩ (Ol t)
theorem Iu:∀(ms:List ⑤),(∀ m∈ms,∃ r,m=r3i r)->∃ new:List Row,ms=new.map r3i
 | [],_=>⟨[],rfl⟩
 | m::ms,h=>by
  o⟨r,rfl⟩:=h m (´ ..);o⟨new,rfl⟩:=Iu ms fun x hx=>h x (¶ _ hx);!⟨r::new,rfl⟩
theorem Xn:∀{new:List Row},(new.map r3i).Pairwise (fun a b=>HT.lexLt a b=true)->new.Nodup:=fun {new} h=>by
 h h2:new.Pairwise (fun a b=>HT.lexLt (r3i a) (r3i b)=true):=List.pairwise_map.mp h;!h2.imp fun {a b} z e=>by rw[e,Hl] at z;cases z
def plOf(pl:Nat->Option Nat)(place:Nat->Nat)(ks:List Nat)(k:Nat):Option Nat:=if k∈ks then some (place k) else pl k
theorem ABn{pl:Nat->Option Nat}{place:Nat->Nat}{ks:List Nat}{a k:Nat}:plOf pl place (ks++[a]) k=if k=a then some (place a) else plOf pl place ks k:=by
 unfold plOf;by_cases e:k=a
 ·subst e;simp
 ·by_cases h:k∈ks
  ·simp[h,e]
  ·simp[h,e]
def PlD(kvs:List (Key×V))(pl:Nat->Option Nat):Prop:=∀ k:Nat,valV kvs (.inl (k:Int))=(pl k).map fun(p:Nat)=>V.int (p:Int)
theorem PlD.put{kvs:List (Key×V)}{pl:Nat->Option Nat}{place:Nat->Nat}{ks:List Nat}{a:Nat}(h:PlD kvs (plOf pl place ks)):PlD (putK kvs (.inl (a:Int)) (.int (place a:Nat))) (plOf pl place (ks++[a])):=fun k=>by
 rw[Ea,ABn];by_cases e:k=a
 ·subst e;rw[if_pos rfl,if_pos rfl];rfl
 ·rw[if_neg (fun z=>e (by injection z with z;w)),if_neg e]
  !h k
end K42s
end
section
namespace G
section
variable{n t:Nat}{A rows nums:List Row}{rc:List Nat}{pl:Nat->Option Nat}
def FewB(rows:List Row)(top:Nat):Prop:=∃ P:Nat->Prop,P top/\(∀ k,P k->2<=k->Knot rows k->P (outOf rows k)/\P (intoOf rows k)) /\
 ∀(t:Nat) (ks:List Nat),(∀ k∈ks,P k/\2<=k/\Knot rows k/\tieOf rows k=t/\∃ s,led rows (intoOf rows k) s=true)->ks.Pairwise (fun a b=>∃ s,led rows a s≠led rows b s)->ks.length<=300
theorem FewB.sel{top:Nat}(F:FewB rows top)(I:Kept2 n (t+1) rows rc nums pl)(c:Closed rows rc)(o:Ok n rows)(hn:t<n)(par:∀ k∈rc,k=top\/∃ k'∈rc,k<k'/\(outOf rows k'=k\/intoOf rows k'=k)) :
  ∀ new:List Row,new.Nodup->(∀ r∈new,∃ k,k∈rc/\tieOf rows k=t/\r=rowIn rows pl k/\r.2.2≠0)->new.length<=300:=by
 intro new nd hw;o⟨P,pt,ps,few⟩:=F;h hP:∀ k∈rc,P k:=fun k hk=>Zf pt ps c par _ k ② hk;obtain ⟨g,hg⟩:∃ g:Row->Nat,∀ r∈new,g r∈rc/\tieOf rows (g r)=t/\r=rowIn rows pl (g r)/\r.2.2≠0 :=
  ⟨fun r=>if h:r∈new then Classical.choose (hw r h) else 0,fun r h=>by
   dsimp only;rw[dif_pos h];!Classical.choose_spec (hw r h)⟩
 h okN:=I.base.least.ok;h key:∀ r∈new,∃ a b,r=(t,a,b)/\Knot nums a/\Knot nums b/\b≠0/\(∀ s,led nums a s=led rows (outOf rows (g r)) s)/\(∀ s,led nums b s=led rows (intoOf rows (g r)) s)/\(∀ xs,led rows (g r) (t::xs)=led nums b xs)/\∀ s,led nums a s=if lowH t s=true then false else led rows (g r) s:=fun r hr=>by
  o⟨hk,ht,e,w0⟩:=hg r hr;o⟨a,b,ea,eb,re,x1,x2,x3,x4⟩:=I.base.row c o hn hk ht;o⟨_,z1,z2⟩:=c.low o hk;h la:∀ s,led nums a s=led rows (outOf rows (g r)) s:=I.low (c.out _ hk) (by rw[<- ht];!z1) ea;h lb:∀ s,led nums b s=led rows (intoOf rows (g r)) s:=I.low (c.into _ hk) (by rw[<- ht];!z2) eb;h kk:=c.knot _ hk;h k2:=c.two _ hk;h et:(rows.getD (g r-2) (0,0,0)).1=t:=ht;r⟨a,b,e.trans re,x1,x2,?_,la,lb,fun xs=>?_,fun s=>?_⟩
  ·rw[e,re] at w0
   !w0
  ·rw[Bm o kk k2,et,if_neg (Nat.lt_irrefl _),if_pos rfl,lb]
   rfl
  ·cases s with
   | nil=>rw[la,DY o kk k2,if_neg (by intro z;cases z)];rfl
   | cons x xs =>
    by_cases cs:x<=t
    ·rw[if_pos (show lowH t (x::xs)=true from decide_eq_true cs)]
     !off okN x1 ¢
    ·rw[if_neg (show ¬ lowH t (x::xs)=true from fun z=>cs (of_decide_eq_true z)),la,Bm o kk k2,et,if_neg ¢,if_neg ¢]
     rfl
 have:=few t (new.map g) (fun k hk=>by
  o⟨r,hr,rfl⟩:=List.mem_map.mp hk;o⟨h1,h2,h3,h4⟩:=hg r hr;o⟨a,b,_,_,kb,b0,_,lb,_⟩:=key r hr;r⟨hP _ h1,c.two _ h1,c.knot _ h1,h2,?_⟩;o⟨s,w,_⟩:=Kg I.base.least (b+1) b (Nat.lt_succ_self _) kb b0;!⟨s,by rw[<- lb];!w.1⟩) (by
  rw[List.pairwise_map];r List.Pairwise.imp_of_mem (fun {r r'} hr hr' ne=>?_) nd;r Classical.byContradiction fun h=>ne ?_;h same:∀ s,led rows (g r) s=led rows (g r') s:=fun s=>Classical.byContradiction fun z=>h ⟨s,z⟩;o⟨a,b,er,ka,kb,_,_,_,lb,la⟩:=key r hr;o⟨a',b',er',ka',kb',_,_,_,lb',la'⟩:=key r' hr';h e1:a=a':=WD I.base.least ka ka' fun s=>by rw[la,la',same]
  h e2:b=b':=WD I.base.least kb kb' fun s=>by rw[<- lb,<- lb',same]
  rw[er,er',e1,e2])
 rwa [─] at this
theorem Td{α:Type}[DecidableEq α]:∀{l₁ l₂:List α},l₁.Nodup->(∀ x∈l₁,x∈l₂)->l₁.length<=l₂.length
 | [],_,_,_=>Nat.zero_le _
 | a::t,l₂,nd,hs=>by
  o⟨n1,n2⟩:=List.nodup_cons.mp nd;h ha:a∈l₂:=hs a ´;h hl:(l₂.erase a).length=l₂.length-1:=List.length_erase_of_mem ha;h ih:=Td (l₂:=l₂.erase a) n2 fun x hx=>(List.mem_erase_of_ne (fun(e:x=a)=>n1 (by rw[<- e];!hx))).mpr (hs x (¶ _ hx));have:0<l₂.length:=List.length_pos_of_mem ha;simp;w
def allB:Nat->List (List Bool)
 | 0=>[[]]
 | n+1=>(allB n).map (true::·)++(allB n).map (false::·)
theorem Tn:∀ n,(allB n).length=2 ^ n
 | 0=>rfl
 | n+1=>by
  show ((allB n).map (true::·)++(allB n).map (false::·)).length=_;rw[│,─,─,Tn n,Nat.pow_succ];w
theorem RX:∀{n:Nat}{l:List Bool},l.length=n->l∈allB n
 | 0,[],_=>by simp[allB]
 | n+1,b::l,h=>by
  have:=RX (n:=n) (l:=l) (by u h);show b::l∈(allB n).map (true::·)++(allB n).map (false::·);cases b with
  | true=>!List.mem_append_left _ (List.mem_map_of_mem this)
  | false=>!List.mem_append_right _ (List.mem_map_of_mem this)
 | 0,_::_,h=>by cases h
 | _+1,[],h=>by cases h
def subs12:List (List Nat):=[[],[9],[10],[11],[9,10],[9,11],[10,11],[9,10,11]]
theorem ACh{s:List Nat}(w:s.Pairwise (· < ·))(bd:∀ x∈s,9<=x/\x<12):s∈subs12:=by
 match s,w,bd with
 | [],_,_=>!by decide
 | [x],_,bd =>
  have:=bd x (´ ..);have:x=9\/x=10\/x=11:=by w
  rcases this with rfl | rfl | rfl<;>decide
 | [x,y],w,bd =>
  have h1:=bd x (´ ..);have h2:=bd y (¶ _ (´ ..));have lt:x<y:=(List.pairwise_cons.mp w).1 y (´ ..);have:(x=9/\y=10)\/(x=9/\y=11)\/(x=10/\y=11):=by w
  rcases this with⟨rfl,rfl⟩ | ⟨rfl,rfl⟩ | ⟨rfl,rfl⟩<;>decide
 | x::y::z::r,w,bd =>
  have h1:=bd x (´ ..);have h2:=bd y (¶ _ (´ ..));have h3:=bd z (¶ _ (¶ _ (´ ..)));have l1:x<y:=(List.pairwise_cons.mp w).1 y (´ ..);have w2:=(List.pairwise_cons.mp w).2;have l2:y<z:=(List.pairwise_cons.mp w2).1 z (´ ..);obtain rfl:x=9:=by w
  obtain rfl:y=10:=by w
  obtain rfl:z=11:=by w
  cases r with
  | nil=>decide
  | cons u r =>
   have hu:=bd u ¥;have l3:11<u:=(List.pairwise_cons.mp (List.pairwise_cons.mp w2).2).1 u (´ ..);w
theorem Ua{n:Nat}{rows:List Row}(o:Ok n rows)(n12:n<=12)(c:Cnt 0 rows)(top:Nat):FewB rows top:=by
 r⟨fun _=>True,trivial,fun _ _ _ _=>⟨trivial,trivial⟩,fun t ks hk un=>?_⟩;h nd:ks.Nodup:=un.imp fun {a b} ⟨s,h⟩ e=>h (by rw[e]);rcases Nat.lt_or_ge t 9 with c9 | c9
 ·h z:=Oz (A:=rows) (t:=t) ks (fun k h=>⟨(hk k h).2.1,(hk k h).2.2.1,(hk k h).2.2.2.1⟩) nd
  h y:=c t;rw[if_neg ¢,Nat.sub_zero] at y;have:2 ^ t<=2 ^ 8:=Nat.pow_le_pow_right ¤ ¢;w
 ·h lim:∀{k:Nat}{s:List Nat},Knot rows k->2<=k->tieOf rows k=t->led rows k s=true->s∈subs12:=fun {k s} kn k2 tk ld=>by
   h I0:=Ik _ _ rfl o _ kn;o⟨w1,w2⟩:=I0.way s ((I0.mem s).mpr ld);r ACh w1 fun x hx=>?_;h z:=w2 x hx;unfold rank at z;rw[if_neg ¢] at z;h e:÷.1=t:=tk;w
  h z:=Td (l₁:=ks.map fun k=>subs12.map (led rows k)) (l₂:=allB 8) (by
   unfold List.Nodup;rw[List.pairwise_map];r List.Pairwise.imp_of_mem (fun {a b} ha hb ⟨s,ne⟩ e=>ne ?_) un;o⟨_,a2,ka,ta,_⟩:=hk a ha;o⟨_,b2,kb,tb,_⟩:=hk b hb;h same:∀ s∈subs12,led rows a s=led rows b s:=fun s hs=>(List.map_inj_left.mp e) s hs;cases ea:led rows a s with
   | true=>rw[<- same s (lim ka a2 ta ea),ea]
   | false =>
    cases eb:led rows b s with
    | true=>rw[<- same s (lim kb b2 tb eb),ea] at eb;!eb
    | false=>rfl) fun x hx=>by
   o⟨k,_,rfl⟩:=List.mem_map.mp hx;!RX (by rw[─];rfl)
  rw[─,Tn] at z;w
end
end G
end
section
namespace SB
open PySem PySem.SetTable
def iter{α:Type}(f:α->α):Nat->α->α
 | 0,x=>x
 | n+1,x=>iter f n (f x)
theorem CN{α:Type}(f:α->α):∀(m n:Nat) (x:α),iter f (m+n) x=iter f n (iter f m x)
 | 0,n,x=>by rw[Nat.zero_add];rfl
 | m+1,n,x=>by
  rw[Nat.succ_add];!CN f m n (f x)
theorem YJ{α:Type}(f:α->α)(n:Nat)(x:α):iter f (n+1) x=f (iter f n x):=CN f n 1 x
def Mask(m:Nat):Prop:=m=7\/m=31\/m=127\/m=511
def step(M:Nat)(p:Probe):Probe :=
 if p.more>0 then {p with j:=p.j+1,more:=p.more-1} else
 {p with j:=(leap M p.i p.perturb).1,more:=runEnd M (leap M p.i p.perturb).1-(leap M p.i p.perturb).1,i:=(leap M p.i p.perturb).1,perturb:=(leap M p.i p.perturb).2}
theorem HF(t:SetTable)(p:Probe):t.advance p=step t.mask p:=by
 unfold advance step;split<;>rfl
theorem QG(M i:Nat):runEnd M i-i<=9:=by
 unfold runEnd;split<;>w
structure Fine(M:Nat)(p:Probe):Prop where
 more:p.more<=9
 i:p.i<=M
 j:p.j<=M
 jm:p.j+p.more<=M
 dummy:p.dummy=none
theorem Vj{M i:Nat}(h:i<=M):i+(runEnd M i-i)<=M:=by
 unfold runEnd;split<;>w
theorem IV(M i p:Nat):(leap M i p).1<=M:=by
 unfold leap;have:=Nat.mod_lt (i*5+1+p / 32) (show 0<M+1 by w);show (i*5+1+p / 32)%(M+1)<=M;w
theorem Fine.step{M:Nat}{p:Probe}(h:Fine M p):Fine M (step M p):=by
 unfold SB.step;by_cases c:p.more>0
 ·rw[if_pos c]
  have:=h.jm;have:=h.more;!⟨by show p.more-1<=9;w,h.i,by show p.j+1<=M;w,by show p.j+1+(p.more-1)<=M;w,h.dummy⟩
 ·rw[if_neg c]
  !⟨QG _ _,IV _ _ _,IV _ _ _,Vj (IV _ _ _),h.dummy⟩
theorem Fine.iter{M:Nat}:∀(n:Nat) {p:Probe},Fine M p->Fine M (iter (SB.step M) n p)
 | 0,_,h=>h
 | n+1,_,h=>Fine.iter n h.step
theorem Fine.start(t:SetTable)(h:Int):Fine t.mask (t.probeStart h):=by
 have:=Nat.mod_lt (bits h) (show 0<t.mask+1 by w);h hi:bits h%(t.mask+1)<=t.mask:=by w
 !⟨QG _ _,hi,hi,Vj hi,rfl⟩
theorem Xa{M:Nat}:∀(k:Nat) {p:Probe},p.more=k->∃ q,SB.iter (step M) (k+1) p=q/\q.i=(leap M p.i p.perturb).1/\q.perturb=(leap M p.i p.perturb).2/\q.j=q.i/\q.more<=9
 | 0,p,e=>by
  r⟨_,rfl,?_⟩;show (step M p).i=_/\(step M p).perturb=_/\(step M p).j=(step M p).i/\(step M p).more<=9;unfold step;rw[if_neg ¢];!⟨rfl,rfl,rfl,QG _ _⟩
 | k+1,p,e=>by
  h hs:step M p={p with j:=p.j+1,more:=p.more-1}:=by unfold step;rw[if_pos ¢]
  o⟨q,h1,h2⟩:=Xa (M:=M) k (p:=step M p) (by rw[hs];show p.more-1=k;w);rw[hs] at h2;!⟨q,h1,h2⟩
def leaps(M:Nat):Nat->Nat×Nat->Nat×Nat:=SB.iter (fun x=>leap M x.1 x.2)
theorem La{M:Nat}:∀(k:Nat) {p:Probe},p.more<=9->∃ m,m<=10*k/\((SB.iter (step M) m p).i,(SB.iter (step M) m p).perturb)=leaps M k (p.i,p.perturb)/\(SB.iter (step M) m p).more<=9/\(0<k->(SB.iter (step M) m p).j=(SB.iter (step M) m p).i)
 | 0,p,h=>⟨0,by w,rfl,h,fun z=>absurd z ¢⟩
 | k+1,p,h=>by
  o⟨q,e,q1,q2,q3,q4⟩:=Xa (M:=M) p.more (p:=p) rfl;o⟨m,hm,h1,h2,h3⟩:=La k q4;r⟨(p.more+1)+m,by w,?_,?_,fun _=>?_⟩
  ·rw[CN,e,h1]
   show leaps M k (q.i,q.perturb)=leaps M k (leap M p.i p.perturb);rw[q1,q2]
  ·rw[CN,e];!h2
  ·rw[CN,e]
   by_cases c:0<k
   ·!h3 c
   ·have:k=0:=by w
    subst this;have:m=0:=by w
    subst this;!q3
theorem Er{M:Nat}:∀(k:Nat) (x:Nat×Nat),(leaps M k x).2=x.2 / 32 ^ k
 | 0,x=>by simp[leaps,SB.iter]
 | k+1,x=>by
  show (leaps M k (leap M x.1 x.2)).2=_;rw[Er k];show x.2 / 32 / 32 ^ k=_;rw[Nat.div_div_eq_div_mul,Nat.pow_succ,Nat.mul_comm]
def lc(n i:Nat):Nat:=(i*5+1)%n
theorem HD{M:Nat}:∀(k i:Nat),leaps M k (i,0)=(SB.iter (lc (M+1)) k i,0)
 | 0,i=>rfl
 | k+1,i=>by
  show leaps M k (leap M i 0)=_;have:leap M i 0=(lc (M+1) i,0):=by unfold leap lc;simp
  rw[this,HD k];rfl
theorem cyc8:∀ j,j<8->∃ k,k<8/\SB.iter (lc 8) k 0=j:=by decide +kernel
theorem cyc32:∀ j,j<32->∃ k,k<32/\SB.iter (lc 32) k 0=j:=by decide +kernel
theorem cyc128:∀ j,j<128->∃ k,k<128/\SB.iter (lc 128) k 0=j:=by decide +kernel
def iters(f:Nat->Nat):Nat->Nat->List Nat
 | 0,_=>[]
 | n+1,x=>x::iters f n (f x)
theorem Sx(f:Nat->Nat):∀(n x j:Nat),j∈iters f n x->∃ k,k<n/\SB.iter f k x=j
 | 0,x,j,h=>by cases h
 | n+1,x,j,h=>by
  rcases ┃ h with rfl | h
  ·!⟨0,Nat.zero_lt_succ _,rfl⟩
  ·o⟨k,hk,e⟩:=Sx f n (f x) j h
   !⟨k+1,Nat.succ_lt_succ hk,e⟩
theorem all512:((List.range 512).all fun j=>(iters (lc 512) 512 0).contains j)=true:=by decide +kernel
theorem cyc512:∀ j,j<512->∃ k,k<512/\SB.iter (lc 512) k 0=j:=fun j hj=>Sx _ _ _ _ (List.contains_iff_mem.mp (List.all_eq_true.mp all512 j (List.mem_range.mpr hj)))
theorem cyc{M:Nat}(h:Mask M):(∀ j,j<M+1->∃ k,k<M+1/\SB.iter (lc (M+1)) k 0=j)/\SB.iter (lc (M+1)) (M+1) 0=0:=by
 rcases h with rfl | rfl | rfl | rfl
 ·!⟨cyc8,£⟩
 ·!⟨cyc32,£⟩
 ·!⟨cyc128,£⟩
 ·!⟨cyc512,£⟩
theorem Wf{M:Nat}(h:Mask M){i j:Nat}(hi:i<M+1)(hj:j<M+1):∃ k,k<M+1/\SB.iter (lc (M+1)) k i=j:=by
 o⟨c1,c2⟩:=cyc h;o⟨a,ha,ea⟩:=c1 i hi;o⟨b,hb,eb⟩:=c1 j hj;by_cases c:a<=b
 ·r⟨b-a,by w,?_⟩
  rw[<- ea,<- CN,show a+(b-a)=b by w,eb]
 ·r⟨M+1+b-a,by w,?_⟩
  rw[<- ea,<- CN,show a+(M+1+b-a)=(M+1)+b by w,CN,c2,eb]
theorem Bx:∀{l₁ l₂:List Nat},l₁.Nodup->(∀ x∈l₁,x∈l₂)->l₁.length<=l₂.length
 | [],_,_,_=>Nat.zero_le _
 | a::t,l₂,nd,hs=>by
  o⟨n1,n2⟩:=List.nodup_cons.mp nd;h ha:a∈l₂:=hs a ´;h hl:(l₂.erase a).length=l₂.length-1:=List.length_erase_of_mem ha;h ih:=Bx (l₂:=l₂.erase a) n2 fun x hx=>(List.mem_erase_of_ne (fun(e:x=a)=>n1 (by rw[<- e];!hx))).mpr (hs x (¶ _ hx));have:0<l₂.length:=List.length_pos_of_mem ha;simp;w
theorem ACZ{M:Nat}{place:Array Nat}(h:place.size<=M):∃ j,j<M+1/\j∉place.toList:=by
 r Classical.byContradiction fun c=>?_;h all:∀ j∈List.range (M+1),j∈place.toList:=fun j hj=>Classical.byContradiction fun z=>c ⟨j,List.mem_range.mp hj,z⟩;have:=Bx List.nodup_range all;rw[List.length_range,┄] at this;w
theorem Qe(h:Int):bits h<2 ^ 64:=by
 unfold bits;h h1:=Int.emod_nonneg h (show (2 ^ 64:Int)≠0 by decide);h h2:=Int.emod_lt_of_pos h (show (0:Int)<2 ^ 64 by decide);w
theorem Ky{M:Nat}:∀(n:Nat) (p:Probe),(SB.iter (step M) n p).perturb<=p.perturb
 | 0,_=>Nat.le_refl _
 | n+1,p=>by
  r Nat.le_trans (Ky n (step M p)) ?_;unfold step;split
  ·!Nat.le_refl _
  ·!Nat.div_le_self _ _
theorem Nf{M:Nat}{place:Array Nat}(hM:Mask M)(hs:place.size<=M){p:Probe}(hp:Fine M p)(hb:p.perturb<2 ^ 64):∃ m,m<10*turns M/\(SB.iter (step M) m p).j∉place.toList:=by
 o⟨j,hj,nj⟩:=ACZ hs;o⟨m1,hm1,e1,k1,_⟩:=La (M:=M) 13 (p:=p) hp.more;generalize hq:SB.iter (step M) m1 p=q at *;h fq:Fine M q:=by rw[<- hq];!hp.iter m1
 h pz:q.perturb=0:=by
  h h2:=congrArg Prod.snd e1;rw[Er] at h2;h h3:q.perturb=p.perturb / 32 ^ 13:=h2;rw[h3];!Nat.div_eq_of_lt (Nat.lt_of_lt_of_le hb ¤)
 o⟨k,hk,ek⟩:=Wf hM (i:=lc (M+1) q.i) (j:=j) (Nat.mod_lt _ (Nat.succ_pos _)) hj;o⟨m2,hm2,e2,_,k2⟩:=La (M:=M) (k+1) (p:=q) fq.more;r⟨m1+m2,?_,?_⟩
 ·unfold turns
  w
 ·rw[CN,hq,k2 (Nat.succ_pos _)]
  h h1:=congrArg Prod.fst e2;rw[pz,HD] at h1;h h2:(SB.iter (step M) m2 q).i=SB.iter (lc (M+1)) k (lc (M+1) q.i):=h1;rw[h2,ek];!nj
theorem KY{xs:Array Nat}{j:Nat}(so:xs.toList.Pairwise (· < ·)):∀(fuel lo hi:Nat),lo<=hi->hi<=xs.size->hi-lo<=fuel->(∀ k,k<lo->xs.getD k j<j)->(∀ k,hi<=k->k<xs.size->j<=xs.getD k j) ->
  (∀ k,k<below.go xs j fuel lo hi->xs.getD k j<j)/\(∀ k,below.go xs j fuel lo hi<=k->k<xs.size->j<=xs.getD k j)/\below.go xs j fuel lo hi<=xs.size
 | 0,lo,hi,h1,h2,h3,h4,h5=>by
  have:lo=hi:=by w
  subst this;!⟨h4,h5,h2⟩
 | fuel+1,lo,hi,h1,h2,h3,h4,h5=>by
  unfold below.go;by_cases c:lo<hi
  ·rw[if_pos c]
   h hm:(lo+hi) / 2<xs.size:=by w
   h so':=List.pairwise_iff_getElem.mp so;h gd:∀ k,k<xs.size->xs.getD k j=xs.toList.getD k j:=fun k hk=>by simp[Array.getD,hk]
   by_cases d:xs.getD ((lo+hi) / 2) j<j
   ·simp only[if_pos d]
    r KY so fuel _ hi ¢ h2 ¢ (fun k hk=>?_) h5;by_cases e:k=(lo+hi) / 2
    ·rw[e];!d
    ·h hk':k<(lo+hi) / 2:=by w
     h z:=so' k ((lo+hi) / 2) (by u(show k<xs.size by w)) (by u hm) hk';h g1:xs.getD k j=xs[k]'¢:=by simp[Array.getD,show k<xs.size by w]
     h g2:xs.getD ((lo+hi) / 2) j=xs[(lo+hi) / 2]'hm:=by simp[Array.getD,hm]
     rw[g2] at d;rw[g1];simp at z;w
   ·simp only[if_neg d]
    r KY so fuel lo _ ¢ ¢ ¢ h4 (fun k hk hk2=>?_);by_cases e:k=(lo+hi) / 2
    ·rw[e];w
    ·h z:=so' ((lo+hi) / 2) k (by u hm) (by u hk2) ¢
     h g1:xs.getD k j=xs[k]'hk2:=by simp[Array.getD,hk2]
     h g2:xs.getD ((lo+hi) / 2) j=xs[(lo+hi) / 2]'hm:=by simp[Array.getD,hm]
     rw[g2] at d;rw[g1];simp at z;w
  ·rw[if_neg c]
   have:lo=hi:=by w
   subst this;!⟨h4,h5,h2⟩
theorem FQ{xs:Array Nat}{j:Nat}(so:xs.toList.Pairwise (· < ·)):(∀ k,k<below xs j->xs.getD k j<j)/\(∀ k,below xs j<=k->k<xs.size->j<=xs.getD k j)/\below xs j<=xs.size :=
 KY so xs.size 0 xs.size (Nat.zero_le _) ② ② (fun k hk=>absurd hk ¢) (fun k h1 h2=>absurd h2 ¢)
theorem below_at{xs:Array Nat}{j:Nat}(so:xs.toList.Pairwise (· < ·))(h:j∈xs.toList):xs[below xs j]?=some j:=by
 o⟨b1,b2,b3⟩:=FQ (j:=j) so;o⟨k,hk,e⟩:=List.mem_iff_getElem.mp h;h hk':k<xs.size:=by u hk
 h e':xs[k]=j:=by u e
 h g1:xs.getD k j=j:=by simp[Array.getD,hk',e']
 h h1:below xs j<=k:=by
  r Classical.byContradiction fun c=>?_;have:=b1 k ¢;w
 by_cases c:below xs j=k
 ·rw[c,┋ hk',e']
 ·h hb:below xs j<xs.size:=by w
  h z:=List.pairwise_iff_getElem.mp so (below xs j) k (by u hb) hk ¢;h b:=b2 (below xs j) ② hb;h g2:xs.getD (below xs j) j=xs[below xs j]'hb:=by simp[Array.getD,hb]
  rw[g2] at b;simp at z;w
structure Tab(t:SetTable):Prop where
 mask:Mask t.mask
 none:t.dummies=#[]
 size:t.place.size<=t.mask
 le:∀ j∈t.place.toList,j<=t.mask
 rise:t.place.toList.Pairwise (· < ·)
theorem slot_of{t:SetTable}(T:Tab t)(j:Nat):(t.slot j=.empty/\j∉t.place.toList)\/∃ i,t.slot j=.live i/\t.place[i]?=some j:=by
 unfold slot;by_cases c:t.place[below t.place j]?=some j
 ·right
  !⟨below t.place j,by simp[c],c⟩
 ·left
  h hd:has t.dummies j=false:=by rw[T.none];unfold has;simp
  r⟨by simp[c,hd],fun h=>c (below_at T.rise h)⟩
def way(t:SetTable)(p:Probe)(m:Nat):Nat:=(SB.iter (step t.mask) m p).j
theorem Ro(t:SetTable)(p:Probe)(m:Nat):way t (step t.mask p) m=way t p (m+1):=rfl
theorem ADz{t:SetTable}(T:Tab t){hashAt:Nat->Int}{h:Int}:∀(fuel:Nat) (p:Probe),p.dummy=none->(∃ m,m<fuel/\way t p m∉t.place.toList) ->
  ∃ m,(∀ m',m'<m->∃ i,t.place[i]?=some (way t p m')/\hashAt i≠h) /\
   (
    (way t p m∉t.place.toList/\probe.go t hashAt h fuel p=some (.empty (way t p m) none)) \/
    ∃ i,t.place[i]?=some (way t p m)/\t.slot (way t p m)=.live i/\hashAt i=h/\probe.go t hashAt h fuel p=some (.candidate (way t p m) i (SB.iter (step t.mask) (m+1) p)))
 | 0,p,_,⟨m,hm,_⟩=>absurd hm ¢
 | fuel+1,p,hd,⟨m0,hm0,n0⟩=>by
  unfold probe.go;rcases slot_of T p.j with⟨e,ne⟩ | ⟨i,e,pi⟩
  ·r⟨0,fun m' h=>absurd h ¢,.inl ⟨ne,?_⟩⟩
   rw[e];show some (Met.empty p.j p.dummy)=_;rw[hd];rfl
  ·by_cases c:hashAt i=h
   ·r⟨0,fun m' h=>absurd h ¢,.inr ⟨i,pi,e,c,?_⟩⟩
    rw[e];simp only[c,beq_self_eq_true,if_true];rw[HF];rfl
   ·h m1:m0≠0:=fun z=>by
     subst z;!n0 (by rw[List.mem_iff_getElem?];!⟨i,by rw[Array.getElem?_toList];!pi⟩)
    h hd':(step t.mask p).dummy=none:=by unfold step;split<;>!hd
    o⟨m,h1,h2⟩:=ADz T (hashAt:=hashAt) (h:=h) fuel (step t.mask p) hd' ⟨m0-1,by w,by rw[Ro,show m0-1+1=m0 by w];!n0⟩;h ee:probe.go t hashAt h (fuel+1) p=probe.go t hashAt h fuel (step t.mask p):=by
     show (match t.slot p.j with | .empty=>some (Met.empty p.j p.dummy) | .dummy=>probe.go t hashAt h fuel (t.advance {p with dummy:=some p.j}) | .live i=>if hashAt i==h then some (.candidate p.j i (t.advance p)) else probe.go t hashAt h fuel (t.advance p))=_;rw[e];h cb:(hashAt i==h)=false:=by u c
     simp only[cb,Bool.false_eq_true,if_false];rw[HF]
    r⟨m+1,fun m' hm'=>?_,?_⟩
    ·by_cases z:m'=0
     ·subst z;!⟨i,pi,c⟩
     ·have:=h1 (m'-1) ¢
      rw[Ro,show m'-1+1=m' by w] at this;!this
    ·rw[e]
     h cb:(hashAt i==h)=false:=by u c
     simp only[cb,Bool.false_eq_true,if_false,HF];!h2
def Loc(t:SetTable)(hs:List Int):Prop:=∀(idx j:Nat) (h:Int),t.place[idx]?=some j->hs[idx]?=some h->∃ m,way t (t.probeStart h) m=j/\∀ m',m'<m->way t (t.probeStart h) m'∈t.place.toList
theorem AAT{t:SetTable}(T:Tab t){hashAt:Nat->Int}{h:Int}{p:Probe}(hp:Fine t.mask p)(hb:p.perturb<2 ^ 64) :
  ∃ m,(∀ m',m'<m->∃ i,t.place[i]?=some (way t p m')/\hashAt i≠h) /\
   (
    (way t p m∉t.place.toList/\t.probe hashAt h p=some (.empty (way t p m) none)) \/
    ∃ i,t.place[i]?=some (way t p m)/\t.slot (way t p m)=.live i/\hashAt i=h/\t.probe hashAt h p=some (.candidate (way t p m) i (SB.iter (step t.mask) (m+1) p))) :=
 ADz T _ p hp.dummy (Nf T.mask T.size hp hb)
theorem BZ{α:Type}(xs:Array α)(p:Nat)(x:α):(insertAt xs p x).toList=xs.toList.take p++[x]++xs.toList.drop p:=by
 unfold insertAt;simp;!List.take_of_length_le ¥
structure Put(t:SetTable)(j:Nat):Prop where
 le:j<=t.mask
 new:j∉t.place.toList
 room:t.place.size+1<=t.mask
theorem Il{t:SetTable}(T:Tab t){j:Nat}:(t.put j).1={t with place:=insertAt t.place (below t.place j) j}/\(t.put j).2=below t.place j:=by
 unfold put;h hd:has t.dummies j=false:=by rw[T.none];unfold has;simp
 simp[hd]
theorem ADW{t:SetTable}(T:Tab t){j:Nat}(P:Put t j):Tab (t.put j).1:=by
 o⟨e,_⟩:=Il T (j:=j);o⟨b1,b2,b3⟩:=FQ (j:=j) T.rise;rw[e];r⟨T.mask,T.none,?_,fun k hk=>?_,?_⟩
 ·show (insertAt t.place (below t.place j) j).size<=t.mask
  have:=congrArg List.length (BZ t.place (below t.place j) j);simp at this;have:=P.room;w
 ·h hk':k∈(insertAt t.place (below t.place j) j).toList:=hk
  rw[BZ] at hk';rcases List.mem_append.mp hk' with hk' | hk'
  ·rcases List.mem_append.mp hk' with hk' | hk'
   ·!T.le k (List.mem_of_mem_take hk')
   ·rw[List.mem_singleton.mp hk'];!P.le
  ·!T.le k (List.mem_of_mem_drop hk')
 ·show (insertAt t.place (below t.place j) j).toList.Pairwise (· < ·)
  rw[BZ];h so:=T.rise;h get:∀ k (hk:k<t.place.size),t.place.getD k j=t.place.toList[k]'(by u hk):=fun k hk=>by simp[Array.getD,hk]
  r List.pairwise_append.mpr ⟨List.pairwise_append.mpr ⟨so.sublist (List.take_sublist _ _),List.pairwise_singleton _ _,fun a ha b hb=>?_⟩,so.sublist (List.drop_sublist _ _),fun a ha b hb=>?_⟩
  ·rw[List.mem_singleton.mp hb]
   o⟨k,hk,rfl⟩:=List.mem_iff_getElem.mp ha;rw[List.length_take] at hk;h hk2:k<t.place.size:=by simp at hk;w
   have:=b1 k ¢;rw[get k hk2] at this;rw[List.getElem_take];!this
  ·o⟨k,hk,rfl⟩:=List.mem_iff_getElem.mp hb
   rw[List.length_drop] at hk;h hk2:below t.place j+k<t.place.size:=by simp at hk;w
   rw[List.getElem_drop];h z:=b2 (below t.place j+k) ¢ hk2;rw[get _ hk2] at z;h ne:t.place.toList[below t.place j+k]'(by u hk2)≠j:=fun e=>P.new (e ▸ List.getElem_mem _);rcases List.mem_append.mp ha with ha | ha
   ·o⟨i,hi,rfl⟩:=List.mem_iff_getElem.mp ha
    rw[List.length_take] at hi;rw[List.getElem_take];!List.pairwise_iff_getElem.mp so i (below t.place j+k) ¢ (by u hk2) ¢
   ·rw[List.mem_singleton.mp ha]
    w
theorem ADJ{t:SetTable}(T:Tab t){hs:List Int}(hl:hs.length=t.place.size)(L:Loc t hs){h:Int}{m:Nat}(hm:∀ m',m'<m->way t (t.probeStart h) m'∈t.place.toList) :
  Loc (t.put (way t (t.probeStart h) m)).1 (hs.take (t.put (way t (t.probeStart h) m)).2++[h]++hs.drop (t.put (way t (t.probeStart h) m)).2):=by
 generalize hj:way t (t.probeStart h) m=j;o⟨e,e2⟩:=Il T (j:=j);o⟨_,_,b3⟩:=FQ (j:=j) T.rise;rw[e,e2];generalize hp:below t.place j=p at *;h mem:∀ k,k∈t.place.toList->k∈(insertAt t.place p j).toList:=fun k hk=>by
  rw[BZ];rw[<- List.take_append_drop p t.place.toList] at hk;rcases List.mem_append.mp hk with hk | hk
  ·!List.mem_append_left _ (List.mem_append_left _ hk)
  ·!List.mem_append_right _ hk
 h memj:j∈(insertAt t.place p j).toList:=by
  rw[BZ];!List.mem_append_left _ (List.mem_append_right _ (List.mem_singleton.mpr rfl))
 intro idx k h' hk hh;h hk':(insertAt t.place p j).toList[idx]?=some k:=by u hk
 rw[BZ] at hk';h wy:∀(q:Probe) m,way {t with place:=insertAt t.place p j} q m=way t q m:=fun _ _=>rfl;h ps:∀ h,({t with place:=insertAt t.place p j}:SetTable).probeStart h=t.probeStart h:=fun _=>rfl;h lt:(t.place.toList.take p).length=p:=by rw[List.length_take,┄];w
 h lh:(hs.take p).length=p:=by rw[List.length_take];w
 rw[List.append_assoc] at hk' hh;h old:∀ i,t.place.toList[i]?=some k->hs[i]?=some h'->∃ m,way {t with place:=insertAt t.place p j} (({t with place:=insertAt t.place p j}:SetTable).probeStart h') m=k/\∀ m',m'<m->way {t with place:=insertAt t.place p j} (({t with place:=insertAt t.place p j}:SetTable).probeStart h') m'∈({t with place:=insertAt t.place p j}:SetTable).place.toList:=fun i a b=>by
  o⟨m,x,y⟩:=L i k h' (by rw[<- Array.getElem?_toList];!a) b;!⟨m,x,fun m' hm'=>mem _ (y m' hm')⟩
 by_cases c:idx<p
 ·rw[┆ ¢,List.getElem?_take_of_lt c] at hk' hh
  !old idx hk' hh
 ·rw[List.getElem?_append_right ¢] at hk' hh
  rw[lt] at hk';rw[lh] at hh;by_cases d:idx=p
  ·subst d
   simp at hk' hh;subst hk' hh;!⟨m,hj,fun m' hm'=>mem _ (hm m' hm')⟩
  ·rw[List.getElem?_append_right (by simp;w)] at hk' hh
   simp only[List.length_singleton,List.getElem?_drop] at hk' hh;rw[show p+(idx-p-1)=idx-1 by w] at hk' hh;!old (idx-1) hk' hh
def Bq(M i perturb:Nat):Probe:={j:=i,more:=runEnd M i-i,i:=i,perturb:=perturb,dummy:=none}
theorem Jz{M:Nat}:∀(m:Nat) (p:Probe),m<=p.more->SB.iter (step M) m p={p with j:=p.j+m,more:=p.more-m}
 | 0,p,_=>by cases p;rfl
 | m+1,p,h=>by
  h hs:step M p={p with j:=p.j+1,more:=p.more-1}:=by unfold step;rw[if_pos ¢]
  show SB.iter (step M) m (step M p)=_;rw[Jz m (step M p) (by rw[hs];show m<=p.more-1;w),hs];show ({p with j:=p.j+1+m,more:=p.more-1-m}:Probe)={p with j:=p.j+(m+1),more:=p.more-(m+1)};rw[show p.j+1+m=p.j+(m+1) by w,show p.more-1-m=p.more-(m+1) by w]
theorem Tt{M i pe:Nat}:SB.iter (step M) (runEnd M i-i+1) (Bq M i pe)=Bq M (leap M i pe).1 (leap M i pe).2:=by
 rw[YJ,Jz (runEnd M i-i) (Bq M i pe) ②];unfold step;rw[if_neg (by show ¬ (runEnd M i-i-(runEnd M i-i)>0);w)];rfl
theorem YT(M i:Nat):i<=runEnd M i:=by
 unfold runEnd;split<;>w
def wayM(M:Nat)(p:Probe)(m:Nat):Nat:=(SB.iter (step M) m p).j
theorem Xi{M:Nat}{owner:Array (Option Nat)}:∀(fuel i pe:Nat),i<=M->(∃ k,k<fuel/\owner.getD (leaps M k (i,pe)).1 (some 0)=none) ->
  ∃ m,layClean.free M owner fuel i pe=some (wayM M (Bq M i pe) m)/\owner.getD (wayM M (Bq M i pe) m) (some 0)=none/\∀ m',m'<m->(owner.getD (wayM M (Bq M i pe) m') (some 0)).isSome=true
 | 0,i,pe,_,⟨k,hk,_⟩=>absurd hk ¢
 | fuel+1,i,pe,hi,⟨k,hk,nk⟩=>by
  h ge:=YT M i;h wy:∀ m,m<=runEnd M i-i->wayM M (Bq M i pe) m=i+m:=fun m hm=>by
   unfold wayM;rw[Jz m (Bq M i pe) hm];rfl
  unfold layClean.free;cases hf:(List.range (runEnd M i+1-i)).find? fun k=>(owner.getD (i+k) (some 0)).isNone with
  | some k' =>
   have h1:=List.find?_some hf;have h2:=List.mem_range.mp (List.mem_of_find?_eq_some hf);r⟨k',?_,?_,fun m' hm'=>?_⟩
   ·rw[wy k' ¢]
   ·rw[wy k' ¢]
    u h1
   ·rw[wy m' ¢]
    o⟨_,as,bs,e,hb⟩:=List.find?_eq_some_iff_append.mp hf;have hl:as.length=k':=by
     have:(List.range (runEnd M i+1-i))[as.length]?=some k':=by rw[e];simp
     rw[List.getElem?_range (by have:=congrArg List.length e;simp at this;w)] at this;!Option.some.inj this
    have hm:m'∈as:=by
     have:(List.range (runEnd M i+1-i))[m']?=some m':=List.getElem?_range ¢;rw[e,┆ ¢] at this;!┈ this
    have:=hb m' hm;simpa [Option.isSome_iff_ne_none] using this
  | none =>
   have hn:=List.find?_eq_none.mp hf;have all:∀ m,m<=runEnd M i-i->(owner.getD (i+m) (some 0)).isSome=true:=fun m hm=>by
    have:=hn m (List.mem_range.mpr ¢);simpa [Option.isSome_iff_ne_none] using this
   have k0:k≠0:=fun z=>by
    subst z;have:=all 0 (Nat.zero_le _);have nk':owner.getD i (some 0)=none:=nk;rw[Nat.add_zero,nk'] at this;cases this
   o⟨m,h1,h2,h3⟩:=Xi fuel (leap M i pe).1 (leap M i pe).2 (IV _ _ _) ⟨k-1,by w,by
    have e:leaps M k (i,pe)=leaps M (k-1) (leap M i pe):=by
     obtain ⟨k',rfl⟩:∃ k',k=k'+1:=⟨k-1,by w⟩;rfl
    rw[e] at nk;!nk⟩
   have sh:∀ m,wayM M (Bq M (leap M i pe).1 (leap M i pe).2) m=wayM M (Bq M i pe) (runEnd M i-i+1+m):=fun m=>by
    unfold wayM;rw[CN,Tt]
   rw[sh] at h1 h2;r⟨runEnd M i-i+1+m,h1,h2,fun m' hm'=>?_⟩;by_cases c:m'<=runEnd M i-i
   ·rw[wy m' c]
    !all m' c
   ·have:=h3 (m'-(runEnd M i-i+1)) ¢
    rw[sh,show runEnd M i-i+1+(m'-(runEnd M i-i+1))=m' by w] at this;!this
structure Own(M:Nat)(owner:Array (Option Nat))(hs:List Int):Prop where
 size:owner.size=M+1
 has:∀ idx,idx<hs.length->∃ j:Nat,owner[j]?=some (some idx)
 at_:∀(j idx:Nat),owner[j]?=some (some idx)->idx<hs.length/\∃ m,wayM M (Bq M (bits (hs.getD idx 0)%(M+1)) (bits (hs.getD idx 0))) m=j/\∀ m',m'<m->(owner.getD (wayM M (Bq M (bits (hs.getD idx 0)%(M+1)) (bits (hs.getD idx 0))) m') (some 0)).isSome=true
 one:∀(j j' idx:Nat),owner[j]?=some (some idx)->owner[j']?=some (some idx)->j=j'
theorem Own.start(M:Nat):Own M (Array.replicate (M+1) none) []:=by
 h no:∀(j idx:Nat),¬ (Array.replicate (M+1) (none:Option Nat))[j]?=some (some idx):=fun j idx e=>by
  rw[Array.getElem?_replicate] at e;split at e<;>cases e
 !⟨Array.size_replicate ..,fun idx h=>absurd h ¥,fun j idx e=>absurd e (no j idx),fun j _ idx e=>absurd e (no j idx)⟩
theorem Own.free{M:Nat}{owner:Array (Option Nat)}{hs:List Int}(O:Own M owner hs)(h:hs.length<=M):∃ j,j<M+1/\owner.getD j (some 0)=none:=by
 r Classical.byContradiction fun c=>?_;h all:∀ j,j<M+1->∃ idx,owner[j]?=some (some idx):=fun j hj=>by
  h hj':j<owner.size:=by rw[O.size];!hj
  cases e:owner[j] with
  | none=>!absurd ⟨j,hj,by simp[Array.getD,hj',e]⟩ c
  | some idx=>!⟨idx,by rw[┋ hj',e]⟩
 h key:∀ n,n<=M+1->∃ l:List Nat,l.length=n/\l.Nodup/\∀ x∈l,∃ j,j<n/\owner[j]?=some (some x):=by
  intro n
  induction n with
  | zero=>!fun _=>⟨[],rfl,List.nodup_nil,fun x hx=>by cases hx⟩
  | succ n ih =>
   intro hn;o⟨l,l1,l2,l3⟩:=ih ¢;o⟨idx,e⟩:=all n ¢;r⟨idx::l,by simp[l1],List.nodup_cons.mpr ⟨fun hm=>?_,l2⟩,fun x hx=>?_⟩
   ·o⟨j,hj,ej⟩:=l3 idx hm
    have:=O.one _ _ _ ej e;w
   ·rcases ┃ hx with rfl | hx
    ·!⟨n,by w,e⟩
    ·o⟨j,hj,ej⟩:=l3 x hx
     !⟨j,by w,ej⟩
 o⟨l,l1,l2,l3⟩:=key (M+1) ②;have:=Bx (l₂:=List.range hs.length) l2 fun x hx=>by
  o⟨j,_,ej⟩:=l3 x hx;!List.mem_range.mpr (O.at_ j x ej).1
 rw[List.length_range] at this;w
theorem Qz{M:Nat}:∀(k:Nat) (x:Nat×Nat),x.1<=M->(leaps M k x).1<=M
 | 0,x,h=>h
 | k+1,x,h=>Qz k (leap M x.1 x.2) (IV _ _ _)
theorem YF{M:Nat}(a b:Nat)(x:Nat×Nat):leaps M (a+b) x=leaps M b (leaps M a x):=CN _ a b x
theorem Own.next{M:Nat}{owner:Array (Option Nat)}{hs:List Int}(hM:Mask M)(O:Own M owner hs)(hl:hs.length<=M)(h:Int) :
  ∃ j,layClean.free M owner (turns M) (bits h%(M+1)) (bits h)=some j/\Own M (owner.setIfInBounds j (some hs.length)) (hs++[h]):=by
 o⟨f,hf,nf⟩:=O.free hl;h hi:bits h%(M+1)<=M:=by
  have:=Nat.mod_lt (bits h) (show 0<M+1 by w);w
 h reach:∃ k,k<turns M/\owner.getD (leaps M k (bits h%(M+1),bits h)).1 (some 0)=none:=by
  h p13:(leaps M 13 (bits h%(M+1),bits h)).2=0:=by
   rw[Er];!Nat.div_eq_of_lt (Nat.lt_of_lt_of_le (Qe h) ¤)
  h i13:=Qz (M:=M) 13 (bits h%(M+1),bits h) hi;o⟨k,hk,ek⟩:=Wf hM (i:=(leaps M 13 (bits h%(M+1),bits h)).1) (j:=f) ¢ hf;r⟨13+k,by unfold turns;w,?_⟩;h e:leaps M 13 (bits h%(M+1),bits h)=((leaps M 13 (bits h%(M+1),bits h)).1,0):=Prod.ext rfl p13;rw[YF,e,HD,ek];!nf
 o⟨m,h1,h2,h3⟩:=Xi (M:=M) (owner:=owner) (turns M) _ (bits h) hi reach;r⟨_,h1,?_⟩;generalize hj:wayM M (Bq M (bits h%(M+1)) (bits h)) m=j at h2;h hjs:j<owner.size:=by
  r Classical.byContradiction fun c=>?_;have:owner.getD j (some 0)=some 0:=by simp[Array.getD,c]
  rw[this] at h2;cases h2
 h hjn:owner[j]?=some none:=by
  rw[┋ hjs];simp[Array.getD,hjs] at h2;rw[h2]
 h get:∀ k,(owner.setIfInBounds j (some hs.length))[k]?=if k=j then some (some hs.length) else owner[k]?:=fun k=>by
  rw[Array.getElem?_setIfInBounds];by_cases c:j=k
  ·subst c
   simp[hjs]
  ·rw[if_neg c,if_neg (Ne.symm c)]
 h some_of:∀ k,(owner.getD k (some 0)).isSome=true->((owner.setIfInBounds j (some hs.length)).getD k (some 0)).isSome=true:=fun k hk=>by
  rw[Array.getD_eq_getD_getElem?,get];split
  ·rfl
  ·rw[Array.getD_eq_getD_getElem?] at hk
   !hk
 h gd:∀ idx,idx<hs.length->(hs++[h]).getD idx 0=hs.getD idx 0:=fun idx hi=>by
  rw[¯,¯,┆ hi]
 h gl:(hs++[h]).getD hs.length 0=h:=by rw[¯];simp
 r⟨by rw[Array.size_setIfInBounds];!O.size,fun idx hi=>?_,fun k idx e=>?_,fun k k' idx e e'=>?_⟩
 ·by_cases c:idx<hs.length
  ·o⟨k,ek⟩:=O.has idx c
   r⟨k,?_⟩;rw[get,if_neg (fun z=>by rw[z,hjn] at ek;cases ek)];!ek
  ·have:idx=hs.length:=by simp at hi;w
   !⟨j,by rw[get,if_pos rfl,this]⟩
 ·rw[get] at e
  by_cases c:k=j
  ·rw[if_pos c] at e
   have:hs.length=idx:=by u e
   subst this;r⟨by simp,m,?_,fun m' hm'=>?_⟩
   ·rw[gl,hj,c]
   ·rw[gl]
    !some_of _ (h3 m' hm')
  ·rw[if_neg c] at e
   o⟨i1,m1,w1,w2⟩:=O.at_ k idx e;r⟨by simp;w,m1,?_,fun m' hm'=>?_⟩
   ·rw[gd idx i1];!w1
   ·rw[gd idx i1];!some_of _ (w2 m' hm')
 ·rw[get] at e e'
  by_cases c:k=j
  ·by_cases c':k'=j
   ·rw[c,c']
   ·rw[if_pos c] at e
    rw[if_neg c'] at e';have:hs.length=idx:=by u e
    have:=(O.at_ k' idx e').1;w
  ·by_cases c':k'=j
   ·rw[if_neg c] at e
    rw[if_pos c'] at e';have:hs.length=idx:=by u e'
    have:=(O.at_ k idx e).1;w
   ·rw[if_neg c] at e
    rw[if_neg c'] at e';!O.one _ _ _ e e'
theorem AAL{M:Nat}(hM:Mask M){hashes:Array Int}(h:hashes.size<=M):∃ owner,layClean M hashes=some owner/\Own M owner hashes.toList:=by
 unfold layClean;rw[<- Array.foldl_toList];h key:∀(l done:List Int) (owner:Array (Option Nat)),Own M owner done->done.length+l.length<=M ->
   ∃ owner',(l.foldl (fun acc h=>do
    let (owner,k) <- acc
    let j <- layClean.free M owner (turns M) (bits h%(M+1)) (bits h)
    pure (owner.setIfInBounds j (some k),k+1)) (some (owner,done.length)))=some (owner',done.length+l.length)/\Own M owner' (done++l):=by
  intro l
  induction l with
  | nil=>!fun done owner O _=>⟨owner,rfl,by rw[List.append_nil];!O⟩
  | cons a t ih =>
   intro done owner O hl;simp at hl;o⟨j,ej,O'⟩:=O.next hM ¢ a
   o⟨owner',e,O''⟩:=ih (done++[a]) _ O' (by simp;w);r⟨owner',?_,by u O''⟩;rw[List.foldl_cons];have:(do
    let (owner,k) <- some (owner,done.length)
    let j <- layClean.free M owner (turns M) (bits a%(M+1)) (bits a)
    pure (owner.setIfInBounds j (some k),k+1))=some (owner.setIfInBounds j (some done.length),done.length+1):=by
    show (do
     let j <- layClean.free M owner (turns M) (bits a%(M+1)) (bits a)
     pure (owner.setIfInBounds j (some done.length),done.length+1))=_
    rw[ej];rfl
   rw[this];rw[show (done++[a]).length=done.length+1 by simp] at e;rw[e];simp;w
 o⟨owner',e,O⟩:=key hashes.toList [] _ (Own.start M) (by u h);r⟨owner',?_,by u O⟩;h e':=congrArg (Option.map Prod.fst) e;!e'
def pairs(owner:Array (Option Nat))(l:List Nat):List (Nat×Nat):=l.filterMap fun j=>(owner.getD j none).map (j,·)
theorem Iv{owner:Array (Option Nat)}{l:List Nat}{j idx:Nat}:(j,idx)∈pairs owner l↔j∈l/\owner.getD j none=some idx:=by
 unfold pairs;rw[List.mem_filterMap];constructor
 ·rintro⟨k,hk,e⟩
  cases o:owner.getD k none with
  | none=>rw[o] at e;cases e
  | some x =>
   rw[o] at e;h e':(k,x)=(j,idx):=Option.some.inj e;cases e';!⟨hk,o⟩
 ·rintro⟨hj,e⟩
  !⟨j,hj,by rw[e];rfl⟩
theorem Lf{owner:Array (Option Nat)}:∀{l:List Nat},l.Pairwise (· < ·)->((pairs owner l).map (·.1)).Pairwise (· < ·)
 | [],_=>.nil
 | a::t,h=>by
  o⟨h1,h2⟩:=List.pairwise_cons.mp h;h ih:=Lf (owner:=owner) h2;unfold pairs;rw[List.filterMap_cons];cases o:owner.getD a none with
  | none=>!ih
  | some x =>
   show ((a,x)::pairs owner t |>.map (·.1)).Pairwise (· < ·);rw[List.map_cons];r List.pairwise_cons.mpr ⟨fun b hb=>?_,ih⟩;o⟨⟨b',i⟩,hm,rfl⟩:=List.mem_map.mp hb;!h1 b' (Iv.mp hm).1
theorem Ga:∀{l₁ l₂:List Nat},l₁.Nodup->(∀ x∈l₁,x∈l₂)->l₂.length<=l₁.length->l₁.Perm l₂
 | [],l₂,_,_,h=>by
  have:l₂=[]:=List.length_eq_zero_iff.mp (by u h);rw[this]
 | a::t,l₂,nd,hs,h=>by
  o⟨n1,n2⟩:=List.nodup_cons.mp nd;h ha:a∈l₂:=hs a ´;h hp:=List.perm_cons_erase ha;h hl:(l₂.erase a).length=l₂.length-1:=List.length_erase_of_mem ha;h ih:=Ga (l₂:=l₂.erase a) n2 (fun x hx=>(List.mem_erase_of_ne (fun(e:x=a)=>n1 (by rw[<- e];!hx))).mpr (hs x (¶ _ hx))) (by simp at h;w);!(List.Perm.cons a ih).trans hp.symm
theorem ADl{M:Nat}(hM:Mask M){hashes:Array Int}(h:hashes.size<=M)(finger moves:Nat)(led plain:Bool) :
  ∃(place order:Array Nat),laid M finger moves led plain hashes=some ({mask:=M,place:=place,dummies:=#[],finger:=finger,led:=led,moves:=moves,plain:=plain},order) /\
   Tab {mask:=M,place:=place,dummies:=#[],finger:=finger,led:=led,moves:=moves,plain:=plain}/\place.size=hashes.size/\order.toList.Perm (List.range hashes.size) /\
   Loc {mask:=M,place:=place,dummies:=#[],finger:=finger,led:=led,moves:=moves,plain:=plain} (order.toList.map fun i=>hashes.toList.getD i 0):=by
 o⟨owner,e,O⟩:=AAL hM h;h gd:∀ j idx,owner.getD j none=some idx↔owner[j]?=some (some idx):=fun j idx=>by
  rw[Array.getD_eq_getD_getElem?];cases o:owner[j]? with
  | none=>simp
  | some x=>simp
 h rl:=List.pairwise_lt_range (n:=M+1);h rise:=Lf (owner:=owner) rl;h mem:∀ j idx,(j,idx)∈pairs owner (List.range (M+1))↔owner[j]?=some (some idx):=fun j idx=>by
  rw[Iv,gd];r⟨fun z=>z.2,fun z=>⟨List.mem_range.mpr ?_,z⟩⟩;have:=(Array.getElem?_eq_some_iff.mp z).1;rw[O.size] at this;!this
 h nd:(⑮.map (·.2)).Nodup:=by
  h r:=List.pairwise_map.mp rise;r List.pairwise_map.mpr (r.imp_of_mem fun {a b} ha hb lt z=>?_);o⟨a1,a2⟩:=a;o⟨b1,b2⟩:=b;h z':a2=b2:=z;subst z';have:=O.one _ _ _ ((mem a1 a2).mp ha) ((mem b1 a2).mp hb);simp at lt;w
 h sub:∀ x∈⑮.map (·.2),x∈List.range hashes.size:=fun x hx=>by
  o⟨⟨j,i⟩,hm,rfl⟩:=List.mem_map.mp hx;have:=(O.at_ j i ((mem j i).mp hm)).1;!List.mem_range.mpr (by u this)
 h sup:∀ x∈List.range hashes.size,x∈⑮.map (·.2):=fun x hx=>by
  o⟨j,ej⟩:=O.has x (by u hx);!List.mem_map.mpr ⟨(j,x),(mem j x).mpr ej,rfl⟩
 h l1:=Bx List.nodup_range sup;h l2:=Bx nd sub;rw[List.length_range] at l1 l2;h perm:=Ga nd sub (by rw[List.length_range];!l1);h ll:⑮.length=hashes.size:=by
  rw[─] at l1 l2;w
 r⟨(⑮.map (·.1)).toArray,(⑮.map (·.2)).toArray,?_,?_,?_,?_,?_⟩
 ·unfold laid
  rw[e];rfl
 ·r⟨hM,rfl,?_,fun j hj=>?_,?_⟩
  ·show (⑮.map (·.1)).toArray.size<=M
   rw[┌,─,ll];!h
  ·h hj':j∈⑮.map (·.1):=hj
   o⟨⟨k,i⟩,hm,rfl⟩:=List.mem_map.mp hj';have:=List.mem_range.mp (Iv.mp hm).1;show k<=M;w
  ·!rise
 ·rw[┌,─,ll]
 ·!perm
 ·intro idx j hh hj hh'
  h hj':(⑮.map (·.1))[idx]?=some j:=by u hj
  h hh2:((⑮.map (·.2)).map fun i=>hashes.toList.getD i 0)[idx]?=some hh:=hh';rw[┉] at hj';rw[┉,┉] at hh2;cases o:⑮[idx]? with
  | none=>rw[o] at hj';cases hj'
  | some x =>
   o⟨k,i⟩:=x;rw[o] at hj' hh2;h ek:k=j:=Option.some.inj hj';h ei:hashes.toList.getD i 0=hh:=Option.some.inj hh2;subst ek;o⟨_,m,w1,w2⟩:=O.at_ k i ((mem k i).mp (┈ o));rw[ei] at w1 w2;r⟨m,w1,fun m' hm'=>?_⟩;h z:=w2 m' hm';h hb:bits hh%(M+1)<=M:=by
    have:=Nat.mod_lt (bits hh) (show 0<M+1 by w);w
   h fine:Fine M (Bq M (bits hh%(M+1)) (bits hh)):=⟨QG _ _,hb,hb,Vj hb,rfl⟩;h wl:wayM M (Bq M (bits hh%(M+1)) (bits hh)) m'<=M:=(fine.iter m').j;show wayM M (Bq M (bits hh%(M+1)) (bits hh)) m'∈⑮.map (·.1);generalize wayM M (Bq M (bits hh%(M+1)) (bits hh)) m'=wv at z wl;h hw:wv<owner.size:=by rw[O.size];w
   cases q:owner[wv] with
   | none =>
    have:owner.getD wv (some 0)=none:=by simp[Array.getD,hw,q]
    rw[this] at z;cases z
   | some i'=>!List.mem_map.mpr ⟨(wv,i'),(mem wv i').mpr (by rw[┋ hw,q]),rfl⟩
section
variable{prog:Program}{w:World}{A:Around}{E:Value->Shared->Prop}{s:Shared}
abbrev IK(prog:Program)(w:World)(h:Heap)(ks:List Int)(a:Addr):Prop:=IsTupleKey (intKind prog w) h ks a
abbrev hsh(prog:Program)(w:World)(ks:List Int):Int:=tupleKeyHash (intKind prog w) ks
theorem Qo{ks:List Int}{vs:List Value}(h:ItemsAre (intKind prog w) ks vs):∀ v∈vs,∃ n t,v=.int n t:=by
 induction h with
 | nil=>intro v hv;cases hv
 | cons h1 _ ih =>
  intro v hv;rcases ┃ hv with rfl | hv
  ·o⟨t,e⟩:=Value.isInt_shape h1
   !⟨_,t,e⟩
  ·!ih v hv
theorem ACq{ks:List Int}{a:Addr}{Q:Bool->Shared->Prop}(hk:IK prog w s.heap ks a)(h:Q true s):wpAny ① A (hashByValue 8 (.ref a)) Q E s:=by
 h hT:=hk.typeIs;o⟨o,items,n,ho,_,hd,hi⟩:=hk;h allI:=Qo hi;unfold hashByValue;b(wpAny_specialOf hT F.slot_tuple_hash.lookup ?_);show wpAny _ _ (seqItems? (.ref a) >>= _) _ _ s;b(wpAny_seqItems ho hd ?_);r wpAny_bind ?_;show wpAny _ _ (forIn items _ _) _ _ s;rw[<- Array.forIn_toList];r wpAny_forIn_list _ (fun rest r s'=>r.1=none/\s'=s/\∀ v∈rest,∃ n t,v=Value.int n t) _ ?_ ?_ _ _ ⟨rfl,rfl,allI⟩
 ·rintro v rest r s' ⟨hr,rfl,hall⟩
  o⟨n,t,rfl⟩:=hall v ´;b(wpAny_pure ?_);simp only[Bool.not_true,Bool.false_eq_true,if_false];!wpAny_pure ⟨rfl,rfl,fun u hu'=>hall u (¶ _ hu')⟩
 ·rintro⟨r1,r2⟩ s' ⟨hr,rfl,_⟩
  simp only at hr;subst hr;!wpAny_pure h
theorem RP{ks:List Int}{a:Addr}{Q:Bool->Shared->Prop}(hk:IK prog w s.heap ks a)(h:Q false s):wpAny ① A (ofAClassStatement 8 (.ref a)) Q E s:=by
 h hT:=hk.typeIs;o⟨o,items,n,ho,_,hd,hi⟩:=hk;h allI:=Qo hi;unfold ofAClassStatement;b(wpAny_typeOf hT ?_);show wpAny _ _ ((if ("tuple" == "tuple")=true then pure true else isSubtype (.type "tuple") (.type "tuple")) >>= _) _ _ s;rw[if_pos ¤];b(wpAny_pure ?_);simp only[Bool.not_true,Bool.false_eq_true,if_false];b(wpAny_seqItems ho hd ?_);show wpAny _ _ (forIn items _ _ >>= _) _ _ s;r wpAny_bind ?_;rw[<- Array.forIn_toList];r wpAny_forIn_list _ (fun rest r s'=>r.1=none/\s'=s/\∀ v∈rest,∃ n t,v=Value.int n t) _ ?_ ?_ _ _ ⟨rfl,rfl,allI⟩
 ·rintro v rest r s' ⟨hr,rfl,hall⟩
  o⟨n,t,rfl⟩:=hall v ´;b(wpAny_pure ?_);simp only[Bool.false_eq_true,if_false];!wpAny_pure ⟨rfl,rfl,fun u hu'=>hall u (¶ _ hu')⟩
 ·rintro⟨r1,r2⟩ s' ⟨hr,rfl,_⟩
  simp only at hr;subst hr;!wpAny_pure h
theorem ABV{ks:List Int}{a:Addr}{Q:Bool->Shared->Prop}(hk:IK prog w s.heap ks a)(stored:List Value)(hst:∀ v∈stored,∃ k b,v=.ref b/\IK prog w s.heap k b)(h:Q false s):wpAny ① A (searchCouldBeSeen (.ref a) stored) Q E s:=by
 unfold searchCouldBeSeen;r wpAny_bind ?_;r wpAny_forIn_list _ (fun rest r s'=>r.1=none/\s'=s/\∀ v∈rest,∃ k b,v=Value.ref b/\IK prog w s.heap k b) _ ?_ ?_ _ _ ⟨rfl,rfl,hst⟩
 ·rintro v rest r s' ⟨hr,rfl,hall⟩
  h tl:∀ u∈rest,∃ k b,u=Value.ref b/\IK prog w s'.heap k b:=fun u hu'=>hall u (¶ _ hu');o⟨k,b,rfl,hb⟩:=hall v ´;dsimp only;by_cases c:(a==b)=true
  ·rw[if_pos (by rw[c];rfl)]
   !wpAny_pure ⟨rfl,rfl,tl⟩
  ·rw[if_neg (by simp[c,carriedByValue])]
   b(wpAny_eqIsQuiet_tuple hk ?_);simp only[Bool.not_true,Bool.false_eq_true,if_false];b(wpAny_eqIsQuiet_tuple hb ?_);simp only[Bool.not_true,Bool.false_eq_true,if_false];b(RP hk ?_);simp only[Bool.false_eq_true,if_false];b(RP hb ?_);simp only[Bool.false_eq_true,if_false];!wpAny_pure ⟨rfl,rfl,tl⟩
 ·rintro⟨r1,r2⟩ s' ⟨hr,rfl,_⟩
  simp only at hr;subst hr;!wpAny_pure h
end
theorem Uh{P:Nat->Prop}:∀(m:Nat),P m->∃ n,P n/\∀ n',n'<n->¬ P n':=by
 intro m
 induction m using Nat.strongRecOn with
 | ind m ih =>
  intro h;by_cases c:∃ n,n<m/\P n
  ·o⟨n,hn,hp⟩:=c
   !ih n hn hp
  ·!⟨m,h,fun n' hn' hp=>c ⟨n',hn',hp⟩⟩
def ledOf(w:World):Bool:=!w.params.followText "set-order"
structure TS(prog:Program)(w:World)(h:Heap)(S:Addr)(es:Array (Int×Value))(t:SetTable)(ks:List ⑫):Prop where
 obj:∃ o ep,h.get? S=some o/\o.ExactSet/\o.data=.set es ep t
 tab:Tab t
 len:es.size=t.place.size
 loc:Loc t (es.toList.map (·.1))
 els:es.toList=ks.map fun x=>(hsh prog w x.1,Value.ref x.2)
 nd:(ks.map (·.1)).Nodup
 few:t.place.size*5<t.mask*3
 pl:t.plain=true
 ld:t.led=ledOf w
theorem Wo{t:SetTable}(T:Tab t):t.fill=t.place.size:=by unfold fill;rw[T.none];rfl
theorem Gk{t:SetTable}(T:Tab t){n:Nat}(e:n=t.place.size):t.fits n=true:=by
 unfold SetTable.fits;rw[Wo T,e];have:=T.size;simp[this]
section
variable{prog:Program}{w:World}{A:Around}{E:Value->Shared->Prop}{s:Shared}{S:Addr}{es:Array (Int×Value)}{t:SetTable}{ks:List ⑫}
theorem TS.at_{h:Heap}(X:TS prog w h S es t ks){i:Nat}{j:Nat}(hi:t.place[i]?=some j):∃ x,ks[i]?=some x/\es[i]?=some (hsh prog w x.1,Value.ref x.2):=by
 h hl:=(Array.getElem?_eq_some_iff.mp hi).1;h hle:i<es.toList.length:=by rw[┄,X.len];!hl
 cases o:ks[i]? with
 | none =>
  have l2:=congrArg List.length X.els;rw[─] at l2;have:=List.getElem?_eq_none_iff.mp o;w
 | some x =>
  r⟨x,rfl,?_⟩;rw[<- Array.getElem?_toList,X.els,┉,o];rfl
theorem NT{t:SetTable}(T:Tab t){i i' j:Nat}(h:t.place[i]?=some j)(h':t.place[i']?=some j):i=i':=by
 o⟨a,ea⟩:=Array.getElem?_eq_some_iff.mp h;o⟨b,eb⟩:=Array.getElem?_eq_some_iff.mp h';h r:=List.pairwise_iff_getElem.mp T.rise;rcases Nat.lt_trichotomy i i' with c | c | c
 ·have:=r i i' (by u a) (by u b) c
  simp at this;w
 ·!c
 ·have:=r i' i (by u b) (by u a) c
  simp at this;w
theorem YS{k:List Int}{a:Addr}(X:TS prog w s.heap S es t ks)(hK:∀ x∈ks,IK prog w s.heap x.1 x.2)(hk:IK prog w s.heap k a)(hu:A.units<cLine){N:Nat}
  (hN:way t ⑩ N∉t.place.toList) (hB:∀ m,m<N->way t ⑩ m∈t.place.toList) {Q:SetFound->Shared->Prop}
  (h1:k∈ks.map (·.1)->Q (.there none) s) (h2:k∉ks.map (·.1)->Q (.free (way t ⑩ N) false) s) :
  ∀(fuel c:Nat) (stand:Option Probe),c<=N->N-c<fuel->stand.getD ⑩=SB.iter (step t.mask) c ⑩ ->
   (∀ m,m<c->∀(i:Nat) (x:List Int×Addr),t.place[i]?=some (way t ⑩ m)->ks[i]?=some x->x.1≠k) ->
   wpAny ① A (setSearchFrom S (.ref a) (hsh prog w k) true fuel stand) Q E s:=by
 o⟨o,ep,ho,hex,hd⟩:=X.obj;h hf:=Gk X.tab X.len;intro fuel
 induction fuel with
 | zero=>intro c stand _ h;w
 | succ fuel ih =>
  intro c stand hc hfu hst hV;unfold setSearchFrom;b(wpAny_setState_of ho hd hf ?_);dsimp only;h hg:t.gaveWay=false:=by
   unfold SetTable.gaveWay;rcases X.tab.mask with e | e | e | e<;>rw[e]<;>decide
  rw[hg];simp only[Bool.false_eq_true,if_false];h fine:Fine t.mask (SB.iter (step t.mask) c ⑩):=(Fine.start t _).iter c;h hb:(SB.iter (step t.mask) c ⑩).perturb<2 ^ 64:=Nat.lt_of_le_of_lt (Ky c _) (Qe _);o⟨m,hm,hcase⟩:=AAT X.tab (hashAt:=fun i=>(es[i]?.map (·.1)).getD 0) (h:=hsh prog w k) fine hb;h wy:∀ m,way t (SB.iter (step t.mask) c ⑩) m=way t ⑩ (c+m):=fun m=>by
   unfold way;rw[CN]
  h inpl:∀{i j:Nat},t.place[i]?=some j->j∈t.place.toList:=fun {i j} e=>by
   rw[List.mem_iff_getElem?];!⟨i,by rw[Array.getElem?_toList];!e⟩
  h hV':∀ m',m'<c+m->∀(i:Nat) (x:List Int×Addr),t.place[i]?=some (way t ⑩ m')->ks[i]?=some x->x.1≠k:=fun m' hm' i x hi hx ek=>by
   by_cases z:m'<c
   ·!hV m' z i x hi hx ek
   ·o⟨i',hi',hne⟩:=hm (m'-c) ¢
    rw[wy,show c+(m'-c)=m' by w] at hi';have:=NT X.tab hi hi';subst this;o⟨y,hy,ey⟩:=X.at_ hi;rw[hx] at hy;cases hy;r hne ?_;show ((es[i]?.map (·.1)).getD 0)=_;rw[ey,<- ek];rfl
  h ltN:way t ⑩ (c+m)∈t.place.toList->c+m<N:=fun z=>by
   r Classical.byContradiction fun zz=>?_;by_cases q:c+m=N
   ·rw[q] at z;!hN z
   ·o⟨i',hi',_⟩:=hm (N-c) ¢
    rw[wy,show c+(N-c)=N by w] at hi';!hN (inpl hi')
  split
  ·rename_i met heq
   rw[hst] at heq;rcases hcase with⟨hne,e⟩ | ⟨i,hi,hsl,hhash,e⟩
   ·obtain rfl:=Option.some.inj (heq.symm.trans e)
    dsimp only;h hcN:c+m=N:=by
     rw[wy] at hne;r Classical.byContradiction fun q=>?_;by_cases z:c+m<N
     ·!hne (hB _ z)
     ·o⟨i',hi',_⟩:=hm (N-c) ¢
      rw[wy,show c+(N-c)=N by w] at hi';!hN (inpl hi')
    rw[wy,hcN];r wpAny_pure (h2 fun hmem=>?_);o⟨x,hx,ex⟩:=List.mem_map.mp hmem;o⟨i,hi⟩:=List.mem_iff_getElem?.mp hx;h hil:i<t.place.size:=by
     h l1:=(━ hi).1;h l2:=congrArg List.length X.els;rw[─,┄,X.len] at l2;w
    o⟨m1,w1,w2⟩:=X.loc i t.place[i] (hsh prog w x.1) (┋ hil) (by rw[X.els,List.map_map,┉,hi];rfl);rw[ex] at w1 w2;h hm1:m1<N:=by
     r Classical.byContradiction fun q=>?_;by_cases z:m1=N
     ·subst z
      rw[w1] at hN;!hN (inpl (┋ hil))
     ·!hN (w2 N ¢)
    !hV' m1 ¢ i x (by rw[w1];!┋ hil) hi ex
   ·obtain rfl:=Option.some.inj (heq.symm.trans e)
    dsimp only;rw[wy] at hi hsl ⊢;h hlt:=ltN (inpl hi);o⟨x,hx,hes⟩:=X.at_ hi;h hxb:=hK x (┈ hx);h tail:wpAny ① A (do
      let some (_,y):=es[i]? | unsupported "internal:set-entry"
      let equal <- holding [y] (eqBool y (.ref a))
      let (es',_,t') <- setState S
      if true&&equal then return .there none
      let some same:=t'.sameMemory t.moves t.mask | unsupported "set.changed-during-lookup:is-the-new-block-at-the-old-address"
      let still <- match (if same then t'.slot (way t ⑩ (c+m)) else .empty) with
       | .live i'=>match es'[i']? with
        | some (_,y')=>do pure (if <- isSame y' y then some i' else none)
        | none=>pure none
       | _=>pure none
      match still with
      | none=>rule "set.search.anew";setSearchFrom S (.ref a) (hsh prog w k) true fuel none
      | some i'=>if equal then return .there (some i') else setSearchFrom S (.ref a) (hsh prog w k) true fuel (some (SB.iter (step t.mask) (m+1) (SB.iter (step t.mask) c ⑩)))) Q E s:=by
     rw[hes];dsimp only;b(wpAny_holding (wpAny_eqBool_tuple hu hxb hk ?_));b(wpAny_setState_of ho hd hf ?_);dsimp only;by_cases ek:x.1=k
     ·rw[decide_eq_true ek]
      simp only[Bool.and_self,if_true];!wpAny_pure (h1 (List.mem_map.mpr ⟨x,┈ hx,ek⟩))
     ·rw[decide_eq_false ek]
      simp only[Bool.and_false,Bool.false_eq_true,if_false];h sm:t.sameMemory t.moves t.mask=some true:=by unfold sameMemory;simp
      rw[sm];dsimp only;simp only[if_true,hsl];rw[hes];dsimp only;b(wpAny_isSame_ref_self ?_);simp only[if_true];b(wpAny_pure ?_);dsimp only;r ih (c+m+1) _ ¢ ¢ ?_ ?_
      ·show SB.iter (step t.mask) (m+1) (SB.iter (step t.mask) c ⑩)=_
       rw[<- CN];rfl
      ·intro m' hm' i' x' hi' hx' ek'
       by_cases z:m'<c+m
       ·!hV' m' z i' x' hi' hx' ek'
       ·have:m'=c+m:=by w
        subst this;have:=NT X.tab hi hi';subst this;rw[hx] at hx';cases hx';!ek ek'
    cases hled:t.led with
    | true =>
     simp only[Bool.not_true,Bool.false_eq_true,if_false];!tail
    | false =>
     simp only[Bool.not_false,if_true];b(ABV hk _ ?_ ?_)
     ·intro v hv
      o⟨e',he',rfl⟩:=List.mem_map.mp hv;h he2:e'∈es.toList:=by
       have:e'∈es/\e'.fst=hsh prog w k:=by u he'
       u this.1
      rw[X.els] at he2;o⟨y,hy,rfl⟩:=List.mem_map.mp he2;!⟨y.1,y.2,rfl,hK y hy⟩
     ·simp only[Bool.false_eq_true,if_false]
      !tail
  ·rename_i hno
   rcases hcase with⟨_,e⟩ | ⟨i,_,_,_,e⟩
   ·!(hno _ (by rw[hst];!e)).elim
   ·!(hno _ (by rw[hst];!e)).elim
end
theorem Ho{α:Type}{l:List α}(d:α):∀{order:List Nat},(∀ i∈order,i<l.length)->order.filterMap (fun i=>l[i]?)=order.map fun i=>l.getD i d
 | [],_=>rfl
 | i::r,h=>by
  h hi:=h i ´;rw[List.filterMap_cons,± hi,List.map_cons,Ho d fun j hj=>h j (¶ _ hj)];simp[¯,hi]
theorem Ud{α:Type}(l:List α):(List.range l.length).filterMap (fun i=>l[i]?)=l:=by
 cases l with
 | nil=>rfl
 | cons d r =>
  rw[Ho d fun i hi=>List.mem_range.mp hi];apply List.ext_getElem?;intro i;by_cases hi:i<(d::r).length
  ·rw[┉,List.getElem?_range hi,± hi]
   show some ((d::r).getD i d)=_;rw[¯,± hi];rfl
  ·rw[List.getElem?_eq_none (by u hi),List.getElem?_eq_none ¢]
theorem Iz{α:Type}{l:List α}{order:List Nat}(h:order.Perm (List.range l.length)):(order.filterMap fun i=>l[i]?).Perm l:=by
 have:=h.filterMap fun i=>l[i]?;rw[Ud] at this;!this
section
variable{prog:Program}{w:World}{A:Around}{E:Value->Shared->Prop}{s:Shared}{S:Addr}{es:Array (Int×Value)}{t:SetTable}{ks:List ⑫}
theorem stored{h:Heap}{o:Obj}{ep:Nat}(ho:h.get? S=some o)(hex:o.ExactSet)(hd:o.data=.set es ep t)(es':Array (Int×Value))(t':SetTable) :
  ∃ o' ep',(h.update S (Obj.putSet es' t')).get? S=some o'/\o'.ExactSet/\o'.data=.set es' ep' t':=by
 h hg:(h.update S (Obj.putSet es' t')).get? S=some {o with data:=.set es' (ep+1) t'}:=by
  have:=Heap.get?_update_self (Obj.putSet es' t') ho (by rw[putSet_of es' t' hd];rfl);rw[putSet_of es' t' hd] at this;!this
 !⟨_,_,hg,hex,rfl⟩
theorem AAj{h:Heap}(hs:s.heap=h){o:Obj}{ep:Nat}(ho:h.get? S=some o)(hex:o.ExactSet)(hd:o.data=.set es ep t)(T:Tab t)(hl:es.size=t.place.size)(hel:es.toList=ks.map fun x=>(hsh prog w x.1,Value.ref x.2))
  (nd:(ks.map (·.1)).Nodup) (hfull:t.mask*3<=t.place.size*5) (hfew:(t.place.size-1)*5<t.mask*3) (h61:ks.length<=301) (hpl:t.plain=true) (hld:t.led=ledOf w) {Q:Unit->Shared->Prop}
  (q:∀ h' es' t' ks',Heap.SameBut S h h'->TS prog w h' S es' t' ks'->ks'.Perm ks->Q () {s with heap:=h'}) :
  wpAny ① A (setRelay S (grown es.size)) Q E s:=by
 subst hs;h hks:ks.length=es.size:=by
  have:=congrArg List.length hel;rw[─,┄] at this;!this.symm
 h key:∃ M,sizeAbove (grown es.size)=M+1/\Mask M/\es.size<=M/\es.size*5<M*3:=by
  rcases T.mask with e | e | e | e
  ·have:es.size=5:=by rw[e] at hfull hfew;w
   rw[this];!⟨31,by decide,.inr (.inl rfl),by decide,by decide⟩
  ·have:es.size=19:=by rw[e] at hfull hfew;w
   rw[this];!⟨127,by decide,.inr (.inr (.inl rfl)),by decide,by decide⟩
  ·have:es.size=77:=by rw[e] at hfull hfew;w
   rw[this];!⟨511,by decide,.inr (.inr (.inr rfl)),by decide,by decide⟩
  ·rw[e] at hfull
   w
 o⟨M,eM,hM,hle,hfew'⟩:=key;unfold setRelay;b(wpAny_setState_of ho hd (Gk T hl) ?_);dsimp only;h hz:¬ (sizeAbove (grown es.size)>sizeLine):=by
  rw[eM,sizeLine_eq];rcases hM with e | e | e | e<;>w
 rw[if_neg hz];o⟨place,order,el,T2,hps,hpo,L2⟩:=ADl hM (hashes:=es.map (·.1)) (by u hle) t.finger (t.movedTo M) t.led t.plain;h erl:t.relaid (es.map (·.1)) (grown es.size)=some ({mask:=M,place:=place,dummies:=#[],finger:=t.finger,led:=t.led,moves:=t.movedTo M,plain:=t.plain},order):=by
  unfold relaid;rw[eM];!el
 r wpAny_bind ?_;show wpAny _ _ (do
  let some (t,order):=t.relaid (es.map (·.1)) (grown es.size) | unsupported "internal:set-table-without-room"
  let es':=order.filterMap (es[·]?)
  if es'.size != es.size then unsupported "internal:set-table-lost-an-element"
  pure (es',t)) _ _ _
 rw[erl];dsimp only;h hsz:(es.map (·.1)).size=es.toList.length:=by simp
 rw[hsz] at hpo;h ef:(order.filterMap (es[·]?)).toList=order.toList.filterMap fun i=>es.toList[i]?:=by
  rw[Array.toList_filterMap]
  congr 1
  funext i
  rw[Array.getElem?_toList]
 h hp:=Iz hpo;h hes:(order.filterMap (es[·]?)).size=es.size:=by
  rw[<- ┄,ef,hp.length_eq,┄]
 rw[if_neg (by rw[hes];simp)];r wpAny_pure ?_;dsimp only;r wpAny_storeSet_of ho hd ?_ (by rw[hes,sizeLine_eq];rcases hM with e | e | e | e<;>w);o⟨o',ep',ho',hex',hd'⟩:=stored ho hex hd (order.filterMap (es[·]?)) {mask:=M,place:=place,dummies:=#[],finger:=t.finger,led:=t.led,moves:=t.movedTo M,plain:=t.plain};h hpk:(order.toList.filterMap fun i=>ks[i]?).Perm ks:=Iz (by rw[┄] at hpo;rw[hks];!hpo);r q _ _ _ (order.toList.filterMap fun i=>ks[i]?) (Heap.SameBut.update ..) ⟨⟨o',ep',ho',hex',hd'⟩,T2,?_,?_,?_,?_,?_,hpl,hld⟩ hpk
 ·rw[hes,hps];simp
 ·h e1:(order.filterMap (es[·]?)).toList.map (·.1)=order.toList.map fun i=>(es.map (·.1)).toList.getD i 0:=by
   rw[ef,Ho (0,Value.none) (fun i hi=>by have:=List.mem_range.mp (hpo.mem_iff.mp hi);!this),List.map_map];r List.map_congr_left fun i hi=>?_;h hi':i<es.toList.length:=List.mem_range.mp (hpo.mem_iff.mp hi);h hi2:i<es.size:=by u hi'
   show (es.toList.getD i (0,Value.none)).1=_;simp[¯,hi2]
  rw[e1];!L2
 ·rw[ef,hel,List.map_filterMap]
  congr 1
  funext i
  rw[┉]
 ·!(List.Perm.nodup_iff (hpk.map (·.1))).mpr nd
 ·show place.size*5<M*3
  rw[hps];u hfew'
def Added(ks:List ⑫)(k:List Int)(a:Addr)(ks':List ⑫):Prop:=(k∈ks.map (·.1)/\ks'=ks)\/(k∉ks.map (·.1)/\ks'.Perm ((k,a)::ks))
theorem Ux{k:List Int}{a:Addr}(X:TS prog w s.heap S es t ks)(hK:∀ x∈ks,IK prog w s.heap x.1 x.2)(hk:IK prog w s.heap k a)(hu:A.units<cLine)(h60:ks.length<=300){Q:Bool->Shared->Prop}
  (q:∀ b h' es' t' ks',Heap.SameBut S s.heap h'->TS prog w h' S es' t' ks'->Added ks k a ks'->Q b {s with heap:=h'}) :
  wpAny ① A (setAddHashed S (.ref a) (hsh prog w k)) Q E s:=by
 o⟨o,ep,ho,hex,hd⟩:=X.obj;h hf:=Gk X.tab X.len;h fine:Fine t.mask ⑩:=Fine.start t _;h hks:ks.length=t.place.size:=by
  have:=congrArg List.length X.els;rw[─,┄,X.len] at this;!this.symm
 o⟨m0,hm0,nm0⟩:=Nf X.tab.mask X.tab.size fine (Qe (hsh prog w k));o⟨N,hN,hNmin⟩:=Uh (P:=fun m=>way t ⑩ m∉t.place.toList) m0 nm0;h hNle:N<=m0:=Classical.byContradiction fun c=>hNmin m0 ¢ nm0;h hB:∀ m,m<N->way t ⑩ m∈t.place.toList:=fun m hm=>Classical.byContradiction fun c=>hNmin m hm c;h hM:t.mask<=511:=by rcases X.tab.mask with e | e | e | e<;>w
 unfold setAddHashed setAddHashedIn;r wpAny_holding (wpAny_bind (wpAny_setState_of ho hd hf ?_));dsimp only;h hbs:byScan (.ref a) es=false:=rfl;rw[hbs];simp only[Bool.false_eq_true,if_false];unfold setSearch;b(YS X hK hk hu hN hB ?_ ?_ 100000 0 none (Nat.zero_le _) (by unfold turns at hm0;w) rfl (fun m hm=>absurd hm ¢))
 ·intro hmem
  !wpAny_pure (by
   have:=q false s.heap es t ks (Heap.SameBut.refl S s.heap) X (.inl ⟨hmem,rfl⟩);!this)
 ·intro hnm
  dsimp only;b(wpAny_setState_of ho hd hf ?_);dsimp only;generalize hj:way t ⑩ N=j;h P:Put t j:=by
   r⟨?_,?_,?_⟩
   ·rw[<- hj];!(fine.iter N).j
   ·rw[<- hj];!hN
   ·have:=X.few
    rcases X.tab.mask with e | e | e | e<;>rw[e] at this ⊢<;>w
  h T1:=ADW X.tab P;h L1:=ADJ X.tab (by rw[─,┄,X.len]) X.loc hB;rw[hj] at L1;o⟨e1,e2⟩:=Il X.tab (j:=j);h b3:=(FQ (j:=j) X.tab.rise).2.2;h pm:(t.put j).1.mask=t.mask:=by rw[e1]
  h pp:(t.put j).1.plain=true:=by rw[e1];!X.pl
  h pd:(t.put j).1.led=ledOf w:=by rw[e1];!X.ld
  h ps:(t.put j).1.place.size=t.place.size+1:=by
   rw[e1];have:=congrArg List.length (BZ t.place (below t.place j) j);simp at this;show (insertAt t.place (below t.place j) j).size=_;w
  rw[e2] at L1;generalize hp:below t.place j=p at *;generalize ht1:(t.put j).1=t1 at *;h hes1:(insertAt es p (hsh prog w k,Value.ref a)).toList=(ks.take p++[(k,a)]++ks.drop p).map fun x=>(hsh prog w x.1,Value.ref x.2):=by
   rw[BZ,X.els,List.map_append,List.map_append,List.map_take,List.map_drop];rfl
  h hsz1:(insertAt es p (hsh prog w k,Value.ref a)).size=es.size+1:=by
   have:=congrArg List.length (BZ es p (hsh prog w k,Value.ref a));simp at this;have:=X.len;w
  h hperm:(ks.take p++[(k,a)]++ks.drop p).Perm ((k,a)::ks):=by
   have:=List.perm_middle (a:=(k,a)) (l₁:=ks.take p) (l₂:=ks.drop p);rw[List.take_append_drop] at this;rw[List.append_assoc];!this
  h nd1:((ks.take p++[(k,a)]++ks.drop p).map (·.1)).Nodup:=(List.Perm.nodup_iff (hperm.map (·.1))).mpr (by rw[List.map_cons];!List.nodup_cons.mpr ⟨hnm,X.nd⟩);h hl1:(insertAt es p (hsh prog w k,Value.ref a)).toList.map (·.1)=(es.toList.map (·.1)).take p++[hsh prog w k]++(es.toList.map (·.1)).drop p:=by
   rw[BZ,List.map_append,List.map_append,List.map_take,List.map_drop];rfl
  h e3:(t.put j).2=p:=e2;h go:∀(t2:SetTable),Tab t2->t2.mask=t1.mask->t2.place=t1.place->t2.plain=true->t2.led=ledOf w->wpAny ① A (do
    storeSet S (insertAt es p (hsh prog w k,Value.ref a)) t2
    if (!false&&t2.tooFull)=true then do
     setRelay S (grown (es.size+1))
     pure true
    else pure true) Q E s:=by
   intro t2 T2 m2 p2 q2 r2;b(wpAny_storeSet_of ho hd ?_ (by rw[hsz1,sizeLine_eq];have:=X.len;w));o⟨o',ep',ho',hex',hd'⟩:=stored ho hex hd (insertAt es p (hsh prog w k,Value.ref a)) t2;h L2:Loc t2 ((insertAt es p (hsh prog w k,Value.ref a)).toList.map (·.1)):=by
    rw[hl1];intro idx jj h' a1 a2;rw[p2] at a1;o⟨m,w1,w2⟩:=L1 idx jj h' a1 a2;r⟨m,?_,fun m' hm'=>?_⟩
    ·unfold way probeStart at w1 ⊢
     rw[m2];!w1
    ·have:=w2 m' hm'
     unfold way probeStart at this ⊢;rw[m2,p2];!this
   h tf:t2.tooFull=decide (t.mask*3<=(t.place.size+1)*5):=by
    unfold tooFull;rw[Wo T2,p2,m2,ps,pm]
   rw[tf];by_cases c:t.mask*3<=(t.place.size+1)*5
   ·rw[decide_eq_true c]
    simp only[Bool.not_false,Bool.and_self,if_true];rw[<- hsz1];b(AAj (ks:=ks.take p++[(k,a)]++ks.drop p) rfl ho' hex' hd' T2 (by rw[hsz1,p2,ps,X.len]) hes1 nd1 ?_ ?_ ?_ q2 r2 ?_)
    ·rw[p2,m2,ps,pm];!c
    ·rw[p2,m2,ps,pm]
     have:=X.few;w
    ·rw[hperm.length_eq]
     simp;w
    ·intro h' es' t' ks' sb X' pk
     !wpAny_pure (q true h' es' t' ks' ((Heap.SameBut.update ..).trans sb) X' (.inr ⟨hnm,pk.trans hperm⟩))
   ·rw[decide_eq_false c]
    simp only[Bool.and_false,Bool.false_eq_true,if_false];!wpAny_pure (q true _ _ t2 _ (Heap.SameBut.update ..) ⟨⟨o',ep',ho',hex',hd'⟩,T2,by rw[hsz1,p2,ps,X.len],L2,hes1,nd1,by rw[p2,m2,ps,pm];w,q2,r2⟩ (.inr ⟨hnm,hperm⟩))
  rw[e3];simp only[pp,if_true];b(ACq hk ?_);simp only[if_true];!go t1 T1 rfl rfl pp pd
theorem AEV{k:List Int}{a:Addr}(X:TS prog w s.heap S es t ks)(hK:∀ x∈ks,IK prog w s.heap x.1 x.2)(hk:IK prog w s.heap k a)(hu:A.units<cLine)(h60:ks.length<=300){Q:Bool->Shared->Prop}
  (q:∀ b h' es' t' ks',Heap.SameBut S s.heap h'->TS prog w h' S es' t' ks'->Added ks k a ks'->Q b {s with heap:=h',toks:=s.toks+(k.length+1)}) :
  wpAny ① A (setAdd S (.ref a)) Q E s:=by
 unfold setAdd;r wpAny_holding ?_;b(wpAny_pyHash_tuple hu hk ?_);!Ux (s:={s with toks:=s.toks+(k.length+1)}) X hK hk hu h60 fun b h' es' t' ks' sb X' ad=>q b h' es' t' ks' sb X' ad
end
structure Of(vals:Nat->List Int×Addr)(i:Nat)(ks:List ⑫):Prop where
 sub:∀ x∈ks,∃ j,j<i/\x=vals j
 sup:∀ j,j<i->(vals j).1∈ks.map (·.1)
 len:ks.length<=i
theorem Of.next{vals:Nat->List Int×Addr}{i:Nat}{ks ks':List ⑫}(h:Of vals i ks)(a:Added ks (vals i).1 (vals i).2 ks'):Of vals (i+1) ks':=by
 rcases a with⟨hm,rfl⟩ | ⟨hm,p⟩
 ·r⟨fun x hx=>?_,fun j hj=>?_,by have:=h.len;w⟩
  ·o⟨j,hj,e⟩:=h.sub x hx
   !⟨j,by w,e⟩
  ·by_cases c:j=i
   ·rw[c];!hm
   ·!h.sup j ¢
 ·r⟨fun x hx=>?_,fun j hj=>?_,by rw[p.length_eq];have:=h.len;simp;w⟩
  ·rcases ┃ (p.mem_iff.mp hx) with e | hx
   ·!⟨i,by w,e⟩
   ·o⟨j,hj,e⟩:=h.sub x hx
    !⟨j,by w,e⟩
  ·h pm:=(p.map (·.1)).mem_iff (a:=(vals j).1)
   by_cases c:j=i
   ·subst c
    !pm.mpr (by rw[List.map_cons];!´)
   ·!pm.mpr (by rw[List.map_cons];!¶ _ (h.sup j ¢))
section
variable{prog:Program}{w:World}{A:Around}{s:Shared}
theorem Gu{h h':Heap}{k:List Int}{a:Addr}(hk:IK prog w h k a)(e:∀ o,h.get? a=some o->h'.get? a=some o):IK prog w h' k a:=by
 o⟨o,items,n,ho,r⟩:=hk;!⟨o,items,n,e o ho,r⟩
theorem WL{h h':Heap}{S:Addr}{es:Array (Int×Value)}{t:SetTable}{ks:List ⑫}(X:TS prog w h S es t ks)(e:∀ o,h.get? S=some o->h'.get? S=some o):TS prog w h' S es t ks:=by
 o⟨o,ep,ho,r⟩:=X.obj;!⟨⟨o,ep,e o ho,r⟩,X.tab,X.len,X.loc,X.els,X.nd,X.few,X.pl,X.ld⟩
end
theorem AAV{prog:Program}{w:World}{h:Heap}{S:Addr}{led:Bool}(hw:led=ledOf w)(hg:h.get? S=some {cls:=.type "set",dict:=none,data:=.set #[] 0 (.fresh 0 0 led)}):TS prog w h S #[] (.fresh 0 0 led) []:=by
 r⟨⟨_,0,hg,⟨rfl,rfl,rfl⟩,rfl⟩,⟨.inl rfl,rfl,Nat.zero_le _,fun j hj=>(by cases hj),.nil⟩,rfl,fun idx j h' a=>?_,rfl,.nil,by show 0*5<7*3;decide,rfl,hw⟩;cases a
section
variable{prog:Program}{w:World}{A:Around}{E:Value->Shared->Prop}{s:Shared}
theorem ABP(a:Value){Q₁:Value->Shared->Prop}(h:Q₁ (.ref ¸) {s with heap:=s.heap.push {cls:=.type "set",dict:=none,data:=.set #[] 0 (.fresh 0 0 (ledOf w))}}) :
  codeAny ① A (.call (.builtin "set.__new__") ⟨[.type "set",a],[]⟩) (wants Q₁ E) s:=by
 r codeAny_of_tree ?_;show wpAny _ A.in1 (checkBuiltinCall "set.__new__" ⟨[.type "set",a],[]⟩ >>= fun _=>again (.builtin "set.__new__" ⟨[.type "set",a],[]⟩)) _ _ s;b(wpAny_of_eq (F.newCall_set_1 a) (wpAny_pure ⟨plainId_quiet F.plain_set_new _,codeAny_builtin F.entry_set_new ?_⟩));rw[Around.under_plainId F.plain_set_new _];unfold Builtin.«set.__new__» Builtin.Frozenset.newClass;h sself:=sub_set_self;o⟨hp,g,d,tk,os⟩:=s;dsimp only
 wp_walk
 r wpAny_askSetting (wpAny_pure ?_);dsimp only;simp only[newObj];b(wpAny_alloc (wpAny_pure ?_));!wpAny_pure h
end
theorem ABL{α:Type}{l:List α}:∀{k:Nat}{y:α},l[k]?=some y->(y::l.eraseIdx k).Perm l:=by
 induction l with
 | nil=>intro k y h;simp at h
 | cons a t ih =>
  intro k y h;cases k with
  | zero =>
   obtain rfl:a=y:=by u h
   !List.Perm.refl _
  | succ k =>
   have h':t[k]?=some y:=by u h
   !(List.Perm.swap a y _).trans (List.Perm.cons a (ih h'))
theorem XH{α:Type}(next:Nat->Nat):∀(fuel k:Nat) (left:List α) (out:Array α),left.length<=fuel->(pickOrder.go next fuel k left out).toList.Perm (out.toList++left)
 | 0,k,left,out,h=>by
  have:left=[]:=List.length_eq_zero_iff.mp ¢;subst this;rw[List.append_nil];!List.Perm.refl _
 | fuel+1,k,left,out,h=>by
  unfold pickOrder.go;cases e:left[next k%left.length]? with
  | none =>
   have hl:left=[]:=by
    cases left with
    | nil=>rfl
    | cons a t =>
     have:=Nat.mod_lt (next k) (show 0<(a::t).length by simp);rw[± this] at e;cases e
   subst hl;rw[List.append_nil]
  | some x =>
   have hi:=(━ e).1;have hl:(left.eraseIdx (next k%left.length)).length=left.length-1:=List.length_eraseIdx_of_lt hi;have ih:=XH next fuel (k+1) (left.eraseIdx (next k%left.length)) (out.push x) ¢
   r ih.trans ?_;rw[Array.toList_push,List.append_assoc];!List.Perm.append_left _ (ABL e)
theorem ACj{α:Type}(next:Nat->Nat)(xs:Array α):(pickOrder next xs).toList.Perm xs.toList:=by
 have:=XH next xs.size 0 xs.toList #[] ¥
 unfold pickOrder;u this
namespace F
theorem Lr:entryFor table "set.__iter__" = some Builtin.«frozenset.__iter__» :=
 entryFor_alias (id':="frozenset.__iter__") (by kernel_rfl) (by first | rfl | decide +kernel) £ (by kernel_rfl)
theorem Rk:Manifest.owners.lookup (String.ofList ['r','o','t','a','r','e','t','i','_','t','e','s'].reverse)=some Manifest.sig_set_iterator:=by kernel_rfl
theorem Dw:Slot "set_iterator" "__next__" "set_iterator.__next__":=.of (owner:="set_iterator") (n:="__next__") (by rw[typeLookup_type,builtinLookup_eq_fast];kernel_rfl) £ £ £ (by first | !.inl £ | !.inr £) (by rw[isSubtype_type];kernel_rfl)
theorem MP:entryFor table "set_iterator.__next__" = some Builtin.«set_iterator.__next__»:=entryFor_of_tree (by kernel_rfl)
theorem Py(a:Value):argsOk "set_iterator.__next__" ⟨[a],[]⟩:=by
 unfold argsOk;rw[signature?_of (id:="set_iterator.__next__") (n:=['_','_','t','x','e','n','_','_']) (o:=['r','o','t','a','r','e','t','i','_','t','e','s']) (by kernel_rfl) Rk];kernel_rfl
theorem Ia:Slot "set_iterator" "__iter__" "set_iterator.__iter__":=.of (owner:="set_iterator") (n:="__iter__") (by rw[typeLookup_type,builtinLookup_eq_fast];kernel_rfl) £ £ £ (by first | !.inl £ | !.inr £) (by rw[isSubtype_type];kernel_rfl)
theorem Qv(a:Value):argsOk "set_iterator.__iter__" ⟨[a],[]⟩:=by
 unfold argsOk;rw[signature?_of (id:="set_iterator.__iter__") (n:=['_','_','r','e','t','i','_','_']) (o:=['r','o','t','a','r','e','t','i','_','t','e','s']) (by kernel_rfl) Rk];kernel_rfl
theorem Lz:entryFor table "set_iterator.__iter__" = some Builtin.«dict_keyiterator.__iter__» :=
 entryFor_alias (id':="dict_keyiterator.__iter__") (by kernel_rfl) (by first | rfl | decide +kernel | (unfold String.splitOn;simp +decide [String.splitOnAux])) £ (by kernel_rfl)
end F
def SI(h:Heap)(I S:Addr)(slot i n ep:Nat):Prop:=∃ o,h.get? I=some o/\o.cls=.type "set_iterator"/\o.data=.fields #[rawInt slot,rawInt i,.ref S,rawInt n,rawInt ep]
theorem SI.typeIs{s:Shared}{I S:Addr}{slot i n ep:Nat}(x:SI s.heap I S slot i n ep):s.TypeIs (.ref I) "set_iterator":=let ⟨o,ho,hc,_⟩:=x;⟨o,ho,hc⟩
section
variable{prog:Program}{w:World}{A:Around}{E:Value->Shared->Prop}{s:Shared}{S:Addr}{es:Array (Int×Value)}{t:SetTable}{ep:Nat}{o:Obj}
def text(w:World):Bool:=w.params.followText "set-order"
def ord(w:World)(S:Addr)(ep:Nat)(es:Array (Int×Value)):Array (Int×Value):=if text w=true then pickOrder (w.params.setOrder S ep) es else es
theorem Tg(w:World)(S:Addr)(ep:Nat)(es:Array (Int×Value)):(ord w S ep es).toList.Perm es.toList:=by
 unfold ord;split
 ·!ACj _ _
 ·!List.Perm.refl _
def slotAt(w:World)(t:SetTable)(i:Nat):Nat:=if text w=true then 0 else if i=0 then 0 else t.place.getD (i-1) 0+1
theorem Tz(hx:text w=false)(T:Tab t){i:Nat}(hi:i<=t.place.size):below t.place (slotAt w t i)=i:=by
 o⟨b1,b2,b3⟩:=FQ (j:=slotAt w t i) T.rise;h r:=List.pairwise_iff_getElem.mp T.rise;h gd:∀ k (hk:k<t.place.size) d,t.place.getD k d=t.place.toList[k]'(by u hk):=fun k hk d=>by simp[Array.getD,hk]
 h sl:∀ h0:i≠0,slotAt w t i=t.place.toList[i-1]'(by simp;w)+1:=fun h0=>by
  unfold slotAt;rw[hx,if_neg ¤,if_neg h0,gd (i-1) ¢]
 rcases Nat.lt_trichotomy (below t.place (slotAt w t i)) i with c | c | c
 ·h z:=b2 _ ② ¢
  rw[gd _ ¢] at z;h slz:=sl ¢;by_cases d:below t.place (slotAt w t i)=i-1
  ·have:t.place.toList[below t.place (slotAt w t i)]'(by simp;w)=t.place.toList[i-1]'(by simp;w):=by congr 1
   w
  ·have:=r (below t.place (slotAt w t i)) (i-1) (by simp;w) (by simp;w) ¢
   w
 ·!c
 ·h z:=b1 i c
  rw[gd i ¢] at z;by_cases h0:i=0
  ·have:slotAt w t i=0:=by unfold slotAt;rw[hx,if_neg ¤,if_pos h0]
   w
  ·h slz:=sl h0
   have:=r (i-1) i (by simp;w) (by simp;w) ¢;w
theorem ADo(ho:s.heap.get? S=some o)(hd:o.data=.set es ep t)(T:Tab t)(hl:es.size=t.place.size)(hp:t.plain=true)(hled:t.led=ledOf w){i:Nat}{Q:Option (Value×Nat)->Shared->Prop}
  (q:Q (((ord w S ep es)[i]?).map fun e=>(e.2,slotAt w t (i+1))) s) (hi:i<=es.size):wpAny ① A (setNext S (slotAt w t i) i ep) Q E s:=by
 h hf:=Gk T hl;unfold setNext;b(wpAny_setState_of ho hd hf ?_);dsimp only;unfold setsByText;b(wpAny_bind (wpAny_askSetting (wpAny_pure ?_)));cases hx:text w with
 | true =>
  have hx':①.w.params.followText "set-order" = true:=hx;simp only[hx',if_true,bne_self_eq_false,Bool.false_eq_true,if_false];unfold setWalk setsByText;b(wpAny_bind (wpAny_setState_of ho hd hf ?_));dsimp only;b(wpAny_bind (wpAny_askSetting (wpAny_pure ?_)));simp only[hx',if_true];b(wpAny_askSetting (wpAny_pure ?_));r wpAny_pure ?_;have e1:ord w S ep es=pickOrder (w.params.setOrder S ep) es:=by unfold ord;rw[hx];rfl
  have e2:∀ i,slotAt w t i=0:=fun i=>by unfold slotAt;rw[hx];rfl
  rw[e1,e2] at q;rw[e2];!q
 | false =>
  have hx':①.w.params.followText "set-order" = false:=hx;have hledT:t.led=true:=by rw[hled];unfold ledOf;rw[show w.params.followText "set-order" = false from hx];rfl
  have e1:ord w S ep es=es:=by unfold ord;rw[hx];rfl
  rw[e1] at q;simp only[hx',Bool.false_eq_true,if_false];r wpAny_ite_split (fun hab=>?_) (fun _=>?_)
  ·have hab':(!t.plain&&decide (es.size>1))=true:=hab
   rw[hp] at hab';cases hab'
  r wpAny_bind ?_;show wpAny _ _ (if (!t.led && !es.isEmpty)=true then unsupported "set:maker-not-led" else pure ()) _ _ _;rw[hledT];simp only[Bool.not_true,Bool.false_and,Bool.false_eq_true,if_false];r wpAny_pure (wpAny_pure ?_);rw[Tz hx T (by rw[<- hl];!hi)];by_cases c:i<es.size
  ·have c2:i<t.place.size:=by rw[<- hl];!c
   rw[┋ c] at q ⊢;rw[┋ c2];have e3:slotAt w t (i+1)=t.place[i]+1:=by
    unfold slotAt;rw[hx,if_neg ¤,if_neg ¢];simp[Array.getD,c2]
   rw[e3] at q;!q
  ·rw[Array.getElem?_eq_none ¢] at q ⊢
   !q
def SSt(w:World)(I S:Addr)(o:Obj)(es:Array (Int×Value))(t:SetTable)(ep i:Nat)(h:Heap):Prop:=h.get? S=some o/\SI h I S (slotAt w t i) i es.size ep
theorem Wu(hh:A.handled=none){I:Addr}(hne:S≠I)(hd:o.data=.set es ep t)(T:Tab t)(hl:es.size=t.place.size)(hp:t.plain=true)(hled:t.led=ledOf w){i:Nat}(st:SSt w I S o es t ep i s.heap)(hi:i<=es.size){Q:Option Value->Shared->Prop}
  (q1:∀ e h',(ord w S ep es)[i]?=some e->SSt w I S o es t ep (i+1) h'->Heap.SameBut I s.heap h'->Q (some e.2) {s with heap:=h'})
  (q2:(ord w S ep es)[i]?=none->∀ h',Heap.ExtBut I s.heap h'->Q none {s with heap:=h'}):wpAny ① A (pyNext (.ref I)) Q E s:=by
 o⟨ho,x⟩:=st;o⟨oi,hoi,hci,hdi⟩:=id x;unfold pyNext;b(wpAny_attempt (wpAny_callSpecial?_slot (name:=Str.ofString "__next__") x.typeIs F.Dw (wpAny_call_entry F.Dw x.typeIs F.MP ?_ (F.Py _))));unfold Builtin.«set_iterator.__next__»;b(wpAny_of_eq (a:=(Value.ref I,[])) rfl ?_)
 try dsimp only
 b(wpAny_fieldsOf hoi hdi ?_);show wpAny _ _ (setEntries S >>= _) _ _ s;b(wpAny_setEntries_of ho hd (Gk T hl) ?_);simp only[bne_self_eq_false,Bool.false_eq_true,if_false];show wpAny _ _ (setNext S (((slotAt w t i:Nat):Int)).toNat (((i:Nat):Int)).toNat (((ep:Nat):Int)).toNat >>= _) _ _ s;rw[Int.toNat_natCast,Int.toNat_natCast,Int.toNat_natCast];b(ADo ho hd T hl hp hled ?_ hi);cases e:(ord w S ep es)[i]? with
 | some v =>
  show wpAny _ _ (setField (.ref I) 0 (rawInt ((slotAt w t (i+1):Nat):Int)) >>= fun _=>setField (.ref I) 1 (rawInt ((i:Int)+1)) >>= fun _=>ret v.2) _ _ s;b(wpAny_setField hoi hdi ¥ ?_);h g1:=Heap.get?_update_self (Obj.mapFields (fun fs=>fs.setIfInBounds 0 (rawInt ((slotAt w t (i+1):Nat):Int)))) hoi (Obj.isFreed_of_fields (Obj.data_mapFields hdi _));h d1:=Obj.data_mapFields hdi (fun fs=>fs.setIfInBounds 0 (rawInt ((slotAt w t (i+1):Nat):Int)));b(wpAny_setField g1 d1 ¥ ?_);h g2:=Heap.get?_update_self (Obj.mapFields (fun fs=>fs.setIfInBounds 1 (rawInt ((i:Int)+1)))) g1 (Obj.isFreed_of_fields (Obj.data_mapFields d1 _));h d2:=Obj.data_mapFields d1 (fun fs=>fs.setIfInBounds 1 (rawInt ((i:Int)+1)));r wpAny_pure ⟨_,rfl,wpAny_pure (q1 v _ e ⟨?_,_,g2,?_,?_⟩ ((Heap.SameBut.update ..).trans (Heap.SameBut.update ..)))⟩
  ·!(Heap.get?_update_other _ _ (Ne.symm hne)).trans ((Heap.get?_update_other _ _ (Ne.symm hne)).trans ho)
  ·!(Obj.cls_mapFields ..).trans ((Obj.cls_mapFields ..).trans hci)
  ·rw[d2]
   simp
 | none =>
  show wpAny _ _ (setField (.ref I) 2 Value.none >>= fun _=>newExc (Value.type "StopIteration") [] >>= fun x=>raiseNew x) _ _ s;b(wpAny_setField hoi hdi ¥ ?_);r wpAny_bind ?_;simp only[newExc,newTuple];b(wpAny_newObj_type ?_ (by size_fits));r wpAny_bind (m:=firstArgMember _ _) (wpAny_of_eq (a:=Value.none) (by first | rfl | (simp only[firstArgMember];rfl)) ?_);r wpAny_newObj_type ?_ (by size_fits);simp only[raiseNew];b(wpAny_handled ?_);rw[show A.in1.handled=none from hh];b(wpAny_pure (wpAny_throw ?_));b(wpAny_isInstance (T:="StopIteration") (b:=true) ⟨_,¿ _ rfl,rfl⟩ isSubtype_stop ?_);!wpAny_pure (q2 e _ (((Heap.SameBut.update ..).extBut.push _).push _))
theorem Km(w:World)(S:Addr)(ep:Nat)(es:Array (Int×Value)):(ord w S ep es).size=es.size:=by
 rw[<- ┄,(Tg w S ep es).length_eq,┄]
theorem Yr(hh:A.handled=none){I:Addr}(hne:S≠I)(hd:o.data=.set es ep t)(T:Tab t)(hl:es.size=t.place.size)(hp:t.plain=true)(hled:t.led=ledOf w) :
  Walks prog w A I [I,S] [I] es.size (fun i v=>∃ e,(ord w S ep es)[i]?=some e/\v=e.2) (fun i h=>i<=es.size/\SSt w I S o es t ep i h) where
 sub:=fun b hb=>by simp at hb;simp[hb]
 frame:=fun i h h' ⟨hi,h1,oi,h2,r⟩ hk=>⟨hi,hk S ¥ o h1,oi,hk I ¥ oi h2,r⟩
 item:=fun i s Q E hi ⟨hi',st⟩ hQ=>by
  r Wu hh hne hd T hl hp hled st hi' (fun e h' ge st' sb=>hQ _ h' s.toks ⟨e,ge,rfl⟩ ⟨hi,st'⟩ fun b ob hb eo=>?_) (fun z=>?_)
  ·rw[sb.2 b (fun(q:b=I)=>hb (by simp[q]))]
   !eo
  ·have:=Km w S ep es
   rw[Array.getElem?_eq_none_iff] at z;w
 done:=fun s Q E ⟨_,st⟩ hQ=>by
  r Wu hh hne hd T hl hp hled st ② (fun e h' ge st' sb=>?_) (fun z h' eb=>hQ h' s.toks fun b ob hb eo=>eb b ob (fun q=>hb (by simp[q])) eo);have:=(Array.getElem?_eq_some_iff.mp ge).1;rw[Km] at this;w
 self:=fun i s Q E ⟨_,_,x⟩ hQ=>by
  r wpAny_pyIter_slot x.typeIs F.Ia (wpAny_call_entry F.Ia x.typeIs F.Lz ?_ (F.Qv _));show wpAny _ _ (ret (.ref I)) _ _ s;!wpAny_pure ⟨_,rfl, "set_iterator",_,x.typeIs,F.Dw.lookup,hQ⟩
theorem ABy(ho:s.heap.get? S=some o)(hex:o.ExactSet)(hd:o.data=.set es ep t)(T:Tab t)(hl:es.size=t.place.size)(hp:t.plain=true){Q:Value->Shared->Prop}
  (q:∀ x,(s.heap.push x).get? ¸=some x->SSt w ¸ S o es t ep 0 (s.heap.push x)->Q (.ref ¸) {s with heap:=s.heap.push x}):wpAny ① A (pyIter (.ref S)) Q E s:=by
 h hf:=Gk T hl;h tS:s.TypeIs (.ref S) "set":=⟨o,ho,hex.1⟩;r wpAny_pyIter_slot tS PySem.F.slot_set_iter (wpAny_call_entry PySem.F.slot_set_iter tS F.Lr ?_ (PySem.F.args_set_iter_1 _));unfold Builtin.«frozenset.__iter__»;b(wpAny_of_eq (a:=S) rfl ?_);r wpAny_bind (m:=Builtin.Frozenset.sizeOf S) (wpAny_bind (wpAny_setEntries_of ho hd hf (wpAny_pure ?_)));r wpAny_bind (m:=setDrawn S) ?_;unfold setDrawn setsByText;b(wpAny_setState_of ho hd hf ?_);dsimp only;b(wpAny_bind (wpAny_askSetting (wpAny_pure ?_)));r wpAny_pure ?_;r wpAny_ite_split (fun hab=>?_) (fun _=>?_)
 ·h hab':(!w.params.followText "set-order" && (!t.plain&&decide (es.size>1)))=true:=hab
  rw[hp] at hab';simp at hab'
 b(wpAny_pure ?_);b(wpAny_setEpoch_of ho hd hf ?_);unfold newFields;b(wpAny_newObj_type ?_);h z:slotAt w t 0=0:=by
  unfold slotAt;split
  ·rfl
  ·rfl
 r wpAny_pure ⟨_,rfl, "set_iterator",_,⟨_,¿ _ rfl,rfl⟩,F.Dw.lookup,q _ (¿ _ rfl) ⟨° _ ho,_,¿ _ rfl,rfl,?_⟩⟩;rw[z];rfl
theorem AAh(ho:s.heap.get? S=some o)(hex:o.ExactSet){Q:Bool->Shared->Prop}(h:Q false s):wpAny ① A (Builtin.List.listLengthHint (.ref S)) Q E s:=by
 h tS:s.TypeIs (.ref S) "set":=⟨o,ho,hex.1⟩;unfold Builtin.List.listLengthHint;b(wpAny_specialOf tS PySem.F.slot_set_len.lookup ?_);generalize hid:("set.__len__" : String)=id0
 wp_delta
 rw[show splitId id0=some ("set","__len__") from by subst hid;decide +kernel];subst hid;b(wpAny_isInstance (T:="set") (b:=true) tS (by rw[isSubtype_type];kernel_rfl) ?_);r wpAny_ite_split (fun hab=>absurd hab ¤) (fun _=>?_);r wpAny_ite_split (fun _=>?_) (fun hab=>absurd £ hab);b(wpAny_typeOf tS ?_);!wpAny_pure h
theorem Vv{R:Result->Shared->Prop}(hh:A.handled=none)(ho:s.heap.get? S=some o)(hex:o.ExactSet)(hd:o.data=.set es ep t)(T:Tab t)(hl:es.size=t.place.size)(hp:t.plain=true)(hled:t.led=ledOf w)(h61:es.size<=301)
  (D:Addr) (res:Value) (c₀:Nat) (hD:s.heap.get? D=some {cls:=.type "list",data:=.seq #[] c₀})
  (hR:∀ h' tk acc' c',(∀ b ob,b≠D->s.heap.get? b=some ob->h'.get? b=some ob)->h'.get? D=some {cls:=.type "list",dict:=none,data:=.seq acc' c',slots:=#[]} ->
   ItemsOf (fun i v=>∃ e,(ord w S ep es)[i]?=some e/\v=e.2) acc' es.size->R (.ok (.ret res)) {s with heap:=h',toks:=tk}) :
  wpAny ① A.in1 (Builtin.List.listExtendWith (.ref D) (.ref S) res)
   (fun fin s'=>match fin with | .done f=>R (.ok f) s' | .again c'=>c'.quiet=true/\codeAny ① A c' R s') (fun e s'=>R (.error e) s') s:=by
 h tS:s.TypeIs (.ref S) "set":=⟨o,ho,hex.1⟩;h nDS:D≠S:=fun e=>by
  rw[e,ho] at hD;cases hD;cases hd
 h nSI:S≠¸:=Nat.ne_of_lt (Heap.lt_size ho);h nDI:D≠¸:=Nat.ne_of_lt (Heap.lt_size hD);h nDf:D∉[¸,S]:=fun hm=>by
  rcases ┃ hm with e | hm
  ·!nDI e
  ·!nDS (List.mem_singleton.mp hm)
 h W:=(Yr (prog:=prog) (A:=A.in1) (o:=o) hh nSI hd T hl hp hled).toS;unfold Builtin.List.listExtendWith;b(wpAny_typeOf (T:="set") tS ?_);h c1:Builtin.List.listSameRef (.ref D) (.ref S)=false:=by simp[Builtin.List.listSameRef,nDS]
 h c2:(Value.type "set" == Value.type "list")=false:=by decide
 h c3:(Value.type "set" == Value.type "tuple")=false:=by decide
 simp only[c1,c2,c3,Bool.or_false,Bool.false_eq_true,if_false];b(ABy ho hex hd T hl hp fun x gx st=>?_);b(wpAny_holding (AAh (s:={s with heap:=s.heap.push x}) (° _ ho) hex ?_));r wpAny_ite_split (fun _=>?_) (fun hab=>absurd £ hab);h hD1:(s.heap.push x).get? D=some {cls:=.type "list",data:=.seq #[] c₀}:=° _ hD;b(wpAny_rule ?_);r wpAny_bind ?_;show wpAny _ _ (updateSeq D (·.push .none) >>= fun _=>updateSeq D (·.pop)) _ _ _;b(wpAny_updateSeq hD1 rfl ?_);h hD2:=Heap.get?_update_self (Obj.mapSeq (·.push Value.none)) hD1 rfl;r wpAny_updateSeq (hz:=by seq_fits) hD2 rfl ?_;h hD3:=Heap.get?_update_self (Obj.mapSeq (·.pop)) hD2 rfl;h keep:∀ b ob,b≠D->(s.heap.push x).get? b=some ob->(((s.heap.push x).update D (Obj.mapSeq (·.push Value.none))).update D (Obj.mapSeq (·.pop))).get? b=some ob:=fun b ob hb e=>(Heap.get?_update_other _ _ (Ne.symm hb)).trans ((Heap.get?_update_other _ _ (Ne.symm hb)).trans e);o⟨st1,oi,st2,st3⟩:=st;r wpAny_pure ⟨plainId_quiet F.plain_extend_loop _,?_⟩;r codeAny_extend_loopS W (by rw[sizeLine_eq];w) D nDf res es.size 0 _ _ _ rfl (Nat.zero_le _) ⟨Nat.zero_le _,keep S o nDS.symm st1,oi,keep _ oi (Ne.symm nDI) st2,st3⟩ hD3 (ItemsOf.nil _) fun s' acc' c' hm hS' hacc=>?_;rw[Moved.eq_with hm];r hR s'.heap s'.toks acc' c' (fun b ob hb e=>hm.heap b ob (fun hmem=>?_) (keep b ob hb (° _ e))) hS' hacc;rcases ┃ hmem with e' | hmem
 ·!hb e'
 ·!absurd (Heap.lt_size e) (by rw[List.mem_singleton.mp hmem];!Nat.lt_irrefl _)
end
end SB
end
section
namespace SB
open PySem PySem.W PyProof.Rows
abbrev g(p:Array Nat)(k:Nat):Nat:=p.getD k 0
structure PP(n:Nat)(p:Array Nat):Prop where
 size:p.size=n
 lt:∀ k,k<n->g p k<n
 inj:∀ k k',k<n->k'<n->g p k=g p k'->k=k'
structure Tot(n:Nat)(lt:Nat->Nat->Bool):Prop where
 or:∀ i j,i<n->j<n->i≠j->lt i j=false->lt j i=true
 as:∀ i j,i<n->j<n->lt i j=true->lt j i=false
 tr:∀ i j k,i<n->j<n->k<n->lt i j=true->lt j k=true->lt i k=true
def Up(lt:Nat->Nat->Bool)(p:Array Nat)(m:Nat):Prop:=∀ a b,a<b->b<m->lt (g p a) (g p b)=true
section
variable{n:Nat}{lt:Nat->Nat->Bool}{p:Array Nat}
theorem ACG(n:Nat):PP n (List.toArray (List.range n)):=by
 h ge:∀ k,k<n->g (List.toArray (List.range n)) k=k:=fun k hk=>by
  unfold g;rw[Array.getD_eq_getD_getElem?];simp[hk]
 r⟨by simp,fun k hk=>by rw[ge k hk];!hk,fun k k' hk hk' e=>?_⟩;rw[ge k hk,ge k' hk'] at e;!e
end
end SB
end
section
namespace TM
open PySem PyProof.Rows
def JQ:Nat->Nat->StateT SortSt Sem (Option Nat):=sortPriv% PySem.Builtin.countRun
theorem Qp(lo nrem:Nat):JQ lo nrem=(do
 let mut n:=1
 for _ in [1:nrem] do
  let some smaller <- ltAt' (lo+n) (lo+n-1) | return none
  if smaller then break
  n:=n+1
 if n==nrem then return some n
 if n>1 then
  let some rose <- ltAt' lo (lo+n-1) | return none
  if rose then return some n
  reverseSlice' lo (lo+n)
 rule "list.sort.descending-run"
 n:=n+1
 let mut neq:=0
 for _ in [n:nrem] do
  let some smaller <- ltAt' (lo+n) (lo+n-1) | return none
  if smaller then
   if neq>0 then reverseSlice' (lo+n-(neq+1)) (lo+n)
   neq:=0
  else
   let some larger <- ltAt' (lo+n-1) (lo+n) | return none
   if larger then break
   neq:=neq+1
  n:=n+1
 if neq>0 then reverseSlice' (lo+n-(neq+1)) (lo+n)
 reverseSlice' lo (lo+n)
 for _ in [n:nrem] do
  let some smaller <- ltAt' (lo+n) (lo+n-1) | return none
  if smaller then break
  n:=n+1
 return some n):=rfl
def N(rk:Keyed->Int)(xs:Array Keyed)(i:Nat):Int:=match xs[i]? with
 | some p=>rk p
 | none=>0
variable{rk:Keyed->Int}
theorem Em{xs ys:Array Keyed}{i j:Nat}(h:xs[i]?=ys[j]?):N rk xs i=N rk ys j:=by unfold N;rw[h]
def Al(G:Keyed->Prop)(xs:Array Keyed):Prop:=∀(i:Nat) (x:Keyed),xs[i]?=some x->G x
theorem Al.perm{G:Keyed->Prop}{xs ys:Array Keyed}(h:Al G xs)(p:ys.Perm xs):Al G ys:=fun i x e=>by
 h m:x∈ys.toList:=by
  o⟨hl,rfl⟩:=Array.getElem?_eq_some_iff.mp e;!Array.getElem_mem_toList hl
 h m2:=(Array.perm_iff_toList_perm.mp p).mem_iff.mp m;o⟨k,hk,e⟩:=List.mem_iff_getElem.mp m2;!h k x (by rw[<- Array.getElem?_toList,± hk,e])
def Di(rk:Keyed->Int)(xs:Array Keyed):Prop:=(xs.toList.map rk).Nodup
theorem Di.perm{xs ys:Array Keyed}(h:Di rk xs)(p:ys.Perm xs):Di rk ys:=((Array.perm_iff_toList_perm.mp p).map rk).nodup_iff.mpr h
theorem Di.ne{xs:Array Keyed}(h:Di rk xs){i j:Nat}(ij:i<j)(jl:j<xs.size):N rk xs i≠N rk xs j:=by
 h il:i<xs.size:=by w
 have:=List.pairwise_iff_getElem.mp h i j (by u il) (by u jl) ij;unfold N;rw[┋ il,┋ jl];u this
def Up(rk:Keyed->Int)(xs:Array Keyed)(lo hi:Nat):Prop:=∀ i j,lo<=i->i<=j->j<hi->N rk xs i<=N rk xs j
def Down(rk:Keyed->Int)(xs:Array Keyed)(lo hi:Nat):Prop:=∀ i j,lo<=i->i<=j->j<hi->N rk xs j<=N rk xs i
structure Ba(G:Keyed->Prop)(rk:Keyed->Int)(κ:SortKind)(a₀:Array Keyed)(st:SortSt):Prop where
 perm:⑦.Perm a₀
 kind:kindOf st=κ
 failed:failedOf st=none
 all:Al G a₀
 di:Di rk a₀
structure Nx(lo:Nat)(st st':SortSt):Prop where
 perm:(arrOf st').Perm ⑦
 kind:kindOf st'=kindOf st
 failed:failedOf st'=failedOf st
 pend:pendingOf st'=pendingOf st
 low:∀ i,i<lo->(arrOf st')[i]?=⑦[i]?
theorem Nx.refl(lo:Nat)(st:SortSt):Nx lo st st:=⟨Array.Perm.refl _,rfl,rfl,rfl,fun _ _=>rfl⟩
theorem Nx.trans{lo:Nat}{a b c:SortSt}(h:Nx lo a b)(k:Nx lo b c):Nx lo a c:=⟨k.perm.trans h.perm,k.kind.trans h.kind,k.failed.trans h.failed,k.pend.trans h.pend,fun i hi=>(k.low i hi).trans (h.low i hi)⟩
theorem Ba.nx{G:Keyed->Prop}{κ:SortKind}{a₀:Array Keyed}{st st':SortSt}{lo:Nat}(h:Ba G rk κ a₀ st)(n:Nx lo st st'):Ba G rk κ a₀ st':=⟨n.perm.trans h.perm,n.kind.trans h.kind,n.failed.trans h.failed,h.all,h.di⟩
theorem Ba.size{G:Keyed->Prop}{κ:SortKind}{a₀:Array Keyed}{st:SortSt}(h:Ba G rk κ a₀ st):⑦.size=a₀.size:=h.perm.size_eq
theorem Ba.ne{G:Keyed->Prop}{κ:SortKind}{a₀:Array Keyed}{st:SortSt}(h:Ba G rk κ a₀ st){i j:Nat}(ij:i<j)(jl:j<a₀.size):N rk ⑦ i≠N rk ⑦ j:=(h.di.perm h.perm).ne ij (by rw[h.size];!jl)
section
variable{prog:Program}{w:World}{A:Around}{E:Value->Shared->Prop}{s:Shared}{G:Keyed->Prop}{κ:SortKind}{a₀:Array Keyed}
def Cmp(prog:Program)(w:World)(A:Around)(E:Value->Shared->Prop)(s:Shared)(κ:SortKind)(G:Keyed->Prop)(rk:Keyed->Int):Prop :=
 ∀ x y,G x->G y->∀(st:SortSt) (Q:Option Bool->SortSt->Prop),kindOf st=κ->Q (some (decide (rk x<rk y))) st->wpS ① A E s (lt' x y) Q st
theorem Bk{xs:Array Keyed}{i:Nat}{st:SortSt}{Q:Keyed->SortSt->Prop}(hi:i<xs.size)(h:Q xs[i] st):wpS ① A E s (elem' xs i) Q st:=by
 rw[elem'_eq,┋ hi];!wpS_pure h
theorem Fo{xs:Array Keyed}{i:Nat}(hi:i<xs.size):N rk xs i=rk xs[i]:=by unfold N;rw[┋ hi]
theorem Al.at{xs:Array Keyed}(h:Al G xs){i:Nat}(hi:i<xs.size):G xs[i]:=h i _ (┋ hi)
theorem Tj(C:Cmp prog w A E s κ G rk){st:SortSt}(B:Ba G rk κ a₀ st){i j:Nat}{Q:Option Bool->SortSt->Prop}(hi:i<a₀.size)(hj:j<a₀.size)(h:Q (some (decide (N rk ⑦ i<N rk ⑦ j))) st):wpS ① A E s (ltAt' i j) Q st:=by
 h hi':i<⑦.size:=by rw[B.size];!hi
 h hj':j<⑦.size:=by rw[B.size];!hj
 h al:=B.all.perm B.perm;rw[ltAt'_eq];r wpS_bind (wpS_get ?_);show wpS _ _ _ _ (do let x <- elem' ⑦ i;let y <- elem' ⑦ j;lt' x y) Q st;r wpS_bind (Bk hi' (wpS_bind (Bk hj' ?_)));r C _ _ (al.at hi') (al.at hj') st Q B.kind ?_;rw[<- Fo (rk:=rk) hi',<- Fo (rk:=rk) hj'];!h
theorem Sh{xs:Array Keyed}{i j:Nat}(hj:j<=xs.size)(k:Nat):N rk (mirror xs i j ((j-i) / 2)) k=if i<=k/\k<j then N rk xs (i+j-1-k) else N rk xs k:=by
 h e:=getElem?_mirror_all (i:=i) hj k;by_cases h1:i<=k/\k<j
 ·rw[if_pos h1] at e ⊢;!Em e
 ·rw[if_neg h1] at e ⊢;!Em e
theorem Rq{xs:Array Keyed}{src d:Nat}(hs:src<xs.size)(hd:d<=src)(k:Nat):N rk (bubble xs src d) k=if k=src-d then N rk xs src else if src-d<k/\k<=src then N rk xs (k-1) else N rk xs k:=by
 h e:=getElem?_bubble hs d hd k;by_cases h1:k=src-d
 ·rw[if_pos h1] at e ⊢;!Em e
 ·rw[if_neg h1] at e ⊢
  by_cases h2:src-d<k/\k<=src
  ·rw[if_pos h2] at e ⊢;!Em e
  ·rw[if_neg h2] at e ⊢;!Em e
theorem AFO{st:SortSt}{lo hi:Nat}(hh:hi<=⑦.size):Nx lo st (setArr st (mirror ⑦ lo hi ((hi-lo) / 2))):=⟨mirror_perm _ _ _ _,rfl,rfl,rfl,fun i hi'=>by
 show (mirror ⑦ lo hi ((hi-lo) / 2))[i]?=_;rw[getElem?_mirror_all hh,if_neg ¢]⟩
theorem ABU(C:Cmp prog w A E s κ G rk){lo n nrem:Nat}{st:SortSt}(B:Ba G rk κ a₀ st)(h1:1<=n)(hn:n<nrem)(hs:lo+nrem<=a₀.size)(up:Up rk ⑦ lo (lo+n)){Q:Option Bool->SortSt->Prop}
  (hy:N rk ⑦ (lo+n)<N rk ⑦ (lo+n-1)->Q (some true) st) (hno:Up rk ⑦ lo (lo+(n+1))->Q (some false) st):wpS ① A E s (ltAt' (lo+n) (lo+n-1)) Q st:=by
 r Tj C B ¢ ¢ ?_;by_cases c:N rk ⑦ (lo+n)<N rk ⑦ (lo+n-1)
 ·rw[decide_eq_true c]
  !hy c
 ·rw[decide_eq_false c]
  r hno fun i j li ij jh=>?_;by_cases d:j<lo+n
  ·!up i j li ij d
  ·by_cases e:i=j
   ·rw[e];!Int.le_refl _
   ·have:=up i (lo+n-1) li ¢ ¢
    h ej:j=lo+n:=by w
    rw[ej];w
theorem Xl(C:Cmp prog w A E s κ G rk){lo n0 nrem:Nat}{st:SortSt}(B:Ba G rk κ a₀ st)(h1:1<=n0)(hn:n0<=nrem)(hs:lo+nrem<=a₀.size)(up:Up rk ⑦ lo (lo+n0)){Q:(Option (Option Nat)×Nat)->SortSt->Prop}
  (h:∀ n,n0<=n->n<=nrem->Up rk ⑦ lo (lo+n)->(n<nrem->N rk ⑦ (lo+n)<N rk ⑦ (lo+n-1))->Q (none,n) st) :
  wpS ① A E s (forIn [n0:nrem] ((none,n0):Option (Option Nat)×Nat) fun _ r=>do
   let x <- ltAt' (lo+r.snd) (lo+r.snd-1)
   match x with
   | some smaller=>if smaller=true then pure (ForInStep.done (none,r.snd)) else pure (ForInStep.yield (none,r.snd+1))
   | _=>pure (ForInStep.done (some none,r.snd))) Q st:=by
 r wpS_forRange (I:=fun x c st'=>st'=st/\c=(none,x)/\n0<=x/\x<=nrem/\Up rk ⑦ lo (lo+x)) ?_ ?_ ⟨rfl,rfl,Nat.le_refl _,hn,up⟩
 ·rintro x c st' ax xb ⟨rfl,rfl,_,_,up'⟩
  r wpS_bind (ABU C B ¢ xb hs up' (fun lt=>?_) (fun up2=>?_))
  ·!wpS_pure (h x ax ¢ up' fun _=>lt)
  ·!wpS_pure ⟨rfl,rfl,by w,by w,up2⟩
 ·rintro c st' ⟨rfl,rfl,a1,a2,up'⟩
  r h _ a1 a2 up' fun z=>?_;w
end
variable{rk:Keyed->Int}{prog:Program}{w:World}{A:Around}{E:Value->Shared->Prop}{s:Shared}{G:Keyed->Prop}{κ:SortKind}{a₀:Array Keyed}
theorem Ly(C:Cmp prog w A E s κ G rk){lo nrem:Nat}{st:SortSt}(B:Ba G rk κ a₀ st)(h1:1<=nrem)(hs:lo+nrem<=a₀.size){Q:Option Nat->SortSt->Prop}
  (h:∀ n st',1<=n->n<=nrem->Nx lo st st'->Up rk (arrOf st') lo (lo+n)->Q (some n) st'):wpS ① A E s (JQ lo nrem) Q st:=by
 rw[Qp];r wpS_bind (Xl C B (Nat.le_refl 1) h1 hs (fun i j li ij jh=>by
  have:i=j:=by w
  rw[this];!Int.le_refl _) fun n n1 nn up lt=>?_)
 dsimp only;by_cases c:n=nrem
 ·rw[if_pos (by rw[c];!beq_self_eq_true _)]
  !wpS_pure (h n st n1 nn (Nx.refl _ _) up)
 rw[if_neg (by intro z;!c ⑱)];h sm:=lt ¢;by_cases d:n>1
 ·rw[if_pos d]
  r wpS_bind (Tj C B ¢ ¢ ?_);h a1:=up lo (lo+n-1) ② ¢ ¢;h a2:=B.ne (i:=lo) (j:=lo+n-1) ¢ ¢;rw[decide_eq_true (show N rk ⑦ lo<N rk ⑦ (lo+n-1) by w)];!wpS_pure (h n st n1 nn (Nx.refl _ _) up)
 rw[if_neg d];h e1:n=1:=by w
 subst e1;h wn:lo+1-1=lo:=by w
 rw[wn] at sm;r wpS_bind (wpS_lift (wpAny_rule ⟨rfl,?_⟩));r wpS_bind (wpS_mono (wpS_forRange (I:=fun x c st'=>st'=st/\c=(none,x,0)/\2<=x/\x<=nrem/\Down rk ⑦ lo (lo+x)) (Q:=fun c st'=>st'=st/\∃ m,c=(none,m,0)/\2<=m/\m<=nrem/\Down rk ⑦ lo (lo+m)) ?_ ?_ ⟨rfl,rfl,Nat.le_refl _,by w,?_⟩) ?_)
 ·rintro x c st' ax xb ⟨rfl,rfl,x2,_,dn⟩
  dsimp only;r wpS_bind (Tj C B ¢ ¢ ?_);by_cases c1:N rk (arrOf st') (lo+x)<N rk (arrOf st') (lo+x-1)
  ·rw[decide_eq_true c1]
   dsimp only;rw[if_pos rfl,if_neg ¢];r wpS_pure ⟨rfl,rfl,by w,by w,fun i j li ij jh=>?_⟩;by_cases d1:j<lo+x
   ·!dn i j li ij d1
   ·h ej:j=lo+x:=by w
    subst ej;by_cases e:i=lo+x
    ·rw[e];!Int.le_refl _
    ·have:=dn i (lo+x-1) li ¢ ¢
     w
  ·rw[decide_eq_false c1]
   dsimp only;rw[if_neg ¤];r wpS_bind (Tj C B ¢ ¢ ?_);h a2:=B.ne (i:=lo+x-1) (j:=lo+x) ¢ ¢;rw[decide_eq_true (show N rk (arrOf st') (lo+x-1)<N rk (arrOf st') (lo+x) by w)];dsimp only;rw[if_pos rfl];!wpS_pure ⟨rfl,x,rfl,x2,by w,dn⟩
 ·rintro c st' ⟨rfl,rfl,a1,a2,dn⟩
  !⟨rfl,_,rfl,a1,a2,dn⟩
 ·intro i j li ij jh
  by_cases e:i=j
  ·rw[e];!Int.le_refl _
  ·rw[show i=lo by w,show j=lo+1 by w]
   w
 ·rintro c st' ⟨rfl,m,rfl,m2,mn,dn⟩
  dsimp only;rw[if_neg ¢,reverseSlice'_eq];h sz:lo+m<=(arrOf st').size:=by rw[B.size];w
  h nx:=AFO (st:=st') (lo:=lo) sz;r wpS_bind (wpS_modify ?_);h up2:Up rk (arrOf (setArr st' (mirror (arrOf st') lo (lo+m) ((lo+m-lo) / 2)))) lo (lo+m):=fun i j li ij jh=>by
   show N rk (mirror (arrOf st') lo (lo+m) ((lo+m-lo) / 2)) i<=N rk (mirror (arrOf st') lo (lo+m) ((lo+m-lo) / 2)) j;rw[Sh sz,Sh sz,if_pos ¢,if_pos ¢];!dn _ _ ¢ ¢ ¢
  r wpS_bind (Xl C (B.nx nx) ¢ mn hs up2 fun n' n1' nn' up' _=>?_);!wpS_pure (h n' _ ¢ nn' nx up')
def KR:Nat->Nat->Nat->StateT SortSt Sem Bool:=sortPriv% PySem.Builtin.binarySort
theorem RB(lo n ok:Nat):KR lo n ok=(do
 for k in [max ok 1:n] do
  let mut l:=0
  let mut r:=k
  for _ in [0:k] do
   if l >= r then break
   let m:=(l+r) / 2
   let some less <- ltAt' (lo+k) (lo+m) | return false
   if less then r:=m else l:=m+1
  moveDown' (lo+k) (lo+l)
 return true):=rfl
theorem Qt(C:Cmp prog w A E s κ G rk){lo n ok:Nat}{st:SortSt}(B:Ba G rk κ a₀ st)(hn:lo+n<=a₀.size)(hok:ok<=n)(up:Up rk ⑦ lo (lo+ok)){Q:Bool->SortSt->Prop}
  (h:∀ st',Nx lo st st'->Up rk (arrOf st') lo (lo+n)->Q true st'):wpS ① A E s (KR lo n ok) Q st:=by
 rw[RB];r wpS_bind (wpS_mono (wpS_forRange (I:=fun k c st'=>c=(none,())/\Nx lo st st'/\Up rk (arrOf st') lo (lo+min k n))
  (Q:=fun c st'=>c=(none,())/\Nx lo st st'/\Up rk (arrOf st') lo (lo+n)) ?step ?fin ?init) ?post)
 case post =>
  rintro c st' ⟨rfl,nx,up'⟩;!wpS_pure (h st' nx up')
 case init =>
  r⟨rfl,Nx.refl _ _,fun i j li ij jh=>?_⟩;by_cases e:i=j
  ·rw[e];!Int.le_refl _
  ·!up i j li ij ¢
 case fin =>
  rintro c st' ⟨hc,nx,up'⟩;r⟨hc,nx,?_⟩
  rwa [show min (max (max ok 1) n) n=n by w] at up'
 case step =>
  rintro k c st' hak hkn ⟨rfl,nx,up'⟩;rw[show min k n=k by w] at up';h B':=B.nx nx;h hk:lo+k<a₀.size:=by w
  r wpS_bind (wpS_mono (wpS_forRange (I:=fun x c st''=>st''=st'/\∃ l r,c=(none,l,r)/\l<=r/\r<=k/\r-l<=k-x /\
    (∀ i,lo<=i->i<lo+l->N rk (arrOf st') i<=N rk (arrOf st') (lo+k))/\(∀ i,lo+r<=i->i<lo+k->N rk (arrOf st') (lo+k)<N rk (arrOf st') i))
   (Q:=fun c st''=>st''=st'/\∃ l r,c=(none,l,r)/\l<=k /\
    (∀ i,lo<=i->i<lo+l->N rk (arrOf st') i<=N rk (arrOf st') (lo+k))/\(∀ i,lo+l<=i->i<lo+k->N rk (arrOf st') (lo+k)<N rk (arrOf st') i)) ?istep ?ifin ?iinit) ?ipost)
  case iinit=>!⟨rfl,0,k,rfl,by w,by w,by w,fun i hi=>by w,fun i h1 h2=>by w⟩
  case ifin =>
   rintro c st'' ⟨rfl,l,r,rfl,hlr,hrk,hm,hlo,hhi⟩;have:l=r:=by w
   subst this;!⟨rfl,l,l,rfl,hrk,hlo,hhi⟩
  case istep =>
   rintro x c st'' _ hxk ⟨rfl,l,r,rfl,hlr,hrk,hm,hlo,hhi⟩;dsimp only;by_cases hge:l >= r
   ·rw[if_pos hge]
    have:l=r:=by w
    subst this;!wpS_pure ⟨rfl,l,l,rfl,hrk,hlo,hhi⟩
   ·rw[if_neg hge]
    r wpS_bind (Tj C B' hk ¢ ?_);by_cases hless:N rk (arrOf st'') (lo+k)<N rk (arrOf st'') (lo+(l+r) / 2)
    ·simp only[hless,decide_true,if_true]
     r wpS_pure ⟨rfl,l,(l+r) / 2,rfl,by w,by w,by w,hlo,fun i h1 h2=>?_⟩;!Int.lt_of_lt_of_le hless (up' _ _ ¢ h1 h2)
    ·simp only[hless,decide_false,Bool.false_eq_true,if_false]
     r wpS_pure ⟨rfl,(l+r) / 2+1,r,rfl,by w,by w,by w,fun i h0 h1=>?_,hhi⟩;!Int.le_trans (up' i (lo+(l+r) / 2) h0 ¢ ¢) (Int.not_lt.mp hless)
  case ipost =>
   rintro c st'' ⟨rfl,l,r,rfl,hlk,hlo,hhi⟩;show wpS _ _ _ _ (do moveDown' (lo+k) (lo+l);pure (ForInStep.yield (none,()))) _ _;rw[moveDown'_eq];h hks:lo+k<(arrOf st'').size:=by rw[B'.size];!hk
   h nx2:Nx lo st'' (setArr st'' (bubble (arrOf st'') (lo+k) (lo+k-(lo+l)))):=⟨bubble_perm _ _ _,rfl,rfl,rfl,fun i hi=>by
    show (bubble (arrOf st'') (lo+k) (lo+k-(lo+l)))[i]?=_;rw[getElem?_bubble hks _ ¢,if_neg ¢,if_neg ¢]⟩
   r wpS_bind (wpS_modify (wpS_pure ⟨rfl,nx.trans nx2,?_⟩));rw[show min (k+1) n=k+1 by w];intro i j li hij hj;show N rk (bubble (arrOf st'') (lo+k) (lo+k-(lo+l))) i<=N rk (bubble (arrOf st'') (lo+k) (lo+k-(lo+l))) j;rw[Rq hks ¢,Rq hks ¢,show lo+k-(lo+k-(lo+l))=lo+l by w]
   repeat' split
   all_goals first
    | (exfalso;w)
    | !Int.le_refl _
    | !hlo _ ¢ ¢
    | !Int.le_of_lt (hhi _ ¢ ¢)
    | !up' _ _ ¢ ¢ ¢
variable{rk:Keyed->Int}{prog:Program}{w:World}{A:Around}{E:Value->Shared->Prop}{s:Shared}{G:Keyed->Prop}{κ:SortKind}{a₀:Array Keyed}
def Cr:Bool->Keyed->Array Keyed->Nat->Nat->Nat->StateT SortSt Sem (Option Nat):=sortPriv% PySem.Builtin.gallop
def Eo(left:Bool)(key:Keyed)(arr:Array Keyed)(base i:Nat):StateT SortSt Sem (Option Bool):=do
  let x <- elem' arr (base+i)
  if left then lt' x key else return (<- lt' key x).map (!·)
theorem Vw(left:Bool)(key:Keyed)(arr:Array Keyed)(base n hint:Nat):Cr left key arr base n hint=(do
 let mut lastofs:=0
 let mut ofs:=1
 let mut lo:=0
 let mut hi:=0
 let some right <- Eo left key arr base hint | return none
 if right then
  let maxofs:=n-hint
  for _ in [0:n] do
   if ofs >= maxofs then break
   let some more <- Eo left key arr base (hint+ofs) | return none
   if !more then break
   lastofs:=ofs
   ofs:=2*ofs+1
  lo:=hint+lastofs+1
  hi:=hint+min ofs maxofs
 else
  let maxofs:=hint+1
  for _ in [0:n] do
   if ofs >= maxofs then break
   let some found <- Eo left key arr base (hint-ofs) | return none
   if found then break
   lastofs:=ofs
   ofs:=2*ofs+1
  lo:=hint+1-min ofs maxofs
  hi:=hint-lastofs
 for _ in [0:n] do
  if lo >= hi then break
  let m:=lo+(hi-lo) / 2
  let some more <- Eo left key arr base m | return none
  if more then lo:=m+1 else hi:=m
 return some hi):=rfl
def bey(rk:Keyed->Int)(left:Bool)(key:Keyed)(arr:Array Keyed)(base i:Nat):Bool:=if left then decide (N rk arr (base+i)<rk key) else !decide (rk key<N rk arr (base+i))
theorem Vm(C:Cmp prog w A E s κ G rk){left:Bool}{key:Keyed}{arr:Array Keyed}{base i:Nat}{st:SortSt}{Q:Option Bool->SortSt->Prop}(hk:G key)(al:Al G arr)(kd:kindOf st=κ)(hi:base+i<arr.size)(h:Q (some (bey rk left key arr base i)) st) :
  wpS ① A E s (Eo left key arr base i) Q st:=by
 unfold Eo;r wpS_bind (Bk hi ?_);unfold bey at h;rw[Fo hi] at h;cases left with
 | true =>
  rw[if_pos rfl] at h ⊢;!C _ _ (al.at hi) hk st _ kd h
 | false =>
  rw[if_neg ¤] at h ⊢;r wpS_bind (C _ _ hk (al.at hi) st _ kd (wpS_pure ?_));!h
def Mono(p:Nat->Bool)(n:Nat):Prop:=∀ i j,i<=j->j<n->p j=true->p i=true
theorem Eu{left:Bool}{key:Keyed}{arr:Array Keyed}{base n:Nat}(up:Up rk arr base (base+n)):Mono (bey rk left key arr base) n:=fun i j ij jn h=>by
 have:=up (base+i) (base+j) ¢ ¢ ¢;unfold bey at h ⊢;cases left with
 | true =>
  rw[if_pos rfl] at h ⊢;have:=of_decide_eq_true h;!decide_eq_true ¢
 | false =>
  rw[if_neg ¤] at h ⊢;h h':¬ rk key<N rk arr (base+j):=fun z=>by rw[decide_eq_true z] at h;cases h
  rw[decide_eq_false ¢];rfl
theorem Df(C:Cmp prog w A E s κ G rk){left:Bool}{key:Keyed}{arr:Array Keyed}{base n hint:Nat}{st:SortSt}{Q:Option Nat->SortSt->Prop}(hk:G key)(al:Al G arr)(kd:kindOf st=κ)(hn:base+n<=arr.size)(hh:hint<n)(mo:Mono (bey rk left key arr base) n)
  (h:∀ k,k<=n->(∀ i,i<k->bey rk left key arr base i=true)->(∀ i,k<=i->i<n->bey rk left key arr base i=false)->Q (some k) st):wpS ① A E s (Cr left key arr base n hint) Q st:=by
 rw[Vw];generalize hp:bey rk left key arr base=p at mo h;h ask:∀{i:Nat}{Q:Option Bool->SortSt->Prop},i<n->Q (some (p i)) st->wpS ① A E s (Eo left key arr base i) Q st:=fun {i Q} hi q=>Vm C hk al kd ¢ (by rw[hp];!q);h down:∀{k:Nat},(k<n->p k=false)->∀ i,k<=i->i<n->p i=false:=fun {k} hk i ki il=>by
  cases e:p i with
  | false=>rfl
  | true =>
   have:=mo k i ki il e;rw[hk ¢] at this;cases this
 h fin:∀{lo hi:Nat},lo<=hi->hi<=n->(∀ i,i<lo->p i=true)->(∀ i,hi<=i->i<n->p i=false) ->
   ∀{Q':(Option (Option Nat)×Nat×Nat)->SortSt->Prop},(∀ l,l<=n->(∀ i,i<l->p i=true)->(∀ i,l<=i->i<n->p i=false)->Q' (none,l,l) st) ->
   wpS ① A E s (forIn [0:n] ((none,lo,hi):Option (Option Nat)×Nat×Nat) fun _ r =>
     if r.snd.fst >= r.snd.snd then pure (ForInStep.done (none,r.snd.fst,r.snd.snd))
     else do
      let x <- Eo left key arr base (r.snd.fst+(r.snd.snd-r.snd.fst) / 2)
      match x with
      | some more =>
       if more=true then pure (ForInStep.yield (none,r.snd.fst+(r.snd.snd-r.snd.fst) / 2+1,r.snd.snd))
       else pure (ForInStep.yield (none,r.snd.fst,r.snd.fst+(r.snd.snd-r.snd.fst) / 2))
      | _=>pure (ForInStep.done (some none,r.snd.fst,r.snd.snd))) Q' st:=fun {lo hi} lh hn' ht hf {Q'} h'=>by
  r wpS_mono (wpS_forRange (I:=fun x c st'=>st'=st/\∃ l r,c=(none,l,r)/\l<=r/\r<=n/\r-l<=n-x/\(∀ i,i<l->p i=true)/\(∀ i,r<=i->i<n->p i=false))
   (Q:=fun c st'=>st'=st/\∃ l,c=(none,l,l)/\l<=n/\(∀ i,i<l->p i=true)/\(∀ i,l<=i->i<n->p i=false)) ?_ ?_ ⟨rfl,lo,hi,rfl,lh,hn',by w,ht,hf⟩) ?_
  ·rintro x c st' _ xn ⟨rfl,l,r,rfl,lr,rn,sz,tr,fa⟩
   dsimp only;by_cases c1:l >= r
   ·rw[if_pos c1]
    have:l=r:=by w
    subst this;!wpS_pure ⟨rfl,l,rfl,rn,tr,fa⟩
   ·rw[if_neg c1]
    r wpS_bind (ask ¢ ?_);cases e:p (l+(r-l) / 2) with
    | true =>
     dsimp only;rw[if_pos rfl];!wpS_pure ⟨rfl,_,r,rfl,by w,rn,by w,fun i hi=>mo i _ ¢ ¢ e,fa⟩
    | false =>
     dsimp only;rw[if_neg ¤];!wpS_pure ⟨rfl,l,_,rfl,by w,by w,by w,tr,down fun _=>e⟩
  ·rintro c st' ⟨rfl,l,r,rfl,lr,rn,sz,tr,fa⟩
   have:l=r:=by w
   subst this;!⟨rfl,l,rfl,rn,tr,fa⟩
  ·rintro c st' ⟨rfl,l,rfl,ln,tr,fa⟩
   !h' l ln tr fa
 r wpS_bind (ask hh ?_);cases ph:p hint with
 | true =>
  dsimp only;rw[if_pos rfl];r wpS_bind (wpS_mono (wpS_forRange (I:=fun x c st'=>st'=st/\∃ l o,c=(none,l,o)/\l<o/\x+1<=o/\hint+l<n/\p (hint+l)=true)
   (Q:=fun c st'=>st'=st/\∃ l o,c=(none,l,o)/\l<o/\hint+l<n/\p (hint+l)=true/\(o<n-hint->p (hint+o)=false)) ?_ ?_ ⟨rfl,0,1,rfl,by w,by w,by w,ph⟩) ?_)
  ·rintro x c st' _ xn ⟨rfl,l,o,rfl,lo,xo,ln,pl⟩
   dsimp only;by_cases c1:o >= n-hint
   ·rw[if_pos c1]
    !wpS_pure ⟨rfl,l,o,rfl,lo,ln,pl,fun z=>absurd z ¢⟩
   ·rw[if_neg c1]
    r wpS_bind (ask ¢ ?_);cases e:p (hint+o) with
    | true =>
     dsimp only;rw[if_neg ¤];!wpS_pure ⟨rfl,o,_,rfl,by w,by w,by w,e⟩
    | false =>
     dsimp only;rw[if_pos ¤];!wpS_pure ⟨rfl,l,o,rfl,lo,ln,pl,fun _=>e⟩
  ·rintro c st' ⟨rfl,l,o,rfl,lo,xo,ln,pl⟩
   !⟨rfl,l,o,rfl,lo,ln,pl,fun z=>absurd z ¢⟩
  ·rintro c st' ⟨rfl,l,o,rfl,lo,ln,pl,pf⟩
   dsimp only;r wpS_bind (fin (lo:=hint+l+1) (hi:=hint+min o (n-hint)) ¢ ¢ (fun i hi=>mo i (hint+l) ¢ ln pl) ?_ fun k kn kt kf=>wpS_pure (h k kn kt kf));by_cases c1:o<n-hint
   ·rw[show hint+min o (n-hint)=hint+o by w]
    !down fun _=>pf c1
   ·rw[show hint+min o (n-hint)=n by w]
    !fun i a b=>absurd a ¢
 | false =>
  dsimp only;rw[if_neg ¤];r wpS_bind (wpS_mono (wpS_forRange (I:=fun x c st'=>st'=st/\∃ l o,c=(none,l,o)/\l<o/\x+1<=o/\l<=hint/\p (hint-l)=false)
   (Q:=fun c st'=>st'=st/\∃ l o,c=(none,l,o)/\l<o/\l<=hint/\p (hint-l)=false/\(o<hint+1->p (hint-o)=true)) ?_ ?_ ⟨rfl,0,1,rfl,by w,by w,by w,ph⟩) ?_)
  ·rintro x c st' _ xn ⟨rfl,l,o,rfl,lo,xo,ln,pl⟩
   dsimp only;by_cases c1:o >= hint+1
   ·rw[if_pos c1]
    !wpS_pure ⟨rfl,l,o,rfl,lo,ln,pl,fun z=>absurd z ¢⟩
   ·rw[if_neg c1]
    r wpS_bind (ask ¢ ?_);cases e:p (hint-o) with
    | true =>
     dsimp only;rw[if_pos rfl];!wpS_pure ⟨rfl,l,o,rfl,lo,ln,pl,fun _=>e⟩
    | false =>
     dsimp only;rw[if_neg ¤];!wpS_pure ⟨rfl,o,_,rfl,by w,by w,by w,e⟩
  ·rintro c st' ⟨rfl,l,o,rfl,lo,xo,ln,pl⟩
   !⟨rfl,l,o,rfl,lo,ln,pl,fun z=>absurd z ¢⟩
  ·rintro c st' ⟨rfl,l,o,rfl,lo,ln,pl,pt⟩
   dsimp only;r wpS_bind (fin (lo:=hint+1-min o (hint+1)) (hi:=hint-l) ¢ ¢ ?_ (down fun _=>pl) fun k kn kt kf=>wpS_pure (h k kn kt kf));by_cases c1:o<hint+1
   ·rw[show hint+1-min o (hint+1)=hint+1-o by w]
    !fun i hi=>mo i (hint-o) ¢ ¢ (pt c1)
   ·rw[show hint+1-min o (hint+1)=0 by w]
    !fun i hi=>absurd hi ¢
variable{rk:Keyed->Int}{prog:Program}{w:World}{A:Around}{E:Value->Shared->Prop}{s:Shared}{G:Keyed->Prop}{κ:SortKind}{a₀:Array Keyed}
def Srt(rk:Keyed->Int)(l:List Keyed):Prop:=l.Pairwise fun x y=>rk x<=rk y
structure MI(rk:Keyed->Int)(a b out:List Keyed)(ia ib:Nat):Prop where
 perm:(out++(a.drop ia++b.drop ib)).Perm (a++b)
 srt:Srt rk out
 oa:∀ x∈out,∀ y∈a.drop ia,rk x<=rk y
 ob:∀ x∈out,∀ y∈b.drop ib,rk x<=rk y
theorem RK{α:Type}(l:List α)(i k:Nat):l.drop i=(l.drop i).take k++l.drop (i+k):=by rw[<- List.drop_drop];!(List.take_append_drop k (l.drop i)).symm
theorem MI.takeA{a b out:List Keyed}{ia ib:Nat}(m:MI rk a b out ia ib)(sa:Srt rk a)(k:Nat)(h:∀ y∈(a.drop ia).take k,∀ z∈b.drop ib,rk y<=rk z):MI rk a b (out++(a.drop ia).take k) (ia+k) ib:=by
 h e:=RK a ia k;h sd:Srt rk (a.drop ia):=sa.sublist (List.drop_sublist ..);r⟨?_,?_,?_,?_⟩
 ·r List.Perm.trans ?_ m.perm
  rw[List.append_assoc];r List.Perm.append_left _ ?_;rw[<- List.append_assoc,<- e]
 ·r List.pairwise_append.mpr ⟨m.srt,sd.sublist (List.take_sublist ..),fun x hx y hy=>m.oa x hx y (List.mem_of_mem_take hy)⟩
 ·intro x hx y hy
  rcases List.mem_append.mp hx with hx | hx
  ·!m.oa x hx y (by rw[e];!List.mem_append_right _ hy)
  ·unfold Srt at sd
   rw[e] at sd;!(List.pairwise_append.mp sd).2.2 x hx y hy
 ·intro x hx y hy
  rcases List.mem_append.mp hx with hx | hx
  ·!m.ob x hx y hy
  ·!h x hx y hy
theorem MI.takeB{a b out:List Keyed}{ia ib:Nat}(m:MI rk a b out ia ib)(sb:Srt rk b)(k:Nat)(h:∀ y∈(b.drop ib).take k,∀ z∈a.drop ia,rk y<=rk z):MI rk a b (out++(b.drop ib).take k) ia (ib+k):=by
 h e:=RK b ib k;h sd:Srt rk (b.drop ib):=sb.sublist (List.drop_sublist ..);r⟨?_,?_,?_,?_⟩
 ·r List.Perm.trans ?_ m.perm
  rw[List.append_assoc];r List.Perm.append_left _ ?_;rw[<- List.append_assoc];r(List.Perm.append_right _ (List.perm_append_comm)).trans ?_;rw[List.append_assoc,<- e]
 ·r List.pairwise_append.mpr ⟨m.srt,sd.sublist (List.take_sublist ..),fun x hx y hy=>m.ob x hx y (List.mem_of_mem_take hy)⟩
 ·intro x hx y hy
  rcases List.mem_append.mp hx with hx | hx
  ·!m.oa x hx y hy
  ·!h x hx y hy
 ·intro x hx y hy
  rcases List.mem_append.mp hx with hx | hx
  ·!m.ob x hx y (by rw[e];!List.mem_append_right _ hy)
  ·unfold Srt at sd
   rw[e] at sd;!(List.pairwise_append.mp sd).2.2 x hx y hy
def Mg(rk:Keyed->Int)(a b r:List Keyed):Prop:=r.Perm (a++b)/\Srt rk r
theorem MI.doneB{a b out:List Keyed}{ia ib:Nat}(m:MI rk a b out ia ib)(sa:Srt rk a)(h:b.length<=ib):Mg rk a b (out++a.drop ia++b.drop ib):=by
 rw[List.drop_eq_nil_of_le h,List.append_nil];h p:=m.perm;rw[List.drop_eq_nil_of_le h,List.append_nil] at p;!⟨p,List.pairwise_append.mpr ⟨m.srt,sa.sublist (List.drop_sublist ..),m.oa⟩⟩
theorem MI.doneA{a b out:List Keyed}{ia ib:Nat}(m:MI rk a b out ia ib)(sb:Srt rk b)(h:a.length<=ia):Mg rk a b (out++a.drop ia++b.drop ib):=by
 rw[List.drop_eq_nil_of_le h,List.append_nil];h p:=m.perm;rw[List.drop_eq_nil_of_le h,List.nil_append] at p;!⟨p,List.pairwise_append.mpr ⟨m.srt,sb.sublist (List.drop_sublist ..),m.ob⟩⟩
theorem MI.last{a b out:List Keyed}{ia ib:Nat}(m:MI rk a b out ia ib)(sb:Srt rk b)(h:ia+1=a.length)(hl:∀ y∈b,∀ z∈a.drop ia,rk y<=rk z):Mg rk a b (out++b.drop ib++a.drop ia):=by
 r⟨?_,?_⟩
 ·r List.Perm.trans ?_ m.perm
  rw[List.append_assoc];!List.Perm.append_left _ List.perm_append_comm
 ·h one:Srt rk (a.drop ia):=by
   h l1:(a.drop ia).length=1:=by rw[List.length_drop];w
   o⟨x,ex⟩:=List.length_eq_one_iff.mp l1;rw[ex];!List.pairwise_singleton ..
  r List.pairwise_append.mpr ⟨List.pairwise_append.mpr ⟨m.srt,sb.sublist (List.drop_sublist ..),m.ob⟩,one,fun x hx y hy=>?_⟩;rcases List.mem_append.mp hx with hx | hx
  ·!m.oa x hx y hy
  ·!hl x (List.mem_of_mem_drop hx) y hy
variable{rk:Keyed->Int}{prog:Program}{w:World}{A:Around}{E:Value->Shared->Prop}{s:Shared}{G:Keyed->Prop}{κ:SortKind}{a₀:Array Keyed}
theorem ifc{c:Prop}{α:Type}{i j:Decidable c}{x y u v:α}(h1:x=u)(h2:y=v):(@ite α c i x y)=(@ite α c j u v):=by rw[h1,h2];congr
def Dm:Nat->StateT SortSt Sem Unit:=sortPriv% PySem.Builtin.setMinGallop
theorem VR(g:Nat):Dm g=modify fun s=>SortSt.mk' (kindOf s) (arrOf s) (pendingOf s) g (failedOf s):=rfl
abbrev loDone(a b out:Array Keyed)(ia ib:Nat):Array Keyed:=out++a.extract ia a.size++b.extract ib b.size
abbrev loLast(a b out:Array Keyed)(ia ib:Nat):Array Keyed:=out++b.extract ib b.size++a.extract ia a.size
abbrev S1:=Option (Array Keyed)×Array Keyed×Nat×Nat×Nat×Nat
abbrev S2:=Option (Array Keyed)×Array Keyed×Nat×Nat×Nat×Nat×Nat
abbrev S0:=Option (Array Keyed)×Array Keyed×Nat×Nat×Nat
def loOne(a b:Array Keyed)(mg:Nat)(r:S1):StateT SortSt Sem (ForInStep S1):=do
 let y <- elem' b r.snd.snd.snd.fst
 let x <- elem' a r.snd.snd.fst
 let c <- lt' y x
 match c with
 | some bWins =>
  if bWins=true then do
   let y <- elem' b r.snd.snd.snd.fst
   if (r.snd.snd.snd.fst+1==b.size)=true then
    pure (ForInStep.done (some (loDone a b (r.snd.fst.push y) r.snd.snd.fst (r.snd.snd.snd.fst+1)),r.snd.fst.push y,r.snd.snd.fst,r.snd.snd.snd.fst+1,0,r.snd.snd.snd.snd.snd+1))
   else if r.snd.snd.snd.snd.snd+1 >= mg then
    pure (ForInStep.done (none,r.snd.fst.push y,r.snd.snd.fst,r.snd.snd.snd.fst+1,0,r.snd.snd.snd.snd.snd+1))
   else pure (ForInStep.yield (none,r.snd.fst.push y,r.snd.snd.fst,r.snd.snd.snd.fst+1,0,r.snd.snd.snd.snd.snd+1))
  else do
   let x <- elem' a r.snd.snd.fst
   if (r.snd.snd.fst+1+1==a.size)=true then
    pure (ForInStep.done (some (loLast a b (r.snd.fst.push x) (r.snd.snd.fst+1) r.snd.snd.snd.fst),r.snd.fst.push x,r.snd.snd.fst+1,r.snd.snd.snd.fst,r.snd.snd.snd.snd.fst+1,0))
   else if r.snd.snd.snd.snd.fst+1 >= mg then
    pure (ForInStep.done (none,r.snd.fst.push x,r.snd.snd.fst+1,r.snd.snd.snd.fst,r.snd.snd.snd.snd.fst+1,0))
   else pure (ForInStep.yield (none,r.snd.fst.push x,r.snd.snd.fst+1,r.snd.snd.snd.fst,r.snd.snd.snd.snd.fst+1,0))
 | _=>pure (ForInStep.done (some (loDone a b r.snd.fst r.snd.snd.fst r.snd.snd.snd.fst),r.snd.fst,r.snd.snd.fst,r.snd.snd.snd.fst,r.snd.snd.snd.snd.fst,r.snd.snd.snd.snd.snd))
def loEnd(a b:Array Keyed)(mg ac bc:Nat)(out:Array Keyed)(ia ib:Nat):StateT SortSt Sem (ForInStep S2):=do
 let x <- elem' a ia
 if (ia+1+1==a.size)=true then pure (ForInStep.done (some (loLast a b (out.push x) (ia+1) ib),out.push x,ia+1,ib,mg,ac,bc))
 else if (decide (ac<7)&&decide (bc<7))=true then pure (ForInStep.done (none,out.push x,ia+1,ib,mg,ac,bc))
 else pure (ForInStep.yield (none,out.push x,ia+1,ib,mg,ac,bc))
def loMid(a b:Array Keyed)(mg k bc:Nat)(out:Array Keyed)(ia ib:Nat):StateT SortSt Sem (ForInStep S2):=do
 let y <- elem' b ib
 if (ib+1==b.size)=true then pure (ForInStep.done (some (loDone a b (out.push y) ia (ib+1)),out.push y,ia,ib+1,mg,k,bc))
 else do
  let x <- elem' a ia
  let r <- Cr true x b (ib+1) (b.size-(ib+1)) 0
  match r with
  | some k' =>
   if k'>0 then
    if (ib+1+k'==b.size)=true then pure (ForInStep.done (some (loDone a b (out.push y++b.extract (ib+1) (ib+1+k')) ia (ib+1+k')),out.push y++b.extract (ib+1) (ib+1+k'),ia,ib+1+k',mg,k,k'))
    else loEnd a b mg k k' (out.push y++b.extract (ib+1) (ib+1+k')) ia (ib+1+k')
   else loEnd a b mg k k' (out.push y) ia (ib+1)
  | _=>pure (ForInStep.done (some (loDone a b (out.push y) ia (ib+1)),out.push y,ia,ib+1,mg,k,bc))
def loGal(a b:Array Keyed)(mg ac bc:Nat)(out:Array Keyed)(ia ib:Nat):StateT SortSt Sem (ForInStep S2):=do
 Dm mg
 let y <- elem' b ib
 let r <- Cr false y a ia (a.size-ia) 0
 match r with
 | some k =>
  if k>0 then
   if (ia+k+1==a.size)=true then pure (ForInStep.done (some (loLast a b (out++a.extract ia (ia+k)) (ia+k) ib),out++a.extract ia (ia+k),ia+k,ib,mg,k,bc))
   else if (ia+k==a.size)=true then pure (ForInStep.done (some (loDone a b (out++a.extract ia (ia+k)) (ia+k) ib),out++a.extract ia (ia+k),ia+k,ib,mg,k,bc))
   else loMid a b mg k bc (out++a.extract ia (ia+k)) (ia+k) ib
  else loMid a b mg k bc out ia ib
 | _=>pure (ForInStep.done (some (loDone a b out ia ib),out,ia,ib,mg,ac,bc))
def Ig:Array Keyed->Array Keyed->StateT SortSt Sem (Array Keyed):=sortPriv% PySem.Builtin.mergeLo
theorem Uz(a b:Array Keyed):Ig a b=(do
 rule "list.sort.merge-lo"
 let total:=a.size+b.size
 let done (out:Array Keyed) (ia ib:Nat):=out++a.extract ia a.size++b.extract ib b.size
 let lastOfA (out:Array Keyed) (ia ib:Nat):=out++b.extract ib b.size++a.extract ia a.size
 let mut out:Array Keyed:=#[<- elem' b 0]
 let mut ia:=0
 let mut ib:=1
 if ib==b.size then return done out ia ib
 if ia+1==a.size then return lastOfA out ia ib
 let mut minGallop:=gallopOf (<- get)
 for _ in [0:total] do
  let mut acount:=0
  let mut bcount:=0
  for _ in [0:total] do
   let some bWins <- lt' (<- elem' b ib) (<- elem' a ia) | return done out ia ib
   if bWins then
    out:=out.push (<- elem' b ib);ib:=ib+1;bcount:=bcount+1;acount:=0
    if ib==b.size then return done out ia ib
    if bcount >= minGallop then break
   else
    out:=out.push (<- elem' a ia);ia:=ia+1;acount:=acount+1;bcount:=0
    if ia+1==a.size then return lastOfA out ia ib
    if acount >= minGallop then break
  rule "list.sort.gallop"
  minGallop:=minGallop+1
  for _ in [0:total] do
   if minGallop>1 then minGallop:=minGallop-1
   Dm minGallop
   let some k <- Cr false (<- elem' b ib) a ia (a.size-ia) 0 | return done out ia ib
   acount:=k
   if k>0 then
    out:=out++a.extract ia (ia+k);ia:=ia+k
    if ia+1==a.size then return lastOfA out ia ib
    if ia==a.size then return done out ia ib
   out:=out.push (<- elem' b ib);ib:=ib+1
   if ib==b.size then return done out ia ib
   let some k <- Cr true (<- elem' a ia) b ib (b.size-ib) 0 | return done out ia ib
   bcount:=k
   if k>0 then
    out:=out++b.extract ib (ib+k);ib:=ib+k
    if ib==b.size then return done out ia ib
   out:=out.push (<- elem' a ia);ia:=ia+1
   if ia+1==a.size then return lastOfA out ia ib
   if acount<7&&bcount<7 then break
  minGallop:=minGallop+1
  Dm minGallop
 unsupported "internal:list.sort.merge-bound"):=rfl
set_option pp.proofs true in
theorem Tq(a b:Array Keyed):Ig a b=(do
 liftM (rule "list.sort.merge-lo")
 let y <- elem' b 0
 if (1==b.size)=true then pure (loDone a b #[y] 0 1)
 else if (0+1==a.size)=true then pure (loLast a b #[y] 0 1)
 else do
  let g <- get
  let r <- forIn [0:a.size+b.size] ((none,#[y],0,1,gallopOf g):S0) fun _ r0=>do
   let r1 <- forIn [0:a.size+b.size] ((none,r0.snd.fst,r0.snd.snd.fst,r0.snd.snd.snd.fst,0,0):S1) fun _ r=>loOne a b r0.snd.snd.snd.snd r
   match r1.fst with
   | some x=>pure (ForInStep.done ((some x,r1.snd.fst,r1.snd.snd.fst,r1.snd.snd.snd.fst,r0.snd.snd.snd.snd):S0))
   | none=>do
    liftM (rule "list.sort.gallop")
    let r2 <- forIn [0:a.size+b.size] ((none,r1.snd.fst,r1.snd.snd.fst,r1.snd.snd.snd.fst,r0.snd.snd.snd.snd+1,r1.snd.snd.snd.snd.fst,r1.snd.snd.snd.snd.snd):S2) fun _ r =>
     if r.snd.snd.snd.snd.fst>1 then loGal a b (r.snd.snd.snd.snd.fst-1) r.snd.snd.snd.snd.snd.fst r.snd.snd.snd.snd.snd.snd r.snd.fst r.snd.snd.fst r.snd.snd.snd.fst
     else loGal a b r.snd.snd.snd.snd.fst r.snd.snd.snd.snd.snd.fst r.snd.snd.snd.snd.snd.snd r.snd.fst r.snd.snd.fst r.snd.snd.snd.fst
    match r2.fst with
    | some x=>pure (ForInStep.done ((some x,r2.snd.fst,r2.snd.snd.fst,r2.snd.snd.snd.fst,r2.snd.snd.snd.snd.fst):S0))
    | none=>do
     Dm (r2.snd.snd.snd.snd.fst+1)
     pure (ForInStep.yield ((none,r2.snd.fst,r2.snd.snd.fst,r2.snd.snd.snd.fst,r2.snd.snd.snd.snd.fst+1):S0))
  match r.fst with
  | some x=>pure x
  | none=>unsupported "internal:list.sort.merge-bound"):=by
 rw[Uz];dsimp only
 congr 1
 funext _
 congr 1
 funext y
 r ifc rfl (ifc rfl ?_)
 congr 1
 funext g
 congr 1
 ·congr 1
  funext x r0
  congr 1
  funext r1
  o⟨o1,r1⟩:=r1;cases o1 with
  | some x=>rfl
  | none =>
   dsimp only
   congr 1
   funext u
   congr 1
   funext r2
   o⟨o2,r2⟩:=r2;cases o2<;>rfl
 ·funext r
  o⟨o,r⟩:=r;cases o<;>rfl
variable{rk:Keyed->Int}{prog:Program}{w:World}{A:Around}{E:Value->Shared->Prop}{s:Shared}{G:Keyed->Prop}{κ:SortKind}{a₀:Array Keyed}
structure Gx(st st':SortSt):Prop where
 arr:arrOf st'=arrOf st
 kind:kindOf st'=kindOf st
 failed:failedOf st'=failedOf st
 pend:pendingOf st'=pendingOf st
theorem Gx.refl(st:SortSt):Gx st st:=⟨rfl,rfl,rfl,rfl⟩
theorem Rr{out b:Array Keyed}{ib:Nat}(h:ib<b.size):(out.push b[ib]).toList=out.toList++(b.toList.drop ib).take 1:=by
 rw[Array.toList_push]
 congr 1
 h hl:ib<b.toList.length:=by u h
 rw[List.drop_eq_getElem_cons hl,List.take_succ_cons,List.take_zero];simp
theorem XJ{out a:Array Keyed}(i k:Nat):(out++a.extract i (i+k)).toList=out.toList++(a.toList.drop i).take k:=by
 rw[Array.toList_append,Array.toList_extract]
 congr 1
 simp[List.extract]
theorem Ih(a:Array Keyed)(i:Nat):(a.extract i a.size).toList=a.toList.drop i:=by
 rw[Array.toList_extract];simp[List.extract];rw[List.take_of_length_le ¥]
theorem TF(a b out:Array Keyed)(ia ib:Nat):(loDone a b out ia ib).toList=out.toList++a.toList.drop ia++b.toList.drop ib:=by
 unfold loDone;rw[Array.toList_append,Array.toList_append,Ih,Ih]
theorem ABJ(a b out:Array Keyed)(ia ib:Nat):(loLast a b out ia ib).toList=out.toList++b.toList.drop ib++a.toList.drop ia:=by
 unfold loLast;rw[Array.toList_append,Array.toList_append,Ih,Ih]
theorem Dn{a:Array Keyed}{i:Nat}{z:Keyed}(h:z∈a.toList.drop i):∃ j,i<=j/\∃ hj:j<a.size,z=a[j]:=by
 o⟨k,hk,e⟩:=List.mem_iff_getElem.mp h;rw[List.length_drop] at hk;r⟨i+k,by w,by
               have:a.toList.length=a.size:=by simp
               w,?_⟩
 rw[<- e,List.getElem_drop];simp
theorem CW{a:Array Keyed}{i k:Nat}{z:Keyed}(h:z∈(a.toList.drop i).take k):∃ j,i<=j/\j<i+k/\∃ hj:j<a.size,z=a[j]:=by
 o⟨n,hk,e⟩:=List.mem_iff_getElem.mp h;rw[List.length_take,List.length_drop] at hk;have:a.toList.length=a.size:=by simp
 r⟨i+n,by w,by w,by w,?_⟩;rw[<- e,List.getElem_take,List.getElem_drop];simp
theorem Ep{a:Array Keyed}(sa:Srt rk a.toList){i j:Nat}(ij:i<=j)(hj:j<a.size):rk (a[i]'¢)<=rk a[j]:=by
 by_cases e:i=j
 ·subst e;!Int.le_refl _
 ·have:=List.pairwise_iff_getElem.mp sa i j (by simp;w) (by u hj) ¢
  u this
theorem QL{a:Array Keyed}(sa:Srt rk a.toList){lo hi:Nat}(h:hi<=a.size):Up rk a lo hi:=fun i j li ij jh=>by
 rw[Fo (show i<a.size by w),Fo (show j<a.size by w)];!Ep sa ij ¢
section
variable{a b:Array Keyed}{st:SortSt}
def At(rk:Keyed->Int)(a b out:Array Keyed)(ia ib:Nat):Prop:=MI rk a.toList b.toList out.toList ia ib/\ia+1<a.size/\ib<b.size
structure Lo(G:Keyed->Prop)(rk:Keyed->Int)(a b:Array Keyed):Prop where
 ga:Al G a
 gb:Al G b
 sa:Srt rk a.toList
 sb:Srt rk b.toList
 hl:∀ y∈b.toList,∀ z∈a.toList.drop (a.size-1),rk y<=rk z
theorem Lo.done(L:Lo G rk a b){out:Array Keyed}{ia ib:Nat}(m:MI rk a.toList b.toList out.toList ia ib)(h:b.size<=ib):Mg rk a.toList b.toList (loDone a b out ia ib).toList:=by
 rw[TF];!m.doneB L.sa (by u h)
theorem Lo.doneA(L:Lo G rk a b){out:Array Keyed}{ia ib:Nat}(m:MI rk a.toList b.toList out.toList ia ib)(h:a.size<=ia):Mg rk a.toList b.toList (loDone a b out ia ib).toList:=by
 rw[TF];!m.doneA L.sb (by u h)
theorem Lo.last(L:Lo G rk a b){out:Array Keyed}{ia ib:Nat}(m:MI rk a.toList b.toList out.toList ia ib)(h:ia+1=a.size):Mg rk a.toList b.toList (loLast a b out ia ib).toList:=by
 rw[ABJ];r m.last L.sb (by u h) fun y hy z hz=>L.hl y hy z ?_;rw[show a.size-1=ia by w];!hz
theorem Lo.stepB(L:Lo G rk a b){out:Array Keyed}{ia ib:Nat}(m:MI rk a.toList b.toList out.toList ia ib)(hb:ib<b.size)(h:∀ j,ia<=j->∀ hj:j<a.size,rk b[ib]<=rk a[j]):MI rk a.toList b.toList (out.push b[ib]).toList ia (ib+1):=by
 rw[Rr hb];r m.takeB L.sb 1 fun y hy z hz=>?_;o⟨j,j1,j2,hj,rfl⟩:=CW hy;have:j=ib:=by w
 subst this;o⟨i,i1,hi,rfl⟩:=Dn hz;!h i i1 hi
theorem Lo.stepA(L:Lo G rk a b){out:Array Keyed}{ia ib:Nat}(m:MI rk a.toList b.toList out.toList ia ib)(ha:ia<a.size)(h:∀ j,ib<=j->∀ hj:j<b.size,rk a[ia]<=rk b[j]):MI rk a.toList b.toList (out.push a[ia]).toList (ia+1) ib:=by
 rw[Rr ha];r m.takeA L.sa 1 fun y hy z hz=>?_;o⟨j,j1,j2,hj,rfl⟩:=CW hy;have:j=ia:=by w
 subst this;o⟨i,i1,hi,rfl⟩:=Dn hz;!h i i1 hi
theorem Lo.manyA(L:Lo G rk a b){out:Array Keyed}{ia ib k:Nat}(m:MI rk a.toList b.toList out.toList ia ib)(h:∀ i,ia<=i->i<ia+k->∀ hi:i<a.size,∀ j,ib<=j->∀ hj:j<b.size,rk a[i]<=rk b[j]):MI rk a.toList b.toList (out++a.extract ia (ia+k)).toList (ia+k) ib:=by
 rw[XJ];r m.takeA L.sa k fun y hy z hz=>?_;o⟨i,i1,i2,hi,rfl⟩:=CW hy;o⟨j,j1,hj,rfl⟩:=Dn hz;!h i i1 i2 hi j j1 hj
theorem Lo.manyB(L:Lo G rk a b){out:Array Keyed}{ia ib k:Nat}(m:MI rk a.toList b.toList out.toList ia ib)(h:∀ i,ib<=i->i<ib+k->∀ hi:i<b.size,∀ j,ia<=j->∀ hj:j<a.size,rk b[i]<=rk a[j]):MI rk a.toList b.toList (out++b.extract ib (ib+k)).toList ia (ib+k):=by
 rw[XJ];r m.takeB L.sb k fun y hy z hz=>?_;o⟨i,i1,i2,hi,rfl⟩:=CW hy;o⟨j,j1,hj,rfl⟩:=Dn hz;!h i i1 i2 hi j j1 hj
theorem QZ{st st':SortSt}(g:Gx st st')(m:Nat):Gx st (SortSt.mk' (kindOf st') (arrOf st') (pendingOf st') m (failedOf st')):=⟨g.arr,g.kind,g.failed,g.pend⟩
theorem setMin{st:SortSt}{g:Nat}{Q:Unit->SortSt->Prop}(h:Q () (SortSt.mk' (kindOf st) ⑦ (pendingOf st) g (failedOf st))):wpS ① A E s (Dm g) Q st:=by
 rw[VR];!wpS_modify h
def E1(rk:Keyed->Int)(a b:Array Keyed)(st:SortSt)(m:Nat)(r:S1)(st':SortSt):Prop:=Gx st st'/\((∃ x y,r=(some x,y)/\Mg rk a.toList b.toList x.toList)\/∃ out ia ib ac bc,r=(none,out,ia,ib,ac,bc)/\At rk a b out ia ib/\m<=ia+ib)
def E2(rk:Keyed->Int)(a b:Array Keyed)(st:SortSt)(m:Nat)(r:S2)(st':SortSt):Prop:=Gx st st'/\((∃ x y,r=(some x,y)/\Mg rk a.toList b.toList x.toList)\/∃ out ia ib mg ac bc,r=(none,out,ia,ib,mg,ac,bc)/\At rk a b out ia ib/\m<=ia+ib)
def Y1(rk:Keyed->Int)(a b:Array Keyed)(st:SortSt)(m:Nat)(r:S1)(st':SortSt):Prop:=Gx st st'/\∃ out ia ib ac bc,r=(none,out,ia,ib,ac,bc)/\At rk a b out ia ib/\m<=ia+ib
def Y2(rk:Keyed->Int)(a b:Array Keyed)(st:SortSt)(m:Nat)(r:S2)(st':SortSt):Prop:=Gx st st'/\∃ out ia ib mg ac bc,r=(none,out,ia,ib,mg,ac,bc)/\At rk a b out ia ib/\m<=ia+ib
theorem Yg(C:Cmp prog w A E s κ G rk)(L:Lo G rk a b){mg m ia ib ac bc:Nat}{out:Array Keyed}{st0:SortSt}(kd:kindOf st0=κ)(g:Gx st0 st)(at_:At rk a b out ia ib)(hm:m<=ia+ib) :
  wpS ① A E s (loOne a b mg (none,out,ia,ib,ac,bc)) (fun r st'=>match r with | .done c'=>E1 rk a b st0 (m+1) c' st' | .yield c'=>Y1 rk a b st0 (m+1) c' st') st:=by
 o⟨mi,la,lb⟩:=at_;h la':ia<a.size:=by w
 unfold loOne;dsimp only;r wpS_bind (Bk lb (wpS_bind (Bk la' (wpS_bind (C _ _ (L.gb.at lb) (L.ga.at la') st _ (g.kind.trans kd) ?_)))));by_cases c:rk b[ib]<rk a[ia]
 ·rw[decide_eq_true c]
  dsimp only;rw[if_pos rfl];r wpS_bind (Bk lb ?_);h mi':=L.stepB mi lb fun j j1 hj=>Int.le_trans (Int.le_of_lt c) (Ep L.sa j1 hj);by_cases c1:ib+1=b.size
  ·rw[if_pos (by rw[c1];!beq_self_eq_true _)]
   !wpS_pure ⟨g,.inl ⟨_,_,rfl,L.done mi' ¢⟩⟩
  ·rw[if_neg (by intro z;!c1 ⑱)]
   by_cases c2:bc+1 >= mg
   ·rw[if_pos c2]
    !wpS_pure ⟨g,.inr ⟨_,_,_,_,_,rfl,⟨mi',la,by w⟩,by w⟩⟩
   ·rw[if_neg c2]
    !wpS_pure ⟨g,_,_,_,_,_,rfl,⟨mi',la,by w⟩,by w⟩
 ·rw[decide_eq_false c]
  dsimp only;rw[if_neg ¤];r wpS_bind (Bk la' ?_);h mi':=L.stepA mi la' fun j j1 hj=>Int.le_trans (Int.not_lt.mp c) (Ep L.sb j1 hj);by_cases c1:ia+1+1=a.size
  ·rw[if_pos (by rw[c1];!beq_self_eq_true _)]
   !wpS_pure ⟨g,.inl ⟨_,_,rfl,L.last mi' ¢⟩⟩
  ·rw[if_neg (by intro z;!c1 ⑱)]
   by_cases c2:ac+1 >= mg
   ·rw[if_pos c2]
    !wpS_pure ⟨g,.inr ⟨_,_,_,_,_,rfl,⟨mi',by w,lb⟩,by w⟩⟩
   ·rw[if_neg c2]
    !wpS_pure ⟨g,_,_,_,_,_,rfl,⟨mi',by w,lb⟩,by w⟩
theorem PX(L:Lo G rk a b){mg m ia ib ac bc:Nat}{out:Array Keyed}{st0:SortSt}(g:Gx st0 st)(mi:MI rk a.toList b.toList out.toList ia ib)(la:ia+1<a.size)(lb:ib<b.size)(h:∀ j,ib<=j->∀ hj:j<b.size,rk (a[ia]'¢)<=rk b[j])(hm:m<=ia+ib) :
  wpS ① A E s (loEnd a b mg ac bc out ia ib) (fun r st'=>match r with | .done c'=>E2 rk a b st0 m c' st' | .yield c'=>Y2 rk a b st0 m c' st') st:=by
 h la':ia<a.size:=by w
 unfold loEnd;r wpS_bind (Bk la' ?_);h mi':=L.stepA mi la' h;by_cases c1:ia+1+1=a.size
 ·rw[if_pos (by rw[c1];!beq_self_eq_true _)]
  !wpS_pure ⟨g,.inl ⟨_,_,rfl,L.last mi' ¢⟩⟩
 ·rw[if_neg (by intro z;!c1 ⑱)]
  by_cases c2:(decide (ac<7)&&decide (bc<7))=true
  ·rw[if_pos c2]
   !wpS_pure ⟨g,.inr ⟨_,_,_,_,_,_,rfl,⟨mi',by w,lb⟩,by w⟩⟩
  ·rw[if_neg c2]
   !wpS_pure ⟨g,_,_,_,_,_,_,rfl,⟨mi',by w,lb⟩,by w⟩
theorem Dz{key:Keyed}{arr:Array Keyed}{base i:Nat}(h:base+i<arr.size):bey rk false key arr base i=!decide (rk key<rk arr[base+i]):=by
 unfold bey;rw[if_neg ¤,Fo h]
theorem FN{key:Keyed}{arr:Array Keyed}{base i:Nat}(h:base+i<arr.size):bey rk true key arr base i=decide (rk arr[base+i]<rk key):=by
 unfold bey;rw[if_pos rfl,Fo h]
theorem Oj(C:Cmp prog w A E s κ G rk)(L:Lo G rk a b){mg m k bc ia ib:Nat}{out:Array Keyed}{st0:SortSt}(kd:kindOf st0=κ)(g:Gx st0 st)(mi:MI rk a.toList b.toList out.toList ia ib)(la:ia+1<a.size)(lb:ib<b.size)(h:∀ j,ia<=j->∀ hj:j<a.size,rk b[ib]<=rk a[j])(hm:m<=ia+ib) :
  wpS ① A E s (loMid a b mg k bc out ia ib) (fun r st'=>match r with | .done c'=>E2 rk a b st0 m c' st' | .yield c'=>Y2 rk a b st0 m c' st') st:=by
 h la':ia<a.size:=by w
 unfold loMid;r wpS_bind (Bk lb ?_);h mi':=L.stepB mi lb h;by_cases c1:ib+1=b.size
 ·rw[if_pos (by rw[c1];!beq_self_eq_true _)]
  !wpS_pure ⟨g,.inl ⟨_,_,rfl,L.done mi' ¢⟩⟩
 ·rw[if_neg (by intro z;!c1 ⑱)]
  r wpS_bind (Bk la' ?_);r wpS_bind (Df C (L.ga.at la') L.gb (g.kind.trans kd) ¢ ¢ (Eu (QL L.sb ¢)) fun k' kn kt kf=>?_);dsimp only;h t1:∀ i,ib+1<=i->i<ib+1+k'->∀ hi:i<b.size,rk b[i]<rk a[ia]:=fun i i1 i2 hi=>by
   h z:=kt (i-(ib+1)) ¢;rw[FN ¢] at z;h e:ib+1+(i-(ib+1))=i:=by w
   simp only[e] at z;!of_decide_eq_true z
  h t2:∀ j,ib+1+k'<=j->∀ hj:j<b.size,rk a[ia]<=rk b[j]:=fun i i1 hi=>by
   h z:=kf (i-(ib+1)) ¢ ¢;rw[FN ¢] at z;h e:ib+1+(i-(ib+1))=i:=by w
   simp only[e] at z;!Int.not_lt.mp (of_decide_eq_false z)
  by_cases c2:k'>0
  ·rw[if_pos c2]
   h mi2:=L.manyB (k:=k') mi' fun i i1 i2 hi j j1 hj=>Int.le_trans (Int.le_of_lt (t1 i i1 i2 hi)) (Ep L.sa j1 hj);by_cases c3:ib+1+k'=b.size
   ·rw[if_pos (by rw[c3];!beq_self_eq_true _)]
    !wpS_pure ⟨g,.inl ⟨_,_,rfl,L.done mi2 ¢⟩⟩
   ·rw[if_neg (by intro z;!c3 ⑱)]
    !PX L g mi2 la ¢ t2 ¢
  ·rw[if_neg c2]
   have:k'=0:=by w
   subst this;!PX L g mi' la ¢ t2 ¢
theorem Oc(C:Cmp prog w A E s κ G rk)(L:Lo G rk a b){mg m ac bc ia ib:Nat}{out:Array Keyed}{st0:SortSt}(kd:kindOf st0=κ)(g:Gx st0 st)(at_:At rk a b out ia ib)(hm:m<=ia+ib) :
  wpS ① A E s (loGal a b mg ac bc out ia ib) (fun r st'=>match r with | .done c'=>E2 rk a b st0 m c' st' | .yield c'=>Y2 rk a b st0 m c' st') st:=by
 o⟨mi,la,lb⟩:=at_;h la':ia<a.size:=by w
 unfold loGal;r wpS_bind (setMin ?_);h g':=QZ g mg;generalize SortSt.mk' (kindOf st) ⑦ (pendingOf st) mg (failedOf st)=st1 at g';r wpS_bind (Bk lb ?_);r wpS_bind (Df C (L.gb.at lb) L.ga (g'.kind.trans kd) ¢ ¢ (Eu (QL L.sa ¢)) fun k kn kt kf=>?_);dsimp only;h t1:∀ i,ia<=i->i<ia+k->∀ hi:i<a.size,rk a[i]<=rk b[ib]:=fun i i1 i2 hi=>by
  h z:=kt (i-ia) ¢;rw[Dz ¢] at z;h e:ia+(i-ia)=i:=by w
  simp only[e] at z;r Int.not_lt.mp fun y=>?_;rw[decide_eq_true y] at z;cases z
 h t2:∀ j,ia+k<=j->∀ hj:j<a.size,rk b[ib]<=rk a[j]:=fun i i1 hi=>by
  h z:=kf (i-ia) ¢ ¢;rw[Dz ¢] at z;h e:ia+(i-ia)=i:=by w
  simp only[e] at z;h z':decide (rk b[ib]<rk a[i])=true:=by
   cases q:decide (rk b[ib]<rk a[i]) with
   | true=>rfl
   | false=>rw[q] at z;cases z
  !Int.le_of_lt (of_decide_eq_true z')
 by_cases c2:k>0
 ·rw[if_pos c2]
  h mi2:=L.manyA (k:=k) mi fun i i1 i2 hi j j1 hj=>Int.le_trans (t1 i i1 i2 hi) (Ep L.sb j1 hj);by_cases c3:ia+k+1=a.size
  ·rw[if_pos (by rw[c3];!beq_self_eq_true _)]
   !wpS_pure ⟨g',.inl ⟨_,_,rfl,L.last mi2 ¢⟩⟩
  ·rw[if_neg (by intro z;!c3 ⑱)]
   by_cases c4:ia+k=a.size
   ·rw[if_pos (by rw[c4];!beq_self_eq_true _)]
    !wpS_pure ⟨g',.inl ⟨_,_,rfl,L.doneA mi2 ¢⟩⟩
   ·rw[if_neg (by intro z;!c4 ⑱)]
    !Oj C L kd g' mi2 ¢ lb t2 ¢
 ·rw[if_neg c2]
  have:k=0:=by w
  subst this;!Oj C L kd g' mi la lb t2 hm
theorem Rp(C:Cmp prog w A E s κ G rk)(L:Lo G rk a b)(kd:kindOf st=κ)(a1:1<=a.size)(b1:1<=b.size)(hf:∀ j,∀ hj:j<a.size,rk b[0]<=rk a[j]){Q:Array Keyed->SortSt->Prop}(h:∀ r st',Gx st st'->Mg rk a.toList b.toList r.toList->Q r st'):wpS ① A E s (Ig a b) Q st:=by
 rw[Tq];r wpS_bind (wpS_lift (wpAny_rule ⟨rfl,?_⟩));r wpS_bind (Bk b1 ?_);h mi0:MI rk a.toList b.toList (#[]:Array Keyed).toList 0 0:=⟨List.Perm.refl _,List.Pairwise.nil,fun x hx=>(by cases hx),fun x hx=>(by cases hx)⟩;h mi:MI rk a.toList b.toList (#[b[0]]:Array Keyed).toList 0 1:=L.stepB mi0 b1 fun j _ hj=>hf j hj;by_cases c1:1=b.size
 ·rw[if_pos (by rw[<- c1];rfl)]
  !wpS_pure (h _ _ (Gx.refl _) (L.done mi ¢))
 rw[if_neg (by intro z;!c1 ⑱)];by_cases c2:0+1=a.size
 ·rw[if_pos (by rw[<- c2];rfl)]
  !wpS_pure (h _ _ (Gx.refl _) (L.last mi ¢))
 rw[if_neg (by intro z;!c2 ⑱)];r wpS_bind (wpS_get ?_);r wpS_bind (wpS_mono (wpS_forRange (I:=fun x c st'=>Gx st st'/\∃ out ia ib mg,c=(none,out,ia,ib,mg)/\At rk a b out ia ib/\x+1<=ia+ib)
  (Q:=fun c st'=>Gx st st'/\∃ x y,c=(some x,y)/\Mg rk a.toList b.toList x.toList) ?_ ?_ ⟨Gx.refl _,_,_,_,_,rfl,⟨mi,by w,by w⟩,by w⟩) ?_)
 ·rintro x c st' _ xn ⟨g,out,ia,ib,mg,rfl,at_,xm⟩
  dsimp only;r wpS_bind (wpS_mono (wpS_forRange (I:=fun y c st'=>Y1 rk a b st (x+1+y) c st') (Q:=E1 rk a b st (x+2)) ?_ ?_ ⟨g,_,_,_,_,_,rfl,at_,by w⟩) ?_)
  ·rintro y c st2 _ yn ⟨g2,out2,ia2,ib2,ac,bc,rfl,at2,hm⟩
   r wpS_mono (Yg C L kd g2 at2 hm) fun r st3 hr=>?_;cases r with
   | done c' =>
    o⟨g3,q⟩:=hr;r⟨g3,q.imp id fun⟨o,i,j,k,l,e,a',b'⟩=>⟨o,i,j,k,l,e,a',by w⟩⟩
   | yield c'=>!hr
  ·rintro c st2 ⟨g2,out2,ia2,ib2,ac,bc,rfl,at2,hm⟩
   !⟨g2,.inr ⟨_,_,_,_,_,rfl,at2,by w⟩⟩
  ·rintro c st2 ⟨g2,⟨r,y,rfl,m⟩ | ⟨out2,ia2,ib2,ac,bc,rfl,at2,hm⟩⟩
   ·!wpS_pure ⟨g2,_,_,rfl,m⟩
   ·dsimp only
    r wpS_bind (wpS_lift (wpAny_rule ⟨rfl,?_⟩));r wpS_bind (wpS_mono (wpS_forRange (I:=fun y c st'=>Y2 rk a b st (x+2) c st') (Q:=E2 rk a b st (x+2)) ?_ ?_ ⟨g2,_,_,_,_,_,_,rfl,at2,hm⟩) ?_)
    ·rintro y c st3 _ yn ⟨g3,out3,ia3,ib3,mg3,ac3,bc3,rfl,at3,hm3⟩
     dsimp only;split
     ·!wpS_mono (Oc C L kd g3 at3 hm3) fun r st4 hr=>by cases r<;>!hr
     ·!wpS_mono (Oc C L kd g3 at3 hm3) fun r st4 hr=>by cases r<;>!hr
    ·rintro c st3 ⟨g3,out3,ia3,ib3,mg3,ac3,bc3,rfl,at3,hm3⟩
     !⟨g3,.inr ⟨_,_,_,_,_,_,rfl,at3,hm3⟩⟩
    ·rintro c st3 ⟨g3,⟨r,y,rfl,m⟩ | ⟨out3,ia3,ib3,mg3,ac3,bc3,rfl,at3,hm3⟩⟩
     ·!wpS_pure ⟨g3,_,_,rfl,m⟩
     ·r wpS_bind (setMin (wpS_pure ⟨QZ g3 _,_,_,_,_,rfl,at3,by w⟩))
 ·rintro c st' ⟨g,out,ia,ib,mg,rfl,⟨_,la,lb⟩,xm⟩
  w
 ·rintro c st' ⟨g,x,y,rfl,m⟩
  !wpS_pure (h _ _ g m)
end
variable{rk:Keyed->Int}{prog:Program}{w:World}{A:Around}{E:Value->Shared->Prop}{s:Shared}{G:Keyed->Prop}{κ:SortKind}{a₀:Array Keyed}
abbrev hiDone(a b out:Array Keyed)(na nb:Nat):Array Keyed:=a.extract 0 na++b.extract 0 nb++out.reverse
abbrev Gp(a b out:Array Keyed)(na nb:Nat):Array Keyed:=b.extract 0 nb++a.extract 0 na++out.reverse
abbrev T1:=Option (Array Keyed)×Nat×Nat×Array Keyed×Nat×Nat
abbrev T2:=Option (Array Keyed)×Nat×Nat×Array Keyed×Nat×Nat×Nat
abbrev T0:=Option (Array Keyed)×Nat×Nat×Array Keyed×Nat
def hiOne(a b:Array Keyed)(mg:Nat)(r:T1):StateT SortSt Sem (ForInStep T1):=do
 let y <- elem' b (r.snd.snd.fst-1)
 let x <- elem' a (r.snd.fst-1)
 let c <- lt' y x
 match c with
 | some aWins =>
  if aWins=true then do
   let x <- elem' a (r.snd.fst-1)
   if (r.snd.fst-1==0)=true then
    pure (ForInStep.done (some (hiDone a b (r.snd.snd.snd.fst.push x) (r.snd.fst-1) r.snd.snd.fst),r.snd.fst-1,r.snd.snd.fst,r.snd.snd.snd.fst.push x,r.snd.snd.snd.snd.fst+1,0))
   else if r.snd.snd.snd.snd.fst+1 >= mg then
    pure (ForInStep.done (none,r.snd.fst-1,r.snd.snd.fst,r.snd.snd.snd.fst.push x,r.snd.snd.snd.snd.fst+1,0))
   else pure (ForInStep.yield (none,r.snd.fst-1,r.snd.snd.fst,r.snd.snd.snd.fst.push x,r.snd.snd.snd.snd.fst+1,0))
  else do
   let y <- elem' b (r.snd.snd.fst-1)
   if (r.snd.snd.fst-1==1)=true then
    pure (ForInStep.done (some (Gp a b (r.snd.snd.snd.fst.push y) r.snd.fst (r.snd.snd.fst-1)),r.snd.fst,r.snd.snd.fst-1,r.snd.snd.snd.fst.push y,0,r.snd.snd.snd.snd.snd+1))
   else if r.snd.snd.snd.snd.snd+1 >= mg then
    pure (ForInStep.done (none,r.snd.fst,r.snd.snd.fst-1,r.snd.snd.snd.fst.push y,0,r.snd.snd.snd.snd.snd+1))
   else pure (ForInStep.yield (none,r.snd.fst,r.snd.snd.fst-1,r.snd.snd.snd.fst.push y,0,r.snd.snd.snd.snd.snd+1))
 | _=>pure (ForInStep.done (some (hiDone a b r.snd.snd.snd.fst r.snd.fst r.snd.snd.fst),r.snd.fst,r.snd.snd.fst,r.snd.snd.snd.fst,r.snd.snd.snd.snd.fst,r.snd.snd.snd.snd.snd))
def hiEnd(a b:Array Keyed)(mg ac bc:Nat)(out:Array Keyed)(na nb:Nat):StateT SortSt Sem (ForInStep T2):=do
 let x <- elem' a (na-1)
 if (na-1==0)=true then pure (ForInStep.done (some (hiDone a b (out.push x) (na-1) nb),na-1,nb,out.push x,mg,ac,bc))
 else if (decide (ac<7)&&decide (bc<7))=true then pure (ForInStep.done (none,na-1,nb,out.push x,mg,ac,bc))
 else pure (ForInStep.yield (none,na-1,nb,out.push x,mg,ac,bc))
def hiMid(a b:Array Keyed)(mg k bc:Nat)(out:Array Keyed)(na nb:Nat):StateT SortSt Sem (ForInStep T2):=do
 let y <- elem' b (nb-1)
 if (nb-1==1)=true then pure (ForInStep.done (some (Gp a b (out.push y) na (nb-1)),na,nb-1,out.push y,mg,k,bc))
 else do
  let x <- elem' a (na-1)
  let r <- Cr true x b 0 (nb-1) (nb-1-1)
  match r with
  | some t =>
   if nb-1-t>0 then
    if (t==1)=true then pure (ForInStep.done (some (Gp a b (out.push y++(b.extract t (nb-1)).reverse) na t),na,t,out.push y++(b.extract t (nb-1)).reverse,mg,k,nb-1-t))
    else if (t==0)=true then pure (ForInStep.done (some (hiDone a b (out.push y++(b.extract t (nb-1)).reverse) na t),na,t,out.push y++(b.extract t (nb-1)).reverse,mg,k,nb-1-t))
    else hiEnd a b mg k (nb-1-t) (out.push y++(b.extract t (nb-1)).reverse) na t
   else hiEnd a b mg k (nb-1-t) (out.push y) na (nb-1)
  | _=>pure (ForInStep.done (some (hiDone a b (out.push y) na (nb-1)),na,nb-1,out.push y,mg,k,bc))
def hiGal(a b:Array Keyed)(mg ac bc:Nat)(out:Array Keyed)(na nb:Nat):StateT SortSt Sem (ForInStep T2):=do
 Dm mg
 let y <- elem' b (nb-1)
 let r <- Cr false y a 0 na (na-1)
 match r with
 | some t =>
  if na-t>0 then
   if (t==0)=true then pure (ForInStep.done (some (hiDone a b (out++(a.extract t na).reverse) t nb),t,nb,out++(a.extract t na).reverse,mg,na-t,bc))
   else hiMid a b mg (na-t) bc (out++(a.extract t na).reverse) t nb
  else hiMid a b mg (na-t) bc out na nb
 | _=>pure (ForInStep.done (some (hiDone a b out na nb),na,nb,out,mg,ac,bc))
def Hq:Array Keyed->Array Keyed->StateT SortSt Sem (Array Keyed):=sortPriv% PySem.Builtin.mergeHi
theorem VN(a b:Array Keyed):Hq a b=(do
 rule "list.sort.merge-hi"
 let total:=a.size+b.size
 let done (out:Array Keyed) (na nb:Nat):=a.extract 0 na++b.extract 0 nb++out.reverse
 let firstOfB (out:Array Keyed) (na nb:Nat):=b.extract 0 nb++a.extract 0 na++out.reverse
 let mut na:=a.size-1
 let mut nb:=b.size
 let mut out:Array Keyed:=#[<- elem' a na]
 if na==0 then return done out na nb
 if nb==1 then return firstOfB out na nb
 let mut minGallop:=gallopOf (<- get)
 for _ in [0:total] do
  let mut acount:=0
  let mut bcount:=0
  for _ in [0:total] do
   let some aWins <- lt' (<- elem' b (nb-1)) (<- elem' a (na-1)) | return done out na nb
   if aWins then
    na:=na-1;out:=out.push (<- elem' a na);acount:=acount+1;bcount:=0
    if na==0 then return done out na nb
    if acount >= minGallop then break
   else
    nb:=nb-1;out:=out.push (<- elem' b nb);bcount:=bcount+1;acount:=0
    if nb==1 then return firstOfB out na nb
    if bcount >= minGallop then break
  rule "list.sort.gallop"
  minGallop:=minGallop+1
  for _ in [0:total] do
   if minGallop>1 then minGallop:=minGallop-1
   Dm minGallop
   let some at_ <- Cr false (<- elem' b (nb-1)) a 0 na (na-1) | return done out na nb
   let k:=na-at_
   acount:=k
   if k>0 then
    out:=out++(a.extract at_ na).reverse;na:=at_
    if na==0 then return done out na nb
   nb:=nb-1;out:=out.push (<- elem' b nb)
   if nb==1 then return firstOfB out na nb
   let some at_ <- Cr true (<- elem' a (na-1)) b 0 nb (nb-1) | return done out na nb
   let k:=nb-at_
   bcount:=k
   if k>0 then
    out:=out++(b.extract at_ nb).reverse;nb:=at_
    if nb==1 then return firstOfB out na nb
    if nb==0 then return done out na nb
   na:=na-1;out:=out.push (<- elem' a na)
   if na==0 then return done out na nb
   if acount<7&&bcount<7 then break
  minGallop:=minGallop+1
  Dm minGallop
 unsupported "internal:list.sort.merge-bound"):=rfl
theorem Ru(a b:Array Keyed):Hq a b=(do
 liftM (rule "list.sort.merge-hi")
 let x <- elem' a (a.size-1)
 if (a.size-1==0)=true then pure (hiDone a b #[x] (a.size-1) b.size)
 else if (b.size==1)=true then pure (Gp a b #[x] (a.size-1) b.size)
 else do
  let g <- get
  let r <- forIn [0:a.size+b.size] ((none,a.size-1,b.size,#[x],gallopOf g):T0) fun _ r0=>do
   let r1 <- forIn [0:a.size+b.size] ((none,r0.snd.fst,r0.snd.snd.fst,r0.snd.snd.snd.fst,0,0):T1) fun _ r=>hiOne a b r0.snd.snd.snd.snd r
   match r1.fst with
   | some x=>pure (ForInStep.done ((some x,r1.snd.fst,r1.snd.snd.fst,r1.snd.snd.snd.fst,r0.snd.snd.snd.snd):T0))
   | none=>do
    liftM (rule "list.sort.gallop")
    let r2 <- forIn [0:a.size+b.size] ((none,r1.snd.fst,r1.snd.snd.fst,r1.snd.snd.snd.fst,r0.snd.snd.snd.snd+1,r1.snd.snd.snd.snd.fst,r1.snd.snd.snd.snd.snd):T2) fun _ r =>
     if r.snd.snd.snd.snd.fst>1 then hiGal a b (r.snd.snd.snd.snd.fst-1) r.snd.snd.snd.snd.snd.fst r.snd.snd.snd.snd.snd.snd r.snd.snd.snd.fst r.snd.fst r.snd.snd.fst
     else hiGal a b r.snd.snd.snd.snd.fst r.snd.snd.snd.snd.snd.fst r.snd.snd.snd.snd.snd.snd r.snd.snd.snd.fst r.snd.fst r.snd.snd.fst
    match r2.fst with
    | some x=>pure (ForInStep.done ((some x,r2.snd.fst,r2.snd.snd.fst,r2.snd.snd.snd.fst,r2.snd.snd.snd.snd.fst):T0))
    | none=>do
     Dm (r2.snd.snd.snd.snd.fst+1)
     pure (ForInStep.yield ((none,r2.snd.fst,r2.snd.snd.fst,r2.snd.snd.snd.fst,r2.snd.snd.snd.snd.fst+1):T0))
  match r.fst with
  | some x=>pure x
  | none=>unsupported "internal:list.sort.merge-bound"):=by
 rw[VN];dsimp only
 congr 1
 funext _
 congr 1
 funext y
 r ifc rfl (ifc rfl ?_)
 congr 1
 funext g
 congr 1
 ·congr 1
  funext x r0
  congr 1
  funext r1
  o⟨o1,r1⟩:=r1;cases o1 with
  | some x=>rfl
  | none =>
   dsimp only
   congr 1
   funext u
   congr 1
   funext r2
   o⟨o2,r2⟩:=r2;cases o2<;>rfl
 ·funext r
  o⟨o,r⟩:=r;cases o<;>rfl
variable{rk:Keyed->Int}{prog:Program}{w:World}{A:Around}{E:Value->Shared->Prop}{s:Shared}{G:Keyed->Prop}{κ:SortKind}{a₀:Array Keyed}
abbrev nk(rk:Keyed->Int):Keyed->Int:=fun x=>- rk x
theorem Vx{a b l q:List Keyed}(m:Mg (nk rk) b.reverse a.reverse l)(e:q=l.reverse):Mg rk a b q:=by
 o⟨p,sr⟩:=m;subst e;r⟨(List.reverse_perm l).trans (p.trans ?_),?_⟩
 ·!(((List.reverse_perm b).append (List.reverse_perm a))).trans List.perm_append_comm
 ·!List.pairwise_reverse.mpr (sr.imp fun {x y} h=>by
   have:- rk x<=- rk y:=h;w)
theorem Dp{a:Array Keyed}{n:Nat}(h:n<=a.size):a.toList.reverse.drop (a.size-n)=(a.toList.take n).reverse:=by
 rw[List.drop_reverse]
 congr 2
 simp;w
section
variable{a b:Array Keyed}{st:SortSt}
def HAt(rk:Keyed->Int)(a b out:Array Keyed)(na nb:Nat):Prop:=MI (nk rk) b.toList.reverse a.toList.reverse out.toList (b.size-nb) (a.size-na)/\na<=a.size/\nb<=b.size
structure Hi(G:Keyed->Prop)(rk:Keyed->Int)(a b:Array Keyed):Prop where
 ga:Al G a
 gb:Al G b
 sa:Srt rk a.toList
 sb:Srt rk b.toList
 hf:∀ j,∀ hj:j<a.size,∀ h0:0<b.size,rk b[0]<=rk a[j]
theorem FZ{l:List Keyed}(h:Srt rk l):Srt (nk rk) l.reverse:=List.pairwise_reverse.mpr (h.imp fun {x y} h=>by show-rk y<=- rk x;w)
theorem Ez{a:Array Keyed}{n:Nat}{z:Keyed}(hn:n<=a.size)(h:z∈a.toList.reverse.drop (a.size-n)):∃ j,j<n/\∃ hj:j<a.size,z=a[j]:=by
 rw[Dp hn] at h;h h':=List.mem_reverse.mp h;o⟨k,hk,e⟩:=List.mem_iff_getElem.mp h';rw[List.length_take] at hk;have:a.toList.length=a.size:=by simp
 r⟨k,by w,by w,?_⟩;rw[<- e,List.getElem_take];simp
theorem rtake{a:Array Keyed}{n t:Nat}(hn:n<=a.size)(ht:t<=n):(a.toList.reverse.drop (a.size-n)).take (n-t)=((a.toList.drop t).take (n-t)).reverse:=by
 rw[Dp hn,List.take_reverse]
 congr 1
 have:a.toList.length=a.size:=by simp
 rw[List.length_take,show min n a.toList.length-(n-t)=t by w,List.drop_take]
theorem Ry{out a:Array Keyed}{n t:Nat}(hn:n<=a.size)(ht:t<=n):(out++(a.extract t n).reverse).toList=out.toList++(a.toList.reverse.drop (a.size-n)).take (n-t):=by
 rw[rtake hn ht,Array.toList_append,Array.toList_reverse,Array.toList_extract]
theorem Om{out a:Array Keyed}{n:Nat}(h1:1<=n)(hn:n<=a.size):(out.push (a[n-1]'¢)).toList=out.toList++(a.toList.reverse.drop (a.size-n)).take 1:=by
 have:=rtake (a:=a) (n:=n) (t:=n-1) hn ¢;rw[show n-(n-1)=1 by w] at this;rw[this,Array.toList_push]
 congr 1
 h hl:n-1<a.toList.length:=by simp;w
 rw[List.drop_eq_getElem_cons hl,List.take_succ_cons,List.take_zero];simp
theorem Hi.stepA(L:Hi G rk a b){out:Array Keyed}{na nb:Nat}(m:HAt rk a b out na nb)(h1:1<=na)(h:∀ j,j<nb->∀ hj:j<b.size,rk b[j]<=rk (a[na-1]'(by have:=m.2.1;w))):HAt rk a b (out.push (a[na-1]'(by have:=m.2.1;w))) (na-1) nb:=by
 o⟨mi,ha,hb⟩:=m;r⟨?_,by w,hb⟩;rw[Om h1 ha,show a.size-(na-1)=a.size-na+1 by w];r mi.takeB (FZ L.sa) 1 fun y hy z hz=>?_;rw[show (1:Nat)=na-(na-1) by w,rtake ha ¢] at hy;o⟨j,j1,j2,hj,rfl⟩:=CW (List.mem_reverse.mp hy);have:j=na-1:=by w
 subst this;o⟨i,i1,hi,rfl⟩:=Ez hb hz;have:=h i i1 hi;show-_<=- _;w
theorem Hi.stepB(L:Hi G rk a b){out:Array Keyed}{na nb:Nat}(m:HAt rk a b out na nb)(h1:1<=nb)(h:∀ j,j<na->∀ hj:j<a.size,rk a[j]<=rk (b[nb-1]'(by have:=m.2.2;w))):HAt rk a b (out.push (b[nb-1]'(by have:=m.2.2;w))) na (nb-1):=by
 o⟨mi,ha,hb⟩:=m;r⟨?_,ha,by w⟩;rw[Om h1 hb,show b.size-(nb-1)=b.size-nb+1 by w];r mi.takeA (FZ L.sb) 1 fun y hy z hz=>?_;rw[show (1:Nat)=nb-(nb-1) by w,rtake hb ¢] at hy;o⟨j,j1,j2,hj,rfl⟩:=CW (List.mem_reverse.mp hy);have:j=nb-1:=by w
 subst this;o⟨i,i1,hi,rfl⟩:=Ez ha hz;have:=h i i1 hi;show-_<=- _;w
theorem Hi.manyA(L:Hi G rk a b){out:Array Keyed}{na nb t:Nat}(m:HAt rk a b out na nb)(ht:t<=na)(h:∀ i,t<=i->i<na->∀ hi:i<a.size,∀ j,j<nb->∀ hj:j<b.size,rk b[j]<=rk a[i]):HAt rk a b (out++(a.extract t na).reverse) t nb:=by
 o⟨mi,ha,hb⟩:=m;r⟨?_,by w,hb⟩;rw[Ry ha ht,show a.size-t=a.size-na+(na-t) by w];r mi.takeB (FZ L.sa) _ fun y hy z hz=>?_;rw[rtake ha ht] at hy;o⟨i,i1,i2,hi,rfl⟩:=CW (List.mem_reverse.mp hy);o⟨j,j1,hj,rfl⟩:=Ez hb hz;have:=h i i1 ¢ hi j j1 hj;show-_<=- _;w
theorem Hi.manyB(L:Hi G rk a b){out:Array Keyed}{na nb t:Nat}(m:HAt rk a b out na nb)(ht:t<=nb)(h:∀ i,t<=i->i<nb->∀ hi:i<b.size,∀ j,j<na->∀ hj:j<a.size,rk a[j]<=rk b[i]):HAt rk a b (out++(b.extract t nb).reverse) na t:=by
 o⟨mi,ha,hb⟩:=m;r⟨?_,ha,by w⟩;rw[Ry hb ht,show b.size-t=b.size-nb+(nb-t) by w];r mi.takeA (FZ L.sb) _ fun y hy z hz=>?_;rw[rtake hb ht] at hy;o⟨i,i1,i2,hi,rfl⟩:=CW (List.mem_reverse.mp hy);o⟨j,j1,hj,rfl⟩:=Ez ha hz;have:=h i i1 ¢ hi j j1 hj;show-_<=- _;w
theorem Gv(a:Array Keyed)(n:Nat):(a.extract 0 n).toList=a.toList.take n:=by
 rw[Array.toList_extract];simp[List.extract]
theorem Hi.doneA(L:Hi G rk a b){out:Array Keyed}{na nb:Nat}(m:HAt rk a b out na nb)(z:na=0):Mg rk a.toList b.toList (hiDone a b out na nb).toList:=by
 subst z;o⟨mi,ha,hb⟩:=m;r Vx (mi.doneB (FZ L.sb) ¥) ?_;rw[Dp hb,Dp ha];unfold hiDone;rw[Array.toList_append,Array.toList_append,Array.toList_reverse,Gv,Gv,List.reverse_append,List.reverse_append,List.reverse_reverse,List.reverse_reverse,List.append_assoc]
theorem Hi.doneB(L:Hi G rk a b){out:Array Keyed}{na nb:Nat}(m:HAt rk a b out na nb)(z:nb=0):Mg rk a.toList b.toList (hiDone a b out na nb).toList:=by
 subst z;o⟨mi,ha,hb⟩:=m;r Vx (mi.doneA (FZ L.sa) ¥) ?_;rw[Dp hb,Dp ha];unfold hiDone;rw[Array.toList_append,Array.toList_append,Array.toList_reverse,Gv,Gv,List.reverse_append,List.reverse_append,List.reverse_reverse,List.reverse_reverse,List.append_assoc]
theorem Hi.first(L:Hi G rk a b){out:Array Keyed}{na nb:Nat}(m:HAt rk a b out na nb)(z:nb=1):Mg rk a.toList b.toList (Gp a b out na nb).toList:=by
 subst z;o⟨mi,ha,hb⟩:=m;r Vx (mi.last (FZ L.sa) (by simp;w) fun y hy z hz=>?_) ?_
 ·o⟨j,j1,hj,rfl⟩:=Ez hb hz
  have:j=0:=by w
  subst this;o⟨i,hi,rfl⟩:=List.mem_iff_getElem.mp (List.mem_reverse.mp hy);h hi':i<a.size:=by u hi
  have:=L.hf i hi' hj;show-rk _<=- rk _;simp;w
 ·rw[Dp hb,Dp ha]
  unfold Gp;rw[Array.toList_append,Array.toList_append,Array.toList_reverse,Gv,Gv,List.reverse_append,List.reverse_append,List.reverse_reverse,List.reverse_reverse,List.append_assoc]
def F1(rk:Keyed->Int)(a b:Array Keyed)(st:SortSt)(m:Nat)(r:T1)(st':SortSt):Prop:=Gx st st'/\((∃ x y,r=(some x,y)/\Mg rk a.toList b.toList x.toList)\/∃ out na nb ac bc,r=(none,na,nb,out,ac,bc)/\HAt rk a b out na nb/\1<=na/\2<=nb/\na+nb+m<=a.size+b.size)
def F2(rk:Keyed->Int)(a b:Array Keyed)(st:SortSt)(m:Nat)(r:T2)(st':SortSt):Prop:=Gx st st'/\((∃ x y,r=(some x,y)/\Mg rk a.toList b.toList x.toList)\/∃ out na nb mg ac bc,r=(none,na,nb,out,mg,ac,bc)/\HAt rk a b out na nb/\1<=na/\2<=nb/\na+nb+m<=a.size+b.size)
def Z1(rk:Keyed->Int)(a b:Array Keyed)(st:SortSt)(m:Nat)(r:T1)(st':SortSt):Prop:=Gx st st'/\∃ out na nb ac bc,r=(none,na,nb,out,ac,bc)/\HAt rk a b out na nb/\1<=na/\2<=nb/\na+nb+m<=a.size+b.size
def Z2(rk:Keyed->Int)(a b:Array Keyed)(st:SortSt)(m:Nat)(r:T2)(st':SortSt):Prop:=Gx st st'/\∃ out na nb mg ac bc,r=(none,na,nb,out,mg,ac,bc)/\HAt rk a b out na nb/\1<=na/\2<=nb/\na+nb+m<=a.size+b.size
theorem Xo(C:Cmp prog w A E s κ G rk)(L:Hi G rk a b){mg m na nb ac bc:Nat}{out:Array Keyed}{st0:SortSt}(kd:kindOf st0=κ)(g:Gx st0 st)(at_:HAt rk a b out na nb)(n1:1<=na)(n2:2<=nb)(hm:na+nb+m<=a.size+b.size) :
  wpS ① A E s (hiOne a b mg (none,na,nb,out,ac,bc)) (fun r st'=>match r with | .done c'=>F1 rk a b st0 (m+1) c' st' | .yield c'=>Z1 rk a b st0 (m+1) c' st') st:=by
 o⟨_,ha,hb⟩:=id at_;h la:na-1<a.size:=by w
 h lb:nb-1<b.size:=by w
 unfold hiOne;dsimp only;r wpS_bind (Bk lb (wpS_bind (Bk la (wpS_bind (C _ _ (L.gb.at lb) (L.ga.at la) st _ (g.kind.trans kd) ?_)))));by_cases c:rk b[nb-1]<rk a[na-1]
 ·rw[decide_eq_true c]
  dsimp only;rw[if_pos rfl];r wpS_bind (Bk la ?_);h mi':=L.stepA at_ n1 fun j j1 hj=>Int.le_trans (Ep L.sb (show j<=nb-1 by w) lb) (Int.le_of_lt c);by_cases c1:na-1=0
  ·rw[if_pos (by rw[c1];rfl)]
   !wpS_pure ⟨g,.inl ⟨_,_,rfl,L.doneA mi' c1⟩⟩
  ·rw[if_neg (by intro z;!c1 ⑱)]
   by_cases c2:ac+1 >= mg
   ·rw[if_pos c2]
    !wpS_pure ⟨g,.inr ⟨_,_,_,_,_,rfl,mi',by w,n2,by w⟩⟩
   ·rw[if_neg c2]
    !wpS_pure ⟨g,_,_,_,_,_,rfl,mi',by w,n2,by w⟩
 ·rw[decide_eq_false c]
  dsimp only;rw[if_neg ¤];r wpS_bind (Bk lb ?_);h mi':=L.stepB at_ ¢ fun j j1 hj=>Int.le_trans (Ep L.sa (show j<=na-1 by w) la) (Int.not_lt.mp c);by_cases c1:nb-1=1
  ·rw[if_pos (by rw[c1];rfl)]
   !wpS_pure ⟨g,.inl ⟨_,_,rfl,L.first mi' c1⟩⟩
  ·rw[if_neg (by intro z;!c1 ⑱)]
   by_cases c2:bc+1 >= mg
   ·rw[if_pos c2]
    !wpS_pure ⟨g,.inr ⟨_,_,_,_,_,rfl,mi',n1,by w,by w⟩⟩
   ·rw[if_neg c2]
    !wpS_pure ⟨g,_,_,_,_,_,rfl,mi',n1,by w,by w⟩
theorem Mw(L:Hi G rk a b){mg m na nb ac bc:Nat}{out:Array Keyed}{st0:SortSt}(g:Gx st0 st)(at_:HAt rk a b out na nb)(n1:1<=na)(n2:2<=nb)(h:∀ j,j<nb->∀ hj:j<b.size,rk b[j]<=rk (a[na-1]'(by have:=at_.2.1;w)))(hm:na+nb+m<=a.size+b.size) :
  wpS ① A E s (hiEnd a b mg ac bc out na nb) (fun r st'=>match r with | .done c'=>F2 rk a b st0 m c' st' | .yield c'=>Z2 rk a b st0 m c' st') st:=by
 o⟨_,ha,hb⟩:=id at_;h la:na-1<a.size:=by w
 unfold hiEnd;r wpS_bind (Bk la ?_);h mi':=L.stepA at_ n1 h;by_cases c1:na-1=0
 ·rw[if_pos (by rw[c1];rfl)]
  !wpS_pure ⟨g,.inl ⟨_,_,rfl,L.doneA mi' c1⟩⟩
 ·rw[if_neg (by intro z;!c1 ⑱)]
  by_cases c2:(decide (ac<7)&&decide (bc<7))=true
  ·rw[if_pos c2]
   !wpS_pure ⟨g,.inr ⟨_,_,_,_,_,_,rfl,mi',by w,n2,by w⟩⟩
  ·rw[if_neg c2]
   !wpS_pure ⟨g,_,_,_,_,_,_,rfl,mi',by w,n2,by w⟩
theorem Ny(C:Cmp prog w A E s κ G rk)(L:Hi G rk a b){mg m k bc na nb:Nat}{out:Array Keyed}{st0:SortSt}(kd:kindOf st0=κ)(g:Gx st0 st)(at_:HAt rk a b out na nb)(n1:1<=na)(n2:2<=nb)(h:∀ j,j<na->∀ hj:j<a.size,rk a[j]<=rk (b[nb-1]'(by have:=at_.2.2;w)))(hm:na+nb+m<=a.size+b.size) :
  wpS ① A E s (hiMid a b mg k bc out na nb) (fun r st'=>match r with | .done c'=>F2 rk a b st0 m c' st' | .yield c'=>Z2 rk a b st0 m c' st') st:=by
 o⟨_,ha,hb⟩:=id at_;h la:na-1<a.size:=by w
 h lb:nb-1<b.size:=by w
 unfold hiMid;r wpS_bind (Bk lb ?_);h mi':=L.stepB at_ ¢ h;by_cases c1:nb-1=1
 ·rw[if_pos (by rw[c1];rfl)]
  !wpS_pure ⟨g,.inl ⟨_,_,rfl,L.first mi' c1⟩⟩
 ·rw[if_neg (by intro z;!c1 ⑱)]
  r wpS_bind (Bk la ?_);r wpS_bind (Df C (L.ga.at la) L.gb (g.kind.trans kd) ¢ ¢ (Eu (QL L.sb ¢)) fun t kn kt kf=>?_);dsimp only;h t1:∀ i,i<t->∀ hi:i<b.size,rk b[i]<rk a[na-1]:=fun i i1 hi=>by
   h z:=kt i i1;rw[FN ¢] at z;simp only[Nat.zero_add] at z;!of_decide_eq_true z
  h t2:∀ j,t<=j->j<nb-1->∀ hj:j<b.size,rk a[na-1]<=rk b[j]:=fun i i1 i2 hi=>by
   h z:=kf i i1 i2;rw[FN ¢] at z;simp only[Nat.zero_add] at z;!Int.not_lt.mp (of_decide_eq_false z)
  by_cases c2:nb-1-t>0
  ·rw[if_pos c2]
   h mi2:=L.manyB (t:=t) mi' ¢ fun i i1 i2 hi j j1 hj=>Int.le_trans (Ep L.sa (show j<=na-1 by w) la) (t2 i i1 i2 hi);by_cases c3:t=1
   ·rw[if_pos (by rw[c3];rfl)]
    !wpS_pure ⟨g,.inl ⟨_,_,rfl,L.first mi2 c3⟩⟩
   ·rw[if_neg (by intro z;!c3 ⑱)]
    by_cases c4:t=0
    ·rw[if_pos (by rw[c4];rfl)]
     !wpS_pure ⟨g,.inl ⟨_,_,rfl,L.doneB mi2 c4⟩⟩
    ·rw[if_neg (by intro z;!c4 ⑱)]
     !Mw L g mi2 n1 ¢ (fun j j1 hj=>Int.le_of_lt (t1 j j1 hj)) ¢
  ·rw[if_neg c2]
   !Mw L g mi' n1 ¢ (fun j j1 hj=>Int.le_of_lt (t1 j ¢ hj)) ¢
theorem Ow(C:Cmp prog w A E s κ G rk)(L:Hi G rk a b){mg m ac bc na nb:Nat}{out:Array Keyed}{st0:SortSt}(kd:kindOf st0=κ)(g:Gx st0 st)(at_:HAt rk a b out na nb)(n1:1<=na)(n2:2<=nb)(hm:na+nb+m<=a.size+b.size) :
  wpS ① A E s (hiGal a b mg ac bc out na nb) (fun r st'=>match r with | .done c'=>F2 rk a b st0 m c' st' | .yield c'=>Z2 rk a b st0 m c' st') st:=by
 o⟨_,ha,hb⟩:=id at_;h lb:nb-1<b.size:=by w
 unfold hiGal;r wpS_bind (setMin ?_);h g':=QZ g mg;generalize SortSt.mk' (kindOf st) ⑦ (pendingOf st) mg (failedOf st)=st1 at g';r wpS_bind (Bk lb ?_);r wpS_bind (Df C (L.gb.at lb) L.ga (g'.kind.trans kd) ¢ ¢ (Eu (QL L.sa ¢)) fun t kn kt kf=>?_);dsimp only;h t1:∀ i,i<t->∀ hi:i<a.size,rk a[i]<=rk b[nb-1]:=fun i i1 hi=>by
  h z:=kt i i1;rw[Dz ¢] at z;simp only[Nat.zero_add] at z;r Int.not_lt.mp fun y=>?_;rw[decide_eq_true y] at z;cases z
 h t2:∀ j,t<=j->j<na->∀ hj:j<a.size,rk b[nb-1]<=rk a[j]:=fun i i1 i2 hi=>by
  h z:=kf i i1 i2;rw[Dz ¢] at z;simp only[Nat.zero_add] at z;h z':decide (rk b[nb-1]<rk a[i])=true:=by
   cases q:decide (rk b[nb-1]<rk a[i]) with
   | true=>rfl
   | false=>rw[q] at z;cases z
  !Int.le_of_lt (of_decide_eq_true z')
 by_cases c2:na-t>0
 ·rw[if_pos c2]
  h mi2:=L.manyA (t:=t) at_ kn fun i i1 i2 hi j j1 hj=>Int.le_trans (Ep L.sb (show j<=nb-1 by w) lb) (t2 i i1 i2 hi);by_cases c3:t=0
  ·rw[if_pos (by rw[c3];rfl)]
   !wpS_pure ⟨g',.inl ⟨_,_,rfl,L.doneA mi2 c3⟩⟩
  ·rw[if_neg (by intro z;!c3 ⑱)]
   !Ny C L kd g' mi2 ¢ n2 (fun j j1 hj=>t1 j j1 hj) ¢
 ·rw[if_neg c2]
  !Ny C L kd g' at_ n1 n2 (fun j j1 hj=>t1 j ¢ hj) hm
theorem SQ(C:Cmp prog w A E s κ G rk)(L:Hi G rk a b)(kd:kindOf st=κ)(a1:1<=a.size)(b1:1<=b.size)(hl:∀ j,∀ hj:j<b.size,rk b[j]<=rk (a[a.size-1]'¢)){Q:Array Keyed->SortSt->Prop}(h:∀ r st',Gx st st'->Mg rk a.toList b.toList r.toList->Q r st'):wpS ① A E s (Hq a b) Q st:=by
 rw[Ru];r wpS_bind (wpS_lift (wpAny_rule ⟨rfl,?_⟩));r wpS_bind (Bk ¢ ?_);h mi0:HAt rk a b #[] a.size b.size:=⟨by
  rw[Nat.sub_self,Nat.sub_self];!⟨List.perm_append_comm.trans List.perm_append_comm,List.Pairwise.nil,fun x hx=>(by cases hx),fun x hx=>(by cases hx)⟩,Nat.le_refl _,Nat.le_refl _⟩
 h mi:HAt rk a b #[a[a.size-1]] (a.size-1) b.size:=L.stepA mi0 a1 fun j _ hj=>hl j hj;by_cases c1:a.size-1=0
 ·rw[if_pos (by rw[c1];rfl)]
  !wpS_pure (h _ _ (Gx.refl _) (L.doneA mi c1))
 rw[if_neg (by intro z;!c1 ⑱)];by_cases c2:b.size=1
 ·rw[if_pos (by rw[c2];rfl)]
  !wpS_pure (h _ _ (Gx.refl _) (L.first mi c2))
 rw[if_neg (by intro z;!c2 ⑱)];r wpS_bind (wpS_get ?_);r wpS_bind (wpS_mono (wpS_forRange (I:=fun x c st'=>Gx st st'/\∃ out na nb mg,c=(none,na,nb,out,mg)/\HAt rk a b out na nb/\1<=na/\2<=nb/\na+nb+(x+1)<=a.size+b.size)
  (Q:=fun c st'=>Gx st st'/\∃ x y,c=(some x,y)/\Mg rk a.toList b.toList x.toList) ?_ ?_ ⟨Gx.refl _,_,_,_,_,rfl,mi,by w,by w,by w⟩) ?_)
 ·rintro x c st' _ xn ⟨g,out,na,nb,mg,rfl,at_,n1,n2,xm⟩
  dsimp only;r wpS_bind (wpS_mono (wpS_forRange (I:=fun y c st'=>Z1 rk a b st (x+1+y) c st') (Q:=F1 rk a b st (x+2)) ?_ ?_ ⟨g,_,_,_,_,_,rfl,at_,n1,n2,by w⟩) ?_)
  ·rintro y c st2 _ yn ⟨g2,out2,na2,nb2,ac,bc,rfl,at2,m1,m2,hm⟩
   r wpS_mono (Xo C L kd g2 at2 m1 m2 hm) fun r st3 hr=>?_;cases r with
   | done c' =>
    o⟨g3,q⟩:=hr;r⟨g3,q.imp id fun⟨o,i,j,k,l,e,a',b',c',d'⟩=>⟨o,i,j,k,l,e,a',b',c',by w⟩⟩
   | yield c'=>!hr
  ·rintro c st2 ⟨g2,out2,na2,nb2,ac,bc,rfl,at2,m1,m2,hm⟩
   !⟨g2,.inr ⟨_,_,_,_,_,rfl,at2,m1,m2,by w⟩⟩
  ·rintro c st2 ⟨g2,⟨r,y,rfl,m⟩ | ⟨out2,na2,nb2,ac,bc,rfl,at2,m1,m2,hm⟩⟩
   ·!wpS_pure ⟨g2,_,_,rfl,m⟩
   ·dsimp only
    r wpS_bind (wpS_lift (wpAny_rule ⟨rfl,?_⟩));r wpS_bind (wpS_mono (wpS_forRange (I:=fun y c st'=>Z2 rk a b st (x+2) c st') (Q:=F2 rk a b st (x+2)) ?_ ?_ ⟨g2,_,_,_,_,_,_,rfl,at2,m1,m2,hm⟩) ?_)
    ·rintro y c st3 _ yn ⟨g3,out3,na3,nb3,mg3,ac3,bc3,rfl,at3,k1,k2,hm3⟩
     dsimp only;split
     ·!wpS_mono (Ow C L kd g3 at3 k1 k2 hm3) fun r st4 hr=>by cases r<;>!hr
     ·!wpS_mono (Ow C L kd g3 at3 k1 k2 hm3) fun r st4 hr=>by cases r<;>!hr
    ·rintro c st3 ⟨g3,out3,na3,nb3,mg3,ac3,bc3,rfl,at3,k1,k2,hm3⟩
     !⟨g3,.inr ⟨_,_,_,_,_,_,rfl,at3,k1,k2,hm3⟩⟩
    ·rintro c st3 ⟨g3,⟨r,y,rfl,m⟩ | ⟨out3,na3,nb3,mg3,ac3,bc3,rfl,at3,k1,k2,hm3⟩⟩
     ·!wpS_pure ⟨g3,_,_,rfl,m⟩
     ·r wpS_bind (setMin (wpS_pure ⟨QZ g3 _,_,_,_,_,rfl,at3,k1,k2,by w⟩))
 ·rintro c st' ⟨g,out,na,nb,mg,rfl,at_,n1,n2,xm⟩
  w
 ·rintro c st' ⟨g,x,y,rfl,m⟩
  !wpS_pure (h _ _ g m)
end
variable{rk:Keyed->Int}{prog:Program}{w:World}{A:Around}{E:Value->Shared->Prop}{s:Shared}{G:Keyed->Prop}{κ:SortKind}{a₀:Array Keyed}
def lay(arr:Array Keyed)(sa:Nat)(r:Array Keyed):Array Keyed:=r.toList.zipIdx.foldl (fun a (p,j)=>a.setIfInBounds (sa+j) p) arr
theorem Rf(sa:Nat):∀(l:List Keyed) (k:Nat) (arr:Array Keyed),sa+k+l.length<=arr.size->∀ q:Nat,
  ((l.zipIdx k).foldl (fun a (x:Keyed×Nat)=>a.setIfInBounds (sa+x.2) x.1) arr).size=arr.size/\((l.zipIdx k).foldl (fun a (x:Keyed×Nat)=>a.setIfInBounds (sa+x.2) x.1) arr)[q]?=if sa+k<=q/\q<sa+k+l.length then l[q-(sa+k)]? else arr[q]?
 | [],k,arr,h,q=>by
  r⟨rfl,?_⟩;rw[if_neg ¥];rfl
 | x::l,k,arr,h,q=>by
  rw[List.length_cons] at h;rw[List.zipIdx_cons,List.foldl_cons];h ih:=Rf sa l (k+1) (arr.setIfInBounds (sa+k) x) (by rw[Array.size_setIfInBounds];w) q;r⟨ih.1.trans Array.size_setIfInBounds,ih.2.trans ?_⟩;rw[List.length_cons];by_cases c:sa+k<=q/\q<sa+k+(l.length+1)
  ·rw[if_pos c]
   by_cases d:q=sa+k
   ·subst d
    rw[if_neg ¢,Array.getElem?_setIfInBounds_self_of_lt ¢];simp
   ·rw[if_pos ¢,show q-(sa+k)=(q-(sa+(k+1)))+1 by w,List.getElem?_cons_succ]
  ·rw[if_neg c,if_neg ¢,Array.getElem?_setIfInBounds_ne ¢]
theorem Qf{arr r:Array Keyed}{sa:Nat}(h:sa+r.size<=arr.size)(q:Nat):(lay arr sa r)[q]?=if sa<=q/\q<sa+r.size then r[q-sa]? else arr[q]?:=by
 have:=(Rf sa r.toList 0 arr (by u h) q).2;unfold lay;u this
theorem Zv{arr r:Array Keyed}{lo mid hi:Nat}(lm:lo<=mid)(mh:mid<=hi)(ha:hi<=arr.size)(p:r.toList.Perm ((arr.extract lo mid).toList++(arr.extract mid hi).toList)):(lay arr lo r).Perm arr:=by
 h rl:r.size=hi-lo:=by
  have:=p.length_eq;simp at this;w
 h e:(lay arr lo r).toList=arr.toList.take lo++(r.toList++arr.toList.drop hi):=by
  apply List.ext_getElem?;intro q;rw[Array.getElem?_toList,Qf ¢];by_cases c:q<lo
  ·rw[if_neg ¢,┆ (by simp;w),List.getElem?_take_of_lt c,Array.getElem?_toList]
  ·rw[List.getElem?_append_right (by simp;w)]
   h e1:(arr.toList.take lo).length=lo:=by simp;w
   rw[e1];by_cases d:q<hi
   ·rw[if_pos ¢,┆ (by simp;w),Array.getElem?_toList]
   ·rw[if_neg ¢,List.getElem?_append_right (by simp;w),List.getElem?_drop,┄,rl,Array.getElem?_toList]
    congr 1
    w
 h e2:arr.toList=arr.toList.take lo++(((arr.extract lo mid).toList++(arr.extract mid hi).toList)++arr.toList.drop hi):=by
  h x1:(arr.extract lo mid).toList=(arr.toList.drop lo).take (mid-lo):=by rw[Array.toList_extract]
  h x2:(arr.extract mid hi).toList=(arr.toList.drop mid).take (hi-mid):=by rw[Array.toList_extract]
  rw[x1,x2,List.append_assoc];h y2:(arr.toList.drop mid).take (hi-mid)++arr.toList.drop hi=arr.toList.drop mid:=by
   rw[show arr.toList.drop hi=(arr.toList.drop mid).drop (hi-mid) by rw[List.drop_drop];congr 1;w];!List.take_append_drop ..
  rw[y2];h y1:(arr.toList.drop lo).take (mid-lo)++arr.toList.drop mid=arr.toList.drop lo:=by
   rw[show arr.toList.drop mid=(arr.toList.drop lo).drop (mid-lo) by rw[List.drop_drop];congr 1;w];!List.take_append_drop ..
  rw[y1];!(List.take_append_drop ..).symm
 r Array.perm_iff_toList_perm.mpr ?_;rw[e,e2];h e3:(List.take lo arr.toList++(((arr.extract lo mid).toList++(arr.extract mid hi).toList)++arr.toList.drop hi)).take lo=List.take lo arr.toList:=by rw[<- e2]
 h e4:(List.take lo arr.toList++(((arr.extract lo mid).toList++(arr.extract mid hi).toList)++arr.toList.drop hi)).drop hi=arr.toList.drop hi:=by rw[<- e2]
 first
  | !List.Perm.append_left _ (List.Perm.append_right _ p)
  | (rw[e3,e4];!List.Perm.append_left _ (List.Perm.append_right _ p))
theorem Fe{arr:Array Keyed}(h:Al G arr)(i j:Nat):Al G (arr.extract i j):=fun k x e=>by
 rw[Array.getElem?_extract] at e;split at e
 ·!h _ x e
 ·cases e
theorem srt_extract{arr:Array Keyed}{i j:Nat}(h:Up rk arr i j)(hj:j<=arr.size):Srt rk (arr.extract i j).toList:=by
 unfold Srt;rw[List.pairwise_iff_getElem];intro p q hp hq pq;simp at hp hq;have:=h (i+p) (i+q) ¢ ¢ ¢;rw[Fo ¢,Fo ¢] at this;u this
theorem AAH{arr:Array Keyed}{i j k:Nat}(h:k<(arr.extract i j).size):(arr.extract i j)[k]=arr[i+k]'(by simp at h;w):=by simp
def Ch(rk:Keyed->Int)(arr:Array Keyed):List (Nat×Nat×Nat)->Nat->Nat->Prop
 | [],lo,hi=>lo=hi
 | (s,n,_)::rest,lo,hi=>s=lo/\1<=n/\Up rk arr lo (lo+n)/\Ch rk arr rest (lo+n) hi
theorem Ch.le{arr:Array Keyed}:∀{l:List (Nat×Nat×Nat)}{lo hi:Nat},Ch rk arr l lo hi->lo+l.length<=hi
 | [],lo,hi,h=>by have h':lo=hi:=h;simp;w
 | (s,n,_)::rest,lo,hi,⟨_,h1,_,h⟩=>by have:=Ch.le h;simp;w
theorem Up.congr{arr arr':Array Keyed}{lo hi:Nat}(h:Up rk arr lo hi)(e:∀ i,lo<=i->i<hi->arr'[i]?=arr[i]?):Up rk arr' lo hi:=fun i j li ij jh=>by
 rw[Em (e i li ¢),Em (e j ¢ jh)];!h i j li ij jh
theorem Ch.congr{arr arr':Array Keyed}:∀{l:List (Nat×Nat×Nat)}{lo hi:Nat},Ch rk arr l lo hi->(∀ i,lo<=i->i<hi->arr'[i]?=arr[i]?)->Ch rk arr' l lo hi
 | [],lo,hi,h,_=>h
 | (s,n,_)::rest,lo,hi,⟨e1,h1,u,h⟩,e=>by
  h le:=Ch.le h;!⟨e1,h1,u.congr fun i li il=>e i li ¢,Ch.congr h fun i li il=>e i ¢ il⟩
theorem Ch.cut{arr:Array Keyed}:∀{l m:List (Nat×Nat×Nat)}{lo hi:Nat},Ch rk arr (l++m) lo hi↔∃ mid,Ch rk arr l lo mid/\Ch rk arr m mid hi
 | [],m,lo,hi=>⟨fun h=>⟨lo,rfl,h⟩,fun⟨mid,e,h⟩=>by have e':lo=mid:=e;rw[e'];!h⟩
 | (s,n,x)::l,m,lo,hi=>⟨fun⟨e1,h1,u,h⟩=>by
   o⟨mid,a,b⟩:=Ch.cut.mp h;!⟨mid,⟨e1,h1,u,a⟩,b⟩,fun⟨mid,⟨e1,h1,u,a⟩,b⟩=>⟨e1,h1,u,Ch.cut.mpr ⟨mid,a,b⟩⟩⟩
variable{rk:Keyed->Int}{prog:Program}{w:World}{A:Around}{E:Value->Shared->Prop}{s:Shared}{G:Keyed->Prop}{κ:SortKind}{a₀:Array Keyed}
def Fw:Nat->StateT SortSt Sem Bool:=sortPriv% PySem.Builtin.mergeAt
abbrev Du(st:SortSt)(p:Array (Nat×Nat×Nat)):SortSt:=SortSt.mk' (kindOf st) ⑦ p (gallopOf st) (failedOf st)
theorem Ra(i:Nat):Fw i=(do
 let s <- get
 let (some (sa,na,power),some (sb,nb,_)):=((pendingOf s)[i]?,(pendingOf s)[i+1]?) | unsupported "internal:list.sort.pending"
 set (Du s (((pendingOf s).setIfInBounds i (sa,na+nb,power)).eraseIdxIfInBounds (i+1)))
 let some k <- Cr false (<- elem' (arrOf s) sb) (arrOf s) sa na 0 | return false
 let (sa,na):=(sa+k,na-k)
 if na==0 then return true
 let some nb <- Cr true (<- elem' (arrOf s) (sa+na-1)) (arrOf s) sb nb (nb-1) | return false
 if nb==0 then return true
 let x:=(arrOf s).extract sa sb
 let y:=(arrOf s).extract sb (sb+nb)
 let merged <- if na<=nb then Ig x y else Hq x y
 modify fun s=>setArr s (lay (arrOf s) sa merged)
 return (failedOf (<- get)).isNone):=rfl
theorem ADm{σ:Type}{M:Model}{x:σ}{Q:PUnit->σ->Prop}{st:σ}(h:Q ⟨⟩ x):wpS M A E s (set x:StateT σ Sem PUnit) Q st:=by
 unfold wpS;rw[StateT.run_set];!wpAny_pure ⟨rfl,h⟩
theorem RL(C:Cmp prog w A E s κ G rk){st:SortSt}(B:Ba G rk κ a₀ st){i sa na pa sb nb pb:Nat}(hp1:(pendingOf st)[i]?=some (sa,na,pa))(hp2:(pendingOf st)[i+1]?=some (sb,nb,pb))(esb:sb=sa+na)(n1:1<=na)(n2:1<=nb)(hz:sb+nb<=a₀.size)(ua:Up rk ⑦ sa (sa+na))(ub:Up rk ⑦ sb (sb+nb)){Q:Bool->SortSt->Prop}
  (h:∀ st',Ba G rk κ a₀ st'->pendingOf st'=((pendingOf st).setIfInBounds i (sa,na+nb,pa)).eraseIdxIfInBounds (i+1)->(∀ q,q<sa\/sb+nb<=q->(arrOf st')[q]?=⑦[q]?)->Up rk (arrOf st') sa (sb+nb)->Q true st'):wpS ① A E s (Fw i) Q st:=by
 h sz:=B.size;h al:=B.all.perm B.perm;rw[Ra];r wpS_bind (wpS_get ?_);rw[hp1,hp2];dsimp only;r wpS_bind (ADm ?_);h B1:Ba G rk κ a₀ (Du st (((pendingOf st).setIfInBounds i (sa,na+nb,pa)).eraseIdxIfInBounds (i+1))):=⟨B.perm,B.kind,B.failed,B.all,B.di⟩;h hb:sb<⑦.size:=by w
 r wpS_bind (Bk hb ?_);r wpS_bind (Df C (al.at hb) al B1.kind ¢ ¢ (Eu ua) fun k kn kt kf=>?_);dsimp only;h t1:∀ q,sa<=q->q<sa+k->N rk ⑦ q<=N rk ⑦ sb:=fun q q1 q2=>by
  h z:=kt (q-sa) ¢;rw[Dz ¢] at z;h e:sa+(q-sa)=q:=by w
  simp only[e] at z;rw[Fo (show q<⑦.size by w),Fo hb];r Int.not_lt.mp fun y=>?_;rw[decide_eq_true y] at z;cases z
 h t2:∀ q,sa+k<=q->q<sa+na->N rk ⑦ sb<N rk ⑦ q:=fun q q1 q2=>by
  h z:=kf (q-sa) ¢ ¢;rw[Dz ¢] at z;h e:sa+(q-sa)=q:=by w
  simp only[e] at z;rw[Fo (show q<⑦.size by w),Fo hb];cases c:decide (rk ⑦[sb]<rk (⑦[q]'¢)) with
  | true=>!of_decide_eq_true c
  | false=>rw[c] at z;cases z
 by_cases c1:na-k=0
 ·rw[if_pos (by rw[c1];rfl)]
  r wpS_pure (h _ B1 rfl (fun _ _=>rfl) fun p q sp pq qh=>?_);by_cases d:q<sa+na
  ·!ua p q sp pq d
  ·by_cases d':p<sa+na
   ·!Int.le_trans (t1 p sp ¢) (ub sb q ② ¢ qh)
   ·!ub p q ¢ pq qh
 rw[if_neg (by intro z;!c1 ⑱)];h hl:sa+k+(na-k)-1<⑦.size:=by w
 r wpS_bind (Bk hl ?_);r wpS_bind (Df C (al.at hl) al B1.kind ¢ ¢ (Eu ub) fun m mn mt mf=>?_);dsimp only;h el:sa+k+(na-k)-1=sb-1:=by w
 h u1:∀ q,sb<=q->q<sb+m->N rk ⑦ q<N rk ⑦ (sb-1):=fun q q1 q2=>by
  h z:=mt (q-sb) ¢;rw[FN ¢] at z;h e:sb+(q-sb)=q:=by w
  simp only[e,el] at z;rw[Fo (show q<⑦.size by w),Fo (show sb-1<⑦.size by w)];!of_decide_eq_true z
 h u2:∀ q,sb+m<=q->q<sb+nb->N rk ⑦ (sb-1)<=N rk ⑦ q:=fun q q1 q2=>by
  h z:=mf (q-sb) ¢ ¢;rw[FN ¢] at z;h e:sb+(q-sb)=q:=by w
  simp only[e,el] at z;rw[Fo (show q<⑦.size by w),Fo (show sb-1<⑦.size by w)];!Int.not_lt.mp (of_decide_eq_false z)
 by_cases c2:m=0
 ·rw[if_pos (by rw[c2];rfl)]
  r wpS_pure (h _ B1 rfl (fun _ _=>rfl) fun p q sp pq qh=>?_);by_cases d:q<sa+na
  ·!ua p q sp pq d
  ·by_cases d':p<sa+na
   ·!Int.le_trans (ua p (sb-1) sp ¢ ¢) (u2 q ¢ qh)
   ·!ub p q ¢ pq qh
 rw[if_neg (by intro z;!c2 ⑱)];h exs:(⑦.extract (sa+k) sb).size=sb-(sa+k):=by simp;w
 h eys:(⑦.extract sb (sb+m)).size=m:=by simp;w
 h sx:Srt rk (⑦.extract (sa+k) sb).toList:=srt_extract (fun p q a b c=>ua p q ¢ b ¢) ¢;h sy:Srt rk (⑦.extract sb (sb+m)).toList:=srt_extract (fun p q a b c=>ub p q a b ¢) ¢;h atx:∀ j,∀ hj:j<(⑦.extract (sa+k) sb).size,rk (⑦.extract (sa+k) sb)[j]=N rk ⑦ (sa+k+j):=fun j hj=>by
  rw[AAH hj,Fo ¢]
 h aty:∀ j,∀ hj:j<(⑦.extract sb (sb+m)).size,rk (⑦.extract sb (sb+m))[j]=N rk ⑦ (sb+j):=fun j hj=>by
  rw[AAH hj,Fo ¢]
 h first:∀ j,∀ hj:j<(⑦.extract (sa+k) sb).size,∀ h0:0<(⑦.extract sb (sb+m)).size,rk ((⑦.extract sb (sb+m))[0]'h0)<=rk (⑦.extract (sa+k) sb)[j]:=fun j hj h0=>by
  rw[atx j hj,aty 0 h0,Nat.add_zero];!Int.le_of_lt (t2 _ ¢ ¢)
 h lastx:∀ j,∀ hj:j<(⑦.extract sb (sb+m)).size,rk (⑦.extract sb (sb+m))[j]<=N rk ⑦ (sb-1):=fun j hj=>by
  rw[aty j hj];!Int.le_of_lt (u1 _ ¢ ¢)
 h fin:∀(r:Array Keyed) (st2:SortSt),Gx (Du st (((pendingOf st).setIfInBounds i (sa,na+nb,pa)).eraseIdxIfInBounds (i+1))) st2->Mg rk (⑦.extract (sa+k) sb).toList (⑦.extract sb (sb+m)).toList r.toList ->
   wpS ① A E s (do modify fun s=>setArr s (lay (arrOf s) (sa+k) r);let g <- get;pure (failedOf g).isNone) Q st2:=fun r st2 g ⟨pm,sr⟩=>by
  h rs:r.size=sb+m-(sa+k):=by
   have:=pm.length_eq;simp at this;w
  h ea:arrOf st2=arrOf st:=g.arr;h hs:sa+k+r.size<=⑦.size:=by w
  r wpS_bind (wpS_modify ?_);r wpS_bind (wpS_get ?_);h ef:failedOf (setArr st2 (lay (arrOf st2) (sa+k) r))=none:=g.failed.trans B.failed;rw[ef];h lp:=Zv (arr:=arrOf st) (r:=r) (lo:=sa+k) (mid:=sb) (hi:=sb+m) ¢ ¢ ¢ pm;h mem:∀ j,∀ hj:j<r.size,∃ q,sa+k<=q/\q<sb+m/\rk r[j]=N rk ⑦ q:=fun j hj=>by
   have:r[j]∈r.toList:=Array.getElem_mem_toList hj;rcases List.mem_append.mp (pm.mem_iff.mp this) with z | z
   ·o⟨q,hq,e⟩:=List.mem_iff_getElem.mp z
    h hq':q<(⑦.extract (sa+k) sb).size:=by rw[<- ┄];!hq
    !⟨sa+k+q,by w,by w,by rw[<- e,<- atx q hq'];simp⟩
   ·o⟨q,hq,e⟩:=List.mem_iff_getElem.mp z
    h hq':q<(⑦.extract sb (sb+m)).size:=by rw[<- ┄];!hq
    !⟨sb+q,by w,by w,by rw[<- e,<- aty q hq'];simp⟩
  h laid:∀ q,N rk (lay ⑦ (sa+k) r) q=if c:sa+k<=q/\q<sa+k+r.size then rk (r[q-(sa+k)]'¢) else N rk ⑦ q:=fun q=>by
   h e:=Qf (arr:=arrOf st) (r:=r) (sa:=sa+k) hs q;by_cases c:sa+k<=q/\q<sa+k+r.size
   ·rw[dif_pos c]
    rw[if_pos c] at e;unfold N;rw[e,┋ ¢]
   ·rw[dif_neg c]
    rw[if_neg c] at e;!Em e
  r wpS_pure (h _ ⟨?_,g.kind.trans B.kind,ef,B.all,B.di⟩ g.pend (fun q hq=>?_) ?_)
  ·show (lay (arrOf st2) (sa+k) r).Perm a₀
   rw[ea];!lp.trans B.perm
  ·show (lay (arrOf st2) (sa+k) r)[q]?=_
   rw[ea,Qf hs,if_neg ¢]
  ·show Up rk (lay (arrOf st2) (sa+k) r) sa (sb+nb)
   rw[ea];intro p q sp pq qh;rw[laid p,laid q];by_cases cp:sa+k<=p/\p<sa+k+r.size
   ·rw[dif_pos cp]
    by_cases cq:sa+k<=q/\q<sa+k+r.size
    ·rw[dif_pos cq]
     !Ep sr ¢ ¢
    ·rw[dif_neg cq]
     o⟨v,v1,v2,ev⟩:=mem (p-(sa+k)) ¢;rw[ev];by_cases d:v<sb
     ·!Int.le_trans (ua v (sb-1) ¢ ¢ ¢) (u2 q ¢ qh)
     ·!ub v q ¢ ¢ qh
   ·rw[dif_neg cp]
    by_cases cq:sa+k<=q/\q<sa+k+r.size
    ·rw[dif_pos cq]
     o⟨v,v1,v2,ev⟩:=mem (q-(sa+k)) ¢;rw[ev];by_cases d:v<sb
     ·!ua p v sp ¢ ¢
     ·!Int.le_trans (t1 p sp ¢) (ub sb v ② ¢ ¢)
    ·rw[dif_neg cq]
     by_cases d:q<sa+k
     ·!ua p q sp pq ¢
     ·by_cases d2:p<sa+k
      ·!Int.le_trans (t1 p sp d2) (ub sb q ② ¢ qh)
      ·!ub p q ¢ pq qh
 by_cases c3:na-k<=m
 ·rw[if_pos c3]
  r wpS_bind (Rp C ⟨Fe al _ _,Fe al _ _,sx,sy,fun y hy z hz=>?_⟩ B1.kind ¢ ¢ (fun j hj=>first j hj ¢) fun r st2 g mg=>fin r st2 g mg);o⟨j,j1,hj,rfl⟩:=Dn hz;o⟨q,hq,e⟩:=List.mem_iff_getElem.mp hy;h hq':q<(⑦.extract sb (sb+m)).size:=by rw[<- ┄];!hq
  h e':y=(⑦.extract sb (sb+m))[q]:=by rw[<- e];simp
  rw[e',atx j hj,show sa+k+j=sb-1 by w];!lastx q hq'
 ·rw[if_neg c3]
  r wpS_bind (SQ C ⟨Fe al _ _,Fe al _ _,sx,sy,fun j hj h0=>first j hj h0⟩ B1.kind ¢ ¢ (fun j hj=>?_) fun r st2 g mg=>fin r st2 g mg);rw[atx _ ¢,show sa+k+((⑦.extract (sa+k) sb).size-1)=sb-1 by w];!lastx j hj
variable{rk:Keyed->Int}{prog:Program}{w:World}{A:Around}{E:Value->Shared->Prop}{s:Shared}{G:Keyed->Prop}{κ:SortKind}{a₀:Array Keyed}
def Pn:Nat->Nat->Nat->Nat:=sortPriv% PySem.Builtin.minRun
def powerT:Nat->Nat->Nat->Nat->Nat:=sortPriv% PySem.Builtin.power
def Oq:StateT SortSt Sem Unit:=sortPriv% PySem.Builtin.sortRuns
theorem Qs:Oq=(do
 let size:=(arrOf (<- get)).size
 let minrun:=Pn size size 0
 let mut lo:=0
 for _ in [0:size] do
  if lo >= size then break
  let some found <- JQ lo (size-lo) | return
  let mut n:=found
  if n<minrun then
   rule "list.sort.binary-insertion"
   let force:=min (size-lo) minrun
   if !(<- KR lo force n) then return
   n:=force
  if let some (s1,n1,_):=(pendingOf (<- get)).back? then
   let pw:=powerT size (2*s1+n1) (2*s1+n1+n1+n) size
   for _ in [0:size] do
    let p:=pendingOf (<- get)
    let some (_,_,older):=(if p.size>1 then p[p.size-2]? else none) | break
    if older<=pw then break
    if !(<- Fw (p.size-2)) then return
   modify fun s=>Du s ((pendingOf s).modify ((pendingOf s).size-1) fun(st,len,_)=>(st,len,pw))
  modify fun s=>Du s ((pendingOf s).push (lo,n,0))
  lo:=lo+n
 for _ in [0:size] do
  let p:=pendingOf (<- get)
  if p.size<=1 then break
  let i:=p.size-2
  let before:=if i>0 then p[i-1]?.map (·.2.1) else none
  let i:=if before.any (· < (p[i+1]?.elim 0 (·.2.1))) then i-1 else i
  if !(<- Fw i) then return):=rfl
structure Rn(G:Keyed->Prop)(rk:Keyed->Int)(κ:SortKind)(a₀:Array Keyed)(lo:Nat)(st:SortSt):Prop where
 ba:Ba G rk κ a₀ st
 ch:Ch rk ⑦ (pendingOf st).toList 0 lo
theorem Kv{α:Type}:∀{l:List α}{i:Nat}{x y:α},l[i]?=some x->l[i+1]?=some y->l=l.take i++x::y::l.drop (i+2)
 | a::b::l,0,x,y,h1,h2=>by
  simp at h1 h2;subst h1 h2;rfl
 | a::l,i+1,x,y,h1,h2=>by
  have:=Kv (l:=l) (i:=i) (x:=x) (y:=y) (by u h1) (by u h2);rw[List.take_succ_cons,List.cons_append]
  congr 1
theorem YX{p:Array (Nat×Nat×Nat)}{i:Nat}{x y v:Nat×Nat×Nat}(h1:p[i]?=some x)(h2:p[i+1]?=some y):((p.setIfInBounds i v).eraseIdxIfInBounds (i+1)).toList=p.toList.take i++v::p.toList.drop (i+2):=by
 h hi:i+1<p.size:=(Array.getElem?_eq_some_iff.mp h2).1;h e:=Kv (l:=p.toList) (i:=i) (x:=x) (y:=y) (by rw[Array.getElem?_toList];!h1) (by rw[Array.getElem?_toList];!h2);h tl:(p.toList.take i).length=i:=by simp;w
 h es:(p.setIfInBounds i v).toList=p.toList.take i++v::y::p.toList.drop (i+2):=by
  rw[Array.toList_setIfInBounds]
  conv=>lhs;rw[e]
  rw[List.set_append_right _ _ ¢,tl,Nat.sub_self];rfl
 h hz:i+1<(p.setIfInBounds i v).size:=by rw[Array.size_setIfInBounds];!hi
 rw[Array.eraseIdxIfInBounds,dif_pos hz,Array.toList_eraseIdx,es,List.eraseIdx_append_of_length_le ¢,tl]
 congr 1
 rw[show i+1-i=1 by w];rfl
theorem QC(C:Cmp prog w A E s κ G rk){st:SortSt}{lo i:Nat}(R:Rn G rk κ a₀ lo st)(hl:lo<=a₀.size)(hi:i+1<(pendingOf st).size){Q:Bool->SortSt->Prop}
  (h:∀ st',Rn G rk κ a₀ lo st'->(pendingOf st').size+1=(pendingOf st).size->(∀ q,lo<=q->(arrOf st')[q]?=⑦[q]?)->Q true st'):wpS ① A E s (Fw i) Q st:=by
 obtain ⟨sa,na,pa,e1⟩:∃ sa na pa,(pendingOf st)[i]?=some (sa,na,pa):=⟨_,_,_,┋ ¢⟩;obtain ⟨sb,nb,pb,e2⟩:∃ sb nb pb,(pendingOf st)[i+1]?=some (sb,nb,pb):=⟨_,_,_,┋ hi⟩;h e:=Kv (l:=(pendingOf st).toList) (i:=i) (by rw[Array.getElem?_toList];!e1) (by rw[Array.getElem?_toList];!e2);h ch:=R.ch;rw[e] at ch;o⟨mid,c1,rfl,n1,ua,rfl,n2,ub,c2⟩:=Ch.cut.mp ch;h le:=c2.le;h le1:=c1.le;h z2:sa+na+nb<=lo:=by w
 r RL C R.ba e1 e2 rfl n1 n2 ¢ ua ub fun st' B' pe low up=>?_;h pl:=YX (v:=(sa,na+nb,pa)) e1 e2;r h st' ⟨B',?_⟩ ?_ fun q hq=>low q (.inr ¢)
 ·rw[pe,pl]
  r Ch.cut.mpr ⟨sa,c1.congr fun q _ hq=>low q (.inl hq),rfl,by w,?_,?_⟩
  ·rw[show sa+(na+nb)=sa+na+nb by w]
   !up
  ·rw[show sa+(na+nb)=sa+na+nb by w]
   !c2.congr fun q hq _=>low q (.inr hq)
 ·have:=congrArg List.length pl
  rw[<- pe] at this;simp at this;w
theorem Ch.mod{arr:Array Keyed}{f:Nat×Nat×Nat->Nat×Nat×Nat}(hf:∀ x,(f x).1=x.1/\(f x).2.1=x.2.1):∀{l:List (Nat×Nat×Nat)}{lo hi:Nat} (i:Nat),Ch rk arr l lo hi->Ch rk arr (l.modify i f) lo hi
 | [],lo,hi,i,h=>by rw[List.modify_nil];!h
 | (a,n,p)::l,lo,hi,0,⟨e1,h1,u,h⟩=>by
  rw[List.modify_zero_cons];have:=hf (a,n,p);generalize f (a,n,p)=y at this;o⟨y1,y2,y3⟩:=y;o⟨z1,z2⟩:=this;dsimp only at z1 z2;subst z1 z2;!⟨e1,h1,u,h⟩
 | (a,n,p)::l,lo,hi,i+1,⟨e1,h1,u,h⟩=>by
  rw[List.modify_succ_cons];!⟨e1,h1,u,Ch.mod hf i h⟩
theorem ACW{c:Prop}{i:Decidable c}{a b m:Nat}(h1:a<=m)(h2:b<=m):(@ite Nat c i a b)<=m:=by
 split
 ·!h1
 ·!h2
theorem MK(C:Cmp prog w A E s κ G rk){st:SortSt}(B:Ba G rk κ a₀ st)(hp:pendingOf st=#[]){Q:Unit->SortSt->Prop}
  (h:∀ st',Ba G rk κ a₀ st'->Up rk (arrOf st') 0 a₀.size->Q () st'):wpS ① A E s Oq Q st:=by
 rw[Qs];r wpS_bind (wpS_get ?_);dsimp only;rw[B.size];r wpS_bind (wpS_mono (wpS_forRange (I:=fun x c st'=>∃ lo,c=(none,lo)/\x<=lo/\lo<=a₀.size/\Rn G rk κ a₀ lo st') (Q:=fun c st'=>c=(none,a₀.size)/\Rn G rk κ a₀ a₀.size st') ?_ ?_ ⟨0,rfl,Nat.le_refl _,Nat.zero_le _,B,by rw[hp];rfl⟩) ?_)
 ·rintro x c st1 _ xn ⟨lo,rfl,xl,ll,R⟩
  dsimp only;by_cases c1:lo >= a₀.size
  ·rw[if_pos c1]
   have:lo=a₀.size:=by w
   subst this;!wpS_pure ⟨rfl,R⟩
  rw[if_neg c1];r wpS_bind (Ly C R.ba ¢ ¢ fun n st2 n1 nn nx up=>?_);dsimp only;h R2:Rn G rk κ a₀ lo st2:=⟨R.ba.nx nx,by rw[nx.pend];!R.ch.congr fun i _ hi=>nx.low i hi⟩;by_cases c2:n<Pn a₀.size a₀.size 0
  ·rw[if_pos c2]
   r wpS_bind (wpS_lift (wpAny_rule ⟨rfl,?_⟩));obtain ⟨f,ef⟩:∃ f,f=min (a₀.size-lo) (Pn a₀.size a₀.size 0):=⟨_,rfl⟩;rw[<- ef];r wpS_bind (Qt C R2.ba (n:=f) ¢ ¢ up fun st3 nx3 up3=>?_);h R3:Rn G rk κ a₀ lo st3:=⟨R2.ba.nx nx3,by rw[nx3.pend];!R2.ch.congr fun i _ hi=>nx3.low i hi⟩;rw[if_neg ¤];r wpS_bind (wpS_get ?_);h put:∀{st4:SortSt},Rn G rk κ a₀ lo st4->(∀ q,lo<=q->(arrOf st4)[q]?=(arrOf st3)[q]?)->Rn G rk κ a₀ (lo+f) (Du st4 ((pendingOf st4).push (lo,f,0))):=fun {st4} R4 e4=>⟨⟨R4.ba.perm,R4.ba.kind,R4.ba.failed,R4.ba.all,R4.ba.di⟩,by
    show Ch rk (arrOf st4) ((pendingOf st4).push (lo,f,0)).toList 0 (lo+f);rw[Array.toList_push];!Ch.cut.mpr ⟨lo,R4.ch,rfl,by w,up3.congr fun q hq _=>e4 q hq,rfl⟩⟩
   cases hb:(pendingOf st3).back? with
   | none =>
    dsimp only;!wpS_bind (wpS_modify (wpS_pure ⟨lo+f,rfl,by w,by w,put R3 fun _ _=>rfl⟩))
   | some v =>
    o⟨s1,m1,q1⟩:=v;dsimp only;r wpS_bind (wpS_mono (wpS_forRange (I:=fun _ c st4=>c=(none,())/\Rn G rk κ a₀ lo st4/\∀ q,lo<=q->(arrOf st4)[q]?=(arrOf st3)[q]?) (Q:=fun c st4=>c=(none,())/\Rn G rk κ a₀ lo st4/\∀ q,lo<=q->(arrOf st4)[q]?=(arrOf st3)[q]?) ?_ (fun _ _ h=>h) ⟨rfl,R3,fun _ _=>rfl⟩) ?_)
    ·rintro y c st4 _ _ ⟨rfl,R4,e4⟩
     r wpS_bind (wpS_get ?_);by_cases d1:(pendingOf st4).size>1
     ·rw[if_pos d1,┋ (show (pendingOf st4).size-2<(pendingOf st4).size by w)]
      dsimp only;split
      ·!wpS_pure ⟨rfl,R4,e4⟩
      ·r wpS_bind (QC C R4 ¢ ¢ fun st5 R5 _ e5=>?_)
       rw[if_neg ¤];!wpS_pure ⟨rfl,R5,fun q hq=>(e5 q hq).trans (e4 q hq)⟩
     ·rw[if_neg d1]
      !wpS_pure ⟨rfl,R4,e4⟩
    ·rintro c st4 ⟨rfl,R4,e4⟩
     dsimp only;r wpS_bind (wpS_modify (wpS_bind (wpS_modify (wpS_pure ⟨lo+f,rfl,by w,by w,?_⟩))));r put (st4:=Du st4 ((pendingOf st4).modify ((pendingOf st4).size-1) _)) ⟨⟨R4.ba.perm,R4.ba.kind,R4.ba.failed,R4.ba.all,R4.ba.di⟩,?_⟩ e4;show Ch rk (arrOf st4) ((pendingOf st4).modify ((pendingOf st4).size-1) _).toList 0 lo;rw[Array.toList_modify];r Ch.mod (f:=_) ?_ _ R4.ch;!fun _=>⟨rfl,rfl⟩
  ·rw[if_neg c2]
   r wpS_bind (wpS_get ?_);h put:∀{st4:SortSt},Rn G rk κ a₀ lo st4->(∀ q,lo<=q->(arrOf st4)[q]?=(arrOf st2)[q]?)->Rn G rk κ a₀ (lo+n) (Du st4 ((pendingOf st4).push (lo,n,0))):=fun {st4} R4 e4=>⟨⟨R4.ba.perm,R4.ba.kind,R4.ba.failed,R4.ba.all,R4.ba.di⟩,by
    show Ch rk (arrOf st4) ((pendingOf st4).push (lo,n,0)).toList 0 (lo+n);rw[Array.toList_push];!Ch.cut.mpr ⟨lo,R4.ch,rfl,by w,up.congr fun q hq _=>e4 q hq,rfl⟩⟩
   cases hb:(pendingOf st2).back? with
   | none =>
    dsimp only;!wpS_bind (wpS_modify (wpS_pure ⟨lo+n,rfl,by w,by w,put R2 fun _ _=>rfl⟩))
   | some v =>
    o⟨s1,m1,q1⟩:=v;dsimp only;r wpS_bind (wpS_mono (wpS_forRange (I:=fun _ c st4=>c=(none,())/\Rn G rk κ a₀ lo st4/\∀ q,lo<=q->(arrOf st4)[q]?=(arrOf st2)[q]?) (Q:=fun c st4=>c=(none,())/\Rn G rk κ a₀ lo st4/\∀ q,lo<=q->(arrOf st4)[q]?=(arrOf st2)[q]?) ?_ (fun _ _ h=>h) ⟨rfl,R2,fun _ _=>rfl⟩) ?_)
    ·rintro y c st4 _ _ ⟨rfl,R4,e4⟩
     r wpS_bind (wpS_get ?_);by_cases d1:(pendingOf st4).size>1
     ·rw[if_pos d1,┋ (show (pendingOf st4).size-2<(pendingOf st4).size by w)]
      dsimp only;split
      ·!wpS_pure ⟨rfl,R4,e4⟩
      ·r wpS_bind (QC C R4 ¢ ¢ fun st5 R5 _ e5=>?_)
       rw[if_neg ¤];!wpS_pure ⟨rfl,R5,fun q hq=>(e5 q hq).trans (e4 q hq)⟩
     ·rw[if_neg d1]
      !wpS_pure ⟨rfl,R4,e4⟩
    ·rintro c st4 ⟨rfl,R4,e4⟩
     dsimp only;r wpS_bind (wpS_modify (wpS_bind (wpS_modify (wpS_pure ⟨lo+n,rfl,by w,by w,?_⟩))));r put (st4:=Du st4 ((pendingOf st4).modify ((pendingOf st4).size-1) _)) ⟨⟨R4.ba.perm,R4.ba.kind,R4.ba.failed,R4.ba.all,R4.ba.di⟩,?_⟩ e4;show Ch rk (arrOf st4) ((pendingOf st4).modify ((pendingOf st4).size-1) _).toList 0 lo;rw[Array.toList_modify];r Ch.mod (f:=_) ?_ _ R4.ch;!fun _=>⟨rfl,rfl⟩
 ·rintro c st' ⟨lo,rfl,xl,ll,R⟩
  have:lo=a₀.size:=by w
  subst this;!⟨rfl,R⟩
 ·rintro c st' ⟨rfl,R⟩
  dsimp only;r wpS_bind (wpS_mono (wpS_forRange (I:=fun x c st2=>c=(none,())/\Rn G rk κ a₀ a₀.size st2/\((pendingOf st2).size<=1\/(pendingOf st2).size+x<=a₀.size)) (Q:=fun c st2=>c=(none,())/\Rn G rk κ a₀ a₀.size st2/\(pendingOf st2).size<=1) ?_ ?_ ⟨rfl,R,.inr ?_⟩) ?_)
  ·rintro x c st2 _ xn ⟨rfl,R2,sz⟩
   r wpS_bind (wpS_get ?_);by_cases d1:(pendingOf st2).size<=1
   ·rw[if_pos d1]
    !wpS_pure ⟨rfl,R2,d1⟩
   ·rw[if_neg d1]
    r wpS_bind (QC C R2 ② ?_ fun st3 R3 z3 _=>?_)
    ·!Nat.lt_of_le_of_lt (Nat.add_le_add_right (ACW (m:=(pendingOf st2).size-2) ¢ ¢) 1) ¢
    ·rw[if_neg ¤]
     !wpS_pure ⟨rfl,R3,by w⟩
  ·rintro c st2 ⟨rfl,R2,sz⟩
   !⟨rfl,R2,by w⟩
  ·have:=R.ch.le
   simp at this;w
  ·rintro c st2 ⟨rfl,R2,sz⟩
   r wpS_pure (h st2 R2.ba ?_);h ch:=R2.ch;cases e:(pendingOf st2).toList with
   | nil =>
    rw[e] at ch;h z:0=a₀.size:=ch;intro i j _ _ hj;w
   | cons v l =>
    rw[e] at ch;o⟨v1,v2,v3⟩:=v;h ln:l=[]:=by
     have:=congrArg List.length e;simp at this;!List.length_eq_zero_iff.mp ¢
    subst ln;o⟨_,_,u,z⟩:=ch;h z':0+v2=a₀.size:=z;rw[<- z'];!u
end TM
end
section
namespace SB
open PySem PySem.W PyProof.Rows
theorem Vi:∀{x y:List Int},HT.lexLt x y=true->HT.lexLt y x=false
 | [],[],h=>by cases h
 | [],_::_,_=>rfl
 | _::_,[],h=>by cases h
 | a::x,b::y,h=>by
  rw[HT.Ca] at h ⊢;by_cases c:a=b
  ·rw[if_pos c] at h
   rw[if_pos c.symm];!Vi h
  ·rw[if_neg c] at h
   rw[if_neg (Ne.symm c)];have:=of_decide_eq_true h;!decide_eq_false ¢
theorem VB:∀{x y:List Int},x≠y->HT.lexLt x y=false->HT.lexLt y x=true
 | [],[],n,_=>absurd rfl n
 | [],_::_,_,h=>by cases h
 | _::_,[],_,_=>rfl
 | a::x,b::y,n,h=>by
  rw[HT.Ca] at h ⊢;by_cases c:a=b
  ·rw[if_pos c] at h
   rw[if_pos c.symm];!VB (fun e=>n (by rw[c,e])) h
  ·rw[if_neg c] at h
   rw[if_neg (Ne.symm c)];have:=of_decide_eq_false h;!decide_eq_true ¢
theorem Vy:∀{x y z:List Int},HT.lexLt x y=true->HT.lexLt y z=true->HT.lexLt x z=true
 | [],[],_,h,_=>by cases h
 | [],_::_,[],_,h=>by cases h
 | [],_::_,_::_,_,_=>rfl
 | _::_,[],_,h,_=>by cases h
 | _::_,_::_,[],_,h=>by cases h
 | a::x,b::y,c::z,h,k=>by
  rw[HT.Ca] at h k ⊢;by_cases ab:a=b
  ·rw[if_pos ab] at h
   by_cases bc:b=c
   ·rw[if_pos bc] at k
    rw[if_pos (ab.trans bc)];!Vy h k
   ·rw[if_neg bc] at k
    rw[if_neg (fun e=>bc ¢)];have:=of_decide_eq_true k;!decide_eq_true ¢
  ·rw[if_neg ab] at h
   h h':=of_decide_eq_true h;by_cases bc:b=c
   ·rw[if_pos bc] at k
    rw[if_neg ¢];!decide_eq_true ¢
   ·rw[if_neg bc] at k
    h k':=of_decide_eq_true k;rw[if_neg ¢];!decide_eq_true ¢
section
variable{prog:Program}{w:World}{A:Around}{E:Value->Shared->Prop}{s:Shared}
theorem AAl{b fin:Bool}{Q:Bool->Shared->Prop}{x y:List Int}{vs us:List Value}(hx:ItemsAre (intKind prog w) x vs):∀{y:List Int}{us:List Value} (i:Nat),ItemsAre (intKind prog w) y us->fin=decide (x.length<y.length)->Q (HT.lexLt x y) s->KatLex prog w A b fin Q (vs.zip us) i s:=by
 induction hx with
 | nil =>
  intro y us i hy hf q;cases hy with
  | nil=>rw[hf];!q
  | cons h1 t=>rw[hf];!q
 | @cons k v ks vs' hk ht ih =>
  intro y us i hy hf q;cases hy with
  | nil=>rw[hf];!q
  | @cons k' v' ks' us' hk' ht' =>
   rw[HT.Ca] at q;r kat_cons ((intKind prog w).eqBool hk hk' ?_);by_cases c:k=k'
   ·rw[if_pos c] at q
    rw[decide_eq_true c];r kat_yes (ih (i+1) ht' ?_ q);rw[hf];simp
   ·rw[if_neg c] at q
    rw[decide_eq_false c];r kat_no ?_;o⟨t1,rfl⟩:=Value.isInt_shape hk;o⟨t2,rfl⟩:=Value.isInt_shape hk';cases (b&&i==0) with
    | true =>
     rw[<- keyLt'_oneType];!kat_lt_int q
    | false=>!kat_one _ _ (lt_int q)
theorem AFY{b:Bool}{x y:List Int}{a c:Addr}{Q:Bool->Shared->Prop}(hx:IK prog w s.heap x a)(hy:IK prog w s.heap y c)(q:Q (HT.lexLt x y) s):wpAny ① A (keyLt' (tuples' b) (.ref a) (.ref c)) Q E s:=by
 o⟨ox,xs,n,gx,cx,dx,ix⟩:=hx;o⟨oy,ys,k,gy,cy,dy,iy⟩:=hy;r kat_lt gx dx gy dy (AAl (x:=x) (y:=y) (us:=ys.toList) ix 0 iy ?_ q);h l1:=ix.length;h l2:=iy.length;rw[l1,l2,┄,┄]
end
structure Row(prog:Program)(w:World)(h:Heap)(vs:List Value)(ks:List ⑫):Prop where
 vals:vs=ks.map fun x=>Value.ref x.2
 keys:∀ x∈ks,IK prog w h x.1 x.2
 full:∀ x∈ks,x.1≠[]
 nd:(ks.map (·.1)).Nodup
def ltK(ks:List ⑫)(i j:Nat):Bool:=HT.lexLt (ks.getD i ([],0)).1 (ks.getD j ([],0)).1
section
variable{prog:Program}{w:World}{A:Around}{E:Value->Shared->Prop}{s:Shared}{vs:List Value}{ks:List ⑫}
theorem Row.tups{h:Heap}(R:Row prog w h vs ks):∃ fs,KatTups h vs fs/\fs.length=vs.length/\∀ v∈fs,∃ n t,v=Value.int n t:=by
 o⟨e,hk,hf,hn⟩:=R;clear hn;subst e
 induction ks with
 | nil=>!⟨[],trivial,rfl,fun v hv=>by cases hv⟩
 | cons x r ih =>
  o⟨fs,t,l,q⟩:=ih (fun y hy=>hk y (¶ _ hy)) (fun y hy=>hf y (¶ _ hy));o⟨o,xs,n,gx,cx,dx,ix⟩:=hk x ´;h hx:=hf x ´;o⟨xk,xa⟩:=x;cases hxs:xs.toList with
  | nil =>
   rw[hxs] at ix;cases ix;!absurd rfl hx
  | cons f rest =>
   have hf0:xs[0]?=some f:=by rw[<- Array.getElem?_toList,hxs];rfl
   have hi:=Qo ix f (by rw[hxs];!´);r⟨f::fs,KatTups.cons gx cx dx hf0 t,by simp[l],fun v hv=>?_⟩;rcases ┃ hv with rfl | hv
   ·!hi
   ·!q v hv
theorem perm_back{α β:Type}{f:α->β}{l m:List β}(p:l.Perm m):∀ ks:List α,m=ks.map f->∃ ks':List α,ks'.Perm ks/\l=ks'.map f:=by
 induction p with
 | nil =>
  intro ks e;cases ks with
  | nil=>!⟨[],.refl _,rfl⟩
  | cons _ _=>cases e
 | @cons x l1 l2 _ ih =>
  intro ks e;cases ks with
  | nil=>cases e
  | cons k r =>
   rw[List.map_cons] at e;o⟨e1,e2⟩:=List.cons.inj e;o⟨r',p',e'⟩:=ih r e2;!⟨k::r',p'.cons k,by rw[List.map_cons,e1,e']⟩
 | swap x y l1 =>
  intro ks e
  match ks,e with
  | [],e=>cases e
  | [_],e=>simp at e
  | a::b::r,e =>
   rw[List.map_cons,List.map_cons] at e;o⟨e1,e2⟩:=List.cons.inj e;o⟨e3,e4⟩:=List.cons.inj e2;!⟨b::a::r,List.Perm.swap ..,by rw[List.map_cons,List.map_cons,e1,e3,e4]⟩
 | trans _ _ ih1 ih2 =>
  intro ks e;o⟨k2,p2,e2⟩:=ih2 ks e;o⟨k1,p1,e1⟩:=ih1 k2 e2;!⟨k1,p1.trans p2,e1⟩
theorem PB{ks:List Int}{us:List Value}(h:ItemsAre (intKind prog w) ks us):ks=us.map numOf:=by
 induction h with
 | nil=>rfl
 | cons h1 _ ih =>
  o⟨t,e⟩:=Value.isInt_shape h1;rw[List.map_cons,<- ih,e];rfl
theorem AFd{h:Heap}{k k':List Int}{a:Addr}(x:IK prog w h k a)(y:IK prog w h k' a):k=k':=by
 o⟨o,items,n,ho,_,hd,hi⟩:=x;o⟨o',items',n',ho',_,hd',hi'⟩:=y;rw[ho] at ho';cases ho';rw[hd] at hd';cases hd';rw[PB hi,PB hi']
theorem Jb{α:Type}{p q:α->Bool}:∀{l:List α}{x:α},(∀ y∈l,p y=true->q y=true)->x∈l->p x=false->q x=true->(l.filter p).length<(l.filter q).length
 | [],x,_,h,_,_=>by cases h
 | a::l,x,hs,hx,px,qx=>by
  h le:∀{m:List α},(∀ y∈m,p y=true->q y=true)->(m.filter p).length<=(m.filter q).length:=fun {m}=>by
   induction m with
   | nil=>!fun _=>Nat.le_refl _
   | cons b m ih =>
    intro hm;have:=ih fun y hy=>hm y (¶ _ hy);rw[List.filter_cons,List.filter_cons];h hb:=hm b (´ ..);split
    ·rename_i pb
     rw[if_pos (hb pb)];simp;!this
    ·split
     ·simp;w
     ·!this
  h hl:=le fun y hy=>hs y (¶ _ hy);rw[List.filter_cons,List.filter_cons];rcases ┃ hx with rfl | hx
  ·rw[if_neg (by rw[px];decide),if_pos qx]
   simp;w
  ·h ih:=Jb (fun y hy=>hs y (¶ _ hy)) hx px qx
   h ha:=hs a (´ ..);split
   ·rename_i pa
    rw[if_pos (ha pa)];simp;!ih
   ·split
    ·simp;w
    ·!ih
def cntK(ks:List ⑫)(k:List Int):Int:=((ks.filter fun y=>HT.lexLt y.1 k).length:Int)
open Classical in
noncomputable def rkK(ks:List ⑫)(x:Keyed):Int:=if h:∃ i,i<ks.length/\x.1=Value.ref (ks.getD i ([],0)).2 then cntK ks (ks.getD (Classical.choose h) ([],0)).1 else 0
def itK(ks:List ⑫)(i:Nat):Keyed:=(Value.ref (ks.getD i ([],0)).2,Value.ref (ks.getD i ([],0)).2)
theorem Sw{a b:List Int}(ha:a∈ks.map (·.1))(h:HT.lexLt a b=true):cntK ks a<cntK ks b:=by
 o⟨x,hx,rfl⟩:=List.mem_map.mp ha;unfold cntK;have:=Jb (p:=fun y:List Int×Addr=>HT.lexLt y.1 x.1) (q:=fun y=>HT.lexLt y.1 b) (l:=ks) (x:=x) (fun y _ e=>Vy e h) hx (by
  cases c:HT.lexLt x.1 x.1 with
  | false=>rfl
  | true=>have:=Vi c;rw[c] at this;cases this) h
 w
end
theorem QW{n:Nat}{p:Array Nat}(P:PP n p):p.toList.Perm (List.range n):=by
 r SB.Ga ?_ (fun x hx=>?_) (by rw[List.length_range,┄,P.size];!Nat.le_refl _)
 ·r List.pairwise_iff_getElem.mpr fun i j hi hj hij e=>?_
  h hi':i<n:=by rw[<- P.size];u hi
  h hj':j<n:=by rw[<- P.size];u hj
  h hi2:i<p.size:=by u hi
  h hj2:j<p.size:=by u hj
  have:=P.inj i j hi' hj' (by simpa [g,Array.getD,hi2,hj2] using e);w
 ·o⟨i,hi,rfl⟩:=List.mem_iff_getElem.mp hx
  h hi2:i<p.size:=by u hi
  have:=P.lt i (by rw[<- P.size];!hi2);r List.mem_range.mpr ?_;simpa [g,Array.getD,hi2] using this
section
variable{prog:Program}{w:World}{A:Around}{E:Value->Shared->Prop}{s:Shared}{S:Addr}{es:Array (Int×Value)}{t:SetTable}{ks:List ⑫}
theorem RG{Q:List Value->Shared->Prop}{o:Obj}{ep:Nat}(hh:A.handled=none)(ho:s.heap.get? S=some o)(hex:o.ExactSet)(hd:o.data=.set es ep t)(T:Tab t)(hl:es.size=t.place.size)(hp:t.plain=true)(hled:t.led=ledOf w)(h61:es.size<=301)
  (q:∀(h':Heap) (tk:Nat) (acc:Array Value),(∀ b ob,s.heap.get? b=some ob->h'.get? b=some ob)->¸<=h'.objs.size->acc.toList.map (fun v=>v)=(ord w S ep es).toList.map (·.2)->Q acc.toList {s with heap:=h',toks:=tk}) :
  wpAny ① A (collect (.ref S)) Q E s:=by
 unfold collect;b(wpAny_runValue (codeAny_builtin PySem.F.entry_proto_collect ?_));rw[Around.under_plainId PySem.F.plain_proto_collect _];show wpAny _ A.in1 (newList [] >>= fun l=>again (.builtin "list.__iadd__" ⟨[l,.ref S],[]⟩)) _ _ s;b(wpAny_newObj_type ?_);r wpAny_pure ⟨plainId_quiet PySem.F.plain_list_iadd _,codeAny_builtin PySem.F.entry_list_iadd ?_⟩;rw[Around.under_plainId PySem.F.plain_list_iadd _];h gD:(s.heap.push {cls:=.type "list",data:=.seq ([]:List Value).toArray}).get? ¸=some {cls:=.type "list",data:=.seq #[] 0}:=¿ _ rfl;show wpAny _ A.in1 (Builtin.List.listExtendWith (.ref ¸) (.ref S) (.ref ¸)) _ _ _;h fin':∀(h':Heap) (tk:Nat) (acc':Array Value) (c':Nat),(∀ b ob,b≠¸->(s.heap.push {cls:=.type "list",data:=.seq ([]:List Value).toArray}).get? b=some ob->h'.get? b=some ob)->h'.get? ¸=some {cls:=.type "list",dict:=none,data:=.seq acc' c',slots:=#[]} ->
   ItemsOf (fun i v=>∃ e,(ord w S ep es)[i]?=some e/\v=e.2) acc' es.size->wpAny ① A (match Value.ref ¸ with
   | Value.ref a=>do
    match (<- load a).data with
     | Data.seq xs _=>pure xs.toList
     | _=>unsupported "internal:collect"
   | _=>unsupported "internal:collect") Q E {s with heap:=h',toks:=tk}:=fun h' tk acc' c' hk hS' hacc=>by
  show wpAny _ A (load ¸ >>= _) _ _ _;b(wpAny_load hS' ?_);r wpAny_pure ?_;r q h' tk acc' (fun b ob e=>hk b ob (Nat.ne_of_lt (Heap.lt_size e)) (° _ e)) (Nat.le_of_lt (Heap.lt_size hS')) ?_;rw[List.map_id'];apply List.ext_getElem?;intro i;rw[┉,Array.getElem?_toList,Array.getElem?_toList];by_cases c:i<es.size
  ·h c1:i<acc'.size:=by rw[hacc.1];!c
   o⟨e,ge,ev⟩:=hacc.2 i _ (┋ c1);rw[┋ c1,ge,ev];rfl
  ·rw[Array.getElem?_eq_none (by rw[hacc.1];w),Array.getElem?_eq_none (by rw[Km];w)]
   rfl
 r wpAny_mono (Vv (A:=A) (R:=fun r s'=>∃ h' tk acc' c',r=.ok (.ret (.ref ¸))/\s'={s with heap:=h',toks:=tk}/\(∀ b ob,b≠¸->(s.heap.push {cls:=.type "list",data:=.seq ([]:List Value).toArray}).get? b=some ob->h'.get? b=some ob)/\h'.get? ¸=some {cls:=.type "list",dict:=none,data:=.seq acc' c',slots:=#[]}/\ItemsOf (fun i v=>∃ e,(ord w S ep es)[i]?=some e/\v=e.2) acc' es.size)
  (s:={s with heap:=s.heap.push {cls:=.type "list",data:=.seq ([]:List Value).toArray}}) hh (° _ ho) hex hd T hl hp hled h61 ¸ (.ref ¸) 0 gD fun h' tk acc' c' hk hS' hacc=>⟨h',tk,acc',c',rfl,rfl,hk,hS',hacc⟩) (fun fin s' h=>?_) (fun e s' h=>?_)
 ·cases fin with
  | done f =>
   o⟨h',tk,acc',c',e,rfl,hk,hS',hacc⟩:=h;cases e;!fin' h' tk acc' c' hk hS' hacc
  | again c'=>!⟨h.1,codeAny_mono h.2 fun r s'' hr=>by o⟨h',tk,acc',c',rfl,rfl,hk,hS',hacc⟩:=hr;!fin' h' tk acc' c' hk hS' hacc⟩
 ·o⟨_,_,_,_,e,_⟩:=h
  cases e
end
end SB
end
section
namespace SB
open PySem PySem.SetTable
section
variable{prog:Program}{w:World}{A:Around}{s:Shared}
theorem YL{R:Result->Shared->Prop}{I:Addr}{fp wr:List Addr}{G:Array GenState->Array GenState->Prop}{n:Nat}{P:Nat->Value->Prop}{St:Nat->Shared->Prop}
  (W:WalksS prog w A.in1 I fp wr G n P St) (S:Addr) (hSf:S∉fp) (vals:Nat->List Int×Addr) (hP:∀ i v,P i v->v=.ref (vals i).2) (hn:∀ ks:List ⑫,(∀ x∈ks,∃ j,j<n/\x=vals j)->(ks.map (·.1)).Nodup->ks.length<=300) (hoff:∀ i,i<n->(vals i).2∉S::wr) (hu:A.in1.units<cLine)
  (hR:∀ s' es' t' ks',TS prog w s'.heap S es' t' ks'->Of vals n ks'->Moved (S::wr) G s s'->R (.ok (.ret .none)) s') :
  ∀(k i:Nat) (s₁:Shared) (es:Array (Int×Value)) (t:SetTable) (ks:List ⑫),n-i=k->i<=n->St i s₁->TS prog w s₁.heap S es t ks->(∀ j,j<n->IK prog w s₁.heap (vals j).1 (vals j).2)->Of vals i ks->Moved (S::wr) G s s₁ ->
   codeAny ① A (.builtin "set.update.loop" ⟨[.ref S,.ref I],[]⟩) R s₁:=by
 h nSw:S∉wr:=fun h=>hSf (W.sub _ h);h inS:∀ b∈wr,b∈S::wr:=fun b hb=>¶ _ hb;intro k
 induction k with
 | zero =>
  intro i s₁ es t ks hk hi hst X hK O mv;obtain rfl:i=n:=by w
  r codeAny_builtin PyProof.Rows.F.entry_set_update_loop ?_;rw[Around.under_plainId PyProof.Rows.F.plain_set_update_loop _];show wpAny _ A.in1 (pyNext (.ref I) >>= _) _ _ s₁;b(W.done s₁ _ _ hst fun s₂ m2=>?_);show wpAny _ A.in1 (ret Value.none) _ _ s₂;!wpAny_pure (hR s₂ es t ks (WL X fun o e=>m2.heap S o nSw e) O (Moved.trans W.gtrans mv (m2.mono inS)))
 | succ k ih =>
  intro i s₁ es t ks hk hi hst X hK O mv;h lt:i<n:=by w
  r codeAny_builtin PyProof.Rows.F.entry_set_update_loop ?_;rw[Around.under_plainId PyProof.Rows.F.plain_set_update_loop _];show wpAny _ A.in1 (pyNext (.ref I) >>= _) _ _ s₁;b(W.item i s₁ _ _ lt hst fun v s₂ pv st2 m2=>?_);obtain rfl:=hP i v pv;h X2:TS prog w s₂.heap S es t ks:=WL X fun o e=>m2.heap S o nSw e;h hK2:∀ j,j<n->IK prog w s₂.heap (vals j).1 (vals j).2:=fun j hj=>Gu (hK j hj) fun o e=>m2.heap _ o (fun z=>hoff j hj (inS _ z)) e;show wpAny _ A.in1 (holding [Value.ref (vals i).2] (setAdd S (.ref (vals i).2)) >>= _) _ _ s₂;b(wpAny_holding (AEV X2 (fun x hx=>?_) (hK2 i lt) hu (hn ks (fun x hx=>let ⟨j,hj,e⟩:=O.sub x hx;⟨j,by w,e⟩) X2.nd) fun b h' es' t' ks' sb X' ad=>?_))
  ·o⟨j,hj,rfl⟩:=O.sub x hx
   !hK2 j ¢
  ·r wpAny_pure ⟨plainId_quiet PyProof.Rows.F.plain_set_update_loop _,ih (i+1) _ es' t' ks' ¢ lt (W.frame _ s₂ _ _ st2 (Nat.le_add_right _ _) fun b hb o e=>?_) X' (fun j hj=>Gu (hK2 j hj) fun o e=>?_) (O.next ad) ?_⟩
   ·rw[sb.2 b (fun(z:b=S)=>hSf (by rw[<- z];!hb))]
    !e
   ·rw[sb.2 _ (fun(z:(vals j).2=S)=>hoff j hj (by rw[z];!´))]
    !e
   ·r Moved.trans W.gtrans mv ((m2.mono inS).then_heap (Nat.le_add_right _ _) fun b o hb e=>?_)
    rw[sb.2 b (fun(z:b=S)=>hb (by rw[z];!´))];!e
end
section
variable{prog:Program}{w:World}{A:Around}{E:Value->Shared->Prop}{s:Shared}
theorem ACe{l:Addr}{items:Array Value}{vals:Nat->List Int×Addr}{Q:Value->Shared->Prop}(hh:A.handled=none)(hu:A.units+6<cLine)(hl:s.heap.IsList l items)(hv:∀(i:Nat) (v:Value),items[i]?=some v->v=Value.ref (vals i).2)
  (hK:∀ j,j<items.size->IK prog w s.heap (vals j).1 (vals j).2) (h61:∀ ks:List ⑫,(∀ x∈ks,∃ j,j<items.size/\x=vals j)->(ks.map (·.1)).Nodup->ks.length<=300)
  (q:∀ h' tk es t ks,TS prog w h' ¸ es t ks->Of vals items.size ks->(∀ b o,s.heap.get? b=some o->h'.get? b=some o)->Q (.ref ¸) {s with heap:=h',toks:=tk}) :
  wpAny ① A (call (.type "set") [.ref l]) Q E s:=by
 o⟨c,tl,hmro⟩:=F.called_set.mro;h made:=F.called_set.made;h ssub:=F.called_set.sub;h nt:=F.called_set.notType;h cc:=F.called_set.canCreate;h tc:=F.typeCall_set_1 (.ref l);r wpAny_call (codeAny_of_tree ?_);show wpAny _ _ (callAny (.type "set") _) _ _ _;r wpAny_pure ⟨Code.quiet_builtin _ £,codeAny_builtin F.entry_type_call ?_⟩;rw[Around.under_plain (weight_type_call_type "set" [.ref l] []) rfl]
 repeat (any_goals (first | assumption | wp_step))
 r codeAny_mono (ABP (.ref l) (E:=E) (Q₁:=fun obj s₁=>∃ led:Bool,led=ledOf w/\obj=.ref ¸/\s₁={s with heap:=s.heap.push {cls:=.type "set",dict:=none,data:=.set #[] 0 (.fresh 0 0 led)}}) ⟨_,rfl,rfl,rfl⟩) fun r s₁ hr=>?_;cases r with
 | error e=>!hr
 | ok fl =>
  cases fl with
  | ret obj =>
   o⟨led,hled,rfl,rfl⟩:=hr;h gS:(s.heap.push {cls:=.type "set",dict:=none,data:=.set #[] 0 (.fresh 0 0 led)}).get? ¸=some {cls:=.type "set",dict:=none,data:=.set #[] 0 (.fresh 0 0 led)}:=¿ _ rfl;h tS:Shared.TypeIs {s with heap:=s.heap.push {cls:=.type "set",dict:=none,data:=.set #[] 0 (.fresh 0 0 led)}} (.ref ¸) "set":=⟨_,gS,rfl⟩;h il:=F.called_set.init.lookup;h ib:=F.called_set.init.bind (.ref ¸)
   repeat (any_goals (first | assumption | wp_step))
   r codeAny_mono (codeAny_call_builtin (R:=wants (fun r s₂=>r=.none/\∃ h' tk es t ks,s₂={s with heap:=h',toks:=tk}/\TS prog w h' ¸ es t ks/\Of vals items.size ks/\(∀ b o,s.heap.get? b=some o->h'.get? b=some o)) E) F.called_set.init.plain F.entry_set_init (check_set_init_1 tS ?_)) fun r₂ s₂ hr₂=>?_
   ·o⟨⟨ocls,odict,odata,oslots⟩,hol,hcl,nl,hdl⟩:=id hl
    simp only at hcl hdl;subst hcl hdl;h hol2:(s.heap.push {cls:=.type "set",dict:=none,data:=.set #[] 0 (.fresh 0 0 led)}).get? l=some {cls:=.type "list",dict:=odict,data:=.seq items nl,slots:=oslots}:=° _ hol;h s1:=F.sub_list_set;h s2:=F.sub_list_frozenset;h s3:(Value.type "list" == Value.type "dict")=false:=by decide
    h hl1:(s.heap.push {cls:=.type "set",dict:=none,data:=.set #[] 0 (.fresh 0 0 led)}).IsList l items:=⟨_,hol2,rfl,nl,rfl⟩;unfold Builtin.«set.__init__» noKeywords Builtin.Frozenset.updateFrom;generalize hPI:pyIter=PI
    wp_walk
    subst hPI;r wpAny_pyIter_list hl1 ?_;b(wpAny_runValue ?_);h ll:l<¸:=Heap.lt_size hol;h h3:A.in1.in1.in1.handled=none:=by simp[hh]
    h nI:l≠(s.heap.push {cls:=.type "set",dict:=none,data:=.set #[] 0 (.fresh 0 0 led)}).objs.size:=by
     rw[Heap.size_push];!Nat.ne_of_lt (Nat.lt_succ_of_lt ll)
    h nS:¸∉[(s.heap.push {cls:=.type "set",dict:=none,data:=.set #[] 0 (.fresh 0 0 led)}).objs.size,l]:=by
     rw[Heap.size_push];simp only[List.mem_cons,List.mem_singleton,List.not_mem_nil,or_false,not_or];!⟨Nat.ne_of_lt (Nat.lt_succ_self _),Nat.ne_of_gt ll⟩
    h lows:∀ j,j<items.size->(vals j).2<¸:=fun j hj=>by
     o⟨o,_,_,ho,_⟩:=hK j hj;!Heap.lt_size ho
    h old2:∀(x:Obj) b o,s.heap.get? b=some o->((s.heap.push {cls:=.type "set",dict:=none,data:=.set #[] 0 (.fresh 0 0 led)}).push x).get? b=some o:=fun x b o e=>° _ (° _ e);r YL (s:=_) ((Walks.list h3 _ l nI items).toS) ¸ nS vals hv h61 (fun j hj z=>?_) ?_ (fun s' es' t' ks' X' O' mv=>?_) (items.size-0) 0 _ #[] (.fresh 0 0 led) [] ¢ (Nat.zero_le _)
     ⟨⟨_,¿ _ rfl,rfl,rfl⟩,(hl1.push _)⟩ (AAV hled (° _ gS)) (fun j hj=>Gu (hK j hj) fun o e=>old2 _ _ _ e) ⟨fun x hx=>(by cases hx),fun j hj=>absurd hj ¢,Nat.le_refl _⟩ (Moved.refl fun _=>rfl)
    ·have:=lows j hj
     rw[Heap.size_push] at z;simp only[List.mem_cons,List.mem_singleton,List.not_mem_nil,or_false] at z;rcases z with z | z
     ·!absurd z (Nat.ne_of_lt this)
     ·!absurd z (Nat.ne_of_lt (Nat.lt_succ_of_lt this))
    ·show A.units+1+1+1<cLine
     w
    ·o⟨h',g',d',tk',os'⟩:=s'
     h eg:g'=s.gens:=mv.gens;h ed:d'=s.drawn:=mv.drawn;h eo:os'=s.os:=mv.os;subst eg ed eo;show wpAny _ _ _ _ _ _;r wpAny_pure ?_;show wpAny _ _ (ret Value.none) _ _ _;r wpAny_pure ⟨rfl,h',tk',es',t',ks',rfl,X',O',fun b o e=>?_⟩;h hb:=Heap.lt_size e;r mv.heap b o ?_ (old2 _ b o e);rw[Heap.size_push];simp only[List.mem_cons,List.mem_singleton,List.not_mem_nil,or_false,not_or];!⟨Nat.ne_of_lt hb,Nat.ne_of_lt (Nat.lt_succ_of_lt hb)⟩
   ·cases r₂ with
    | error e=>!hr₂
    | ok fl₂ =>
     cases fl₂ with
     | ret r =>
      o⟨rfl,h',tk,es,t,ks,rfl,X',O',kp⟩:=hr₂
      repeat (any_goals (first | assumption | wp_step))
      !q _ _ _ _ _ X' O' kp
     | _=>!hr₂.elim
  | _=>!hr.elim
end
end SB
namespace L2
open PySem PySem.Spec PyProof.Rows
section
variable{X:Cx}{e:Expr}{te:TE}{p1 p2 pos pos2:Pos}
theorem ik_ofB{pins:List ⑥}{σ:St}{H:Hp}{s:Shared}(I:Inv X pins σ H s){b:Addr}{ns:List Int}(h:SqT X.K H b ⑬):SB.IK X.prog X.w s.heap ns b:=by
 o⟨its,r,⟨o,ho,hc,n,hd⟩,_⟩:=I.tuple h;!⟨o,its.toArray,n,ho,hc,hd,by u Tc r⟩
end
end L2
end
section
namespace SB
open PySem PySem.W PyProof.Rows
structure RowE(prog:Program)(w:World)(h:Heap)(vs:List Value)(ks:List ⑫):Prop where
 vals:vs=ks.map fun x=>Value.ref x.2
 keys:∀ x∈ks,IK prog w h x.1 x.2
 nd:(ks.map (·.1)).Nodup
theorem RowE.tot{prog:Program}{w:World}{h:Heap}{vs:List Value}{ks:List ⑫}(R:RowE prog w h vs ks):Tot ks.length (ltK ks):=by
 h ne:∀ i j,i<ks.length->j<ks.length->i≠j->(ks.getD i ([],0)).1≠(ks.getD j ([],0)).1:=fun i j hi hj hij e=>by
  h r:=List.pairwise_iff_getElem.mp R.nd;h g1:(ks.getD i ([],0)).1=(ks.map (·.1))[i]'(by u hi):=by simp[¯,hi]
  h g2:(ks.getD j ([],0)).1=(ks.map (·.1))[j]'(by u hj):=by simp[¯,hj]
  rw[g1,g2] at e;rcases Nat.lt_or_gt_of_ne hij with c | c
  ·!r i j _ _ c e
  ·!r j i _ _ c e.symm
 !⟨fun i j hi hj hij e=>VB (ne i j hi hj hij) e,fun i j _ _ e=>Vi e,fun i j k _ _ _ e1 e2=>Vy e1 e2⟩
theorem Zn{prog:Program}{w:World}{ns:List Int}{vs:List Value}(h:ItemsAre (intKind prog w) ns vs):IntsAre vs ns:=by
 induction h with
 | nil=>!.nil
 | cons h1 _ ih =>
  o⟨t,rfl⟩:=Value.isInt_shape h1;!.cons _ t ih
section
variable{prog:Program}{w:World}{A:Around}{E:Value->Shared->Prop}{s:Shared}{vs:List Value}{ks:List ⑫}
theorem QB{x:List Int}{a:Addr}(hx:IK prog w s.heap x a):∃ items:Array Value,IsTup s.heap a items/\IntsAre items.toList x:=by
 o⟨o,xs,n,g,c,d,i⟩:=hx;!⟨xs,⟨o,g,c,n,d⟩,Zn i⟩
theorem LK(x y:Value):keyLt' general' x y=oneLt' false x y:=rfl
theorem AEb{x y:List Int}{a c:Addr}{Q:Bool->Shared->Prop}(hu:A.units<cLine)(hx:IK prog w s.heap x a)(hy:IK prog w s.heap y c)(q:Q (HT.lexLt x y) s):wpAny ① A (keyLt' general' (.ref a) (.ref c)) Q E s:=by
 o⟨i1,t1,j1⟩:=QB hx;o⟨i2,t2,j2⟩:=QB hy;rw[LK];!kat_one _ _ (HT.Tw t1 t2 j1 j2 hu q)
theorem AEw{x y:List Int}{a c:Addr}{Q:Bool->Shared->Prop}(hu:A.units<cLine)(hx:IK prog w s.heap x a)(hy:IK prog w s.heap y c)(q:Q (HT.lexLt x y) s):wpAny ① A (keyLt' oneType' (.ref a) (.ref c)) Q E s:=by
 o⟨i1,t1,j1⟩:=QB hx;o⟨i2,t2,j2⟩:=QB hy;o⟨⟨cls,dd,data,sl⟩,ho,hc,n,hd⟩:=id t1;o⟨⟨cls2,dd2,data2,sl2⟩,ho2,hc2,n2,hd2⟩:=id t2;simp only at hc hd hc2 hd2;subst hc hd hc2 hd2;rw[keyLt'_oneType,oneLt'_eq];simp only[if_true];b(wpAny_cRoomFor hu ?_);b(wpAny_callSpecialIfBound?_slot (T:="tuple") ⟨_,ho,rfl⟩ PySem.F.slot_tuple_lt ?_);!call_meets PySem.F.slot_tuple_lt ⟨_,ho,rfl⟩ PySem.F.entry_tuple_lt (PySem.F.args_tuple_lt_2 _ _) (HT.Gy a c i1 i2 n n2 dd dd2 sl sl2 x y j1 j2) ⟨ho,ho2,wpAny_truthy_bool q⟩
theorem Mz:∀(ks:List ⑫) {Q:List ⑨->Shared->Prop},(∀ x∈ks,IK prog w s.heap x.1 x.2)->(∀ fs:List ⑨,fs.map (·.isSome)=ks.map (fun x=>!x.1.isEmpty)->Q fs s)->wpAny ① A ((ks.map fun x=>Value.ref x.2).mapM firstOfTuple') Q E s
 | [],_,_,h=>by rw[List.map_nil,List.mapM_nil];!wpAny_pure (h [] rfl)
 | x::ks,Q,hk,h=>by
  o⟨o,xs,n,ho,hc,hd,hi⟩:=hk x ´;rw[List.map_cons,List.mapM_cons];r wpAny_bind ?_;rw[kas_first_eq];b(Looks.here (show Looks ① s.heap (typeOf (.ref x.2)) o.cls from (Looks.ld ho).andThen .now) ?_);rw[hc,if_neg (by first | decide | simp)];b(listItems_at ho hd (wpAny_pure ?_));b(Mz ks (Q:=fun bs s'=>wpAny ① A (pure (xs[0]?::bs)) Q E s') (fun y hy=>hk y (¶ _ hy)) fun fs hfs=>wpAny_pure (h _ ?_));rw[List.map_cons,List.map_cons,hfs]
  congr 1
  h l:=hi.length;rw[┄] at l;by_cases e:x.1=[]
  ·rw[e] at l ⊢
   rw[Array.getElem?_eq_none (by simp at l;w)];rfl
  ·have:0<xs.size:=by
    have:=List.length_pos_iff.mpr e;w
   rw[┋ this];cases hx:x.1 with
   | nil=>!absurd hx e
   | cons a b=>rfl
theorem ADj{Q:SortKind->Shared->Prop}(hk:∀ x∈ks,IK prog w s.heap x.1 x.2)(he:∃ x∈ks,x.1=[])(q1:Q general' s)(q2:Q oneType' s):wpAny ① A (keyKind' (ks.map fun x=>Value.ref x.2).toArray) Q E s:=by
 rw[kat_kind_eq,List.mapM_toArray,map_eq_pure_bind];b(wpAny_bind (Mz ks hk fun fs hfs=>wpAny_pure ?_));h hall:¬ ((fs.toArray.all fun x=>x.isSome)=true):=fun h=>by
  o⟨x,hx,ex⟩:=he;o⟨i,hi,gx⟩:=List.getElem_of_mem hx;h l:fs.length=ks.length:=by u congrArg List.length hfs
  h z:(fs.map (·.isSome))[i]?=(ks.map (fun x=>!x.1.isEmpty))[i]?:=by rw[hfs]
  h hi2:i<fs.length:=by w
  rw[┉,┉,± hi,± hi2,gx] at z;h z':fs[i].isSome=false:=by simpa [ex] using z
  have:=List.all_eq_true.mp (by u h) fs[i] (List.getElem_mem hi2);rw[z'] at this;!absurd this ¤
 rw[if_neg hall];r wpAny_ite ?_;split
 ·!wpAny_pure q1
 ·rw[oneTypeOnly'_eq,List.mapM_toArray,map_eq_pure_bind]
  b(wpAny_bind (wpAny_bind (kas_mapM (r:=Value.type "tuple") _ (fun v hv Q' hq=>?_) (wpAny_pure ?_))))
  ·o⟨x,hx,rfl⟩:=List.mem_map.mp hv
   o⟨o,xs,n,ho,hc,hd,hi⟩:=hk x hx;r Looks.here (show Looks ① s.heap (typeOf (.ref x.2)) o.cls from (Looks.ld ho).andThen .now) ?_;rw[hc];!hq
  ·h hall2:∀ T:Value,(T==T)=true->((List.map (fun _=>T) (ks.map fun x=>Value.ref x.2)).toArray.all fun x=>x==T)=true:=fun T hT=>by
    simp only[List.all_toArray,List.all_map,List.all_eq_true];intro _ _;!hT
   h h0:(List.map (fun _=>Value.type "tuple") (ks.map fun x=>Value.ref x.2)).toArray[0]?=some (Value.type "tuple"):=by
    o⟨x,hx,_⟩:=he;cases ks with
    | nil=>cases hx
    | cons a b=>simp
   rw[h0];simp only[hall2 (Value.type "tuple") ¤,if_true];!wpAny_pure (wpAny_pure q2)
def KOk(prog:Program)(w:World)(κ:SortKind):Prop:=∀(A:Around) (E:Value->Shared->Prop) (s:Shared) (x y:List Int) (a c:Addr) (Q:Bool->Shared->Prop),A.units<cLine->IK prog w s.heap x a->IK prog w s.heap y c->Q (HT.lexLt x y) s ->
 wpAny ① A (keyLt' κ (.ref a) (.ref c)) Q E s
theorem kind_any{Q:SortKind->Shared->Prop}(R:RowE prog w s.heap vs ks)(h2:2<=ks.length)(q:∀ κ,KOk prog w κ->Q κ s):wpAny ① A (keyKind' vs.toArray) Q E s:=by
 by_cases c:∃ x∈ks,x.1=[]
 ·rw[R.vals]
  !ADj R.keys c (q _ fun A E s x y a c Q hu hx hy h=>AEb hu hx hy h) (q _ fun A E s x y a c Q hu hx hy h=>AEw hu hx hy h)
 ·h R':Row prog w s.heap vs ks:=⟨R.vals,R.keys,fun x hx e=>c ⟨x,hx,e⟩,R.nd⟩
  o⟨fs,kt,lf,hfs⟩:=R'.tups;h lk:ks.length=vs.length:=by rw[R.vals,─]
  !kat_kind (T:=.type "int") kt ¢ (fun v hv=>by o⟨n,t,rfl⟩:=hfs v hv;!Looks.of_pure rfl) ¤ (q _ fun A E s x y a c Q hu hx hy h=>AFY hx hy h)
theorem Zd{h h':Heap}(R:RowE prog w h vs ks)(e:∀ x∈ks,∀ o,h.get? x.2=some o->h'.get? x.2=some o):RowE prog w h' vs ks:=⟨R.vals,fun x hx=>Gu (R.keys x hx) fun o=>e x hx o,R.nd⟩
theorem RowE.key{h:Heap}(R:RowE prog w h vs ks){i:Nat}(hi:i<ks.length):IK prog w h (ks.getD i ([],0)).1 (ks.getD i ([],0)).2:=by
 h e:ks.getD i ([],0)=ks[i]:=by simp[¯,hi]
 rw[e];!R.keys _ (List.getElem_mem hi)
theorem RowE.rk{h:Heap}(R:RowE prog w h vs ks){i:Nat}(hi:i<ks.length):rkK ks (itK ks i)=cntK ks (ks.getD i ([],0)).1:=by
 h ex:∃ j,j<ks.length/\(itK ks i).1=Value.ref (ks.getD j ([],0)).2:=⟨i,hi,rfl⟩;unfold rkK;rw[dif_pos ex];o⟨hj,ej⟩:=Classical.choose_spec ex;h ea:(ks.getD i ([],0)).2=(ks.getD (Classical.choose ex) ([],0)).2:=by
  have:Value.ref (ks.getD i ([],0)).2=Value.ref (ks.getD (Classical.choose ex) ([],0)).2:=ej;injection this
 h k1:=R.key hi;h k2:=R.key hj;rw[<- ea] at k2;rw[AFd k1 k2]
theorem RowE.rk_lt{h:Heap}(R:RowE prog w h vs ks){i j:Nat}(hi:i<ks.length)(hj:j<ks.length):decide (rkK ks (itK ks i)<rkK ks (itK ks j))=ltK ks i j:=by
 rw[R.rk hi,R.rk hj];h mk:∀{i:Nat},i<ks.length->(ks.getD i ([],0)).1∈ks.map (·.1):=fun {i} hi=>List.mem_map_of_mem (by
  h e:ks.getD i ([],0)=ks[i]:=by simp[¯,hi]
  rw[e];!List.getElem_mem hi)
 unfold ltK;cases c:HT.lexLt (ks.getD i ([],0)).1 (ks.getD j ([],0)).1 with
 | true=>!decide_eq_true (Sw (mk hi) c)
 | false =>
  r decide_eq_false ?_;by_cases e:(ks.getD i ([],0)).1=(ks.getD j ([],0)).1
  ·rw[e];!Int.lt_irrefl _
  ·have:=Sw (ks:=ks) (mk hj) (VB e c)
   w
theorem YG{κ:SortKind}(hκ:KOk prog w κ)(hu:A.units<cLine)(R:RowE prog w s.heap vs ks) :
  wpAny ① A (sortRuns'.run (SortSt.mk' κ ⑰ #[] 7 none)) (fun r s'=>s'=s/\∃ p:Array Nat,PP ks.length p/\Up (ltK ks) p ks.length/\arrOf r.2=p.map (kas_item ⑰)/\failedOf r.2=none) E s:=by
 h lk:ks.length=vs.length:=by rw[R.vals,─]
 h T:=R.tot;h gi:∀ i,i<ks.length->kas_item ⑰ i=itK ks i:=fun i hi=>by
  rw[kat_item rfl];unfold itK;rw[R.vals];simp[¯,hi]
 h e0:⑰.toList=(List.range ks.length).map (itK ks):=by
  have:=congrArg Array.toList (kas_range ⑰);rw[<- this,Array.toList_map,show ⑰.size=ks.length by rw[lk];simp];!List.map_congr_left fun i hi=>gi i (List.mem_range.mp hi)
 h C:TM.Cmp prog w A E s κ (fun x=>∃ i,i<ks.length/\x=itK ks i) (rkK ks):=fun x y ⟨i,hi,ex⟩ ⟨j,hj,ey⟩ st Q kd q=>by
  subst ex ey;rw[lt'_eq];r wpS_bind (wpS_get ?_);rw[kd];r wpS_bind (wpS_lift (wpAny_attempt (hκ _ _ _ _ _ _ _ _ hu (R.key hi) (R.key hj) ⟨rfl,?_⟩)));rw[R.rk_lt hi hj] at q;!wpS_pure q
 h al:TM.Al (fun x=>∃ i,i<ks.length/\x=itK ks i) ⑰:=fun i x e=>by
  rw[<- Array.getElem?_toList,e0,┉] at e;cases g:(List.range ks.length)[i]? with
  | none=>rw[g] at e;cases e
  | some k =>
   rw[g] at e;h hk:=List.mem_range.mp (┈ g);!⟨k,hk,(Option.some.inj e).symm⟩
 h di:TM.Di (rkK ks) ⑰:=by
  unfold TM.Di;rw[e0,List.map_map];unfold List.Nodup;rw[List.pairwise_map];r List.Pairwise.imp_of_mem (fun {i j} hi hj ij e=>?_) List.nodup_range;h hi':=List.mem_range.mp hi;h hj':=List.mem_range.mp hj;h e':rkK ks (itK ks i)=rkK ks (itK ks j):=e;h z1:=R.rk_lt hi' hj';h z2:=R.rk_lt hj' hi';rw[e',decide_eq_false (Int.lt_irrefl _)] at z1;rw[e',decide_eq_false (Int.lt_irrefl _)] at z2;have:=T.or i j hi' hj' ij z1.symm;rw[<- z2] at this;cases this
 h W:=TM.MK C (st:=SortSt.mk' κ ⑰ #[] 7 none) (a₀:=vs.toArray.zip vs.toArray) ⟨Array.Perm.refl _,rfl,rfl,al,di⟩ rfl
  (Q:=fun _ st'=>∃ p:Array Nat,PP ks.length p/\Up (ltK ks) p ks.length/\arrOf st'=p.map (kas_item ⑰)/\failedOf st'=none) fun st' B up=>by
  h pm:=Array.perm_iff_toList_perm.mp B.perm;rw[e0] at pm;o⟨l,pl,el⟩:=perm_back pm (List.range ks.length) rfl;h ll:l.length=ks.length:=by rw[pl.length_eq,List.length_range]
  h lt:∀{k:Nat},k<ks.length->g l.toArray k<ks.length/\l[k]?=some (g l.toArray k):=fun {k} hk=>by
   h hk':k<l.length:=by w
   h e:g l.toArray k=l[k]:=by unfold g;simp[Array.getD,hk']
   rw[e];!⟨List.mem_range.mp (pl.mem_iff.mp (List.getElem_mem hk')),± hk'⟩
  h nd:l.Nodup:=pl.nodup_iff.mpr List.nodup_range;h at_:∀{k:Nat},k<ks.length->TM.N (rkK ks) (arrOf st') k=rkK ks (itK ks (g l.toArray k)):=fun {k} hk=>by
   unfold TM.N;rw[<- Array.getElem?_toList,el,┉,(lt hk).2];rfl
  h sz:⑰.size=ks.length:=by rw[lk];simp
  r⟨l.toArray,⟨by u ll,fun k hk=>(lt hk).1,fun k k' hk hk' e=>?_⟩,fun x y xy hy=>?_,?_,B.failed⟩
  ·h a1:=(lt hk).2
   h a2:=(lt hk').2;rw[<- e] at a2;!(List.getElem?_inj ¢ nd).mp (a1.trans a2.symm)
  ·h hx:x<ks.length:=by w
   h u:=up x y (Nat.zero_le _) ¢ (by rw[sz];!hy);rw[at_ hx,at_ hy] at u;cases c:ltK ks (g l.toArray x) (g l.toArray y) with
   | true=>rfl
   | false =>
    have ne:g l.toArray x≠g l.toArray y:=fun e=>by
     have a1:=(lt hx).2;have a2:=(lt hy).2;rw[<- e] at a2;have:=(List.getElem?_inj ¢ nd).mp (a1.trans a2.symm);w
    have z:=T.or _ _ (lt hx).1 (lt hy).1 ne c;rw[<- R.rk_lt (lt hy).1 (lt hx).1] at z;have:=of_decide_eq_true z;w
  ·apply Array.toList_inj.mp
   rw[el,Array.toList_map];r List.map_congr_left fun i hi=>(gi i ?_).symm;!List.mem_range.mp (pl.mem_iff.mp (by u hi))
 !wpAny_mono W (fun r s' h=>h) fun _ _ e=>e
theorem Ug{a:Addr}{n:Nat}{P:PySem.Fin->Shared->Prop}(ho:s.heap.get? a=some (seqObj "list" vs.toArray n))(R:RowE prog w s.heap vs ks)(hz:vs.length<=1000)(hu:A.units<cLine)
  (h:∀ p:Array Nat,PP ks.length p->Up (ltK ks) p ks.length->P (.done (.ret .none)) {s with heap:=sortedHeap s.heap a vs (List.toArray (p.toList.map fun i=>vs.getD i Value.none))}) :
  wpAny ① A (Builtin.«list.sort» ⟨[.ref a],[]⟩) P E s:=by
 h la:a<¸:=Heap.lt_size ho;h lk:ks.length=vs.length:=by rw[R.vals,─]
 rw[list_sort_plain];b(listItems_at ho rfl ?_);b(listUpdate_at ho rfl ?_);obtain ⟨e1,ho1⟩:∃ e1,(s.heap.update a (Obj.mapSeq fun _=>#[])).get? a=some (seqObj "list" #[] e1):=⟨_,get?_update_seq ho (fun _=>#[])⟩;b(seqEpoch_at ho1 rfl ?_);b(wpAny_newTuple ?_);b(wpAny_newList ?_);r wpAny_holding ?_;h hoa:(((s.heap.update a (Obj.mapSeq fun _=>#[])).push (seqObj "tuple" vs.toArray 0)).push (seqObj "list" #[] 0)).get? a=some (seqObj "list" #[] e1):=° _ (° _ ho1);show wpAny ① A _ P E {s with heap:=((s.heap.update a (Obj.mapSeq fun _=>#[])).push (seqObj "tuple" vs.toArray 0)).push (seqObj "list" #[] 0)};dsimp only;h vz:vs.toArray.size=vs.length:=by simp
 by_cases h2:vs.toArray.size<2
 ·rw[if_pos h2,if_pos h2]
  b(wpAny_pure ?_);rw[StateT.run_pure];b(wpAny_pure ?_);dsimp only;h out:(⑰.map (·.2))=List.toArray ((List.toArray (List.range ks.length)).toList.map fun i=>vs.getD i Value.none):=by
   apply Array.toList_inj.mp;rw[Array.toList_map,Array.toList_zip,List.map_snd_zip ¥,lk];apply List.ext_getElem?;intro i;by_cases c:i<vs.length
   ·simp[c]
   ·simp[c]
  b(seqEpoch_at hoa rfl ?_);b(listUpdate_at hoa rfl ?_ (hsz2:=by rw[Array.size_map,Array.size_zip,vz,sizeLine_eq];w));simp only[bne_self_eq_false,Bool.false_eq_true,if_false];r wpAny_pure ?_;rw[show (arrOf (SortSt.mk' general' ⑰ #[] 7 none)).map (·.2)=_ from out];!h _ (ACG _) fun x y hxy hy=>absurd hxy ¢
 ·rw[if_neg h2,if_neg h2]
  h R1:RowE prog w (((s.heap.update a (Obj.mapSeq fun _=>#[])).push (seqObj "tuple" vs.toArray 0)).push (seqObj "list" #[] 0)) vs ks:=Zd R fun x hx o gx=>by
   h ne:x.2≠a:=fun e=>by
    o⟨o',_,_,go',co',_⟩:=R.keys x hx;rw[e,ho] at go';cases go';h z:Value.type "list" = Value.type "tuple":=co';!absurd z ¤
   !° _ (° _ ((Heap.get?_update_other _ _ (Ne.symm ne)).trans gx))
  b(kind_any (s:={s with heap:=((s.heap.update a (Obj.mapSeq fun _=>#[])).push (seqObj "tuple" vs.toArray 0)).push (seqObj "list" #[] 0)}) R1 ¢ fun κ hκ=>?_);b(wpAny_mono (YG hκ hu (s:={s with heap:=((s.heap.update a (Obj.mapSeq fun _=>#[])).push (seqObj "tuple" vs.toArray 0)).push (seqObj "list" #[] 0)}) R1) ?_ fun _ _ e=>e)
  ·rintro⟨⟨⟩,st'⟩ s' ⟨rfl,p,P1,P2,har,hf⟩
   dsimp only;h hout:=kat_snds (ks:=vs) (vs:=vs) rfl har;rw[hout];b(seqEpoch_at hoa rfl ?_);b(listUpdate_at hoa rfl ?_ (hsz2:=by rw[┌,─,┄,P1.size,sizeLine_eq];w));rw[hf];simp only[bne_self_eq_false,Bool.false_eq_true,if_false];!wpAny_pure (h p P1 P2)
end
section
variable{prog:Program}{w:World}{A:Around}{E:Value->Shared->Prop}{s:Shared}{S:Addr}{es:Array (Int×Value)}{t:SetTable}{ks:List ⑫}
theorem SX(hu:A.units+2<cLine)(hh:A.handled=none)(X:TS prog w s.heap S es t ks)(hK:∀ x∈ks,IK prog w s.heap x.1 x.2)(h61:ks.length<=301){Q:Value->Shared->Prop}
  (q:∀(h':Heap) (tk:Nat) (D:Addr) (ko:List ⑫) (e:Nat),(∀ b ob,s.heap.get? b=some ob->h'.get? b=some ob)->¸<=D->h'.get? D=some (seqObj "list" (ko.map fun x=>Value.ref x.2).toArray e)->ko.Perm ks->(ko.map (·.1)).Pairwise (fun a b=>HT.lexLt a b=true)->Q (.ref D) {s with heap:=h',toks:=tk}) :
  wpAny ① A (call (.builtin "sorted") [.ref S]) Q E s:=by
 o⟨o,ep,ho,hex,hd⟩:=X.obj;h lks:ks.length=es.size:=by
  have:=congrArg List.length X.els;rw[─,┄] at this;!this.symm
 r Calls.call_function_entry kind_sorted plain_sorted entry_sorted (args_sorted1 _) ?_;unfold Builtin.«sorted»;r wpAny_bind (m:=checkCount "sorted" 1 1 _) (wpAny_pure ?_);b(RG (A:=A.in1) (by simp[hh]) ho hex hd X.tab X.len X.pl X.ld ¢ fun h1 tk1 acc kp hsz hacc=>?_);h op:=Tg w S ep es;rw[X.els] at op;o⟨k1,p1,e1⟩:=perm_back op ks rfl;rw[e1,List.map_id',List.map_map] at hacc;h hvs:acc.toList=k1.map fun x=>Value.ref x.2:=hacc;generalize hv:acc.toList=vs at hvs;h lvs:vs.length=ks.length:=by rw[hvs,─,p1.length_eq]
 b(wpAny_newList ?_ (by rw[sizeLine_eq];w));h hoL:(h1.push (seqObj "list" vs.toArray 0)).get? h1.objs.size=some (seqObj "list" vs.toArray 0):=¿ _ rfl;h kp2:∀ b ob,s.heap.get? b=some ob->(h1.push (seqObj "list" vs.toArray 0)).get? b=some ob:=fun b ob e=>° _ (kp b ob e);h R:RowE prog w (h1.push (seqObj "list" vs.toArray 0)) vs k1:=⟨hvs,fun x hx=>Gu (hK x (p1.mem_iff.mp hx)) fun ob e=>kp2 _ ob e,(List.Perm.nodup_iff (p1.map (·.1))).mpr X.nd⟩;b(wpAny_holding (wpAny_call_entry slot_list_sort ⟨_,hoL,rfl⟩ entry_list_sort (Ug (s:={s with heap:=h1.push (seqObj "list" vs.toArray 0),toks:=tk1}) hoL R ¢ (by show A.units+1+1<cLine;w) fun p P1 P2=>⟨_,rfl,?_⟩) (args_list_sort _)));r wpAny_pure ⟨_,rfl,?_⟩;o⟨e,he⟩:=sortedHeap_at (out:=List.toArray (p.toList.map fun i=>vs.getD i Value.none)) hoL;h lk1:k1.length=ks.length:=p1.length_eq;h eo:(p.toList.map fun i=>vs.getD i Value.none)=(p.toList.map fun i=>k1.getD i ([],0)).map fun x=>Value.ref x.2:=by
  rw[List.map_map];r List.map_congr_left fun i hi=>?_;h hi':i<k1.length:=List.mem_range.mp ((QW P1).mem_iff.mp hi);rw[hvs];simp[¯,hi']
 rw[eo] at he ⊢;h pk:(p.toList.map fun i=>k1.getD i ([],0)).Perm k1:=by
  h z:=SB.Iz (l:=k1) (QW P1);rw[SB.Ho ([],0) fun i hi=>List.mem_range.mp ((QW P1).mem_iff.mp hi)] at z;!z
 r q _ tk1 h1.objs.size _ e (fun b ob eb=>?_) hsz he (pk.trans p1) ?_
 ·h hb:=Heap.lt_size (kp b ob eb)
  rw[sortedHeap_old (Nat.ne_of_lt hb) (by rw[Heap.size_push];!Nat.lt_succ_of_lt hb)];!kp2 b ob eb
 ·rw[List.map_map]
  r List.pairwise_iff_getElem.mpr fun i j hi hj hij=>?_;h hi':i<p.size:=by u hi
  h hj':j<p.size:=by u hj
  h z:=P2 i j hij (by rw[<- P1.size];!hj');unfold ltK g at z;simpa [Array.getD,hi',hj'] using z
end
end SB
end
section
namespace L2
open PySem PySem.Spec PyProof.Rows
section
variable{X:Cx}{e:Expr}{te:TE}{p1 p2 pos pos2:Pos}
def YZ(K:¨)(te:TE):TE:=fun σ H Q=>te σ H fun v H1=>∃ a xs rs,v=.ref a/\SqL K H1 a xs/\Paired (rPair K H1) rs xs/\(∀ ms:List ⑤,ms.Nodup->(∀ m∈ms,m∈rs)->ms.length<=300) /\
 ∀ l ys ms,H1 l=none->ms.Pairwise (fun a b=>HT.lexLt a b=true)->(∀ r,r∈ms↔r∈rs)->Paired (rPair K H1) ms ys->Paired (fun m y=>∃ i:Nat,rs[i]?=some m/\xs[i]?=some y) ms ys->Q (.ref l) (upd H1 l (.lst ys))
theorem Jh(hc:X.calm=true)(hu:X.A.units+7<cLine)(hg:Gl X "sorted")(hm:X.mg "sorted" = none)(hg2:Gl X "set")(hm2:X.mg "set" = none)(he:PE X e te)
  (hv:bootBuiltins "sorted" = some (.builtin "sorted"):=by !PyProof.Rows.boot_sorted) (hv2:bootBuiltins "set" = some (.type "set"):=by decide +kernel)
  (s1:starEach [e] X.env=(false,eval e X.env)::starEach [] X.env:=by rfl)
  (s2:starEach [.Call (.Name "set" p2) [e] [] pos2] X.env=(false,eval (.Call (.Name "set" p2) [e] [] pos2) X.env)::starEach [] X.env:=by rfl) :
  PE X (.Call (.Name "sorted" p1) [.Call (.Name "set" p2) [e] [] pos2] [] pos) (YZ X.K te):=by
 intro pins s σ H Q I h;r wpAny_Call_Name_kw (Eb I hg hm hv ?_ ¤ ¤);r PyProof.Rows.callWith_builtin1 ?_ s2 rfl;rw[s2];show wpAny _ _ (spliced ((false,eval (.Call (.Name "set" p2) [e] [] pos2) X.env)::backTo pos (starEach [] X.env))) _ _ s;r Calls.spliced_cons ?_;r wpAny_Call_Name_kw (Eb I hg2 hm2 hv2 ?_ ¤ ¤);r PyProof.Rows.callWith_type1 ?_ s1 rfl;rw[s1];show wpAny _ _ (spliced ((false,eval e X.env)::backTo pos2 (starEach [] X.env))) _ _ s;r Calls.spliced_cons (thn (he pins s σ H _ I h) fun u s1 ⟨x,H1,I1,r1,q1⟩=>?_);r Calls.spliced_nil ?_;o⟨a,xs,rs,rfl,ha,pr,h61,q⟩:=q1;cases r1;o⟨its,r,pl,_⟩:=I1.list ha;h lx:=r.length;h lr:=┅ pr;h hl:=pl.isList;h at_:∀ i:Nat,i<its.length->∃ b ns,its[i]?=some (.ref b)/\xs[i]?=some (.ref b)/\rs[i]?=some ns/\rPair X.K H1 ns (.ref b):=fun i hi=>by
  h hx:i<xs.length:=by w
  o⟨ns,hns,rp⟩:=Paired.get pr (± hx);o⟨b,eb,hb⟩:=Bw rp;o⟨u,hu',ru⟩:=r.get (± hx);rw[eb] at ru rp;cases ru;!⟨b,ns,hu',by rw[± hx,eb],hns,rp⟩
 h pick:∃ vals:Nat->List Int×Addr,∀ i:Nat,i<its.length->its[i]?=some (.ref (vals i).2)/\rs[i]?=some (vals i).1/\rPair X.K H1 (vals i).1 (.ref (vals i).2)/\xs[i]?=some (.ref (vals i).2):=by
  r⟨fun i=>if h:i<its.length then (Classical.choose (Classical.choose_spec (at_ i h)),Classical.choose (at_ i h)) else ([],0),fun i hi=>?_⟩;h z:=Classical.choose_spec (Classical.choose_spec (at_ i hi));dsimp only;rw[dif_pos hi];!⟨z.1,z.2.2.1,z.2.2.2,z.2.1⟩
 o⟨vals,hvals⟩:=pick;h hsz:its.toArray.size=its.length:=by simp
 h few:∀ ks:List ⑫,(∀ x∈ks,∃ j,j<its.length/\x=vals j)->(ks.map (·.1)).Nodup->ks.length<=300:=fun ks hs hn=>by
  have:=h61 (ks.map (·.1)) hn fun m hm=>by
   o⟨x,hx,rfl⟩:=List.mem_map.mp hm;o⟨j,hj,rfl⟩:=hs x hx;!┈ (hvals j hj).2.1
  rwa [─] at this
 r SB.ACe (items:=its.toArray) (vals:=vals) (I1.ok.hd hc) ¢ hl (fun i v hv=>?_) (fun j hj=>?_) (by rw[hsz];!few) fun h' tk es t ks T O kp=>?_
 ·h hi:i<its.length:=by
   have:=(Array.getElem?_eq_some_iff.mp hv).1;rw[hsz] at this;!this
  h z:=(hvals i hi).1;h hv':its[i]?=some v:=by u hv
  rw[hv'] at z;!Option.some.inj z
 ·rw[hsz] at hj
  o⟨b,eb,hb⟩:=Bw (hvals j hj).2.2.1;cases eb;!ik_ofB I1 hb
 r Calls.spliced_nil ?_;rw[hsz] at O;h hK:∀ x∈ks,SB.IK X.prog X.w h' x.1 x.2:=fun x hx=>by
  o⟨j,hj,rfl⟩:=O.sub x hx;o⟨b,eb,hb⟩:=Bw (hvals j hj).2.2.1;cases eb;!SB.Gu (ik_ofB I1 hb) fun o e=>kp _ o e
 h inrs:∀ j,j<its.length->(vals j).1∈rs:=fun j hj=>┈ (hvals j hj).2.1;h hSz:s1.heap.objs.size<=h'.objs.size:=by
  o⟨o,_,ho,_⟩:=T.obj;!Nat.le_of_lt (Heap.lt_size ho)
 r SB.SX (s:={s1 with heap:=h',toks:=tk}) ¢ (I1.ok.hd hc) T hK (Nat.le_succ_of_le (few ks O.sub T.nd)) fun h2 tk2 D ko e kp2 hD he pk so=>?_;h hD':s1.heap.objs.size<=D:=Nat.le_trans hSz hD;h hn:H1 D=none:=I1.hok.fresh hD';h lko:ko.length<=301:=by rw[pk.length_eq];!Nat.le_succ_of_le (few ks O.sub T.nd)
 h kov:∀ x∈ko,∃ j,j<its.length/\x=vals j:=fun x hx=>O.sub x (pk.mem_iff.mp hx);h vl:∀ l:List ⑫,Vals (l.map fun x=>V.ref x.2) (l.map fun x=>Value.ref x.2):=fun l=>by
  induction l with
  | nil=>!.nil
  | cons x r ih=>!.cons rfl ih
 h pv:∀ l:List ⑫,(∀ x∈l,∃ j,j<its.length/\x=vals j)->Paired (rPair X.K H1) (l.map (·.1)) (l.map fun x=>V.ref x.2):=fun l=>by
  induction l with
  | nil=>!fun _=>.nil
  | cons x r ih =>
   intro hh;o⟨j,hj,rfl⟩:=hh x ´;!.cons (hvals j hj).2.2.1 (ih fun y hy=>hh y (¶ _ hy))
 h pw:∀ l:List ⑫,(∀ x∈l,∃ j,j<its.length/\x=vals j)->Paired (fun m y=>∃ i:Nat,rs[i]?=some m/\xs[i]?=some y) (l.map (·.1)) (l.map fun x=>V.ref x.2):=fun l=>by
  induction l with
  | nil=>!fun _=>.nil
  | cons x r ih =>
   intro hh;o⟨j,hj,rfl⟩:=hh x ´;!.cons ⟨j,(hvals j hj).2.1,(hvals j hj).2.2.2⟩ (ih fun y hy=>hh y (¶ _ hy))
 r⟨.ref D,_,I1.laid (o:=.lst (ko.map fun x=>V.ref x.2)) (a:=D) (t':=tk2) (fun b o eb=>kp2 b o (kp b o eb)) hD' ⟨?_,ko.map (fun x=>Value.ref x.2),e,vl ko,he⟩,rfl,q D _ (ko.map (·.1)) hn so (fun rr=>?_) (pv ko kov) (pw ko kov)⟩
 ·rw[─]
  !small ¢
 ·constructor
  ·intro hr
   o⟨x,hx,rfl⟩:=List.mem_map.mp hr;o⟨j,hj,rfl⟩:=kov x hx;!inrs j hj
  ·intro hr
   o⟨j,hj⟩:=List.mem_iff_getElem?.mp hr;h hjl:j<its.length:=by
    have:=(━ hj).1;w
   h z:=(hvals j hjl).2.1;rw[hj] at z;cases z;!(pk.map (·.1)).mem_iff.mpr (O.sup j hjl)
end
end L2
end
section
namespace K42s
open PySem L2 G
def Pr(K:¨)(C:Addr):Sp:=fun vs H Q _=>∃(l:Addr) (n top:Nat) (rows:List Row),vs=[.int n,.ref l,.int top]/\RowsAt K H l rows/\Ok n rows/\n<=12/\rows.length<=4100/\FewB rows top/\Knot rows top /\
 ∀(p:Addr) (nums:List Row) (hd:Nat) (H':Hp),Same H H'->SvAt K C H' p n nums hd->Canon n nums hd->(∀ s,led nums hd s=led rows top s)->(nums.length<=4000/\nums.length<=rows.length/\∀ t,(nums.filter fun r=>decide (r.1=t)).length<=300)->Q (.ref p) H'
def pl01:List (Key×V):=mergeK [] [(Sum.inl (0:Int),V.int 0),(Sum.inl (1:Int),V.int 1)]
theorem ABb:PlD pl01 fun k=>if k=0 then some 0 else if k=1 then some 1 else none:=by
 intro k;show valV (putK (putK ([]:List (Key×V)) (Sum.inl (0:Int)) (V.int 0)) (Sum.inl (1:Int)) (V.int 1)) (Sum.inl (k:Int))=_;rw[Ea,Ea];by_cases k1:k=1
 ·subst k1;rfl
 by_cases k0:k=0
 ·subst k0;rfl
 rw[if_neg (fun z=>k1 (by injection z with z;w)),if_neg (fun z=>k0 (by injection z with z;w))];dsimp only;rw[if_neg k0,if_neg k1];rfl
theorem AEr:pl01.length<=2+4100*0:=by
 show (putK (putK ([]:List (Key×V)) (Sum.inl (0:Int)) (V.int 0)) (Sum.inl (1:Int)) (V.int 1)).length<=2+4100*0;!Nat.le_trans (CV _ _ _) (Nat.succ_le_succ (CV _ _ _))
def LayR(rows:List Row)(pl:Nat->Option Nat)(H:Hp)(k:Nat)(v:V):Prop:=∃ q b,v=.ref q/\H q=some (.tup [.int k,.ref b])/\H b=some (.tup (r3 ⑪))
theorem LayR.keeps{rows:List Row}{pl:Nat->Option Nat}{H H':Hp}{k:Nat}{v:V}(e:∀ a xs,H a=some (.tup xs)->H' a=some (.tup xs))(h:LayR rows pl H k v):LayR rows pl H' k v :=
 let ⟨q,b,h1,h2,h3⟩:=h;⟨q,b,h1,e _ _ h2,e _ _ h3⟩
def RowR(H:Hp)(r:Row)(v:V):Prop:=∃ b,v=.ref b/\H b=some (.tup (r3 r))
theorem RowR.keeps{H H':Hp}{r:Row}{v:V}(e:∀ a xs,H a=some (.tup xs)->H' a=some (.tup xs))(h:RowR H r v):RowR H' r v :=
 let ⟨b,h1,h2⟩:=h;⟨b,h1,e _ _ h2⟩
def sel(rows:List Row)(pl:Nat->Option Nat)(ly:List Nat)(j:Nat):List Row:=((ly.take j).map (rowIn rows pl)).filter fun r=>decide (r.2.2≠0)
theorem Rz{rows:List Row}{pl:Nat->Option Nat}{ly:List Nat}{j k:Nat}(h:ly[j]?=some k):sel rows pl ly (j+1)=sel rows pl ly j++if ⑪.2.2≠0 then [rowIn rows pl k] else []:=by
 unfold sel;rw[List.take_add_one,h,List.map_append,List.filter_append];by_cases c:⑪.2.2≠0
 ·simp[c]
 ·simp[c]
theorem XQ(rows:List Row)(pl:Nat->Option Nat)(ly:List Nat)(j:Nat):(sel rows pl ly j).length<=ly.length:=by
 unfold sel;r Nat.le_trans (List.length_filter_le _ _) ?_;rw[─,List.length_take];w
theorem Pk{rows:List Row}{pl:Nat->Option Nat}{ly:List Nat}{r:Row}:r∈sel rows pl ly ly.length↔∃ k∈ly,r=rowIn rows pl k/\r.2.2≠0:=by
 unfold sel;rw[List.take_length,List.mem_filter,List.mem_map];constructor
 ·rintro⟨⟨k,hk,rfl⟩,h⟩
  !⟨k,hk,rfl,of_decide_eq_true h⟩
 ·rintro⟨k,hk,rfl,h⟩
  !⟨⟨k,hk,rfl⟩,decide_eq_true h⟩
def placeOf(rows:List Row)(pl:Nat->Option Nat)(nums:List Row)(k:Nat):Nat:=(numOf 2 nums ⑪).getD ⑪.2.1
theorem Kw{α β γ:Type}{F:β->γ->Prop}{f:α->β}:∀{l:List α}{m:List γ},Paired (fun a b=>F (f a) b) l m->Paired F (l.map f) m
 | _,_,.nil=>.nil
 | _,_,.cons h t=>.cons h (Kw t)
theorem ADi{rows new:List Row}{rc:List Nat}{pl:Nat->Option Nat}{t:Nat}(h:(new.map r3i).Pairwise (fun a b=>HT.lexLt a b=true))(hw:∀ r,r∈new->∃ k,k∈rc/\tieOf rows k=t/\r=rowIn rows pl k/\r.2.2≠0):new.Pairwise RowLt:=by
 h h2:new.Pairwise (fun a b=>HT.lexLt (r3i a) (r3i b)=true):=List.pairwise_map.mp h;h tie:∀ r∈new,r.1=t:=fun r hr=>by
  o⟨k,_,h,e,_⟩:=hw r hr;rw[e];!h
 r List.Pairwise.imp_of_mem (fun {a b} ha hb z=>?_) h2;h ea:=tie a ha;h eb:=tie b hb;o⟨a1,a2,a3⟩:=a;o⟨b1,b2,b3⟩:=b;dsimp only at ea eb;subst ea;subst eb;unfold r3i at z;dsimp only at z;rw[HT.Ca,if_pos rfl,HT.Ca] at z;r .inr ⟨rfl,?_⟩;dsimp only;by_cases c:(a2:Int)=b2
 ·rw[if_pos c,HT.Ca] at z
  by_cases d:(a3:Int)=b3
  ·rw[if_pos d] at z
   cases z
  ·rw[if_neg d] at z
   have:=of_decide_eq_true z;!.inr ⟨by w,by w⟩
 ·rw[if_neg c] at z
  have:=of_decide_eq_true z;!.inl ¢
section
variable{P:Program}{w:World}{K:¨}{mg:Str->Option Value}{base:Heap}{f C:Addr}{fd:FuncData}
theorem Dv:FnScope ["n","rows","top","reached","numbers","places","tie","layer","row","knot"] ["n","rows","top"] (Ac Fz):=¡
theorem AAy{fR fI fS:Addr}{fdR fdI fdS:FuncData}(F:Fun K "least_graph" "least_graph" Fz f fd)(T:Txt K mg C)(M:Mk K C fS)
  (GR:FnOk P w K mg base CX0 1 fR fdR ["rows","top"] (WY K)) (bR:Binds K fdR ["rows","top"] []) (kR:© K (.ref fR)=true) (mR:mg "reached_knots" = some (.ref fR))
  (GI:FnOk P w K mg base CX0 1 fI fdI ["places","row"] (AFe K)) (bI:Binds K fdI ["places","row"] []) (kI:© K (.ref fI)=true) (mI:mg "row_in_places" = some (.ref fI))
  (GS:FnOk P w K mg base CX0 1 fS fdS ["self","n","rows","head"] (Lb K C)) (bS:Binds K fdS ["self","n","rows","head"] []) :
  FnOk P w K mg base CX0 3 f fd ["n","rows","top"] (Pr K C):=by
 r F.ok Dv § ¦
 ·o⟨l,n,top,rows,rfl,_⟩:=h
  rfl
 o⟨l,n,top,rows,rfl,hL,ok,n12,r72,fw,kt,q⟩:=h;h hr1:Room 1 _:=hr.mono ¤;r⟨_,Af (Ay (i:=3) Dv.nd rfl ④ (BP GR hr1 rfl mR kR bR .nil pass0 (Aa (pv 1) (Aa (pv 2) Ad))))
  (Af (Ay (i:=4) Dv.nd rfl ④ ABN)
  (Af (Ay (i:=5) Dv.nd rfl (Or.inr rfl) (WK (Jy Ah Ah (Jy Ah Ah Wv)) rfl rfl (by intro z;cases z) ¤))
  (Af (DW PassesOwn.never rfl (Mu rfl T.range (Aa (BW Fp (pv 0) Ah) (Aa (XS Qj Ah) (Aa (XS Qj Ah) Ad)))) (Av (i:=6) Dv.nd rfl (Or.inr rfl))
   (Af (QS (i:=7) (Ac Fz) ["knot"] ["places","rows","tie"] [5,1,6] Dv.nd rfl ④ rfl rfl £ ⟨⟨rfl,£⟩,⟨rfl,£⟩,⟨rfl,£⟩,trivial⟩ (CK (pv 3))
    (fun _ _ _=>Av (i:=0) (show ((["knot"]:List Str)++(["places","rows","tie"]:List Str)).Nodup by decide +kernel) rfl ④)
    (fun _ _ _=>CP (Ar Cy (BK (Qk (K:=K) rfl) (BK (Qk (K:=K) rfl) (pv 2) (BW Fp (pv 0) Ah) (fun _ _=>rfl)) Ah (fun _ _=>rfl)) (pv 3) ⑯))
    (fun _ _ _=>Ce (Aa (pv 0) (Aa (BP GI hr1 rfl mI kI bI .nil pass0 (Aa (pv 1) (Aa (BK (Qk (K:=K) rfl) (pv 2) (BW Fp (pv 0) Ah) (fun _ _=>rfl)) Ad))) Ad))))
   (Af (DW PassesOwn.never rfl (CK (Jh rfl (Cp hr) rfl T.sorted rfl T.set
     (Bv (Ac Fz) ["knot","row"] [] [] rfl rfl £ trivial (CK (pv 7))
      (fun _ _ _=>Gf (K:=K) (n:=2) rfl rfl (Cd (Av (i:=0) (show ((["knot","row"]:List Str)++([]:List Str)).Nodup by decide +kernel) rfl ④) (Cd (Av (i:=1) (show ((["knot","row"]:List Str)++([]:List Str)).Nodup by decide +kernel) rfl ④) Gi)))
      (fun _ _ _=>CP (Ar Oi (BK (QM (K:=K) rfl) (pv 1) Ah (fun _ _=>rfl)) Ah ⑯))
      (fun _ _ _=>pv 1)))) (Av (i:=8) Dv.nd rfl ④)
    (Aj (Jk (Cp hr) (pv 4) (pv 8) (BW Cw (BJ Qx rfl T.len PySem.boot_len (Aa (pv 4) Ad)) Ah) rfl)))
   (Aj (DW PassesOwn.never rfl (CK (pv 7)) (Gf (K:=K) (n:=2) rfl rfl (Cd (Av (i:=9) Dv.nd rfl ④) (Cd (Av (i:=8) Dv.nd rfl ④) Gi)))
    (Aj (Jk (Cp hr) (pv 5) (pv 9) (AAa (Cp hr) (pv 4) (pv 8) (BK Bo (pv 8) Ah (fun _ _=>rfl)) ⟨rfl,rfl,rfl,rfl⟩) rfl)))))))
  (Aj (Az (QF M GS hr rfl T.mgC bS .nil pass0 (Aa (pv 0) (Aa (Bb (QD rfl) rfl T.list PyProof.Rows.boot_list (Aa (pv 4) Ad)) (Aa (Pj (Cp hr) (pv 5) (pv 2) (fun _ _=>rfl)) Ad))))))))),?_⟩
 r⟨_,rfl,_,rfl,l,n,top,rows,rfl,hL,ok,r72,kt,fun R rc H1 s1 nR eR cl tr rl0 par=>?_⟩;h rl:∀ t j,(lay rows t rc j).length<=4100:=fun t j=>Nat.le_trans (rl0 t j) (Nat.le_trans (List.length_filter_le ..) r72);r fun N hN=>?_;h nN:H N=none:=s1.free hN;h s2:=s1.trans (┊ hN (.dT []));r fun D hD=>⟨Ab,[(.inl (0:Int),.int 0),(.inl (1:Int),.int 1)],rfl,(by show 2<=15;decide),?_⟩;h nD:H D=none:=s2.free hD;h RN:R≠N:=Ae eR hN;h RD:R≠D:=Ae (show (upd H1 N (.dT [])) R=some (.lst (iN rc)) by rw[Ag RN];!eR) hD;h ND:N≠D:=Ae (show (upd H1 N (.dT [])) N=some (.dT []) from Ab) hD;r⟨_,rfl,_,_,rfl,rfl,1,rfl,1,rfl,(n:Int)-1,-1,rfl,⟨by w,by w,by w,by w⟩,?_⟩;r Rt (lo:=(n:Int)-1) (n:=((n:Int)-1 - -1).toNat) (fun i σ H2=>∃(nums:List Row) (kvs:List (Key×V)) (pl:Nat->Option Nat) (o6 o7 o8 o9:Option V),σ=[some (.int n),some (.ref l),some (.int top),some (.ref R),some (.ref N),some (.ref D),o6,o7,o8,o9]/\Same H H2 /\
   H2 R=some (.lst (iN rc))/\H2 N=some (.dT (numKV 2 nums))/\H2 D=some (.dK kvs)/\PlD kvs pl/\Kept2 n (n-i) rows rc nums pl/\nums.length<=300*i/\kvs.length<=2+4100*i/\∀ t,(nums.filter fun r=>decide (r.1=t)).length<=300)
  ⟨[],_,fun k=>if k=0 then some 0 else if k=1 then some 1 else none,none,none,none,none,rfl,fun b o e=>?_,?_,?_,Ab,?_,?_,by simp,?_,fun t=>Nat.zero_le _⟩ ?_ ?_
 ·rw[Ag (Ae e nD),Ag (Ae e nD)]
  !s2 b o e
 ·rw[Ag RD,Ag RD,Ag RN]
  !eR
 ·rw[Ag ND,Ag ND,Ab]
  rfl
 ·!ABb
 ·!Vr fun k hk=>(cl.low ok hk).1
 ·!AEr
 ·rintro i σ H2 hi ⟨nums,kvs,pl,o6,o7,o8,o9,rfl,sm,eR2,eN2,eD2,pd,kp,nl,kl,cn⟩
  obtain ⟨t,et,tn,tn',tlt⟩:∃ t:Nat,(n:Int)-1-i=t/\n-i=t+1/\n-(i+1)=t/\t<n:=⟨n-1-i,by w,by w,by w,by w⟩;rw[et];rw[tn] at kp;h hL2:=hL.same sm;r⟨_,rfl,R,rfl,⟨_,SqL.of eR2⟩,fun Y hY=>?_⟩;h nY:H Y=none:=sm.free hY;r Br (K:=K) (a:=R) (xs:=iN rc) (fun j τ H3=>∃(kv:Option V) (ys:List V),τ=[kv,some (.ref D),some (.ref l),some (.int t)]/\Same H2 H3/\H3 Y=some (.lst ys)/\Paired (LayR rows pl H3) (lay rows t rc j) ys)
   ⟨none,[],rfl,┊ hY _,Ab,.nil⟩ (fun j τ H3 _ ⟨_,_,_,s3,_⟩=>s3.seq (SqL.of eR2)) ?_ ?_
  ·rintro j x τ H3 hx ⟨kv,ys,rfl,s3,eY,py⟩
   obtain ⟨k,hk,rfl⟩:∃ k:Nat,rc[j]?=some k/\x=.int (k:Int):=by
    unfold iN at hx;rw[┉] at hx;cases g:rc[j]? with
    | none=>rw[g] at hx;cases hx
    | some k=>rw[g] at hx;cases hx;!⟨k,rfl,rfl⟩
   h km:=┈ hk;o⟨xs,p,hS,ha,hp⟩:=QJ (hL2.same s3) (cl.knot k km) (cl.two k km);r⟨_,rfl,_,rfl,_,_,rfl,rfl,ixA hS ha (ixA hp at0 ⟨_,rfl,rfl,_,rfl,?_⟩)⟩;r ite2 (fun c=>?_) (fun c=>?_)
   ·h c':tieOf rows k=t:=by
     have:=of_decide_eq_true c;injection this with this
     !Int.ofNat.inj this
    o⟨a,b,pa,pb,re,_⟩:=kp.base.row cl ok tlt km c';h hx':valV kvs (Sum.inl ((÷.2.1:Nat):Int))=some (.int (a:Int)):=by
     have:=pd (outOf rows k);rw[pa] at this;!this
    h hy':valV kvs (Sum.inl ((÷.2.2:Nat):Int))=some (.int (b:Int)):=by
     have:=pd (intoOf rows k);rw[pb] at this;!this
    r⟨_,rfl,_,rfl,_,rfl,_,rfl,_,_,rfl,rfl,ixA hS ha ⟨D,p,rows.getD (k-2) (0,0,0),a,b,kvs,rfl,s3 _ _ eD2,⟨p,rfl,hp⟩,hx',hy',fun u hu=>?_⟩⟩;r⟨(by show 2<=sizeLine;decide),fun v hv=>?_⟩;h er:[V.int (÷.1:Nat),V.int (a:Int),V.int (b:Int)]=r3 ⑪:=by
     rw[re,<- c'];rfl
    rw[er];rw[er] at hv;h su:=┊ hu (.tup (r3 ⑪));h sv:=┊ hv (.tup [.int (k:Int),.ref u]);h eY2:=sv _ _ (su _ _ eY);h ll:=rl t j;h ly:ys.length<=4100:=by rw[<- ┅ py];w
    h kt:∀ a xs,(upd (upd H3 u (.tup (r3 ⑪))) v (.tup [.int (k:Int),.ref u])) a=some (.tup xs)->(upd (upd (upd H3 u (.tup (r3 ⑪))) v (.tup [.int (k:Int),.ref u])) Y (.lst (ys++[.ref v]))) a=some (.tup xs):=fun a xs e=>by
     rw[Ag (Cq e eY2 (by intro z;cases z))];!e
    r⟨_,eY2,smallN ¢,_,_,rfl,fun b o e=>?_,Ab,?_⟩
    ·rw[Ag (Ae e hY)]
     !sv _ _ (su _ _ (s3 b o e))
    ·rw[RV hk,if_pos c']
     r Paired.app (Paired.imp (fun a b r=>(r.keeps fun a xs e=>sv _ _ (su _ _ e)).keeps kt) py) (Paired.one ⟨v,u,rfl,kt _ _ Ab,kt _ _ (sv _ _ Ab)⟩)
   ·h c':¬ tieOf rows k=t:=fun e=>c (decide_eq_true (by show V.int ((tieOf rows k:Nat):Int)=V.int (t:Int);rw[e]))
    r⟨_,_,rfl,s3,eY,?_⟩;rw[RV hk,if_neg c',List.append_nil];!py
  ·rintro τ H3 ⟨kv,ys,rfl,s3,eY,py⟩
   h rcl:(iN rc).length=rc.length:=List.length_map ..;rw[rcl] at py;h ll:=rl t rc.length;h ly:ys.length<=4100:=by rw[<- ┅ py];w
   r⟨_,rfl,Y,rfl,⟨_,SqL.of eY⟩,fun Z hZ=>?_⟩;r Br (K:=K) (a:=Y) (xs:=ys) (fun j τ H4=>∃(o1 o2:Option V) (zs:List V),τ=[o1,o2]/\Same H3 H4/\H4 Z=some (.lst zs)/\Paired (RowR H4) (sel rows pl (lay rows t rc rc.length) j) zs)
    ⟨none,none,[],rfl,┊ hZ _,Ab,.nil⟩ (fun j τ H4 _ ⟨_,_,_,_,s4,_⟩=>s4.seq (SqL.of eY)) ?_ ?_
   ·rintro j x τ H4 hx ⟨o1,o2,zs,rfl,s4,eZ,pz⟩
    o⟨k,hk,u,b,rfl,hu,hb⟩:=Paired.get py hx;h hu4:=s4 _ _ hu;h hb4:=s4 _ _ hb;r⟨u,_,rfl,SqT.of hu4,rfl,_,_,rfl,_,_,rfl,rfl,?_⟩;r⟨_,rfl,b,_,_,_,rfl,rfl,SqT.of hb4,at2,rfl,_,rfl,?_⟩;h zl:zs.length<=4100:=by rw[<- ┅ pz];!Nat.le_trans (XQ _ _ _ _) ¢
    r ite2 (fun c=>?_) (fun c=>?_)
    ·h c':⑪.2.2≠0:=fun e=>by
      rw[e] at c;!absurd c ¤
     r⟨_,rfl,_,eZ,smallN ¢,_,_,_,rfl,fun b o e=>?_,Ab,?_⟩
     ·rw[Ag (Ae e hZ)]
      !s4 b o e
     ·rw[Rz hk,if_pos c']
      h kz:∀ a xs,H4 a=some (.tup xs)->(upd H4 Z (.lst (zs++[.ref b]))) a=some (.tup xs):=fun a xs e=>by rw[Ag (Cq e eZ (by intro z;cases z))];!e
      !Paired.app (Paired.imp (fun a b r=>r.keeps kz) pz) (Paired.one ⟨b,rfl,kz _ _ hb4⟩)
    ·h c':⑪.2.2=0:=by
      rcases Nat.eq_zero_or_pos ⑪.2.2 with e | e
      ·!e
      ·!absurd (by rw[decide_eq_false (fun z=>by injection z with z;w)];rfl) c
     r⟨_,_,_,rfl,s4,eZ,?_⟩;rw[Rz hk,if_neg (fun z=>z c'),List.append_nil];!pz
   ·rintro τ H4 ⟨o1,o2,zs,rfl,s4,eZ,pz⟩
    rw[<- ┅ py] at pz;h zl:(sel rows pl (lay rows t rc rc.length) (lay rows t rc rc.length).length).length<=4100:=Nat.le_trans (XQ _ _ _ _) ¢;r⟨Z,zs,(sel rows pl (lay rows t rc rc.length) (lay rows t rc rc.length).length).map r3i,rfl,SqL.of eZ,Kw (Paired.imp (fun r v ⟨b,e,hb⟩=>by rw[e];!DQ (ns:=r3i r) hb) pz),fun ms nd hm=>?_,fun S ys' ms hS so mem pr pw=>?_⟩
    ·o⟨new,rfl⟩:=Iu ms fun m hm'=>by
      o⟨r',_,e⟩:=List.mem_map.mp (hm m hm');!⟨r',e.symm⟩
     rw[─];r fw.sel kp cl ok tlt par new ((List.pairwise_map.mp nd).imp fun h e=>h (by rw[e])) fun r hr=>?_;o⟨r',h1,h2⟩:=List.mem_map.mp (hm _ (List.mem_map_of_mem hr));rw[Jo h2] at h1;o⟨k,h1,h2,h3⟩:=Pk.mp h1;o⟨h4,h5⟩:=Ib.mp h1;!⟨k,h4,h5,h2,h3⟩
    o⟨new,rfl⟩:=Iu ms fun m hm=>by
     o⟨r',_,e⟩:=List.mem_map.mp ((mem m).mp hm);!⟨r',e.symm⟩
    h nd:=Xn so;h inNew:∀ r∈new,r∈sel rows pl (lay rows t rc rc.length) (lay rows t rc rc.length).length:=fun r hr=>by
     o⟨r',h1,h2⟩:=List.mem_map.mp ((mem (r3i r)).mp (List.mem_map_of_mem hr));rw[<- Jo h2];!h1
    h hw:∀ r,r∈new->∃ k,k∈rc/\tieOf rows k=t/\r=rowIn rows pl k/\r.2.2≠0:=fun r hr=>by
     o⟨k,h1,h2,h3⟩:=Pk.mp (inNew r hr);o⟨h4,h5⟩:=Ib.mp h1;!⟨k,h4,h5,h2,h3⟩
    h hw2:∀ k∈rc,tieOf rows k=t->⑪.2.2≠0->rowIn rows pl k∈new:=fun k hk hkt w0=>by
     h h0:r3i ⑪∈new.map r3i:=(mem _).mpr (List.mem_map_of_mem (Pk.mpr ⟨k,Ib.mpr ⟨hk,hkt⟩,rfl,w0⟩));o⟨r',h1,h2⟩:=List.mem_map.mp h0;rw[<- Jo h2];!h1
    h newl:new.length<=300:=fw.sel kp cl ok tlt par new nd hw;h ly':ys'.length=new.length:=by rw[<- ┅ pr,─]
    h sS:=┊ hS (.lst ys');h eN4:=sS _ _ (s4 _ _ (s3 _ _ eN2));h eD4:=sS _ _ (s4 _ _ (s3 _ _ eD2));h eR4:=sS _ _ (s4 _ _ (s3 _ _ eR2));h eY4:=sS _ _ (s4 _ _ eY);h SN:S≠N:=Cq (show (upd H4 S (.lst ys')) S=some (.lst ys') from Ab) eN4 (by intro z;cases z);r⟨S,rfl,⟨_,SqL.of Ab⟩,?_⟩;r Ed (K:=K) (a:=S) (xs:=ys') (fun j σ H5=>∃ o8:Option V,σ=[some (.int n),some (.ref l),some (.int top),some (.ref R),some (.ref N),some (.ref D),some (.int t),some (.ref Y),o8,o9]/\(∀ b o,b≠N->(upd H4 S (.lst ys')) b=some o->H5 b=some o) /\
      H5 N=some (.dT (numKV 2 (nums++new.take j)))) ⟨o8,rfl,fun b o _ e=>e,by rw[List.take_zero,List.append_nil];!eN4⟩ (fun j σ H5 _ ⟨_,_,k5,_⟩=>SqL.of (k5 _ _ SN Ab)) ?_ ?_
    ·rintro j x σ H5 hx ⟨o8,rfl,k5,eN5⟩
     o⟨m,hm,i',hi1,hi2⟩:=Paired.get pw hx;obtain ⟨r,hr,rfl⟩:∃ r,new[j]?=some r/\m=r3i r:=by
      rw[┉] at hm;cases g:new[j]? with
      | none=>rw[g] at hm;cases hm
      | some r=>rw[g] at hm;cases hm;!⟨r,rfl,rfl⟩
     o⟨r',hr',b,rfl,hb⟩:=Paired.get pz hi2;h er:r'=r:=by
      rw[┉,hr'] at hi1;!Jo (Option.some.inj hi1)
     subst er;h bN:b≠N:=Cq (sS _ _ hb) eN4 (by intro z;cases z);h hb5:=k5 _ _ bN (sS _ _ hb);h rn:r'∉nums++new.take j:=fun hm=>by
      rcases List.mem_append.mp hm with hm | hm
      ·have:=kp.base.ge r' hm
       o⟨k,_,h5,h2,_⟩:=hw r' (┈ hr);rw[h2] at this;h e:⑪.1=tieOf rows k:=rfl;w
      ·o⟨j',hj'⟩:=List.mem_iff_getElem?.mp hm
       rw[List.getElem?_take] at hj';split at hj'
       ·have:=(List.getElem?_inj (━ hj').1 nd).mp (hj'.trans hr.symm)
        w
       ·cases hj'
     h nl2:(nums++new.take j).length<=300*13:=by
      rw[│,List.length_take];w
     r⟨_,rfl,N,_,rfl,eN5,_,_,rfl,rfl,_,rfl,_,rfl,N,_,rfl,.inr ⟨_,ik3 r',b,eN5,rfl,hb5,by rw[JD];!smallN ¢,rfl⟩,?_⟩;r⟨_,rfl,fun b o hb e=>by rw[Ag hb];!k5 b o hb e,?_⟩;rw[Ab,Yb rn,List.take_add_one,hr];rw[List.append_assoc];rfl
    ·rintro σ H5 ⟨o8,rfl,k5,eN5⟩
     rw[ly',List.take_length] at eN5;h DN:D≠N:=Cq eD4 eN4 (by intro z;cases z);h RN4:R≠N:=Cq eR4 eN4 (by intro z;cases z);h YN:Y≠N:=Cq eY4 eN4 (by intro z;cases z);h eD5:=k5 _ _ DN eD4;h eR5:=k5 _ _ RN4 eR4;h eY5:=k5 _ _ YN eY4;h YD:Y≠D:=Cq eY5 eD5 (by intro z;cases z);r⟨_,rfl,Y,rfl,⟨_,SqL.of eY5⟩,?_⟩;r Ed (K:=K) (a:=Y) (xs:=ys) (fun j σ H6=>∃(o8 o9:Option V) (kvs':List (Key×V)),σ=[some (.int n),some (.ref l),some (.int top),some (.ref R),some (.ref N),some (.ref D),some (.int t),some (.ref Y),o8,o9]/\(∀ b o,b≠D->H5 b=some o->H6 b=some o) /\
       H6 D=some (.dK kvs')/\PlD kvs' (plOf pl (placeOf rows pl (nums++new)) ((lay rows t rc rc.length).take j))/\kvs'.length<=kvs.length+j) ⟨o8,o9,kvs,rfl,fun b o _ e=>e,eD5,?_,by w⟩ (fun j σ H6 _ ⟨_,_,_,_,k6,_⟩=>SqL.of (k6 _ _ YD eY5)) ?_ ?_
     ·intro k
      rw[pd k];unfold plOf;rw[if_neg ¥]
     ·rintro j x σ H6 hx ⟨o8,o9,kvs',rfl,k6,eD6,pd6,kl6⟩
      o⟨k,hk,u,b,rfl,hu,hb⟩:=Paired.get py hx;h up:∀ a xs,H3 a=some (.tup xs)->H6 a=some (.tup xs):=fun a xs e=>by
       h e4:=sS _ _ (s4 _ _ e);h e5:=k5 _ _ (Cq e4 eN4 (by intro z;cases z)) e4;!k6 _ _ (Cq e5 eD5 (by intro z;cases z)) e5
      h eN6:=k6 _ _ (Ne.symm DN) eN5;h jl:j<ys.length:=(━ hx).1;r⟨u,_,rfl,SqT.of (up _ _ hu),rfl,_,_,rfl,_,_,rfl,rfl,?_⟩;r⟨_,rfl,N,rfl,.inr ⟨_,.inl eN6⟩,_,rfl,_,rfl,b,_,_,_,rfl,rfl,SqT.of (up _ _ hb),at1,_,DGet.t (k:=ik3 ⑪) eN6 (up _ _ hb),?_⟩;r⟨_,rfl,_,rfl,D,_,rfl,.inl ⟨kvs',Sum.inl (k:Int),eD6,rfl,smallN ¢,rfl⟩,?_⟩;h ev:(valV (numKV 2 (nums++new)) (ik3 ⑪)).getD (V.int (⑪.2.1:Nat))=V.int ((placeOf rows pl (nums++new) k:Nat):Int):=by
       rw[JK];unfold placeOf;cases numOf 2 (nums++new) ⑪<;>rfl
      rw[ev];r⟨_,_,_,rfl,fun b o hb e=>by rw[Ag hb];!k6 b o hb e,Ab,?_,by have:=CV kvs' (Sum.inl (k:Int)) (V.int ((placeOf rows pl (nums++new) k:Nat):Int));w⟩;rw[List.take_add_one,hk];!PlD.put pd6
     ·rintro σ H6 ⟨o8,o9,kvs',rfl,k6,eD6,pd6,kl6⟩
      rw[<- ┅ py,List.take_length] at pd6;r⟨nums++new,kvs',_,_,_,_,_,rfl,fun b o e=>?_,k6 _ _ (Cq eR5 eD5 (by intro z;cases z)) eR5,k6 _ _ (Ne.symm DN) eN5,eD6,pd6,?_,by rw[│];w,by w,fun t1=>?_⟩
      ·h e4:=sS _ _ (s4 _ _ (s3 _ _ (sm b o e)))
       !k6 _ _ (Ae e nD) (k5 _ _ (Ae e nN) e4)
      ·rw[tn']
       r kp.step cl ok tlt hw nd hw2 (ADi so hw) (fun k hk=>?_) (fun k hk ht=>?_)
       ·unfold plOf
        rw[if_neg (fun z=>by
         o⟨z1,z2⟩:=Ib.mp z;rcases hk with hk | hk
         ·!hk z1
         ·!hk z2)]
       ·r⟨placeOf rows pl (nums++new) k,by unfold plOf;rw[if_pos (Ib.mpr ⟨hk,ht⟩)],?_⟩
        unfold placeOf;cases g:numOf 2 (nums++new) ⑪ with
        | some m =>
         o⟨j,h1,h2⟩:=Le _ _ _ _ g;!.inl ⟨j,h1,by show m=j+2;w⟩
        | none=>!.inr ⟨LC _ _ _ g,rfl⟩
      ·rw[List.filter_append,│]
       by_cases c:t1=t
       ·rw[List.filter_eq_nil_iff.mpr fun r hr z=>by
         have:=kp.base.ge r hr;have:=of_decide_eq_true z;w]
        have:=List.length_filter_le (fun r:Row=>decide (r.1=t1)) new;simp only[List.length_nil];w
       ·rw[List.filter_eq_nil_iff (l:=new) |>.mpr fun r hr z=>by
         o⟨k,_,h5,h2,_⟩:=hw r hr;have:=of_decide_eq_true z;rw[h2] at this;h e:⑪.1=tieOf rows k:=rfl;w]
        !cn t1
 ·rintro σ H2 ⟨nums,kvs,pl,o6,o7,o8,o9,rfl,sm,eR2,eN2,eD2,pd,kp,nl,kl,cn⟩
  h e0:n-((n:Int)-1 - -1).toNat=0:=by w
  rw[e0] at kp;h ht:∃ p:Nat,pl top=some p:=by
   rcases tr with h | h
   ·have:top=0\/top=1:=by w
    rcases this with rfl | rfl
    ·!⟨0,kp.base.z⟩
    ·!⟨1,kp.base.o⟩
   ·o⟨p,hp,_⟩:=kp.base.has top h (Nat.zero_le _)
    !⟨p,hp⟩
  o⟨hd,ehd⟩:=ht;r⟨_,rfl,_,rfl,N,_,rfl,eN2,fun A0 ys hA kL=>?_⟩;h sA:=┊ hA (.lst ys);r⟨_,rfl,_,rfl,D,.int hd,rfl,?_,?_⟩
  ·have:=DGet.k (k:=.inl (top:Int)) (sA _ _ eD2)
   rw[pd top,ehd] at this;!this
  ·intro x dx hx hdx ne
   h hx2:(upd (upd H2 A0 (.lst ys)) dx (.own x)) x=none:=by rw[Ag (Ne.symm ne)];!hx
   h s4:=(┊ hdx (.own x)).trans (┊ hx2 (.ins C dx []));r⟨x,dx,A0,n,hd,ys,nums,rfl,Ab,s4.seq (SqL.of Ab),Paired.imp (fun a b r=>Bj _ _ _ _ s4.ts (Bj _ _ _ _ sA.ts r)) (Ol kL),fun H' hs sv=>⟨rfl,q x nums hd H' (fun b o e=>?_) sv (kp.canon cl ok tr ehd par).1 (kp.canon cl ok tr ehd par).2 ⟨by w,ZP kp cl,cn⟩⟩⟩;h e1:=s4 _ _ (sA _ _ (sm b o e));r hs b o e1 fun z=>?_;rw[z] at e;have:=sA _ _ (sm _ o e);rw[hx] at this;cases this
end
theorem seqX{K:¨}{H H':Hp}{R l:Addr}{xs:List V}(e:∀ b o,b≠R->H b=some o->H' b=some o)(ne:l≠R)(h:SqL K H l xs):SqL K H' l xs:=by
 rcases h with (h | ⟨u,h⟩) | h
 ·!.inl (.inl (e _ _ ne h))
 ·!.inl (.inr ⟨u,e _ _ ne h⟩)
 ·!.inr h
theorem tsX{H H':Hp}{R:Addr}{xs:List V}(e:∀ b o,b≠R->H b=some o->H' b=some o)(hR:H R=some (.lst xs)):TSm H H':=fun b u hb t=>e b u (fun z=>by
 subst z;rw[hR] at hb;cases hb;o⟨ys,e | ⟨o,e⟩⟩:=t
 ·cases e
 ·cases e) hb
theorem take_snoc{α:Type}{l:List α}{i:Nat}{x:α}(h:l[i]?=some x):l.take (i+1)=l.take i++[x]:=by rw[List.take_add_one,h];rfl
theorem Gm:∀ ns:List Int,⑬.all flatV=true
 | []=>rfl
 | _::r=>Gm r
theorem Ck(z:Int)(j:Addr)(h:Int){m:Str}(h1:¬ m = "head")(h2:¬ m = "rows")(h3:¬ m = "amount"):(flds z j h).lookup m=none:=by
 unfold flds;rw[Ai,if_neg h1,Ai,if_neg h2,Ai,if_neg h3]
 all_goals rfl
theorem ACN{X:Cx}{K:¨}(hK:X.K=K):OpR X (binaryOp .Add) (rAddT K):=by subst hK;!ADr
theorem ACn{n:Nat}{rows:List Row}(o:Ok n rows)(j:Nat):Ok n (rows.take j):=fun i q e=>by
 h il:=(━ e).1;h ij:i<j:=by rw[List.length_take] at il;w
 o⟨h1,h2,h3⟩:=o i q (by rw[List.getElem?_take_of_lt ij] at e;!e);h low:∀ l,Low rows q.1 (i+2) l->Low (rows.take j) q.1 (i+2) l:=fun l ⟨a,b⟩=>⟨a,b.imp id fun⟨u,e,z⟩=>⟨u,by rw[List.getElem?_take_of_lt ¢];!e,z⟩⟩;!⟨h1,low _ h2,low _ h3⟩
theorem Xg{n:Nat}{rows:List Row}{k:Nat}{L:List (List Nat)}(I:InOrder n rows k L):L.length<=2 ^ n:=by
 h h:(L.map (num n)).Pairwise (· < ·):=by rw[List.pairwise_map];!I.ord
 h z:=ST.Bx (l₁:=L.map (num n)) (l₂:=List.range (2 ^ n)) (h.imp fun {a b} h=>Nat.ne_of_lt h) fun x hx=>by
  o⟨s,hs,rfl⟩:=List.mem_map.mp hx;o⟨w1,w2⟩:=I.way s hs;have:=Uq (n:=n) (t:=0) w1 fun x hx=>⟨Nat.zero_le _,(w2 x hx).2⟩;!List.mem_range.mpr this
 rw[─,List.length_range] at z;!z
theorem ACX{n:Nat}{s:List Nat}(h:s.Pairwise (· < ·))(hs:∀ x∈s,x<n):s.length<=n:=by
 h z:=ST.Bx (l₁:=s) (l₂:=List.range n) (h.imp fun {a b} h=>Nat.ne_of_lt h) fun x hx=>List.mem_range.mpr (hs x hx);rw[List.length_range] at z;!z
theorem pow12{n:Nat}(h:n<=12):2 ^ n<=4096:=Nat.pow_le_pow_right ¤ h
def rTies(K:¨)(H:Hp)(s:List Nat)(v:V):Prop:=∃ p,v=.ref p/\H p=some (.tup ((up s).map V.int))
theorem Gn{K:¨}{H H':Hp}{ss:List (List Nat)}{ys:List V}(t:TSm H H')(h:Paired (rTies K H) ss ys):Paired (rTies K H') ss ys:=Paired.imp (fun _ _ ⟨p,e,hp⟩=>⟨p,e,t p _ hp ⟨_,.inl rfl⟩⟩) h
def rSets(K:¨)(H0:Hp)(S:Addr)(H:Hp)(ss:List (List Nat))(v:V):Prop:=∃ p ys,v=.ref p/\H0 p=none/\p≠S/\H p=some (.lst ys)/\Paired (rTies K H) ss ys
theorem PN{K:¨}{H0:Hp}{S:Addr}{H H':Hp}{xs:List V}{ss:List (List Nat)}{v:V}(e:∀ b o,b≠S->H b=some o->H' b=some o)(hS:H S=some (.lst xs))(h:rSets K H0 S H ss v):rSets K H0 S H' ss v:=by
 o⟨p,ys,rfl,h0,ne,hp,pr⟩:=h;!⟨p,ys,rfl,h0,ne,e _ _ ne hp,Gn (tsX e hS) pr⟩
def Zg(K:¨)(C:Addr):Sp:=fun vs H Q _=>∃(p:Addr) (n hd:Nat) (rows:List Row),vs=[.ref p]/\SvAt K C H p n rows hd/\Ok n rows/\Knot rows hd/\n<=12/\rows.length<=4000 /\
 ∀(L:Addr) (ys:List V) (H':Hp),Same H H'->H L=none->H' L=some (.lst ys)->Paired (rTies K H') (setsOf rows hd) ys->Q (.ref L) H'
theorem KC{K:¨}{H:Hp}:∀{rows:List Row}{xs:List V},Paired (rRow K H) rows xs->Paired (rPair K H) (rows.map r3i) xs
 | _,_,.nil=>.nil
 | _,_,.cons ⟨p,e,h⟩ t=>.cons ⟨p,_,e,h,paired_ints (r3i _)⟩ (KC t)
section
variable{P:Program}{w:World}{K:¨}{mg:Str->Option Value}{base:Heap}{f C:Addr}{fd:FuncData}
theorem Uy:FnScope ["sieve","sets","row"] ["sieve"] (Ac Ld):=¡
theorem ACf{fK fT:Addr}{fdK fdT:FuncData}(F:Fun K "sets_of" "sets_of" Ld f fd)(T:Txt K mg C)
  (GK:FnOk P w K mg base CX0 1 fK fdK ["self"] (Hr K C)) (bK:Binds K fdK ["self"] []) (mK:Meth K C "knots" fK)
  (GT:FnOk P w K mg base CX0 1 fT fdT ["self"] (Wk K C)) (bT:Binds K fdT ["self"] []) (mT:Meth K C "top" fT) :
  FnOk P w K mg base CX0 2 f fd ["sieve"] (Zg K C):=by
 r F.ok Uy § ¦
 ·o⟨p,n,hd,rows,rfl,_⟩:=h
  rfl
 o⟨p,n,hd,rows,rfl,hV,ok,kn,n12,r9,q⟩:=h;h hr1:Room 1 _:=hr.mono ¤;r⟨_,Af (Ay (i:=1) Uy.nd rfl ④ (Cv (Aa (Cv Ad) (Aa (Cv (Aa (Ce Ad) Ad)) Ad))))
  (Af (DW PassesOwn.never rfl (CK (Bt (pv 0) T.cl mK GK hr1 bK .nil pass0)) (Av (i:=2) Uy.nd rfl (Or.inr rfl))
   (Aj (DP (Ja PySem.F.plainAttrs_list PySem.F.slot_list_append PySem.F.type_list_append Cz (pv 1) (Aa (BW Wq (BK Bl (pv 1) (BK Bo (pv 2) Ah (fun _ _=>rfl)) (fun _ _=>rfl))
    (Bv (Ac Ld) ["some"] ["row"] [2] rfl rfl £ ⟨⟨rfl,£⟩,trivial⟩ (CK (BK Bl (pv 1) (BK Bo (pv 2) Ah (fun _ _=>rfl)) (fun _ _=>rfl)))
     (fun _ _ _=>Av (i:=0) (show ((["some"]:List Str)++(["row"]:List Str)).Nodup by decide +kernel) rfl ④) (fun _ _ _=>DX)
     (fun _ _ _=>BW (ACN (K:=K) rfl) (Ce (Aa (BK (QM (K:=K) rfl) (pv 1) Ah (fun _ _=>rfl)) Ad)) (pv 0)))) Ad)))))
  (Aj (Az (BK Bl (pv 1) (Bt (pv 0) T.cl mT GT hr1 bT .nil pass0) (fun _ _=>rfl))))),?_⟩
 o⟨dx,jj,hp,_⟩:=id hV;r⟨Nat.zero_le _,fun L0 hL0=>⟨Nat.zero_le _,fun T0 hT0=>⟨(by show 1<=sizeLine;decide),fun L1 hL1=>⟨(by show 2<=sizeLine;decide),fun S hS=>?_⟩⟩⟩⟩;h sA:=┊ hL0 (.lst []);h sB:=┊ hT0 (.tup []);h sC:=┊ hL1 (.lst [.ref T0]);h sD:=┊ hS (.lst [.ref L0,.ref L1]);h s0:=sA.trans (sB.trans (sC.trans sD));h hSn:H S=none:=by
  rcases h:H S with _ | o
  ·rfl
  ·rw[(sA.trans (sB.trans sC)) _ _ h] at hS
   cases hS
 h n1:H L1=none:=by
  rcases h:H L1 with _ | o
  ·rfl
  ·rw[(sA.trans sB) _ _ h] at hL1
   cases hL1
 h e0:=(sB.trans (sC.trans sD)) _ _ (Ab (H:=H) (a:=L0) (o:=.lst []));h eT:=(sC.trans sD) _ _ (Ab (H:=upd H L0 (.lst [])) (a:=T0) (o:=.tup []));h e1:=sD _ _ (Ab (H:=upd (upd H L0 (.lst [])) T0 (.tup [])) (a:=L1) (o:=.lst [.ref T0]));h eS:(upd (upd (upd (upd H L0 (.lst [])) T0 (.tup [])) L1 (.lst [.ref T0])) S (.lst [.ref L0,.ref L1])) S=some (.lst [.ref L0,.ref L1]):=Ab;h neS0:L0≠S:=Ae ((sB.trans sC) _ _ (Ab (H:=H) (a:=L0) (o:=.lst []))) hS;h neS1:L1≠S:=Ae (Ab (H:=upd (upd H L0 (.lst [])) T0 (.tup [])) (a:=L1) (o:=.lst [.ref T0])) hS;generalize upd (upd (upd (upd H L0 (.lst [])) T0 (.tup [])) L1 (.lst [.ref T0])) S (.lst [.ref L0,.ref L1])=H1 at s0 e0 eT e1 eS;r⟨_,rfl,p,dx,_,rfl,s0 _ _ hp,Ck _ _ _ £ £ £,p,n,hd,rows,rfl,hV.same s0,fun l ys H2 s2 hl el px=>?_⟩;h lS:l≠S:=fun e=>by
  rw[e,eS] at hl;cases hl
 h lx:=┅ px;r⟨l,rfl,⟨_,SqL.of el⟩,?_⟩;r Ed (K:=K) (a:=l) (xs:=ys) (fun i σ H3=>∃(o:Option V) (xs:List V),σ=[some (.ref p),some (.ref S),o]/\(∀ b u,b≠S->H2 b=some u->H3 b=some u)/\H3 S=some (.lst xs)/\Paired (rSets K H S H3) (setsUp (rows.take i)) xs)
  ⟨none,_,rfl,fun b u _ e=>e,s2 _ _ eS,?_⟩ (fun i σ H3 _ ⟨_,_,_,sm,_,_⟩=>SqL.of (sm _ _ lS el)) ?_ ?_
 ·!.cons ⟨L0,[],rfl,hL0,neS0,s2 _ _ e0,.nil⟩ (.cons ⟨L1,[.ref T0],rfl,n1,neS1,s2 _ _ e1,Paired.one ⟨T0,rfl,s2 _ _ eT⟩⟩ .nil)
 ·rintro i x σ H3 hx ⟨o,xs,rfl,sm,eS3,pS⟩
  h il:i<rows.length:=by rw[lx];!(━ hx).1
  o⟨r,hr',b,rfl,hb⟩:=Paired.get px hx;h hb3:=(tsX sm (s2 _ _ eS)).seq hb;h okt:=ACn ok i;h lt:(rows.take i).length=i:=by rw[List.length_take];w
  o⟨t1,lo1,lo2⟩:=ok i r hr';h kno:Knot (rows.take i) r.2.1:=by
   have:=lo1.1;show r.2.1<_;rw[lt];w
  h kni:Knot (rows.take i) r.2.2:=by
   have:=lo2.1;show r.2.2<_;rw[lt];w
  h IO:=Ik _ _ rfl okt _ kno;h II:=Ik _ _ rfl okt _ kni;h lO:=Xg IO;h lI:=Xg II;h p12:=pow12 n12;h lxs:=┅ pS;rw[Dg,lt] at lxs;h at_:∀ k,Knot (rows.take i) k->∃ v,xs[k]?=some v/\rSets K H S H3 (setsOf (rows.take i) k) v:=fun k hk=>by
   h kl:k<(setsUp (rows.take i)).length:=by rw[Dg];!hk
   o⟨v,h1,h2⟩:=Paired.getL pS (± kl);r⟨v,h1,?_⟩;unfold setsOf;rw[¯,± kl];!h2
  o⟨_,hvo,Lo,yo,rfl,o0,oS,eo,po⟩:=at_ _ kno;o⟨_,hvi,Li,yi,rfl,i0,iS,ei,pi_⟩:=at_ _ kni;h lyo:=┅ po;h lyi:=┅ pi_;r⟨_,rfl,.inl ⟨rfl,_,SqL.of eS3⟩,_,rfl,_,rfl,b,_,_,_,rfl,rfl,hb3,at1,S,_,_,_,rfl,rfl,SqL.of eS3,Bp hvo,?_⟩;r⟨_,rfl,_,rfl,b,_,_,_,rfl,rfl,hb3,at2,S,_,_,_,rfl,rfl,SqL.of eS3,Bp hvi,Li,rfl,⟨_,SqL.of ei⟩,fun D hD=>?_⟩;r Br (K:=K) (a:=Li) (xs:=yi) (fun j τ H4=>∃(o:Option V) (zs:List V),τ=[o,some (.ref b)]/\Same H3 H4/\H4 D=some (.lst zs)/\Paired (rTies K H4) (((setsOf (rows.take i) r.2.2).take j).map (r.1::·)) zs) ⟨none,[],rfl,┊ hD _,Ab,.nil⟩ (fun j τ H4 _ ⟨_,_,_,s3,_⟩=>s3.seq (SqL.of ei)) ?_ ?_
  ·rintro j y τ H4 hy ⟨o,zs,rfl,s4,eD,pz⟩
   o⟨u,hu,ru⟩:=Paired.get pi_ hy;h jl:j<(setsOf (rows.take i) r.2.2).length:=(━ hu).1;o⟨w1,w2⟩:=II.way u (┈ hu);h ul:=ACX w1 fun x hx=>(w2 x hx).2;o⟨c,rfl,hc0⟩:=ru;h hc:SqT K H4 c ((up u).map V.int):=SqT.of (s4 _ _ hc0);h hb4:=s4.ts.seq hb3;h lz:=┅ pz;rw[─,List.length_take] at lz;r⟨_,rfl,b,_,_,_,rfl,rfl,hb4,at0,(by show 1<=sizeLine;decide),fun T1 hT1=>?_⟩;h s5:=┊ hT1 (.tup [.int (r.1:Int)]);h hc5:=s5.ts.seq hc;h eT1:(upd H4 T1 (.tup [.int (r.1:Int)])) T1=some (.tup [.int (r.1:Int)]):=Ab;h fin:∀(c2:Addr) (H6:Hp),Same H4 H6->H6 c2=some (.tup ((up (r.1::u)).map V.int))->∃ ys,H6 D=some (.lst ys)/\ys.length<sizeLine/\∃(o:Option V) (zs:List V),[some (V.ref c),some (V.ref b)]=[o,some (V.ref b)]/\Same H3 (upd H6 D (.lst (ys++[.ref c2])))/\(upd H6 D (.lst (ys++[.ref c2]))) D=some (.lst zs)/\Paired (rTies K (upd H6 D (.lst (ys++[.ref c2])))) (((setsOf (rows.take i) r.2.2).take (j+1)).map (r.1::·)) zs:=fun c2 H6 s6 h6=>by
    h eD6:=s6 _ _ eD;h tl:=TSm.lst (o:=.lst (zs++[.ref c2])) eD6;r⟨zs,eD6,Nat.lt_of_le_of_lt (show zs.length<=4096 by w) ¤,_,_,rfl,fun b' o' e'=>?_,Ab,?_⟩
    ·rw[Ag (Ae e' hD)]
     !s6 _ _ (s4 b' o' e')
    ·rw[take_snoc hu,List.map_append]
     !Paired.app (Gn tl (Gn s6.ts pz)) (Paired.one (show rTies K _ (r.1::u) (.ref c2) from⟨c2,rfl,tl _ _ h6 ⟨_,.inl rfl⟩⟩))
   r⟨_,rfl,T1,c,_,_,rfl,rfl,SqT.of eT1,hc5,Nat.le_trans (show _<=100000 by rw[─];unfold up;rw[─];show 1+_<=100000;w) ¤,fun z=>(by cases z),fun _ z=>?_,fun _ z T2 hT2=>?_⟩
   ·h u0:u=[]:=by
     cases u with
     | nil=>rfl
     | cons a t=>cases z
    subst u0;!fin T1 _ s5 eT1
   ·!fin T2 _ (s5.trans (┊ hT2 _)) Ab
  ·rintro τ H4 ⟨o,zs,rfl,s4,eD,pz⟩
   h lz:=┅ pz;rw[<- lyi,List.take_length] at pz lz;rw[─] at lz;r⟨Lo,D,_,_,rfl,rfl,SqL.of (s4 _ _ eo),SqL.of eD,Nat.le_trans (show _<=8192 by w) ¤,fun N hN=>?_⟩;h s5:=┊ hN (.lst (yo++zs));h s6:=s4.trans s5;h eS6:=s6 _ _ eS3;h neN:N≠S:=fun e=>by
    rw[e,s4 _ _ eS3] at hN;cases hN
   h hN0:H N=none:=by
    rcases h:H N with _ | u
    ·rfl
    ·h h2:H2 N=some u:=s2 _ _ (s0 _ _ h)
     rw[s4 _ _ (sm _ _ neN h2)] at hN;cases hN
   r⟨S,xs,_,rfl,rfl,eS6,Nat.lt_of_le_of_lt (show xs.length<=100000 by w) ¤,?_⟩;h k7:∀ b u,b≠S->upd H4 N (.lst (yo++zs)) b=some u->upd (upd H4 N (.lst (yo++zs))) S (.lst (xs++[.ref N])) b=some u:=fun b u ne e=>by rw[Ag ne];!e
   r⟨_,_,rfl,fun b u ne e=>k7 _ _ ne (s6 _ _ (sm b u ne e)),Ab,?_⟩;rw[take_snoc hr',Fv];unfold addRow;r Paired.app (Paired.imp (fun a v h=>PN k7 eS6 (PN (fun b u _ e=>s6 b u e) eS3 h)) pS) (Paired.one ⟨N,_,rfl,hN0,neN,k7 _ _ neN Ab,?_⟩);h t7:=tsX k7 eS6;!Gn t7 (Gn s5.ts (Paired.app (Gn s4.ts po) pz))
 ·rintro σ H3 ⟨o,xs,rfl,sm,eS3,pS⟩
  h tr:rows.take ys.length=rows:=by rw[<- lx,List.take_length]
  rw[tr] at pS;h hV3:SvAt K C H3 p n rows hd:=by
   r SvAt.same hV fun b u e=>sm b u (Ae e hSn) (s2 _ _ (s0 b u e))
  h sH:Same H H3:=fun b u e=>sm b u (Ae e hSn) (s2 _ _ (s0 b u e));r⟨_,rfl,_,rfl,p,dx,_,rfl,sH _ _ hp,Ck _ _ _ £ £ £,p,n,hd,rows,rfl,hV3,?_⟩;h kl:hd<(setsUp rows).length:=by rw[Dg];!kn
  o⟨v,h1,L,zs,rfl,L0',LS,eL,pL⟩:=Paired.getL pS (± kl);r⟨S,_,_,_,rfl,rfl,SqL.of eS3,Bp h1,q L zs H3 sH L0' eL ?_⟩;unfold setsOf;rw[¯,± kl];!pL
end
end K42s
end
section
namespace G
def restW(st:StO)(p:Nat):List Nat:=(List.range st.length).filter fun q=>decide (st.getD q none=st.getD p none/\q≠p)
def dropW(st:StO)(p:Nat):StO:=((List.range st.length).map fun q=>if q∈restW st p then some (((restW st p).headD 0:Nat):Int) else st.getD q none).set p none
def joinW(st:StO)(i j:Int):StO:=st.map fun h=>if h=some i\/h=some j then some (min i j) else h
def takeW(st:StO)(a b:Nat):Option StO:=if st.getD a none=st.getD b none then none else match st.getD a none,st.getD b none with
 | some i,some j=>some (joinW st i j)
 | _,_=>none
def mergeL(lab:Nat->Int)(a b:Nat):Nat->Int:=fun q=>if lab q=max (lab a) (lab b) then min (lab a) (lab b) else lab q
structure WdR(z:Nat)(U:Nat->Prop)(st:StO)(lab:Nat->Int):Prop where
 len:st.length=z
 hd:∀ p,p<z->U p->∃ h:Nat,st.getD p none=some (h:Int)/\h<z/\st.getD h none=some (h:Int)
 no:∀ p,p<z->¬ U p->st.getD p none=none
 eq:∀ p q,p<z->q<z->U p->U q->(st.getD p none=st.getD q none↔lab p=lab q)
theorem FP{st:StO}{p q:Nat}:q∈restW st p↔q<st.length/\st.getD q none=st.getD p none/\q≠p:=by
 unfold restW;rw[List.mem_filter,List.mem_range,decide_eq_true_iff]
theorem FJ{z q:Nat}{f:Nat->Option Int}(h:q<z):((List.range z).map f).getD q none=f q:=by
 rw[¯,┉,List.getElem?_range h];rfl
theorem Mh(st:StO)(p:Nat):(dropW st p).length=st.length:=by
 unfold dropW;rw[List.length_set,─,List.length_range]
theorem Kr{st:StO}{p q:Nat}(hq:q<st.length):(dropW st p).getD q none=if q=p then none else if q∈restW st p then some (((restW st p).headD 0:Nat):Int) else st.getD q none:=by
 unfold dropW;by_cases c:q=p
 ·subst c
  rw[VL,if_pos (by rw[─,List.length_range];!hq),if_pos rfl]
 ·rw[Yu _ _ _ _ c,FJ hq,if_neg c]
theorem head_mem{l:List Nat}{x:Nat}(h:x∈l):l.headD 0∈l:=by
 cases l with
 | nil=>cases h
 | cons y l=>!´
theorem WdR.drop{z:Nat}{U:Nat->Prop}{st:StO}{lab:Nat->Int}{p:Nat}(W:WdR z U st lab)(pz:p<z)(up:U p):WdR z (fun q=>U q/\q≠p) (dropW st p) lab:=by
 h L:=W.len;o⟨hp,ep,hpz,ehp⟩:=W.hd p pz up;h inU:∀ q,q<z->st.getD q none≠none->¬ ¬ U q:=fun q qz h n=>h (W.no q qz n);h inR:∀ q,q∈restW st p->(dropW st p).getD q none=some (((restW st p).headD 0:Nat):Int):=fun q hq=>by
  o⟨h1,_,h3⟩:=FP.mp hq;rw[Kr h1,if_neg h3,if_pos hq]
 h outR:∀ q,q<z->q≠p->q∉restW st p->(dropW st p).getD q none=st.getD q none:=fun q qz qp hq=>by
  rw[Kr ¢,if_neg qp,if_neg hq]
 h cls:∀ q,q<z->q≠p->(q∈restW st p↔st.getD q none=st.getD p none):=fun q qz qp=>by
  rw[FP];!⟨fun h=>h.2.1,fun h=>⟨by w,h,qp⟩⟩
 r⟨by rw[Mh];!L,fun q qz hq=>?_,fun q qz hq=>?_,fun q r qz rz hq hr=>?_⟩
 ·by_cases c:q∈restW st p
  ·h h0:=head_mem c
   o⟨k1,k2,k3⟩:=FP.mp h0;!⟨_,inR q c,by w,inR _ h0⟩
  ·o⟨h,e1,hz,e2⟩:=W.hd q qz hq.1
   h np:st.getD q none≠st.getD p none:=fun e=>c ((cls q qz hq.2).mpr e);h hp':h≠p:=fun e=>np (by rw[e1,<- e2,e]);h hr':h∉restW st p:=fun m=>np (by rw[e1,<- e2];!((cls h hz hp').mp m));!⟨h,by rw[outR q qz hq.2 c,e1],hz,by rw[outR h hz hp' hr',e2]⟩
 ·by_cases c:q=p
  ·rw[Kr ¢,if_pos c]
  ·h nu:¬ U q:=fun u=>hq ⟨u,c⟩
   h e:=W.no q qz nu;h nr:q∉restW st p:=fun m=>by
    have:=(cls q qz c).mp m;rw[e,ep] at this;cases this
   rw[outR q qz c nr,e]
 ·rw[<- W.eq q r qz rz hq.1 hr.1]
  by_cases c1:q∈restW st p<;>by_cases c2:r∈restW st p
  ·rw[inR q c1,inR r c2,(cls q qz hq.2).mp c1,(cls r rz hr.2).mp c2]
   !⟨fun _=>rfl,fun _=>rfl⟩
  ·h h0:=head_mem c1
   o⟨k1,k2,k3⟩:=FP.mp h0;rw[inR q c1,outR r rz hr.2 c2,(cls q qz hq.2).mp c1];o⟨h,e1,hz,e2⟩:=W.hd r rz hr.1;constructor
   ·intro e
    rw[e1] at e;have:(restW st p).headD 0=h:=by injection e with e;w
    rw[e1,<- e2,<- this,k2]
   ·intro e
    !absurd ((cls r rz hr.2).mpr e.symm) c2
  ·h h0:=head_mem c2
   o⟨k1,k2,k3⟩:=FP.mp h0;rw[inR r c2,outR q qz hq.2 c1,(cls r rz hr.2).mp c2];o⟨h,e1,hz,e2⟩:=W.hd q qz hq.1;constructor
   ·intro e
    rw[e1] at e;have:h=(restW st p).headD 0:=by injection e with e;w
    rw[e1,<- e2,this,k2]
   ·intro e
    !absurd ((cls q qz hq.2).mpr e) c1
  ·rw[outR q qz hq.2 c1,outR r rz hr.2 c2]
theorem Ei(st:StO)(i j:Int)(q:Nat):(joinW st i j).getD q none=if st.getD q none=some i\/st.getD q none=some j then some (min i j) else st.getD q none:=by
 unfold joinW;rw[¯,┉,¯];cases e:st[q]? with
 | none =>
  show none=_;rw[show (none:Option (Option Int)).getD none=none from rfl,if_neg (by rintro (h | h)<;>cases h)]
 | some h=>rfl
theorem WdR.join{z:Nat}{U:Nat->Prop}{st:StO}{lab:Nat->Int}{a b:Nat}(W:WdR z U st lab)(az:a<z)(bz:b<z)(ua:U a)(ub:U b)(ne:lab a≠lab b) :
  ∃ st',takeW st a b=some st'/\WdR z U st' (mergeL lab a b):=by
 o⟨i,ea,iz,ei⟩:=W.hd a az ua;o⟨j,eb,jz,ej⟩:=W.hd b bz ub;h nab:st.getD a none≠st.getD b none:=fun e=>ne ((W.eq a b az bz ua ub).mp e);r⟨joinW st i j,?_,?_⟩
 ·unfold takeW
  rw[if_neg nab,ea,eb]
 h inI:∀ q,q<z->U q->((st.getD q none=some (i:Int)\/st.getD q none=some (j:Int))↔(lab q=lab a\/lab q=lab b)):=fun q qz uq=>by
  rw[<- ea,<- eb,W.eq q a qz az uq ua,W.eq q b qz bz uq ub]
 h mij:min (i:Int) j=(i:Int)\/min (i:Int) j=(j:Int):=by w
 r⟨by unfold joinW;rw[─];!W.len,fun q qz uq=>?_,fun q qz nq=>?_,fun q r qz rz uq ur=>?_⟩
 ·rw[Ei]
  by_cases c:st.getD q none=some (i:Int)\/st.getD q none=some (j:Int)
  ·rw[if_pos c]
   rcases mij with m | m
   ·!⟨i,by rw[m],iz,by rw[Ei,ei,if_pos (.inl rfl),m]⟩
   ·!⟨j,by rw[m],jz,by rw[Ei,ej,if_pos (.inr rfl),m]⟩
  ·rw[if_neg c]
   o⟨h,e1,hz,e2⟩:=W.hd q qz uq;!⟨h,e1,hz,by rw[Ei,e2,<- e1,if_neg c]⟩
 ·rw[Ei,W.no q qz nq,if_neg (by rintro (h | h)<;>cases h)]
 ·rw[Ei,Ei]
  h Eq:=W.eq q r qz rz uq ur;h Iq:=inI q qz uq;h Ir:=inI r rz ur;unfold mergeL;h nin:∀ x,x<z->U x->¬ (st.getD x none=some (i:Int)\/st.getD x none=some (j:Int))->some (min (i:Int) j)≠st.getD x none:=fun x xz ux n e=>n (by rcases mij with m | m<;>rw[m] at e<;>rw[<- e]<;>simp);by_cases c1:st.getD q none=some (i:Int)\/st.getD q none=some (j:Int)<;>by_cases c2:st.getD r none=some (i:Int)\/st.getD r none=some (j:Int)
  ·rw[if_pos c1,if_pos c2]
   h h1:=Iq.mp c1;h h2:=Ir.mp c2;r⟨fun _=>?_,fun _=>rfl⟩;split<;>split<;>w
  ·rw[if_pos c1,if_neg c2]
   h h1:=Iq.mp c1;h h2:¬ (lab r=lab a\/lab r=lab b):=fun h=>c2 (Ir.mpr h);r⟨fun e=>absurd e (nin r rz ur c2),fun e=>absurd e ?_⟩;split<;>split<;>w
  ·rw[if_neg c1,if_pos c2]
   h h1:=Ir.mp c2;h h2:¬ (lab q=lab a\/lab q=lab b):=fun h=>c1 (Iq.mpr h);r⟨fun e=>absurd e.symm (nin q qz uq c1),fun e=>absurd e ?_⟩;split<;>split<;>w
  ·rw[if_neg c1,if_neg c2,Eq]
   h h1:¬ (lab q=lab a\/lab q=lab b):=fun h=>c1 (Iq.mpr h);h h2:¬ (lab r=lab a\/lab r=lab b):=fun h=>c2 (Ir.mpr h);rw[if_neg ¢,if_neg ¢]
theorem WdR.ring{z:Nat}{U:Nat->Prop}{st:StO}{lab:Nat->Int}{a b:Nat}(W:WdR z U st lab)(az:a<z)(bz:b<z)(ua:U a)(ub:U b)(e:lab a=lab b):takeW st a b=none:=by
 unfold takeW;rw[if_pos ((W.eq a b az bz ua ub).mpr e)]
def acyc(ea eb:Nat->Nat):(Nat->Int)->List Nat->Bool
 | _,[]=>true
 | lab,x::xs=>!decide (lab (ea x)=lab (eb x))&&acyc ea eb (mergeL lab (ea x) (eb x)) xs
def passW:StO->List Nat->StO
 | st,[]=>st
 | st,p::ps=>passW (dropW st p) ps
theorem WdR.congr{z:Nat}{U U':Nat->Prop}{st:StO}{lab:Nat->Int}(W:WdR z U st lab)(h:∀ p,p<z->(U p↔U' p)):WdR z U' st lab :=
 ⟨W.len,fun p pz u=>W.hd p pz ((h p pz).mpr u),fun p pz u=>W.no p pz fun v=>u ((h p pz).mp v),fun p q pz qz u v=>W.eq p q pz qz ((h p pz).mpr u) ((h q qz).mpr v)⟩
theorem WdR.pass{z:Nat}{lab:Nat->Int}:∀(ps:List Nat) {U:Nat->Prop}{st:StO},WdR z U st lab->ps.Nodup->(∀ p∈ps,p<z/\U p)->WdR z (fun q=>U q/\q∉ps) (passW st ps) lab
 | [],U,st,W,_,_=>W.congr fun p _=>⟨fun h=>⟨h,by simp⟩,fun h=>h.1⟩
 | p::ps,U,st,W,nd,h=>by
  o⟨n1,n2⟩:=List.nodup_cons.mp nd;o⟨pz,up⟩:=h p ´;have:=WdR.pass ps (W.drop pz up) n2 fun q hq=>⟨(h q (¶ _ hq)).1,(h q (¶ _ hq)).2,fun e=>n1 (e ▸ hq)⟩;r this.congr fun q qz=>?_;rw[List.mem_cons,not_or];!⟨fun⟨⟨a,b⟩,c⟩=>⟨a,b,c⟩,fun⟨a,b,c⟩=>⟨⟨a,b⟩,c⟩⟩
theorem ABk{z n:Nat}{ea eb L:Nat->Nat}(hz:∀ x,x<n->ea x<z/\eb x<z/\x<L (ea x)/\x<L (eb x)):∀(d t:Nat) (st:StO) (lab:Nat->Int) (s:List Nat),t+d=n->WdR z (fun p=>t<=L p) st lab->s.Pairwise (· < ·)->(∀ x∈s,t<=x/\x<n) ->
  semO (fun _ st=>some st) (fun t st=>takeW st (ea t) (eb t)) (fun t st=>some (passW st ((List.range z).filter fun p=>decide (L p=t)))) (fun _=>true) d t (some st) s=acyc ea eb lab s:=by
 intro d
 induction d with
 | zero =>
  intro t st lab s e W pw hs;cases s with
  | nil=>rfl
  | cons x xs =>
   have:=hs x ´;w
 | succ d ih =>
  intro t st lab s e W pw hs;h W2:WdR z (fun p=>t+1<=L p) (passW st ((List.range z).filter fun p=>decide (L p=t))) lab:=by
   r(W.pass _ ?_ fun p hp=>?_).congr fun p pz=>?_
   ·!(List.nodup_range).filter _
   ·o⟨h1,h2⟩:=List.mem_filter.mp hp
    !⟨List.mem_range.mp h1,by have:=of_decide_eq_true h2;w⟩
   ·rw[List.mem_filter,List.mem_range,decide_eq_true_iff]
    constructor
    ·rintro⟨h1,h2⟩
     have:¬ L p=t:=fun e=>h2 ⟨pz,e⟩;w
    ·intro h
     !⟨by w,fun h2=>by w⟩
  show stepO (fun _ st=>some st) (fun t st=>takeW st (ea t) (eb t)) t (semO (fun _ st=>some st) (fun t st=>takeW st (ea t) (eb t)) (fun t st=>some (passW st ((List.range z).filter fun p=>decide (L p=t)))) (fun _=>true) d (t+1)) (passW st ((List.range z).filter fun p=>decide (L p=t))) s=_;generalize passW st ((List.range z).filter fun p=>decide (L p=t))=st2 at W2 ⊢;cases s with
  | nil=>!ih (t+1) st2 lab [] ¢ W2 .nil fun x hx=>by cases hx
  | cons x xs =>
   o⟨p1,p2⟩:=List.pairwise_cons.mp pw;o⟨x1,x2⟩:=hs x ´;h hs':∀ y∈xs,x+1<=y/\y<n:=fun y hy=>⟨p1 y hy,(hs y (¶ _ hy)).2⟩;show (if x<t then false else if x=t then semO (fun _ st=>some st) (fun t st=>takeW st (ea t) (eb t)) (fun t st=>some (passW st ((List.range z).filter fun p=>decide (L p=t)))) (fun _=>true) d (t+1) (takeW st2 (ea t) (eb t)) xs else semO (fun _ st=>some st) (fun t st=>takeW st (ea t) (eb t)) (fun t st=>some (passW st ((List.range z).filter fun p=>decide (L p=t)))) (fun _=>true) d (t+1) (some st2) (x::xs))=_;rw[if_neg ¢];by_cases c:x=t
   ·subst c
    rw[if_pos rfl];o⟨az,bz,la,lb⟩:=hz x x2;by_cases ce:lab (ea x)=lab (eb x)
    ·rw[W2.ring az bz la lb ce]
     show _=(!decide (lab (ea x)=lab (eb x))&&_);rw[decide_eq_true ce];cases d<;>rfl
    ·o⟨st3,e3,W3⟩:=W2.join az bz la lb ce
     rw[e3,ih (x+1) st3 _ xs ¢ W3 p2 hs'];show _=(!decide (lab (ea x)=lab (eb x))&&_);rw[decide_eq_false ce];rfl
   ·rw[if_neg c]
    r ih (t+1) st2 lab (x::xs) ¢ W2 pw fun y hy=>?_;rcases ┃ hy with rfl | hy
    ·w
    ·have:=hs' y hy
     w
theorem Mj(z:Nat)(L:Nat->Nat):WdR z (fun p=>0<=L p) ((List.range z).map fun p=>some ((p:Nat):Int)) (fun p=>(p:Int)):=by
 r⟨by rw[─,List.length_range],fun p pz _=>⟨p,FJ pz,pz,FJ pz⟩,fun p pz h=>absurd (Nat.zero_le _) h,fun p q pz qz _ _=>?_⟩;rw[FJ pz,FJ qz];!⟨fun e=>by injection e,fun e=>by rw[e]⟩
def Dst(z:Nat)(lab:Nat->Int)(k:Nat):Prop:=∃ us:List Int,us.Nodup/\(∀ x,x∈us↔∃ p,p<z/\lab p=x)/\us.length=k
def finL(ea eb:Nat->Nat):(Nat->Int)->List Nat->Nat->Int
 | lab,[]=>lab
 | lab,x::xs=>finL ea eb (mergeL lab (ea x) (eb x)) xs
theorem Ue{lab:Nat->Int}{a b:Nat}(e:lab a=lab b):mergeL lab a b=lab:=by
 funext q
 unfold mergeL;split<;>w
theorem Dst.one{z:Nat}{lab:Nat->Int}{k:Nat}{a b:Nat}(D:Dst z lab k)(az:a<z)(bz:b<z)(ne:lab a≠lab b):1<=k/\Dst z (mergeL lab a b) (k-1):=by
 o⟨us,nd,mem,len⟩:=D;h hm:max (lab a) (lab b)∈us:=(mem _).mpr (by
  rcases (show max (lab a) (lab b)=lab a\/max (lab a) (lab b)=lab b by w) with e | e
  ·!⟨a,az,e.symm⟩
  ·!⟨b,bz,e.symm⟩)
 h lo:∃ p,p<z/\lab p=min (lab a) (lab b):=by
  rcases (show min (lab a) (lab b)=lab a\/min (lab a) (lab b)=lab b by w) with e | e
  ·!⟨a,az,e.symm⟩
  ·!⟨b,bz,e.symm⟩
 h pos:=List.length_pos_of_mem hm;r⟨by w,us.erase (max (lab a) (lab b)),nd.erase _,fun x=>?_,by rw[List.length_erase_of_mem hm,len]⟩;rw[nd.mem_erase_iff,mem];unfold mergeL;constructor
 ·rintro⟨n,p,pz,e⟩
  !⟨p,pz,by rw[if_neg ¢];!e⟩
 ·rintro⟨p,pz,e⟩
  split at e
  ·o⟨q,qz,eq⟩:=lo
   !⟨by w,q,qz,by w⟩
  ·!⟨by w,p,pz,e⟩
theorem Dst.same{z:Nat}{lab:Nat->Int}{k k':Nat}(h:Dst z lab k)(h':Dst z lab k'):k=k':=by
 o⟨us,nd,mem,len⟩:=h;o⟨us',nd',mem',len'⟩:=h';h a:=nd.length_le_of_subset (l₂:=us') fun x hx=>(mem' x).mpr ((mem x).mp hx);h b:=nd'.length_le_of_subset (l₂:=us) fun x hx=>(mem x).mpr ((mem' x).mp hx);w
theorem Yq(z:Nat):Dst z (fun p=>(p:Int)) z:=by
 r⟨(List.range z).map fun p=>((p:Nat):Int),?_,fun x=>?_,by rw[─,List.length_range]⟩
 ·r List.Pairwise.map _ (fun a b h=>?_) List.nodup_range
  w
 ·rw[List.mem_map]
  !⟨fun⟨p,h,e⟩=>⟨p,List.mem_range.mp h,e⟩,fun⟨p,h,e⟩=>⟨p,List.mem_range.mpr h,e⟩⟩
theorem HY{z:Nat}{ea eb:Nat->Nat}:∀(s:List Nat) (lab:Nat->Int) (k:Nat),Dst z lab k->(∀ x∈s,ea x<z/\eb x<z)->∃ k',Dst z (finL ea eb lab s) k'/\k'<=k/\k<=k'+s.length/\(acyc ea eb lab s=true↔k=k'+s.length)
 | [],lab,k,D,_=>⟨k,D,Nat.le_refl _,Nat.le_refl _,⟨fun _=>rfl,fun _=>rfl⟩⟩
 | x::xs,lab,k,D,h=>by
  o⟨az,bz⟩:=h x ´;h h':=fun y hy=>h y (¶ _ hy);by_cases c:lab (ea x)=lab (eb x)
  ·o⟨k',d,l1,l2,i⟩:=HY xs lab k D h'
   r⟨k',by show Dst z (finL ea eb (mergeL lab (ea x) (eb x)) xs) k';rw[Ue c];!d,l1,by rw[List.length_cons];w,?_⟩;show (!decide (lab (ea x)=lab (eb x))&&_)=true↔_;rw[decide_eq_true c,List.length_cons];!⟨fun h0=>(by cases h0),fun h0=>¢⟩
  ·o⟨k1,D1⟩:=D.one az bz c
   o⟨k',d,l1,l2,i⟩:=HY xs _ _ D1 h';r⟨k',d,by w,by rw[List.length_cons];w,?_⟩;show (!decide (lab (ea x)=lab (eb x))&&_)=true↔_;rw[decide_eq_false c,List.length_cons];show (acyc ea eb (mergeL lab (ea x) (eb x)) xs)=true↔_;rw[i];w
end G
end
section
namespace K42
open PySem L2 G
structure Gro(K:¨)(mg:Str->Option Value)(Gc:Addr):Prop where
 cl:Cls K Gc
 mgG:mg "Growth" = some (.ref Gc)
 nW:NoAttr K Gc "web"
 nU:NoAttr K Gc "rule"
 nA:NoAttr K Gc "amount"
 nB:NoAttr K Gc "behind"
 nR:NoAttr K Gc "rows"
 nK:NoAttr K Gc "known"
def gf(W r:Addr)(n:Int)(Bh R D:Addr):List (Str×V):=putF "known" (.ref D) (putF "rows" (.ref R) (putF "behind" (.ref Bh) (putF "amount" (.int n) (putF "rule" (.ref r) (putF "web" (.ref W) [])))))
section
variable (W r Bh R D:Addr)(n:Int)
theorem Ks:(gf W r n Bh R D).lookup ("known" : Str)=some (.ref D):=by unfold gf;rw[Ai,if_pos rfl]
theorem Qq:(gf W r n Bh R D).lookup ("rows" : Str)=some (.ref R):=by unfold gf;rw[Ai,if_neg £,Ai,if_pos rfl]
theorem Yk:(gf W r n Bh R D).lookup ("behind" : Str)=some (.ref Bh):=by unfold gf;rw[Ai,if_neg £,Ai,if_neg £,Ai,if_pos rfl]
theorem Oa:(gf W r n Bh R D).lookup ("amount" : Str)=some (.int n):=by unfold gf;rw[Ai,if_neg £,Ai,if_neg £,Ai,if_neg £,Ai,if_pos rfl]
theorem Js:(gf W r n Bh R D).lookup ("rule" : Str)=some (.ref r):=by unfold gf;rw[Ai,if_neg £,Ai,if_neg £,Ai,if_neg £,Ai,if_neg £,Ai,if_pos rfl]
theorem Qm:(gf W r n Bh R D).lookup ("web" : Str)=some (.ref W):=by unfold gf;rw[Ai,if_neg £,Ai,if_neg £,Ai,if_neg £,Ai,if_neg £,Ai,if_neg £,Ai,if_pos rfl]
theorem XC{m:Str}(h1:¬ m = "known")(h2:¬ m = "rows")(h3:¬ m = "behind")(h4:¬ m = "amount")(h5:¬ m = "rule")(h6:¬ m = "web"):(gf W r n Bh R D).lookup m=none:=by
 unfold gf;rw[Ai,if_neg h1,Ai,if_neg h2,Ai,if_neg h3,Ai,if_neg h4,Ai,if_neg h5,Ai,if_neg h6]
 all_goals rfl
end
structure Wr where
 ps:StO->Nat->Option StO
 tk:StO->Nat->Nat->Option StO
 fu:StO->Bool
 pre:StO->Nat->Nat->Prop
 vld:Nat->StO->Prop
def passU(u:Wr):StO->List Nat->Option StO
 | st,[]=>some st
 | st,p::ps=>(u.ps st p).bind fun s=>passU u s ps
theorem Nk(u:Wr):∀(ps qs:List Nat) (st:StO),passU u st (ps++qs)=(passU u st ps).bind fun s=>passU u s qs
 | [],qs,st=>rfl
 | p::ps,qs,st=>by
  show (u.ps st p).bind _=((u.ps st p).bind _).bind _;cases u.ps st p with
  | none=>rfl
  | some s=>!Nk u ps qs s
structure Gr(K:¨)(C Dc Gc:Addr)(g W r Bh R D:Addr)(z:Nat)(bs:List ⑤)(H:Hp):Prop where
 ins:∃ dx,H g=some (.ins Gc dx (gf W r bs.length Bh R D))
 web:WebAt K C H W z bs
 rul:∃ dx,H r=some (.ins Dc dx [])
 beh:∃ ys,H Bh=some (.lst ys)/\Bh≠R/\Paired (fun t v=>∃ l,v=.ref l/\l≠R/\H l=some (.lst (nI (behP bs z t)))) (List.range (bs.length+1)) ys
section
variable{K:¨}{C Dc Gc g W r Bh R D:Addr}{z:Nat}{bs:List ⑤}{H H':Hp}{xs:List V}{φ:Heap->Prop}
theorem tsRD(e:∀ b o,b≠R->b≠D->H b=some o->H' b=some o)(hR:H R=some (.lst xs))(hD:H D=some (.ext φ)):TSm H H':=fun b u hb t=>by
 h ne:∀{x:Addr}{o:HO},H x=some o->(∀ ys,o≠.tup ys)->(∀ q ys,o≠.frz q (.tup ys))->b≠x:=fun {x o} hx h1 h2 zz=>by
  rw[zz,hx] at hb;cases hb;o⟨ys,e | ⟨q,e⟩⟩:=t
  ·!h1 ys e
  ·!h2 q ys e
 !e b u (ne hR (by intro _ z;cases z) (by intro _ _ z;cases z)) (ne hD (by intro _ z;cases z) (by intro _ _ z;cases z)) hb
theorem Gr.keep(h:Gr K C Dc Gc g W r Bh R D z bs H)(e:∀ b o,b≠R->b≠D->H b=some o->H' b=some o)(hR:H R=some (.lst xs))(hD:H D=some (.ext φ)):Gr K C Dc Gc g W r Bh R D z bs H':=by
 h ts:=tsRD e hR hD;h ni:∀{x c dx:Addr}{fs:List (Str×V)},H x=some (.ins c dx fs)->H' x=some (.ins c dx fs):=fun {x c dx fs} hx=>e _ _ (Cq hx hR (by intro z;cases z)) (Cq hx hD (by intro z;cases z)) hx;h nl:∀{x:Addr}{l:List V},x≠R->H x=some (.lst l)->H' x=some (.lst l):=fun {x l} hn hx=>e _ _ hn (Cq hx hD (by intro z;cases z)) hx;o⟨d1,i1⟩:=h.ins;o⟨d2,j,i2,i3⟩:=h.web;o⟨d3,i4⟩:=h.rul;o⟨ys,b1,b2,b3⟩:=h.beh;!⟨⟨d1,ni i1⟩,⟨d2,j,ni i2,Ak (Ak Ao) _ _ _ _ ts i3⟩,⟨d3,ni i4⟩,⟨ys,nl b2 b1,b2,Paired.imp (fun t v ⟨l,c1,c2,c3⟩=>⟨l,c1,c2,nl c2 c3⟩) b3⟩⟩
theorem Gr.same(h:Gr K C Dc Gc g W r Bh R D z bs H)(e:Same H H'):Gr K C Dc Gc g W r Bh R D z bs H':=by
 o⟨d1,i1⟩:=h.ins;o⟨d3,i4⟩:=h.rul;o⟨ys,b1,b2,b3⟩:=h.beh;!⟨⟨d1,e _ _ i1⟩,h.web.same e,⟨d3,e _ _ i4⟩,⟨ys,e _ _ b1,b2,Paired.imp (fun t v ⟨l,c1,c2,c3⟩=>⟨l,c1,c2,e _ _ c3⟩) b3⟩⟩
end
def StAt(K:¨)(H:Hp)(b:Addr)(st:StO):Prop:=SqT K H b (st.map oV)
def RS(u:Wr)(K:¨)(z:Nat)(H:Hp)(v:V):Option StO->Prop
 | none=>v=.non
 | some st=>∃ b,v=.ref b/\StAt K H b st/\u.vld z st
def Sg(u:Wr)(K:¨)(D:Addr):Sp:=fun vs H Q _=>∃(p:V) (b dx a:Addr) (q z:Nat) (st:StO),vs=[.ref a,p,.ref b,.int q]/\H a=some (.ins D dx [])/\StAt K H b st/\u.vld z st/\q<z/\z<=10 /\
 ∀(v':V) (H':Hp),Same H H'->RS u K z H' v' (u.ps st q)->Q v' H'
def Um(u:Wr)(K:¨)(C Dc Gc:Addr):Sp:=fun vs H Q _=>∃(g W r Bh R D:Addr) (z t:Nat) (bs:List ⑤) (v:V) (o:Option StO),vs=[.ref g,.int t,v]/\Gr K C Dc Gc g W r Bh R D z bs H/\z<=10/\t<=bs.length/\RS u K z H v o /\
 ∀(v':V) (H':Hp),Same H H'->RS u K z H' v' (o.bind fun r=>passU u r (behP bs z t))->Q v' H'
section
variable{u:Wr}{P:Program}{w:World}{K:¨}{mg:Str->Option Value}{base:Heap}{f C D Gc:Addr}{fd:FuncData}
theorem Ql:FnScope ["self","number","reached","state","point"] ["self","number","reached"] (Ac Ou):=¡
theorem ADG{fP:Addr}{fdP:FuncData}(F:Fun K "past_points" "Growth.past_points" Ou f fd)(cD:Cls K D)(O:Gro K mg Gc)(GP:FnOk P w K mg base CX0 3 fP fdP ["self","web","state","point"] (Sg u K D))(bP:Binds K fdP ["self","web","state","point"] [])(mP:Meth K D "passed" fP) :
  FnOk P w K mg base CX0 4 f fd ["self","number","reached"] (Um u K C D Gc):=by
 r F.ok Ql § ¦
 ·o⟨g,W,r,Bh,R,Dk,z,t,bs,v,o,rfl,_⟩:=h
  rfl
 o⟨g,W,r,Bh,R,Dk,z,t,bs,v,o,rfl,gr,z10,tb,rs,q⟩:=h;r⟨_,Af (Ay (i:=3) Ql.nd rfl ④ (pv 2))
  (Af (DW PassesOwn.never rfl (CK (BK Bl ⑲ (pv 1) (fun _ _=>rfl))) (Av (i:=4) Ql.nd rfl ④)
   (Aj (CZ (Ka (ACy (pv 3))) (Aj (Ay (i:=3) Ql.nd rfl ④ (Dl ⑲ cD mP GP hr bP .nil pass0 (Aa ⑲ (Aa (pv 3) (Aa (pv 4) Ad)))))) Bd)))
  (Aj (Az (pv 3)))),?_⟩
 o⟨dg,hg⟩:=gr.ins;o⟨dr,hr0⟩:=gr.rul;o⟨ys,hB,_,pB⟩:=gr.beh;h lB:=┅ pB;rw[List.length_range] at lB;h tl:t<ys.length:=by w
 o⟨t',ht',l,el,_,hl⟩:=Paired.get pB (± tl);h et:t'=t:=by
  have:=(━ ht').2;rw[List.getElem_range] at this;!this.symm
 subst et;h hat:atI ys (t':Int)=some (.ref l):=by
  rw[<- el];!Bp (± tl)
 r⟨_,rfl,?_⟩;r⟨_,rfl,g,Gc,dg,_,_,rfl,hg,O.cl,O.nB,Yk _ _ _ _ _ _,_,rfl,Bh,ys,_,_,rfl,rfl,SqL.of hB,hat,l,rfl,⟨_,SqL.of hl⟩,?_⟩;r Ed (K:=K) (a:=l) (xs:=nI (behP bs z t')) (fun i σ H2=>∃(v':V) (o4:Option V),σ=[some (.ref g),some (.int t'),some v,some v',o4]/\Same H H2/\RS u K z H2 v' (o.bind fun r=>passU u r ((behP bs z t').take i)))
  ⟨v,none,rfl,Same.refl _,by
   h e:(o.bind fun r=>passU u r ((behP bs z t').take 0))=o:=by cases o<;>rfl
   rw[e];!rs⟩ (fun i σ H2 _ ⟨_,_,_,s2,_⟩=>s2.seq (SqL.of hl)) ?_ ?_
 ·rintro i x σ H2 hx ⟨v',o4,rfl,s2,rs2⟩
  o⟨pt,hp,rfl⟩:=ABx hx;h pz:pt<z:=List.mem_range.mp (List.mem_filter.mp (┈ hp)).1;h step:(o.bind fun r=>passU u r ((behP bs z t').take (i+1)))=(o.bind fun r=>passU u r ((behP bs z t').take i)).bind fun s=>u.ps s pt:=by
   cases o with
   | none=>rfl
   | some r =>
    show passU u r _=(passU u r _).bind _;rw[List.take_add_one,hp];show passU u r (_++[pt])=_;rw[Nk u]
    congr 1
    funext s
    show (u.ps s pt).bind (fun s=>some s)=_;cases u.ps s pt<;>rfl
  cases e:(o.bind fun r=>passU u r ((behP bs z t').take i)) with
  | none =>
   rw[e] at rs2 step;cases rs2;r⟨_,rfl,_,rfl,iteF ⟨.non,_,rfl,s2,?_⟩⟩;rw[step];!rfl
  | some st =>
   rw[e] at rs2 step;o⟨b,rfl,hb,sl⟩:=rs2;r⟨_,rfl,_,rfl,iteT ?_⟩;r⟨_,rfl,g,Gc,dg,_,_,rfl,s2 _ _ hg,O.cl,O.nU,Js _ _ _ _ _ _,r,dr,_,rfl,s2 _ _ hr0,rfl,_,rfl,g,Gc,dg,_,_,rfl,s2 _ _ hg,O.cl,O.nW,Qm _ _ _ _ _ _,_,rfl,_,rfl,.ref W,b,dr,r,pt,z,st,rfl,s2 _ _ hr0,hb,sl,pz,z10,fun v3 H3 s3 rs3=>?_⟩;r⟨_,_,rfl,s2.trans s3,?_⟩;rw[step];!rs3
 ·rintro σ H2 ⟨v',o4,rfl,s2,rs2⟩
  rw[Ds,List.take_length] at rs2;!⟨_,rfl,q v' H2 s2 rs2⟩
end
def ea(bs:List ⑤)(t:Nat):Nat:=((bs.getD t []).getD 0 0).toNat
def eb(bs:List ⑤)(t:Nat):Nat:=((bs.getD t []).getD 1 0).toNat
def OkB(z:Nat)(bs:List ⑤):Prop:=∀ t∈bs,∃ x y:Nat,t=[(x:Int),(y:Int)]/\x<z/\y<z
def lefU(_:Nat)(st:StO):Option StO:=some st
def takU(u:Wr)(bs:List ⑤)(t:Nat)(st:StO):Option StO:=u.tk st (ea bs t) (eb bs t)
abbrev semC(u:Wr)(bs:List ⑤)(z d t:Nat):Option StO->List Nat->Bool:=semO lefU (takU u bs) (fun t r=>passU u r (behP bs z t)) u.fu d t
def Good(u:Wr)(bs:List ⑤)(z:Nat)(G:Nat->Option StO->Prop):Prop:=∀(t:Nat) (o:Option StO) (st:StO),t<bs.length->G t o->(o.bind fun r=>passU u r (behP bs z t))=some st->u.pre st (ea bs t) (eb bs t)/\G (t+1) (some st)/\G (t+1) (takU u bs t st)
abbrev keyC(t:Nat)(st:StO):OKey:=(some (t:Int),st)
theorem TQ{t t':Nat}{st st':StO}(h:keyC t st=keyC t' st'):t=t'/\st=st':=by
 injection h with h1 h2
 injection h1 with h1
 !⟨by w,h2⟩
def Known(u:Wr)(bs:List ⑤)(z:Nat)(rows:List Row)(kvs:List (OKey×V)):Prop:=∀(t:Nat) (st:StO) (v:V),valV kvs (keyC t st)=some v->∃ k:Nat,v=.int k/\t<bs.length/\Lead rows t k (stepO lefU (takU u bs) t (semC u bs z (bs.length-1-t) (t+1)) st)
theorem Known.app{u:Wr}{bs:List ⑤}{z:Nat}{rows more:List Row}{kvs:List (OKey×V)}(o:Ok bs.length rows)(h:Known u bs z rows kvs):Known u bs z (rows++more) kvs:=fun t st v hv=>let ⟨k,e,tl,ld⟩:=h t st v hv;⟨k,e,tl,ld.app o⟩
theorem VH{K:¨}{H:Hp}{x b:Addr}{t:Nat}{st:StO}(hx:H x=some (.tup [.int (t:Int),.ref b]))(hb:StAt K H b st):OAt K H (keyC t st) x:=⟨b,hx,hb⟩
structure Rw(u:Wr)(P:Program)(w:World)(K:¨)(R D:Addr)(bs:List ⑤)(z:Nat)(H:Hp)(rows:List Row)(kvs:List (OKey×V)):Prop where
 at_:∃ xs,H R=some (.lst xs)/\Paired (K42s.rRow K H) rows xs
 dn:DO K P w H D kvs
 ok:Ok bs.length rows
 kn:Known u bs z rows kvs
 len:kvs.length<=rows.length
def Old(t:Nat)(kvs kvs':List (OKey×V)):Prop:=∀(t':Nat) (st:StO),t'<t->valV kvs' (keyC t' st)=valV kvs (keyC t' st)
theorem AAZ{u:Wr}{bs:List ⑤}{z d t:Nat}{o:Option StO}(h:(o.bind fun r=>passU u r (behP bs z t))=none)(s:List Nat):semC u bs z d t o s=false:=by
 cases o with
 | none=>cases d<;>rfl
 | some r =>
  have h':passU u r (behP bs z t)=none:=h;cases d with
  | zero=>show (match passU u r (behP bs z t) with | none=>false | some st=>_)=false;rw[h']
  | succ d=>show (match passU u r (behP bs z t) with | none=>false | some st=>_)=false;rw[h']
theorem Wy{u:Wr}{bs:List ⑤}{z t:Nat}{o:Option StO}{st:StO}(h:(o.bind fun r=>passU u r (behP bs z t))=some st)(s:List Nat):semC u bs z 0 t o s=(u.fu st&&decide (s=[])):=by
 cases o with
 | none=>cases h
 | some r =>
  have h':passU u r (behP bs z t)=some st:=h;show (match passU u r (behP bs z t) with | none=>false | some st=>u.fu st&&decide (s=[]))=_;rw[h']
theorem AAi{u:Wr}{bs:List ⑤}{z d t:Nat}{o:Option StO}{st:StO}(h:(o.bind fun r=>passU u r (behP bs z t))=some st):semC u bs z (d+1) t o=stepO lefU (takU u bs) t (semC u bs z d (t+1)) st:=by
 funext s
 cases o with
 | none=>cases h
 | some r =>
  have h':passU u r (behP bs z t)=some st:=h;show (match passU u r (behP bs z t) with | none=>false | some st=>stepO lefU (takU u bs) t (semC u bs z d (t+1)) st s)=_;rw[h']
def Ur:Sp:=fun vs H Q _=>∃(r p b x:V),vs=[r,p,b,x]/\Q b H
def ABo(u:Wr)(K:¨):Sp:=fun vs H Q _=>∃(r p:V) (b:Addr) (st:StO),vs=[r,p,.ref b]/\StAt K H b st/\Q (.bl (u.fu st)) H
def Pu(u:Wr)(K:¨)(C D:Addr):Sp:=fun vs H Q _=>∃(a p b dx:Addr) (t z:Nat) (bs:List ⑤) (st:StO),vs=[.ref a,.ref p,.ref b,.int t]/\H a=some (.ins D dx [])/\WebAt K C H p z bs/\OkB z bs/\StAt K H b st/\u.vld z st/\u.pre st (ea bs t) (eb bs t)/\t<bs.length/\z<=10 /\
 ∀(v':V) (H':Hp),Same H H'->RS u K z H' v' (takU u bs t st)->Q v' H'
def Kc(u:Wr)(P:Program)(w:World)(K:¨)(C Dc Gc:Addr)(d:Nat):Sp:=fun vs H Q _=>∃(g W r Bh R D:Addr) (z t:Nat) (bs:List ⑤) (v:V) (o:Option StO) (rows:List Row) (kvs:List (OKey×V)) (G:Nat->Option StO->Prop),vs=[.ref g,.int t,v]/\t+d=bs.length/\Gr K C Dc Gc g W r Bh R D z bs H/\1<=z/\z<=10/\bs.length<=12/\OkB z bs/\Good u bs z G/\G t o/\RS u K z H v o/\Rw u P w K R D bs z H rows kvs/\rows.length+2 ^ d<=4100 /\
 ∀(k:Nat) (more:List Row) (kvs':List (OKey×V)) (H':Hp),(∀ b o,b≠R->b≠D->H b=some o->H' b=some o)->Rw u P w K R D bs z H' (rows++more) kvs'->Lead (rows++more) t k (semC u bs z d t o)->Old t kvs kvs'->Cnt t more->more.length+1<=2 ^ d->Q (.int k) H'
section
variable{u:Wr}{P:Program}{w:World}{K:¨}{R D:Addr}{bs:List ⑤}{z:Nat}{H H':Hp}{rows:List Row}{kvs:List (OKey×V)}
theorem Rw.same(h:Rw u P w K R D bs z H rows kvs)(e:Same H H'):Rw u P w K R D bs z H' rows kvs:=by
 o⟨xs,h1,h2⟩:=h.at_;!⟨⟨xs,e _ _ h1,Paired.imp (fun _ _ r=>K42s.Bj _ _ _ _ e.ts r) h2⟩,h.dn.keep (fun o=>e _ o) e.ts,h.ok,h.kn,h.len⟩
end
section
variable{u:Wr}{P:Program}{w:World}{K:¨}{mg:Str->Option Value}{base:Heap}{f C D Gc:Addr}{fd:FuncData}
theorem Ge:FnScope ["self","number","reached","state","without","having"] ["self","number","reached"] (Ac FW):=¡
theorem Ke(d:Nat){fP fL fT fU:Addr}{fdP fdL fdT fdU:FuncData}(F:Fun K "knot_at" "Growth.knot_at" FW f fd)(T:Txt K mg C)(cD:Cls K D)(O:Gro K mg Gc)
  (GP:FnOk P w K mg base CX0 4 fP fdP ["self","number","reached"] (Um u K C D Gc)) (bP:Binds K fdP ["self","number","reached"] []) (mP:Meth K Gc "past_points" fP)
  (GL:FnOk P w K mg base CX0 1 fL fdL ["self","web","state","number"] Ur) (bL:Binds K fdL ["self","web","state","number"] []) (mL:Meth K D "left" fL)
  (GT:FnOk P w K mg base CX0 3 fT fdT ["self","web","state","number"] (Pu u K C D)) (bT:Binds K fdT ["self","web","state","number"] []) (mT:Meth K D "taken" fT)
  (GU:FnOk P w K mg base CX0 1 fU fdU ["self","web","state"] (ABo u K)) (bU:Binds K fdU ["self","web","state"] []) (mU:Meth K D "fulfilled" fU)
  {sp:Sp} (hsp:∀ vs H Q E,d≠0->Kc u P w K C D Gc (d-1) vs H Q E->sp vs H Q E) (GK:FnOk P w K mg base CX0 (d+4) f fd ["self","number","reached"] sp) (bK:Binds K fd ["self","number","reached"] []) (mK:Meth K Gc "knot_at" f) :
  FnOk P w K mg base CX0 (d+5) f fd ["self","number","reached"] (Kc u P w K C D Gc d):=by
 r F.ok Ge § ¦
 ·o⟨g,W,r,Bh,R,Dk,z,t,bs,v,o,rows,kvs,G,rfl,_⟩:=h
  rfl
 o⟨g,W,r,Bh,R,Dk,z,t,bs,v,o,rows,kvs,G,rfl,td,gr,z1,z10,b8,okb,gd,go,rs,rw0,r6,q⟩:=h;h hr1:Room 1 _:=hr.mono ¢;h hr2:Room 2 _:=hr.mono ¢;h hr3:Room 3 _:=hr.mono ¢;h hr4:Room 4 _:=hr.mono ¢;r⟨_,Af (Ay (i:=3) Ge.nd rfl ④ (Dl (pv 0) O.cl mP GP hr4 bP .nil pass0 (Aa (pv 1) (Aa (pv 2) Ad))))
  (Af (CZ (Ka (AEz (pv 3))) (Aj (Az Ah)) Bd)
  (Af (CZ (Ar Cy (pv 1) ⑲ ⑯) (Aj (Az (Hx (Lk (Dl ⑲ cD mU GU hr1 bU .nil pass0 (Aa ⑲ (Aa (pv 3) Ad)))) Ah Ah))) Bd)
  (Wx (CZ (Ka (YB (Cp hr) (Ce (Aa (pv 1) (Aa (pv 3) Ad))) ⑲) rfl)
   (Af (Ay (i:=4) Ge.nd rfl ④ (Dl (pv 0) O.cl mK GK hr bK .nil pass0 (Aa (BW Cw (pv 1) Ah) (Aa (Dl ⑲ cD mL GL hr1 bL .nil pass0 (Aa ⑲ (Aa (pv 3) (Aa (pv 1) Ad)))) Ad))))
   (Af (Ay (i:=5) Ge.nd rfl ④ (Dl (pv 0) O.cl mK GK hr bK .nil pass0 (Aa (BW Cw (pv 1) Ah) (Aa (Dl ⑲ cD mT GT hr3 bT .nil pass0 (Aa ⑲ (Aa (pv 3) (Aa (pv 1) Ad)))) Ad))))
   (Af (DP (Ja PySem.F.plainAttrs_list PySem.F.slot_list_append PySem.F.type_list_append Cz ⑲ (Aa (Ce (Aa (pv 1) (Aa (pv 4) (Aa (pv 5) Ad)))) Ad)))
   (Aj (ADq (Cp hr) ⑲ (Ce (Aa (pv 1) (Aa (pv 3) Ad))) (BW Cw (BJ Aw rfl T.len PySem.boot_len (Aa ⑲ Ad)) Ah) rfl))))) Bd)
  (Aj (Az (ADg (Cp hr) ⑲ (Ce (Aa (pv 1) (Aa (pv 3) Ad))) (fun _ _=>rfl))))))),?_⟩
 o⟨dg,hg⟩:=gr.ins;o⟨dr,hr0⟩:=gr.rul;h p2:1<=2 ^ d:=Nat.one_le_two_pow;r⟨_,rfl,g,dg,_,rfl,hg,XC _ _ _ _ _ _ £ £ £ £ £ £,_,rfl,_,rfl,g,W,r,Bh,R,Dk,z,t,bs,v,o,rfl,gr,z10,by w,rs,fun v' H1 s1 rs1=>?_⟩;h gr1:=gr.same s1;h rw1:=rw0.same s1;h hg1:=s1 _ _ hg;h hr1':=s1 _ _ hr0;cases e:(o.bind fun r=>passU u r (behP bs z t)) with
 | none =>
  rw[e] at rs1;cases rs1;r⟨_,rfl,_,rfl,iteT ?_⟩;!q 0 [] kvs H1 (fun b o _ _ e=>s1 _ _ e) (by rw[List.append_nil];!rw1) (OJ (AAZ e)) (fun _ _ _=>rfl) cnt_nil (by u p2)
 | some st =>
  rw[e] at rs1;o⟨b,rfl,hb,sl⟩:=rs1;r⟨_,rfl,_,rfl,iteF ?_⟩;r⟨_,rfl,_,rfl,g,Gc,dg,_,_,rfl,hg1,O.cl,O.nA,Oa _ _ _ _ _ _,rfl,_,rfl,?_⟩;by_cases d0:d=0
  ·subst d0
   r iteP (by rw[show t=bs.length by w]) ?_;r⟨_,rfl,g,Gc,dg,_,_,rfl,hg1,O.cl,O.nU,Js _ _ _ _ _ _,r,dr,_,rfl,hr1',rfl,_,rfl,g,Gc,dg,_,_,rfl,hg1,O.cl,O.nW,Qm _ _ _ _ _ _,_,rfl,_,_,b,st,rfl,hb,_,rfl,?_⟩;r ite2 (fun c=>?_) (fun c=>?_)
   ·!q 1 [] kvs H1 (fun b o _ _ e=>s1 _ _ e) (by rw[List.append_nil];!rw1) (ABO fun s=>by rw[Wy e,c,Bool.true_and]) (fun _ _ _=>rfl) cnt_nil (by u p2)
   ·!q 0 [] kvs H1 (fun b o _ _ e=>s1 _ _ e) (by rw[List.append_nil];!rw1) (OJ fun s=>by rw[Wy e,(Bool.not_eq_true _).mp c,Bool.false_and]) (fun _ _ _=>rfl) cnt_nil (by u p2)
  ·obtain ⟨d',rfl⟩:∃ d',d=d'+1:=⟨d-1,by w⟩
   h tn:t<bs.length:=by w
   r iteN (fun z=>by injection z with z;w) ?_;h pd:2 ^ (d'+1)=2 ^ d'+2 ^ d':=by rw[Nat.pow_succ];w
   h pd1:1<=2 ^ d':=Nat.one_le_two_pow;r⟨fun σ' H'=>∃(o4 o5:Option V) (k:Nat) (more:List Row) (kvs':List (OKey×V)),σ'=[some (.ref g),some (.int t),some v,some (.ref b),o4,o5]/\(∀ b o,b≠R->b≠Dk->H b=some o->H' b=some o)/\Gr K C D Gc g W r Bh R Dk z bs H'/\Rw u P w K R Dk bs z H' (rows++more) kvs'/\valV kvs' (keyC t st)=some (.int k)/\Lead (rows++more) t k (semC u bs z (d'+1) t o)/\Old t kvs kvs'/\Cnt t more/\more.length+1<=2 ^ (d'+1)/\StAt K H' b st,?_,?_⟩
   ·r⟨_,rfl,_,rfl,(by show 2<=sizeLine;decide),fun x hx=>?_⟩
    h sx:=┊ hx (.tup [.int (t:Int),.ref b]);h hg2:=sx _ _ hg1;h rw2:=rw1.same sx;h gr2:=gr1.same sx;h hb2:StAt K (upd H1 x (.tup [.int (t:Int),.ref b])) b st:=sx.ts.seq hb;r⟨_,rfl,g,Gc,dg,_,_,rfl,hg2,O.cl,O.nK,Ks _ _ _ _ _ _,Dk,valV kvs (keyC t st),rfl,⟨kvs,keyC t st,x,rw2.dn,rfl,VH Ab hb2,rfl⟩,_,rfl,?_⟩;h s2:=s1.trans sx;cases ev:valV kvs (keyC t st) with
    | some v0 =>
     o⟨k,rfl,_,ld⟩:=rw0.kn t st v0 ev;r iteF ⟨_,_,k,[],kvs,rfl,fun b o _ _ e=>s2 _ _ e,gr2,by rw[List.append_nil];!rw2,ev,?_,fun _ _ _=>rfl,cnt_nil,by simp;w,hb2⟩;rw[List.append_nil,AAi e,show d'=bs.length-1-t by w];!ld
    | none =>
     r iteT ?_;h hr2':=sx _ _ hr1';h e1:((t:Int)+1)=((t+1:Nat):Int):=by w
     r⟨_,rfl,g,dg,_,rfl,hg2,XC _ _ _ _ _ _ £ £ £ £ £ £,_,rfl,_,_,rfl,rfl,_,rfl,g,Gc,dg,_,_,rfl,hg2,O.cl,O.nU,Js _ _ _ _ _ _,r,dr,_,rfl,hr2',rfl,_,rfl,g,Gc,dg,_,_,rfl,hg2,O.cl,O.nW,Qm _ _ _ _ _ _,_,rfl,_,rfl,_,_,_,_,rfl,?_⟩;r hsp _ _ _ _ ¢ ⟨g,W,r,Bh,R,Dk,z,t+1,bs,.ref b,some st,rows,kvs,G,congrArg (fun i=>[V.ref g,V.int i,V.ref b]) e1,by w,gr2,z1,z10,b8,okb,gd,(gd t o st tn go e).2.1,⟨b,rfl,hb2,sl⟩,rw2,by rw[Nat.add_sub_cancel];w,fun k1 more1 kvs1 H3 kp3 rw3 ld1 old1 cnt1 ml1=>?_⟩;rw[Nat.add_sub_cancel] at ld1 ml1;o⟨xs2,eR2,_⟩:=id rw2.at_;o⟨_,_,ax2,eD2,_⟩:=id rw2.dn;h gr3:=gr2.keep kp3 eR2 eD2;h ts3:=tsRD kp3 eR2 eD2;o⟨dg3,hg3⟩:=gr3.ins;o⟨dr3,hr3'⟩:=gr3.rul;h hb3:StAt K H3 b st:=ts3.seq hb2;r⟨_,rfl,g,dg3,_,rfl,hg3,XC _ _ _ _ _ _ £ £ £ £ £ £,_,rfl,_,_,rfl,rfl,_,rfl,g,Gc,dg3,_,_,rfl,hg3,O.cl,O.nU,Js _ _ _ _ _ _,r,dr3,_,rfl,hr3',rfl,_,rfl,g,Gc,dg3,_,_,rfl,hg3,O.cl,O.nW,Qm _ _ _ _ _ _,_,rfl,_,rfl,r,W,b,dr3,t,z,bs,st,rfl,hr3',gr3.web,okb,hb3,sl,(gd t o st tn go e).1,tn,z10,fun v4 H4 s4 rs4=>?_⟩;h rw4:=rw3.same s4;h gr4:=gr3.same s4;r hsp _ _ _ _ ¢ ⟨g,W,r,Bh,R,Dk,z,t+1,bs,v4,takU u bs t st,rows++more1,kvs1,G,congrArg (fun i=>[V.ref g,V.int i,v4]) e1,by w,gr4,z1,z10,b8,okb,gd,(gd t o st tn go e).2.2,rs4,rw4,by rw[Nat.add_sub_cancel,│];w,fun k2 more2 kvs2 H5 kp5 rw5 ld2 old2 cnt2 ml2=>?_⟩;rw[Nat.add_sub_cancel] at ld2 ml2;o⟨xs4,eR4,_⟩:=id rw4.at_;o⟨_,_,ax4,eD4,_⟩:=id rw4.dn;h gr5:=gr4.keep kp5 eR4 eD4;h ts5:=tsRD kp5 eR4 eD4;o⟨dg5,hg5⟩:=gr5.ins;h hb5:StAt K H5 b st:=ts5.seq (s4.ts.seq hb3);o⟨xs5,eR5,px5⟩:=id rw5.at_;o⟨_,_,ax5,eD5,_⟩:=id rw5.dn;h lx5:=┅ px5;r⟨_,rfl,g,Gc,dg5,_,_,rfl,hg5,O.cl,O.nR,Qq _ _ _ _ _ _,.inl ⟨rfl,_,SqL.of eR5⟩,_,rfl,_,rfl,_,rfl,(by show 3<=sizeLine;decide),fun y hy=>?_⟩;h sy:=┊ hy (.tup [.int (t:Int),.int (k1:Int),.int (k2:Int)]);h l5:xs5.length<=4100:=by
      rw[<- lx5];simp only[List.length_append];w
     r⟨R,_,_,rfl,rfl,sy _ _ eR5,smallN ¢,?_⟩;o⟨ok6,ld6⟩:=Xy (lef:=lefU) (tak:=takU u bs) (g:=semC u bs z d' (t+1)) (st:=st) rw5.ok tn (ld1.app rw3.ok) ld2;h RD:R≠Dk:=Cq eR5 eD5 (by intro z;cases z);h gR:g≠R:=Cq hg5 eR5 (by intro z;cases z);h eR6y:=sy _ _ eR5;h tl6:=TSm.lst (o:=.lst (xs5++[.ref y])) eR6y;h k6:∀ c o,c≠R->H5 c=some o->(upd (upd H5 y (.tup [.int (t:Int),.int (k1:Int),.int (k2:Int)])) R (.lst (xs5++[.ref y]))) c=some o:=fun c o h e=>by rw[Ag h];!sy _ _ e
     h gr6:=gr5.keep (H':=upd (upd H5 y (.tup [.int (t:Int),.int (k1:Int),.int (k2:Int)])) R (.lst (xs5++[.ref y]))) (fun c o h _ e=>k6 c o h e) eR5 eD5;h dn6:=rw5.dn.keep (H':=upd (upd H5 y (.tup [.int (t:Int),.int (k1:Int),.int (k2:Int)])) R (.lst (xs5++[.ref y]))) (fun o=>k6 _ o (Ne.symm RD)) (sy.ts.trans tl6);h hb6:StAt K (upd (upd H5 y (.tup [.int (t:Int),.int (k1:Int),.int (k2:Int)])) R (.lst (xs5++[.ref y]))) b st:=(sy.ts.trans tl6).seq hb5;h eR6:(upd (upd H5 y (.tup [.int (t:Int),.int (k1:Int),.int (k2:Int)])) R (.lst (xs5++[.ref y]))) R=some (.lst (xs5++[.ref y])):=Ab;h px6:Paired (K42s.rRow K (upd (upd H5 y (.tup [.int (t:Int),.int (k1:Int),.int (k2:Int)])) R (.lst (xs5++[.ref y])))) (rows++more1++more2++[(t,k1,k2)]) (xs5++[.ref y]):=by
      r Paired.app (Paired.imp (fun _ _ c=>K42s.Bj _ _ _ _ (sy.ts.trans tl6) c) px5) (Paired.one ⟨y,rfl,SqT.of ?_⟩);rw[Ag (Cq (show (upd H5 y (.tup [.int (t:Int),.int (k1:Int),.int (k2:Int)])) y=some _ from Ab) eR6y (by intro z;cases z))];!Ab
     generalize upd (upd H5 y (.tup [.int (t:Int),.int (k1:Int),.int (k2:Int)])) R (.lst (xs5++[.ref y]))=H6 at k6 gr6 dn6 hb6 eR6 px6;o⟨dg6,hg6⟩:=gr6.ins;o⟨_,_,ax6,eD6,_⟩:=id dn6;h new:valV kvs2 (keyC t st)=none:=by rw[old2 t st ¢,old1 t st ¢,ev]
     h kl2:=rw5.len;r⟨_,rfl,g,Gc,dg6,_,_,rfl,hg6,O.cl,O.nR,Qq _ _ _ _ _ _,R,_,rfl,.inl (SqL.of eR6),_,_,rfl,rfl,_,rfl,g,Gc,dg6,_,_,rfl,hg6,O.cl,O.nK,Ks _ _ _ _ _ _,_,rfl,_,rfl,(by show 2<=sizeLine;decide),fun u hu=>?_⟩;h su:=┊ hu (.tup [.int (t:Int),.ref b]);r⟨Dk,kvs2,keyC t st,u,rfl,rfl,dn6.keep (fun o=>su _ o) su.ts,VH Ab (su.ts.seq hb6),new,smallN (by rw[lx5] at kl2;w),fun H9 oth dn9=>?_⟩;h kl:(((xs5++[V.ref y]).length:Nat):Int)+1=(((rows++more1++more2).length+2:Nat):Int):=by
      rw[│,List.length_singleton,<- lx5];w
     rw[show (fun(i j:Int)=>V.int (i+j)) (((xs5++[V.ref y]).length:Nat):Int) 1=V.int (((rows++more1++more2).length+2:Nat):Int) from congrArg V.int kl] at dn9;h k9:∀ c o,c≠Dk->H6 c=some o->H9 c=some o:=fun c o h e=>by rw[oth c h];!su _ _ e
     h eas:rows++(more1++more2++[(t,k1,k2)])=rows++more1++more2++[(t,k1,k2)]:=by simp only[List.append_assoc]
     h ts9:TSm H6 H9:=tsRD (R:=R) (D:=Dk) (fun c o _ h e=>k9 c o h e) eR6 eD6;r⟨_,_,(rows++more1++more2).length+2,more1++more2++[(t,k1,k2)],putK kvs2 (keyC t st) (.int (((rows++more1++more2).length+2:Nat):Int)),rfl,fun c o h1 h2 e=>?_,?_,?_,?_,?_,?_,Zj cnt1 cnt2,?_,ts9.seq hb6⟩
     ·!k9 _ _ h2 (k6 _ _ h1 (kp5 _ _ h1 h2 (s4 _ _ (kp3 _ _ h1 h2 (s2 _ _ e)))))
     ·!gr6.keep (fun c o _ h e=>k9 c o h e) eR6 eD6
     ·rw[eas]
      r⟨⟨_,k9 _ _ RD eR6,Paired.imp (fun _ _ c=>K42s.Bj _ _ _ _ ts9 c) px6⟩,dn9,ok6,fun t' st' v' hv'=>?_,?_⟩
      ·rw[Ea] at hv'
       by_cases c:keyC t' st'=keyC t st
       ·rw[if_pos c] at hv'
        cases hv';o⟨rfl,rfl⟩:=TQ c;r⟨_,rfl,tn,?_⟩;rw[show bs.length-1-t'=d' by w];!ld6
       ·rw[if_neg c] at hv'
        !(rw5.kn.app rw5.ok) t' st' v' hv'
      ·rw[Ii _ new,│,List.length_singleton,│,List.length_singleton]
       w
     ·rw[Ea,if_pos rfl]
     ·rw[eas,AAi e]
      !ld6
     ·intro t' st' lt
      rw[Ea,if_neg (fun c=>by have:=(TQ c).1;w),old2 t' st' ¢,old1 t' st' ¢]
     ·simp only[List.length_append,List.length_singleton]
      w
   ·rintro σ H6 ⟨o4,o5,k,more,kvs',rfl,kp,gr6,rw6,val,ld,old,cnt,ml,hb6⟩
    o⟨dg6,hg6⟩:=gr6.ins;r⟨_,rfl,g,Gc,dg6,_,_,rfl,hg6,O.cl,O.nK,Ks _ _ _ _ _ _,_,rfl,_,rfl,(by show 2<=sizeLine;decide),fun y hy=>?_⟩;h sy:=┊ hy (.tup [.int (t:Int),.ref b]);!⟨Dk,.int k,rfl,⟨kvs',keyC t st,y,rw6.dn.keep (fun o=>sy _ o) sy.ts,rfl,VH Ab (sy.ts.seq hb6),val⟩,q k more kvs' _ (fun c o h1 h2 e=>sy _ _ (kp c o h1 h2 e)) (rw6.same sy) ld old cnt ml⟩
end
def Wi(u:Wr)(P:Program)(w:World)(K:¨)(C Dc Gc:Addr):Sp:=fun vs H Q _=>∃(g dx W r dr:Addr) (z:Nat) (bs:List ⑤),vs=[.ref g,.ref W,.ref r]/\H g=some (.ins Gc dx [])/\W≠g/\r≠g/\WebAt K C H W z bs/\H r=some (.ins Dc dr [])/\z<=10/\bs.length<=12 /\
 ∀(Bh R D:Addr) (H':Hp),(∀ b o,H b=some o->b≠g->H' b=some o)->Gr K C Dc Gc g W r Bh R D z bs H'->Rw u P w K R D bs z H' [] []->H R=none->H D=none->Q .non H'
section
variable{u:Wr}{P:Program}{w:World}{K:¨}{mg:Str->Option Value}{base:Heap}{f C D Gc:Addr}{fd:FuncData}
theorem ACY:FnScope ["self","web","rule"] ["self","web","rule"] (Ac Hh):=¡
theorem AAp{fB fT:Addr}{fdB fdT:FuncData}(F:Fun K "__init__" "Growth.__init__" Hh f fd)(T:Txt K mg C)(O:Gro K mg Gc)
  (GT:FnOk P w K mg base CX0 1 fT fdT ["self"] (Ph K C)) (bT:Binds K fdT ["self"] []) (mT:Meth K C "ties" fT)
  (GB:FnOk P w K mg base CX0 2 fB fdB ["web","number"] (ABi K C)) (bB:Binds K fdB ["web","number"] []) (kB:© K (.ref fB)=true) (mB:mg "points_behind" = some (.ref fB)) :
  FnOk P w K mg base CX0 3 f fd ["self","web","rule"] (Wi u P w K C D Gc):=by
 r F.ok ACY § ¦
 ·o⟨g,dx,W,r,dr,z,bs,rfl,_⟩:=h
  rfl
 o⟨g,dx,W,r,dr,z,bs,rfl,hg,Wg,rg,hW,hr0,z10,b8,q⟩:=h;h hr1:Room 1 _:=hr.mono ¤;r⟨_,Af (Eh (pv 0) (pv 1) rfl)
  (Af (Eh (pv 0) (pv 2) rfl)
  (Af (Eh (pv 0) (BJ Aw rfl T.len PySem.boot_len (Aa (Bt (pv 1) T.cl mT GT hr1 bT .nil pass0) Ad)) rfl)
  (Af (Eh (pv 0) (Bv (Ac Hh) ["number"] ["web"] [1] rfl rfl £ ⟨⟨rfl,£⟩,trivial⟩ (Cj rfl T.range (Aa (BW Cw ⑲ Ah) Ad))
   (fun _ _ _=>Av (i:=0) (show ((["number"]:List Str)++(["web"]:List Str)).Nodup by decide +kernel) rfl ④) (fun _ _ _=>DX)
   (fun _ _ _=>BP GB hr rfl mB kB bB .nil pass0 (Aa (pv 1) (Aa (pv 0) Ad)))) rfl)
  (Af (Eh (pv 0) (Cv Ad) rfl)
  (Aj (Eh (pv 0) AAx rfl)))))),?_⟩
 h tsI:∀{H0:Hp}{fs gs:List (Str×V)},H0 g=some (.ins Gc dx fs)->TSm H0 (upd H0 g (.ins Gc dx gs)):=fun {H0 fs gs} hP b u hb t=>by
  rw[Ag ?_]
  ·!hb
  ·rintro rfl
   rw[hP] at hb;cases hb;o⟨ys,e | ⟨o,e⟩⟩:=t
   ·cases e
   ·cases e
 r⟨_,rfl,_,rfl,g,Gc,dx,[],rfl,hg,O.cl,O.nW,(by show 0<1000;decide),?_⟩;r⟨_,rfl,_,rfl,g,Gc,dx,_,rfl,Ab,O.cl,O.nU,(by show 1<1000;decide),?_⟩;rw[ACm];h k1:∀ b o,b≠g->H b=some o->(upd H g (.ins Gc dx (putF "rule" (.ref r) (putF "web" (.ref W) [])))) b=some o:=fun b o h e=>by rw[Ag h];!e
 h ts1:=tsI (gs:=putF "rule" (.ref r) (putF "web" (.ref W) [])) hg;h g1:(upd H g (.ins Gc dx (putF "rule" (.ref r) (putF "web" (.ref W) [])))) g=some (.ins Gc dx (putF "rule" (.ref r) (putF "web" (.ref W) []))):=Ab;generalize upd H g (.ins Gc dx (putF "rule" (.ref r) (putF "web" (.ref W) [])))=H1 at k1 ts1 g1;h hW1:WebAt K C H1 W z bs:=by
  o⟨d,j,a1,a2⟩:=hW;!⟨d,j,k1 _ _ Wg a1,Ak (Ak Ao) _ _ _ _ ts1 a2⟩
 o⟨dw,jw,hw1,_⟩:=id hW1;r⟨_,rfl,W,dw,_,rfl,hw1,Ck _ _ £ £,W,z,bs,rfl,hW1,fun l H2 s2 hl hL=>?_⟩;o⟨l',ts,el,hX,px⟩:=hL;cases el;h lt:ts.length=bs.length:=(┅ px).symm;r⟨l,_,rfl,.inl hX,_,rfl,g,Gc,dx,_,rfl,s2 _ _ g1,O.cl,O.nA,(by show 2<1000;decide),?_⟩;h g2:=s2 _ _ g1;rw[lt];h k3:∀ b o,b≠g->H b=some o->(upd H2 g (.ins Gc dx (putF "amount" (.int (bs.length:Nat)) (putF "rule" (.ref r) (putF "web" (.ref W) []))))) b=some o:=fun b o h e=>by rw[Ag h];!s2 _ _ (k1 b o h e)
 h ts3:=ts1.trans (s2.ts.trans (tsI (gs:=putF "amount" (.int (bs.length:Nat)) (putF "rule" (.ref r) (putF "web" (.ref W) []))) g2));h g3:(upd H2 g (.ins Gc dx (putF "amount" (.int (bs.length:Nat)) (putF "rule" (.ref r) (putF "web" (.ref W) []))))) g=some (.ins Gc dx (putF "amount" (.int (bs.length:Nat)) (putF "rule" (.ref r) (putF "web" (.ref W) [])))):=Ab;generalize upd H2 g (.ins Gc dx (putF "amount" (.int (bs.length:Nat)) (putF "rule" (.ref r) (putF "web" (.ref W) []))))=H3 at k3 ts3 g3;h hW3:WebAt K C H3 W z bs:=by
  o⟨d,j,a1,a2⟩:=hW;!⟨d,j,k3 _ _ Wg a1,Ak (Ak Ao) _ _ _ _ ts3 a2⟩
 r⟨_,rfl,g,Gc,dx,_,_,rfl,g3,O.cl,O.nA,(by rw[Ai,if_pos rfl]),_,_,rfl,rfl,_,rfl,by w,by w,fun Bh hBh=>?_⟩;r DG (lo:=0) (n:=(((bs.length:Nat):Int)+1).toNat) (fun j τ H4=>∃(o:Option V) (ys:List V),τ=[o,some (.ref W)]/\Same H3 H4/\H4 Bh=some (.lst ys)/\Paired (fun t v=>∃ l,v=.ref l/\l≠Bh/\H4 l=some (.lst (nI (behP bs z t)))) (List.range j) ys) ⟨none,[],rfl,┊ hBh _,Ab,.nil⟩ ?_ ?_
 ·rintro j τ H4 hj ⟨o,ys,rfl,s4,eB,pB⟩
  h ej:(0:Int)+j=(j:Int):=by w
  rw[ej];h ly:=┅ pB;rw[List.length_range] at ly;r yesN ⟨_,rfl,_,rfl,W,j,z,bs,rfl,hW3.same s4,z10,by w,fun m H5 s5 hm em=>?_⟩;h mB:m≠Bh:=fun z=>by rw[z,eB] at hm;cases hm
  r⟨_,s5 _ _ eB,Ax ¢,_,_,rfl,fun b o e=>?_,Ab,?_⟩
  ·rw[Ag (Ae e hBh)]
   !s5 _ _ (s4 b o e)
  ·rw[List.range_succ]
   r Paired.app (Paired.imp (fun t v ⟨l,e1,e2,e3⟩=>⟨l,e1,e2,by rw[Ag e2];!s5 _ _ e3⟩) pB) (Paired.one ⟨m,rfl,mB,by rw[Ag mB];!em⟩)
 rintro τ H4 ⟨o,ys,rfl,s4,eB,pB⟩;rw[show (((bs.length:Nat):Int)+1).toNat=bs.length+1 by w] at pB;h g4:=s4 _ _ g3;h gB:Bh≠g:=fun z=>by rw[z,g4] at eB;cases eB
 r⟨_,rfl,g,Gc,dx,_,rfl,g4,O.cl,O.nB,(by show 3<1000;decide),?_⟩;h nBH:H Bh=none:=by
  cases e:H Bh with
  | none=>rfl
  | some o=>have:=k3 _ _ gB e;rw[hBh] at this;cases this
 r⟨Nat.zero_le _,fun R hR=>?_⟩;h gR:R≠g:=fun z=>by rw[z,Ab] at hR;cases hR
 h hR4:H4 R=none:=by rw[Ag gR] at hR;!hR
 h BR:Bh≠R:=Ae eB hR4;r⟨_,rfl,g,Gc,dx,_,rfl,by rw[Ag (Ne.symm gR)];!Ab,O.cl,O.nR,(by show 4<1000;decide),?_⟩;r fun Dk hD dn0=>?_;h gD:Dk≠g:=fun z=>by rw[z,Ab] at hD;cases hD
 h RD:Dk≠R:=fun z=>by rw[z,Ag gR,Ab] at hD;cases hD
 h hD4:H4 Dk=none:=by rw[Ag gD,Ag RD,Ag gD] at hD;!hD
 r⟨_,rfl,g,Gc,dx,_,rfl,by rw[Ag (Ne.symm gD)];!Ab,O.cl,O.nK,(by show 5<1000;decide),?_⟩;h fin:∀ b o,b≠g->H4 b=some o->(upd (upd (upd (upd (upd H4 g (.ins Gc dx (putF "behind" (.ref Bh) (putF "amount" (.int (bs.length:Nat)) (putF "rule" (.ref r) (putF "web" (.ref W) [])))))) R (.lst [])) g (.ins Gc dx (putF "rows" (.ref R) (putF "behind" (.ref Bh) (putF "amount" (.int (bs.length:Nat)) (putF "rule" (.ref r) (putF "web" (.ref W) []))))))) Dk (dO P w Dk [])) g (.ins Gc dx (gf W r (bs.length:Nat) Bh R Dk))) b=some o:=fun b o h e=>by
  rw[Ag h,Ag (Ae e hD4),Ag h,Ag (Ae e hR4),Ag h];!e
 h fT:TSm H4 (upd (upd (upd (upd (upd H4 g (.ins Gc dx (putF "behind" (.ref Bh) (putF "amount" (.int (bs.length:Nat)) (putF "rule" (.ref r) (putF "web" (.ref W) [])))))) R (.lst [])) g (.ins Gc dx (putF "rows" (.ref R) (putF "behind" (.ref Bh) (putF "amount" (.int (bs.length:Nat)) (putF "rule" (.ref r) (putF "web" (.ref W) []))))))) Dk (dO P w Dk [])) g (.ins Gc dx (gf W r (bs.length:Nat) Bh R Dk))):=fun b u hb t=>fin b u (fun z=>by
  rw[z,g4] at hb;cases hb;o⟨ys,e | ⟨o,e⟩⟩:=t
  ·cases e
  ·cases e) hb
 h old:∀ x,x≠g->H4 x=none->H x=none:=fun x h n=>by
  cases e:H x with
  | none=>rfl
  | some o=>have:=s4 _ _ (k3 _ _ h e);rw[n] at this;cases this
 r q Bh R Dk _ (fun b o e h=>fin b o h (s4 _ _ (k3 b o h e))) ⟨⟨dx,Ab⟩,?_,⟨dr,fin _ _ rg (s4 _ _ (k3 _ _ rg hr0))⟩,⟨ys,fin _ _ gB eB,BR,Paired.imp (fun t v ⟨l,e1,e2,e3⟩=>⟨l,e1,Ae e3 hR4,fin _ _ (fun z=>by rw[z,g4] at e3;cases e3) e3⟩) pB⟩⟩ ?_ (old R gR hR4) (old Dk gD hD4)
 ·o⟨d,j,a1,a2⟩:=hW3.same s4
  !⟨d,j,fin _ _ Wg a1,Ak (Ak Ao) _ _ _ _ fT a2⟩
 ·r⟨⟨[],by rw[Ag gR,Ag (Ne.symm RD),Ag gR,Ab],.nil⟩,dn0.keep (fun o e=>by rw[Ag gD];!e) (tsI (fs:=_) (by rw[Ag (Ne.symm gD)];!Ab)),fun i r h=>(by simp at h),fun t st v hv=>(by cases hv),Nat.le_refl _⟩
end
section
variable{u:Wr}{P:Program}{w:World}{K:¨}{mg:Str->Option Value}{base:Heap}{f C D Gc S:Addr}{fd:FuncData}
theorem Oh{fP fL fT fU:Addr}{fdP fdL fdT fdU:FuncData}(F:Fun K "knot_at" "Growth.knot_at" FW f fd)(T:Txt K mg C)(cD:Cls K D)(O:Gro K mg Gc)
  (GP:FnOk P w K mg base CX0 4 fP fdP ["self","number","reached"] (Um u K C D Gc)) (bP:Binds K fdP ["self","number","reached"] []) (mP:Meth K Gc "past_points" fP)
  (GL:FnOk P w K mg base CX0 1 fL fdL ["self","web","state","number"] Ur) (bL:Binds K fdL ["self","web","state","number"] []) (mL:Meth K D "left" fL)
  (GT:FnOk P w K mg base CX0 3 fT fdT ["self","web","state","number"] (Pu u K C D)) (bT:Binds K fdT ["self","web","state","number"] []) (mT:Meth K D "taken" fT)
  (GU:FnOk P w K mg base CX0 1 fU fdU ["self","web","state"] (ABo u K)) (bU:Binds K fdU ["self","web","state"] []) (mU:Meth K D "fulfilled" fU)
  (bK:Binds K fd ["self","number","reached"] []) (mK:Meth K Gc "knot_at" f):∀ d,FnOk P w K mg base CX0 (d+5) f fd ["self","number","reached"] (Kc u P w K C D Gc d)
 | 0=>Ke 0 F T cD O GP bP mP GL bL mL GT bT mT GU bU mU (sp:=fun _ _ _ _=>False) (fun _ _ _ _ h=>absurd rfl h) (F.ok Ge (fun vs H Q E h=>False.elim h) (fun cdv A outer s H vs Q E hr h=>False.elim h)) bK mK
 | d+1=>Ke (d+1) F T cD O GP bP mP GL bL mL GT bT mT GU bU mU (sp:=Kc u P w K C D Gc d) (fun _ _ _ _ _ h=>h) (Oh F T cD O GP bP mP GL bL mL GT bT mT GU bU mU bK mK d) bK mK
end
theorem UL{st:StO}{p:Nat}(h:p<st.length):atI (st.map oV) (p:Int)=some (oV (st.getD p none)):=Bp (by rw[┉,¯,± h];rfl)
theorem ACz(c:Option Int):flatV (oV c)=true:=by cases c<;>rfl
theorem AEd{a b:Option Int}(h:oV a=oV b):a=b:=by cases a<;>cases b<;>first | rfl | (injection h with h;rw[h]) | cases h
theorem oV_scal(a b:Option Int):scal (oV a) (oV b)=true:=by cases a<;>cases b<;>rfl
theorem AFK(a b:Option Int):decide (oV a=oV b)=decide (a=b):=decide_eq_decide.mpr ⟨AEd,fun h=>by rw[h]⟩
theorem Uw{st:StO}{i:Nat}{y:V}(h:(st.map oV)[i]?=some y):i<st.length/\y=oV (st.getD i none):=by
 h il:=(━ h).1;rw[─] at il;rw[┉,± il] at h;r⟨il,?_⟩;rw[¯,± il];!(Option.some.inj h).symm
theorem ABq{n k:Nat}(h:k<n):ixN n (k:Int)=some k:=by
 unfold ixN;simp only[Int.natCast_nonneg,Int.not_lt.mpr (Int.natCast_nonneg k)];simp;w
def undW(st:StO)(c:Option Int)(j:Nat):List Nat:=(List.range j).filter fun q=>decide (st.getD q none=c)
def Xd(K:¨):Sp:=fun vs H Q _=>∃(b:Addr) (st:StO) (c:Option Int),vs=[.ref b,oV c]/\StAt K H b st/\st.length<=10/\∀(l:Addr) (H':Hp),Same H H'->H l=none->H' l=some (.lst (nI (undW st c st.length)))->Q (.ref l) H'
def Xj(K:¨):Sp:=fun vs H Q _=>∃(b:Addr) (st:StO) (i j:Int),vs=[.ref b,.int i,.int j]/\StAt K H b st/\st.length<=10/\∀(l:Addr) (H':Hp),Same H H'->H l=none->H' l=some (.lst ((joinW st i j).map oV))->Q (.ref l) H'
section
variable{P:Program}{w:World}{K:¨}{mg:Str->Option Value}{base:Heap}{f C D:Addr}{fd:FuncData}
theorem ACt:FnScope ["heads","head"] ["heads","head"] (Ac HX):=¡
theorem ABH(F:Fun K "points_under" "points_under" HX f fd)(T:Txt K mg C):FnOk P w K mg base CX0 1 f fd ["heads","head"] (Xd K):=by
 r F.ok ACt § ¦
 ·o⟨b,st,c,rfl,_⟩:=h
  rfl
 o⟨b,st,c,rfl,hb,s10,q⟩:=h;r⟨_,Aj (Az (Bv (Ac HX) ["point","its_head"] ["head"] [1] rfl rfl £ ⟨⟨rfl,£⟩,trivial⟩ (KN rfl T.enum (Aa (pv 0) Ad))
    (fun _ _ _=>Gf (K:=K) (n:=2) rfl rfl (Cd (Av (i:=0) (show ((["point","its_head"]:List Str)++(["head"]:List Str)).Nodup by decide +kernel) rfl ④) (Cd (Av (i:=1) (show ((["point","its_head"]:List Str)++(["head"]:List Str)).Nodup by decide +kernel) rfl ④) Gi)))
    (fun _ _ _=>CP (Ar Cy (pv 1) (pv 2) ⑯)) (fun _ _ _=>pv 0))),?_⟩
 r⟨_,rfl,b,rfl,⟨_,hb⟩,fun Z hZ=>?_⟩;r HN (xs:=st.map oV) (fun i τ H2=>∃ n t:Option V,τ=[n,t,some (oV c)]/\Same H H2/\H2 Z=some (.lst (nI (undW st c i)))) ⟨none,none,rfl,┊ hZ _,Ab⟩ (fun i τ H2 _ ⟨_,_,_,sm,_⟩=>sm.ts.seq hb) ?_ ?_
 ·rintro i y τ H2 T1 hy hT1 ⟨n,t,rfl,sm,eZ⟩
  o⟨il,rfl⟩:=Uw hy;h s2:Same H2 (upd H2 T1 (.tup [.int i,oV (st.getD i none)])):=┊ hT1 _;h lo:(undW st c i).length<=i:=Nat.le_trans (List.length_filter_le ..) (by rw[List.length_range];!Nat.le_refl _);r⟨T1,_,rfl,SqT.of Ab,rfl,_,_,rfl,_,_,rfl,rfl,?_⟩;r⟨_,rfl,_,rfl,oV_scal _ _,_,rfl,?_⟩;rw[AFK];by_cases cc:st.getD i none=c
  ·r iteP cc ⟨_,rfl,_,s2 _ _ eZ,Ax (by rw[Ds];w),_,_,rfl,fun b o e=>?_,?_⟩
   ·rw[Ag (Ae e hZ)]
    !s2 _ _ (sm b o e)
   ·rw[Ab]
    unfold undW;rw[List.range_succ,List.filter_append,List.filter_cons_of_pos (by u cc)];unfold nI;rw[List.map_append];rfl
  ·r iteN cc ⟨_,_,rfl,sm.trans s2,?_⟩
   unfold undW;rw[List.range_succ,List.filter_append,List.filter_cons_of_neg (by u cc),List.filter_nil,List.append_nil];!s2 _ _ eZ
 ·rintro τ H2 ⟨n,t,rfl,sm,eZ⟩
  rw[─] at eZ;!q Z _ sm hZ eZ
theorem XR:FnScope ["heads","one","other","least"] ["heads","one","other"] (Ac Hg):=¡
theorem AAu(F:Fun K "parts_as_one" "parts_as_one" Hg f fd)(T:Txt K mg C):FnOk P w K mg base CX0 1 f fd ["heads","one","other"] (Xj K):=by
 r F.ok XR § ¦
 ·o⟨b,st,i,j,rfl,_⟩:=h
  rfl
 o⟨b,st,i,j,rfl,hb,s10,q⟩:=h;r⟨_,Af (Ay (i:=3) XR.nd rfl (Or.inr rfl) (BJ (JT rfl) rfl T.min PyProof.Rows.boot_min (Aa (pv 1) (Aa (pv 2) Ad))))
  (Aj (Az (Bv (Ac Hg) ["head"] ["least","one","other"] [3,1,2] rfl rfl £ ⟨⟨rfl,£⟩,⟨rfl,£⟩,⟨rfl,£⟩,trivial⟩ (AFR (pv 0))
    (fun _ _ _=>Av (i:=0) (show ((["head"]:List Str)++(["least","one","other"]:List Str)).Nodup by decide +kernel) rfl ④) (fun _ _ _=>DX)
    (fun _ _ _=>Hx (Ar (Ec (K:=K) rfl) (pv 0) (Ce (Aa (pv 2) (Aa (pv 3) Ad))) rfl) (pv 1) (pv 0))))),?_⟩
 h em:(if j<i then j else i)=min i j:=by split<;>w
 r⟨_,rfl,_,rfl,_,_,rfl,?_⟩;rw[em];r⟨_,rfl,b,rfl,⟨_,hb⟩,fun Z hZ=>?_⟩;r Mx (K:=K) (a:=b) (xs:=st.map oV) (fun k τ H2=>∃ n:Option V,τ=[n,some (.int (min i j)),some (.int i),some (.int j)]/\Same H H2/\H2 Z=some (.lst ((joinW (st.take k) i j).map oV))) ⟨none,rfl,┊ hZ _,Ab⟩ (fun k τ H2 _ ⟨_,_,sm,_⟩=>sm.ts.seq hb) ?_ ?_
 ·rintro k y τ H2 hy ⟨n,rfl,sm,eZ⟩
  o⟨kl,rfl⟩:=Uw hy;h hk:st[k]?=some (st.getD k none):=by rw[¯,± kl];rfl
  h jt:joinW (st.take (k+1)) i j=joinW (st.take k) i j++[if st.getD k none=some i\/st.getD k none=some j then some (min i j) else st.getD k none]:=by
   unfold joinW;rw[List.take_add_one,hk,List.map_append];rfl
  generalize st.getD k none=c at hk jt;h jl:(joinW (st.take k) i j).length<=10:=by unfold joinW;rw[─,List.length_take];w
  r yesN ⟨_,rfl,_,rfl,_,rfl,(by show 2<=sizeLine;decide),fun t ht=>?_⟩;h s2:=┊ ht (.tup [V.int i,V.int j]);h ei:inV (oV c) [V.int i,V.int j]=decide (c=some i\/c=some j):=by
   cases c with
   | none=>rfl
   | some x =>
    have:=Ej x [i,j];r this.trans (decide_eq_decide.mpr ?_);simp
  r⟨t,_,rfl,.inr (SqT.of Ab),ACz c,rfl,_,rfl,?_⟩;rw[if_neg (show ¬ (false=true) by decide),ei];h fin:∀ d:Option Int,d=(if c=some i\/c=some j then some (min i j) else c)->∃ ys,(upd H2 t (.tup [V.int i,V.int j])) Z=some (.lst ys)/\ys.length<sizeLine/\∃ n:Option V,[some (oV c),some (.int (min i j)),some (.int i),some (.int j)]=[n,some (.int (min i j)),some (.int i),some (V.int j)]/\Same H (upd (upd H2 t (.tup [V.int i,V.int j])) Z (.lst (ys++[oV d])))/\(upd (upd H2 t (.tup [V.int i,V.int j])) Z (.lst (ys++[oV d]))) Z=some (.lst ((joinW (st.take (k+1)) i j).map oV)):=fun d ed=>by
   r⟨_,s2 _ _ eZ,Ax (by rw[─];w),_,rfl,fun b o e=>?_,?_⟩
   ·rw[Ag (Ae e hZ)]
    !s2 _ _ (sm b o e)
   ·rw[Ab,jt,List.map_append,ed]
    rfl
  by_cases cc:c=some i\/c=some j
  ·!iteP cc ⟨_,rfl,fin (some (min i j)) (by rw[if_pos cc])⟩
  ·!iteN cc ⟨_,rfl,fin c (by rw[if_neg cc])⟩
 ·rintro τ H2 ⟨n,rfl,sm,eZ⟩
  rw[─,List.take_length] at eZ;!q Z _ sm hZ eZ
end
theorem AAd(st:StO)(p:Nat):restW st p=(undW st (st.getD p none) st.length).filter fun q=>decide (q≠p):=by
 unfold restW undW;rw[List.filter_filter];r List.filter_congr fun q _=>?_;rw[Bool.eq_iff_iff,decide_eq_true_iff,Bool.and_eq_true,decide_eq_true_iff,decide_eq_true_iff];!⟨fun h=>⟨h.2,h.1⟩,fun h=>⟨h.2,h.1⟩⟩
def hdsW(st:StO)(p k:Nat):StO:=(List.range k).map fun q=>if q∈restW st p then some (((restW st p).headD 0:Nat):Int) else st.getD q none
theorem AAr(st:StO)(p k:Nat):hdsW st p (k+1)=hdsW st p k++[if k∈restW st p then some (((restW st p).headD 0:Nat):Int) else st.getD k none]:=by
 unfold hdsW;rw[List.range_succ,List.map_append];rfl
theorem ACI(ks:List Nat)(k:Nat):inV (V.int (k:Int)) (nI ks)=decide (k∈ks):=by
 h e:nI ks=(ks.map fun x:Nat=>(x:Int)).map V.int:=by unfold nI;rw[List.map_map];rfl
 rw[e,Ej];r decide_eq_decide.mpr ?_;rw[List.mem_map];!⟨fun⟨x,h,e⟩=>by
               have:x=k:=by w
               !this ▸ h,fun h=>⟨k,h,rfl⟩⟩
theorem WM(ks:List Nat):(nI ks).all flatV=true:=by
 unfold nI;rw[List.all_map];!List.all_eq_true.mpr fun _ _=>rfl
def Wb(K:¨):Sp:=fun vs H Q _=>∃(b:Addr) (st:StO) (p:Nat),vs=[.ref b,.int p]/\StAt K H b st/\p<st.length/\st.length<=10/\∀(t:Addr) (H':Hp),Same H H'->StAt K H' t (dropW st p)->Q (.ref t) H'
section
variable{P:Program}{w:World}{K:¨}{mg:Str->Option Value}{base:Heap}{f C D:Addr}{fd:FuncData}
theorem QT:FnScope ["state","point","rest","heads"] ["state","point"] (Ac Fx):=¡
theorem AAq{fU:Addr}{fdU:FuncData}(F:Fun K "heads_without" "heads_without" Fx f fd)(T:Txt K mg C)
  (GU:FnOk P w K mg base CX0 1 fU fdU ["heads","head"] (Xd K)) (bU:Binds K fdU ["heads","head"] []) (kU:© K (.ref fU)=true) (mU:mg "points_under" = some (.ref fU)) :
  FnOk P w K mg base CX0 2 f fd ["state","point"] (Wb K):=by
 r F.ok QT § ¦
 ·o⟨b,st,p,rfl,_⟩:=h
  rfl
 o⟨b,st,p,rfl,hb,pl,s10,q⟩:=h;r⟨_,Af (Ay (i:=2) QT.nd rfl (Or.inr rfl) (Bv (Ac Fx) ["other"] ["point"] [1] rfl rfl £ ⟨⟨rfl,£⟩,trivial⟩ (CK (BP GU hr rfl mU kU bU .nil pass0 (Aa (pv 0) (Aa (BK Bo (pv 0) (pv 1) (fun _ _=>rfl)) Ad))))
   (fun _ _ _=>Av (i:=0) (show ((["other"]:List Str)++(["point"]:List Str)).Nodup by decide +kernel) rfl ④)
   (fun _ _ _=>CP (Ar Oi (pv 0) (pv 1) ⑯)) (fun _ _ _=>pv 0)))
  (Af (QS (i:=3) (Ac Fx) ["other","head"] ["rest"] [2] QT.nd rfl ④ rfl rfl £ ⟨⟨rfl,£⟩,trivial⟩ (KN rfl T.enum (Aa (pv 0) Ad))
   (fun _ _ _=>Gf (K:=K) (n:=2) rfl rfl (Cd (Av (i:=0) (show ((["other","head"]:List Str)++(["rest"]:List Str)).Nodup by decide +kernel) rfl ④) (Cd (Av (i:=1) (show ((["other","head"]:List Str)++(["rest"]:List Str)).Nodup by decide +kernel) rfl ④) Gi)))
   (fun _ _ _=>DX)
   (fun _ _ _=>Hx (Ar (Ec (K:=K) rfl) (pv 0) (pv 2) rfl) (BK (Zt (K:=K) rfl) (pv 2) Ah (fun _ _=>rfl)) (pv 1)))
  (Af (ACO ACJ (AEe (pv 3) (pv 1) set_list))
  (Aj (Az (Bb Bg rfl T.tuple PyProof.Rows.boot_tuple (Aa (pv 3) Ad)))))),?_⟩
 r⟨_,rfl,_,rfl,_,rfl,b,_,_,_,rfl,rfl,hb,UL pl,b,st,st.getD p none,rfl,hb,s10,fun l H1 s1 hl el=>?_⟩;r⟨l,rfl,⟨_,SqL.of el⟩,fun R hR=>?_⟩;h hu:=AAd st p;h ul:(undW st (st.getD p none) st.length).length<=10:=Nat.le_trans (List.length_filter_le ..) (by rw[List.length_range];!s10);generalize undW st (st.getD p none) st.length=us at el hu ul;r Br (K:=K) (a:=l) (xs:=nI us) (fun j τ H2=>∃ o:Option V,τ=[o,some (.int p)]/\Same H1 H2/\H2 R=some (.lst (nI ((us.take j).filter fun q=>decide (q≠p))))) ⟨none,rfl,┊ hR _,Ab⟩ (fun j τ H2 _ ⟨_,_,sm,_⟩=>SqL.of (sm _ _ el)) ?_ ?_
 ·rintro j x τ H2 hx ⟨o,rfl,sm,eR⟩
  o⟨k,hk,rfl⟩:=ABx hx;h fl:((us.take j).filter fun q=>decide (q≠p)).length<=10:=Nat.le_trans (List.length_filter_le ..) (by rw[List.length_take];w);r⟨_,rfl,_,rfl,rfl,_,rfl,?_⟩;by_cases c:k=p
  ·r iteNP (by rw[c]) ⟨_,rfl,sm,?_⟩
   rw[List.take_add_one,hk,List.filter_append,show (some k).toList=[k] from rfl,List.filter_cons_of_neg (by u c),List.filter_nil,List.append_nil];!eR
  ·r iteNN (fun z=>c (by injection z with z;w)) ⟨_,rfl,_,eR,Ax (by rw[Ds];w),_,rfl,fun b o e=>?_,?_⟩
   ·rw[Ag (Ae e hR)]
    !sm b o e
   ·rw[Ab,List.take_add_one,hk,List.filter_append,show (some k).toList=[k] from rfl,List.filter_cons_of_pos (by u c)]
    unfold nI;rw[List.map_append];rfl
 rintro τ H2 ⟨o,rfl,s2,eR⟩;rw[Ds,List.take_length,<- hu] at eR;h rl:(restW st p).length<=10:=Nat.le_trans (List.length_filter_le ..) (by rw[List.length_range];!s10);h hb2:StAt K H2 b st:=(s1.trans s2).ts.seq hb;r⟨_,rfl,b,rfl,⟨_,hb2⟩,fun Z hZ=>?_⟩;r HN (xs:=st.map oV) (fun k τ H3=>∃ n t:Option V,τ=[n,t,some (.ref R)]/\Same H2 H3/\H3 Z=some (.lst ((hdsW st p k).map oV))) ⟨none,none,rfl,┊ hZ _,Ab⟩ (fun k τ H3 _ ⟨_,_,_,sm,_⟩=>sm.ts.seq hb2) ?_ ?_
 ·rintro k y τ H3 T1 hy hT1 ⟨n,t,rfl,sm,eZ⟩
  o⟨kl,rfl⟩:=Uw hy;h s3:Same H3 (upd H3 T1 (.tup [.int k,oV (st.getD k none)])):=┊ hT1 _;h sl:((hdsW st p k).map oV).length<sizeLine:=Ax (by unfold hdsW;rw[─,─,List.length_range];w);r⟨T1,_,rfl,SqT.of Ab,rfl,_,_,rfl,_,_,rfl,rfl,yesD ?_⟩;h eR3:=s3 _ _ (sm _ _ eR);r⟨_,rfl,_,rfl,R,_,rfl,.inl (SqL.of eR3),rfl,WM _,_,rfl,?_⟩;rw[if_neg (show ¬ (false=true) by decide),ACI];h fin:∀ d:Option Int,d=(if k∈restW st p then some (((restW st p).headD 0:Nat):Int) else st.getD k none)->∃ ys,(upd H3 T1 (.tup [.int k,oV (st.getD k none)])) Z=some (.lst ys)/\ys.length<sizeLine/\∃ n t:Option V,[some (.int (k:Int)),some (oV (st.getD k none)),some (.ref R)]=[n,t,some (V.ref R)]/\Same H2 (upd (upd H3 T1 (.tup [.int k,oV (st.getD k none)])) Z (.lst (ys++[oV d])))/\(upd (upd H3 T1 (.tup [.int k,oV (st.getD k none)])) Z (.lst (ys++[oV d]))) Z=some (.lst ((hdsW st p (k+1)).map oV)):=fun d ed=>by
   r⟨_,s3 _ _ eZ,sl,_,_,rfl,fun b o e=>?_,?_⟩
   ·rw[Ag (Ae e hZ)]
    !s3 _ _ (sm b o e)
   ·rw[Ab,AAr,List.map_append,ed]
    rfl
  by_cases cc:k∈restW st p
  ·h h0:atI (nI (restW st p)) 0=some (.int (((restW st p).headD 0:Nat):Int)):=by
    cases e:restW st p with
    | nil=>rw[e] at cc;cases cc
    | cons x xs=>!Bp (show (nI (x::xs))[0]?=some (V.int (x:Int)) from rfl)
   !iteP cc ⟨_,rfl,R,_,_,_,rfl,rfl,SqL.of eR3,h0,fin (some _) (by rw[if_pos cc])⟩
  ·!iteN cc ⟨_,rfl,fin _ (by rw[if_neg cc])⟩
 rintro τ H3 ⟨n,t,rfl,s3,eZ⟩;rw[─] at eZ;h hl:((hdsW st p st.length).map oV).length=st.length:=by unfold hdsW;rw[─,─,List.length_range]
 r⟨_,rfl,_,rfl,Z,_,_,p,rfl,rfl,eZ,ABq (by rw[hl];!pl),?_⟩;r⟨_,rfl,Z,_,rfl,.inl ⟨SqL.of Ab,fun t ht=>?_⟩⟩;h s13:=s1.trans (s2.trans s3);r q t _ (fun c o e=>?_) ?_
 ·h nz:c≠Z:=Ae (s2 _ _ (s1 _ _ e)) hZ
  h e3:(upd H3 Z (.lst (((hdsW st p st.length).map oV).set p .non))) c=some o:=by rw[Ag nz];!s13 _ _ e
  rw[Ag (Ae e3 ht)];!e3
 ·r SqT.of ?_
  rw[Ab];have:((hdsW st p st.length).map oV).set p .non=(dropW st p).map oV:=by
   unfold dropW hdsW;rw[List.map_set];rfl
  rw[this]
end
def uW:Wr:=⟨fun st p=>some (dropW st p),takeW,fun _=>true,fun st a b=>(∃ i:Int,st.getD a none=some i)/\∃ j:Int,st.getD b none=some j,fun z st=>st.length=z⟩
def begW(z:Nat):StO:=(List.range z).map fun p=>some ((p:Nat):Int)
theorem QX:∀(ps:List Nat) (st:StO),passU uW st ps=some (passW st ps)
 | [],st=>rfl
 | p::ps,st=>QX ps (dropW st p)
def Ws(K:¨)(C:Addr):Sp:=fun vs H Q _=>∃(r:V) (p:Addr) (z:Nat) (bs:List ⑤),vs=[r,.ref p]/\WebAt K C H p z bs/\z<=10/\∀(b:Addr) (H':Hp),Same H H'->StAt K H' b (begW z)->Q (.ref b) H'
section
variable{P:Program}{w:World}{K:¨}{mg:Str->Option Value}{base:Heap}{f C D:Addr}{fd:FuncData}
theorem ADd:FnScope ["self","web"] ["self","web"] (Ac Im):=¡
theorem Zh{fS:Addr}{fdS:FuncData}(F:Fun K "begun" "Woods.begun" Im f fd)(T:Txt K mg C)(GS:FnOk P w K mg base CX0 1 fS fdS ["self"] (Qc K C))(bS:Binds K fdS ["self"] [])(mS:Meth K C "size" fS) :
  FnOk P w K mg base CX0 2 f fd ["self","web"] (Ws K C):=by
 r F.ok ADd § ¦
 ·o⟨r,p,z,bs,rfl,_⟩:=h
  rfl
 o⟨r,p,z,bs,rfl,hW,z10,q⟩:=h;r⟨_,Aj (Az (Bb (Lj rfl) rfl T.tuple PyProof.Rows.boot_tuple (Aa (Bb JW rfl T.range PyProof.Rows.boot_range (Aa (Bt (pv 1) T.cl mS GS hr bS .nil pass0) Ad)) Ad))),?_⟩;o⟨dw,jw,hw,_⟩:=id hW;r⟨_,rfl,p,dw,_,rfl,hw,Ck _ _ £ £,p,z,bs,rfl,hW,(z:Int),rfl,fun R hR=>⟨R,(z:Int),rfl,Ab,by w,by w,fun t ht=>?_⟩⟩;r q t _ ((┊ hR _).trans (┊ ht _)) (SqT.of ?_);rw[Ab,Int.toNat_natCast];unfold begW below;rw[List.map_map,List.map_map];rfl
theorem AFT:FnScope ["self","web","state","number"] ["self","web","state","number"] (Ac PJ):=¡
theorem ADX(F:Fun K "left" "Rule.left" PJ f fd):FnOk P w K mg base CX0 1 f fd ["self","web","state","number"] Ur:=by
 r F.ok AFT § ¦
 ·o⟨r,p,b,x,rfl,_⟩:=h
  rfl
 o⟨r,p,b,x,rfl,q⟩:=h;!⟨_,Aj (Az (pv 2)),⟨_,rfl,q⟩⟩
theorem AGG:FnScope ["self","web","state"] ["self","web","state"] (Ac ZX):=¡
theorem AFX(F:Fun K "fulfilled" "Woods.fulfilled" ZX f fd):FnOk P w K mg base CX0 1 f fd ["self","web","state"] (ABo uW K):=by
 r F.ok AGG § ¦
 ·o⟨r,p,b,st,rfl,_⟩:=h
  rfl
 o⟨r,p,b,st,rfl,_,q⟩:=h;!⟨_,Aj (Az KJ),q⟩
theorem AAG:FnScope ["self","web","state","point"] ["self","web","state","point"] (Ac Gh):=¡
theorem Yl{fH:Addr}{fdH:FuncData}(F:Fun K "passed" "Woods.passed" Gh f fd)
  (GH:FnOk P w K mg base CX0 2 fH fdH ["state","point"] (Wb K)) (bH:Binds K fdH ["state","point"] []) (kH:© K (.ref fH)=true) (mH:mg "heads_without" = some (.ref fH)) :
  FnOk P w K mg base CX0 3 f fd ["self","web","state","point"] (Sg uW K D):=by
 r F.ok AAG § ¦
 ·o⟨p,b,dx,a,q,z,st,rfl,_⟩:=h
  rfl
 o⟨p,b,dx,a,qp,z,st,rfl,ha,hb,vl,qz,z10,q⟩:=h;h vl':st.length=z:=vl;r⟨_,Aj (Az (BP GH hr rfl mH kH bH .nil pass0 (Aa (pv 2) (Aa (pv 3) Ad)))),?_⟩;r⟨_,rfl,_,rfl,b,st,qp,rfl,hb,by w,by w,fun t H' s' hT=>q _ _ s' ⟨t,rfl,hT,?_⟩⟩;show (dropW st qp).length=z;rw[Mh];!vl'
theorem Wz:FnScope ["self","web","state","number","tie"] ["self","web","state","number"] (Ac Ip):=¡
theorem ABc{fO fT:Addr}{fdO fdT:FuncData}(F:Fun K "taken" "Woods.taken" Ip f fd)(T:Txt K mg C)
  (GO:FnOk P w K mg base CX0 1 fO fdO ["heads","one","other"] (Xj K)) (bO:Binds K fdO ["heads","one","other"] []) (kO:© K (.ref fO)=true) (mO:mg "parts_as_one" = some (.ref fO))
  (GT:FnOk P w K mg base CX0 1 fT fdT ["self"] (Ph K C)) (bT:Binds K fdT ["self"] []) (mT:Meth K C "ties" fT) :
  FnOk P w K mg base CX0 3 f fd ["self","web","state","number"] (Pu uW K C D):=by
 r F.ok Wz § ¦
 ·o⟨a,p,b,dx,t,z,bs,st,rfl,_⟩:=h
  rfl
 o⟨a,p,b,dx,t,z,bs,st,rfl,ha,hW,okb,hb,vl,⟨⟨i,ei⟩,⟨j,ej⟩⟩,tn,z10,q⟩:=h;h hr1:Room 1 _:=hr.mono ¤;h vl':st.length=z:=vl;r⟨_,Af (Ay (i:=4) Wz.nd rfl ④ (BK Bl (Bt (pv 1) T.cl mT GT hr1 bT .nil pass0) (pv 3) (fun _ _=>rfl)))
  (Af (CZ (Ar Cy (BK Bo (pv 2) (BK Bo (pv 4) Ah (fun _ _=>rfl)) (fun _ _=>rfl)) (BK Bo (pv 2) (BK Bo (pv 4) Ah (fun _ _=>rfl)) (fun _ _=>rfl)) ⑯) (Aj (Az ACJ)) Bd)
  (Aj (Az (Bb Bg rfl T.tuple PyProof.Rows.boot_tuple (Aa (BP GO hr1 rfl mO kO bO .nil pass0 (Aa (pv 2) (Aa (BK Bo (pv 2) (BK Bo (pv 4) Ah (fun _ _=>rfl)) (fun _ _=>rfl)) (Aa (BK Bo (pv 2) (BK Bo (pv 4) Ah (fun _ _=>rfl)) (fun _ _=>rfl)) Ad)))) Ad))))),?_⟩
 o⟨dw,jw,hw,_⟩:=id hW;r⟨_,rfl,p,dw,_,rfl,hw,Ck _ _ £ £,p,z,bs,rfl,hW,fun l H1 s1 hl hL=>?_⟩;o⟨l',ts,el,hX,px⟩:=hL;cases el;h hbt:bs[t]?=some bs[t]:=± tn;o⟨v,hv,rt⟩:=Paired.getL px hbt;o⟨x,y,ext,xz,yz⟩:=okb bs[t] (List.getElem_mem tn);h gd:bs.getD t []=bs[t]:=by rw[¯,hbt];rfl
 h ex:ea bs t=x:=by unfold ea;rw[gd,ext];rfl
 h ey:eb bs t=y:=by unfold eb;rw[gd,ext];rfl
 rw[ext] at rt;o⟨tq,rfl,htq⟩:=Bw rt;rw[ex] at ei;rw[ey] at ej;h q':∀(v':V) (H':Hp),Same H H'->RS uW K z H' v' (takeW st x y)->Q v' H':=by
  rw[<- ex,<- ey];!q
 h hb1:StAt K H1 b st:=s1.ts.seq hb;h gx:=UL (st:=st) (p:=x) ¢;h gy:=UL (st:=st) (p:=y) ¢;rw[ei] at gx;rw[ej] at gy;h at0':atI ([(x:Int),(y:Int)].map V.int) 0=some (.int (x:Int)):=rfl;h at1':atI ([(x:Int),(y:Int)].map V.int) 1=some (.int (y:Int)):=rfl;r⟨_,rfl,l,ts,_,_,rfl,rfl,hX,Bp hv,?_⟩;r⟨_,rfl,_,rfl,tq,_,_,_,rfl,rfl,htq,at0',b,_,_,_,rfl,rfl,hb1,gx,_,rfl,_,rfl,tq,_,_,_,rfl,rfl,htq,at1',b,_,_,_,rfl,rfl,hb1,gy,rfl,_,rfl,?_⟩;h tk:takeW st x y=if (some i:Option Int)=some j then none else some (joinW st i j):=by
  unfold takeW;rw[ei,ej]
 by_cases c:i=j
 ·r iteP (by rw[c]) (q' _ _ s1 ?_)
  rw[tk,if_pos (by rw[c])];!rfl
 ·r iteN (fun e=>c (V.int.inj e)) ?_
  rw[tk,if_neg (fun e=>c (Option.some.inj e))] at q';r⟨_,rfl,_,rfl,_,rfl,tq,_,_,_,rfl,rfl,htq,at0',b,_,_,_,rfl,rfl,hb1,gx,_,rfl,_,rfl,tq,_,_,_,rfl,rfl,htq,at1',b,_,_,_,rfl,rfl,hb1,gy,b,st,i,j,rfl,hb1,by w,fun l2 H2 s2 hl2 el2=>?_⟩;r⟨l2,_,rfl,.inl ⟨SqL.of el2,fun t2 ht2=>q' _ _ (s1.trans (s2.trans (┊ ht2 _))) ⟨t2,rfl,SqT.of Ab,?_⟩⟩⟩;show (joinW st i j).length=z;unfold joinW;rw[─];!vl'
end
def Wa(K:¨)(C Dc S:Addr):Sp:=fun vs H Q _=>∃(W r dr:Addr) (z:Nat) (bs:List ⑤),vs=[.ref W,.ref r]/\WebAt K C H W z bs/\H r=some (.ins Dc dr [])/\1<=z/\z<=10/\bs.length<=12/\OkB z bs /\
 ∀(p:Addr) (nums:List Row) (hd:Nat) (H':Hp),Same H H'->K42s.SvAt K S H' p bs.length nums hd->Canon bs.length nums hd->(∀ s:List Nat,s.Pairwise (· < ·)->(∀ x∈s,x<bs.length)->led nums hd s=acyc (ea bs) (eb bs) (fun p=>(p:Int)) s)->nums.length<=4000->Q (.ref p) H'
def GW(bs:List ⑤)(z t:Nat)(o:Option StO):Prop:=∀ st,o=some st->∃ lab,WdR z (fun p=>t<=Lp bs p) st lab
theorem Xc{z:Nat}{bs:List ⑤}(h:OkB z bs){t:Nat}(tn:t<bs.length):ea bs t<z/\eb bs t<z/\t<Lp bs (ea bs t)/\t<Lp bs (eb bs t):=by
 h hbt:bs[t]?=some bs[t]:=± tn;o⟨x,y,e,xz,yz⟩:=h bs[t] (List.getElem_mem tn);h gd:bs.getD t []=bs[t]:=by rw[¯,hbt];rfl
 h ex:ea bs t=x:=by unfold ea;rw[gd,e];rfl
 h ey:eb bs t=y:=by unfold eb;rw[gd,e];rfl
 rw[ex,ey];r⟨xz,yz,AEO tn ?_,AEO tn ?_⟩<;>(unfold onB;rw[gd,e];simp)
theorem Zz{z t:Nat}{bs:List ⑤}{st:StO}{lab:Nat->Int}(W:WdR z (fun p=>t<=Lp bs p) st lab):WdR z (fun p=>t+1<=Lp bs p) (passW st (behP bs z t)) lab:=by
 r(W.pass _ ?_ fun p hp=>?_).congr fun p pz=>?_
 ·!(List.nodup_range).filter _
 ·o⟨h1,h2⟩:=List.mem_filter.mp hp
  !⟨List.mem_range.mp h1,by have:=of_decide_eq_true h2;w⟩
 ·unfold behP
  rw[List.mem_filter,List.mem_range,decide_eq_true_iff];constructor
  ·rintro⟨h1,h2⟩
   have:¬ Lp bs p=t:=fun e=>h2 ⟨pz,e⟩;w
  ·intro h
   !⟨by w,fun h2=>by w⟩
theorem AEg{z:Nat}{bs:List ⑤}(h:OkB z bs):Good uW bs z (GW bs z):=fun t o st tn g e=>by
 cases o with
 | none=>cases e
 | some r =>
  o⟨lab,W⟩:=g r rfl;h e':passU uW r (behP bs z t)=some st:=e;rw[QX] at e';cases e';h W2:=Zz W;o⟨az,bz,la,lb⟩:=Xc h tn;o⟨i,ei,_⟩:=W2.hd _ az la;o⟨j,ej,_⟩:=W2.hd _ bz lb;r⟨⟨⟨_,ei⟩,⟨_,ej⟩⟩,fun st' e'=>?_,fun st' e'=>?_⟩
  ·cases e'
   !⟨lab,W2⟩
  ·by_cases c:lab (ea bs t)=lab (eb bs t)
   ·have:takU uW bs t (passW r (behP bs z t))=none:=W2.ring az bz la lb c
    rw[this] at e';cases e'
   ·o⟨st3,e3,W3⟩:=W2.join az bz la lb c
    have:takU uW bs t (passW r (behP bs z t))=some st3:=e3;rw[this] at e';cases e';!⟨_,W3⟩
theorem AFn{z:Nat}{bs:List ⑤}(h:OkB z bs)(s:List Nat)(pw:s.Pairwise (· < ·))(hs:∀ x∈s,x<bs.length):semC uW bs z bs.length 0 (some (begW z)) s=acyc (ea bs) (eb bs) (fun p=>(p:Int)) s:=by
 h e:(fun t r=>passU uW r (behP bs z t))=fun t st=>some (passW st ((List.range z).filter fun p=>decide (Lp bs p=t))):=by
  funext t r
  !QX _ r
 show semO lefU (takU uW bs) (fun t r=>passU uW r (behP bs z t)) uW.fu bs.length 0 (some (begW z)) s=_;rw[e];!ABk (z:=z) (n:=bs.length) (ea:=ea bs) (eb:=eb bs) (L:=Lp bs) (fun x xn=>Xc h xn) bs.length 0 (begW z) _ s ¢ (Mj z (Lp bs)) pw fun x hx=>⟨Nat.zero_le _,hs x hx⟩
section
variable{P:Program}{w:World}{K:¨}{mg:Str->Option Value}{base:Heap}{f C D Gc S:Addr}{fd:FuncData}
theorem Pq:FnScope ["web","rule","growth","top"] ["web","rule"] (Ac JM):=¡
theorem AAw{fI fK fB fG:Addr}{fdI fdK fdB fdG:FuncData}(F:Fun K "grown" "grown" JM f fd)(cD:Cls K D)(O:Gro K mg Gc)(M:Mk K Gc fI)
  (GI:FnOk P w K mg base CX0 3 fI fdI ["self","web","rule"] (Wi uW P w K C D Gc)) (bI:Binds K fdI ["self","web","rule"] [])
  (GK:∀ d,FnOk P w K mg base CX0 (d+5) fK fdK ["self","number","reached"] (Kc uW P w K C D Gc d)) (bK:Binds K fdK ["self","number","reached"] []) (mK:Meth K Gc "knot_at" fK)
  (GB:FnOk P w K mg base CX0 2 fB fdB ["self","web"] (Ws K C)) (bB:Binds K fdB ["self","web"] []) (mB:Meth K D "begun" fB)
  (GG:FnOk P w K mg base CX0 3 fG fdG ["n","rows","top"] (K42s.Pr K S)) (bG:Binds K fdG ["n","rows","top"] []) (kG:© K (.ref fG)=true) (mG:mg "least_graph" = some (.ref fG)) :
  FnOk P w K mg base CX0 18 f fd ["web","rule"] (Wa K C D S):=by
 r F.ok Pq § ¦
 ·o⟨W,r,dr,z,bs,rfl,_⟩:=h
  rfl
 o⟨W,r,dr,z,bs,rfl,hW,hr0,z1,z10,b8,okb,q⟩:=h;h hr2:Room 2 _:=hr.mono ¤;h hr3:Room 3 _:=hr.mono ¤;h hrM:Room (3+1) _:=hr.mono ¤;h hrK:Room (bs.length+5) _:=hr.mono ¢;r⟨_,Af (Ay (i:=2) Pq.nd rfl ④ (QF M GI hrM rfl O.mgG bI .nil pass0 (Aa (pv 0) (Aa (pv 1) Ad))))
  (Af (Ay (i:=3) Pq.nd rfl ④ (Dl (pv 2) O.cl mK (GK bs.length) hrK bK .nil pass0 (Aa Ah (Aa (Dl (pv 1) cD mB GB hr2 bB .nil pass0 (Aa (pv 0) Ad)) Ad))))
  (Aj (Az (BP GG hr3 rfl mG kG bG .nil pass0 (Aa (Bu (pv 2) rfl) (Aa (Bu (pv 2) rfl) (Aa (pv 3) Ad))))))),?_⟩
 r⟨_,rfl,_,rfl,fun g dx hg hdx ne=>?_⟩;h hg2:(upd H dx (.own g)) g=none:=by rw[Ag (Ne.symm ne)];!hg
 h s1:=(┊ hdx (.own g)).trans (┊ hg2 (.ins Gc dx []));o⟨dw,jw,hw,_⟩:=id hW;r⟨g,dx,W,r,dr,z,bs,rfl,Ab,Ae hw hg,Ae hr0 hg,hW.same s1,s1 _ _ hr0,z10,b8,fun Bh R Dk H2 k2 gr rw0 nR0 nD0=>⟨rfl,?_⟩⟩;h s2:Same H H2:=fun b o e=>k2 _ _ (s1 _ _ e) (Ae e hg);o⟨dg,hg2'⟩:=gr.ins;r⟨_,rfl,g,dg,_,rfl,hg2',XC _ _ _ _ _ _ £ £ £ £ £ £,_,rfl,r,dr,_,rfl,s2 _ _ hr0,rfl,_,rfl,_,W,z,bs,rfl,gr.web,z10,fun b H3 s3 hb=>?_⟩;h rw3:=rw0.same s3;h gr3:=gr.same s3;h p2:2 ^ bs.length<=2 ^ 12:=Nat.pow_le_pow_right ¤ b8;h gb:GW bs z 0 (some (begW z)):=fun st e=>by
  cases e;!⟨_,Mj z (Lp bs)⟩
 r⟨g,W,r,Bh,R,Dk,z,0,bs,.ref b,some (begW z),[],[],GW bs z,rfl,by w,gr3,z1,z10,b8,okb,AEg okb,gb,⟨b,rfl,hb,by show (begW z).length=z;unfold begW;rw[─,List.length_range]⟩,rw3,by show 0+_<=_;w,fun k more kvs' H4 kp rw4 ld _ cnt ml=>?_⟩;rw[List.nil_append] at rw4 ld;o⟨xs3,eR3,_⟩:=id rw3.at_;o⟨_,_,ax3,eD3,_⟩:=id rw3.dn;h gr4:=gr3.keep kp eR3 eD3;o⟨dg4,hg4⟩:=gr4.ins;o⟨xs4,eR4,px4⟩:=id rw4.at_;r⟨_,rfl,g,Gc,dg4,_,_,rfl,hg4,O.cl,O.nA,Oa _ _ _ _ _ _,_,rfl,g,Gc,dg4,_,_,rfl,hg4,O.cl,O.nR,Qq _ _ _ _ _ _,_,rfl,R,bs.length,k,more,rfl,K42s.RowsAt.of ⟨R,xs4,rfl,SqL.of eR4,px4⟩,rw4.ok,by w,by w,Ua rw4.ok b8 cnt k,ld.kn,fun p nums hd H' s' h1 h2 h3 h4=>?_⟩;h none_back:∀{x:Addr},(upd (upd H dx (.own g)) g (.ins Gc dx [])) x=none->H x=none:=fun {x} n=>by
  cases e:H x with
  | none=>rfl
  | some o=>have:=s1 _ _ e;rw[n] at this;cases this
 r q p nums hd H' (fun b o e=>s' _ _ (kp _ _ (Ae e (none_back nR0)) (Ae e (none_back nD0)) (s3 _ _ (s2 _ _ e)))) h1 h2 (fun s pw hs=>?_) h4.1;rw[h3 s,ld.eq s,AFn okb s pw hs]
end
def XF:Sp:=fun vs H Q _=>∃(c:Int),vs=[.int c]/\∀ z:Nat,1<=z->z<=10->Q (.int z) H
section
variable{P:Program}{w:World}{K:¨}{mg:Str->Option Value}{base:Heap}{f C:Addr}{fd:FuncData}
theorem AEq:FnScope ["_law_script","_law_k"] ["_law_script","_law_k"] (Ac Oe):=¡
theorem ADh(F:Fun K "_law_cell_at" "_law_cell_at" Oe f fd)(T:Txt K mg C):FnOk P w K mg base CX0 1 f fd ["_law_script","_law_k"] (Ub K):=by
 r F.ok AEq § ¦
 ·o⟨a,ns,k,rfl,_⟩:=h
  rfl
 o⟨a,ns,k,rfl,hS,h0,q⟩:=h;r⟨_,Af (CZ (Ar RM (pv 1) (BJ Aw rfl T.len PySem.boot_len (Aa (pv 0) Ad)) ⑯) (Aj (Az (BK Bl (pv 0) (pv 1) (fun _ _=>rfl)))) Bd) (Aj (Az Ah)),?_⟩;r⟨_,rfl,_,rfl,a,_,rfl,.inl hS,_,_,rfl,rfl,_,rfl,?_⟩;r ite2 (fun c=>?_) (fun c=>?_)
 ·h c':k<((⑬.length:Nat):Int):=of_decide_eq_true c
  rw[─] at c';o⟨v,hv⟩:=ABs h0 c';!⟨_,rfl,_,rfl,a,_,_,_,rfl,rfl,hS,hv,q v⟩
 ·!q 0
theorem AEJ:FnScope ["_law_cell","_law_k","_law_number"] ["_law_cell","_law_k"] (Ac Yw):=¡
theorem AFN(F:Fun K "_law_mixed" "_law_mixed" Yw f fd):FnOk P w K mg base CX0 1 f fd ["_law_cell","_law_k"] ADw:=by
 r F.ok AEJ § ¦
 ·o⟨c,k,rfl,_⟩:=h
  rfl
 o⟨c,k,rfl,q⟩:=h;r⟨_,Af (Ay (i:=2) AEJ.nd rfl ④ (BW Dh (BW Vh (BW Cw (BW Cw (pv 0) (BW Vh Ah (pv 1))) Ah) Ah) Ah))
  (Aj (Az (BW Dh (BW Vh (pv 2) (pv 2)) Ah))),?_⟩
 r⟨_,rfl,_,rfl,_,_,rfl,rfl,.inl ⟨by decide,by decide⟩,_,_,rfl,rfl,_,_,rfl,rfl,_,_,rfl,rfl,.inr ⟨by decide,by decide⟩,_,_,rfl,rfl,(by show (0:Int)<2147483647;decide),?_⟩;h h1:=Int.emod_nonneg ((c+31*k+5)*48271) (show (2147483647:Int)≠0 by decide);h h2:=Int.emod_lt_of_pos ((c+31*k+5)*48271) (show (0:Int)<2147483647 by decide);r⟨_,rfl,_,rfl,_,_,rfl,rfl,?_,_,_,rfl,rfl,(by show (0:Int)<1000003;decide),q _⟩;!.inl ⟨by w,by w⟩
theorem ACi:FnScope ["_law_cell"] ["_law_cell"] (Ac JH):=¡
theorem Zm(F:Fun K "_law_size" "_law_size" JH f fd):FnOk P w K mg base CX0 1 f fd ["_law_cell"] XF:=by
 r F.ok ACi § ¦
 ·o⟨c,rfl,_⟩:=h
  rfl
 o⟨c,rfl,q⟩:=h;r⟨_,Af (CZ (Ar Cy (BW Dh (BW En (pv 0) Ah) Ah) Ah ⑯) (Aj (Az (BW Cw Ah (BW Dh (BW En (pv 0) Ah) Ah)))) Bd)
  (Aj (Az (BW Cw Ah (BW Dh (BW En (pv 0) Ah) Ah)))),?_⟩
 h fin:∀ x:Int,1<=x->x<=10->Q (.int x) H:=fun x h1 h2=>by
  have:=q x.toNat ¢ ¢;rw[show ((x.toNat:Nat):Int)=x by w] at this;!this
 r⟨_,rfl,_,_,rfl,rfl,⟨by decide,by decide⟩,_,_,rfl,rfl,(by show (0:Int)<16;decide),rfl,_,rfl,?_⟩;r ite2 (fun _=>?_) (fun _=>?_)
 ·r⟨_,rfl,_,_,rfl,rfl,⟨by decide,by decide⟩,_,_,rfl,rfl,(by show (0:Int)<4;decide),_,_,rfl,rfl,?_⟩
  h h1:=Int.emod_nonneg (c / 32) (show (4:Int)≠0 by decide);h h2:=Int.emod_lt_of_pos (c / 32) (show (0:Int)<4 by decide);!fin (7+c / 32%4) ¢ ¢
 ·r⟨_,rfl,_,_,rfl,rfl,⟨by decide,by decide⟩,_,_,rfl,rfl,(by show (0:Int)<6;decide),_,_,rfl,rfl,?_⟩
  h h1:=Int.emod_nonneg (c / 32) (show (6:Int)≠0 by decide);h h2:=Int.emod_lt_of_pos (c / 32) (show (0:Int)<6 by decide);!fin (1+c / 32%6) ¢ ¢
end
end K42
end
section
namespace K35
open PySem L2
theorem ACH{a b:Nat}(h:b<a):srt [(a:Int),(b:Int)]=[(b:Int),(a:Int)]:=by rw[Dq,if_pos ¢]
theorem Qa{a b:Nat}(h:b<a):srt [(b:Int),(a:Int)]=[(b:Int),(a:Int)]:=by rw[Dq,if_neg ¢]
theorem KH{α:Type}:∀{l:List α}{j:Nat}{p:α},l[j]?=some p->(p::l.eraseIdx j).Perm l
 | [],j,p,h=>by cases h
 | a::l,0,p,h=>by
  cases h;!List.Perm.refl _
 | a::l,j+1,p,h=>(List.Perm.swap a p _).trans (List.Perm.cons a (KH (l:=l) (j:=j) (by u h)))
theorem ADH{as ps:List ⑤}{j:Nat}{p p':List Int}(hn:((as++ps).map srt).Nodup)(hj:ps[j]?=some p)(e:srt p'=srt p):(((as++[p'])++ps.eraseIdx j).map srt).Nodup:=by
 o⟨jl,ej⟩:=━ hj;h pm:(p::ps.eraseIdx j).Perm ps:=KH hj;h e2:(((as++[p'])++ps.eraseIdx j).map srt)=((as++(p::ps.eraseIdx j)).map srt):=by
  rw[List.append_assoc,List.map_append,List.map_append (l₁:=as)];show _++(srt p'::_)=_++(srt p::_);rw[e];rfl
 rw[e2];!(((List.Perm.append_left as pm).map srt).nodup_iff).mpr hn
theorem Paired.erase{α β:Type}{F:α->β->Prop}:∀{l:List α}{m:List β},Paired F l m->∀ j,Paired F (l.eraseIdx j) (m.eraseIdx j)
 | _,_,.nil,_=>.nil
 | _,_,.cons h t,0=>t
 | _,_,.cons h t,j+1=>.cons h (Paired.erase t j)
end K35
end
section
namespace K42
open PySem L2 G
def UpP(i:Nat)(t:List Int):Prop:=∃ a b:Nat,t=[(a:Int),(b:Int)]/\a<b/\b<i
def newU(i j:Nat):List ⑤:=(List.range j).map fun(o:Nat)=>[(o:Int),(i:Int)]
theorem Rj(i j:Nat):(newU i j).length=j:=by unfold newU;rw[─,List.length_range]
theorem ZC(i j:Nat):newU i (j+1)=newU i j++[[(j:Int),(i:Int)]]:=by
 unfold newU;rw[List.range_succ,List.map_append];rfl
theorem AEy{i j:Nat}{t:List Int}(h:t∈newU i j)(ji:j<=i):UpP (i+1) t:=by
 o⟨o,ho,rfl⟩:=List.mem_map.mp h;have:=List.mem_range.mp ho;!⟨o,i,rfl,by w,by w⟩
theorem Zx{i:Nat}{ps:List ⑤}(hd:∀ t∈ps,UpP i t)(hn:(ps.map srt).Nodup):((ps++newU i i).map srt).Nodup:=by
 h e:(newU i i).map srt=(List.range i).map fun(o:Nat)=>[(o:Int),(i:Int)]:=by
  unfold newU;rw[List.map_map];r List.map_congr_left fun o ho=>?_;!K35.Qa (List.mem_range.mp ho)
 rw[List.map_append,e,List.nodup_append];r⟨hn,?_,?_⟩
 ·unfold List.Nodup
  rw[List.pairwise_map];r List.nodup_range.imp fun {a b} h z=>h ?_;injection z with z _
  w
 ·rintro t ht u hu rfl
  o⟨t0,h0,rfl⟩:=List.mem_map.mp ht;o⟨a,b,rfl,ba,ai⟩:=hd t0 h0;o⟨o,ho,e⟩:=List.mem_map.mp hu;rw[K35.Qa ba] at e;injection e with e1 e2
  injection e2 with e2 _
  w
theorem Ng(ea eb:Nat->Nat):∀(s:List Nat) (lab:Nat->Int) (x:Nat),finL ea eb lab (s++[x])=mergeL (finL ea eb lab s) (ea x) (eb x)
 | [],_,_=>rfl
 | y::s,lab,x=>Ng ea eb s (mergeL lab (ea y) (eb y)) x
theorem Uc(lab:Nat->Int)(a b:Nat):mergeL lab a b=mergeL lab b a:=by
 funext q
 unfold mergeL;rw[Int.max_comm,Int.min_comm]
theorem ABf{as:List ⑤}{x:Nat}{a b:Nat}(h:as[x]?=some [(a:Int),(b:Int)]):(ea (as.map srt) x=a/\eb (as.map srt) x=b)\/(ea (as.map srt) x=b/\eb (as.map srt) x=a):=by
 h e:(as.map srt).getD x []=srt [(a:Int),(b:Int)]:=by
  rw[¯,┉,h];rfl
 unfold ea eb;rw[e,Dq];split
 ·!.inr ⟨rfl,rfl⟩
 ·!.inl ⟨rfl,rfl⟩
theorem Ye{as:List ⑤}{x:Nat}{a b:Nat}(h:as[x]?=some [(a:Int),(b:Int)])(lab:Nat->Int):mergeL lab (ea (as.map srt) x) (eb (as.map srt) x)=mergeL lab a b:=by
 rcases ABf h with⟨e1,e2⟩ | ⟨e1,e2⟩
 ·rw[e1,e2]
 ·rw[e1,e2,Uc]
theorem Xb{z:Nat}{as:List ⑤}(h:OkTies (z:Int) as):OkB z (as.map srt):=fun t ht=>by
 o⟨t0,h0,rfl⟩:=List.mem_map.mp ht;o⟨a,b,rfl,a0,a1,b0,b1,_⟩:=h.ok t0 h0;rw[Dq];split
 ·!⟨b.toNat,a.toNat,by rw[Int.toNat_of_nonneg b0,Int.toNat_of_nonneg a0],by w,by w⟩
 ·!⟨a.toNat,b.toNat,by rw[Int.toNat_of_nonneg b0,Int.toNat_of_nonneg a0],by w,by w⟩
theorem ACg{z:Nat}{bs:List ⑤}(h:OkB z bs){x:Nat}(hx:x<bs.length):ea bs x<z/\eb bs x<z:=by
 o⟨a,b,e,az,bz⟩:=h bs[x] (List.getElem_mem hx);h e':bs.getD x []=[(a:Int),(b:Int)]:=by rw[¯,± hx];!e
 unfold ea eb;rw[e'];!⟨az,bz⟩
theorem ACo{z:Nat}{bs:List ⑤}(h:OkB z bs){s:List Nat}(hs:∀ x∈s,x<bs.length){ms:List Int}(nd:ms.Nodup)(mem:∀ r,r∈ms↔r∈(List.range z).map fun p=>finL (ea bs) (eb bs) (fun p=>(p:Int)) s p) :
  decide (V.int (s.length:Nat)=V.int ((z:Int)-(ms.length:Nat)))=acyc (ea bs) (eb bs) (fun p=>(p:Int)) s:=by
 o⟨k',D,l1,l2,i⟩:=HY s _ z (Yq z) fun x hx=>ACg h (hs x hx);h D':Dst z (finL (ea bs) (eb bs) (fun p=>(p:Int)) s) ms.length:=⟨ms,nd,fun r=>by
  rw[mem,List.mem_map];!⟨fun⟨p,hp,e⟩=>⟨p,List.mem_range.mp hp,e⟩,fun⟨p,hp,e⟩=>⟨p,List.mem_range.mpr hp,e⟩⟩,rfl⟩
 h ek:=D.same D';subst ek;cases c:acyc (ea bs) (eb bs) (fun p=>(p:Int)) s with
 | true =>
  have:=i.mp c;!decide_eq_true (congrArg V.int ¢)
 | false =>
  r decide_eq_false fun e=>?_;injection e with e
  have:=i.mpr ¢;rw[c] at this;cases this
theorem rise_of{ms:List Int}{s:List Nat}(pm:ms.Perm (up s))(le:ms.Pairwise (·<=·))(nd:s.Nodup):∃ s':List Nat,ms=up s'/\s'.Pairwise (· < ·)/\∀ x,x∈s'↔x∈s:=by
 h inn:∀ m∈ms,0<=m:=fun m hm=>by
  o⟨x,_,rfl⟩:=List.mem_map.mp (pm.mem_iff.mp hm);w
 h e:ms=up (ms.map Int.toNat):=by
  unfold up;rw[List.map_map]
  conv=>lhs;rw[<- List.map_id ms]
  r List.map_congr_left fun m hm=>?_;!(Int.toNat_of_nonneg (inn m hm)).symm
 h nu:(up s).Nodup:=by
  unfold up List.Nodup;rw[List.pairwise_map];!nd.imp fun h z=>h ¢
 h nm:ms.Nodup:=pm.nodup_iff.mpr nu;r⟨ms.map Int.toNat,e,?_,fun x=>?_⟩
 ·rw[List.pairwise_map]
  r List.Pairwise.imp_of_mem (fun {a b} ha hb h=>?_) (List.Pairwise.imp₂ (fun a b (h1:a<=b) (h2:a≠b)=>(by w:a<b)) le nm);have:=inn a ha;have:=inn b hb;w
 ·constructor
  ·intro h
   o⟨m,hm,rfl⟩:=List.mem_map.mp h;o⟨y,hy,rfl⟩:=List.mem_map.mp (pm.mem_iff.mp hm);!hy
  ·intro h
   !List.mem_map.mpr ⟨(x:Int),pm.mem_iff.mpr (List.mem_map.mpr ⟨x,h,rfl⟩),rfl⟩
def Xf(K:¨):Sp:=fun vs H Q _=>∃(a:Addr) (ns:List Int) (y:Int) (m:Nat),vs=[.ref a,.int y,.int m]/\SqL K H a ⑬/\0<=y/\1<=m/\m<=10 /\
 ∀(l:Addr) (xs:List V) (as:List ⑤) (H':Hp),Same H H'->H l=none->H' l=some (.lst xs)->Paired (rPair K H') as xs->OkTies (m:Int) as->as.length<=12->Q (.ref l) H'
section
variable{P:Program}{w:World}{K:¨}{mg:Str->Option Value}{base:Heap}{f C D:Addr}{fd:FuncData}
theorem Ci:FnScope ["_law_script","_law_at","_law_many","_law_pairs","_law_b","_law_a","_law_head","_law_cell","_law_ties_here","_law_k","_law_number"] ["_law_script","_law_at","_law_many"] (Ac Iw):=¡
theorem Zk{fC fM:Addr}{fdC fdM:FuncData}(F:Fun K "_law_ties" "_law_ties" Iw f fd)(T:Txt K mg C)
  (GC:FnOk P w K mg base CX0 1 fC fdC ["_law_script","_law_k"] (Ub K)) (bC:Binds K fdC ["_law_script","_law_k"] []) (kC:© K (.ref fC)=true) (mC:mg "_law_cell_at" = some (.ref fC))
  (GM:FnOk P w K mg base CX0 1 fM fdM ["_law_cell","_law_k"] ADw) (bM:Binds K fdM ["_law_cell","_law_k"] []) (kM:© K (.ref fM)=true) (mM:mg "_law_mixed" = some (.ref fM)) :
  FnOk P w K mg base CX0 2 f fd ["_law_script","_law_at","_law_many"] (Xf K):=by
 r F.ok Ci § ¦
 ·o⟨a,ns,y,m,rfl,_⟩:=h
  rfl
 o⟨a,ns,y,m,rfl,hS,y0,m1,m10,q⟩:=h;h hr1:Room 1 _:=hr.mono ¤;r⟨_,Af (Ay (i:=3) Ci.nd rfl ④ (Cv Ad))
  (Af (DW PassesOwn.never rfl (Cj rfl T.range (Aa (pv 2) Ad)) (Av (i:=4) Ci.nd rfl ④)
   (Aj (DW PassesOwn.never rfl (Cj rfl T.range (Aa (pv 4) Ad)) (Av (i:=5) Ci.nd rfl ④)
    (Aj (DP (Ja PySem.F.plainAttrs_list PySem.F.slot_list_append PySem.F.type_list_append Cz (pv 3) (Aa (Ce (Aa (pv 5) (Aa (pv 4) Ad))) Ad)))))))
  (Af (Ay (i:=6) Ci.nd rfl ④ (BP GC hr1 rfl mC kC bC .nil pass0 (Aa (pv 0) (Aa (pv 1) Ad))))
  (Af (Ay (i:=7) Ci.nd rfl ④ (BP GC hr1 rfl mC kC bC .nil pass0 (Aa (pv 0) (Aa (BW Cw (pv 1) Ah) Ad))))
  (Af (Ay (i:=8) Ci.nd rfl ④ (Cv Ad))
  (Af (DW PassesOwn.never rfl (Cj rfl T.range (Aa (BJ (JT rfl) rfl T.min PyProof.Rows.boot_min (Aa (BW Dh (BW En (pv 6) Ah) Ah) (Aa (BJ Aw rfl T.len PySem.boot_len (Aa (pv 3) Ad)) Ad))) Ad)) (Av (i:=9) Ci.nd rfl ④)
   (Af (Ay (i:=10) Ci.nd rfl ④ (BW Dh (pv 7) (BJ Aw rfl T.len PySem.boot_len (Aa (pv 3) Ad))))
   (Wx (CZ (Ar Cy (BW Dh (pv 6) Ah) Ah ⑯) (Aj (Ay (i:=10) Ci.nd rfl ④ (BW Dh (BP GM hr1 rfl mM kM bM .nil pass0 (Aa (BP GC hr1 rfl mC kC bC .nil pass0 (Aa (pv 0) (Aa (BW Cw (pv 1) Ah) Ad))) (Aa (pv 9) Ad))) (BJ Aw rfl T.len PySem.boot_len (Aa (pv 3) Ad))))) Bd)
   (Af (Ay (i:=7) Ci.nd rfl ④ (BW En (pv 7) (BJ Aw rfl T.len PySem.boot_len (Aa (pv 3) Ad))))
   (Af (ACO (Ja PySem.F.plainAttrs_list PySem.F.slot_list_pop PySem.F.type_list_pop AAm (pv 3) (Aa (pv 10) Ad)) (Gf (K:=K) (n:=2) rfl rfl (Cd (Av (i:=5) Ci.nd rfl ④) (Cd (Av (i:=4) Ci.nd rfl ④) Gi))))
   (Aj (DP (Ja PySem.F.plainAttrs_list PySem.F.slot_list_append PySem.F.type_list_append Cz (pv 8) (Aa (BK Bl (Cv (Aa (Ce (Aa (pv 5) (Aa (pv 4) Ad))) (Aa (Ce (Aa (pv 4) (Aa (pv 5) Ad))) Ad))) (BW Dh (BW Cw (pv 10) (pv 9)) Ah) (fun _ _=>rfl)) Ad)))))))))
  (Aj (Az (pv 8)))))))),?_⟩
 r⟨Nat.zero_le _,fun Pa hPa=>?_⟩;h s0:=┊ hPa (.lst []);h e0:(upd H Pa (.lst [])) Pa=some (.lst []):=Ab;generalize upd H Pa (.lst [])=H0 at s0 e0;r⟨_,rfl,(m:Int),rfl,by w,by w,?_⟩;r Gg (lo:=0) (n:=(m:Int).toNat) (fun i σ H2=>∃(o4 o5:Option V) (ps:List ⑤) (xs:List V),σ=[some (.ref a),some (.int y),some (.int m),some (.ref Pa),o4,o5,none,none,none,none,none]/\Same H H2/\H2 Pa=some (.lst xs)/\Paired (rPair K H2) ps xs/\(∀ t∈ps,UpP i t)/\(ps.map srt).Nodup/\ps.length<=10*i) ⟨none,none,[],[],rfl,s0,e0,.nil,fun t h=>by (cases h),List.nodup_nil,Nat.le_refl _⟩ ?_ ?_
 ·rintro i σ H2 hi ⟨o4,o5,ps,xs,rfl,sm,eP,pp,dn,nd,ln⟩
  h ei:(0:Int)+i=(i:Int):=by w
  rw[ei];h i9:i<10:=by w
  h lx:=┅ pp;r⟨_,rfl,(i:Int),rfl,by w,by w,?_⟩;r Gg (lo:=0) (n:=(i:Int).toNat) (fun j σ H3=>∃(o5:Option V) (ys:List V),σ=[some (.ref a),some (.int y),some (.int m),some (.ref Pa),some (.int i),o5,none,none,none,none,none]/\Same H H3/\H3 Pa=some (.lst (xs++ys))/\Paired (rPair K H3) (ps++newU i j) (xs++ys)) ⟨o5,[],rfl,sm,by rw[List.append_nil];!eP,by rw[List.append_nil];show Paired _ (ps++[]) _;rw[List.append_nil];!pp⟩ ?_ ?_
  ·rintro j σ H3 hj ⟨o5,ys,rfl,s3,eQ,pq⟩
   h ej:(0:Int)+j=(j:Int):=by w
   rw[ej];h lq:=┅ pq;rw[│,Rj] at lq;r⟨_,rfl,.inl ⟨rfl,_,SqL.of eQ⟩,_,rfl,_,rfl,(by show 2<=sizeLine;decide),fun t ht=>?_⟩;h s4:=┊ ht (.tup [.int (j:Int),.int (i:Int)]);h tP:t≠Pa:=fun z=>by rw[z,eQ] at ht;cases ht
   r⟨Pa,_,_,rfl,rfl,s4 _ _ eQ,Ax ¢,?_⟩;h ts:TSm H3 (upd (upd H3 t (.tup [.int (j:Int),.int (i:Int)])) Pa (.lst (xs++ys++[.ref t]))):=s4.ts.trans (TSm.lst (s4 _ _ eQ));r⟨_,ys++[.ref t],rfl,fun b o e=>?_,?_,?_⟩
   ·rw[Ag (Ae e hPa)]
    !s4 _ _ (s3 b o e)
   ·rw[Ab,List.append_assoc]
   ·rw[ZC,<- List.append_assoc,<- List.append_assoc]
    !Paired.app (Paired.imp (fun a b=>Ak Ao _ _ a b ts) pq) (Paired.one (DQ (ns:=[(j:Int),(i:Int)]) (by rw[Ag tP];!Ab)))
  ·rintro σ H3 ⟨o5,ys,rfl,s3,eQ,pq⟩
   rw[Int.toNat_natCast] at pq;r⟨_,_,ps++newU i i,xs++ys,rfl,s3,eQ,pq,fun t ht=>?_,Zx dn nd,by rw[│,Rj];w⟩;rcases List.mem_append.mp ht with ht | ht
   ·o⟨a,b,e,h1,h2⟩:=dn t ht
    !⟨a,b,e,h1,by w⟩
   ·!AEy ht ②
 rintro σ H2 ⟨o4,o5,ps0,xs0,rfl,sm,eP,pp,dn,nd,ln⟩;rw[Int.toNat_natCast] at dn ln;r⟨_,rfl,_,rfl,a,ns,y,rfl,sm.seq hS,y0,fun hd=>?_⟩;r⟨_,rfl,_,rfl,_,_,rfl,rfl,a,ns,y+1,rfl,sm.seq hS,by w,fun c0=>?_⟩;r⟨Nat.zero_le _,fun R hR=>?_⟩;h PR:Pa≠R:=Ae eP hR;h hRH:H R=none:=sm.free hR;h lx0:=┅ pp;h sR:=┊ hR (.lst []);h h0:=Int.emod_nonneg (hd / 192) (show (13:Int)≠0 by decide);h h1:=Int.emod_lt_of_pos (hd / 192) (show (0:Int)<13 by decide);r⟨_,rfl,_,_,rfl,rfl,⟨by decide,by decide⟩,_,_,rfl,rfl,(by show (0:Int)<13;decide),_,rfl,Pa,_,rfl,.inl (SqL.of (sR _ _ eP)),_,_,rfl,?_⟩;obtain ⟨cnt,ec,cl1,cl2⟩:∃ cnt:Nat,(if ((xs0.length:Nat):Int)<hd / 192%13 then ((xs0.length:Nat):Int) else hd / 192%13)=(cnt:Int)/\cnt<=12/\cnt<=ps0.length:=by
  r⟨(if ((xs0.length:Nat):Int)<hd / 192%13 then ((xs0.length:Nat):Int) else hd / 192%13).toNat,?_,?_,?_⟩<;>split<;>w
 rw[ec];r⟨(cnt:Int),rfl,by w,by w,?_⟩;r Gg (lo:=0) (n:=(cnt:Int).toNat) (fun i σ H3=>∃(o4 o5 o9 o10:Option V) (c:Int) (ps as:List ⑤) (xs ys:List V),σ=[some (.ref a),some (.int y),some (.int m),some (.ref Pa),o4,o5,some (.int hd),some (.int c),some (.ref R),o9,o10]/\Same H H3/\H3 Pa=some (.lst xs)/\H3 R=some (.lst ys)/\Paired (rPair K H3) ps xs/\Paired (rPair K H3) as ys/\(∀ t∈ps,UpP m t)/\(∀ t∈as,OkTie m t)/\((as++ps).map srt).Nodup/\ps.length+i=ps0.length/\as.length=i) ?_ ?_ ?_
 ·!⟨_,_,_,_,c0,ps0,[],xs0,[],rfl,sm.trans sR,sR _ _ eP,Ab,Paired.imp (fun a b=>Ak Ao _ _ a b sR.ts) pp,.nil,dn,fun t h=>(by cases h),nd,rfl,rfl⟩
 ·rintro i σ H3 hi ⟨o4,o5,o9,o10,c,ps,as,xs,ys,rfl,s3,eP,eR,pp,pr,dn,ok,nd,ln,la⟩
  h ei:(0:Int)+i=(i:Int):=by w
  rw[ei];h lx:=┅ pp;h ly:=┅ pr;h xl:(0:Int)<(xs.length:Nat):=by w
  r⟨_,rfl,_,rfl,Pa,_,rfl,.inl (SqL.of eP),_,_,rfl,rfl,xl,?_⟩;r⟨fun σ' H'=>∃ j:Nat,j<xs.length/\σ'=[some (.ref a),some (.int y),some (.int m),some (.ref Pa),o4,o5,some (.int hd),some (.int c),some (.ref R),some (.int i),some (.int j)]/\H'=H3,?_,?_⟩
  ·h dr:∀ x:Int,∃ j:Nat,j<xs.length/\x%((xs.length:Nat):Int)=(j:Int):=fun x=>by
    h j0:=Int.emod_nonneg x (show ((xs.length:Nat):Int)≠0 by w);h j1:=Int.emod_lt_of_pos x xl;o⟨j,ej⟩:=Int.eq_ofNat_of_zero_le j0;!⟨j,by w,ej⟩
   h cg:∀{u v:Int},u=v->[some (V.ref a),some (.int y),some (.int m),some (.ref Pa),o4,o5,some (.int hd),some (.int c),some (.ref R),some (.int i),some (.int u)]=[some (V.ref a),some (.int y),some (.int m),some (.ref Pa),o4,o5,some (.int hd),some (.int c),some (.ref R),some (.int i),some (.int v)]:=fun e=>by rw[e]
   r⟨_,rfl,_,_,rfl,rfl,(by show (0:Int)<2;decide),rfl,_,rfl,?_⟩;r ite2 (fun _=>?_) (fun _=>?_)
   ·r⟨_,rfl,_,rfl,_,_,rfl,rfl,a,ns,y+1,rfl,s3.seq hS,by w,fun c1=>⟨_,rfl,c1,i,rfl,fun r=>?_⟩⟩
    o⟨j,jl,ej⟩:=dr r;!⟨_,rfl,Pa,_,rfl,.inl (SqL.of eP),_,_,rfl,rfl,xl,j,jl,cg ej,rfl⟩
   ·o⟨j,jl,ej⟩:=dr c
    !⟨j,jl,cg ej,rfl⟩
  rintro σ' H' ⟨j,jl,rfl,rfl⟩;obtain ⟨x,hx⟩:∃ x,xs[j]?=some x:=⟨_,± jl⟩;o⟨p,hp,rp⟩:=Paired.get pp hx;o⟨t,rfl,ht⟩:=Bw rp;o⟨u,v,rfl,uv,vm⟩:=dn p (┈ hp);r⟨_,rfl,_,rfl,Pa,_,rfl,.inl (SqL.of eP),_,_,rfl,rfl,⟨xl,by w⟩,?_⟩;h ix:=Qg (n:=xs.length) (i:=(j:Int)) (j:=j) (ABq jl);r⟨_,rfl,.inl ⟨rfl,_,SqL.of eP⟩,_,rfl,Pa,xs,_,j,.ref t,rfl,rfl,eP,by w,by w,ix.1,hx,?_⟩;h ts6:TSm H' (upd H' Pa (.lst (xs.eraseIdx j))):=TSm.lst eP;h eP6:(upd H' Pa (.lst (xs.eraseIdx j))) Pa=some (.lst (xs.eraseIdx j)):=Ab;h eR6:(upd H' Pa (.lst (xs.eraseIdx j))) R=some (.lst ys):=by rw[Ag (Ne.symm PR)];!eR
  h s6:Same H (upd H' Pa (.lst (xs.eraseIdx j))):=fun b o e=>by
   rw[Ag (Ae e hPa)];!s3 b o e
  h ht6:SqT K (upd H' Pa (.lst (xs.eraseIdx j))) t ([(u:Int),(v:Int)].map V.int):=ts6.seq ht;h pp6:Paired (rPair K (upd H' Pa (.lst (xs.eraseIdx j)))) (ps.eraseIdx j) (xs.eraseIdx j):=Paired.imp (fun a b=>Ak Ao _ _ a b ts6) (K35.Paired.erase pp j);h pr6:Paired (rPair K (upd H' Pa (.lst (xs.eraseIdx j)))) as ys:=Paired.imp (fun a b=>Ak Ao _ _ a b ts6) pr;generalize upd H' Pa (.lst (xs.eraseIdx j))=H6 at ts6 eP6 eR6 s6 ht6 pp6 pr6;r⟨t,_,rfl,ht6,rfl,_,_,rfl,_,_,rfl,rfl,?_⟩;r⟨_,rfl,.inl ⟨rfl,_,SqL.of eR6⟩,_,rfl,_,rfl,(by show 2<=sizeLine;decide),fun t3 ht3=>?_⟩;r⟨_,rfl,_,rfl,(by show 2<=sizeLine;decide),fun t4 ht4=>?_⟩;r⟨(by show 2<=sizeLine;decide),fun L hL=>?_⟩;h s7:=(┊ ht3 (.tup [.int (u:Int),.int (v:Int)])).trans ((┊ ht4 (.tup [.int (v:Int),.int (u:Int)])).trans (┊ hL (.lst [.ref t3,.ref t4])));h e3:(upd (upd (upd H6 t3 (.tup [.int (u:Int),.int (v:Int)])) t4 (.tup [.int (v:Int),.int (u:Int)])) L (.lst [.ref t3,.ref t4])) t3=some (.tup [.int (u:Int),.int (v:Int)]):=(┊ hL _) _ _ ((┊ ht4 _) _ _ Ab);h e4:(upd (upd (upd H6 t3 (.tup [.int (u:Int),.int (v:Int)])) t4 (.tup [.int (v:Int),.int (u:Int)])) L (.lst [.ref t3,.ref t4])) t4=some (.tup [.int (v:Int),.int (u:Int)]):=(┊ hL _) _ _ Ab;h eL:(upd (upd (upd H6 t3 (.tup [.int (u:Int),.int (v:Int)])) t4 (.tup [.int (v:Int),.int (u:Int)])) L (.lst [.ref t3,.ref t4])) L=some (.lst [.ref t3,.ref t4]):=Ab;generalize upd (upd (upd H6 t3 (.tup [.int (u:Int),.int (v:Int)])) t4 (.tup [.int (v:Int),.int (u:Int)])) L (.lst [.ref t3,.ref t4])=H7 at s7 e3 e4 eL;h v0:=Int.emod_nonneg ((j:Int)+(i:Int)) (show (2:Int)≠0 by decide);h v1:=Int.emod_lt_of_pos ((j:Int)+(i:Int)) (show (0:Int)<2 by decide);obtain ⟨x',p',hat,esr,okp,rp'⟩:∃(x':Addr) (p':List Int),atI [V.ref t3,V.ref t4] (((j:Int)+(i:Int))%2)=some (.ref x')/\srt p'=srt [(u:Int),(v:Int)]/\OkTie m p'/\rPair K H7 p' (.ref x'):=by
   generalize ((j:Int)+(i:Int))%2=vv at v0 v1;o⟨k,rfl⟩:=Int.eq_ofNat_of_zero_le v0
   match k,v1 with
   | 0,_=>!⟨t3,[(u:Int),(v:Int)],Bp rfl,rfl,⟨_,_,rfl,by w,by w,by w,by w,by w⟩,DQ (ns:=[(u:Int),(v:Int)]) e3⟩
   | 1,_=>!⟨t4,[(v:Int),(u:Int)],Bp rfl,by rw[K35.Qa uv,K35.ACH uv],⟨_,_,rfl,by w,by w,by w,by w,by w⟩,DQ (ns:=[(v:Int),(u:Int)]) e4⟩
   | k+2,h=>!absurd h ¢
  h eR7:=s7 _ _ eR6;r⟨_,rfl,_,rfl,_,_,rfl,rfl,_,_,rfl,rfl,(by show (0:Int)<2;decide),L,_,_,_,rfl,rfl,SqL.of eL,hat,R,ys,_,rfl,rfl,eR7,Ax ¢,?_⟩;h ts8:TSm H7 (upd H7 R (.lst (ys++[.ref x']))):=TSm.lst eR7;r⟨_,_,_,_,_,ps.eraseIdx j,as++[p'],xs.eraseIdx j,ys++[.ref x'],rfl,fun b o e=>?_,?_,Ab,Paired.imp (fun a b=>Ak Ao _ _ a b (s7.ts.trans ts8)) pp6,Paired.app (Paired.imp (fun a b=>Ak Ao _ _ a b (s7.ts.trans ts8)) pr6) (Paired.one (Ak Ao _ _ _ _ ts8 rp')),fun t ht=>dn t (List.mem_of_mem_eraseIdx ht),fun t ht=>?_,K35.ADH nd hp esr,?_,?_⟩
  ·rw[Ag (Ae e hRH)]
   !s7 _ _ (s6 b o e)
  ·rw[Ag PR]
   !s7 _ _ eP6
  ·rcases List.mem_append.mp ht with ht | ht
   ·!ok t ht
   ·rw[List.mem_singleton.mp ht]
    !okp
  ·rw[List.length_eraseIdx,if_pos ¢]
   w
  ·rw[│,la]
   rfl
 ·rintro σ H3 ⟨o4,o5,o9,o10,c,ps,as,xs,ys,rfl,s3,eP,eR,pp,pr,dn,ok,nd,ln,la⟩
  rw[Int.toNat_natCast] at la;r⟨_,rfl,q R ys as H3 s3 hRH eR pr ⟨ok,?_⟩ ¢⟩;rw[List.map_append] at nd;!(List.nodup_append.mp nd).1
end
end K42
end
section
namespace G
end G
end
section
namespace K42s
open PySem L2 G
theorem AGI{K:¨}{H:Hp}{p:Addr}{s:List Int}{i:Int}{v:Int}{Q:VK}(h:Sq K H p (s.map V.int))(e:atI (s.map V.int) i=some (.int v))(q:Q (.int v) H):rIxA K (.ref p) (.int i) H Q :=
 h.elim (fun z=>.inl ⟨p,_,i,_,rfl,rfl,z,e,q⟩) fun z=>.inr ⟨p,_,i,_,rfl,rfl,z,e,q⟩
def meets(rows:List Row)(k:Nat)(s:List Int):Bool:=hasW rows (k+1) k s
theorem Hj{n:Nat}{rows:List Row}(o:Ok n rows){f k:Nat}(h:k<f)(kn:Knot rows k)(s:List Int):hasW rows f k s=meets rows k s:=by
 unfold meets;rw[Bool.eq_iff_iff,Kh o f k s h kn,Kh o (k+1) k s (Nat.lt_succ_self k) kn]
theorem Yp{rows:List Row}{k:Nat}(h:k<=1)(s:List Int):meets rows k s=decide (k=1/\s=[]):=by
 unfold meets hasW;rw[if_pos h]
theorem ZQ{n:Nat}{rows:List Row}(o:Ok n rows){k:Nat}(h:2<=k)(kn:Knot rows k):meets rows k []=meets rows ÷.2.1 []:=by
 o⟨t1,z1,z2,r1,r2,n1,n2⟩:=o.low (Bc kn h);rw[<- Hj o (f:=k) ¢ n1];show hasW rows (k+1) k []=_
 conv=>lhs;unfold hasW
 rw[if_neg ¢]
theorem Vn{n:Nat}{rows:List Row}(o:Ok n rows){k:Nat}(h:2<=k)(kn:Knot rows k)(x:Int)(xs:List Int):meets rows k (x::xs)=if x=(÷.1:Int) then meets rows ÷.2.2 xs else meets rows ÷.2.1 (x::xs):=by
 o⟨t1,z1,z2,r1,r2,n1,n2⟩:=o.low (Bc kn h);rw[<- Hj o (f:=k) ¢ n1,<- Hj o (f:=k) ¢ n2];show hasW rows (k+1) k (x::xs)=_
 conv=>lhs;unfold hasW
 rw[if_neg ¢]
def ADy(K:¨)(C:Addr):Sp:=fun vs H Q _=>∃(p t:Addr) (n hd:Nat) (rows:List Row) (s:List Int),vs=[.ref p,.ref t]/\SvAt K C H p n rows hd/\Ok n rows/\Knot rows hd/\Sq K H t (s.map V.int) /\
 ∀(H':Hp),Same H H'->Q (.bl (meets rows hd s)) H'
section
variable{P:Program}{w:World}{K:¨}{mg:Str->Option Value}{base:Heap}{f C:Addr}{fd:FuncData}
theorem Je:FnScope ["sieve","some","rows","knot","met","row"] ["sieve","some"] (Ac Xv):=¡
theorem AEQ{fK fT:Addr}{fdK fdT:FuncData}(F:Fun K "has_set" "has_set" Xv f fd)(T:Txt K mg C)
  (GK:FnOk P w K mg base CX0 1 fK fdK ["self"] (Hr K C)) (bK:Binds K fdK ["self"] []) (mK:Meth K C "knots" fK)
  (GT:FnOk P w K mg base CX0 1 fT fdT ["self"] (Wk K C)) (bT:Binds K fdT ["self"] []) (mT:Meth K C "top" fT) :
  FnOk P w K mg base CX0 2 f fd ["sieve","some"] (ADy K C):=by
 r F.ok Je § ¦
 ·o⟨p,t,n,hd,rows,s,rfl,_⟩:=h
  rfl
 o⟨p,t,n,hd,rows,s0,rfl,hV,ok,kn,hS,q⟩:=h;h hr1:Room 1 _:=hr.mono ¤;r⟨_,Af (Ay (i:=2) Je.nd rfl ④ (Bt (pv 0) T.cl mK GK hr1 bK .nil pass0))
  (Af (Ay (i:=3) Je.nd rfl ④ (Bt (pv 0) T.cl mT GT hr1 bT .nil pass0))
  (Af (Ay (i:=4) Je.nd rfl ④ Ah)
  (Af (ACR PassesOwn.never (Ar Nj (pv 3) Ah ⑯)
   (Af (Ay (i:=5) Je.nd rfl ④ (BK Bl (pv 2) (BW Fp (pv 3) Ah) (fun _ _=>rfl)))
   (Aj (CZ (PW.pt (ACT (Ar RM (pv 4) (BJ Aw rfl T.len PySem.boot_len (Aa (pv 1) Ad)) ⑯) (WR (Ar Cy (BK Fg (pv 1) (pv 4) (fun _ _=>rfl)) (BK Bo (pv 5) Ah (fun _ _=>rfl)) ⑯))))
    (Af (Ay (i:=4) Je.nd rfl ④ (BW Cw (pv 4) Ah)) (Aj (Ay (i:=3) Je.nd rfl ④ (BK Bo (pv 5) Ah (fun _ _=>rfl)))))
    (Aj (Ay (i:=3) Je.nd rfl ④ (BK Bo (pv 5) Ah (fun _ _=>rfl))))))))
  (Aj (Az (UW (Ek Cy (pv 3) Ah ⑯) (VD (Ek Cy (pv 4) (BJ Aw rfl T.len PySem.boot_len (Aa (pv 1) Ad)) ⑯)))))))),?_⟩
 o⟨dx,jj,hp,_⟩:=id hV;r⟨_,rfl,p,dx,_,rfl,hp,Ck _ _ _ £ £ £,p,n,hd,rows,rfl,hV,fun l ys H1 s1 hl el px=>?_⟩;r⟨_,rfl,p,dx,_,rfl,s1 _ _ hp,Ck _ _ _ £ £ £,p,n,hd,rows,rfl,hV.same s1,?_⟩;h hL:rLst K (rRow K) H1 rows (.ref l):=⟨l,ys,rfl,SqL.of el,px⟩;h hT:=Sq.same hS s1;h lt:(((s0.map V.int).length:Nat):Int)=s0.length:=by rw[─]
 r⟨fun m σ H2=>∃(k' at_:Nat) (o5:Option V),m=k'/\H2=H1/\σ=[some (.ref p),some (.ref t),some (.ref l),some (.int k'),some (.int at_),o5]/\Knot rows k'/\at_<=s0.length/\meets rows hd s0=meets rows k' (s0.drop at_),⟨hd,hd,0,none,rfl,rfl,rfl,kn,Nat.zero_le _,rfl⟩,?_⟩;rintro m σ H2 ⟨k',at_,o5,rfl,rfl,rfl,kn',al,e⟩;r⟨_,rfl,_,_,rfl,rfl,_,rfl,?_⟩;r ite2 (fun c=>?_) (fun c=>?_)
 ·h m2:2<=m:=by have:=of_decide_eq_true c;w
  o⟨xs,b,hS2,ha,hb⟩:=ABT hL kn' m2;o⟨t1,z1,z2,r1,r2,n1,n2⟩:=ok.low (Bc kn' m2);r⟨fun σ' H'=>∃ m',m'<m/\_,fun σ' H' h=>h,?_⟩;r⟨_,rfl,_,rfl,_,_,rfl,rfl,l,xs,_,_,rfl,rfl,hS2,ha,?_⟩;r⟨_,rfl,_,rfl,t,_,rfl,hT,_,_,rfl,rfl,_,rfl,?_⟩;rw[lt];by_cases c1:at_<s0.length
  ·h hd':s0.drop at_=s0[at_]::s0.drop (at_+1):=List.drop_eq_getElem_cons c1
   h hv:atI (s0.map V.int) (at_:Int)=some (.int s0[at_]):=Bp (by rw[┉,± c1];rfl);h ec:=Vn ok m2 kn' s0[at_] (s0.drop (at_+1));rw[hd',ec] at e;r iteP ¢ ?_;r⟨_,rfl,_,rfl,AGI hT hv ⟨_,rfl,b,_,_,_,rfl,rfl,hb,at0,rfl,_,rfl,?_⟩⟩;by_cases c3:s0[at_]=((rows.getD (m-2) (0,0,0)).1:Int)
   ·r iteP (by rw[c3]) ?_
    rw[if_pos c3] at e;!⟨_,rfl,_,_,rfl,rfl,_,rfl,b,_,_,_,rfl,rfl,hb,at2,_,¢,_,at_+1,_,rfl,rfl,rfl,n2,c1,e⟩
   ·r iteN (fun z=>c3 (by injection z with z)) ?_
    rw[if_neg c3,<- hd'] at e;!⟨_,rfl,b,_,_,_,rfl,rfl,hb,at1,_,¢,_,at_,_,rfl,rfl,rfl,n1,al,e⟩
  ·h hd':s0.drop at_=[]:=List.drop_eq_nil_of_le ¢
   r iteN ¢ (iteF ?_);rw[hd',ZQ ok m2 kn',<- hd'] at e;!⟨_,rfl,b,_,_,_,rfl,rfl,hb,at1,_,¢,_,at_,_,rfl,rfl,rfl,n1,al,e⟩
 ·h m1:m<=1:=by
   have:¬ (1:Int)<m:=fun z=>c (decide_eq_true z);w
  h q':=q H2 s1;rw[e,Yp m1] at q';r⟨_,rfl,rfl,_,rfl,?_⟩;by_cases c1:m=1
  ·subst c1
   r iteP rfl ?_;r⟨_,rfl,_,rfl,t,_,rfl,hT,rfl,?_⟩;rw[lt];h eb:decide (V.int (at_:Int)=V.int (s0.length:Int))=decide (1=1/\s0.drop at_=[]):=by
    by_cases c2:at_=s0.length
    ·rw[decide_eq_true (show V.int (at_:Int)=V.int (s0.length:Int) by rw[c2]),decide_eq_true ⟨rfl,List.drop_eq_nil_of_le ¢⟩]
    ·rw[decide_eq_false (fun z=>c2 (by injection z with z;w)),decide_eq_false (fun z=>c2 (by have:=List.drop_eq_nil_iff.mp z.2;w))]
   rw[eb];!q'
  ·r iteN (fun z=>by injection z with z;w) ?_
   rw[decide_eq_false (fun z=>c1 z.1)] at q';!q'
end
end K42s
end
section
namespace L2
open PySem PySem.Spec PyProof.Rows
theorem JB(val:Nat->Int):∀ i,(firstMet val i).Nodup
 | 0=>by rw[firstMet_zero];!List.nodup_nil
 | i+1=>by
  rw[firstMet_succ];unfold step_dedup;split
  ·!JB val i
  ·rename_i h
   rw[List.nodup_append];r⟨JB val i,by simp,fun a ha b hb e=>h ?_⟩;rw[List.mem_singleton.mp hb] at e;!List.any_eq_true.mpr ⟨a,ha,by rw[e];!beq_self_eq_true _⟩
theorem XM{l:List Int}{k:Int}:(l.any (· == k))=true↔k∈l:=by
 rw[List.any_eq_true];!⟨fun⟨x,hx,e⟩=>by rw[<- eq_of_beq e];!hx,fun h=>⟨k,h,beq_self_eq_true _⟩⟩
theorem ADR(ns:List Int)(k:Int):k∈firstMet (fun i=>ns.getD i 0) ns.length↔k∈ns:=by
 rw[<- XM,firstMet_any,XM];h e:(List.range ns.length).map (fun i=>ns.getD i 0)=ns:=by
  apply List.ext_getElem?;intro i;by_cases c:i<ns.length
  ·simp[c]
  ·simp[c]
 rw[e]
section
variable{X:Cx}{e:Expr}{te:TE}{p1 p2 pos pos2:Pos}
def AAk(K:¨)(te:TE):TE:=fun σ H Q=>te σ H fun v H1=>∃(a:Addr) (ns:List Int),v=.ref a/\SqL K H1 a ⑬/\ns.length<=1000 /\
 ∀ ms:List Int,ms.Nodup->(∀ r,r∈ms↔r∈ns)->Q (.int (ms.length:Nat)) H1
theorem Vb(hc:X.calm=true)(hg:Gl X "len")(hm:X.mg "len" = none)(hg2:Gl X "set")(hm2:X.mg "set" = none)(he:PE X e te)
  (hv:bootBuiltins "len" = some (.builtin "len"):=by !PySem.boot_len) (hv2:bootBuiltins "set" = some (.type "set"):=by decide +kernel)
  (s1:starEach [e] X.env=(false,eval e X.env)::starEach [] X.env:=by rfl)
  (s2:starEach [.Call (.Name "set" p2) [e] [] pos2] X.env=(false,eval (.Call (.Name "set" p2) [e] [] pos2) X.env)::starEach [] X.env:=by rfl) :
  PE X (.Call (.Name "len" p1) [.Call (.Name "set" p2) [e] [] pos2] [] pos) (AAk X.K te):=by
 intro pins s σ H Q I h;r wpAny_Call_Name_kw (Eb I hg hm hv ?_ ¤ ¤);r PyProof.Rows.callWith_builtin1 ?_ s2 rfl;rw[s2];show wpAny _ _ (spliced ((false,eval (.Call (.Name "set" p2) [e] [] pos2) X.env)::backTo pos (starEach [] X.env))) _ _ s;r Calls.spliced_cons ?_;r wpAny_Call_Name_kw (Eb I hg2 hm2 hv2 ?_ ¤ ¤);r PyProof.Rows.callWith_type1 ?_ s1 rfl;rw[s1];show wpAny _ _ (spliced ((false,eval e X.env)::backTo pos2 (starEach [] X.env))) _ _ s;r Calls.spliced_cons (thn (he pins s σ H _ I h) fun u s1 ⟨x,H1,I1,r1,q1⟩=>?_);r Calls.spliced_nil ?_;o⟨a,ns,rfl,ha,h61,q⟩:=q1;cases r1;o⟨its,r,pl,_⟩:=I1.list ha;h lx:=r.length;rw[─] at lx;h hl:=pl.isList;h hsz:its.toArray.size=ns.length:=by simp;w
 r PySem.call_set_list (items:=its.toArray) (ns:=ns) (I1.ok.hd hc) hl (by u intsAre_of r) (by rw[hsz];unfold scanBound;w) fun h' tk hS kp=>?_;r Calls.spliced_nil ?_;rw[hsz] at hS;o⟨o,es,ep,t,ho,hex,hd,_,_,_,hf,hn⟩:=hS;h I2:Inv X pins σ H1 {s1 with heap:=h',toks:=tk}:=I1.kept fun b o e=>kp b o (Heap.lt_size e) e;h le:=firstMet_length_le (fun i=>ns.getD i 0) ns.length;r PySem.call_len_set (s:={s1 with heap:=h',toks:=tk}) ho hex hd hf ¢ ?_;r⟨.int ((firstMet (fun i=>ns.getD i 0) ns.length).length:Nat),H1,I2.tok _,⟨_,by rw[hn]⟩,q _ (JB _ _) fun k=>ADR ns k⟩
end
end L2
end
section
namespace K42
open PySem L2 G
theorem ABG(s:List Nat):(up s).map V.int=nI s:=by
 unfold nI up;rw[List.map_map];rfl
theorem AEI{s:List Nat}{i:Nat}{v:V}(h:(nI s)[i]?=some v):∃ k,s[i]?=some k/\v=.int (k:Int):=by
 unfold nI at h;rw[┉] at h;cases e:s[i]? with
 | none=>rw[e] at h;cases h
 | some k=>rw[e] at h;!⟨k,rfl,(Option.some.inj h).symm⟩
theorem Jm(s:List Nat)(k:Nat):nI (s++[k])=nI s++[.int (k:Int)]:=by
 unfold nI;rw[List.map_append];rfl
def lbV(z:Nat)(lab:Nat->Int):List V:=(List.range z).map fun p=>V.int (lab p)
theorem Pg{z p:Nat}(lab:Nat->Int)(h:p<z):atI (lbV z lab) (p:Int)=some (.int (lab p)):=Bp (by
 unfold lbV;rw[┉,List.getElem?_range h];rfl)
theorem QK(z:Nat)(lab:Nat->Int):(lbV z lab).length=z:=by unfold lbV;rw[─,List.length_range]
theorem AAg(z:Nat)(lab:Nat->Int):lbV (z+1) lab=lbV z lab++[.int (lab z)]:=by
 unfold lbV;rw[List.range_succ,List.map_append];rfl
def TlAt(K:¨)(H:Hp)(l:Addr)(as:List ⑤):Prop:=∃ xs,H l=some (.lst xs)/\Paired (rPair K H) as xs
theorem TlAt.same{K:¨}{H H':Hp}{l:Addr}{as:List ⑤}(h:TlAt K H l as)(e:Same H H'):TlAt K H' l as:=let ⟨xs,a,b⟩:=h;⟨xs,e _ _ a,Paired.imp (fun a b r=>Ak Ao _ _ a b e.ts r) b⟩
theorem TlAt.get{K:¨}{H:Hp}{l:Addr}{as:List ⑤}{z:Int}(h:TlAt K H l as)(ok:OkTies z as){k:Nat}(hk:k<as.length):∃(xs:List V) (t:Addr) (a b:Nat),H l=some (.lst xs)/\xs.length=as.length/\xs[k]?=some (.ref t)/\SqT K H t [.int (a:Int),.int (b:Int)]/\as[k]?=some [(a:Int),(b:Int)]/\(a:Int)<z/\(b:Int)<z:=by
 o⟨xs,hx,px⟩:=h;h e:=± hk;o⟨v,hv,rv⟩:=Paired.getL px e;o⟨t,rfl,ht⟩:=Bw rv;o⟨a,b,ea,a0,a1,b0,b1,_⟩:=ok.ok as[k] (List.getElem_mem hk);rw[ea] at ht e;r⟨xs,t,a.toNat,b.toNat,hx,(┅ px).symm,hv,?_,?_,by w,by w⟩
 ·rw[Int.toNat_of_nonneg a0,Int.toNat_of_nonneg b0];!ht
 ·rw[Int.toNat_of_nonneg a0,Int.toNat_of_nonneg b0];!e
abbrev finA(as:List ⑤)(s:List Nat):Nat->Int:=finL (ea (as.map srt)) (eb (as.map srt)) (fun p=>(p:Int)) s
def AEP(K:¨):Sp:=fun vs H Q _=>∃(x:Int) (n:Nat),vs=[.int x,.int n]/\n<=12/\∀(t:Addr) (s:List Nat) (H':Hp),Same H H'->SqT K H' t (nI s)->s.Pairwise (· < ·)->(∀ x∈s,x<n)->Q (.ref t) H'
def Kz(K:¨):Sp:=fun vs H Q _=>∃(z:Nat) (tl t:Addr) (as:List ⑤) (s:List Nat),vs=[.int z,.ref tl,.ref t]/\TlAt K H tl as/\K42s.Sq K H t (nI s)/\OkTies (z:Int) as/\z<=10/\(∀ x∈s,x<as.length) /\
 ∀(l:Addr) (H':Hp),Same H H'->H l=none->H' l=some (.lst (lbV z (finA as s)))->Q (.ref l) H'
def Ti(K:¨):Sp:=fun vs H Q _=>∃(z:Nat) (tl t:Addr) (as:List ⑤) (s:List Nat),vs=[.int z,.ref tl,.ref t]/\TlAt K H tl as/\K42s.Sq K H t (nI s)/\OkTies (z:Int) as/\z<=10/\(∀ x∈s,x<as.length) /\
 ∀(H':Hp),Same H H'->Q (.bl (acyc (ea (as.map srt)) (eb (as.map srt)) (fun p=>(p:Int)) s)) H'
def Sy(K:¨):Sp:=fun vs H Q _=>∃(c:Int) (z:Nat) (tl:Addr) (as:List ⑤),vs=[.int c,.int z,.ref tl]/\TlAt K H tl as/\OkTies (z:Int) as/\z<=10/\as.length<=12 /\
 ∀(t:Addr) (s:List Nat) (H':Hp),Same H H'->SqT K H' t (nI s)->s.Pairwise (· < ·)->(∀ x∈s,x<as.length)->Q (.ref t) H'
section
variable{P:Program}{w:World}{K:¨}{mg:Str->Option Value}{base:Heap}{f C D:Addr}{fd:FuncData}
theorem AGB:FnScope ["_law_cell","_law_n"] ["_law_cell","_law_n"] (Ac UG):=¡
theorem AEu(F:Fun K "_law_set" "_law_set" UG f fd)(T:Txt K mg C):FnOk P w K mg base CX0 1 f fd ["_law_cell","_law_n"] (AEP K):=by
 r F.ok AGB § ¦
 ·o⟨x,n,rfl,_⟩:=h
  rfl
 o⟨x,n,rfl,n12,q⟩:=h;r⟨_,Aj (Az (Bb Bg rfl T.tuple PyProof.Rows.boot_tuple (Aa (Bv (Ac UG) ["_law_k"] ["_law_cell"] [0] rfl rfl £ ⟨⟨rfl,£⟩,trivial⟩ (Cj rfl T.range (Aa (pv 1) Ad))
   (fun _ _ _=>Av (i:=0) (show ((["_law_k"]:List Str)++(["_law_cell"]:List Str)).Nodup by decide +kernel) rfl ④)
   (fun _ _ _=>CP (Ar Cy (BW AAf (BW ABm (pv 1) (pv 0)) Ah) Ah ⑯))
   (fun _ _ _=>pv 0)) Ad))),?_⟩
 r⟨_,rfl,n,rfl,by w,by w,fun D hD=>?_⟩;r DG (lo:=0) (n:=(n:Int).toNat) (fun j τ H2=>∃(o:Option V) (s:List Nat),τ=[o,some (.int x)]/\Same H H2/\H2 D=some (.lst (nI s))/\s.Pairwise (· < ·)/\(∀ y∈s,y<j)/\s.length<=j) ⟨none,[],rfl,┊ hD _,Ab,.nil,fun y hy=>(by cases hy),Nat.le_refl _⟩ ?_ ?_
 ·rintro j τ H2 hj ⟨o,s,rfl,s2,eD,pw,lt,ll⟩
  h ej:(0:Int)+j=(j:Int):=by w
  rw[ej];r⟨_,rfl,_,rfl,_,_,rfl,rfl,(by show 0<=(j:Int);w),_,_,rfl,rfl,rfl,_,rfl,?_⟩;r ite2 (fun c=>?_) (fun c=>?_)
  ·r⟨_,rfl,_,eD,Ax (by rw[Ds];w),_,s++[j],rfl,fun b o e=>?_,?_,?_,fun y hy=>?_,by rw[│];show s.length+1<=j+1;w⟩
   ·rw[Ag (Ae e hD)]
    !s2 b o e
   ·rw[Ab,Jm]
   ·!List.pairwise_append.mpr ⟨pw,List.pairwise_singleton ..,fun a ha b hb=>by rw[List.mem_singleton.mp hb];!lt a ha⟩
   ·rcases List.mem_append.mp hy with h | h
    ·!Nat.lt_succ_of_lt (lt y h)
    ·rw[List.mem_singleton.mp h];!Nat.lt_succ_self _
  ·!⟨_,s,rfl,s2,eD,pw,fun y hy=>Nat.lt_succ_of_lt (lt y hy),by w⟩
 ·rintro τ H2 ⟨o,s,rfl,s2,eD,pw,lt,ll⟩
  rw[Int.toNat_natCast] at lt;r⟨D,_,rfl,.inl ⟨SqL.of eD,fun t ht=>?_⟩⟩;!q t s _ (s2.trans (┊ ht _)) (SqT.of Ab) pw lt
theorem Ey:FnScope ["_law_many","_law_ties_here","_law_some","_law_labels_here","_law_k","_law_low","_law_high"] ["_law_many","_law_ties_here","_law_some"] (Ac Fi):=¡
theorem Yo(F:Fun K "_law_labels" "_law_labels" Fi f fd)(T:Txt K mg C):FnOk P w K mg base CX0 1 f fd ["_law_many","_law_ties_here","_law_some"] (Kz K):=by
 r F.ok Ey § ¦
 ·o⟨z,tl,t,as,s,rfl,_⟩:=h
  rfl
 o⟨z,tl,t,as,s,rfl,hT,hS,ok,z10,hs,q⟩:=h;r⟨_,Af (Ay (i:=3) Ey.nd rfl ④ (Bb (Ls rfl) rfl T.list PyProof.Rows.boot_list (Aa (Bb JW rfl T.range PyProof.Rows.boot_range (Aa (pv 0) Ad)) Ad)))
  (Af (DW PassesOwn.never rfl (VP (pv 2)) (Av (i:=4) Ey.nd rfl ④)
   (Af (Ay (i:=5) Ey.nd rfl (Or.inr rfl) (BJ (JT rfl) rfl T.min PyProof.Rows.boot_min
    (Aa (BK Bl (pv 3) (BK Bo (BK Bl (pv 1) (pv 4) (fun _ _=>rfl)) Ah (fun _ _=>rfl)) (fun _ _=>rfl)) (Aa (BK Bl (pv 3) (BK Bo (BK Bl (pv 1) (pv 4) (fun _ _=>rfl)) Ah (fun _ _=>rfl)) (fun _ _=>rfl)) Ad))))
   (Af (Ay (i:=6) Ey.nd rfl (Or.inr rfl) (BJ (Yt rfl) rfl T.max PyProof.Rows.boot_max
    (Aa (BK Bl (pv 3) (BK Bo (BK Bl (pv 1) (pv 4) (fun _ _=>rfl)) Ah (fun _ _=>rfl)) (fun _ _=>rfl)) (Aa (BK Bl (pv 3) (BK Bo (BK Bl (pv 1) (pv 4) (fun _ _=>rfl)) Ah (fun _ _=>rfl)) (fun _ _=>rfl)) Ad))))
   (Aj (QS (i:=3) (Ac Fi) ["_law_label"] ["_law_high","_law_low"] [6,5] Ey.nd rfl ④ rfl rfl £ ⟨⟨rfl,£⟩,⟨rfl,£⟩,trivial⟩ (CK (pv 3))
    (fun _ _ _=>Av (i:=0) (show ((["_law_label"]:List Str)++(["_law_high","_law_low"]:List Str)).Nodup by decide +kernel) rfl ④) (fun _ _ _=>DX)
    (fun _ _ _=>Hx (Ar Cy (pv 0) (pv 1) ⑯) (pv 2) (pv 0)))))))
  (Aj (Az (pv 3)))),?_⟩
 r⟨_,rfl,(z:Int),rfl,fun r hr0=>?_⟩;r⟨r,(z:Int),rfl,Ab,by w,by w,fun L0 hL0=>?_⟩;h s0:=(┊ hr0 (.rng 0 (z:Int))).trans (┊ hL0 (.lst ((below (z:Int).toNat).map V.int)));h nL0:H L0=none:=(┊ hr0 (.rng 0 (z:Int))).free hL0;h e0:(upd (upd H r (.rng 0 (z:Int))) L0 (.lst ((below (z:Int).toNat).map V.int))) L0=some (.lst (lbV z fun p=>(p:Int))):=by
  rw[Ab,Int.toNat_natCast]
  congr 2
  unfold lbV below;rw[List.map_map];rfl
 generalize upd (upd H r (.rng 0 (z:Int))) L0 (.lst ((below (z:Int).toNat).map V.int))=H0 at s0 e0;r⟨_,rfl,t,rfl,Xh (K:=K) (a:=t) (xs:=nI s) (hS.same s0) (fun i σ H2=>∃(L:Addr) (o4 o5 o6:Option V),σ=[some (.int z),some (.ref tl),some (.ref t),some (.ref L),o4,o5,o6]/\Same H0 H2/\H L=none/\H2 L=some (.lst (lbV z (finA as (s.take i))))) ⟨L0,none,none,none,rfl,Same.refl _,nL0,by rw[List.take_zero];!e0⟩ (fun i σ H2 _ ⟨_,_,_,_,_,sm,_⟩=>sm) ?_ ?_⟩
 ·rintro i x σ H2 hx ⟨L,o4,o5,o6,rfl,sm,nL,eL⟩
  o⟨k,hk,rfl⟩:=AEI hx;h kl:k<as.length:=hs k (┈ hk);o⟨xs,tq,a,b,eT,xl,hxk,htq,hak,az,bz⟩:=(hT.same (s0.trans sm)).get ok kl;h aL:=Pg (z:=z) (finA as (s.take i)) (p:=a) ¢;h bL:=Pg (z:=z) (finA as (s.take i)) (p:=b) ¢;h fs:finA as (s.take (i+1))=mergeL (finA as (s.take i)) a b:=by
   show finL _ _ _ _=_;rw[K42s.take_snoc hk,Ng,Ye hak]
  rw[fs];generalize finA as (s.take i)=lab at eL aL bL;r⟨_,rfl,_,rfl,_,rfl,tl,_,_,_,rfl,rfl,SqL.of eT,Bp hxk,tq,_,_,_,rfl,rfl,htq,at0,L,_,_,_,rfl,rfl,SqL.of eL,aL,_,rfl,_,rfl,_,rfl,tl,_,_,_,rfl,rfl,SqL.of eT,Bp hxk,tq,_,_,_,rfl,rfl,htq,at1,L,_,_,_,rfl,rfl,SqL.of eL,bL,_,_,rfl,?_⟩;r⟨_,rfl,_,rfl,_,rfl,tl,_,_,_,rfl,rfl,SqL.of eT,Bp hxk,tq,_,_,_,rfl,rfl,htq,at0,L,_,_,_,rfl,rfl,SqL.of eL,aL,_,rfl,_,rfl,_,rfl,tl,_,_,_,rfl,rfl,SqL.of eT,Bp hxk,tq,_,_,_,rfl,rfl,htq,at1,L,_,_,_,rfl,rfl,SqL.of eL,bL,_,_,rfl,?_⟩;h e1:(if lab b<lab a then lab b else lab a)=min (lab a) (lab b):=by split<;>w
  h e2:(if lab b>lab a then lab b else lab a)=max (lab a) (lab b):=by split<;>w
  rw[e1,e2];r⟨_,rfl,L,rfl,⟨_,SqL.of eL⟩,fun Z hZ=>?_⟩;r Br (K:=K) (a:=L) (xs:=lbV z lab) (fun j τ H3=>∃ o:Option V,τ=[o,some (.int (max (lab a) (lab b))),some (.int (min (lab a) (lab b)))]/\Same H2 H3/\H3 Z=some (.lst (lbV j (mergeL lab a b)))) ⟨none,rfl,┊ hZ _,Ab⟩ (fun j τ H3 _ ⟨_,_,s3,_⟩=>SqL.of (s3 _ _ eL)) ?_ ?_
  ·rintro j v τ H3 hv ⟨o,rfl,s3,eZ⟩
   h jz:j<z:=by
    have:=(━ hv).1
    rwa [QK] at this
   obtain rfl:v=.int (lab j):=by
    unfold lbV at hv;rw[┉,List.getElem?_range jz] at hv;!(Option.some.inj hv).symm
   h fin:∀ d:Int,d=mergeL lab a b j->∃ ys,H3 Z=some (.lst ys)/\ys.length<sizeLine/\∃ o:Option V,[some (V.int (lab j)),some (.int (max (lab a) (lab b))),some (.int (min (lab a) (lab b)))]=[o,some (.int (max (lab a) (lab b))),some (.int (min (lab a) (lab b)))]/\Same H2 (upd H3 Z (.lst (ys++[.int d])))/\(upd H3 Z (.lst (ys++[.int d]))) Z=some (.lst (lbV (j+1) (mergeL lab a b))):=fun d ed=>by
    r⟨_,eZ,Ax (by rw[QK];w),_,rfl,fun b o e=>?_,?_⟩
    ·rw[Ag (Ae e hZ)]
     !s3 b o e
    ·rw[Ab,AAg,ed]
   r yesN ⟨_,rfl,_,rfl,rfl,_,rfl,?_⟩;by_cases c:lab j=max (lab a) (lab b)
   ·!iteP (congrArg V.int c) ⟨_,rfl,fin _ (by unfold mergeL;rw[if_pos c])⟩
   ·!iteN (fun z=>c (by injection z)) ⟨_,rfl,fin _ (by unfold mergeL;rw[if_neg c])⟩
  ·rintro τ H3 ⟨o,rfl,s3,eZ⟩
   rw[QK] at eZ;!⟨Z,_,_,_,rfl,sm.trans s3,(s0.trans sm).free hZ,eZ⟩
 ·rintro σ H2 ⟨L,o4,o5,o6,rfl,sm,nL,eL⟩
  rw[Ds,List.take_length] at eL;!⟨_,rfl,q L H2 (s0.trans sm) nL eL⟩
theorem AAS:FnScope ["_law_many","_law_ties_here","_law_some"] ["_law_many","_law_ties_here","_law_some"] (Ac Gj):=¡
theorem ZF{fL:Addr}{fdL:FuncData}(F:Fun K "_law_is_wood" "_law_is_wood" Gj f fd)(T:Txt K mg C)(mS:mg "set" = none)
  (GL:FnOk P w K mg base CX0 1 fL fdL ["_law_many","_law_ties_here","_law_some"] (Kz K)) (bL:Binds K fdL ["_law_many","_law_ties_here","_law_some"] []) (kL:© K (.ref fL)=true) (mL:mg "_law_labels" = some (.ref fL)) :
  FnOk P w K mg base CX0 2 f fd ["_law_many","_law_ties_here","_law_some"] (Ti K):=by
 r F.ok AAS § ¦
 ·o⟨z,tl,t,as,s,rfl,_⟩:=h
  rfl
 o⟨z,tl,t,as,s,rfl,hT,hS,ok,z10,hs,q⟩:=h;h hr1:Room 1 _:=hr.mono ¤;r⟨_,Aj (Az (Ek Cy ⑭ (BW Fp (pv 0) (Vb rfl rfl T.len rfl mS (BP GL hr1 rfl mL kL bL .nil pass0 (Aa (pv 0) (Aa (pv 1) (Aa (pv 2) Ad)))))) ⑯)),?_⟩;r⟨_,rfl,t,_,rfl,hS,_,rfl,_,rfl,_,rfl,_,rfl,z,tl,t,as,s,rfl,hT,hS,ok,z10,hs,fun l H' s' _ hl=>?_⟩;r⟨l,(List.range z).map (finA as s),rfl,SqL.of (by rw[hl];unfold lbV;rw[List.map_map];rfl),by rw[─,List.length_range];w,fun ms nd mem=>⟨_,_,rfl,rfl,rfl,?_⟩⟩;h e:=ACo (z:=z) (bs:=as.map srt) (Xb ok) (s:=s) (by rw[─];!hs) nd mem;rw[Ds];show Q (.bl (decide _)) H';rw[e];!q H' s'
end
end K42
end
section
namespace L2
open PySem PySem.Spec PyProof.Rows
structure RoomW(k:Nat)(A:Around):Prop where
 dp:A.depth+3*k+5<recursionLimit
 un:A.units+16*k+200<cLine
 gd:A.guards=some []
structure FnOkW(P:Program)(w:World)(K:¨)(mg:Str->Option Value)(base:Heap)(CX:CXT)(k:Nat)(f:Addr)(fd:FuncData)(ps:List Str)(sp:Sp):Prop where
 len:∀ vs H Q E,sp vs H Q E->vs.length=ps.length
 run:∀(A:Around) (outer:List Env) (s:Shared) (H:Hp) (args:Args) (us:List Value) (vs:List V) (Q:VK) (E:XK),RoomW k A->Env0 P w K mg base A outer s H->BindsTo s fd args (ps.zip us)->Vals vs us->sp vs H Q E ->
  codeAny (model P w) A (.call (.ref f) args) (CR CX outer P w H s Q E) s
end L2
end
section
namespace L2
open PySem PySem.Spec PySem.W PyProof.Rows
abbrev xo(oe:Obj):HO:=.frz oe (.ext fun _=>True)
end L2
end
section
namespace PySem.SeqAt
open PySem.AutoSeq1 (wpAny_loadPart')
open MeetsSeq
end PySem.SeqAt
namespace L2
open PySem PySem.Spec PySem.W PyProof.Rows
end L2
end
section
namespace K42
open PySem L2 G
theorem Np{s:List Nat}{j:Nat}(pw:s.Pairwise (· < ·))(lt:∀ y∈s,y<j):(s++[j]).Pairwise (· < ·)/\∀ y∈s++[j],y<j+1:=by
 r⟨List.pairwise_append.mpr ⟨pw,List.pairwise_singleton ..,fun a ha b hb=>by rw[List.mem_singleton.mp hb];!lt a ha⟩,fun y hy=>?_⟩;rcases List.mem_append.mp hy with h | h
 ·!Nat.lt_succ_of_lt (lt y h)
 ·rw[List.mem_singleton.mp h];!Nat.lt_succ_self _
section
variable{P:Program}{w:World}{K:¨}{mg:Str->Option Value}{base:Heap}{f C D:Addr}{fd:FuncData}
theorem Fy:FnScope ["_law_cell","_law_many","_law_ties_here","_law_some","_law_k","_law_labels_here","_law_at"] ["_law_cell","_law_many","_law_ties_here"] (Ac Fb):=¡
theorem Za{fS fL:Addr}{fdS fdL:FuncData}(F:Fun K "_law_picked" "_law_picked" Fb f fd)(T:Txt K mg C)
  (GS:FnOk P w K mg base CX0 1 fS fdS ["_law_cell","_law_n"] (AEP K)) (bS:Binds K fdS ["_law_cell","_law_n"] []) (kS:© K (.ref fS)=true) (mS:mg "_law_set" = some (.ref fS))
  (GL:FnOk P w K mg base CX0 1 fL fdL ["_law_many","_law_ties_here","_law_some"] (Kz K)) (bL:Binds K fdL ["_law_many","_law_ties_here","_law_some"] []) (kL:© K (.ref fL)=true) (mL:mg "_law_labels" = some (.ref fL)) :
  FnOk P w K mg base CX0 2 f fd ["_law_cell","_law_many","_law_ties_here"] (Sy K):=by
 r F.ok Fy § ¦
 ·o⟨c,z,tl,as,rfl,_⟩:=h
  rfl
 o⟨c,z,tl,as,rfl,hT,ok,z10,a12,q⟩:=h;h hr1:Room 1 _:=hr.mono ¤;r⟨_,Af (CZ (Ar Cy (BW Dh (pv 0) Ah) Ah ⑯) (Aj (Az (BP GS hr1 rfl mS kS bS .nil pass0 (Aa (BW En (pv 0) Ah) (Aa ⑭ Ad))))) Bd)
  (Af (Ay (i:=3) Fy.nd rfl ④ (Cv Ad))
  (Af (DW PassesOwn.never rfl (Cj rfl T.range (Aa ⑭ Ad)) (Av (i:=4) Fy.nd rfl ④)
   (Af (Ay (i:=5) Fy.nd rfl ④ (BP GL hr1 rfl mL kL bL .nil pass0 (Aa (pv 1) (Aa (pv 2) (Aa (pv 3) Ad)))))
   (Aj (CZ (PW.pt (ACT (Ar Oi (BK Bl (pv 5) (BK Bo (BK Bl (pv 2) (pv 4) (fun _ _=>rfl)) Ah (fun _ _=>rfl)) (fun _ _=>rfl)) (BK Bl (pv 5) (BK Bo (BK Bl (pv 2) (pv 4) (fun _ _=>rfl)) Ah (fun _ _=>rfl)) (fun _ _=>rfl)) ⑯)
     (WR (Ar Cy (BW AAf (BW ABm (BW En (pv 0) Ah) (pv 4)) Ah) Ah ⑯))))
    (Aj (DP (Ja PySem.F.plainAttrs_list PySem.F.slot_list_append PySem.F.type_list_append Cz (pv 3) (Aa (pv 4) Ad)))) Bd))))
  (Af (CZ (PW.pt (Jf (Ar Cy (BW Dh (pv 0) Ah) Ah ⑯) (HW (Ar Cy ⑭ Ah ⑯)))) (Aj (Az (Bb Bg rfl T.tuple PyProof.Rows.boot_tuple (Aa (pv 3) Ad)))) Bd)
  (Af (Ay (i:=6) Fy.nd rfl (Or.inr rfl) (BW Dh (BW En (pv 0) Ah) ⑭))
  (Af (CZ (Ar Mf (pv 6) (pv 3) rfl) (Aj (Az (Bb Bg rfl T.tuple PyProof.Rows.boot_tuple (Aa (Bv (Ac Fb) ["_law_k"] ["_law_at"] [6] rfl rfl £ ⟨⟨rfl,£⟩,trivial⟩ (CK (pv 3))
     (fun _ _ _=>Av (i:=0) (show ((["_law_k"]:List Str)++(["_law_at"]:List Str)).Nodup by decide +kernel) rfl ④)
     (fun _ _ _=>CP (Ar Oi (pv 0) (pv 1) ⑯)) (fun _ _ _=>pv 0)) Ad)))) Bd)
  (Aj (Az (Bb Bg rfl T.tuple PyProof.Rows.boot_tuple (Aa (BJ JZ rfl T.sorted PyProof.Rows.boot_sorted (Aa (BW Vq (pv 3) (Cv (Aa (pv 6) Ad))) Ad)) Ad))))))))),?_⟩
 o⟨xs0,eT0,pT0⟩:=id hT;h lx0:=┅ pT0;r⟨_,rfl,_,_,rfl,rfl,(by show (0:Int)<3;decide),rfl,_,rfl,?_⟩;r ite2 (fun _=>?_) (fun _=>?_)
 ·r⟨_,rfl,_,_,rfl,rfl,⟨by decide,by decide⟩,_,rfl,tl,_,rfl,.inl (SqL.of eT0),c / 3,xs0.length,rfl,by w,fun t s H' s' ht pw lt=>q t s H' s' ht pw (by rw[lx0];!lt)⟩
 r⟨Nat.zero_le _,fun S hS=>?_⟩;h sS:=┊ hS (.lst []);r⟨_,rfl,tl,_,rfl,.inl (SqL.of (sS _ _ eT0)),_,rfl,by w,by w,?_⟩;r Gg (lo:=0) (n:=((xs0.length:Nat):Int).toNat) (fun i σ H2=>∃(s:List Nat) (o4 o5:Option V),σ=[some (.int c),some (.int z),some (.ref tl),some (.ref S),o4,o5,none]/\Same H H2/\H2 S=some (.lst (nI s))/\s.Pairwise (· < ·)/\(∀ y∈s,y<i)/\s.length<=i) ⟨[],none,none,rfl,sS,Ab,.nil,fun y hy=>(by cases hy),Nat.le_refl _⟩ ?_ ?_
 ·rintro i σ H2 hi ⟨s,o4,o5,rfl,sm,eS,pw,lt,ll⟩
  rw[Int.toNat_natCast] at hi;h ei:(0:Int)+i=(i:Int):=by w
  rw[ei];r⟨_,rfl,_,rfl,_,rfl,z,tl,S,as,s,rfl,hT.same sm,.inl (SqL.of eS),ok,z10,fun x hx=>Nat.lt_trans (lt x hx) ¢,fun L H3 s3 nL eL=>?_⟩;h sm3:=sm.trans s3;o⟨xs,tq,a,b,eT,xl,hxk,htq,hak,az,bz⟩:=(hT.same sm3).get ok (k:=i) ¢;h aL:=Pg (z:=z) (finA as s) (p:=a) ¢;h bL:=Pg (z:=z) (finA as s) (p:=b) ¢;h stay:∃(s:List Nat) (o4' o5':Option V),[some (V.int c),some (.int z),some (.ref tl),some (.ref S),some (.int (i:Int)),some (.ref L),none]=[some (V.int c),some (.int z),some (.ref tl),some (.ref S),o4',o5',none]/\Same H H3/\H3 S=some (.lst (nI s))/\s.Pairwise (· < ·)/\(∀ y∈s,y<i+1)/\s.length<=i+1:=⟨s,_,_,rfl,sm3,s3 _ _ eS,pw,fun y hy=>Nat.lt_succ_of_lt (lt y hy),by w⟩;r⟨_,rfl,_,rfl,_,rfl,tl,_,_,_,rfl,rfl,SqL.of eT,Bp hxk,tq,_,_,_,rfl,rfl,htq,at0,L,_,_,_,rfl,rfl,SqL.of eL,aL,_,rfl,_,rfl,_,rfl,tl,_,_,_,rfl,rfl,SqL.of eT,Bp hxk,tq,_,_,_,rfl,rfl,htq,at1,L,_,_,_,rfl,rfl,SqL.of eL,bL,rfl,_,rfl,?_⟩;r ite2 (fun _=>?_) (fun _=>?_)
  ·r⟨_,rfl,_,_,rfl,rfl,⟨by decide,by decide⟩,_,rfl,_,_,rfl,rfl,(by show 0<=(i:Int);w),_,_,rfl,rfl,rfl,_,rfl,?_⟩
   r ite2 (fun _=>?_) (fun _=>?_)
   ·r⟨_,rfl,.inl ⟨rfl,_,SqL.of (s3 _ _ eS)⟩,_,rfl,S,_,_,rfl,rfl,s3 _ _ eS,Ax (by rw[Ds];w),s++[i],_,_,rfl,fun b o e=>?_,by rw[Ab,Jm],(Np pw lt).1,(Np pw lt).2,by rw[│];show s.length+1<=i+1;w⟩
    rw[Ag (Ae e hS)];!sm3 b o e
   ·!stay
  ·!iteF stay
 rintro σ H2 ⟨s,o4,o5,rfl,sm,eS,pw,lt,ll⟩;rw[Int.toNat_natCast,<- lx0] at lt ll;h eT:=sm _ _ eT0;h done:∃(p:Addr) (ys:List V),[V.ref S]=[V.ref p]/\((SqL K H2 p ys/\∀ l,H2 l=none->Q (.ref l) (upd H2 l (.tup ys)))\/(SqT K H2 p ys/\Q (.ref p) H2)):=⟨S,_,rfl,.inl ⟨SqL.of eS,fun t ht=>q t s _ (sm.trans (┊ ht _)) (SqT.of Ab) pw lt⟩⟩;r⟨_,rfl,_,_,rfl,rfl,(by show (0:Int)<3;decide),rfl,_,rfl,?_⟩;r ite2 (fun _=>?_) (fun _=>?_)
 ·!iteT ⟨_,rfl,done⟩
 r⟨_,rfl,tl,_,rfl,.inl (SqL.of eT),rfl,_,rfl,?_⟩;r ite2 (fun _=>?_) (fun c0=>?_)
 ·!⟨_,rfl,done⟩
 h c1:¬ V.int ((xs0.length:Nat):Int)=V.int 0:=fun h=>c0 (decide_eq_true h);h xp:0<xs0.length:=Nat.pos_of_ne_zero fun z=>c1 (by rw[z];rfl);h xl:(0:Int)<(xs0.length:Nat):=by w
 r⟨_,rfl,_,_,rfl,rfl,⟨by decide,by decide⟩,_,rfl,tl,_,rfl,.inl (SqL.of eT),_,_,rfl,rfl,xl,?_⟩;h j0:=Int.emod_nonneg (c / 3) (show ((xs0.length:Nat):Int)≠0 by w);h j1:=Int.emod_lt_of_pos (c / 3) xl;o⟨j,ej⟩:=Int.eq_ofNat_of_zero_le j0;rw[ej] at j1;dsimp only;rw[ej];r⟨_,rfl,_,rfl,S,_,rfl,.inl (SqL.of eS),rfl,WM s,_,rfl,?_⟩;rw[if_neg (show ¬ (false=true) by decide),ACI];by_cases cj:j∈s
 ·r iteP cj ?_
  r⟨_,rfl,S,rfl,⟨_,SqL.of eS⟩,fun Z hZ=>?_⟩;r Br (K:=K) (a:=S) (xs:=nI s) (fun i τ H3=>∃ o:Option V,τ=[o,some (.int (j:Int))]/\Same H2 H3/\H3 Z=some (.lst (nI ((s.take i).filter fun x=>decide (x≠j))))) ⟨none,rfl,┊ hZ _,Ab⟩ (fun i τ H3 _ ⟨_,_,s3,_⟩=>SqL.of (s3 _ _ eS)) ?_ ?_
  ·rintro i v τ H3 hv ⟨o,rfl,s3,eZ⟩
   o⟨k,hk,rfl⟩:=AEI hv;h fl:((s.take i).filter fun x=>decide (x≠j)).length<=12:=Nat.le_trans (List.length_filter_le ..) (by rw[List.length_take];w);r⟨_,rfl,_,rfl,rfl,_,rfl,?_⟩;by_cases e:k=j
   ·r iteNP (congrArg V.int (by rw[e])) ⟨_,rfl,s3,?_⟩
    rw[K42s.take_snoc hk,List.filter_append,List.filter_cons_of_neg (by u e),List.filter_nil,List.append_nil];!eZ
   ·r iteNN (fun z=>e (by injection z with z;w)) ⟨_,rfl,_,eZ,Ax (by rw[Ds];w),_,rfl,fun b o e'=>?_,?_⟩
    ·rw[Ag (Ae e' hZ)]
     !s3 b o e'
    ·rw[Ab,K42s.take_snoc hk,List.filter_append,List.filter_cons_of_pos (by u e),List.filter_nil,Jm]
  ·rintro τ H3 ⟨o,rfl,s3,eZ⟩
   rw[Ds,List.take_length] at eZ;r⟨Z,_,rfl,.inl ⟨SqL.of eZ,fun t ht=>?_⟩⟩;!q t _ _ (sm.trans (s3.trans (┊ ht _))) (SqT.of Ab) (pw.filter _) fun x hx=>lt x (List.mem_filter.mp hx).1
 ·r iteN cj ?_
  r⟨_,rfl,_,rfl,(by show 1<=sizeLine;decide),fun Y hY=>?_⟩;h s3:=┊ hY (.lst [V.int (j:Int)]);r⟨S,Y,_,_,rfl,rfl,s3 _ _ eS,Ab,Nat.le_of_lt (Ax (by rw[Ds];show s.length+1<=1000;w)),fun Z hZ=>?_⟩;h s4:=s3.trans (┊ hZ (.lst (nI s++[V.int (j:Int)])));r⟨Z,up (s++[j]),rfl,.inl (SqL.of (by rw[Ab,ABG,Jm])),by unfold up;rw[─,│];show s.length+1<64;w,fun W ms hW pm le=>?_⟩;o⟨s',rfl,pw',mem'⟩:=rise_of pm le (List.nodup_append.mpr ⟨pw.imp fun h=>Nat.ne_of_lt h,by simp,fun a ha b hb e=>cj (by rw[<- List.mem_singleton.mp hb,<- e];!ha)⟩);r⟨W,_,rfl,.inl ⟨SqL.of Ab,fun t ht=>?_⟩⟩;r q t s' _ (sm.trans (s4.trans ((┊ hW _).trans (┊ ht _)))) (SqT.of (by rw[Ab,ABG])) pw' fun x hx=>?_;rcases List.mem_append.mp ((mem' x).mp hx) with h | h
  ·!lt x h
  ·rw[List.mem_singleton.mp h]
   w
end
end K42
end
section
namespace K42s
open PySem L2 G
theorem ADn(a:Int)(r:List Int):atI ((a::r).map V.int) 0=some (.int a):=Bp (j:=0) (v:=V.int a) rfl
theorem Kl(l:List ⑤)(s:List Int):heads (l++[s])=heads l++if s=[] then [] else [s.headD 0]:=by
 unfold heads;rw[List.filter_append,List.map_append];by_cases c:s=[]
 ·simp[c]
 ·simp[c]
theorem YM(l:List ⑤):(heads l).length<=l.length:=by
 unfold heads;rw[─];!List.length_filter_le _ _
theorem WX(a:Int)(r:List Int):HT.sIx ((a::r).map V.int).length 0 (some 1)=1:=by
 rw[─,List.length_cons];unfold HT.sIx;simp
theorem ADU(a:Int)(r:List Int):¬ (HT.sIx ((a::r).map V.int).length 0 (some 1)=0/\HT.sIx ((a::r).map V.int).length ((a::r).map V.int).length none=((a::r).map V.int).length):=fun z=>by
 rw[WX] at z;!absurd z.1 ¤
theorem AAn(a:Int)(r:List Int):cutV ((a::r).map V.int) (some 1) none=r.map V.int:=by
 unfold cutV;rw[WX];show (r.map V.int).take _=_;apply List.take_of_length_le;show (r.map V.int).length<=((a::r).map V.int).length-1;rw[─,─,List.length_cons];w
def Gd(K:¨):Nat->Sp
 | 0=>fun _ _ _ _=>False
 | d+1=>fun vs H Q _=>∃(R S:Addr) (n lo:Nat) (rows:List Row) (xs:List V) (ss:List ⑤),vs=[.ref R,.ref S]/\S≠R/\H R=some (.lst xs)/\Paired (rRow K H) rows xs/\Ok n rows/\rLst K (rPair K) H ss (.ref S)/\SetsOk n lo ss /\
   n<=lo+d/\ss.length<=61/\rows.length+d*ss.length<=900 /\
   ∀(k:Nat) (more:List Row) (ys:List V) (H':Hp),(∀ b o,b≠R->H b=some o->H' b=some o)->H' R=some (.lst ys)->Paired (rRow K H') (rows++more) ys->Made2 n lo d rows more k ss->Q (.int k) H'
section
variable{P:Program}{w:World}{K:¨}{mg:Str->Option Value}{base:Heap}{f C:Addr}{fd:FuncData}
theorem Ft:FnScope ["rows","sets","tie","without","having"] ["rows","sets"] (Ac DR):=¡
theorem Vd(F:Fun K "knot_of" "knot_of" DR f fd):FnOk P w K mg base CX0 1 f fd ["rows","sets"] (Gd K 0) :=
 F.ok Ft (fun vs H Q E h=>False.elim h) (fun cdv A outer s H vs Q E hr h=>False.elim h)
theorem Vs(d:Nat)(F:Fun K "knot_of" "knot_of" DR f fd)(T:Txt K mg C)
  (GK:FnOk P w K mg base CX0 (d+1) f fd ["rows","sets"] (Gd K d)) (bK:Binds K fd ["rows","sets"] []) (kK:© K (.ref f)=true) (mK:mg "knot_of" = some (.ref f)) :
  FnOk P w K mg base CX0 (d+2) f fd ["rows","sets"] (Gd K (d+1)):=by
 r F.ok Ft § ¦
 ·o⟨R,S,n,lo,rows,xs,ss,rfl,_⟩:=h
  rfl
 o⟨R,S,n,lo,rows,xs,ss,rfl,SR,eR,px,ok,hS,so,hd,s61,r8,q⟩:=h;r⟨_,Af (CZ (Ar (Kf (Hu Fd) (Cp hr)) (pv 1) (Cv Ad) ⑯) (Aj (Az Ah)) Bd)
  (Af (CZ (Ar (Kf (Hu Fd) (Cp hr)) (pv 1) (Cv (Aa (Ce Ad) Ad)) ⑯) (Aj (Az Ah)) Bd)
  (Af (Ay (i:=2) Ft.nd rfl (Or.inr rfl) (BJ (Ys (K:=K) rfl rfl) rfl T.min PyProof.Rows.boot_min (Aa (Bv (Ac DR) ["some"] [] [] rfl rfl £ trivial (CK (pv 1))
    (fun _ _ _=>Av (i:=0) (show ((["some"]:List Str)++([]:List Str)).Nodup by decide +kernel) rfl ④)
    (fun _ _ _=>CP (Ar (ADP (K:=K) Fd (Cp hr) rfl) (pv 0) (Ce Ad) ⑯))
    (fun _ _ _=>BK (QM (K:=K) rfl) (pv 0) Ah (fun _ _=>rfl))) Ad)))
  (Af (Ay (i:=3) Ft.nd rfl ④ (BP GK hr rfl mK kK bK .nil pass0 (Aa (pv 0) (Aa (Bv (Ac DR) ["some"] ["tie"] [2] rfl rfl £ ⟨⟨rfl,£⟩,trivial⟩ (CK (pv 1))
    (fun _ _ _=>Av (i:=0) (show ((["some"]:List Str)++(["tie"]:List Str)).Nodup by decide +kernel) rfl ④)
    (fun _ _ _=>CP (Ar (Ma (K:=K) rfl) (pv 1) (pv 0) rfl))
    (fun _ _ _=>pv 0)) Ad))))
  (Af (Ay (i:=4) Ft.nd rfl ④ (BP GK hr rfl mK kK bK .nil pass0 (Aa (pv 0) (Aa (Bv (Ac DR) ["some"] ["tie"] [2] rfl rfl £ ⟨⟨rfl,£⟩,trivial⟩ (CK (pv 1))
    (fun _ _ _=>Av (i:=0) (show ((["some"]:List Str)++(["tie"]:List Str)).Nodup by decide +kernel) rfl ④)
    (fun _ _ _=>CP (Ar (Ec (K:=K) rfl) (pv 1) (pv 0) rfl))
    (fun _ _ _=>Ri (ACa (K:=K) rfl) (pv 0) (Px Ah) ACs)) Ad))))
  (Af (DP (Ja PySem.F.plainAttrs_list PySem.F.slot_list_append PySem.F.type_list_append Cz (pv 0) (Aa (Ce (Aa (pv 2) (Aa (pv 3) (Aa (pv 4) Ad)))) Ad)))
  (Aj (Az (BW Cw (BJ Aw rfl T.len PySem.boot_len (Aa (pv 0) Ad)) Ah)))))))),?_⟩
 r⟨_,rfl,Nat.zero_le _,fun L0 hL0=>?_⟩;h s0:=┊ hL0 (.lst []);r⟨ss,[],Gs (Ak Ao) s0 hS,⟨L0,[],rfl,SqL.of Ab,.nil⟩,_,rfl,?_⟩;by_cases e0:ss=[]
 ·r iteP e0 ?_
  !q 0 [] xs _ (fun b o _ e=>s0 b o e) (s0 _ _ eR) (by rw[List.append_nil];!Paired.imp (fun a b=>Bj _ _ a b s0.ts) px) (Made2.none ok e0)
 r iteN e0 ?_;r⟨_,rfl,Nat.zero_le _,fun T0 hT0=>⟨(by show 1<=sizeLine;decide),fun L1 hL1=>?_⟩⟩;h s1:=s0.trans (┊ hT0 (.tup []));h s2:=s1.trans (┊ hL1 (.lst [.ref T0]));h eT0:(upd (upd (upd H L0 (.lst [])) T0 (.tup [])) L1 (.lst [.ref T0])) T0=some (.tup []):=┊ hL1 (.lst [.ref T0]) _ _ Ab;r⟨ss,[[]],Gs (Ak Ao) s2 hS,⟨L1,[.ref T0],rfl,SqL.of Ab,Paired.one ⟨T0,[],rfl,SqT.of eT0,.nil⟩⟩,_,rfl,?_⟩;generalize upd (upd (upd H L0 (.lst [])) T0 (.tup [])) L1 (.lst [.ref T0])=H2 at s2 ⊢;by_cases e1:ss=[[]]
 ·r iteP e1 ?_
  !q 1 [] xs _ (fun b o _ e=>s2 b o e) (s2 _ _ eR) (by rw[List.append_nil];!Paired.imp (fun a b=>Bj _ _ a b s2.ts) px) (Made2.one ok e1)
 r iteN e1 ?_;o⟨S',zs,eS,hSq,pz⟩:=Gs (Ak Ao) s2 hS;cases eS;h lz:ss.length=zs.length:=┅ pz;h eR2:=s2 _ _ eR;h px2:Paired (rRow K H2) rows xs:=Paired.imp (fun a b=>Bj _ _ a b s2.ts) px;h lx:rows.length=xs.length:=┅ px;r⟨_,rfl,S,rfl,⟨_,hSq⟩,fun Y hY=>?_⟩;r Br (K:=K) (a:=S) (xs:=zs) (fun j τ H3=>∃ o:Option V,τ=[o]/\Same H2 H3/\H3 Y=some (.lst ((heads (ss.take j)).map V.int))) ⟨none,rfl,┊ hY _,Ab⟩ (fun j τ H3 _ ⟨_,_,s3,_⟩=>s3.seq hSq) ?_ ?_
 ·rintro j x τ H3 hx ⟨o,rfl,s3,eY⟩
  o⟨sj,hj,rj⟩:=Paired.get pz hx;o⟨p,rfl,hp⟩:=Bw rj;r⟨_,rfl,Nat.zero_le _,fun T1 hT1=>?_⟩;h s4:=┊ hT1 (.tup []);h s34:=s3.trans s4;r⟨sj,[],Ak Ao _ _ _ _ s34.ts rj,⟨T1,[],rfl,SqT.of Ab,.nil⟩,_,rfl,?_⟩;h hl:=YM (ss.take j);h hl2:(ss.take j).length<=61:=by rw[List.length_take];w
  r ite2 (fun c=>?_) (fun c=>?_)
  ·cases sj with
   | nil=>!absurd c ¤
   | cons a r =>
    r⟨_,rfl,p,_,_,_,rfl,rfl,s34.ts.seq hp,ADn a r,_,s4 _ _ eY,Ax (by rw[─];w),_,rfl,fun b o e=>?_,?_⟩
    ·rw[Ag (Ae e hY)]
     !s34 b o e
    ·rw[Ab,take_snoc hj,Kl,List.map_append]
     rfl
  ·r⟨_,rfl,s34,?_⟩
   h en:sj=[]:=by u c
   rw[take_snoc hj,Kl,en,if_pos rfl,List.append_nil];!s4 _ _ eY
 rintro τ H3 ⟨o,rfl,s3,eY⟩;rw[<- lz,List.take_length] at eY;r⟨Y,heads ss,rfl,SqL.of eY,?_,fun m hm hl=>?_⟩
 ·o⟨s',hs',ne⟩:=so.some e0 e1
  cases s' with
  | nil=>!absurd rfl ne
  | cons a r=>!List.length_pos_of_mem (Dy.mpr ⟨r,hs'⟩)
 obtain ⟨t,rfl⟩:∃ t:Nat,m=t:=by
  o⟨r,hr⟩:=Dy.mp hm;have:=(so.rng _ hr m ´).1;!⟨m.toNat,by w⟩
 o⟨tlo,tn⟩:=so.least hm;obtain ⟨d',rfl⟩:∃ d',d=d'+1:=⟨d-1,by w⟩;h out:=so.out hl;h into:=so.into hl;h sp:=split_len (fun s=>decide ((t:Int)∈s)) ss;h l1:1<=ss.length:=List.length_pos_iff.mpr e0;h mul1:d'*(ss.filter fun s=>!decide ((t:Int)∈s)).length+d'*(ss.filter fun s=>decide ((t:Int)∈s)).length=d'*ss.length:=by rw[<- Nat.mul_add,sp]
 h mul2:(d'+1)*ss.length=d'*ss.length+ss.length:=Nat.succ_mul _ _;h eR3:=s3 _ _ eR2;h px3:Paired (rRow K H3) rows xs:=Paired.imp (fun a b=>Bj _ _ a b s3.ts) px2;h pz3:Paired (rPair K H3) ss zs:=Paired.imp (fun a b=>Ak Ao _ _ a b s3.ts) pz;h hSq3:=s3.seq hSq;r⟨_,rfl,_,rfl,S,rfl,⟨_,hSq3⟩,fun Y2 hY2=>?_⟩;r Br (K:=K) (a:=S) (xs:=zs) (fun j τ H4=>∃(o:Option V) (ys:List V),τ=[o,some (.int t)]/\Same H3 H4/\H4 Y2=some (.lst ys)/\Paired (rPair K H4) ((ss.take j).filter fun s=>!decide ((t:Int)∈s)) ys) ⟨none,[],rfl,┊ hY2 _,Ab,.nil⟩ (fun j τ H4 _ ⟨_,_,_,s4,_⟩=>s4.seq hSq3) ?_ ?_
 ·rintro j x τ H4 hx ⟨o,ys,rfl,s4,eY2,py⟩
  o⟨sj,hj,rj⟩:=Paired.get pz3 hx;o⟨p,rfl,hp⟩:=Bw rj;r⟨_,rfl,_,rfl,p,sj.map V.int,rfl,.inr (s4.ts.seq hp),rfl,Gm sj,_,rfl,?_⟩;rw[if_pos rfl,Ej];show putD Y2 _ _ _ (!decide ((t:Int)∈sj)) _;h ef:(ss.take (j+1)).filter (fun s=>!decide ((t:Int)∈s))=(ss.take j).filter (fun s=>!decide ((t:Int)∈s))++(if (!decide ((t:Int)∈sj))=true then [sj] else []):=by
   rw[take_snoc hj,List.filter_append,List.filter_cons,List.filter_nil]
  h ly:ys.length<=61:=by
   rw[<- ┅ py];r Nat.le_trans (List.length_filter_le _ _) ?_;rw[List.length_take];w
  r ite2 (fun c=>?_) (fun c=>?_)
  ·r⟨_,rfl,_,eY2,Ax ¢,_,_,rfl,fun b o e=>?_,Ab,?_⟩
   ·rw[Ag (Ae e hY2)]
    !s4 b o e
   ·rw[ef,if_pos c]
    h tl:=TSm.lst (o:=.lst (ys++[.ref p])) eY2;!Paired.app (Paired.imp (fun a b r=>Ak Ao _ _ _ _ tl r) py) (Paired.one (Ak Ao _ _ _ _ (s4.ts.trans tl) rj))
  ·r⟨_,_,rfl,s4,eY2,?_⟩
   rw[ef,if_neg c,List.append_nil];!py
 rintro τ H4 ⟨o,ys,rfl,s4,eY2,py⟩;rw[<- lz,List.take_length] at py;h eR4:=s4 _ _ eR3;h RY2:Y2≠R:=fun z=>by rw[z,eR3] at hY2;cases hY2
 h px4:Paired (rRow K H4) rows xs:=Paired.imp (fun a b=>Bj _ _ a b s4.ts) px3;r⟨R,Y2,n,t+1,rows,xs,_,rfl,RY2,eR4,px4,ok,⟨Y2,ys,rfl,SqL.of eY2,py⟩,out,by w,by w,by w,fun k1 more1 ys1 H5 k5 eR5 px5 M1=>?_⟩;h ts5:=tsX k5 eR4;h hSq5:SqL K H5 S zs:=seqX k5 SR (s4.seq hSq3);h pz5:Paired (rPair K H5) ss zs:=Paired.imp (fun a b=>Ak Ao _ _ a b (s4.ts.trans ts5)) pz3;r⟨_,rfl,_,rfl,S,rfl,⟨_,hSq5⟩,fun Y3 hY3=>?_⟩;r Br (K:=K) (a:=S) (xs:=zs) (fun j τ H6=>∃(o:Option V) (ys:List V),τ=[o,some (.int t)]/\Same H5 H6/\H6 Y3=some (.lst ys)/\Paired (rPair K H6) (((ss.take j).filter fun s=>decide ((t:Int)∈s)).map List.tail) ys) ⟨none,[],rfl,┊ hY3 _,Ab,.nil⟩ (fun j τ H6 _ ⟨_,_,_,s6,_⟩=>s6.seq hSq5) ?_ ?_
 ·rintro j x τ H6 hx ⟨o,ys,rfl,s6,eY3,py⟩
  o⟨sj,hj,rj⟩:=Paired.get pz5 hx;o⟨p,rfl,hp⟩:=Bw rj;r⟨_,rfl,_,rfl,p,sj.map V.int,rfl,.inr (s6.ts.seq hp),rfl,Gm sj,_,rfl,?_⟩;rw[if_neg (show ¬ (false=true) by decide),Ej];show putD Y3 _ _ _ (decide ((t:Int)∈sj)) _;h ef:(ss.take (j+1)).filter (fun s=>decide ((t:Int)∈s))=(ss.take j).filter (fun s=>decide ((t:Int)∈s))++(if (decide ((t:Int)∈sj))=true then [sj] else []):=by
   rw[take_snoc hj,List.filter_append,List.filter_cons,List.filter_nil]
  h ly:ys.length<=61:=by
   rw[<- ┅ py,─];r Nat.le_trans (List.length_filter_le _ _) ?_;rw[List.length_take];w
  r ite2 (fun c=>?_) (fun c=>?_)
  ·cases sj with
   | nil=>!absurd (of_decide_eq_true c) (fun z=>nomatch z)
   | cons a r =>
    r⟨_,rfl,_,rfl,p,(a::r).map V.int,rfl,s6.ts.seq hp,ADU a r,fun T3 hT3=>?_⟩;rw[AAn];h s7:=┊ hT3 (.tup (r.map V.int));r⟨_,s7 _ _ eY3,Ax ¢,_,_,rfl,fun b o e=>?_,Ab,?_⟩
    ·rw[Ag (Ae e hY3)]
     !s7 _ _ (s6 b o e)
    ·rw[ef,if_pos c,List.map_append]
     h tl:=TSm.lst (o:=.lst (ys++[.ref T3])) (s7 _ _ eY3);!Paired.app (Paired.imp (fun a b r=>Ak Ao _ _ _ _ (s7.ts.trans tl) r) py) (Paired.one (Ak Ao _ _ _ _ tl (DQ (ns:=r) Ab)))
  ·r⟨_,_,rfl,s6,eY3,?_⟩
   rw[ef,if_neg c,List.append_nil];!py
 rintro τ H6 ⟨o,ys3,rfl,s6,eY3,py⟩;rw[<- lz,List.take_length] at py;h eR6:=s6 _ _ eR5;h RY3:Y3≠R:=fun z=>by rw[z,eR5] at hY3;cases hY3
 h px6:Paired (rRow K H6) (rows++more1) ys1:=Paired.imp (fun a b=>Bj _ _ a b s6.ts) px5;h lm1:=M1.base.len;r⟨R,Y3,n,t+1,rows++more1,ys1,_,rfl,RY3,eR6,px6,M1.base.ok,⟨Y3,ys3,rfl,SqL.of eY3,py⟩,into,by w,by rw[─];w,by rw[─,│];w,fun k2 more2 ys2 H7 k7 eR7 px7 M2=>?_⟩;h lm2:=M2.base.len;rw[─] at lm2;h ly2:ys2.length=rows.length+more1.length+more2.length:=by rw[<- ┅ px7,│,│]
 r⟨_,rfl,.inl ⟨rfl,_,SqL.of eR7⟩,_,rfl,_,rfl,_,rfl,(by show 3<=sizeLine;decide),fun T4 hT4=>?_⟩;h s8:=┊ hT4 (.tup [.int (t:Int),.int (k1:Int),.int (k2:Int)]);h eR8:=s8 _ _ eR7;r⟨R,ys2,_,rfl,rfl,eR8,Ax ¢,?_⟩;r⟨_,rfl,R,_,rfl,.inl (SqL.of Ab),_,_,rfl,rfl,?_⟩;h M:=Made2.step so hl M1 M2 l1 tn tlo;h ek:(((ys2++[V.ref T4]).length:Nat):Int)+1=(((rows++(more1++more2)).length+2:Nat):Int):=by
  rw[│,│,│,List.length_singleton];w
 rw[show (fun(i j:Int)=>V.int (i+j)) (((ys2++[V.ref T4]).length:Nat):Int) 1=V.int (((rows++(more1++more2)).length+2:Nat):Int) from congrArg V.int ek];r q _ _ (ys2++[.ref T4]) _ (fun b o nb e=>?_) Ab ?_ M
 ·rw[Ag nb]
  !s8 _ _ (k7 _ _ nb (s6 _ _ (k5 _ _ nb (s4 _ _ (s3 _ _ (s2 b o e))))))
 ·h tl:=TSm.lst (o:=.lst (ys2++[.ref T4])) eR8
  h er:rows++(more1++more2++[(t,k1,k2)])=rows++more1++more2++[(t,k1,k2)]:=by simp
  rw[er];!Paired.app (Paired.imp (fun a b r=>Bj _ _ _ _ (s8.ts.trans tl) r) px7) (Paired.one ⟨T4,rfl,tl.seq (SqT.of Ab)⟩)
theorem Nz(F:Fun K "knot_of" "knot_of" DR f fd)(T:Txt K mg C)(bK:Binds K fd ["rows","sets"] [])(kK:© K (.ref f)=true)(mK:mg "knot_of" = some (.ref f)) :
  ∀ d,FnOk P w K mg base CX0 (d+1) f fd ["rows","sets"] (Gd K d)
 | 0=>Vd F
 | d+1=>Vs d F T (Nz F T bK kK mK d) bK kK mK
end
theorem Xe:∀{l m:List Int},l.Pairwise (· < ·)->m.Pairwise (· < ·)->(∀ x,x∈l↔x∈m)->l=m
 | [],[],_,_,_=>rfl
 | [],b::m,_,_,h=>absurd ((h b).mpr ´) (fun z=>nomatch z)
 | a::l,[],_,_,h=>absurd ((h a).mp ´) (fun z=>nomatch z)
 | a::l,b::m,hl,hm,h=>by
  o⟨l1,l2⟩:=List.pairwise_cons.mp hl;o⟨m1,m2⟩:=List.pairwise_cons.mp hm;h e:a=b:=by
   rcases ┃ ((h a).mp ´) with e | e
   ·!e
   ·rcases ┃ ((h b).mpr ´) with e' | e'
    ·!e'.symm
    ·have:=m1 a e
     have:=l1 b e';w
  subst e
  congr 1
  r Xe l2 m2 fun x=>⟨fun hx=>?_,fun hx=>?_⟩
  ·rcases ┃ ((h x).mp (¶ _ hx)) with e | e
   ·have:=l1 x hx;w
   ·!e
  ·rcases ┃ ((h x).mpr (¶ _ hx)) with e | e
   ·have:=m1 x hx;w
   ·!e
def GoodS(n:Nat)(s:List Int):Prop:=s.Pairwise (· < ·)/\∀ x∈s,0<=x/\x<n
theorem Rh(n:Nat)(f:Int->Bool):(upTo n f).Pairwise (· < ·):=by
 unfold L2.upTo;r List.Pairwise.filter _ ?_;rw[List.pairwise_map];!List.pairwise_lt_range.imp fun h=>by w
theorem mem_upTo{n:Nat}{f:Int->Bool}{x:Int}:x∈upTo n f↔(0<=x/\x<n)/\f x=true:=by
 unfold L2.upTo;rw[List.mem_filter,List.mem_map];constructor
 ·rintro⟨⟨i,hi,rfl⟩,h⟩
  have:=List.mem_range.mp hi;!⟨by w,h⟩
 ·rintro⟨⟨a,b⟩,h⟩
  !⟨⟨x.toNat,List.mem_range.mpr ¢,by w⟩,h⟩
theorem Zy{n:Nat}{s:List Int}:s=upTo n (fun i=>decide (i∈s))↔GoodS n s:=by
 constructor
 ·intro e
  r⟨?_,fun x hx=>?_⟩
  ·rw[e];!Rh _ _
  ·rw[e] at hx;!(mem_upTo.mp hx).1
 ·rintro⟨h1,h2⟩
  r Xe h1 (Rh _ _) fun x=>⟨fun hx=>mem_upTo.mpr ⟨h2 x hx,decide_eq_true hx⟩,fun hx=>of_decide_eq_true (mem_upTo.mp hx).2⟩
theorem ABz{K:¨}{H H':Hp}{s:List Int}{x:V}(e:Same H H')(h:rSeq K H s x):rSeq K H' s x:=h.elim (fun z=>.inl (Gs Ao e z)) fun z=>.inr (Ak Ao _ _ _ _ e.ts z)
theorem ZK{rows:List Row}(h:∀ t,(rows.filter fun r=>decide (r.1=t)).length<=300)(top:Nat):FewB rows top :=
 ⟨fun _=>True,trivial,fun _ _ _ _=>⟨trivial,trivial⟩,fun t ks hk un=>Nat.le_trans (Oz ks (fun k h=>⟨(hk k h).2.1,(hk k h).2.2.1,(hk k h).2.2.2.1⟩) (un.imp fun {a b} ⟨s,h⟩ e=>h (by rw[e]))) (h t)⟩
theorem Us{ms:List ⑤}(h:ms.Pairwise (fun a b=>HT.lexLt a b=true)):ms.Nodup:=h.imp fun {a b} z e=>by rw[e,Hl] at z;cases z
theorem nodup_subL:∀(l m:List ⑤),l.Nodup->(∀ r∈l,r∈m)->l.length<=m.length
 | [],_,_,_=>Nat.zero_le _
 | a::l,m,nd,h=>by
  h am:a∈m:=h a (´ ..);o⟨na,nl⟩:=List.nodup_cons.mp nd;have:=nodup_subL l (m.erase a) nl fun r hr=>(List.mem_erase_of_ne (fun(e:r=a)=>na (by rw[<- e];!hr))).mpr (h r (¶ _ hr));rw[List.length_erase_of_mem am] at this;have:=List.length_pos_of_mem am;rw[List.length_cons];w
def WW(K:¨):Sp:=fun vs H Q _=>∃(p:Addr) (n:Nat) (s:List Int),vs=[.int n,.ref p]/\Sq K H p (s.map V.int)/\n<=12/\∀ H',Same H H'->Q (.bl (decide (s=upTo n fun i=>decide (i∈s)))) H'
structure SetsAt(K:¨)(H:Hp)(S:Addr)(ss:List ⑤):Prop where
 at_:∃ xs,Sq K H S xs/\Paired (rSeq K H) ss xs
 len:ss.length<=60
def Rv:Sp:=fun vs H Q _=>∃(n:Nat),vs=[.int n]/\n<=12/\Q .non H
def Wc(K:¨)(C:Addr):Sp:=fun vs H Q _=>∃(S:Addr) (n:Nat) (ss:List ⑤),vs=[.int n,.ref S]/\n<=12/\SetsAt K H S ss/\(∀ s∈ss,GoodS n s) /\
 ∀(p:Addr) (nums:List Row) (hd:Nat) (H':Hp),Same H H'->SvAt K C H' p n nums hd->Canon n nums hd->(∀ s,led nums hd s=decide (up s∈ss))->nums.length<=4000->Q (.ref p) H'
section
variable{P:Program}{w:World}{K:¨}{mg:Str->Option Value}{base:Heap}{f C:Addr}{fd:FuncData}
theorem ADQ:FnScope ["n","some"] ["n","some"] (Ac Ef):=¡
theorem ABj(F:Fun K "is_set_below" "is_set_below" Ef f fd)(T:Txt K mg C):FnOk P w K mg base CX0 1 f fd ["n","some"] (WW K):=by
 r F.ok ADQ § ¦
 ·o⟨p,n,s,rfl,_⟩:=h
  rfl
 o⟨p,n,s0,rfl,hS,n12,q⟩:=h;r⟨_,Aj (Az (Ek (Kf Fd (Cp hr)) (Bb Fl rfl T.list PyProof.Rows.boot_list (Aa (pv 1) Ad))
  (Bv (Ac Ef) ["tie"] ["some"] [1] rfl rfl £ ⟨⟨rfl,£⟩,trivial⟩ (Cj rfl T.range (Aa (pv 0) Ad))
   (fun _ _ _=>Av (i:=0) (show ((["tie"]:List Str)++(["some"]:List Str)).Nodup by decide +kernel) rfl ④)
   (fun _ _ _=>CP (Ar (Ec (K:=K) rfl) (pv 0) (pv 1) rfl))
   (fun _ _ _=>pv 0)) ⑯)),?_⟩
 r⟨_,rfl,p,_,rfl,hS,fun l hl=>?_⟩;h s1:=┊ hl (.lst (s0.map V.int));r⟨_,rfl,n,rfl,by w,by w,fun D hD=>?_⟩;h hS1:=Sq.same hS s1;r DG (lo:=0) (n:=(n:Int).toNat) (fun j τ H2=>∃ o:Option V,τ=[o,some (.ref p)]/\Same (upd H l (.lst (s0.map V.int))) H2/\H2 D=some (.lst ((upTo j fun i=>decide (i∈s0)).map V.int))) ⟨none,rfl,┊ hD _,Ab⟩ ?_ ?_
 ·rintro j τ H2 hj ⟨o,rfl,s2,eD⟩
  h ej:(0:Int)+j=(j:Int):=by w
  rw[ej];r⟨_,rfl,_,rfl,p,s0.map V.int,rfl,Sq.same hS1 s2,rfl,Gm s0,_,rfl,?_⟩;rw[if_neg (show ¬ (false=true) by decide),Ej];show putD D _ _ _ (decide ((j:Int)∈s0)) _;h hl:=ABM j fun i=>decide (i∈s0);r ite2 (fun c=>?_) (fun c=>?_)
  ·r⟨_,rfl,_,eD,Ax (by rw[─];w),_,rfl,fun b o e=>?_,?_⟩
   ·rw[Ag (Ae e hD)]
    !s2 b o e
   ·rw[Ab,Mv,if_pos c,List.map_append]
    rfl
  ·r⟨_,rfl,s2,?_⟩
   rw[Mv,if_neg c,List.append_nil];!eD
 ·rintro τ H2 ⟨o,rfl,s2,eD⟩
  rw[Int.toNat_natCast] at eD;!⟨s0,_,⟨l,_,rfl,SqL.of (s2 _ _ Ab),paired_ints _⟩,⟨D,_,rfl,SqL.of eD,paired_ints _⟩,q H2 (s1.trans s2)⟩
theorem AAo:FnScope ["n"] ["n"] (Ac Od):=¡
theorem Tv(F:Fun K "refuse_amount" "refuse_amount" Od f fd)(T:Txt K mg C):FnOk P w K mg base CX0 1 f fd ["n"] Rv:=by
 r F.ok AAo § ¦
 ·o⟨n,rfl,_⟩:=h
  rfl
 o⟨n,rfl,n12,q⟩:=h;o⟨t1,e1⟩:=T.mt;r⟨_,Aj (CZ (PW.pt (Jf (Ar RM (pv 0) Ah ⑯) (HW (Ar Nj (pv 0) (Jp (v:=.int 12) rfl e1 ⟨t1,rfl⟩) ⑯)))) Dj Bd),?_⟩;r⟨_,rfl,_,_,rfl,rfl,_,rfl,?_⟩;r iteN ¢ ?_;r⟨_,rfl,_,_,rfl,rfl,_,rfl,?_⟩;!iteN ¢ q
theorem Jj:FnScope ["n","sets","some","rows","top"] ["n","sets"] (Ac HS):=¡
theorem AAP{fA fB fK fG:Addr}{fdA fdB fdK fdG:FuncData}(F:Fun K "sieve_of" "sieve_of" HS f fd)(T:Txt K mg C)
  (GA:FnOk P w K mg base CX0 1 fA fdA ["n"] Rv) (bA:Binds K fdA ["n"] []) (kA:© K (.ref fA)=true) (mA:mg "refuse_amount" = some (.ref fA))
  (GB:FnOk P w K mg base CX0 1 fB fdB ["n","some"] (WW K)) (bB:Binds K fdB ["n","some"] []) (kB:© K (.ref fB)=true) (mB:mg "is_set_below" = some (.ref fB))
  (GK:FnOk P w K mg base CX0 (13+1) fK fdK ["rows","sets"] (Gd K 13)) (bK:Binds K fdK ["rows","sets"] []) (kK:© K (.ref fK)=true) (mK:mg "knot_of" = some (.ref fK))
  (GG:FnOk P w K mg base CX0 3 fG fdG ["n","rows","top"] (Pr K C)) (bG:Binds K fdG ["n","rows","top"] []) (kG:© K (.ref fG)=true) (mG:mg "least_graph" = some (.ref fG)) :
  FnOk P w K mg base CX0 15 f fd ["n","sets"] (Wc K C):=by
 r F.ok Jj § ¦
 ·o⟨S,n,ss,rfl,_⟩:=h
  rfl
 o⟨S,m,ss,rfl,m12,hS,gd0,qg⟩:=h;h hr1:Room 1 _:=hr.mono ¤;r⟨_,Af (DP (BP GA hr1 rfl mA kA bA .nil pass0 (Aa (pv 0) Ad)))
  (Af (DW PassesOwn.never rfl (VP (pv 1)) (Av (i:=2) Jj.nd rfl ④)
   (Aj (CZ (QV (Lk (BP GB hr1 rfl mB kB bB .nil pass0 (Aa (pv 0) (Aa (pv 2) Ad)))))
    Dj Bd)))
  (Af (Ay (i:=3) Jj.nd rfl ④ (Cv Ad))
  (Af (Ay (i:=4) Jj.nd rfl ④ (BP GK hr rfl mK kK bK .nil pass0 (Aa (pv 3) (Aa (Jh rfl (Cp hr) rfl T.sorted rfl T.set
    (Bv (Ac HS) ["some"] [] [] rfl rfl £ trivial (VP (pv 1))
     (fun _ _ _=>Av (i:=0) (show ((["some"]:List Str)++([]:List Str)).Nodup by decide +kernel) rfl ④) (fun _ _ _=>DX)
     (fun _ _ _=>Bb (Kq (K:=K) rfl) rfl T.tuple PyProof.Rows.boot_tuple (Aa (pv 0) Ad)))) Ad))))
  (Aj (Az (BP GG (hr.mono ¤) rfl mG kG bG .nil pass0 (Aa (pv 0) (Aa (pv 3) (Aa (pv 4) Ad))))))))),?_⟩
 r⟨_,rfl,m,rfl,m12,?_⟩;o⟨xs,hx,px⟩:=hS.at_;h lx:ss.length=xs.length:=┅ px;h l60:=hS.len;r⟨_,rfl,S,rfl,Xh (K:=K) (a:=S) (xs:=xs) hx (fun i σ H2=>∃ o2:Option V,σ=[some (.int m),some (.ref S),o2,none,none]/\Same H H2/\∀ s∈ss.take i,GoodS m s) ⟨none,rfl,Same.refl _,fun s hs=>by simp at hs⟩ (fun i σ H2 _ ⟨_,_,sm,_⟩=>sm) ?_ ?_⟩
 ·rintro i x σ H2 hxi ⟨o2,rfl,sm,gd⟩
  o⟨si,hi,ri⟩:=Paired.get px hxi;o⟨p,rfl,hp⟩:=RW ri;r⟨_,rfl,_,rfl,p,m,si,rfl,Sq.same hp sm,by w,fun H3 s3=>⟨_,rfl,?_⟩⟩;h s03:=sm.trans s3;rw[decide_eq_true (Zy.mpr (gd0 si (┈ hi)))];r iteF ⟨_,rfl,s03,fun s hs=>?_⟩;rw[take_snoc hi] at hs;rcases List.mem_append.mp hs with hs | hs
  ·!gd s hs
  ·rw[List.mem_singleton.mp hs];!gd0 si (┈ hi)
 rintro σ H2 ⟨o2,rfl,sm,gd⟩;rw[<- lx,List.take_length] at gd;r⟨Nat.zero_le _,fun R hR=>?_⟩;h s3:=sm.trans (┊ hR (.lst []));h nR:H R=none:=sm.free hR;r⟨_,rfl,_,rfl,S,rfl,Xz (Sq.same hx s3) fun D hD=>⟨fun i τ H6=>∃(n:Option V) (ys:List V),τ=[n]/\Same (upd H2 R (.lst [])) H6/\H6 D=some (.lst ys)/\Paired (rPair K H6) (ss.take i) ys,⟨none,[],rfl,┊ hD _,Ab,.nil⟩,fun i τ H6 _ ⟨_,_,_,z,_⟩=>z,?_,?_⟩⟩
 ·rintro i x τ H6 hxi ⟨o,ys,rfl,s6,eD,py⟩
  o⟨si,hi,ri⟩:=Paired.get px hxi;h ri6:=ABz (s3.trans s6) ri;h ly:ys.length<=60:=by
   rw[<- ┅ py,List.length_take];w
  r yesN ?_;rcases ri6 with⟨p,zs,rfl,hp,pz⟩ | h6
  ·h ez:=El pz
   subst ez;r⟨_,rfl,p,_,rfl,.inl ⟨hp,fun T1 hT1=>?_⟩⟩;h s7:=┊ hT1 (.tup (si.map V.int));r⟨_,s7 _ _ eD,Ax ¢,_,_,rfl,fun b o e=>?_,Ab,?_⟩
   ·rw[Ag (Ae e hD)]
    !s7 _ _ (s6 b o e)
   ·rw[take_snoc hi]
    h tl:=TSm.lst (o:=.lst (ys++[.ref T1])) (s7 _ _ eD);!Paired.app (Paired.imp (fun a b r=>Ak Ao _ _ _ _ (s7.ts.trans tl) r) py) (Paired.one (Ak Ao _ _ _ _ tl (DQ (ns:=si) Ab)))
  ·o⟨p,rfl,hp⟩:=Bw h6
   r⟨_,rfl,p,_,rfl,.inr ⟨hp,?_⟩⟩;r⟨_,eD,Ax ¢,_,_,rfl,fun b o e=>?_,Ab,?_⟩
   ·rw[Ag (Ae e hD)]
    !s6 b o e
   ·rw[take_snoc hi]
    h tl:=TSm.lst (o:=.lst (ys++[.ref p])) eD;!Paired.app (Paired.imp (fun a b r=>Ak Ao _ _ _ _ tl r) py) (Paired.one (Ak Ao _ _ _ _ tl h6))
 rintro τ H6 ⟨o,ys,rfl,s6,eD,py⟩;rw[<- lx,List.take_length] at py;r⟨D,ys,ss,rfl,SqL.of eD,py,fun ms nd hm=>Nat.le_trans (nodup_subL ms ss nd hm) ¢,fun L zs ms hL so mem pr _=>?_⟩;h nd:=Us so;h lm:ms.length<=60:=Nat.le_trans (nodup_subL ms ss nd fun r hr=>(mem r).mp hr) l60;h s7:=┊ hL (.lst zs);h eR6:H6 R=some (.lst []):=s6 _ _ Ab;h LR:L≠R:=fun z=>by rw[z,eR6] at hL;cases hL
 r⟨R,L,m,0,[],[],ms,rfl,LR,s7 _ _ eR6,.nil,fun i r h=>by simp at h,⟨L,zs,rfl,SqL.of Ab,Paired.imp (fun a b r=>Ak Ao _ _ _ _ s7.ts r) pr⟩,
  ⟨nd,fun s hs=>(gd s ((mem s).mp hs)).1,fun s hs x hx=>by have:=(gd s ((mem s).mp hs)).2 x hx;w⟩,(by show m<=0+12;w),by w,(by show 0+12*ms.length<=900;w),fun k more ys7 H7 k7 eR7 px7 M=>?_⟩
 h ml:more.length<=12*ms.length:=M.base.len;r⟨_,rfl,_,rfl,_,rfl,R,m,k,more,rfl,RowsAt.of ⟨R,ys7,rfl,SqL.of eR7,px7⟩,M.base.ok,by w,by w,ZK (fun t=>Nat.le_trans (M.base.cnt t) ¢) k,M.base.kn,fun p nums hd H' s' h1 h2 h3 h4=>qg p nums hd H' (fun b o e=>?_) h1 h2 (fun s=>?_) h4.1⟩
 ·!s' _ _ (k7 _ _ (Ae e nR) (s7 _ _ (s6 _ _ (s3 b o e))))
 ·rw[h3 s]
  show led more k s=_;h e1:led more k s=decide (up s∈ms):=M.sem s;rw[e1];!decide_eq_decide.mpr (mem (up s))
end
end K42s
end
section
namespace K42
open PySem L2 G
theorem Mp(z:Int)(j:Addr)(h:Int){m:Str}(h1:¬ m = "head")(h2:¬ m = "rows")(h3:¬ m = "amount"):(K42s.flds z j h).lookup m=none:=K42s.Ck z j h h1 h2 h3
def OD(K:¨)(S:Addr):Sp:=fun vs H Q _=>∃(p:Addr) (n hd:Nat) (nums:List Row),vs=[.ref p,.int n]/\K42s.SvAt K S H p n nums hd/\Canon n nums hd/\n<=12/\nums.length<=4000/\∀(H':Hp),Same H H'->Q (.bl true) H'
theorem Wm{K:¨}{H:Hp}:∀{ss:List (List Nat)}{ys:List V},Paired (K42s.rTies K H) ss ys->Paired (rSeq K H) (ss.map up) ys
 | _,_,.nil=>.nil
 | _,_,.cons ⟨p,e,h⟩ t=>.cons (.inr (by rw[e];!DQ h)) (Wm t)
section
variable{P:Program}{w:World}{K:¨}{mg:Str->Option Value}{base:Heap}{f C D S:Addr}{fd:FuncData}
theorem Pb:FnScope ["_law_sieve","_law_n","_law_other"] ["_law_sieve","_law_n"] (Ac Es):=¡
theorem Vo{fS fV fK fT:Addr}{fdS fdV fdK fdT:FuncData}(F:Fun K "_law_is_least" "_law_is_least" Es f fd)(T:Txt K mg C)(cS:Cls K S)
  (GS:FnOk P w K mg base CX0 2 fS fdS ["sieve"] (K42s.Zg K S)) (bS:Binds K fdS ["sieve"] []) (kS:© K (.ref fS)=true) (mS:mg "sets_of" = some (.ref fS))
  (GV:FnOk P w K mg base CX0 15 fV fdV ["n","sets"] (K42s.Wc K S)) (bV:Binds K fdV ["n","sets"] []) (kV:© K (.ref fV)=true) (mV:mg "sieve_of" = some (.ref fV))
  (GK:FnOk P w K mg base CX0 1 fK fdK ["self"] (K42s.Hr K S)) (bK:Binds K fdK ["self"] []) (mK:Meth K S "knots" fK)
  (GT:FnOk P w K mg base CX0 1 fT fdT ["self"] (K42s.Wk K S)) (bT:Binds K fdT ["self"] []) (mT:Meth K S "top" fT) :
  FnOk P w K mg base CX0 16 f fd ["_law_sieve","_law_n"] (OD K S):=by
 r F.ok Pb § ¦
 ·o⟨p,n,hd,nums,rfl,_⟩:=h
  rfl
 o⟨p,n,hd,nums,rfl,hV,cn,n12,r4,q⟩:=h;h hr1:Room 1 _:=hr.mono ¤;h hr2:Room 2 _:=hr.mono ¤;r⟨_,Af (CZ (PW.pt (Jf (Ar Nj (pv 1) Ah ⑯) (HW (Ar Nj (BJ Aw rfl T.len PySem.boot_len (Aa (BP GS hr2 rfl mS kS bS .nil pass0 (Aa (pv 0) Ad)) Ad)) Ah ⑯)))) (Aj (Az KJ)) Bd)
  (Af (Ay (i:=2) Pb.nd rfl ④ (BP GV hr rfl mV kV bV .nil pass0 (Aa (pv 1) (Aa (BP GS hr2 rfl mS kS bS .nil pass0 (Aa (pv 0) Ad)) Ad))))
  (Aj (Az (UW (Ek (Kf (Hu Fd) (Cp hr)) (Bt (pv 2) cS mK GK hr1 bK .nil pass0) (Bt (pv 0) cS mK GK hr1 bK .nil pass0) ⑯)
   (VD (Ek Cy (Bt (pv 2) cS mT GT hr1 bT .nil pass0) (Bt (pv 0) cS mT GT hr1 bT .nil pass0) ⑯)))))),?_⟩
 r⟨_,rfl,_,_,rfl,rfl,_,rfl,?_⟩;r ite2 (fun _=>iteT (q _ (Same.refl _))) (fun _=>?_);h I0:=Ik _ _ rfl cn.least.ok _ cn.knot;r⟨_,rfl,p,n,hd,nums,rfl,hV,cn.least.ok,cn.knot,n12,r4,fun L ys H1 s1 nL eL py=>⟨L,_,rfl,.inl (SqL.of eL),_,_,rfl,rfl,_,rfl,?_⟩⟩;h ly:=┅ py;r ite2 (fun _=>q _ s1) (fun c=>?_);h c60:¬ ((60:Int)<(ys.length:Nat)):=fun h=>c (decide_eq_true h);r⟨_,rfl,_,rfl,p,n,hd,nums,rfl,hV.same s1,cn.least.ok,cn.knot,n12,r4,fun L2 ys2 H2 s2 nL2 eL2 py2=>?_⟩;h ly2:=┅ py2;r⟨L2,n,(setsOf nums hd).map up,rfl,n12,⟨⟨ys2,.inl (SqL.of eL2),Wm py2⟩,by rw[─];w⟩,fun s hs=>?_,fun p2 nums2 hd2 H3 s3 hV2 cn2 ld2 r2=>?_⟩
 ·o⟨u,hu,rfl⟩:=List.mem_map.mp hs
  o⟨w1,w2⟩:=I0.way u hu;r⟨?_,fun x hx=>?_⟩
  ·unfold up
   rw[List.pairwise_map];!w1.imp fun h=>by w
  ·o⟨y,hy,rfl⟩:=List.mem_map.mp hx
   have:=(w2 y hy).2;w
 h same:∀ s,led nums2 hd2 s=led nums hd s:=fun s=>by
  rw[ld2 s];cases e:led nums hd s with
  | true=>!decide_eq_true (List.mem_map_of_mem ((I0.mem s).mpr e))
  | false =>
   r decide_eq_false fun h=>?_;o⟨u,hu,eu⟩:=List.mem_map.mp h;rw[KD eu] at hu;rw[(I0.mem s).mp hu] at e;cases e
 o⟨rfl,rfl⟩:=Canon.unique cn2 cn same;h s13:=s1.trans (s2.trans s3);h hV3:=hV.same s13;o⟨dg2,jj2,hp2,_⟩:=id hV2;o⟨dg3,jj3,hp3,_⟩:=id hV3;r⟨_,rfl,p2,dg2,_,rfl,hp2,Mp _ _ _ £ £ £,p2,_,_,_,rfl,hV2,fun lk ks H4 s4 hlk elk px=>?_⟩;r⟨_,rfl,p,dg3,_,rfl,s4 _ _ hp3,Mp _ _ _ £ £ £,p,_,_,_,rfl,hV3.same s4,fun lk2 ks2 H5 s5 hlk2 elk2 px2=>?_⟩;r⟨_,_,⟨lk,ks,rfl,SqL.of (s5 _ _ elk),K42s.KC (Paired.imp (fun a b=>K42s.Bj _ _ a b s5.ts) px)⟩,⟨lk2,ks2,rfl,SqL.of elk2,K42s.KC px2⟩,_,rfl,iteP rfl ?_⟩;h s45:=s4.trans s5;r⟨_,rfl,p2,dg2,_,rfl,s45 _ _ hp2,Mp _ _ _ £ £ £,p2,_,_,_,rfl,hV2.same s45,_,rfl,p,dg3,_,rfl,s45 _ _ hp3,Mp _ _ _ £ £ £,p,_,_,_,rfl,hV3.same s45,rfl,?_⟩;rw[decide_eq_true rfl];!q _ (s13.trans s45)
end
theorem AEi{X:Cx}:CallR X (.builtin "isinstance") (fun xs H Q=>∃ b,xs=[.bl b,.ty "bool"]/\Q (.bl true) H):=by
 intro pins s σ H xs us Q I r h;o⟨i,rfl,q⟩:=h;o⟨u,v,rfl,ru,rv⟩:=r.two;cases ru;cases rv;!IsiPair.bool_bool ⟨.bl true,H,I,rfl,q⟩
theorem ABS(ns:List Int)(lo hi:Option Int):∃ cs:List Int,cutV ⑬ lo hi=cs.map V.int/\cs.length<=ns.length:=by
 unfold cutV;r⟨(ns.drop (HT.sIx ⑬.length 0 lo)).take (HT.sIx ⑬.length ⑬.length hi-HT.sIx ⑬.length 0 lo),by rw[List.map_take,List.map_drop],?_⟩;rw[List.length_take,List.length_drop];w
theorem Uv(a b:Int):srt [a,b]=[if b<a then b else a,if b>a then b else a]:=by
 rw[Dq];split
 ·rw[if_neg ¢]
 ·by_cases e:b>a
  ·rw[if_pos e]
  ·rw[if_neg e]
   have:b=a:=by w
   rw[this]
def SetR(K:¨)(n:Nat)(H:Hp)(v:V):Prop:=∃(t:Addr) (s:List Nat),v=.ref t/\SqT K H t (nI s)/\s.Pairwise (· < ·)/\∀ x∈s,x<n
theorem SetR.ts{K:¨}{n:Nat}{H H':Hp}{v:V}(h:SetR K n H v)(e:TSm H H'):SetR K n H' v:=let ⟨t,s,a,b,c⟩:=h;⟨t,s,a,e.seq b,c⟩
theorem AAt{n:Nat}{rows:List Row}(ok:Ok n rows){k:Nat}(kn:Knot rows k)(s:List Nat):K42s.meets rows k (up s)=led rows k s:=by
 rw[Bool.eq_iff_iff];r(Kh ok (k+1) k (up s) (Nat.lt_succ_self k) kn).trans ⟨fun⟨u,e,h⟩=>by rw[KD e];!h,fun h=>⟨s,rfl,h⟩⟩
abbrev lawN:List Str:=["_law_script","_law_many","_law_ties_here","_law_web","_law_sieve","_law_alone","_law_some","_law_found"]
structure Bs(K:¨)(C S:Addr)(a tl W V0:Addr)(ns:List Int)(z hd:Nat)(as:List ⑤)(nums:List Row)(H:Hp):Prop where
 sc:SqL K H a ⑬
 n63:ns.length<=63
 tl:TlAt K H tl as
 wb:WebAt K C H W z (as.map srt)
 sv:K42s.SvAt K S H V0 as.length nums hd
 cn:Canon as.length nums hd
 ld:∀ s:List Nat,s.Pairwise (· < ·)->(∀ x∈s,x<as.length)->led nums hd s=acyc (ea (as.map srt)) (eb (as.map srt)) (fun p=>(p:Int)) s
 ok:OkTies (z:Int) as
 z10:z<=10
 a12:as.length<=12
theorem Bs.same{K:¨}{C S a tl W V0:Addr}{ns:List Int}{z hd:Nat}{as:List ⑤}{nums:List Row}{H H':Hp}(b:Bs K C S a tl W V0 ns z hd as nums H)(e:Same H H'):Bs K C S a tl W V0 ns z hd as nums H' :=
 ⟨e.seq b.sc,b.n63,b.tl.same e,b.wb.same e,b.sv.same e,b.cn,b.ld,b.ok,b.z10,b.a12⟩
section
variable{P:Program}{w:World}{K:¨}{mg:Str->Option Value}{base:Heap}{f C D S:Addr}{fd:FuncData}
theorem Jg:FnScope lawN ["_law_script"] (Ac JR):=¡
theorem AEX{fI fG fK fM fC fZ fT fL fH fP fO fE fY:Addr}{fdI fdG fdK fdM fdC fdZ fdT fdL fdH fdP fdO fdE fdY:FuncData}(F:Fun K "law" "law" JR f fd)(T:Txt K mg C)(T2:K42s.Txt K mg S)(O:Own K S)
  (M:Mk K C fI) (mkW:PySem.W.makesIn K D=true) (hiW:® K (.ref D) "__init__" = some (some (.builtin "object.__init__"))) (kpW:© K (.ref D)=true) (mgW:mg "Woods" = some (.ref D))
  (GI:FnOk P w K mg base CX0 3 fI fdI ["self","many","ties"] (Lb K C)) (bI:Binds K fdI ["self","many","ties"] [])
  (GG:FnOk P w K mg base CX0 18 fG fdG ["web","rule"] (Wa K C D S)) (bG:Binds K fdG ["web","rule"] []) (kG:© K (.ref fG)=true) (mG:mg "grown" = some (.ref fG))
  (GK:FnOk P w K mg base CX0 1 fK fdK ["self"] (K42s.Hr K S)) (bK:Binds K fdK ["self"] []) (mK:Meth K S "knots" fK)
  (GM:FnOk P w K mg base CX0 1 fM fdM ["self"] (K42s.ABd K S)) (bM:Binds K fdM ["self"] []) (mM:Meth K S "many" fM)
  (GC:FnOk P w K mg base CX0 1 fC fdC ["_law_script","_law_k"] (Ub K)) (bC:Binds K fdC ["_law_script","_law_k"] []) (kC:© K (.ref fC)=true) (mC:mg "_law_cell_at" = some (.ref fC))
  (GZ:FnOk P w K mg base CX0 1 fZ fdZ ["_law_cell"] XF) (bZ:Binds K fdZ ["_law_cell"] []) (kZ:© K (.ref fZ)=true) (mZ:mg "_law_size" = some (.ref fZ))
  (GT:FnOk P w K mg base CX0 2 fT fdT ["_law_script","_law_at","_law_many"] (Xf K)) (bT:Binds K fdT ["_law_script","_law_at","_law_many"] []) (kT:© K (.ref fT)=true) (mT:mg "_law_ties" = some (.ref fT))
  (GL:FnOk P w K mg base CX0 16 fL fdL ["_law_sieve","_law_n"] (OD K S)) (bL:Binds K fdL ["_law_sieve","_law_n"] []) (kL:© K (.ref fL)=true) (mL:mg "_law_is_least" = some (.ref fL))
  (GH:FnOk P w K mg base CX0 2 fH fdH ["sieve","some"] (K42s.ADy K S)) (bH:Binds K fdH ["sieve","some"] []) (kH:© K (.ref fH)=true) (mH:mg "has_set" = some (.ref fH))
  (GP:FnOk P w K mg base CX0 2 fP fdP ["_law_cell","_law_many","_law_ties_here"] (Sy K)) (bP:Binds K fdP ["_law_cell","_law_many","_law_ties_here"] []) (kP:© K (.ref fP)=true) (mP:mg "_law_picked" = some (.ref fP))
  (GO:FnOk P w K mg base CX0 2 fO fdO ["_law_many","_law_ties_here","_law_some"] (Ti K)) (bO:Binds K fdO ["_law_many","_law_ties_here","_law_some"] []) (kO:© K (.ref fO)=true) (mO:mg "_law_is_wood" = some (.ref fO))
  (GE:FnOk P w K mg base CX0 1 fE fdE ["self"] (Qc K C)) (bE:Binds K fdE ["self"] []) (mE:Meth K C "size" fE)
  (GY:FnOk P w K mg base CX0 1 fY fdY ["self"] (Ph K C)) (bY:Binds K fdY ["self"] []) (mY:Meth K C "ties" fY) :
  FnOk P w K mg base CX0 19 f fd ["_law_script"] (Rb K):=by
 r F.ok Jg § ¦
 ·o⟨a,ns,rfl,_⟩:=h
  rfl
 o⟨a,ns,rfl,hS,n63,q⟩:=h;h hr1:Room 1 _:=hr.mono ¤;h hr2:Room 2 _:=hr.mono ¤;h hr4:Room (3+1) _:=hr.mono ¤;h hr16:Room 16 _:=hr.mono ¤;h hr17:Room 18 _:=hr.mono ¤;obtain ⟨t5,h5,q5⟩:∃ t,PSs (cxOf CX0 P w K mg base lawN "law" (Ac JR) f cdv A outer s H E).nox ((Am JR).drop 8) t/\∀(σ:St) (H0:Hp),(∃(a tl W V0 al:Addr) (ns:List Int) (z hd:Nat) (as:List ⑤) (nums:List Row) (o6 o7:Option V),σ=[some (.ref a),some (.int z),some (.ref tl),some (.ref W),some (.ref V0),some (.ref al),o6,o7]/\Bs K C S a tl W V0 ns z hd as nums H0)->t {nx:=fun _ H'=>Q .non H',rt:=Q} σ H0:=by
  r⟨_,Aj (Az (UW (Ek Cy (Bt (pv 3) T.cl mE GE hr1 bE .nil pass0) (pv 1) ⑯) (VD (Ek (Kf (Hu Fd) (Cp hr)) (Bt (pv 3) T.cl mY GY hr1 bY .nil pass0)
   (Bv (Ac JR) ["_law_tie"] [] [] rfl rfl £ trivial (CK (pv 2)) (fun _ _ _=>Av (i:=0) (show ((["_law_tie"]:List Str)++([]:List Str)).Nodup by decide +kernel) rfl ④) (fun _ _ _=>DX)
    (fun _ _ _=>Ce (Aa (BJ (ZL (K:=K) rfl rfl) rfl T.min PyProof.Rows.boot_min (Aa (pv 0) Ad)) (Aa (BJ (Yi (K:=K) rfl rfl) rfl T.max PyProof.Rows.boot_max (Aa (pv 0) Ad)) Ad)))) ⑯)))),?_⟩
  rintro σ H0 ⟨a,tl,W,V0,al,ns,z,hd,as,nums,o6,o7,rfl,B⟩;o⟨dw,jw,hw,_⟩:=id B.wb;r⟨_,rfl,W,dw,_,rfl,hw,Ck _ _ £ £,W,_,_,rfl,B.wb,_,rfl,rfl,_,rfl,iteP rfl ?_⟩;r⟨_,rfl,W,dw,_,rfl,hw,Ck _ _ £ £,W,_,_,rfl,B.wb,fun lt H33 s33 hlt hLt=>?_⟩;h B33:=B.same s33;o⟨ts,eT,pT⟩:=id B33.tl;r⟨_,rfl,tl,rfl,⟨_,SqL.of eT⟩,fun Y hY=>?_⟩;h lx:=┅ pT;h a12:=B.a12;r Br (K:=K) (a:=tl) (xs:=ts) (fun j τ HA=>∃(o:Option V) (ys:List V),τ=[o]/\Same H33 HA/\HA Y=some (.lst ys)/\ys.length=j/\Paired (rPair K HA) ((as.take j).map srt) ys) ⟨none,[],rfl,┊ hY _,Ab,rfl,.nil⟩ (fun j τ HA _ ⟨_,_,_,sm,_⟩=>SqL.of (sm _ _ eT)) ?_ ?_
  ·rintro j v τ HA hv ⟨o,ys,rfl,sA,eY,yl,py⟩
   o⟨t',ht',rt'⟩:=Paired.get pT hv;o⟨x,y',rfl,_⟩:=B.ok.ok t' (┈ ht');o⟨tq,rfl,htq⟩:=Bw rt';h jl:=(━ ht').1;h htA:=sA.ts.seq htq;r yesN ⟨_,rfl,tq,x,y',rfl,htA,_,rfl,tq,x,y',rfl,htA,(by show 2<=sizeLine;decide),fun u hu=>?_⟩;h sB:=┊ hu (.tup [V.int (if y'<x then y' else x),V.int (if y'>x then y' else x)]);h eY2:=sB _ _ eY;r⟨ys,eY2,Ax ¢,_,ys++[.ref u],rfl,fun b o e=>?_,Ab,by rw[│,yl];rfl,?_⟩
   ·rw[Ag (Ae e hY)]
    !sB _ _ (sA b o e)
   ·rw[K42s.take_snoc ht',List.map_append]
    h ts':TSm _ (upd _ Y (.lst (ys++[.ref u]))):=TSm.lst eY2;r Paired.app (Paired.imp (fun _ _ h=>Ak Ao _ _ _ _ (sB.ts.trans ts') h) py) (Paired.one (Ak Ao _ _ _ _ ts' ?_));rw[Uv];!DQ Ab
  rintro τ H34 ⟨_,ys,rfl,s34,eY,yl,py⟩;rw[<- lx,List.take_length] at py;o⟨l5,xs5,e5,hS5,px5⟩:=hLt;cases e5;r⟨as.map srt,as.map srt,⟨lt,xs5,rfl,s34.seq hS5,Paired.imp (fun _ _ r=>Ak Ao _ _ _ _ s34.ts r) px5⟩,⟨Y,ys,rfl,SqL.of eY,py⟩,?_⟩;rw[decide_eq_true rfl];!q _
 obtain ⟨t4,h4,q4⟩:∃ t,PSs (cxOf CX0 P w K mg base lawN "law" (Ac JR) f cdv A outer s H E).nox ((Am JR).drop 7) t/\∀(σ:St) (H0:Hp),(∃(a tl W V0 al:Addr) (ns:List Int) (z hd:Nat) (as:List ⑤) (nums:List Row) (xs:List V),σ=[some (.ref a),some (.int z),some (.ref tl),some (.ref W),some (.ref V0),some (.ref al),none,none]/\Bs K C S a tl W V0 ns z hd as nums H0/\H0 al=some (.lst xs)/\xs.length<=20/\∀ v∈xs,SetR K as.length H0 v)->t {nx:=fun _ H'=>Q .non H',rt:=Q} σ H0:=by
  r⟨_,Af (DW PassesOwn.never rfl (CK (BW Vq (pv 5) (Bv (Ac JR) ["_law_cell"] ["_law_many","_law_ties_here"] [1,2] rfl rfl £ ⟨⟨rfl,£⟩,⟨rfl,£⟩,trivial⟩ (CK (Ri ADS (pv 0) (Px Ah) (Px Ah)))
     (fun _ _ _=>Av (i:=0) (show ((["_law_cell"]:List Str)++(["_law_many","_law_ties_here"]:List Str)).Nodup by decide +kernel) rfl ④) (fun _ _ _=>DX)
     (fun _ _ _=>BP GP hr2 rfl mP kP bP .nil pass0 (Aa (pv 0) (Aa (pv 1) (Aa (pv 2) Ad))))))) (Av (i:=6) Jg.nd rfl ④)
    (Af (Ay (i:=7) Jg.nd rfl ④ (BP GH hr2 rfl mH kH bH .nil pass0 (Aa (pv 4) (Aa (pv 6) Ad))))
    (Aj (CZ (PW.pt (Jf (QV (Lk (BJ AEi rfl T.isi PyProof.Rows.boot_isinstance (Aa (pv 7) (Aa (ADa (v:=.ty "bool") rfl T.bool PyProof.Rows.boot_bool rfl) Ad)))))
     (HW (Ar Oi (pv 7) (BP GO hr2 rfl mO kO bO .nil pass0 (Aa (pv 1) (Aa (pv 2) (Aa (pv 6) Ad)))) ⑯)))) (Aj (Az KJ)) Bd)))) h5,?_⟩
  rintro σ H0 ⟨a,tl,W,V0,al,ns,z,hd,as,nums,xs,rfl,B,eA,x20,hA⟩;h n63:=B.n63;r⟨_,rfl,_,rfl,_,rfl,_,rfl,a,_,rfl,B.sc,fun Sl hSl=>?_⟩;o⟨cs,ec,cl⟩:=ABS ns (some 2) (some 62);rw[ec];h s1:=┊ hSl (.lst (cs.map V.int));h eSl:(upd H0 Sl (.lst (cs.map V.int))) Sl=some (.lst (cs.map V.int)):=Ab;generalize upd H0 Sl (.lst (cs.map V.int))=H1 at s1 eSl;r⟨Sl,rfl,⟨_,SqL.of eSl⟩,fun Z hZ=>?_⟩;r Br (K:=K) (a:=Sl) (xs:=cs.map V.int) (fun j τ HA=>∃(o:Option V) (ys:List V),τ=[o,some (.int z),some (.ref tl)]/\Same H1 HA/\HA Z=some (.lst ys)/\ys.length=j/\∀ v∈ys,SetR K as.length HA v) ⟨none,[],rfl,┊ hZ _,Ab,rfl,fun v hv=>(by cases hv)⟩ (fun j τ HA _ ⟨_,_,_,sm,_⟩=>SqL.of (sm _ _ eSl)) ?_ ?_
  ·rintro j v τ HA hv ⟨o,ys,rfl,sA,eZ,yl,hy⟩
   rw[┉] at hv;cases ecj:cs[j]? with
   | none=>rw[ecj] at hv;cases hv
   | some c =>
    rw[ecj] at hv;obtain rfl:V.int c=v:=Option.some.inj hv;h jl:=(━ ecj).1;h BA:=B.same (s1.trans sA);r yesN ⟨_,rfl,_,rfl,_,rfl,c,z,tl,as,rfl,BA.tl,BA.ok,BA.z10,BA.a12,fun t s H' s' ht pw lt=>?_⟩;h eZ':=s' _ _ eZ;h ts':TSm H' (upd H' Z (.lst (ys++[.ref t]))):=TSm.lst eZ';r⟨ys,eZ',Ax ¢,_,ys++[.ref t],rfl,fun b o e=>?_,Ab,by rw[│,yl];rfl,fun v hv=>?_⟩
    ·rw[Ag (Ae e hZ)]
     !s' _ _ (sA b o e)
    ·rcases List.mem_append.mp hv with h | h
     ·!(hy v h).ts (s'.ts.trans ts')
     ·rw[List.mem_singleton.mp h]
      !SetR.ts ⟨t,s,rfl,ht,pw,lt⟩ ts'
  rintro τ H2 ⟨o,ys,rfl,s2,eZ,yl,hy⟩;rw[─] at yl;h s12:=s1.trans s2;r⟨al,Z,xs,ys,rfl,rfl,s12 _ _ eA,eZ,Nat.le_of_lt (Ax ¢),fun N hN=>?_⟩;h sN:=┊ hN (.lst (xs++ys));h eN:(upd H2 N (.lst (xs++ys))) N=some (.lst (xs++ys)):=Ab;h hall:∀ v∈xs++ys,SetR K as.length (upd H2 N (.lst (xs++ys))) v:=fun v hv=>by
   rcases List.mem_append.mp hv with h | h
   ·!(hA v h).ts (s12.trans sN).ts
   ·!(hy v h).ts sN.ts
  h B3:=B.same (s12.trans sN);generalize upd H2 N (.lst (xs++ys))=H3 at sN eN hall B3;r⟨N,rfl,⟨_,SqL.of eN⟩,?_⟩;r Ed (K:=K) (a:=N) (xs:=xs++ys) (fun i σ HA=>∃(o6 o7:Option V),σ=[some (.ref a),some (.int z),some (.ref tl),some (.ref W),some (.ref V0),some (.ref al),o6,o7]/\Same H3 HA) ⟨none,none,rfl,Same.refl _⟩ (fun i σ HA _ ⟨_,_,_,sm⟩=>SqL.of (sm _ _ eN)) ?_ ?_
  ·rintro i v σ HA hv ⟨o6,o7,rfl,sA⟩
   o⟨t,s,rfl,ht,pw,lt⟩:=(hall v (┈ hv)).ts sA.ts;h BA:=B3.same sA;r⟨_,rfl,_,rfl,V0,t,_,hd,nums,up s,rfl,BA.sv,BA.cn.least.ok,BA.cn.knot,.inr (by rw[ABG];!ht),fun HB sB=>?_⟩;rw[AAt BA.cn.least.ok BA.cn.knot,BA.ld s pw lt];h BB:=BA.same sB;r⟨_,rfl,_,rfl,true,rfl,iteF ?_⟩;r⟨_,rfl,_,rfl,_,rfl,_,rfl,z,tl,t,as,s,rfl,BB.tl,.inr (sB.ts.seq ht),BB.ok,BB.z10,lt,fun HC sC=>⟨rfl,_,rfl,iteNP rfl ?_⟩⟩;!⟨_,_,rfl,sA.trans (sB.trans sC)⟩
  rintro σ H4 ⟨o6,o7,rfl,s4⟩;!q5 _ _ ⟨a,tl,W,V0,al,ns,z,hd,as,nums,o6,o7,rfl,B3.same s4⟩
 r⟨_,Af (Ay (i:=1) Jg.nd rfl (Or.inr rfl) (BP GZ hr1 rfl mZ kZ bZ .nil pass0 (Aa (BP GC hr1 rfl mC kC bC .nil pass0 (Aa (pv 0) (Aa Ah Ad))) Ad)))
   (Af (Ay (i:=2) Jg.nd rfl (Or.inr rfl) (BP GT hr2 rfl mT kT bT .nil pass0 (Aa (pv 0) (Aa Ah (Aa (pv 1) Ad)))))
   (Af (Ay (i:=3) Jg.nd rfl ④ (QF M GI hr4 rfl T.mgC bI .nil pass0 (Aa (pv 1) (Aa (pv 2) Ad))))
   (Af (Ay (i:=4) Jg.nd rfl ④ (BP GG hr17 rfl mG kG bG .nil pass0 (Aa (pv 3) (Aa (ADZ mkW hiW kpW rfl mgW) Ad))))
   (Af (CZ (PW.pt (Jf (QV (Lk (BJ (ADN T2.cl O) rfl T.isi PyProof.Rows.boot_isinstance (Aa (pv 4) (Aa (Jp (v:=.ref S) rfl T2.mgC rfl) Ad)))))
    (Jf (Ar Oi (Bt (pv 4) T2.cl mM GM hr1 bM .nil pass0) ⑭ ⑯)
    (HW (QV (Lk (BP GL hr16 rfl mL kL bL .nil pass0 (Aa (pv 4) (Aa ⑭ Ad))))))))) (Aj (Az KJ)) Bd)
   (Af (DP (AEf PySem.F.plainAttrs_list PySem.F.slot_list_clear PySem.F.type_list_clear ABX (Bt (pv 4) T2.cl mK GK hr1 bK .nil pass0)))
   (Af (Ay (i:=5) Jg.nd rfl ④ (BW Vq (Cv (Aa (Ce Ad) Ad)) (Bv (Ac JR) ["_law_k"] [] [] rfl rfl £ trivial (Cj rfl T.range (Aa ⑭ Ad))
    (fun _ _ _=>Av (i:=0) (show ((["_law_k"]:List Str)++([]:List Str)).Nodup by decide +kernel) rfl ④) (fun _ _ _=>DX) (fun _ _ _=>Ce (Aa (pv 0) Ad)))))
   h4)))))),?_⟩
 r⟨_,rfl,a,ns,0,rfl,hS,by w,fun c0=>⟨c0,rfl,fun z z1 z10=>?_⟩⟩;r⟨_,rfl,_,rfl,a,ns,0,z,rfl,hS,by w,z1,z10,fun tl ts as H1 s1 ntl el pl ok a12=>?_⟩;h lx:=┅ pl;h bl:(as.map srt).length=as.length:=List.length_map ..;r⟨_,rfl,_,rfl,fun W dW nW ndW nWd=>?_⟩;h sp:Same H1 (upd (upd H1 dW (.own W)) W (.ins C dW [])):=fun b o e=>by
  rw[Ag (Ae e nW),Ag (Ae e ndW)];!e
 r⟨W,dW,tl,(z:Int),ts,as,rfl,Ab,sp.seq (SqL.of el),Paired.imp (fun t x h=>.inr (Ak Ao _ _ _ _ sp.ts h)) pl,ok,a12,by w,by w,fun H2 k2 hW=>⟨rfl,?_⟩⟩;h s2:Same H1 H2:=fun b o e=>k2 b o (sp b o e) (Ae e nW);r⟨_,rfl,fun r0 d0 hr0 hd0 n0=>?_⟩;h s3:Same H2 (upd (upd H2 d0 (.own r0)) r0 (.ins D d0 [])):=fun b o e=>by
  rw[Ag (Ae e hr0),Ag (Ae e hd0)];!e
 r⟨W,r0,d0,z,as.map srt,rfl,hW.same s3,Ab,z1,z10,by rw[bl];!a12,Xb ok,fun p nums hd H4 s4 hV cn ld r4=>?_⟩;rw[bl] at hV cn ld;h s24:=s3.trans s4;h hW4:=hW.same s24;h s14:=s2.trans s24;h hT4:TlAt K H4 tl as:=TlAt.same ⟨ts,el,pl⟩ s14;h el4:=s14 _ _ el;h B4:Bs K C S a tl W p ns z hd as nums H4:=⟨(s1.trans s14).seq hS,n63,hT4,hW4,hV,cn,ld,ok,z10,a12⟩;o⟨dx,jj,hp,_⟩:=id hV;r⟨_,rfl,p,dx,_,rfl,hp,true,rfl,iteF ?_⟩;r⟨_,rfl,p,dx,_,rfl,hp,Mp _ _ _ £ £ £,p,_,hd,nums,rfl,hV,_,rfl,tl,_,rfl,.inl (SqL.of el4),rfl,_,rfl,iteNP (by rw[lx]) ?_⟩;r⟨_,rfl,_,rfl,tl,_,rfl,.inl (SqL.of el4),p,as.length,hd,nums,by rw[lx];rfl,hV,cn,a12,r4,fun H5 s5=>⟨true,rfl,iteF ?_⟩⟩;h B5:=B4.same s5;r⟨_,rfl,p,dx,_,rfl,s5 _ _ hp,Mp _ _ _ £ £ £,p,_,hd,nums,rfl,B5.sv,fun lk ks H6 s6 hlk elk px=>?_⟩;r⟨.inl ⟨rfl,_,SqL.of elk⟩,lk,ks,rfl,rfl,elk,?_⟩;h s7:Same H5 (upd H6 lk (.lst [])):=fun b o e=>by
  rw[Ag (Ae e hlk)];!s6 b o e
 h B7:=B5.same s7;h el7:=(s5.trans s7) _ _ el4;generalize upd H6 lk (.lst [])=H7 at s7 B7 el7;r⟨Nat.zero_le _,fun e0 he0=>⟨(by show 1<=sizeLine;decide),fun L1 hL1=>?_⟩⟩;h s8:=(┊ he0 (.tup [])).trans (┊ hL1 (.lst [.ref e0]));h ee:(upd (upd H7 e0 (.tup [])) L1 (.lst [.ref e0])) e0=some (.tup []):=┊ hL1 _ _ _ Ab;h eL1:(upd (upd H7 e0 (.tup [])) L1 (.lst [.ref e0])) L1=some (.lst [.ref e0]):=Ab;h B8:=B7.same s8;h el8:=s8 _ _ el7;generalize upd (upd H7 e0 (.tup [])) L1 (.lst [.ref e0])=H8 at s8 ee eL1 B8 el8;r⟨_,rfl,tl,_,rfl,.inl (SqL.of el8),_,rfl,by w,by w,fun Z hZ=>?_⟩;r DG (lo:=0) (n:=((ts.length:Nat):Int).toNat) (fun j τ HA=>∃(o:Option V) (ys:List V),τ=[o]/\Same H8 HA/\HA Z=some (.lst ys)/\ys.length=j/\∀ v∈ys,SetR K as.length HA v) ⟨none,[],rfl,┊ hZ _,Ab,rfl,fun v hv=>(by cases hv)⟩ ?_ ?_
 ·rintro j τ HA hj ⟨o,ys,rfl,sA,eZ,yl,hy⟩
  rw[Int.toNat_natCast] at hj;h ej:(0:Int)+j=(j:Int):=by w
  rw[ej];r⟨_,rfl,(by show 1<=sizeLine;decide),fun t ht=>?_⟩;h sB:=┊ ht (.tup [V.int (j:Int)]);h et:(upd HA t (.tup [V.int (j:Int)])) t=some (.tup [V.int (j:Int)]):=Ab;h eZB:=sB _ _ eZ;generalize upd HA t (.tup [V.int (j:Int)])=HB at sB et eZB;h ts':TSm HB (upd HB Z (.lst (ys++[.ref t]))):=TSm.lst eZB;r⟨ys,eZB,Ax ¢,_,ys++[.ref t],rfl,fun b o e=>?_,Ab,by rw[│,yl];rfl,fun v hv=>?_⟩
  ·rw[Ag (Ae e hZ)]
   !sB _ _ (sA b o e)
  ·rcases List.mem_append.mp hv with h | h
   ·!(hy v h).ts (sB.ts.trans ts')
   ·rw[List.mem_singleton.mp h]
    !SetR.ts ⟨t,[j],rfl,SqT.of et,List.pairwise_singleton ..,fun x hx=>by rw[List.mem_singleton.mp hx];w⟩ ts'
 rintro τ H9 ⟨o,ys,rfl,s9,eZ,yl,hy⟩;rw[Int.toNat_natCast] at yl;r⟨L1,Z,_,_,rfl,rfl,s9 _ _ eL1,eZ,Nat.le_of_lt (Ax (by rw[yl];show 1+ts.length<=1000;w)),fun N hN=>?_⟩;h sN:=┊ hN (.lst ([V.ref e0]++ys));r q4 _ _ ⟨a,tl,W,p,N,ns,z,hd,as,nums,[V.ref e0]++ys,rfl,B8.same (s9.trans sN),Ab,by rw[│,yl];show 1+ts.length<=20;w,fun v hv=>?_⟩;rcases List.mem_append.mp hv with h | h
 ·rw[List.mem_singleton.mp h]
  !⟨e0,[],rfl,SqT.of ((s9.trans sN) _ _ ee),.nil,fun x hx=>(by cases hx)⟩
 ·!(hy v h).ts sN.ts
end
end K42
end
section
namespace L2
open PySem PySem.Spec PyProof.Rows
section
variable{B:Value->Value->Value->Option Addr->Value->Value->List Value->Sem (List (Str×Value))}{p q r s:Str}
theorem bn1(h:∀ kV doc pm an cdv ct a,B kV doc pm an cdv ct [a]=pure [(p,a)])(kV doc pm:Value)(an:Option Addr)(cdv ct:Value)(us:List Value)(hl:us.length=([p]:List Str).length):B kV doc pm an cdv ct us=pure (([p]:List Str).zip us):=by
 match us,hl with
 | [a],_=>!h ..
theorem bn2(h:∀ kV doc pm an cdv ct a b,B kV doc pm an cdv ct [a,b]=pure [(p,a),(q,b)])(kV doc pm:Value)(an:Option Addr)(cdv ct:Value)(us:List Value)(hl:us.length=([p,q]:List Str).length):B kV doc pm an cdv ct us=pure (([p,q]:List Str).zip us):=by
 match us,hl with
 | [a,b],_=>!h ..
theorem bn3(h:∀ kV doc pm an cdv ct a b c,B kV doc pm an cdv ct [a,b,c]=pure [(p,a),(q,b),(r,c)])(kV doc pm:Value)(an:Option Addr)(cdv ct:Value)(us:List Value)(hl:us.length=([p,q,r]:List Str).length):B kV doc pm an cdv ct us=pure (([p,q,r]:List Str).zip us):=by
 match us,hl with
 | [a,b,c],_=>!h ..
theorem bn4(h:∀ kV doc pm an cdv ct a b c d,B kV doc pm an cdv ct [a,b,c,d]=pure [(p,a),(q,b),(r,c),(s,d)])(kV doc pm:Value)(an:Option Addr)(cdv ct:Value)(us:List Value)(hl:us.length=([p,q,r,s]:List Str).length):B kV doc pm an cdv ct us=pure (([p,q,r,s]:List Str).zip us):=by
 match us,hl with
 | [a,b,c,d],_=>!h ..
end
end L2
end
namespace PySem.W.Fast
def tw10001207232781717014:=()
def tw10035853700376016298:=()
def tw10041824118684296221:=()
def tw10112770774705669696:=()
def tw10127880533817204208:=()
def tw10169118231489405474:=()
def tw10257998081222086220:=()
def tw10421973049130867785:=()
def tw10486439816617840056:=()
def tw10491969083127844233:=()
def tw10494401698440217095:=()
def tw10518834031103160170:=()
def tw10581433594092234370:=()
def tw10625590101166708569:=()
def tw10633917285895511597:=()
def tw10678697407054828762:=()
def tw1079451030401433458:=()
def tw10814413658251583553:=()
def tw10843316826041451065:=()
def tw1084936472796715748:=()
def tw10852154696959717160:=()
def tw10906080003696240936:=()
def tw1091244274651858738:=()
def tw10923827918232701584:=()
def tw10944046745325354029:=()
def tw10952902002171184040:=()
def tw1099733774602441325:=()
def tw11001660550790924134:=()
def tw11064490638052216296:=()
def tw11092265345781038902:=()
def tw11131777406050677254:=()
def tw11136565029267913671:=()
def tw11228372340359467959:=()
def tw11239512878201996094:=()
def tw1125743161912058337:=()
def tw11260990350511148423:=()
def tw11264472248057668929:=()
def tw11264596086254494598:=()
def tw11293287659136676804:=()
def tw11297440225775384437:=()
def tw1134176072039970474:=()
def tw1136661794177867664:=()
def tw11369565616167156357:=()
def tw11415576650547476913:=()
def tw11428871449365428670:=()
def tw11441271471141904444:=()
def tw11460614926007889361:=()
def tw11462345020420192029:=()
def tw11525544152747048803:=()
def tw11623734015693496773:=()
def tw11651185638975280304:=()
def tw1165153691771698286:=()
def tw1175904214148286498:=()
def tw11791212661958722405:=()
def tw11798080390839443765:=()
def tw118375506158380410:=()
def tw11859189627826412895:=()
def tw11868936240908202161:=()
def tw11891591042595444366:=()
def tw11897300290399096987:=()
def tw11940335507515321317:=()
def tw11997263562263588464:=()
def tw12006578758939680492:=()
def tw12030030387523798873:=()
def tw12031911119272602656:=()
def tw12057305882071287384:=()
def tw1226339186788849798:=()
def tw12360212423198997755:=()
def tw12368083239288072563:=()
def tw12401282271081292068:=()
def tw12527180642130795729:=()
def tw12577226255463087220:=()
def tw12609973885220543799:=()
def tw12642339651379028160:=()
def tw12695937608002392679:=()
def tw12720154076627283401:=()
def tw12728055420412691684:=()
def tw12729966633046845032:=()
def tw12824088103500051179:=()
def tw12874137578392603817:=()
def tw12915170941773926862:=()
def tw12963781952458644678:=()
def tw12965671815483603129:=()
def tw1300528827047210872:=()
def tw13021385106892165492:=()
def tw13038939764303687416:=()
def tw13091635138064469268:=()
def tw13136529047197032620:=()
def tw13154150912043008623:=()
def tw13214637478340380484:=()
def tw13216072090196472220:=()
def tw13260680490991218876:=()
def tw13314031783975471870:=()
def tw13343414860025715987:=()
def tw13415002106933392277:=()
def tw13478370309019419273:=()
def tw13525412467347886817:=()
def tw13545427066447024706:=()
def tw13686264831338581833:=()
def tw13700283820915452083:=()
def tw13703605892012667187:=()
def tw13707814551033024264:=()
def tw13735785897124697648:=()
def tw13820073102042742278:=()
def tw13870040761577395732:=()
def tw13956176807205226529:=()
def tw13990384696382136199:=()
def tw14061235415751110858:=()
def tw14073526233602749426:=()
def tw14073757176686811595:=()
def tw1407547623090387054:=()
def tw14097269885770668481:=()
def tw14215506558404760122:=()
def tw14264725303670927143:=()
def tw14310080399108887203:=()
def tw14331641719398607800:=()
def tw14338255968471690835:=()
def tw1439523495564924639:=()
def tw14479092214069405753:=()
def tw14489244733364525795:=()
def tw14640058091756636129:=()
def tw14646083288862154031:=()
def tw14655319688915954172:=()
def tw14703135881792872076:=()
def tw14712841291401838656:=()
def tw14729349104550054081:=()
def tw14798336482027911586:=()
def tw14905629088762947278:=()
def tw14930415909254373571:=()
def tw15173042151774534654:=()
def tw15231253904823506063:=()
def tw15238463655201827186:=()
def tw15269672973637869591:=()
def tw15332067327898198384:=()
def tw15344975863957219530:=()
def tw15435829333123215506:=()
def tw15438306714168361638:=()
def tw15492952982210863147:=()
def tw15557549456516612503:=()
def tw15586120916703048193:=()
def tw15672478239305835527:=()
def tw15687795219351300728:=()
def tw15706247330022303294:=()
def tw15817796796344410925:=()
def tw15830475456907494316:=()
def tw15953039322473061696:=()
def tw15968443318677082617:=()
def tw1598275724275858995:=()
def tw1607171119730750623:=()
def tw16095856663910960557:=()
def tw16213635972883727541:=()
def tw16275733788675709719:=()
def tw16365889217274394865:=()
def tw16368882640043752145:=()
def tw16405784398166699130:=()
def tw16431051647378003479:=()
def tw16436885348410200683:=()
def tw16452865441977160129:=()
def tw16479192461364365275:=()
def tw1649095134415619585:=()
def tw16559198062130304799:=()
def tw16658679327470310462:=()
def tw16670897562091645763:=()
def tw16752839772586356882:=()
def tw16760512087879302721:=()
def tw16827292066589245857:=()
def tw16847037500677868523:=()
def tw16893402195768006361:=()
def tw16947056187116781169:=()
def tw16961649047100208013:=()
def tw16981528993393006794:=()
def tw17006144695685081250:=()
def tw17060094530079375013:=()
def tw17158920754442866499:=()
def tw17162462821803864895:=()
def tw17237886369858272392:=()
def tw1724244271942462535:=()
def tw17321023382302478901:=()
def tw17332692662753520815:=()
def tw1743793057132058321:=()
def tw17451579554125477011:=()
def tw1748254320013137391:=()
def tw17515150757632442343:=()
def tw17581291794612963922:=()
def tw17591871609417377782:=()
def tw17667558074642083232:=()
def tw17670800127212522692:=()
def tw17675897922302715108:=()
def tw1769332329118140897:=()
def tw17697834823788804032:=()
def tw17724063767342720706:=()
def tw17771098091503089117:=()
def tw17790340074031192508:=()
def tw17809143018872741044:=()
def tw17856078289163907424:=()
def tw17884068883124527044:=()
def tw1789025611932901647:=()
def tw17900604134289386707:=()
def tw18011084482213460766:=()
def tw18043914644434304078:=()
def tw18049078388090431241:=()
def tw18064404250790441038:=()
def tw18073042807313170097:=()
def tw18079909750082542791:=()
def tw18086252994957749870:=()
def tw18099945682131967440:=()
def tw18107967183749334122:=()
def tw18202929508003310355:=()
def tw18221004926062534156:=()
def tw18241233824882798093:=()
def tw18287996562210863999:=()
def tw18302049649781950614:=()
def tw18324125760268220689:=()
def tw1881020291769925112:=()
def tw1925065546837502599:=()
def tw1953900727301695002:=()
def tw1964124862183119065:=()
def tw1990549898728343476:=()
def tw2014278393321873837:=()
def tw202484757814780433:=()
def tw203148061887771728:=()
def tw2091316919461979248:=()
def tw212496608867262290:=()
def tw2135175102844992778:=()
def tw2209444429202605193:=()
def tw2296203490139780634:=()
def tw2298259604950054398:=()
def tw2351303722155466670:=()
def tw2367034399677216839:=()
def tw2375014401044117529:=()
def tw2410498604528780532:=()
def tw2427282042500599744:=()
def tw2501467839722606431:=()
def tw2565130276022088685:=()
def tw2568980784591080954:=()
def tw2581482122547708903:=()
def tw2586795265796427977:=()
def tw2608278333313843701:=()
def tw2641885824852178503:=()
def tw2667288194903737386:=()
def tw2680445618271575425:=()
def tw2702181884519637332:=()
def tw2703040634312141875:=()
def tw2704602723239563168:=()
def tw2712791847887140302:=()
def tw2731583590088467098:=()
def tw2764384313873786848:=()
def tw2817544720216545455:=()
def tw2853927054406434368:=()
def tw2855235892975151500:=()
def tw2872284643211323603:=()
def tw2879041244842764760:=()
def tw2896416724495494536:=()
def tw291638812473676935:=()
def tw2925238268531520180:=()
def tw2929469501380600799:=()
def tw2965869315447911179:=()
def tw2991220899378418050:=()
def tw302207678326519232:=()
def tw3062113622274030181:=()
def tw3082578197251566608:=()
def tw3085701185923238701:=()
def tw3100106063549336408:=()
def tw3141522586448838732:=()
def tw3193214761245969413:=()
def tw3257477428671625930:=()
def tw3322628054758680268:=()
def tw3369210755169952245:=()
def tw3377361134552729236:=()
def tw3414725621985581847:=()
def tw3522493671243391023:=()
def tw3540030530482353139:=()
def tw3556123600220987069:=()
def tw3558229238992938972:=()
def tw3585179834844899009:=()
def tw3642853502594169110:=()
def tw3659824836195847252:=()
def tw3666726800304424881:=()
def tw3689551998852824072:=()
def tw3695829339196489260:=()
def tw3797118924495882364:=()
def tw3883958206564156034:=()
def tw3892194128768748141:=()
def tw3913012152005071296:=()
def tw3913240140796341454:=()
def tw3913285864543058040:=()
def tw3942144311145907144:=()
def tw401572874951767386:=()
def tw4101685452280034721:=()
def tw4126466175242411140:=()
def tw4187925816497523143:=()
def tw4188383238912733602:=()
def tw4200349736531044418:=()
def tw42188826753240499:=()
def tw4244801606979476293:=()
def tw4279268557099852806:=()
def tw4318145273033646886:=()
def tw4330633974912406894:=()
def tw4557268581481241659:=()
def tw4689962783091472594:=()
def tw4696559121514081915:=()
def tw4709162962254884046:=()
def tw4713465146076500503:=()
def tw4730439382259415998:=()
def tw4761649616556299985:=()
def tw4840882507507516821:=()
def tw4859778380813964680:=()
def tw4918603805285685449:=()
def tw4944875618005762788:=()
def tw4970816043667787448:=()
def tw4980045839316534024:=()
def tw4983928241781142982:=()
def tw5005695873189083838:=()
def tw5009156418252378060:=()
def tw5028194045832261207:=()
def tw5059730071149010329:=()
def tw5066869180917538196:=()
def tw5076657882167185242:=()
def tw5088369986625444106:=()
def tw5116457686735115271:=()
def tw5147044307481786009:=()
def tw5186275683595458026:=()
def tw5227121933969565044:=()
def tw5250432460561569463:=()
def tw5260397436520890796:=()
def tw528043347902729647:=()
def tw529511264407696993:=()
def tw5398531317999351935:=()
def tw5454901932468115164:=()
def tw5477656149793400787:=()
def tw548013216676249296:=()
def tw551778812608828409:=()
def tw5634858332435912625:=()
def tw564670951449715548:=()
def tw5704768934833373535:=()
def tw5719459949989080002:=()
def tw5736105655382514648:=()
def tw5836659467001689180:=()
def tw5843103224833970603:=()
def tw5897114445391717955:=()
def tw5982439188113716276:=()
def tw6007319436813542970:=()
def tw6010495428814854521:=()
def tw6033146433237629131:=()
def tw604312499373463896:=()
def tw6082309476440336743:=()
def tw6136127621937060559:=()
def tw6136135026461022178:=()
def tw6147023737990871724:=()
def tw6202971417210746184:=()
def tw6311479847791747948:=()
def tw6370774700771048098:=()
def tw6404862030995476580:=()
def tw6421251576689002783:=()
def tw648715381442697245:=()
def tw6532892171269758779:=()
def tw6551739871505848283:=()
def tw65867415380207477:=()
def tw6617657851152060076:=()
def tw6631282902805034822:=()
def tw6631310136856768461:=()
def tw664606739187629833:=()
def tw6646521354561052390:=()
def tw6790998296663289024:=()
def tw6838839652836224270:=()
def tw6857966049041509845:=()
def tw6973719088752441278:=()
def tw7002377498277553595:=()
def tw7010086735792165293:=()
def tw7015538933816916509:=()
def tw7018337654163082982:=()
def tw7023003681059826139:=()
def tw7030646459098943714:=()
def tw707741007460806407:=()
def tw7132421962058809645:=()
def tw7141128595424324434:=()
def tw71545766172289825:=()
def tw7155175960394159465:=()
def tw7170013163052115510:=()
def tw718747020320713375:=()
def tw719309330084332218:=()
def tw7256405445204409204:=()
def tw7274491393871912824:=()
def tw7389692389114349289:=()
def tw7397889470183149823:=()
def tw7460276348412821883:=()
def tw7533896976833380277:=()
def tw7558968665758084234:=()
def tw7587138315209117580:=()
def tw7587536957767237378:=()
def tw7587942834411326568:=()
def tw7591191486797452649:=()
def tw7665214994677290812:=()
def tw7697257098790697052:=()
def tw7719224307976578656:=()
def tw7770563996111990908:=()
def tw7901756194263007031:=()
def tw7966571675154460099:=()
def tw7972095106612443596:=()
def tw7994392402468413604:=()
def tw8051062571825091419:=()
def tw8062334282187149825:=()
def tw8135675543504514028:=()
def tw8136249500939175664:=()
def tw8144149921003494572:=()
def tw8192140729249508246:=()
def tw8309193786412844279:=()
def tw8340407436358840350:=()
def tw8341958230390635985:=()
def tw8476469601640541596:=()
def tw8483214437936240581:=()
def tw8500293072459963007:=()
def tw8517958855605089122:=()
def tw8553547273604395041:=()
def tw8606682470159653847:=()
def tw8652913098410864355:=()
def tw8668571000532835372:=()
def tw870440332973913244:=()
def tw8737277619757232172:=()
def tw8777246387242347084:=()
def tw8789723129695030049:=()
def tw8838018387552235051:=()
def tw885106936546549680:=()
def tw8854598949602222381:=()
def tw8889884837463312289:=()
def tw8898372580894575053:=()
def tw8938239542856919132:=()
def tw897564909936944574:=()
def tw8997862293254087001:=()
def tw9002667870136525668:=()
def tw9014916698285706637:=()
def tw9017342247757007095:=()
def tw9043084749366934104:=()
def tw9053225621393058203:=()
def tw9113010809872277502:=()
def tw9166897774726471336:=()
def tw9173548339629791438:=()
def tw9193510451673360681:=()
def tw920580334051361107:=()
def tw9217132372019253698:=()
def tw9219090410887291661:=()
def tw9241579281533495961:=()
def tw9311617026210441322:=()
def tw9316940995545633849:=()
def tw9344478984092324438:=()
def tw9356736443955825513:=()
def tw9415942023746424919:=()
def tw9517296848462725796:=()
def tw9554773008326091536:=()
def tw9604791258575154989:=()
def tw9610573805401760264:=()
def tw9621899020721709287:=()
def tw963000986746616508:=()
def tw9653030632398792884:=()
def tw9683765003589918665:=()
def tw9761968244358758669:=()
def tw9764687549059196797:=()
def tw9814345857790841977:=()
def tw9865293078280423682:=()
def tw987111582137640464:=()
def tw9956070608598276107:=()
def tw9965624564670217324:=()
def tw9986295493494943346:=()
def tw9987482757022164367:=()
def tw9992504469680773710:=()
end PySem.W.Fast
namespace K42
open PySem L2 G
theorem all_mk{l:PySem.W.OpenLaw}{w:World}{K:¨}{h:Heap}{mg:Str->Option Value}{fa C:Addr}(X:K.In h)(G:h.Ns mainGlobals mg)(hfa:mg "law" = some (.ref fa))
  {f1:Addr}{ab0 ab1:Option Addr}{ab2:Array ⑨}{ab3 ab4 ab5 ab6 wV ab7:Value}
  {f2:Addr}{ab8 ab9:Option Addr}{sl2:Array ⑨}{acd ace acf acg wW ach:Value}
  {f3:Addr}{aci acj:Option Addr}{acn:Array ⑨}{aco acp acq acr wX acs:Value}
  {f4:Addr}{acu acv:Option Addr}{acw:Array ⑨}{acy acz acA acB wY acC:Value}
  {f5:Addr}{acD acE:Option Addr}{acF:Array ⑨}{acG acH acI acJ wZ acK:Value}
  {f6:Addr}{acL acM:Option Addr}{acN:Array ⑨}{acO acP acQ acR w6 acS:Value}
  {f7:Addr}{acT acU:Option Addr}{acV:Array ⑨}{acW acX acY acZ xg ac0:Value}
  {f8:Addr}{ac1 ac2:Option Addr}{ac4:Array ⑨}{ac5 ac6 ac7 ac8 xq ac9:Value}
  {f9:Addr}{ada adb:Option Addr}{ade:Array ⑨}{adf adg adh adi xr adk:Value}
  {f10:Addr}{xu xG:Option Addr}{xH:Array ⑨}{xJ xK xM xO tK xP:Value}
  {f11:Addr}{xQ xR:Option Addr}{xT:Array ⑨}{xU xV xW xX tL xY:Value}
  {f12:Addr}{xZ yc:Option Addr}{yd:Array ⑨}{yg yh yj yp tM yq:Value}
  {f13:Addr}{yr yt:Option Addr}{yu:Array ⑨}{yw yx yC yD tO yE:Value}
  {f14:Addr}{yF yG:Option Addr}{yH:Array ⑨}{yI yJ yK yL tQ yM:Value}
  {f15:Addr}{yN yO:Option Addr}{yP:Array ⑨}{yQ yR yS yU tR yV:Value}
  {f16:Addr}{yW yX:Option Addr}{yZ:Array ⑨}{za zc zf zj tU zm:Value}
  {f17:Addr}{zp zq:Option Addr}{zu:Array ⑨}{zx zy zA zB tV zE:Value}
  {f18:Addr}{zF zG:Option Addr}{zH:Array ⑨}{zJ zK zL zM tW zN:Value}
  {f19:Addr}{zO zP:Option Addr}{zQ:Array ⑨}{zR zT zU zV tX zW:Value}
  {f20:Addr}{zX zY:Option Addr}{zZ:Array ⑨}{aac aad aae aaf tY aag:Value}
  {f21:Addr}{aah aai:Option Addr}{aaj:Array ⑨}{aak aal aam aan tZ aao:Value}
  {f22:Addr}{aap aaq:Option Addr}{aar:Array ⑨}{aas aat aau aav uc aaw:Value}
  {f23:Addr}{aax aay:Option Addr}{aaz:Array ⑨}{aaA aaB aaC aaD ud aaE:Value}
  {f24:Addr}{aaF aaG:Option Addr}{aaH:Array ⑨}{aaI aaJ aaK aaL uf aaM:Value}
  {f25:Addr}{aaN aaO:Option Addr}{aaP:Array ⑨}{aaQ aaR aaS aaT ug aaU:Value}
  {f26:Addr}{aaV aaW:Option Addr}{aaX:Array ⑨}{aaY aaZ aa0 aa1 uh aa2:Value}
  {f27:Addr}{aa3 aa4:Option Addr}{aa5:Array ⑨}{aa6 aa7 aa8 aa9 uo abb:Value}
  {f28:Addr}{abd abe:Option Addr}{abf:Array ⑨}{abg abh abj abk uw abl:Value}
  {f29:Addr}{abm abn:Option Addr}{abo:Array ⑨}{abp abq abr abt uy abu:Value}
  {f30:Addr}{abv abw:Option Addr}{abx:Array ⑨}{aby abz abA abB uz abC:Value}
  {f31:Addr}{abD abE:Option Addr}{abF:Array ⑨}{abG abH abI abJ uD abK:Value}
  (aC:PySem.W.nsIn K mainGlobals "Web" = some (some (.ref C)))
  (a1:® K (.ref C) "__init__" = some (some (.ref f1))) (i1:PySem.W.isFn K (.ref f1)=true) (l1:K.lookup f1=some ⟨ab3,ab0,.func (PySem.W.fnOf "__init__" "Web.__init__" (Aq Et) (Am Et) (Ac Et) .none ab4 ab5 ab6 ab1 wV ab7),ab2⟩) (c1:┇ K wV "Web.__init__" = true) (k1:© K (.ref f1)=true)
  (a2:® K (.ref C) "size" = some (some (.ref f2))) (i2:PySem.W.isFn K (.ref f2)=true) (l2:K.lookup f2=some ⟨acd,ab8,.func (PySem.W.fnOf "size" "Web.size" (Aq Nb) (Am Nb) (Ac Nb) .none ace acf acg ab9 wW ach),sl2⟩) (c2:┇ K wW "Web.size" = true) (k2:© K (.ref f2)=true)
  (a3:® K (.ref C) "ties" = some (some (.ref f3))) (i3:PySem.W.isFn K (.ref f3)=true) (l3:K.lookup f3=some ⟨aco,aci,.func (PySem.W.fnOf "ties" "Web.ties" (Aq Mt) (Am Mt) (Ac Mt) .none acp acq acr acj wX acs),acn⟩) (c3:┇ K wX "Web.ties" = true) (k3:© K (.ref f3)=true)
  (a4:® K (.ref C) "at" = some (some (.ref f4))) (i4:PySem.W.isFn K (.ref f4)=true) (l4:K.lookup f4=some ⟨acy,acu,.func (PySem.W.fnOf "at" "Web.at" (Aq sAt) (Am sAt) (Ac sAt) .none acz acA acB acv wY acC),acw⟩) (c4:┇ K wY "Web.at" = true) (k4:© K (.ref f4)=true)
  (a5:PySem.W.nsIn K mainGlobals "refuse_amounts" = some (some (.ref f5))) (l5:K.lookup f5=some ⟨acG,acD,.func (PySem.W.fnOf "refuse_amounts" "refuse_amounts" (Aq ZR) (Am ZR) (Ac ZR) .none acH acI acJ acE wZ acK),acF⟩) (c5:┇ K wZ "refuse_amounts" = true) (k5:© K (.ref f5)=true)
  (a6:PySem.W.nsIn K mainGlobals "checked_ties" = some (some (.ref f6))) (l6:K.lookup f6=some ⟨acO,acL,.func (PySem.W.fnOf "checked_ties" "checked_ties" (Aq Ze) (Am Ze) (Ac Ze) .none acP acQ acR acM w6 acS),acN⟩) (c6:┇ K w6 "checked_ties" = true) (k6:© K (.ref f6)=true)
  (a7:PySem.W.nsIn K mainGlobals "refuse_points" = some (some (.ref f7))) (l7:K.lookup f7=some ⟨acW,acT,.func (PySem.W.fnOf "refuse_points" "refuse_points" (Aq Xp) (Am Xp) (Ac Xp) .none acX acY acZ acU xg ac0),acV⟩) (c7:┇ K xg "refuse_points" = true) (k7:© K (.ref f7)=true)
  (a8:PySem.W.nsIn K mainGlobals "_law_cell_at" = some (some (.ref f8))) (l8:K.lookup f8=some ⟨ac5,ac1,.func (PySem.W.fnOf "_law_cell_at" "_law_cell_at" (Aq Oe) (Am Oe) (Ac Oe) .none ac6 ac7 ac8 ac2 xq ac9),ac4⟩) (c8:┇ K xq "_law_cell_at" = true) (k8:© K (.ref f8)=true)
  (a9:PySem.W.nsIn K mainGlobals "_law_mixed" = some (some (.ref f9))) (l9:K.lookup f9=some ⟨adf,ada,.func (PySem.W.fnOf "_law_mixed" "_law_mixed" (Aq Yw) (Am Yw) (Ac Yw) .none adg adh adi adb xr adk),ade⟩) (c9:┇ K xr "_law_mixed" = true) (k9:© K (.ref f9)=true)
  (a10:PySem.W.nsIn K mainGlobals "points_under" = some (some (.ref f10))) (l10:K.lookup f10=some ⟨xJ,xu,.func (PySem.W.fnOf "points_under" "points_under" (Aq HX) (Am HX) (Ac HX) .none xK xM xO xG tK xP),xH⟩) (c10:┇ K tK "points_under" = true) (k10:© K (.ref f10)=true)
  (a11:PySem.W.nsIn K mainGlobals "heads_without" = some (some (.ref f11))) (l11:K.lookup f11=some ⟨xU,xQ,.func (PySem.W.fnOf "heads_without" "heads_without" (Aq Fx) (Am Fx) (Ac Fx) .none xV xW xX xR tL xY),xT⟩) (c11:┇ K tL "heads_without" = true) (k11:© K (.ref f11)=true)
  (a12:PySem.W.nsIn K mainGlobals "parts_as_one" = some (some (.ref f12))) (l12:K.lookup f12=some ⟨yg,xZ,.func (PySem.W.fnOf "parts_as_one" "parts_as_one" (Aq Hg) (Am Hg) (Ac Hg) .none yh yj yp yc tM yq),yd⟩) (c12:┇ K tM "parts_as_one" = true) (k12:© K (.ref f12)=true)
  (a13:PySem.W.nsIn K mainGlobals "least_graph" = some (some (.ref f13))) (l13:K.lookup f13=some ⟨yw,yr,.func (PySem.W.fnOf "least_graph" "least_graph" (Aq K42s.Fz) (Am K42s.Fz) (Ac K42s.Fz) .none yx yC yD yt tO yE),yu⟩) (c13:┇ K tO "least_graph" = true) (k13:© K (.ref f13)=true)
  (a14:PySem.W.nsIn K mainGlobals "reached_knots" = some (some (.ref f14))) (l14:K.lookup f14=some ⟨yI,yF,.func (PySem.W.fnOf "reached_knots" "reached_knots" (Aq K42s.Hf) (Am K42s.Hf) (Ac K42s.Hf) .none yJ yK yL yG tQ yM),yH⟩) (c14:┇ K tQ "reached_knots" = true) (k14:© K (.ref f14)=true)
  (a15:PySem.W.nsIn K mainGlobals "row_in_places" = some (some (.ref f15))) (l15:K.lookup f15=some ⟨yQ,yN,.func (PySem.W.fnOf "row_in_places" "row_in_places" (Aq K42s.sIn) (Am K42s.sIn) (Ac K42s.sIn) .none yR yS yU yO tR yV),yP⟩) (c15:┇ K tR "row_in_places" = true) (k15:© K (.ref f15)=true)
  (a16:PySem.W.nsIn K mainGlobals "sets_of" = some (some (.ref f16))) (l16:K.lookup f16=some ⟨za,yW,.func (PySem.W.fnOf "sets_of" "sets_of" (Aq K42s.Ld) (Am K42s.Ld) (Ac K42s.Ld) .none zc zf zj yX tU zm),yZ⟩) (c16:┇ K tU "sets_of" = true) (k16:© K (.ref f16)=true)
  (a17:PySem.W.nsIn K mainGlobals "has_set" = some (some (.ref f17))) (l17:K.lookup f17=some ⟨zx,zp,.func (PySem.W.fnOf "has_set" "has_set" (Aq K42s.Xv) (Am K42s.Xv) (Ac K42s.Xv) .none zy zA zB zq tV zE),zu⟩) (c17:┇ K tV "has_set" = true) (k17:© K (.ref f17)=true)
  (a18:PySem.W.nsIn K mainGlobals "knot_of" = some (some (.ref f18))) (l18:K.lookup f18=some ⟨zJ,zF,.func (PySem.W.fnOf "knot_of" "knot_of" (Aq K42s.DR) (Am K42s.DR) (Ac K42s.DR) .none zK zL zM zG tW zN),zH⟩) (c18:┇ K tW "knot_of" = true) (k18:© K (.ref f18)=true)
  (a19:PySem.W.nsIn K mainGlobals "refuse_amount" = some (some (.ref f19))) (l19:K.lookup f19=some ⟨zR,zO,.func (PySem.W.fnOf "refuse_amount" "refuse_amount" (Aq K42s.Od) (Am K42s.Od) (Ac K42s.Od) .none zT zU zV zP tX zW),zQ⟩) (c19:┇ K tX "refuse_amount" = true) (k19:© K (.ref f19)=true)
  (a20:PySem.W.nsIn K mainGlobals "is_set_below" = some (some (.ref f20))) (l20:K.lookup f20=some ⟨aac,zX,.func (PySem.W.fnOf "is_set_below" "is_set_below" (Aq K42s.Ef) (Am K42s.Ef) (Ac K42s.Ef) .none aad aae aaf zY tY aag),zZ⟩) (c20:┇ K tY "is_set_below" = true) (k20:© K (.ref f20)=true)
  (a21:PySem.W.nsIn K mainGlobals "sieve_of" = some (some (.ref f21))) (l21:K.lookup f21=some ⟨aak,aah,.func (PySem.W.fnOf "sieve_of" "sieve_of" (Aq K42s.HS) (Am K42s.HS) (Ac K42s.HS) .none aal aam aan aai tZ aao),aaj⟩) (c21:┇ K tZ "sieve_of" = true) (k21:© K (.ref f21)=true)
  (a22:PySem.W.nsIn K mainGlobals "grown" = some (some (.ref f22))) (l22:K.lookup f22=some ⟨aas,aap,.func (PySem.W.fnOf "grown" "grown" (Aq JM) (Am JM) (Ac JM) .none aat aau aav aaq uc aaw),aar⟩) (c22:┇ K uc "grown" = true) (k22:© K (.ref f22)=true)
  (a23:PySem.W.nsIn K mainGlobals "points_behind" = some (some (.ref f23))) (l23:K.lookup f23=some ⟨aaA,aax,.func (PySem.W.fnOf "points_behind" "points_behind" (Aq FT) (Am FT) (Ac FT) .none aaB aaC aaD aay ud aaE),aaz⟩) (c23:┇ K ud "points_behind" = true) (k23:© K (.ref f23)=true)
  (a24:PySem.W.nsIn K mainGlobals "_law_size" = some (some (.ref f24))) (l24:K.lookup f24=some ⟨aaI,aaF,.func (PySem.W.fnOf "_law_size" "_law_size" (Aq JH) (Am JH) (Ac JH) .none aaJ aaK aaL aaG uf aaM),aaH⟩) (c24:┇ K uf "_law_size" = true) (k24:© K (.ref f24)=true)
  (a25:PySem.W.nsIn K mainGlobals "_law_ties" = some (some (.ref f25))) (l25:K.lookup f25=some ⟨aaQ,aaN,.func (PySem.W.fnOf "_law_ties" "_law_ties" (Aq Iw) (Am Iw) (Ac Iw) .none aaR aaS aaT aaO ug aaU),aaP⟩) (c25:┇ K ug "_law_ties" = true) (k25:© K (.ref f25)=true)
  (a26:PySem.W.nsIn K mainGlobals "_law_set" = some (some (.ref f26))) (l26:K.lookup f26=some ⟨aaY,aaV,.func (PySem.W.fnOf "_law_set" "_law_set" (Aq UG) (Am UG) (Ac UG) .none aaZ aa0 aa1 aaW uh aa2),aaX⟩) (c26:┇ K uh "_law_set" = true) (k26:© K (.ref f26)=true)
  (a27:PySem.W.nsIn K mainGlobals "_law_labels" = some (some (.ref f27))) (l27:K.lookup f27=some ⟨aa6,aa3,.func (PySem.W.fnOf "_law_labels" "_law_labels" (Aq Fi) (Am Fi) (Ac Fi) .none aa7 aa8 aa9 aa4 uo abb),aa5⟩) (c27:┇ K uo "_law_labels" = true) (k27:© K (.ref f27)=true)
  (a28:PySem.W.nsIn K mainGlobals "_law_picked" = some (some (.ref f28))) (l28:K.lookup f28=some ⟨abg,abd,.func (PySem.W.fnOf "_law_picked" "_law_picked" (Aq Fb) (Am Fb) (Ac Fb) .none abh abj abk abe uw abl),abf⟩) (c28:┇ K uw "_law_picked" = true) (k28:© K (.ref f28)=true)
  (a29:PySem.W.nsIn K mainGlobals "_law_is_wood" = some (some (.ref f29))) (l29:K.lookup f29=some ⟨abp,abm,.func (PySem.W.fnOf "_law_is_wood" "_law_is_wood" (Aq Gj) (Am Gj) (Ac Gj) .none abq abr abt abn uy abu),abo⟩) (c29:┇ K uy "_law_is_wood" = true) (k29:© K (.ref f29)=true)
  (a30:PySem.W.nsIn K mainGlobals "_law_is_least" = some (some (.ref f30))) (l30:K.lookup f30=some ⟨aby,abv,.func (PySem.W.fnOf "_law_is_least" "_law_is_least" (Aq Es) (Am Es) (Ac Es) .none abz abA abB abw uz abC),abx⟩) (c30:┇ K uz "_law_is_least" = true) (k30:© K (.ref f30)=true)
  (a31:PySem.W.nsIn K mainGlobals "law" = some (some (.ref f31))) (l31:K.lookup f31=some ⟨abG,abD,.func (PySem.W.fnOf "law" "law" (Aq JR) (Am JR) (Ac JR) .none abH abI abJ abE uD abK),abF⟩) (c31:┇ K uD "law" = true) (k31:© K (.ref f31)=true)
  (pg:PySem.W.plainGet K C Str.empty=true) (hd:PySem.W.hasDictIn K C=true) (po:PySem.W.plainOver K C=true) (sa:® K (.ref C) "__setattr__" = some (some (.builtin "object.__setattr__"))) (mk:PySem.W.makesIn K C=true) (kc:© K (.ref C)=true)
  (n0:® K (.ref C) "amount" = some none)
  (n1:® K (.ref C) "joints" = some none)
  {t0:Tok} (v0:PySem.W.nsIn K mainGlobals "MOST_POINTS" = some (some (.int 10 t0)))
  {t1:Tok} (v1:PySem.W.nsIn K mainGlobals "MOST_TIES_webs" = some (some (.int 12 t1)))
  {t2:Tok} (v2:PySem.W.nsIn K mainGlobals "MOST_TIES_making" = some (some (.int 12 t2)))
  (z0:PySem.W.nsIn K mainGlobals "len" = some none)
  (z1:PySem.W.nsIn K mainGlobals "range" = some none)
  (z2:PySem.W.nsIn K mainGlobals "int" = some none)
  (z3:PySem.W.nsIn K mainGlobals "max" = some none)
  (z4:PySem.W.nsIn K mainGlobals "min" = some none)
  (z5:PySem.W.nsIn K mainGlobals "sorted" = some none)
  (z6:PySem.W.nsIn K mainGlobals "tuple" = some none)
  (z7:PySem.W.nsIn K mainGlobals "list" = some none)
  (z8:PySem.W.nsIn K mainGlobals "bool" = some none)
  (z9:PySem.W.nsIn K mainGlobals "enumerate" = some none)
  (z10:PySem.W.nsIn K mainGlobals "isinstance" = some none)
  {D:Addr} (uE:PySem.W.nsIn K mainGlobals "Woods" = some (some (.ref D)))
  (lH:PySem.W.plainGet K D Str.empty=true)
  (lJ:PySem.W.hasDictIn K D=true)
  (lK:PySem.W.plainOver K D=true)
  (lM:® K (.ref D) "__setattr__" = some (some (.builtin "object.__setattr__")))
  (lN:PySem.W.makesIn K D=true)
  (lQ:© K (.ref D)=true)
  (uF:® K (.ref D) "__class__" = some (some (.builtin "object.__class__")))
  (uG:PySem.W.specialIn K (.builtin "object.__class__") "__get__" = some (some (.builtin "getset_descriptor.__get__")))
  (uH:PySem.W.takesIn K (.builtin "object.__class__")=some true)
  (uI:PySem.W.mroIn K D (.type "object")=some true)
  (uJ:PySem.W.kitOne K (.ref D) (.ref D)=some true)
  {Sv:Addr} (lR:PySem.W.nsIn K mainGlobals "Sieve" = some (some (.ref Sv)))
  (dJ:PySem.W.plainGet K Sv Str.empty=true)
  (dM:PySem.W.hasDictIn K Sv=true)
  (dN:PySem.W.plainOver K Sv=true)
  (dR:® K (.ref Sv) "__setattr__" = some (some (.builtin "object.__setattr__")))
  (jd:PySem.W.makesIn K Sv=true)
  (je:© K (.ref Sv)=true)
  (jf:® K (.ref Sv) "__class__" = some (some (.builtin "object.__class__")))
  (jg:PySem.W.specialIn K (.builtin "object.__class__") "__get__" = some (some (.builtin "getset_descriptor.__get__")))
  (jk:PySem.W.takesIn K (.builtin "object.__class__")=some true)
  (jo:PySem.W.mroIn K Sv (.type "object")=some true)
  (jq:PySem.W.kitOne K (.ref Sv) (.ref Sv)=some true)
  {Gw:Addr} (lU:PySem.W.nsIn K mainGlobals "Growth" = some (some (.ref Gw)))
  (jr:PySem.W.plainGet K Gw Str.empty=true)
  (ju:PySem.W.hasDictIn K Gw=true)
  (jx:PySem.W.plainOver K Gw=true)
  (jy:® K (.ref Gw) "__setattr__" = some (some (.builtin "object.__setattr__")))
  (jA:PySem.W.makesIn K Gw=true)
  (jB:© K (.ref Gw)=true)
  (pH:® K (.ref Gw) "__class__" = some (some (.builtin "object.__class__")))
  (pI:PySem.W.specialIn K (.builtin "object.__class__") "__get__" = some (some (.builtin "getset_descriptor.__get__")))
  (pJ:PySem.W.takesIn K (.builtin "object.__class__")=some true)
  (pK:PySem.W.mroIn K Gw (.type "object")=some true)
  (pN:PySem.W.kitOne K (.ref Gw) (.ref Gw)=some true)
  (lV:® K (.ref D) "__init__" = some (some (.builtin "object.__init__")))
  (jC:PySem.W.nsIn K mainGlobals "all" = some none)
  (dU:PySem.W.nsIn K mainGlobals "set" = some none)
  (aF:PySem.W.nsIn K mainGlobals "reversed" = some none)
  (bw:® K (.ref Sv) "amount" = some none)
  (dY:® K (.ref Sv) "rows" = some none)
  (dZ:® K (.ref Sv) "head" = some none)
  (jD:® K (.ref Gw) "web" = some none)
  (d7:® K (.ref Gw) "rule" = some none)
  (bx:® K (.ref Gw) "amount" = some none)
  (bD:® K (.ref Gw) "behind" = some none)
  (d8:® K (.ref Gw) "rows" = some none)
  (cL:® K (.ref Gw) "known" = some none)
  {ao:Addr}{lW lX:Option Addr}{lY:Array ⑨}{lZ mj mq mz d9 mD:Value} (cM:® K (.ref D) "begun" = some (some (.ref ao)))
  (cN:PySem.W.isFn K (.ref ao)=true)
  (cO:K.lookup ao=some ⟨lZ,lW,.func (PySem.W.fnOf "begun" "Woods.begun" (Aq Im) (Am Im) (Ac Im) .none mj mq mz lX d9 mD),lY⟩)
  (cP:┇ K d9 "Woods.begun" = true)
  (aN:© K (.ref ao)=true)
  {aq:Addr}{mF mJ:Option Addr}{mQ:Array ⑨}{mW mX m5 m7 eE m8:Value} (cQ:® K (.ref D) "taken" = some (some (.ref aq)))
  (cR:PySem.W.isFn K (.ref aq)=true)
  (cT:K.lookup aq=some ⟨mW,mF,.func (PySem.W.fnOf "taken" "Woods.taken" (Aq Ip) (Am Ip) (Ac Ip) .none mX m5 m7 mJ eE m8),mQ⟩)
  (cU:┇ K eE "Woods.taken" = true)
  (aO:© K (.ref aq)=true)
  {aj:Addr}{jM jN:Option Addr}{jO:Array ⑨}{jP jQ jR jT dH jU:Value} (bF:® K (.ref D) "passed" = some (some (.ref aj)))
  (bJ:PySem.W.isFn K (.ref aj)=true)
  (bQ:K.lookup aj=some ⟨jP,jM,.func (PySem.W.fnOf "passed" "Woods.passed" (Aq Gh) (Am Gh) (Ac Gh) .none jQ jR jT jN dH jU),jO⟩)
  (bW:┇ K dH "Woods.passed" = true)
  (aG:© K (.ref aj)=true)
  {cF:Addr}{uK uL:Option Addr}{uM:Array ⑨}{uN uO uP uQ jV uR:Value} (jE:® K (.ref D) "fulfilled" = some (some (.ref cF)))
  (jF:PySem.W.isFn K (.ref cF)=true)
  (jG:K.lookup cF=some ⟨uN,uK,.func (PySem.W.fnOf "fulfilled" "Woods.fulfilled" (Aq ZX) (Am ZX) (Ac ZX) .none uO uP uQ uL jV uR),uM⟩)
  (jH:┇ K jV "Woods.fulfilled" = true)
  (dX:© K (.ref cF)=true)
  {aJ:Addr}{qj ql:Option Addr}{qm:Array ⑨}{qt qu qw qy gW qC:Value} (eF:® K (.ref D) "left" = some (some (.ref aJ)))
  (eG:PySem.W.isFn K (.ref aJ)=true)
  (eO:K.lookup aJ=some ⟨qt,qj,.func (PySem.W.fnOf "left" "Rule.left" (Aq PJ) (Am PJ) (Ac PJ) .none qu qw qy ql gW qC),qm⟩)
  (eU:┇ K gW "Rule.left" = true)
  (cG:© K (.ref aJ)=true)
  {au:Addr}{m9 nC:Option Addr}{nF:Array ⑨}{nG nM nO nP eV nQ:Value} (aP:® K (.ref Sv) "__init__" = some (some (.ref au)))
  (aQ:PySem.W.isFn K (.ref au)=true)
  (cV:K.lookup au=some ⟨nG,m9,.func (PySem.W.fnOf "__init__" "Sieve.__init__" (Aq K42s.Et) (Am K42s.Et) (Ac K42s.Et) .none nM nO nP nC eV nQ),nF⟩)
  (cW:┇ K eV "Sieve.__init__" = true)
  (aR:© K (.ref au)=true)
  {aA:Addr}{nT nZ:Option Addr}{n6:Array ⑨}{oh ou oA oE eX oF:Value} (cX:® K (.ref Sv) "knots" = some (some (.ref aA)))
  (cY:PySem.W.isFn K (.ref aA)=true)
  (cZ:K.lookup aA=some ⟨oh,nT,.func (PySem.W.fnOf "knots" "Sieve.knots" (Aq K42s.JF) (Am K42s.JF) (Ac K42s.JF) .none ou oA oE nZ eX oF),n6⟩)
  (dh:┇ K eX "Sieve.knots" = true)
  (aU:© K (.ref aA)=true)
  {aK:Addr}{qD qF:Option Addr}{qG:Array ⑨}{qH qI qJ qK gY qL:Value} (fj:® K (.ref Sv) "top" = some (some (.ref aK)))
  (fD:PySem.W.isFn K (.ref aK)=true)
  (fJ:K.lookup aK=some ⟨qH,qD,.func (PySem.W.fnOf "top" "Sieve.top" (Aq K42s.YC) (Am K42s.YC) (Ac K42s.YC) .none qI qJ qK qF gY qL),qG⟩)
  (fQ:┇ K gY "Sieve.top" = true)
  (cH:© K (.ref aK)=true)
  {aB:Addr}{oG oH:Option Addr}{oJ:Array ⑨}{oK oM oN oO fW oR:Value} (dj:® K (.ref Sv) "many" = some (some (.ref aB)))
  (dz:PySem.W.isFn K (.ref aB)=true)
  (dB:K.lookup aB=some ⟨oK,oG,.func (PySem.W.fnOf "many" "Sieve.many" (Aq K42s.NP) (Am K42s.NP) (Ac K42s.NP) .none oM oN oO oH fW oR),oJ⟩)
  (dD:┇ K fW "Sieve.many" = true)
  (aV:© K (.ref aB)=true)
  {aD:Addr}{oU oW:Option Addr}{oX:Array ⑨}{oY oZ pA pC fX pD:Value} (aW:® K (.ref Gw) "__init__" = some (some (.ref aD)))
  (aX:PySem.W.isFn K (.ref aD)=true)
  (dF:K.lookup aD=some ⟨oY,oU,.func (PySem.W.fnOf "__init__" "Growth.__init__" (Aq Hh) (Am Hh) (Ac Hh) .none oZ pA pC oW fX pD),oX⟩)
  (dG:┇ K fX "Growth.__init__" = true)
  (aY:© K (.ref aD)=true)
  {ak:Addr}{jW jX:Option Addr}{jY:Array ⑨}{jZ j4 j5 j6 dI j7:Value} (cu:® K (.ref Gw) "knot_at" = some (some (.ref ak)))
  (cA:PySem.W.isFn K (.ref ak)=true)
  (cB:K.lookup ak=some ⟨jZ,jW,.func (PySem.W.fnOf "knot_at" "Growth.knot_at" (Aq FW) (Am FW) (Ac FW) .none j4 j5 j6 jX dI j7),jY⟩)
  (cC:┇ K dI "Growth.knot_at" = true)
  (aH:© K (.ref ak)=true)
  {aM:Addr}{qM qN:Option Addr}{qO:Array ⑨}{qP qQ qR qT gZ qU:Value} (gj:® K (.ref Gw) "past_points" = some (some (.ref aM)))
  (gk:PySem.W.isFn K (.ref aM)=true)
  (gn:K.lookup aM=some ⟨qP,qM,.func (PySem.W.fnOf "past_points" "Growth.past_points" (Aq Ou) (Am Ou) (Ac Ou) .none qQ qR qT qN gZ qU),qO⟩)
  (gq:┇ K gZ "Growth.past_points" = true)
  (cI:© K (.ref aM)=true) :
  ∃ fd:FuncData,(∀(s:Shared) (v:Value),BindsTo s fd ⟨[v],[]⟩ [("_law_script",v)])/\∀ base:Heap,K.In base->base.Ns mainGlobals mg->FnOk l.prog w K mg base CX0 19 fa fd ["_law_script"] (Rb K):=by
 h e:=hfa.symm.trans (PySem.W.mg_of X G a31);cases e;h j8:=BL (st:=Et) l1 c1 k1;h uT:=j8.binds (ps:=["self","many","ties"]) (bn3 fun _ _ _ _ _ _ _ _ _=>rfl);h adl:Meth K C "__init__" f1:=⟨a1,i1,k1⟩;h adn:=k1;h j9:=BL (st:=Nb) l2 c2 k2;h gw:=j9.binds (ps:=["self"]) (bn1 fun _ _ _ _ _ _ _=>rfl);h m_size:Meth K C "size" f2:=⟨a2,i2,k2⟩;h k_size:=k2;h kh:=BL (st:=Mt) l3 c3 k3;h gA:=kh.binds (ps:=["self"]) (bn1 fun _ _ _ _ _ _ _=>rfl);h gC:Meth K C "ties" f3:=⟨a3,i3,k3⟩;h ado:=k3;h uU:=BL (st:=sAt) l4 c4 k4;h abL:=uU.binds (ps:=["self","point"]) (bn2 fun _ _ _ _ _ _ _ _=>rfl);h abM:Meth K C "at" f4:=⟨a4,i4,k4⟩;h ady:=k4;h pO:=BL (st:=ZR) l5 c5 k5;h vY:=pO.binds (ps:=["points","ties"]) (bn2 fun _ _ _ _ _ _ _ _=>rfl);h vZ:=PySem.W.mg_of X G a5;h v7:=k5;h pP:=BL (st:=Ze) l6 c6 k6;h v8:=pP.binds (ps:=["many","ties"]) (bn2 fun _ _ _ _ _ _ _ _=>rfl);h v9:=PySem.W.mg_of X G a6;h wg:=k6;h pQ:=BL (st:=Xp) l7 c7 k7;h wj:=pQ.binds (ps:=["many","tie"]) (bn2 fun _ _ _ _ _ _ _ _=>rfl);h wk:=PySem.W.mg_of X G a7;h wu:=k7;h kj:=BL (st:=Oe) l8 c8 k8;h kE:=kj.binds (ps:=["_law_script","_law_k"]) (bn2 fun _ _ _ _ _ _ _ _=>rfl);h kJ:=PySem.W.mg_of X G a8;h kW:=k8;h pR:=BL (st:=Yw) l9 c9 k9;h wz:=pR.binds (ps:=["_law_cell","_law_k"]) (bn2 fun _ _ _ _ _ _ _ _=>rfl);h wA:=PySem.W.mg_of X G a9;h wB:=k9;h g8:=BL (st:=HX) l10 c10 k10;h qW:=g8.binds (ps:=["heads","head"]) (bn2 fun _ _ _ _ _ _ _ _=>rfl);h qX:=PySem.W.mg_of X G a10;h qY:=k10;h iu:=BL (st:=Fx) l11 c11 k11;h qZ:=iu.binds (ps:=["state","point"]) (bn2 fun _ _ _ _ _ _ _ _=>rfl);h rm:=PySem.W.mg_of X G a11;h rA:=k11;h iw:=BL (st:=Hg) l12 c12 k12;h rB:=iw.binds (ps:=["heads","one","other"]) (bn3 fun _ _ _ _ _ _ _ _ _=>rfl);h rC:=PySem.W.mg_of X G a12;h rD:=k12;h iC:=BL (st:=K42s.Fz) l13 c13 k13;h iD:=iC.binds (ps:=["n","rows","top"]) (bn3 fun _ _ _ _ _ _ _ _ _=>rfl);h iG:=PySem.W.mg_of X G a13;h iH:=k13;h iI:=BL (st:=K42s.Hf) l14 c14 k14;h rE:=iI.binds (ps:=["rows","top"]) (bn2 fun _ _ _ _ _ _ _ _=>rfl);h rF:=PySem.W.mg_of X G a14;h rG:=k14;h uV:=BL (st:=K42s.sIn) l15 c15 k15;h abN:=uV.binds (ps:=["places","row"]) (bn2 fun _ _ _ _ _ _ _ _=>rfl);h abO:=PySem.W.mg_of X G a15;h k_in:=k15;h kY:=BL (st:=K42s.Ld) l16 c16 k16;h uX:=kY.binds (ps:=["sieve"]) (bn1 fun _ _ _ _ _ _ _=>rfl);h uY:=PySem.W.mg_of X G a16;h uZ:=k16;h pU:=BL (st:=K42s.Xv) l17 c17 k17;h wC:=pU.binds (ps:=["sieve","some"]) (bn2 fun _ _ _ _ _ _ _ _=>rfl);h wD:=PySem.W.mg_of X G a17;h wF:=k17;h gF:=BL (st:=K42s.DR) l18 c18 k18;h gG:=gF.binds (ps:=["rows","sets"]) (bn2 fun _ _ _ _ _ _ _ _=>rfl);h gH:=PySem.W.mg_of X G a18;h gJ:=k18;h lg:=BL (st:=K42s.Od) l19 c19 k19;h u5:=lg.binds (ps:=["n"]) (bn1 fun _ _ _ _ _ _ _=>rfl);h u6:=PySem.W.mg_of X G a19;h u9:=k19;h iJ:=BL (st:=K42s.Ef) l20 c20 k20;h rH:=iJ.binds (ps:=["n","some"]) (bn2 fun _ _ _ _ _ _ _ _=>rfl);h rJ:=PySem.W.mg_of X G a20;h rK:=k20;h iK:=BL (st:=K42s.HS) l21 c21 k21;h rM:=iK.binds (ps:=["n","sets"]) (bn2 fun _ _ _ _ _ _ _ _=>rfl);h rN:=PySem.W.mg_of X G a21;h rO:=k21;h iM:=BL (st:=JM) l22 c22 k22;h rP:=iM.binds (ps:=["web","rule"]) (bn2 fun _ _ _ _ _ _ _ _=>rfl);h rQ:=PySem.W.mg_of X G a22;h rR:=k22;h lu:=BL (st:=FT) l23 c23 k23;h vd:=lu.binds (ps:=["web","number"]) (bn2 fun _ _ _ _ _ _ _ _=>rfl);h vf:=PySem.W.mg_of X G a23;h vg:=k23;h iQ:=BL (st:=JH) l24 c24 k24;h rT:=iQ.binds (ps:=["_law_cell"]) (bn1 fun _ _ _ _ _ _ _=>rfl);h rW:=PySem.W.mg_of X G a24;h rY:=k24;h iR:=BL (st:=Iw) l25 c25 k25;h rZ:=iR.binds (ps:=["_law_script","_law_at","_law_many"]) (bn3 fun _ _ _ _ _ _ _ _ _=>rfl);h sE:=PySem.W.mg_of X G a25;h sG:=k25;h pW:=BL (st:=UG) l26 c26 k26;h wG:=pW.binds (ps:=["_law_cell","_law_n"]) (bn2 fun _ _ _ _ _ _ _ _=>rfl);h wH:=PySem.W.mg_of X G a26;h wI:=k26;h pX:=BL (st:=Fi) l27 c27 k27;h pY:=pX.binds (ps:=["_law_many","_law_ties_here","_law_some"]) (bn3 fun _ _ _ _ _ _ _ _ _=>rfl);h pZ:=PySem.W.mg_of X G a27;h p7:=k27;h lA:=BL (st:=Fb) l28 c28 k28;h vh:=lA.binds (ps:=["_law_cell","_law_many","_law_ties_here"]) (bn3 fun _ _ _ _ _ _ _ _ _=>rfl);h vo:=PySem.W.mg_of X G a28;h vp:=k28;h lC:=BL (st:=Gj) l29 c29 k29;h vq:=lC.binds (ps:=["_law_many","_law_ties_here","_law_some"]) (bn3 fun _ _ _ _ _ _ _ _ _=>rfl);h vA:=PySem.W.mg_of X G a29;h vB:=k29;h iT:=BL (st:=Es) l30 c30 k30;h sI:=iT.binds (ps:=["_law_sieve","_law_n"]) (bn2 fun _ _ _ _ _ _ _ _=>rfl);h sJ:=PySem.W.mg_of X G a30;h sO:=k30;h p8:=BL (st:=JR) l31 c31 k31;h adv:=p8.binds (ps:=["_law_script"]) (bn1 fun _ _ _ _ _ _ _=>rfl);h adw:=PySem.W.mg_of X G a31;h adx:=k31;h law_all:∀ base:Heap,FnOk l.prog w K mg base CX0 19 _ _ ["_law_script"] (Rb K):=fun base=>by
  h T:Txt K mg C:=⟨⟨pg,hd,po,sa⟩,n0,n1,PySem.W.mg_of X G aC,⟨_,PySem.W.mg_of X G v0⟩,⟨_,PySem.W.mg_of X G v1⟩,PySem.W.mg_none_of X G z0,PySem.W.mg_none_of X G z1,PySem.W.mg_none_of X G z2,PySem.W.mg_none_of X G z3,PySem.W.mg_none_of X G z4,PySem.W.mg_none_of X G z5,PySem.W.mg_none_of X G z6,PySem.W.mg_none_of X G z7,PySem.W.mg_none_of X G z8,PySem.W.mg_none_of X G z9,PySem.W.mg_none_of X G z10⟩;h qd:=ADh (P:=l.prog) (w:=w) (base:=base) kj T;h abP:=AFN (P:=l.prog) (w:=w) (mg:=mg) (base:=base) pR;h abQ:=Tv (P:=l.prog) (w:=w) (base:=base) pO T;h abR:=AEn (P:=l.prog) (w:=w) (mg:=mg) (base:=base) pQ;h abS:=AEt pP T abR wj wu wk;h wJ:=Ij j8 T abQ vY v7 vZ abS v8 wg v9;h jJ:=ACU (P:=l.prog) (w:=w) (base:=base) j9 T;h jK:=ADk (P:=l.prog) (w:=w) (base:=base) kh T;h adp:=AFl (P:=l.prog) (w:=w) (base:=base) uU T;h iU:=BL (st:=Im) cO cP aN;h sU:=iU.binds (ps:=["self","web"]) (bn2 fun _ _ _ _ _ _ _ _=>rfl);h sV:Meth K D "begun" ao:=⟨cM,cN,aN⟩;h iV:=BL (st:=Ip) cT cU aO;h sW:=iV.binds (ps:=["self","web","state","number"]) (bn4 fun _ _ _ _ _ _ _ _ _ _=>rfl);h sX:Meth K D "taken" aq:=⟨cQ,cR,aO⟩;h gK:=BL (st:=Gh) bQ bW aG;h pF:=gK.binds (ps:=["self","web","state","point"]) (bn4 fun _ _ _ _ _ _ _ _ _ _=>rfl);h pG:Meth K D "passed" aj:=⟨bF,bJ,aG⟩;h qe:=BL (st:=ZX) jG jH dX;h wK:=qe.binds (ps:=["self","web","state"]) (bn3 fun _ _ _ _ _ _ _ _ _=>rfl);h wL:Meth K D "fulfilled" cF:=⟨jE,jF,dX⟩;h lD:=BL (st:=PJ) eO eU cG;h vC:=lD.binds (ps:=["self","web","state","number"]) (bn4 fun _ _ _ _ _ _ _ _ _ _=>rfl);h vD:Meth K D "left" aJ:=⟨eF,eG,cG⟩;h iW:=BL (st:=K42s.Et) cV cW aR;h sY:=iW.binds (ps:=["self","n","rows","head"]) (bn4 fun _ _ _ _ _ _ _ _ _ _=>rfl);h abY:Meth K Sv "__init__" au:=⟨aP,aQ,aR⟩;h iY:=BL (st:=K42s.JF) cZ dh aU;h aZ:=iY.binds (ps:=["self"]) (bn1 fun _ _ _ _ _ _ _=>rfl);h bf:Meth K Sv "knots" aA:=⟨cX,cY,aU⟩;h lE:=BL (st:=K42s.YC) fJ fQ cH;h gM:=lE.binds (ps:=["self"]) (bn1 fun _ _ _ _ _ _ _=>rfl);h gO:Meth K Sv "top" aK:=⟨fj,fD,cH⟩;h iZ:=BL (st:=K42s.NP) dB dD aV;h sZ:=iZ.binds (ps:=["self"]) (bn1 fun _ _ _ _ _ _ _=>rfl);h tu:Meth K Sv "many" aB:=⟨dj,dz,aV⟩;h jc:=BL (st:=Hh) dF dG aY;h tD:=jc.binds (ps:=["self","web","rule"]) (bn3 fun _ _ _ _ _ _ _ _ _=>rfl);h abZ:Meth K Gw "__init__" aD:=⟨aW,aX,aY⟩;h gP:=BL (st:=FW) cB cC aH;h gQ:=gP.binds (ps:=["self","number","reached"]) (bn3 fun _ _ _ _ _ _ _ _ _=>rfl);h gU:Meth K Gw "knot_at" ak:=⟨cu,cA,aH⟩;h lF:=BL (st:=Ou) gn gq cI;h vG:=lF.binds (ps:=["self","number","reached"]) (bn3 fun _ _ _ _ _ _ _ _ _=>rfl);h vH:Meth K Gw "past_points" aM:=⟨gj,gk,cI⟩;h TS:K42s.Txt K mg Sv:=⟨⟨dJ,dM,dN,dR⟩,bw,dY,dZ,PySem.W.mg_of X G lR,⟨_,PySem.W.mg_of X G v2⟩,PySem.W.mg_none_of X G z0,PySem.W.mg_none_of X G z1,PySem.W.mg_none_of X G z2,PySem.W.mg_none_of X G z5,PySem.W.mg_none_of X G dU,PySem.W.mg_none_of X G z6,PySem.W.mg_none_of X G z7,PySem.W.mg_none_of X G z8,PySem.W.mg_none_of X G z9,PySem.W.mg_none_of X G jC,PySem.W.mg_none_of X G z10,PySem.W.mg_none_of X G z4,PySem.W.mg_none_of X G aF⟩;h cD:Cls K D:=⟨lH,lJ,lK,lM⟩;h O:Gro K mg Gw:=⟨⟨jr,ju,jx,jy⟩,PySem.W.mg_of X G lU,jD,d7,bx,bD,d8,cL⟩;h vI:=ABH (P:=l.prog) (w:=w) (base:=base) g8 T;h vJ:=AAq iu T vI qW qY qX;h vK:=AAu (P:=l.prog) (w:=w) (base:=base) iw T;h vL:=Zh iU T jJ gw m_size;h vM:=ABc (D:=D) iV T vK rB rD rC jK gA gC;h tG:=Yl (D:=D) gK vJ qZ rA rm;h abT:=AFX (P:=l.prog) (w:=w) (mg:=mg) (base:=base) qe;h wM:=ADX (P:=l.prog) (w:=w) (mg:=mg) (base:=base) lD;h vN:=K42s.Ij (P:=l.prog) (w:=w) (base:=base) iW TS;h cJ:=K42s.ABt (P:=l.prog) (w:=w) (base:=base) iY TS;h jL:=K42s.AEc (P:=l.prog) (w:=w) (base:=base) lE TS;h vO:=K42s.ADe (P:=l.prog) (w:=w) (base:=base) iZ TS;h adq:=K42s.AFz (P:=l.prog) (w:=w) (mg:=mg) (base:=base) uV;h vP:=K42s.Zq (P:=l.prog) (w:=w) (base:=base) iI TS;h lG:=K42s.AAy iC TS ⟨jd,aP,aQ,je⟩ vP rE rG rF adq abN k_in abO vN sY;h wN:=K42s.ACf kY TS cJ aZ bf jL gM gO;h abU:=K42s.AEQ pU TS cJ aZ bf jL gM gO;h adt:=K42s.Nz (P:=l.prog) (w:=w) (base:=base) gF TS gG gJ gH 13;h abV:=K42s.Tv (P:=l.prog) (w:=w) (base:=base) lg TS;h abW:=K42s.ABj (P:=l.prog) (w:=w) (base:=base) iJ TS;h adu:=K42s.AAP iK TS abV u5 u9 u6 abW rH rK rJ adt gG gJ gH lG iD iH iG;h wO:=ACV lu T jJ gw m_size adp abL abM;h vQ:=AAp (u:=uW) (D:=D) jc T O jK gA gC wO vd vg vf;h wQ:=ADG (C:=C) lF cD O tG pF pG;h tH:=Oh gP T cD O wQ vG vH wM vC vD vM sW sX abT wK wL gQ gU;h vR:=AAw iM cD O ⟨jA,aW,aX,jB⟩ vQ tD tH gQ gU vL sU sV lG iD iH iG;h vU:=Zm (P:=l.prog) (w:=w) (mg:=mg) (base:=base) iQ;h vV:=Zk iR T qd kE kW kJ abP wz wB wA;h abX:=AEu (P:=l.prog) (w:=w) (base:=base) pW T;h vW:=Yo (P:=l.prog) (w:=w) (base:=base) pX T;h wR:=Za lA T abX wG wI wH vW pY p7 pZ;h wU:=ZF lC T (PySem.W.mg_none_of X G dU) vW pY p7 pZ;h vX:=Vo iT T ⟨dJ,dM,dN,dR⟩ wN uX uZ uY adu rM rO rN cJ aZ bf jL gM gO;!AEX p8 T TS ⟨jf,jg,jk,jo,jq⟩ ⟨mk,a1,i1,kc⟩ lN lV lQ (PySem.W.mg_of X G uE) wJ uT vR rP rR rQ cJ aZ bf vO sZ tu qd kE kW kJ vU rT rY rW vV rZ sG sE vX sI sO sJ abU wC wF wD wR vh vp vo wU vq vB vA jJ gw m_size jK gA gC
 !⟨_,fun s v=>.of_eq rfl,fun base _ _=>law_all base⟩
theorem walk{l:PySem.W.OpenLaw}{q:Program}{loose:List Str}{XP:(Str->Option Value)->Heap->Prop}{YP:World->Heap->Prop}{d:DefRec}{K:Params->¨}(hn:l.most=some 63)(hdf:d.params.defaults=[])
  (hY:∀(w:World) (h:Heap),YP w h->(K w.params).In h)
  (F:∀(w:World) (mg:Str->Option Value) (fa:Addr) (h:Heap),(K w.params).In h->h.Ns mainGlobals mg->mg d.name=some (.ref fa) ->
   ∃ fd:FuncData,(∀(s:Shared) (u:Value),BindsTo s fd ⟨[u],[]⟩ [("_law_script",u)])/\∀ base:Heap,(K w.params).In base->base.Ns mainGlobals mg->FnOk l.prog w (K w.params) mg base CX0 19 fa fd ["_law_script"] (Rb (K w.params))) :
  PySem.W.WalkO q loose XP YP l.row.toRowW d [] (fun f vs=>PySem.call f vs) :=
 L2.ADb (n:=63) (k:=19) (x:="_law_script") (CX:=fun _=>CX0) (sp:=fun w=>Rb (K w.params)) hn ¤ hdf ⟨rfl,by decide,by decide,rfl⟩ hY F (fun _ _ a ns hl _ hS=>⟨a,ns,rfl,hS,hl,fun _=>rfl⟩) fun _ _ _ _ _ z=>z
end K42
open PySem PySem.W PyProof.Rows
set_option maxRecDepth 100000 in
set_option maxHeartbeats 0 in
theorem PySem.Challenge.cw_frontways_k42_whole_woods_grown_holds : PySem.Challenge.rw_frontways_k42_whole_woods_grown.Holds := by
 w_on;o_law;k_head;(case hw=>w_witness2)
 k_fill
 r K42.walk (l:=PySem.Challenge.rw_frontways_k42_whole_woods_grown) rfl rfl (fun w h Y=>PySem.W.kIn_of Y) ?F
 case F =>
  intro w mg fa h KX G hmg
  refine' K42.all_mk KX G hmg ?aC ?a1 ?i1 ?l1 ?c1 ?k1 ?a2 ?i2 ?l2 ?c2 ?k2 ?a3 ?i3 ?l3 ?c3 ?k3 ?a4 ?i4 ?l4 ?c4 ?k4 ?a5 ?l5 ?c5 ?k5 ?a6 ?l6 ?c6 ?k6 ?a7 ?l7 ?c7 ?k7 ?a8 ?l8 ?c8 ?k8 ?a9 ?l9 ?c9 ?k9 ?a10 ?l10 ?c10 ?k10 ?a11 ?l11 ?c11 ?k11 ?a12 ?l12 ?c12 ?k12 ?a13 ?l13 ?c13 ?k13 ?a14 ?l14 ?c14 ?k14 ?a15 ?l15 ?c15 ?k15 ?a16 ?l16 ?c16 ?k16 ?a17 ?l17 ?c17 ?k17 ?a18 ?l18 ?c18 ?k18 ?a19 ?l19 ?c19 ?k19 ?a20 ?l20 ?c20 ?k20 ?a21 ?l21 ?c21 ?k21 ?a22 ?l22 ?c22 ?k22 ?a23 ?l23 ?c23 ?k23 ?a24 ?l24 ?c24 ?k24 ?a25 ?l25 ?c25 ?k25 ?a26 ?l26 ?c26 ?k26 ?a27 ?l27 ?c27 ?k27 ?a28 ?l28 ?c28 ?k28 ?a29 ?l29 ?c29 ?k29 ?a30 ?l30 ?c30 ?k30 ?a31 ?l31 ?c31 ?k31 ?pg ?hd ?po ?sa ?mk ?kc ?n0 ?n1 ?v0 ?v1 ?v2 ?z0 ?z1 ?z2 ?z3 ?z4 ?z5 ?z6 ?z7 ?z8 ?z9 ?z10 ?uE ?lH ?lJ ?lK ?lM ?lN ?lQ ?uF ?uG ?uH ?uI ?uJ ?lR ?dJ ?dM ?dN ?dR ?jd ?je ?jf ?jg ?jk ?jo ?jq ?lU ?jr ?ju ?jx ?jy ?jA ?jB ?pH ?pI ?pJ ?pK ?pN ?lV ?jC ?dU ?aF ?bw ?dY ?dZ ?jD ?d7 ?bx ?bD ?d8 ?cL ?cM ?cN ?cO ?cP ?aN ?cQ ?cR ?cT ?cU ?aO ?bF ?bJ ?bQ ?bW ?aG ?jE ?jF ?jG ?jH ?dX ?eF ?eG ?eO ?eU ?cG ?aP ?aQ ?cV ?cW ?aR ?cX ?cY ?cZ ?dh ?aU ?fj ?fD ?fJ ?fQ ?cH ?dj ?dz ?dB ?dD ?aV ?aW ?aX ?dF ?dG ?aY ?cu ?cA ?cB ?cC ?aH ?gj ?gk ?gn ?gq ?cI
  (case aC=>k_is)
  (case a1=>k_is)
  (case i1=>k_is)
  (case l1=>k_is)
  (case c1=>k_is)
  (case k1=>k_is)
  (case a2=>k_is)
  (case i2=>k_is)
  (case l2=>k_is)
  (case c2=>k_is)
  (case k2=>k_is)
  (case a3=>k_is)
  (case i3=>k_is)
  (case l3=>k_is)
  (case c3=>k_is)
  (case k3=>k_is)
  (case a4=>k_is)
  (case i4=>k_is)
  (case l4=>k_is)
  (case c4=>k_is)
  (case k4=>k_is)
  (case a5=>k_is)
  (case l5=>k_is)
  (case c5=>k_is)
  (case k5=>k_is)
  (case a6=>k_is)
  (case l6=>k_is)
  (case c6=>k_is)
  (case k6=>k_is)
  (case a7=>k_is)
  (case l7=>k_is)
  (case c7=>k_is)
  (case k7=>k_is)
  (case a8=>k_is)
  (case l8=>k_is)
  (case c8=>k_is)
  (case k8=>k_is)
  (case a9=>k_is)
  (case l9=>k_is)
  (case c9=>k_is)
  (case k9=>k_is)
  (case a10=>k_is)
  (case l10=>k_is)
  (case c10=>k_is)
  (case k10=>k_is)
  (case a11=>k_is)
  (case l11=>k_is)
  (case c11=>k_is)
  (case k11=>k_is)
  (case a12=>k_is)
  (case l12=>k_is)
  (case c12=>k_is)
  (case k12=>k_is)
  (case a13=>k_is)
  (case l13=>k_is)
  (case c13=>k_is)
  (case k13=>k_is)
  (case a14=>k_is)
  (case l14=>k_is)
  (case c14=>k_is)
  (case k14=>k_is)
  (case a15=>k_is)
  (case l15=>k_is)
  (case c15=>k_is)
  (case k15=>k_is)
  (case a16=>k_is)
  (case l16=>k_is)
  (case c16=>k_is)
  (case k16=>k_is)
  (case a17=>k_is)
  (case l17=>k_is)
  (case c17=>k_is)
  (case k17=>k_is)
  (case a18=>k_is)
  (case l18=>k_is)
  (case c18=>k_is)
  (case k18=>k_is)
  (case a19=>k_is)
  (case l19=>k_is)
  (case c19=>k_is)
  (case k19=>k_is)
  (case a20=>k_is)
  (case l20=>k_is)
  (case c20=>k_is)
  (case k20=>k_is)
  (case a21=>k_is)
  (case l21=>k_is)
  (case c21=>k_is)
  (case k21=>k_is)
  (case a22=>k_is)
  (case l22=>k_is)
  (case c22=>k_is)
  (case k22=>k_is)
  (case a23=>k_is)
  (case l23=>k_is)
  (case c23=>k_is)
  (case k23=>k_is)
  (case a24=>k_is)
  (case l24=>k_is)
  (case c24=>k_is)
  (case k24=>k_is)
  (case a25=>k_is)
  (case l25=>k_is)
  (case c25=>k_is)
  (case k25=>k_is)
  (case a26=>k_is)
  (case l26=>k_is)
  (case c26=>k_is)
  (case k26=>k_is)
  (case a27=>k_is)
  (case l27=>k_is)
  (case c27=>k_is)
  (case k27=>k_is)
  (case a28=>k_is)
  (case l28=>k_is)
  (case c28=>k_is)
  (case k28=>k_is)
  (case a29=>k_is)
  (case l29=>k_is)
  (case c29=>k_is)
  (case k29=>k_is)
  (case a30=>k_is)
  (case l30=>k_is)
  (case c30=>k_is)
  (case k30=>k_is)
  (case a31=>k_is)
  (case l31=>k_is)
  (case c31=>k_is)
  (case k31=>k_is)
  (case pg=>k_is)
  (case hd=>k_is)
  (case po=>k_is)
  (case sa=>k_is)
  (case mk=>k_is)
  (case kc=>k_is)
  (case n0=>k_is)
  (case n1=>k_is)
  (case v0=>k_is)
  (case v1=>k_is)
  (case v2=>k_is)
  (case z0=>k_is)
  (case z1=>k_is)
  (case z2=>k_is)
  (case z3=>k_is)
  (case z4=>k_is)
  (case z5=>k_is)
  (case z6=>k_is)
  (case z7=>k_is)
  (case z8=>k_is)
  (case z9=>k_is)
  (case z10=>k_is)
  (case uE=>k_is)
  (case lH=>k_is)
  (case lJ=>k_is)
  (case lK=>k_is)
  (case lM=>k_is)
  (case lN=>k_is)
  (case lQ=>k_is)
  (case uF=>k_is)
  (case uG=>k_is)
  (case uH=>k_is)
  (case uI=>k_is)
  (case uJ=>kit_is)
  (case lR=>k_is)
  (case dJ=>k_is)
  (case dM=>k_is)
  (case dN=>k_is)
  (case dR=>k_is)
  (case jd=>k_is)
  (case je=>k_is)
  (case jf=>k_is)
  (case jg=>k_is)
  (case jk=>k_is)
  (case jo=>k_is)
  (case jq=>kit_is)
  (case lU=>k_is)
  (case jr=>k_is)
  (case ju=>k_is)
  (case jx=>k_is)
  (case jy=>k_is)
  (case jA=>k_is)
  (case jB=>k_is)
  (case pH=>k_is)
  (case pI=>k_is)
  (case pJ=>k_is)
  (case pK=>k_is)
  (case pN=>kit_is)
  (case lV=>k_is)
  (case jC=>k_is)
  (case dU=>k_is)
  (case aF=>k_is)
  (case bw=>k_is)
  (case dY=>k_is)
  (case dZ=>k_is)
  (case jD=>k_is)
  (case d7=>k_is)
  (case bx=>k_is)
  (case bD=>k_is)
  (case d8=>k_is)
  (case cL=>k_is)
  (case cM=>k_is)
  (case cN=>k_is)
  (case cO=>k_is)
  (case cP=>k_is)
  (case aN=>k_is)
  (case cQ=>k_is)
  (case cR=>k_is)
  (case cT=>k_is)
  (case cU=>k_is)
  (case aO=>k_is)
  (case bF=>k_is)
  (case bJ=>k_is)
  (case bQ=>k_is)
  (case bW=>k_is)
  (case aG=>k_is)
  (case jE=>k_is)
  (case jF=>k_is)
  (case jG=>k_is)
  (case jH=>k_is)
  (case dX=>k_is)
  (case eF=>k_is)
  (case eG=>k_is)
  (case eO=>k_is)
  (case eU=>k_is)
  (case cG=>k_is)
  (case aP=>k_is)
  (case aQ=>k_is)
  (case cV=>k_is)
  (case cW=>k_is)
  (case aR=>k_is)
  (case cX=>k_is)
  (case cY=>k_is)
  (case cZ=>k_is)
  (case dh=>k_is)
  (case aU=>k_is)
  (case fj=>k_is)
  (case fD=>k_is)
  (case fJ=>k_is)
  (case fQ=>k_is)
  (case cH=>k_is)
  (case dj=>k_is)
  (case dz=>k_is)
  (case dB=>k_is)
  (case dD=>k_is)
  (case aV=>k_is)
  (case aW=>k_is)
  (case aX=>k_is)
  (case dF=>k_is)
  (case dG=>k_is)
  (case aY=>k_is)
  (case cu=>k_is)
  (case cA=>k_is)
  (case cB=>k_is)
  (case cC=>k_is)
  (case aH=>k_is)
  (case gj=>k_is)
  (case gk=>k_is)
  (case gn=>k_is)
  (case gq=>k_is)
  (case cI=>k_is)
